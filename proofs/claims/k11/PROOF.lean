import PyProof.Rows.All
import Wide.All
import OpenK.AllK
import Wide.FinOn
import Lean
import PyProof.EqAt
import PyProof.EqKinds
import PyProof.TupleCall
import PyProof.NeKinds
import PyProof.ListStr
import PyProof.Rows.SortStr
import KE.KIntText
import PySem.Challenge.RW_trickproof_k11_who_wins_a_trick
set_option Elab.async false
set_option linter.all false
set_option maxRecDepth 100000
/-! THE HAND LAYER, for ints, bools, texts, own classes, LISTS and tuples (index, slices, in, append, pop ..), calls, loops. Paste it whole ahead of your own text; what your proof does not reach may be deleted. -/
namespace L2
open PySem PySem.Spec PyProof.Rows

/-- a key: an int or a str -/
abbrev Key := Sum Int Str
def keyIs : Key → Value → Bool
  | .inl k, v => Value.isInt k v
  | .inr x, v => Value.isStrOf x v
def keyH (w : World) : Key → Int
  | .inl k => hashInt k
  | .inr x => hashStr w x
theorem keyIs_shape : ∀ {k : Key} {v : Value}, keyIs k v = true → (∃ i t, k = Sum.inl i ∧ v = Value.int i t) ∨ (∃ x t, k = Sum.inr x ∧ v = Value.str x t)
  | .inl i, v, h => by
    obtain ⟨t, e⟩ := Value.isInt_shape (k := i) (v := v) h
    exact .inl ⟨i, t, rfl, e⟩
  | .inr x, v, h => by
    obtain ⟨t, e⟩ := Value.isStrOf_shape (x := x) (v := v) h
    exact .inr ⟨x, t, rfl, e⟩
theorem keyIs_int (i : Int) (t : Tok) : keyIs (.inl i) (.int i t) = true := by simp [keyIs, Value.isInt]
theorem keyIs_str (x : Str) (t : Tok) : keyIs (.inr x) (.str x t) = true := by simp [keyIs, Value.isStrOf]
theorem key_ll (a b : Int) : decide ((Sum.inl a : Key) = Sum.inl b) = (a == b) := by
  by_cases e : a = b
  · subst e; simp
  · have h : ¬ (Sum.inl a : Key) = Sum.inl b := fun q => e (Sum.inl.inj q)
    rw [decide_eq_false h]
    exact (beq_eq_false_iff_ne.mpr e).symm
theorem key_rr (a b : Str) : decide ((Sum.inr a : Key) = Sum.inr b) = decide (a = b) := by
  by_cases e : a = b
  · subst e; simp
  · have h : ¬ (Sum.inr a : Key) = Sum.inr b := fun q => e (Sum.inr.inj q)
    rw [decide_eq_false h, decide_eq_false e]
theorem key_lr (a : Int) (b : Str) : decide ((Sum.inl a : Key) = Sum.inr b) = false := decide_eq_false (fun q => nomatch q)
theorem key_rl (a : Str) (b : Int) : decide ((Sum.inr a : Key) = Sum.inl b) = false := decide_eq_false (fun q => nomatch q)

def mixKind (prog : Program) (w : World) : PySem.KeyKind prog w Key where
  is := keyIs
  hash := keyH w
  inj := fun v a b ha hb => by
    rcases keyIs_shape ha with ⟨i, t, rfl, rfl⟩ | ⟨x, t, rfl, rfl⟩
    · rcases keyIs_shape hb with ⟨j, u, rfl, e⟩ | ⟨y, u, rfl, e⟩
      · injection e with e1 _; rw [e1]
      · exact nomatch e
    · rcases keyIs_shape hb with ⟨j, u, rfl, e⟩ | ⟨y, u, rfl, e⟩
      · exact nomatch e
      · injection e with e1 _; rw [e1]
  byValue := fun k v h => by
    rcases keyIs_shape h with ⟨i, t, rfl, rfl⟩ | ⟨x, t, rfl, rfl⟩ <;> rfl
  pyHash := fun hv h => by
    rcases keyIs_shape hv with ⟨i, t, rfl, rfl⟩ | ⟨x, t, rfl, rfl⟩
    · exact wpAny_pyHash_int h
    · exact wpAny_pyHash_str h
  eqBool := fun hu hv h => by
    rcases keyIs_shape hu with ⟨i, t, rfl, rfl⟩ | ⟨x, t, rfl, rfl⟩
    · rcases keyIs_shape hv with ⟨j, u, rfl, rfl⟩ | ⟨y, u, rfl, rfl⟩
      · rw [key_ll] at h; exact wpAny_eqBool_int h
      · rw [key_lr] at h; exact SeqAt.EqAt.int_str i t y u _ _ _ _ h
    · rcases keyIs_shape hv with ⟨j, u, rfl, rfl⟩ | ⟨y, u, rfl, rfl⟩
      · rw [key_rl] at h; exact SeqAt.EqAt.str_int x t j u _ _ _ _ h
      · rw [key_rr] at h; exact wpAny_eqBool_str h
  «strs» := fun k x t v h => by
    rcases keyIs_shape h with ⟨i, u, rfl, e⟩ | ⟨y, u, rfl, e⟩
    · exact nomatch e
    · injection e with e1 _
      subst e1
      cases v <;> rfl

theorem mixKind_is (prog : Program) (w : World) (k : Key) (v : Value) : (mixKind prog w).is k v = keyIs k v := rfl
theorem mixKind_int (prog : Program) (w : World) (i : Int) (t : Tok) : (mixKind prog w).is (.inl i) (.int i t) = true := keyIs_int i t
theorem mixKind_str (prog : Program) (w : World) (x : Str) (t : Tok) : (mixKind prog w).is (.inr x) (.str x t) = true := keyIs_str x t
end L2

namespace L2
open PySem PySem.Spec PyProof.Rows

/-- a value, without the heap -/
inductive V where
  | non | bl (b : Bool) | int (i : Int) | str (x : Str) | byt (b : Array UInt8) | flt (b : UInt64) | ref (a : Addr) | ty (n : String)
  deriving DecidableEq

def RelV : V → Value → Prop
  | .non, u => u = Value.none
  | .bl b, u => u = Value.bool b
  | .int i, u => ∃ t, u = Value.int i t
  | .str x, u => ∃ t, u = Value.str x t
  | .byt b, u => ∃ t, u = Value.bytes b t
  | .flt b, u => ∃ t, u = Value.float b t
  | .ref a, u => u = Value.ref a
  | .ty n, u => u = Value.type n

abbrev Vals : List V → List Value → Prop := Paired RelV
theorem Vals.length {xs : List V} {us : List Value} (r : Vals xs us) : xs.length = us.length := Paired.length r
theorem Vals.get : ∀ {xs : List V} {us : List Value} {i : Nat} {x : V}, Vals xs us → xs[i]? = some x → ∃ u, us[i]? = some u ∧ RelV x u
  | _, _, _, _, .nil, e => by simp at e
  | _, _, 0, _, .cons r _, e => by simp at e; subst e; exact ⟨_, rfl, r⟩
  | _, _, i + 1, x, .cons _ t, e => by
    obtain ⟨u, h1, h2⟩ := Vals.get (i := i) (x := x) t (by simpa using e)
    exact ⟨u, by simpa using h1, h2⟩
theorem Vals.set {x : V} {u : Value} (r : RelV x u) : ∀ {xs : List V} {us : List Value} (i : Nat), Vals xs us → Vals (xs.set i x) (us.set i u)
  | _, _, _, .nil => .nil
  | _, _, 0, .cons _ t => .cons r t
  | _, _, i + 1, .cons q t => .cons q (Vals.set r i t)
theorem Vals.append : ∀ {xs ys : List V} {us ws : List Value}, Vals xs us → Vals ys ws → Vals (xs ++ ys) (us ++ ws)
  | _, _, _, _, .nil, s => s
  | _, _, _, _, .cons r t, s => .cons r (Vals.append t s)
theorem Vals.take : ∀ {xs : List V} {us : List Value} (n : Nat), Vals xs us → Vals (xs.take n) (us.take n)
  | _, _, 0, _ => .nil
  | _, _, _ + 1, .nil => .nil
  | _, _, n + 1, .cons r t => .cons r (Vals.take n t)
theorem Vals.drop : ∀ {xs : List V} {us : List Value} (n : Nat), Vals xs us → Vals (xs.drop n) (us.drop n)
  | _, _, 0, r => r
  | _, _, _ + 1, .nil => .nil
  | _, _, n + 1, .cons _ t => Vals.drop n t
theorem Vals.none_of : ∀ {xs : List V} {us : List Value} {i : Nat}, Vals xs us → xs[i]? = none → us[i]? = none := fun {xs us i} r e => by
  have h1 := r.length
  have h2 : xs.length ≤ i := List.getElem?_eq_none_iff.mp e
  exact List.getElem?_eq_none_iff.mpr (by omega)

def RelO : Option V → Option Value → Prop
  | some v, some u => RelV v u
  | none, none => True
  | _, _ => False
def KV {κ : Type} : List (κ × V) → List (κ × Value) → Prop := Paired fun (p : κ × V) (q : κ × Value) => p.1 = q.1 ∧ RelV p.2 q.2

/-- a key of a dict (00_mix): an int or a text -/
def kV : Key → V
  | .inl i => .int i
  | .inr x => .str x

/-- what stands at a tracked address -/
inductive HO where
  /-- a list -/
  | lst (xs : List V)
  /-- a tuple (never changes) -/
  | tup (xs : List V)
  /-- a dict whose keys are ints and texts; one whose keys are tuples of ints and texts (the empty one is both) -/
  | dK (kvs : List (Key × V)) | dT (kvs : List (List Key × V))
  /-- a set of ints: its members, its size -/
  | set (S : Int → Bool) (n : Nat)
  /-- an instance of the class at C, its dict at dx, its attributes -/
  | ins (C dx : Addr) (fs : List (Str × V))
  /-- the dict of the instance at x -/
  | own (x : Addr)
  /-- the dict of an exception -/
  | xd (fs : List (Str × V))
  /-- a bound method, f of x -/
  | met (f x : Addr)
  /-- a range object lo, lo + 1, .. below hi -/
  | rng (lo hi : Int)
  /-- a thing that is known to the object (the script; a dict while a loop walks it): read, never written while it is so -/
  | frz (o : Obj) (u : HO)
  /-- a code object's table -/
  | tbl (ps : Array Value)
  /-- any other thing, by what is true of its one object (a def of one's own: SetO a S n := HO.ext fun h => ..) -/
  | ext (φ : Heap → Prop)

abbrev Hp := Addr → Option HO
def upd (H : Hp) (a : Addr) (o : HO) : Hp := fun b => if b = a then some o else H b
theorem upd_same {H : Hp} {a : Addr} {o : HO} : upd H a o a = some o := by unfold upd; rw [if_pos rfl]
theorem upd_ne {H : Hp} {a b : Addr} {o : HO} (h : b ≠ a) : upd H a o b = H b := by unfold upd; rw [if_neg h]
theorem upd_upd {H : Hp} {a : Addr} {o u : HO} : upd (upd H a o) a u = upd H a u := by
  funext b; unfold upd; split <;> rfl
/-- two objects of different content stand apart -/
theorem ne_of {H : Hp} {a b : Addr} {o u : HO} (h : H a = some o) (h' : H b = some u) (d : o ≠ u) : a ≠ b := by
  intro e; subst e; rw [h] at h'; exact d (Option.some.inj h')
theorem ne_of_none {H : Hp} {a b : Addr} {o : HO} (h : H a = some o) (h' : H b = none) : a ≠ b := by
  intro e; subst e; rw [h] at h'; cases h'

section
variable (P : Program) (w : World)
def ObjOk (H : Hp) (h : Heap) (a : Addr) : HO → Prop
  | .lst xs => xs.length ≤ sizeLine ∧ ∃ (its : List Value) (n : Nat), Vals xs its ∧ h.get? a = some { cls := .type "list", data := .seq its.toArray n }
  | .tup xs => xs.length ≤ sizeLine ∧ ∃ its : List Value, Vals xs its ∧ IsTup h a its.toArray
  | .dK kvs => kvs.length ≤ sizeLine ∧ (a == sysModules) = false ∧ ∃ vs, KV kvs vs ∧ h.DictOf (mixKind P w) a vs
  | .dT kvs => kvs.length ≤ sizeLine ∧ (a == sysModules) = false ∧ ∃ xs : List (List Key × Addr × Value),
      Paired (fun (p : List Key × V) (q : List Key × Addr × Value) => p.1 = q.1 ∧ H q.2.1 = some (.tup (p.1.map kV)) ∧ RelV p.2 q.2.2) kvs xs ∧
      ∃ o es ep, h.get? a = some o ∧ o.ExactDict ∧ o.data = .dict es ep ∧ es.toList = xs.map (entryOfKey (tupleKind (mixKind P w))) ∧ (xs.map (·.1)).Nodup
  | .set S n => h.SetOf (intKind P w) a S n
  | .ins C dx fs => H dx = some (.own a) ∧ fs.length ≤ 1000 ∧ dx ≠ a ∧ h.get? a = some (PySem.W.instObj C dx) ∧
      ∃ mA, h.Ns1 dx mA ∧ (∀ f, RelO (fs.lookup f) (mA f)) ∧ PySem.Within mA (fs.map (·.1))
  | .own _ => ∃ o, h.get? a = some o
  | .xd fs => ∃ mA, h.Ns1 a mA ∧ ∀ f, RelO (fs.lookup f) (mA f)
  | .rng lo hi => ∃ t u v, h.get? a = some { cls := .type "range", data := .fields #[.int lo t, .int hi u, .int 1 v] }
  | .frz o u => h.get? a = some o ∧ ObjOk H h a u
  | .tbl ps => h.get? a = some { cls := .none, data := .fields ps }
  | .met f x => h.get? a = some (PySem.W.methodObj (.ref f) (.ref x))
  | .ext φ => φ h ∧ (∃ o, h.get? a = some o) ∧ ∀ h1 h2 : Heap, φ h1 → (∀ o, h1.get? a = some o → h2.get? a = some o) → φ h2
/-- the abstract heap is held -/
def HOk (H : Hp) (h : Heap) : Prop := ∀ a o, H a = some o → ObjOk P w H h a o
end

section
variable {P : Program} {w : World} {H H' : Hp} {h h' : Heap} {a : Addr} {o : HO}
theorem ObjOk.lt (x : ObjOk P w H h a o) : a < h.objs.size := by
  cases o with
  | lst xs => obtain ⟨_, _, _, _, e⟩ := x; exact Heap.lt_size e
  | tup xs => obtain ⟨_, _, _, p⟩ := x; exact p.lt
  | dK kvs => obtain ⟨_, _, _, _, o, _, _, e, _⟩ := x; exact Heap.lt_size e
  | dT kvs => obtain ⟨_, _, _, _, o, _, _, e, _⟩ := x; exact Heap.lt_size e
  | set S n => obtain ⟨o, _, _, _, e, _⟩ := x; exact Heap.lt_size e
  | ins C dx fs => obtain ⟨_, _, _, e, _⟩ := x; exact Heap.lt_size e
  | own y => obtain ⟨_, e⟩ := x; exact Heap.lt_size e
  | xd fs => obtain ⟨_, ⟨_, _, _, e, _⟩, _⟩ := x; exact Heap.lt_size e
  | rng lo hi => obtain ⟨_, _, _, e⟩ := x; exact Heap.lt_size e
  | frz ob u => obtain ⟨e, _⟩ := x; exact Heap.lt_size e
  | tbl ps => exact Heap.lt_size (show h.get? a = some _ from x)
  | met f y => exact Heap.lt_size (show h.get? a = some _ from x)
  | ext φ => obtain ⟨_, ⟨_, e⟩, _⟩ := x; exact Heap.lt_size e
theorem Paired.mapP {α β : Type} {F G : α → β → Prop} : ∀ {l₁ : List α} {l₂ : List β}, Paired F l₁ l₂ → (∀ a b, F a b → G a b) → Paired G l₁ l₂
  | _, _, .nil, _ => .nil
  | _, _, .cons r t, f => .cons (f _ _ r) (Paired.mapP t f)
theorem Paired.imp' {α β : Type} {F G : α → β → Prop} (f : ∀ a b, F a b → G a b) {l₁ : List α} {l₂ : List β} (r : Paired F l₁ l₂) : Paired G l₁ l₂ := Paired.mapP r f
/-- what an object's description leans on: its own object, its own dict, the tuples -/
theorem ObjOk.stay (x : ObjOk P w H h a o) (k : ∀ b u, (b = a ∨ H b = some (.own a)) → h.get? b = some u → h'.get? b = some u)
    (ho : ∀ b, H b = some (.own a) → H' b = some (.own a)) (ht : ∀ b xs, H b = some (.tup xs) → H' b = some (.tup xs)) : ObjOk P w H' h' a o := by
  induction o with
  | lst xs => obtain ⟨z, its, n, r, e⟩ := x; exact ⟨z, its, n, r, k _ _ (.inl rfl) e⟩
  | tup xs => obtain ⟨z, its, r, ob, e, c⟩ := x; exact ⟨z, its, r, ob, k _ _ (.inl rfl) e, c⟩
  | dK kvs => obtain ⟨z, y, vs, r, ob, es, ep, e, c⟩ := x; exact ⟨z, y, vs, r, ob, es, ep, k _ _ (.inl rfl) e, c⟩
  | dT kvs =>
    obtain ⟨z, y, xs, r, ob, es, ep, e, c⟩ := x
    exact ⟨z, y, xs, Paired.mapP r fun p q z => ⟨z.1, ht _ _ z.2.1, z.2.2⟩, ob, es, ep, k _ _ (.inl rfl) e, c⟩
  | set S n => obtain ⟨ob, es, ep, t, e, c⟩ := x; exact ⟨ob, es, ep, t, k _ _ (.inl rfl) e, c⟩
  | ins C dx fs =>
    obtain ⟨d, z, ne, e, mA, ⟨od, es, ep, e2, c⟩, r⟩ := x
    exact ⟨ho _ d, z, ne, k _ _ (.inl rfl) e, mA, ⟨od, es, ep, k _ _ (.inr d) e2, c⟩, r⟩
  | own y => obtain ⟨ob, e⟩ := x; exact ⟨ob, k _ _ (.inl rfl) e⟩
  | xd fs => obtain ⟨mA, ⟨od, es, ep, e, c⟩, r⟩ := x; exact ⟨mA, ⟨od, es, ep, k _ _ (.inl rfl) e, c⟩, r⟩
  | rng lo hi => obtain ⟨t, u, v, e⟩ := x; exact ⟨t, u, v, k _ _ (.inl rfl) e⟩
  | frz ob u ih => obtain ⟨e, q⟩ := x; exact ⟨k _ _ (.inl rfl) e, ih q⟩
  | tbl ps =>
    have e : h.get? a = some { cls := .none, data := .fields ps } := x
    show h'.get? a = some { cls := .none, data := .fields ps }
    exact k a _ (.inl rfl) e
  | met f y =>
    have e : h.get? a = some (PySem.W.methodObj (.ref f) (.ref y)) := x
    show h'.get? a = some (PySem.W.methodObj (.ref f) (.ref y))
    exact k a _ (.inl rfl) e
  | ext φ => obtain ⟨p, ⟨o, e⟩, st⟩ := x; exact ⟨st _ _ p fun o q => k _ _ (.inl rfl) q, ⟨o, k _ _ (.inl rfl) e⟩, st⟩
theorem HOk.lt (x : HOk P w H h) (e : H a = some o) : a < h.objs.size := (x a o e).lt
theorem HOk.fresh (x : HOk P w H h) (e : h.objs.size ≤ a) : H a = none := by
  cases q : H a with
  | none => rfl
  | some u => exact absurd (Nat.lt_of_lt_of_le (x.lt q) e) (Nat.lt_irrefl _)
/-- every object of the heap is kept -/
theorem HOk.kept (x : HOk P w H h) (k : ∀ b u, h.get? b = some u → h'.get? b = some u) : HOk P w H h' := fun a o e =>
  (x a o e).stay (fun b u _ q => k b u q) (fun _ q => q) fun _ _ q => q
/-- a new object is laid and tracked -/
theorem HOk.laid (x : HOk P w H h) (k : ∀ b u, h.get? b = some u → h'.get? b = some u) (hp : h.objs.size ≤ a) (new : ObjOk P w (upd H a o) h' a o) : HOk P w (upd H a o) h' := fun b u e => by
  have hn := x.fresh hp
  by_cases hb : b = a
  · subst hb; rw [upd_same] at e; cases e; exact new
  · rw [upd_ne hb] at e
    exact (x b u e).stay (fun c v _ q => k c v q) (fun c q => by rw [upd_ne (ne_of_none q hn)]; exact q) fun c xs q => by rw [upd_ne (ne_of_none q hn)]; exact q
end

/-- what may be read as u: it is u, or a known u -/
def Rd (H : Hp) (a : Addr) (u : HO) : Prop := H a = some u ∨ ∃ o, H a = some (.frz o u)
theorem Rd.of {H : Hp} {a : Addr} {u : HO} (h : H a = some u) : Rd H a u := .inl h
theorem Rd.ok {P : Program} {w : World} {H : Hp} {h : Heap} {a : Addr} {u : HO} (r : Rd H a u) (x : HOk P w H h) : ObjOk P w H h a u := by
  rcases r with r | ⟨o, r⟩
  · exact x a u r
  · obtain ⟨_, q⟩ := x a _ r
    exact q
/-- what may be written -/
def Mut : Option HO → Prop
  | some (.lst _) => True
  | some (.dK _) => True
  | some (.dT _) => True
  | some (.set _ _) => True
  | some (.ins _ _ _) => True
  | some (.ext _) => True
  | _ => False
section
variable {P : Program} {w : World} {H : Hp} {h h' : Heap} {x e : Addr} {o' : HO}
/-- the object at e is changed: x itself, or the dict of the instance x -/
theorem HOk.write (ok : HOk P w H h) (mu : Mut (H x)) (he : e = x ∨ H e = some (.own x)) (k : ∀ b u, b ≠ e → h.get? b = some u → h'.get? b = some u) (heo : ∃ u, h'.get? e = some u)
    (new : ObjOk P w (upd H x o') h' x o') : HOk P w (upd H x o') h' := fun b u q => by
  have nown : ∀ c y, H c = some (.own y) → c ≠ x := fun c y r z => by subst z; rw [r] at mu; exact mu
  have ntup : ∀ c xs, H c = some (.tup xs) → c ≠ x := fun c xs r z => by subst z; rw [r] at mu; exact mu
  by_cases hb : b = x
  · subst hb; rw [upd_same] at q; cases q; exact new
  · rw [upd_ne hb] at q
    by_cases hbe : b = e
    · have q' : H b = some (.own x) := by
        rcases he with z | z
        · exact absurd (hbe.trans z) hb
        · rw [hbe]; exact z
      rw [q] at q'; cases q'
      obtain ⟨v, hv⟩ := heo
      exact ⟨v, by rw [hbe]; exact hv⟩
    · refine (ok b u q).stay (fun c v hc r => k c v ?_ r) (fun c r => by rw [upd_ne (nown c b r)]; exact r) fun c xs r => by rw [upd_ne (ntup c xs r)]; exact r
      rcases hc with rfl | hc
      · exact hbe
      · rintro rfl
        rcases he with z | z
        · exact nown c b hc z
        · rw [hc] at z; cases z; exact hb rfl
end

/-! ### kept unless tracked; of the frames at fs (the callers') the slots may change (an exception that passes writes there); of the records at ex (iterators) nothing is said -/
structure Un (fs ex : List Addr) (H H' : Hp) (h h' : Heap) : Prop where
  keep : ∀ b o, h.get? b = some o → H b = none → b ∉ fs → b ∉ ex → h'.get? b = some o
  slot : ∀ b o, h.get? b = some o → H b = none → b ∈ fs → b ∉ ex → ∃ sl, h'.get? b = some { o with slots := sl }
  free : ∀ b o, h.get? b = some o → H b = none → b ∉ ex → H' b = none
  there : ∀ b o, h.get? b = some o → b ∉ ex → ∃ o', h'.get? b = some o'
  tups : ∀ b xs, H b = some (.tup xs) → H' b = some (.tup xs)
  frzs : ∀ b o u, H b = some (.frz o u) → H' b = some (.frz o u)
  tbls : ∀ b ps, H b = some (.tbl ps) → ∃ more, H' b = some (.tbl (ps ++ more))
section
variable {fs fs' ex ex' : List Addr} {H H1 H2 : Hp} {h h1 h2 h' : Heap} {a x e : Addr} {o : HO}
theorem Un.any (u : Un fs ex H H1 h h1) {b : Addr} {ob : Obj} (q : h.get? b = some ob) (n : H b = none) (hx : b ∉ ex) : ∃ sl, h1.get? b = some { ob with slots := sl } := by
  by_cases hb : b ∈ fs
  · exact u.slot b ob q n hb hx
  · exact ⟨ob.slots, u.keep b ob q n hb hx⟩
theorem Un.trans (a : Un fs ex H H1 h h1) (b : Un fs ex H1 H2 h1 h2) : Un fs ex H H2 h h2 where
  keep := fun c ob q n hc hx => b.keep c ob (a.keep c ob q n hc hx) (a.free c ob q n hx) hc hx
  slot := fun c ob q n hc hx => by
    obtain ⟨sl, e1⟩ := a.slot c ob q n hc hx
    obtain ⟨sl', e2⟩ := b.slot c _ e1 (a.free c ob q n hx) hc hx
    exact ⟨sl', e2⟩
  free := fun c ob q n hx => by
    obtain ⟨o', e1⟩ := a.there c ob q hx
    exact b.free c o' e1 (a.free c ob q n hx) hx
  there := fun c ob q hx => by
    obtain ⟨o', e1⟩ := a.there c ob q hx
    exact b.there c o' e1 hx
  tups := fun c xs q => b.tups c xs (a.tups c xs q)
  frzs := fun c ob xs q => b.frzs c ob xs (a.frzs c ob xs q)
  tbls := fun c ps q => by
    obtain ⟨m1, e1⟩ := a.tbls c ps q
    obtain ⟨m2, e2⟩ := b.tbls c _ e1
    exact ⟨m1 ++ m2, by rw [e2, Array.append_assoc]⟩
theorem Un.kept (k : ∀ b u, h.get? b = some u → h'.get? b = some u) : Un fs ex H H h h' :=
  ⟨fun b ob q _ _ _ => k b ob q, fun b ob q _ _ _ => ⟨ob.slots, k b ob q⟩, fun _ _ _ n _ => n, fun b ob q _ => ⟨ob, k b ob q⟩, fun _ _ q => q, fun _ _ _ q => q, fun _ ps q => ⟨#[], by rw [q]; simp⟩⟩
theorem Un.refl : Un fs ex H H h h := Un.kept fun _ _ q => q
theorem Un.laid (k : ∀ b u, h.get? b = some u → h'.get? b = some u) (hp : h.objs.size ≤ a) (hn : H a = none) : Un fs ex H (upd H a o) h h' where
  keep := fun b u q _ _ _ => k b u q
  slot := fun b u q _ _ _ => ⟨u.slots, k b u q⟩
  free := fun b u q n _ => by rw [upd_ne (Nat.ne_of_lt (Nat.lt_of_lt_of_le (Heap.lt_size q) hp))]; exact n
  there := fun b u q _ => ⟨u, k b u q⟩
  tups := fun b xs q => by rw [upd_ne (ne_of_none q hn)]; exact q
  frzs := fun b u xs q => by rw [upd_ne (ne_of_none q hn)]; exact q
  tbls := fun b ps q => ⟨#[], by rw [upd_ne (ne_of_none q hn), q]; simp⟩
theorem Un.write (mu : Mut (H x)) (he : e = x ∨ H e = some (.own x)) (k : ∀ b u, b ≠ e → h.get? b = some u → h'.get? b = some u) (heo : ∃ u, h'.get? e = some u) : Un fs ex H (upd H x o) h h' := by
  have hx : ∀ b, H b = none → b ≠ x := fun b n z => by subst z; rw [n] at mu; exact mu
  have hb : ∀ b, H b = none → b ≠ e := fun b n z => by
    subst z
    rcases he with r | r
    · exact hx b n r
    · rw [n] at r; cases r
  have hm : ∀ b u, H b = some u → ¬ Mut (some u) → b ≠ x := fun b u q nm z => by subst z; rw [q] at mu; exact nm mu
  refine ⟨fun b u q n _ _ => k b u (hb b n) q, fun b u q n _ _ => ⟨u.slots, k b u (hb b n) q⟩, fun b u q n _ => by rw [upd_ne (hx b n)]; exact n, fun b u q _ => ?_,
    fun b xs q => by rw [upd_ne (hm b _ q fun z => z)]; exact q, fun b u xs q => by rw [upd_ne (hm b _ q fun z => z)]; exact q, fun b ps q => ⟨#[], by rw [upd_ne (hm b _ q fun z => z), q]; simp⟩⟩
  by_cases hbe : b = e
  · subst hbe; exact heo
  · exact ⟨u, k b u hbe q⟩
theorem Un.mono (u : Un fs ex H H1 h h1) (hs : ∀ b ∈ fs, b ∈ fs') (hx : ∀ b ∈ ex, b ∈ ex') : Un fs' ex' H H1 h h1 :=
  ⟨fun b ob q n hb he => u.keep b ob q n (fun z => hb (hs b z)) fun z => he (hx b z), fun _ _ q n _ he => u.any q n fun z => he (hx _ z), fun b ob q n he => u.free b ob q n fun z => he (hx b z), fun b ob q he => u.there b ob q fun z => he (hx b z), u.tups, u.frzs, u.tbls⟩
end

/-! ### the heap without what is tracked -/
def trk (h : Heap) (H : Hp) : List Addr := (List.range h.objs.size).filter fun a => (H a).isSome
def hidT (h : Heap) (H : Hp) : Heap := PySem.W.hideAll h (trk h H)
theorem hidT_size (h : Heap) (H : Hp) : (hidT h H).objs.size = h.objs.size := PySem.W.hideAll_size _ _
theorem hidT_get {h : Heap} {H : Hp} {b : Addr} {o : Obj} (e : h.get? b = some o) (n : H b = none) : (hidT h H).get? b = some o :=
  PySem.W.hideAll_get _ e fun hm => by
    have q : (H b).isSome = true := (List.mem_filter.mp hm).2
    rw [n] at q; simp at q
theorem of_hidT {h : Heap} {H : Hp} {b : Addr} {o : Obj} (e : (hidT h H).get? b = some o) : h.get? b = some o ∧ H b = none := by
  have e' : h.get? b = some o := PySem.W.of_hideAll (trk h H) e
  refine ⟨e', ?_⟩
  cases q : H b with
  | none => rfl
  | some x =>
    have hm : b ∈ trk h H := List.mem_filter.mpr ⟨List.mem_range.mpr (Heap.lt_size e'), by simp [q]⟩
    have z : (hidT h H).get? b = none := PySem.W.hideAll_none (trk h H) hm
    rw [z] at e; cases e

/-! ### OpenK's ledger, filled with every new object but one -/
def allNews (g h : Heap) (L : Addr) : List (Addr × Obj) := (List.range h.objs.size).filterMap fun a => if a = L ∨ (g.get? a).isSome = true then none else (h.get? a).map fun o => (a, o)
theorem mem_allNews {g h : Heap} {L a : Addr} {o : Obj} (h1 : a ≠ L) (h2 : g.get? a = none) (h3 : h.get? a = some o) : (a, o) ∈ allNews g h L :=
  List.mem_filterMap.mpr ⟨a, List.mem_range.mpr (Heap.lt_size h3), by simp [h1, h2, h3]⟩
theorem of_mem_allNews {g h : Heap} {L : Addr} {p : Addr × Obj} (hp : p ∈ allNews g h L) : p.1 ≠ L ∧ g.get? p.1 = none ∧ h.get? p.1 = some p.2 := by
  obtain ⟨b, _, e⟩ := List.mem_filterMap.mp hp
  split at e
  · cases e
  · rename_i hn
    cases q : h.get? b with
    | none => rw [q] at e; simp at e
    | some u =>
      rw [q] at e
      simp only [Option.map_some, Option.some.injEq] at e
      subst e
      refine ⟨fun z => hn (.inl z), ?_, q⟩
      show g.get? b = none
      cases r : g.get? b with
      | none => rfl
      | some v => exact (hn (.inr (by simp [r]))).elim
def rest (g h : Heap) (L d : Addr) : List (Addr × Obj) := (allNews g h L).filter fun p => decide (p.1 ≠ d)
theorem rest_ne {g h : Heap} {L d : Addr} : ∀ p ∈ rest g h L d, p.1 ≠ d := fun p hp => of_decide_eq_true (List.mem_filter.mp hp).2
theorem mem_rest {g h : Heap} {L d a : Addr} {o : Obj} (h1 : a ≠ L) (h2 : g.get? a = none) (h3 : h.get? a = some o) (h4 : a ≠ d) : (a, o) ∈ rest g h L d :=
  List.mem_filter.mpr ⟨mem_allNews h1 h2 h3, decide_eq_true h4⟩
theorem news_all {g h : Heap} {L : Addr} : News g L h (allNews g h L) := fun p hp => let ⟨a, b, c⟩ := of_mem_allNews hp; ⟨c, a, b⟩
theorem news_at {g h : Heap} {L d : Addr} {o : Obj} (h1 : d ≠ L) (h2 : g.get? d = none) (h3 : h.get? d = some o) : News g L h ((d, o) :: rest g h L d) := fun p hp => by
  rcases List.mem_cons.mp hp with rfl | hp
  · exact ⟨h3, h1, h2⟩
  · exact news_all p (List.mem_filter.mp hp).1
/-- behind a rule that changed d alone: all else but the frame is kept -/
theorem kept_of_news {g h h' : Heap} {L d : Addr} {m : Str → Option Value} (k : ∀ b o, g.get? b = some o → h.get? b = some o) (F : Fr g L h' m) (N : News g L h' (rest g h L d)) :
    ∀ b o, b ≠ L → b ≠ d → h.get? b = some o → h'.get? b = some o := fun b o h1 h2 e => by
  cases q : g.get? b with
  | some u =>
    have := k b u q
    rw [e] at this; cases this
    exact F.keep b _ q
  | none => exact (N (b, o) (mem_rest h1 q e h2)).1
end L2

namespace L2
open PySem PySem.Spec PyProof.Rows

/-- the module's facts, over the base: the heap at the law's entry without what is tracked there -/
structure Mod (K : PySem.W.Frag) (mg : Str → Option Value) (base : Heap) : Prop where
  kin : K.In base
  glob : base.Ns mainGlobals mg
  blt : ∃ mb, base.Ns builtinsNs mb ∧ ∀ x : Str, x ≠ "__name__" → mb x = bootBuiltins x
  nolimit : base.NoLimit

/-- the context: a def's body (or a comprehension's block) running. base: fixed through the whole law; s₀, H₀: the entry; outer: the frames whose slots others may change (a def's callers); stack: all frames that run;
   ex: iterators that were made ahead of the entry and are walked here (a comprehension's); fn: the names whose cells were made at the entry (a def: all; a comprehension's block: its own); calm: not within an except suite; pn: pins that every state bears; xe: what is wanted of an exception that leaves the code -/
structure Cx where
  prog : Program
  w : World
  K : PySem.W.Frag
  mg : Str → Option Value
  base : Heap
  A : Around
  N : List Str
  s₀ : Shared
  H₀ : Hp
  env : Env
  outer : List Env
  stack : List Env
  ex : List Addr
  fn : Str → Bool
  calm : Bool
  pn : List (Addr × Obj)
  xe : Value → Shared → Prop
/-- the callers' frames -/
def frs (l : List Env) : List Addr := l.filterMap (·.frame)
abbrev Cx.fs (X : Cx) : List Addr := frs X.outer

def Vis (sc : Scope) (x : Str) : Prop := sc.names.lookup x = some .local ∨ sc.names.lookup x = some .cell ∨ sc.names.lookup x = some .free
def Loc (sc : Scope) (x : Str) : Prop := sc.names.lookup x = some .local ∨ sc.names.lookup x = some .cell
def Look (env : Env) (h : Heap) (m : Str → Option Value) (x : Str) (u : Value) : Prop :=
  (env.kindOf x = some .local ∧ m x = some u) ∨ ((env.kindOf x = some .cell ∨ env.kindOf x = some .free) ∧ ∃ c, env.cells.lookup x = some c ∧ h.IsCell c (some u))

structure Cx.Ok (X : Cx) : Prop where
  mod : Mod X.K X.mg X.base
  kind : X.env.scope.kind = .function
  glob : X.env.globals = mainGlobals
  blt : X.env.builtins = builtinsNs
  above : X.s₀.heap.objs.size ≤ X.env.locals
  inj : ∀ x y c, X.env.cells.lookup x = some c → X.env.cells.lookup y = some c → x = y
  has : ∀ x, (X.env.kindOf x = some .cell ∨ X.env.kindOf x = some .free) → ∃ c, X.env.cells.lookup x = some c
  cab : ∀ x c, X.fn x = true → X.env.cells.lookup x = some c → X.s₀.heap.objs.size ≤ c
  hd : X.calm = true → X.A.handled = none
  frames : X.A.frames = some X.stack
  stk : X.stack = X.outer ∨ (X.stack = X.env :: X.outer ∧ X.env.frame = some X.env.locals)
  exf : ∀ b ∈ X.ex, b ≠ X.env.locals ∧ ∀ x c, X.env.cells.lookup x = some c → c ≠ b
  bs : ∀ b o, X.base.get? b = some o → X.s₀.heap.get? b = some o ∧ X.H₀ b = none
  bsz : X.base.objs.size ≤ X.s₀.heap.objs.size
  noex : ∀ b o, X.base.get? b = some o → b ∉ X.ex
  exfs : ∀ b ∈ X.ex, b ∉ X.fs
  funs : X.s₀.heap.FunFrames X.base X.outer
  frf : ∀ b ∈ X.fs, X.H₀ b = none

structure Inv (X : Cx) (pins : List (Addr × Obj)) (σ : List (Option V)) (H : Hp) (s : Shared) : Prop where
  ok : X.Ok
  os : s.os = X.s₀.os
  bare : AllBare s.gens
  base : Un X.fs X.ex X.H₀ H X.s₀.heap s.heap
  loc : ∃ m, s.heap.Ns X.env.locals m ∧ ∀ (i : Nat) (x : Str) (v : V), X.N[i]? = some x → σ[i]? = some (some v) → Vis X.env.scope x → ∃ u, RelV v u ∧ Look X.env s.heap m x u
  cell : ∀ x c, X.env.cells.lookup x = some c → ∃ v, s.heap.IsCell c v
  free : H X.env.locals = none
  freeC : ∀ x c, X.env.cells.lookup x = some c → H c = none
  pin : ∀ p ∈ X.pn ++ pins, s.heap.get? p.1 = some p.2 ∧ H p.1 = none ∧ p.1 ≠ X.env.locals ∧ p.1 ∉ X.fs ∧ ∀ v, p.2.data ≠ .cell v
  hok : HOk X.prog X.w H s.heap
  len : σ.length = X.N.length

section
variable {X : Cx} {pins : List (Addr × Obj)} {σ : List (Option V)} {H H' : Hp} {s : Shared} {h' : Heap}

theorem Cx.Ok.nofr (ok : X.Ok) {b : Addr} {o : Obj} (e : X.base.get? b = some o) : b ∉ X.fs := fun hb => by
  have := (ok.funs.mem hb).1
  rw [e] at this; cases this
theorem Inv.bs (I : Inv X pins σ H s) : ∀ b o, X.base.get? b = some o → s.heap.get? b = some o ∧ H b = none := fun b o e =>
  ⟨I.base.keep b o (I.ok.bs b o e).1 (I.ok.bs b o e).2 (I.ok.nofr e) (I.ok.noex b o e), I.base.free b o (I.ok.bs b o e).1 (I.ok.bs b o e).2 (I.ok.noex b o e)⟩
theorem Inv.bk (I : Inv X pins σ H s) : ∀ b o, X.base.get? b = some o → s.heap.get? b = some o := fun b o e => (I.bs b o e).1
theorem Inv.mod (I : Inv X pins σ H s) : Mod X.K X.mg X.base := I.ok.mod
theorem Inv.kIn (I : Inv X pins σ H s) : X.K.In s.heap := I.ok.mod.kin.keeps I.bk
theorem Inv.nolimit (I : Inv X pins σ H s) : s.heap.NoLimit := I.ok.mod.nolimit.keeps I.bk
/-- the frame over the base: for OpenK's rules (K.In X.base is I.mod.kin) -/
theorem Inv.fr (I : Inv X pins σ H s) : ∃ m, Fr X.base X.env.locals s.heap m :=
  let ⟨m, hn, _⟩ := I.loc
  ⟨m, hn, I.bk, Nat.le_trans I.ok.bsz I.ok.above⟩
theorem Inv.lt (I : Inv X pins σ H s) : X.env.locals < s.heap.objs.size := let ⟨_, hn, _⟩ := I.loc; hn.lt
theorem Inv.sz (I : Inv X pins σ H s) : X.s₀.heap.objs.size ≤ s.heap.objs.size := Nat.le_trans I.ok.above (Nat.le_of_lt I.lt)
theorem Inv.nofs (I : Inv X pins σ H s) {a : Addr} (h : s.heap.objs.size ≤ a) : a ∉ X.fs := fun hb => by
  obtain ⟨_, o, ho, _⟩ := I.ok.funs.mem hb
  exact absurd (Nat.lt_of_lt_of_le (Heap.lt_size ho) (Nat.le_trans I.sz h)) (Nat.lt_irrefl _)
theorem Inv.cne (I : Inv X pins σ H s) : ∀ x c, X.env.cells.lookup x = some c → c ≠ X.env.locals := fun x c e z => by
  obtain ⟨v, o, ho, hd⟩ := I.cell x c e
  obtain ⟨m, ⟨o', es, ep, ho', hd', _⟩, _⟩ := I.loc
  rw [z, ho'] at ho; cases ho; rw [hd'] at hd; cases hd
theorem Inv.funs (I : Inv X pins σ H s) : s.heap.FunFrames X.base X.outer := by
  have all : ∀ (l : List Env), (∀ b ∈ frs l, b ∈ X.fs) → X.s₀.heap.FunFrames X.base l → s.heap.FunFrames X.base l := by
    intro l
    induction l with
    | nil => intro _ _; trivial
    | cons env r ih =>
      intro hs hl
      obtain ⟨hk, ⟨L, o, hf, hn, ho, hd⟩, hr⟩ := hl
      have hL : L ∈ X.fs := hs L (by unfold frs; rw [List.filterMap_cons, hf]; exact List.mem_cons_self)
      obtain ⟨sl, e⟩ := I.base.slot L o ho (I.ok.frf L hL) hL fun z => I.ok.exfs L z hL
      exact ⟨hk, ⟨L, _, hf, hn, e, hd⟩, ih (fun b hb => hs b (by unfold frs; rw [List.filterMap_cons, hf]; exact List.mem_cons_of_mem _ hb)) hr⟩
  exact all X.outer (fun _ hb => hb) I.ok.funs

/-- the frames that run, for a call -/
theorem Inv.stack (I : Inv X pins σ H s) : s.heap.FunFrames X.base X.stack := by
  rcases I.ok.stk with e | ⟨e, hf⟩
  · rw [e]; exact I.funs
  · rw [e]
    obtain ⟨m, hn, _⟩ := I.loc
    refine .cons (by rw [I.ok.kind]; decide) hf hn ?_ I.funs
    exact Heap.get?_none_of_le (Nat.le_trans I.ok.bsz I.ok.above)
theorem Inv.stkSub (I : Inv X pins σ H s) : ∀ b ∈ frs X.stack, b ∈ X.env.locals :: X.fs := fun b hb => by
  rcases I.ok.stk with e | ⟨e, hf⟩
  · rw [e] at hb; exact List.mem_cons_of_mem _ hb
  · rw [e] at hb
    unfold frs at hb
    rw [List.filterMap_cons, hf] at hb
    exact hb
theorem Inv.stkFree (I : Inv X pins σ H s) : ∀ b ∈ frs X.stack, H b = none := fun b hb => by
  rcases List.mem_cons.mp (I.stkSub b hb) with e | hb
  · rw [e]; exact I.free
  · obtain ⟨_, o, ho, _⟩ := I.ok.funs.mem hb
    exact I.base.free b o ho (I.ok.frf b hb) fun z => I.ok.exfs b z hb

/-- THE STEP: the untracked objects but the frame and the records at ch are kept (the callers' frames up to slots), the frame's map is kept, the new abstract heap is held -/
theorem Inv.step {g' : Array GenState} {t' : Nat} {d' : Drawn} {ch : List Addr} (I : Inv X pins σ H s)
    (hch : ∀ b ∈ ch, (b ∈ X.ex ∨ X.s₀.heap.objs.size ≤ b) ∧ b ≠ X.env.locals ∧ (∀ x c, X.env.cells.lookup x = some c → c ≠ b) ∧ ∀ p ∈ X.pn ++ pins, p.1 ≠ b)
    (keep : ∀ b o, b ≠ X.env.locals → b ∉ X.fs → b ∉ ch → s.heap.get? b = some o → H b = none → h'.get? b = some o)
    (slot : ∀ b o, b ≠ X.env.locals → b ∈ X.fs → b ∉ ch → s.heap.get? b = some o → H b = none → ∃ sl, h'.get? b = some { o with slots := sl }) (free : ∀ b o, b ∉ ch → s.heap.get? b = some o → H b = none → H' b = none)
    (there : ∀ b o, b ∉ ch → s.heap.get? b = some o → ∃ o', h'.get? b = some o')
    (tups : ∀ b xs, H b = some (.tup xs) → H' b = some (.tup xs)) (frzs : ∀ b o u, H b = some (.frz o u) → H' b = some (.frz o u)) (tbls : ∀ b ps, H b = some (.tbl ps) → ∃ more, H' b = some (.tbl (ps ++ more)))
    (ns : ∀ m, s.heap.Ns X.env.locals m → h'.Ns X.env.locals m) (hok : HOk X.prog X.w H' h') (hg : AllBare g') :
    Inv X pins σ H' { s with heap := h', gens := g', drawn := d', toks := t' } := by
  have neL : ∀ b o, X.s₀.heap.get? b = some o → b ≠ X.env.locals := fun b o e => Nat.ne_of_lt (Nat.lt_of_lt_of_le (Heap.lt_size e) I.ok.above)
  have neC : ∀ b o, X.s₀.heap.get? b = some o → b ∉ X.ex → b ∉ ch := fun b o e hx hb => by
    rcases (hch b hb).1 with z | z
    · exact hx z
    · exact absurd (Nat.lt_of_lt_of_le (Heap.lt_size e) z) (Nat.lt_irrefl _)
  have cellK : ∀ x c, X.env.cells.lookup x = some c → ∀ v, s.heap.IsCell c v → h'.IsCell c v := fun x c e v ⟨o, ho, hd⟩ => by
    have nch : c ∉ ch := fun z => (hch c z).2.2.1 x c e rfl
    by_cases hc : c ∈ X.fs
    · obtain ⟨sl, q⟩ := slot c o (I.cne x c e) hc nch ho (I.freeC x c e)
      exact ⟨_, q, hd⟩
    · exact ⟨o, keep c o (I.cne x c e) hc nch ho (I.freeC x c e), hd⟩
  refine ⟨I.ok, I.os, hg, ⟨fun b o e n hb hx => ?_, fun b o e n hb hx => ?_, fun b o e n hx => ?_, fun b o e hx => ?_, fun b xs e => tups b xs (I.base.tups b xs e), fun b o xs e => frzs b o xs (I.base.frzs b o xs e), fun b ps e => ?_⟩, ?_, fun x c e => ?_, ?_, fun x c e => ?_, fun p hp => ?_, hok, I.len⟩
  · exact keep b o (neL b o e) hb (neC b o e hx) (I.base.keep b o e n hb hx) (I.base.free b o e n hx)
  · obtain ⟨sl, e1⟩ := I.base.slot b o e n hb hx
    obtain ⟨sl', e2⟩ := slot b _ (neL b o e) hb (neC b o e hx) e1 (I.base.free b o e n hx)
    exact ⟨sl', e2⟩
  · obtain ⟨o', e1⟩ := I.base.there b o e hx
    exact free b o' (neC b o e hx) e1 (I.base.free b o e n hx)
  · obtain ⟨o', e1⟩ := I.base.there b o e hx
    exact there b o' (neC b o e hx) e1
  · obtain ⟨m1, e1⟩ := I.base.tbls b ps e
    obtain ⟨m2, e2⟩ := tbls b _ e1
    exact ⟨m1 ++ m2, by rw [e2, Array.append_assoc]⟩
  · obtain ⟨m, hn, hl⟩ := I.loc
    refine ⟨m, ns m hn, fun i x v e1 e2 e3 => ?_⟩
    obtain ⟨u, r, l⟩ := hl i x v e1 e2 e3
    refine ⟨u, r, ?_⟩
    rcases l with l | ⟨k, c, e, z⟩
    · exact .inl l
    · exact .inr ⟨k, c, e, cellK x c e _ z⟩
  · obtain ⟨v, z⟩ := I.cell x c e
    exact ⟨v, cellK x c e v z⟩
  · obtain ⟨m, ⟨o, _, _, ho, _⟩, _⟩ := I.loc
    exact free _ o (fun z => (hch _ z).2.1 rfl) ho I.free
  · obtain ⟨v, o, ho, hd⟩ := I.cell x c e
    exact free c o (fun z => (hch c z).2.2.1 x c e rfl) ho (I.freeC x c e)
  · obtain ⟨e, n, ne, nf, d⟩ := I.pin p hp
    have nch : p.1 ∉ ch := fun z => (hch p.1 z).2.2.2 p hp rfl
    exact ⟨keep p.1 p.2 ne nf nch e n, free p.1 p.2 nch e n, ne, nf, d⟩
/-- .. where the frame's own object is kept too -/
theorem Inv.un {t' : Nat} (I : Inv X pins σ H s) (u : Un X.fs [] H H' s.heap h') (hok : HOk X.prog X.w H' h') : Inv X pins σ H' { s with heap := h', toks := t' } := by
  obtain ⟨m, ⟨o, es, ep, ho, r⟩, _⟩ := id I.loc
  obtain ⟨sl, hL⟩ := u.any ho I.free (by simp)
  exact I.step (g' := s.gens) (d' := s.drawn) (ch := []) (fun _ z => nomatch z) (fun b o _ hb _ e n => u.keep b o e n hb (by simp)) (fun b o _ hb _ e n => u.slot b o e n hb (by simp)) (fun b o _ e n => u.free b o e n (by simp)) (fun b o _ e => u.there b o e (by simp)) u.tups u.frzs u.tbls (fun m' hm => by
    obtain ⟨o', es', ep', ho', r'⟩ := hm
    rw [ho] at ho'; cases ho'
    exact ⟨_, es', ep', hL, r'⟩) hok I.bare
/-- behind a call (or a comprehension's block): the slots of this frame may have changed too, the records at ch may have turned -/
theorem Inv.call {g' : Array GenState} {t' : Nat} {d' : Drawn} {ch : List Addr} (I : Inv X pins σ H s) (u : Un (frs X.stack) ch H H' s.heap h') (hok : HOk X.prog X.w H' h') (hg : AllBare g')
    (hch : ∀ b ∈ ch, (b ∈ X.ex ∨ X.s₀.heap.objs.size ≤ b) ∧ b ≠ X.env.locals ∧ (∀ x c, X.env.cells.lookup x = some c → c ≠ b) ∧ ∀ p ∈ X.pn ++ pins, p.1 ≠ b) :
    Inv X pins σ H' { s with heap := h', gens := g', drawn := d', toks := t' } := by
  obtain ⟨m, ⟨o, es, ep, ho, r⟩, _⟩ := id I.loc
  obtain ⟨sl, hL⟩ := u.any ho I.free fun z => (hch _ z).2.1 rfl
  exact I.step (ch := ch) hch (fun b o hL hb hc e n => u.keep b o e n (fun z => (List.mem_cons.mp (I.stkSub b z)).elim hL hb) hc) (fun b o _ _ hc e n => u.any e n hc) (fun b o hc e n => u.free b o e n hc) (fun b o hc e => u.there b o e hc) u.tups u.frzs u.tbls (fun m' hm => by
    obtain ⟨o', es', ep', ho', r'⟩ := hm
    rw [ho] at ho'; cases ho'
    exact ⟨_, es', ep', hL, r'⟩) hok hg
/-- an untracked record of ours (an iterator) has turned -/
theorem Inv.turned {t' : Nat} {it : Addr} (I : Inv X pins σ H s) (k : ∀ b o, b ≠ it → s.heap.get? b = some o → h'.get? b = some o) (hn : H it = none) (hL : it ≠ X.env.locals)
    (h1 : it ∈ X.ex ∨ X.s₀.heap.objs.size ≤ it) (h2 : ∀ x c, X.env.cells.lookup x = some c → c ≠ it) (h3 : ∀ p ∈ X.pn ++ pins, p.1 ≠ it) : Inv X pins σ H { s with heap := h', toks := t' } := by
  have nit : ∀ b u, H b = some u → b ≠ it := fun b u e z => by rw [z, hn] at e; cases e
  refine I.step (g' := s.gens) (d' := s.drawn) (ch := [it]) (fun b hb => ?_) (fun b o _ _ hc e _ => k b o (fun z => hc (by simp [z])) e) (fun b o _ _ hc e _ => ⟨o.slots, k b o (fun z => hc (by simp [z])) e⟩) (fun _ _ _ _ n => n)
    (fun b o hc e => ⟨o, k b o (fun z => hc (by simp [z])) e⟩) (fun _ _ e => e) (fun _ _ _ e => e) (fun b ps e => ⟨#[], by rw [e]; simp⟩) (fun m hm => ?_) (fun b u e => ?_) I.bare
  · have e : b = it := by simpa using hb
    subst e
    exact ⟨h1, hL, h2, h3⟩
  · obtain ⟨o, es, ep, ho, r⟩ := hm
    exact ⟨o, es, ep, k _ o (Ne.symm hL) ho, r⟩
  · refine (I.hok b u e).stay (fun c v hc q => k c v ?_ q) (fun _ q => q) fun _ _ q => q
    rcases hc with z | z
    · rw [z]; exact nit b u e
    · exact nit c _ z
theorem Inv.tok (I : Inv X pins σ H s) (t : Nat) : Inv X pins σ H { s with toks := t } := I.un (h' := s.heap) (t' := t) Un.refl I.hok
/-- all objects kept -/
theorem Inv.kept {t' : Nat} (I : Inv X pins σ H s) (k : ∀ b u, s.heap.get? b = some u → h'.get? b = some u) : Inv X pins σ H { s with heap := h', toks := t' } := I.un (Un.kept k) (I.hok.kept k)
/-- a new object laid and tracked -/
theorem Inv.laid {a : Addr} {o : HO} {t' : Nat} (I : Inv X pins σ H s) (k : ∀ b u, s.heap.get? b = some u → h'.get? b = some u) (hp : s.heap.objs.size ≤ a) (new : ObjOk X.prog X.w (upd H a o) h' a o) :
    Inv X pins σ (upd H a o) { s with heap := h', toks := t' } := I.un (Un.laid k hp (I.hok.fresh hp)) (I.hok.laid k hp new)
/-- an object written -/
theorem Inv.write {x e : Addr} {o : HO} {t' : Nat} (I : Inv X pins σ H s) (mu : Mut (H x)) (he : e = x ∨ H e = some (.own x)) (k : ∀ b u, b ≠ e → s.heap.get? b = some u → h'.get? b = some u) (heo : ∃ u, h'.get? e = some u)
    (new : ObjOk X.prog X.w (upd H x o) h' x o) : Inv X pins σ (upd H x o) { s with heap := h', toks := t' } := I.un (Un.write mu he k heo) (I.hok.write mu he k heo new)
/-- forgetting slots, pins -/
theorem Inv.weak {σ' : List (Option V)} (I : Inv X pins σ H s) (hl : σ'.length = σ.length) (w : ∀ (i : Nat) v, σ'[i]? = some (some v) → σ[i]? = some (some v)) : Inv X pins σ' H s :=
  ⟨I.ok, I.os, I.bare, I.base, let ⟨m, hn, hl'⟩ := I.loc; ⟨m, hn, fun i x v e1 e2 e3 => hl' i x v e1 (w i v e2) e3⟩, I.cell, I.free, I.freeC, I.pin, I.hok, hl.trans I.len⟩
theorem Inv.pins_of {pins' : List (Addr × Obj)} (I : Inv X pins σ H s) (h : ∀ p ∈ pins', s.heap.get? p.1 = some p.2 ∧ H p.1 = none ∧ p.1 ≠ X.env.locals ∧ p.1 ∉ X.fs ∧ ∀ v, p.2.data ≠ .cell v) : Inv X pins' σ H s :=
  ⟨I.ok, I.os, I.bare, I.base, I.loc, I.cell, I.free, I.freeC, fun p hp => (List.mem_append.mp hp).elim (fun z => I.pin p (List.mem_append_left _ z)) (h p), I.hok, I.len⟩

theorem nodup_ix {N : List Str} (hN : N.Nodup) {i j : Nat} {x : Str} (a : N[i]? = some x) (b : N[j]? = some x) : i = j := by
  obtain ⟨h1, e1⟩ := List.getElem?_eq_some_iff.mp a
  obtain ⟨h2, e2⟩ := List.getElem?_eq_some_iff.mp b
  exact (List.getElem_inj hN).mp (e1.trans e2.symm)

/-- a name is stored; what changed -/
theorem store_ok2 {M : Model} {A : Around} {E : Value → Shared → Prop} {i : Nat} {x : Str} {v : V} {u : Value} {Q : Unit → Shared → Prop} (I : Inv X pins σ H s) (hN : X.N.Nodup) (hi : X.N[i]? = some x) (hx : Loc X.env.scope x) (r : RelV v u)
    (h : ∀ s', Inv X pins (σ.set i (some v)) H s' → (∃ a, Heap.SameBut a s.heap s'.heap ∧ (a = X.env.locals ∨ X.env.cells.lookup x = some a)) → Q () s') (hf : X.fn x = true ∨ X.env.scope.names.lookup x = some .local := by first | exact .inl rfl | exact .inr rfl | assumption) : wpAny M A (storeName X.env x u) Q E s := by
  obtain ⟨m, hn, hl⟩ := id I.loc
  have hcls : (X.env.scope.kind == .class || (X.env.scope.kind == .module && X.env.locals != X.env.globals)) = false := by rw [I.ok.kind]; rfl
  have hiσ : i < σ.length := by rw [I.len]; exact (List.getElem?_eq_some_iff.mp hi).1
  have cne := I.cne
  have tracked : ∀ {a : Addr} {h' : Heap}, (∃ o, s.heap.get? a = some o ∧ H a = none) → Heap.SameBut a s.heap h' → HOk X.prog X.w H h' := fun {a h'} ha hs b ob e => by
    obtain ⟨_, _, hfree⟩ := ha
    refine (I.hok b ob e).stay (fun c w' hc q => (hs.2 c ?_).trans q) (fun _ q => q) fun _ _ q => q
    rintro rfl
    rcases hc with rfl | hc
    · rw [hfree] at e; cases e
    · rw [hfree] at hc; cases hc
  rcases hx with hk | hk
  · refine wpAny_storeName_local hk hn (fun h' hn' hs => ?_) hcls
    obtain ⟨oL, _, _, hoL, _⟩ := id hn
    refine h _ ⟨I.ok, I.os, I.bare, ⟨fun b o e n hb hx => ?_, fun b o e n hb hx => ?_, I.base.free, fun b o e hx => ?_, I.base.tups, I.base.frzs, I.base.tbls⟩, ⟨_, hn', fun j y v' e1 e2 e3 => ?_⟩, fun y c e => ?_, I.free, I.freeC, fun p hp => ?_, tracked ⟨oL, hoL, I.free⟩ hs, by simpa using I.len⟩ ⟨_, hs, .inl rfl⟩
    · exact (hs.2 b (Nat.ne_of_lt (Nat.lt_of_lt_of_le (Heap.lt_size e) I.ok.above))).trans (I.base.keep b o e n hb hx)
    · obtain ⟨sl, e1⟩ := I.base.slot b o e n hb hx
      exact ⟨sl, (hs.2 b (Nat.ne_of_lt (Nat.lt_of_lt_of_le (Heap.lt_size e) I.ok.above))).trans e1⟩
    · obtain ⟨o', e1⟩ := I.base.there b o e hx
      exact ⟨o', (hs.2 b (Nat.ne_of_lt (Nat.lt_of_lt_of_le (Heap.lt_size e) I.ok.above))).trans e1⟩
    · by_cases hj : j = i
      · subst hj
        rw [hi] at e1; cases e1
        rw [List.getElem?_set_self hiσ] at e2
        cases e2
        exact ⟨u, r, .inl ⟨hk, by simp⟩⟩
      · rw [List.getElem?_set_ne (Ne.symm hj)] at e2
        obtain ⟨u', r', q⟩ := hl j y v' e1 e2 e3
        refine ⟨u', r', ?_⟩
        rcases q with ⟨k, e⟩ | ⟨k, c, e, z⟩
        · refine .inl ⟨k, ?_⟩
          have : y ≠ x := fun e => hj (nodup_ix hN e1 (e ▸ hi))
          simp [this, e]
        · exact .inr ⟨k, c, e, z.sameBut hs (cne y c e)⟩
    · obtain ⟨w', z⟩ := I.cell y c e
      exact ⟨w', z.sameBut hs (cne y c e)⟩
    · obtain ⟨e, n, ne, nf, d⟩ := I.pin p hp
      exact ⟨(hs.2 p.1 ne).trans e, n, ne, nf, d⟩
  · have hfn : X.fn x = true := by
      rcases hf with z | z
      · exact z
      · rw [z] at hk; cases hk
    obtain ⟨c, hc⟩ := I.ok.has x (.inl hk)
    obtain ⟨w', z⟩ := I.cell x c hc
    refine wpAny_storeName_cell I.ok.kind hk hc z (fun h' hc' hs => ?_)
    obtain ⟨oc, hoc, hocd⟩ := id z
    refine h { s with heap := h' } ⟨I.ok, I.os, I.bare, ⟨fun b o e n hb hx => ?_, fun b o e n hb hx => ?_, I.base.free, fun b o e hx => ?_, I.base.tups, I.base.frzs, I.base.tbls⟩, ⟨m, hn.sameBut hs (Ne.symm (cne x c hc)), fun j y v' e1 e2 e3 => ?_⟩, fun y c' e => ?_, I.free, I.freeC, fun p hp => ?_, tracked ⟨oc, hoc, I.freeC x c hc⟩ hs, by simpa using I.len⟩ ⟨c, hs, .inr hc⟩
    · exact (hs.2 b (Nat.ne_of_lt (Nat.lt_of_lt_of_le (Heap.lt_size e) (I.ok.cab x c hfn hc)))).trans (I.base.keep b o e n hb hx)
    · obtain ⟨sl, e1⟩ := I.base.slot b o e n hb hx
      exact ⟨sl, (hs.2 b (Nat.ne_of_lt (Nat.lt_of_lt_of_le (Heap.lt_size e) (I.ok.cab x c hfn hc)))).trans e1⟩
    · obtain ⟨o', e1⟩ := I.base.there b o e hx
      exact ⟨o', (hs.2 b (Nat.ne_of_lt (Nat.lt_of_lt_of_le (Heap.lt_size e) (I.ok.cab x c hfn hc)))).trans e1⟩
    · by_cases hj : j = i
      · subst hj
        rw [hi] at e1; cases e1
        rw [List.getElem?_set_self hiσ] at e2
        cases e2
        exact ⟨u, r, .inr ⟨.inl hk, c, hc, hc'⟩⟩
      · rw [List.getElem?_set_ne (Ne.symm hj)] at e2
        obtain ⟨u', r', q⟩ := hl j y v' e1 e2 e3
        refine ⟨u', r', ?_⟩
        rcases q with q | ⟨k, c', e, z'⟩
        · exact .inl q
        · refine .inr ⟨k, c', e, z'.sameBut hs ?_⟩
          rintro rfl
          exact hj (nodup_ix hN e1 (I.ok.inj _ _ _ e hc ▸ hi))
    · by_cases hcc : c' = c
      · subst hcc; exact ⟨_, hc'⟩
      · obtain ⟨w2, z2⟩ := I.cell y c' e
        exact ⟨w2, z2.sameBut hs hcc⟩
    · obtain ⟨e, n, ne, nf, d⟩ := I.pin p hp
      refine ⟨(hs.2 p.1 ?_).trans e, n, ne, nf, d⟩
      intro q
      rw [q, hoc] at e
      have q' : oc = p.2 := Option.some.inj e
      exact d w' (by rw [← q']; exact hocd)
theorem store_ok {M : Model} {A : Around} {E : Value → Shared → Prop} {i : Nat} {x : Str} {v : V} {u : Value} {Q : Unit → Shared → Prop} (I : Inv X pins σ H s) (hN : X.N.Nodup) (hi : X.N[i]? = some x) (hx : Loc X.env.scope x) (r : RelV v u)
    (h : ∀ s', Inv X pins (σ.set i (some v)) H s' → Q () s') (hf : X.fn x = true ∨ X.env.scope.names.lookup x = some .local := by first | exact .inl rfl | exact .inr rfl | assumption) : wpAny M A (storeName X.env x u) Q E s :=
  store_ok2 I hN hi hx r (fun s' I' _ => h s' I') hf
/-- behind a call or a block, the state as it is -/
theorem Inv.call' {s' : Shared} {ch : List Addr} (I : Inv X pins σ H s) (ho : s'.os = s.os) (u : Un (frs X.stack) ch H H' s.heap s'.heap) (hok : HOk X.prog X.w H' s'.heap) (hg : AllBare s'.gens)
    (hch : ∀ b ∈ ch, (b ∈ X.ex ∨ X.s₀.heap.objs.size ≤ b) ∧ b ≠ X.env.locals ∧ (∀ x c, X.env.cells.lookup x = some c → c ≠ b) ∧ ∀ p ∈ X.pn ++ pins, p.1 ≠ b) : Inv X pins σ H' s' := by
  obtain ⟨h', g', d', t', o'⟩ := s'
  have e : o' = s.os := ho
  subst e
  exact I.call (g' := g') (t' := t') (d' := d') u hok hg hch
end

/-! ### the judgements -/
/-- an exception: its class, its own dict's address (where it has one), the abstract heap behind it -/
abbrev XK := Value → Option Addr → Hp → Prop
abbrev St := List (Option V)
abbrev VK := V → Hp → Prop
/-- an expression's reading; a test's; an argument list's -/
abbrev TE := St → Hp → VK → Prop
abbrev TT := St → Hp → (Bool → Hp → Prop) → Prop
abbrev TA := St → Hp → (List V → Hp → Prop) → Prop
/-- what is wanted behind a statement -/
structure Ends where
  nx : St → Hp → Prop
  rt : VK
  bk : St → Hp → Prop := fun _ _ => False
  ct : St → Hp → Prop := fun _ _ => False
abbrev TS := Ends → St → Hp → Prop

def EP (X : Cx) (pins : List (Addr × Obj)) (σ : St) (Q : VK) (u : Value) (s' : Shared) : Prop := ∃ v H', Inv X pins σ H' s' ∧ RelV v u ∧ Q v H'
def TP (X : Cx) (pins : List (Addr × Obj)) (σ : St) (Q : Bool → Hp → Prop) (b : Bool) (s' : Shared) : Prop := ∃ H', Inv X pins σ H' s' ∧ Q b H'
def AP (X : Cx) (pins : List (Addr × Obj)) (σ : St) (Q : List V → Hp → Prop) (us : List Value) (s' : Shared) : Prop := ∃ vs H', Inv X pins σ H' s' ∧ Vals vs us ∧ Q vs H'
def SP (X : Cx) (pins : List (Addr × Obj)) (D : Ends) (f : Flow) (s' : Shared) : Prop :=
  match f with
  | .next => ∃ σ' H', Inv X pins σ' H' s' ∧ D.nx σ' H'
  | .brk => ∃ σ' H', Inv X pins σ' H' s' ∧ D.bk σ' H'
  | .cont => ∃ σ' H', Inv X pins σ' H' s' ∧ D.ct σ' H'
  | .ret u => ∃ v σ' H', Inv X pins σ' H' s' ∧ RelV v u ∧ D.rt v H'

def PE (X : Cx) (e : Expr) (t : TE) : Prop :=
  ∀ (pins : List (Addr × Obj)) (s : Shared) (σ : St) (H : Hp) (Q : VK), Inv X pins σ H s → t σ H Q → wpAny (model X.prog X.w) X.A (eval e X.env) (EP X pins σ Q) X.xe s
def PT (X : Cx) (e : Expr) (t : TT) : Prop :=
  ∀ (pins : List (Addr × Obj)) (s : Shared) (σ : St) (H : Hp) (Q : Bool → Hp → Prop), Inv X pins σ H s → t σ H Q → wpAny (model X.prog X.w) X.A (isTrue e X.env (eval e X.env)) (TP X pins σ Q) X.xe s
/-- a test whatever its 'whole' is (and, or) -/
def PW (X : Cx) (e : Expr) (t : TT) : Prop :=
  ∀ (whole : Sem Value) (pins : List (Addr × Obj)) (s : Shared) (σ : St) (H : Hp) (Q : Bool → Hp → Prop), Inv X pins σ H s → t σ H Q → wpAny (model X.prog X.w) X.A (isTrue e X.env whole) (TP X pins σ Q) X.xe s
theorem PW.pt {X : Cx} {e : Expr} {t : TT} (h : PW X e t) : PT X e t := h _
/-- an argument list (no star), from the left -/
def PA (X : Cx) (es : List Expr) (t : TA) : Prop :=
  ∀ (pos : Pos) (pins : List (Addr × Obj)) (s : Shared) (σ : St) (H : Hp) (Q : List V → Hp → Prop), Inv X pins σ H s → t σ H Q → wpAny (model X.prog X.w) X.A (spliced (backTo pos (starEach es X.env))) (AP X pins σ Q) X.xe s
def PS (X : Cx) (st : Stmt) (t : TS) : Prop :=
  ∀ (pins : List (Addr × Obj)) (s : Shared) (σ : St) (H : Hp) (D : Ends), Inv X pins σ H s → t D σ H → wpAny (model X.prog X.w) X.A (exec st X.env) (SP X pins D) X.xe s
def PSs (X : Cx) (st : List Stmt) (t : TS) : Prop :=
  ∀ (pins : List (Addr × Obj)) (s : Shared) (σ : St) (H : Hp) (D : Ends), Inv X pins σ H s → t D σ H → wpAny (model X.prog X.w) X.A (execs st X.env) (SP X pins D) X.xe s
/-- weaken the end -/
theorem thn {α : Type} {t : Sem α} {Q Q' : α → Shared → Prop} {M : Model} {A : Around} {E : Value → Shared → Prop} {s : Shared} (h : wpAny M A t Q E s) (hQ : ∀ a s, Q a s → Q' a s) : wpAny M A t Q' E s := wpAny_mono h hQ fun _ _ x => x
end L2

namespace L2
open PySem PySem.Spec PyProof.Rows
section
variable {X : Cx}

/-- two expressions in a row -/
theorem bin {a b : Expr} {ta tb : TE} (ha : PE X a ta) (hb : PE X b tb) {pins : List (Addr × Obj)} {s : Shared} {σ : St} {H : Hp} {R : V → V → Hp → Prop} (I : Inv X pins σ H s) (h : ta σ H fun x H1 => tb σ H1 fun y H2 => R x y H2)
    {α : Type} {Q : α → Shared → Prop} {f : Value → Value → Sem α}
    (hf : ∀ v u s2 x y H2, Inv X pins σ H2 s2 → RelV x v → RelV y u → R x y H2 → wpAny (model X.prog X.w) X.A (f v u) Q X.xe s2) :
    wpAny (model X.prog X.w) X.A (eval a X.env) (fun v s₁ => wpAny (model X.prog X.w) X.A (eval b X.env) (fun u s₂ => wpAny (model X.prog X.w) X.A (f v u) Q X.xe s₂) X.xe s₁) X.xe s := by
  refine thn (ha pins s σ H _ I h) fun v s1 ⟨x, H1, I1, r1, q1⟩ => ?_
  refine thn (hb pins s1 σ H1 _ I1 q1) fun u s2 ⟨y, H2, I2, r2, q2⟩ => ?_
  exact hf v u s2 x y H2 I2 r1 r2 q2

/-! ### names and constants -/
def tVar (i : Nat) : TE := fun σ H Q => ∃ v, σ[i]? = some (some v) ∧ Q v H
def tC (v : V) : TE := fun _ H Q => Q v H
theorem pe_var {i : Nat} {x : Str} {pos : Pos} (hN : X.N[i]? = some x) (hv : Vis X.env.scope x) (hd : (x == ("__debug__" : Str)) = false := by decide) (hcd : (x == ("__classdict__" : Str)) = false := by decide) : PE X (.Name x pos) (tVar i) := by
  intro pins s σ H Q I h
  obtain ⟨v, e, h⟩ := h
  obtain ⟨m, hn, hl⟩ := I.loc
  obtain ⟨u, r, l⟩ := hl i x v hN e hv
  have fin : EP X pins σ Q u s := ⟨v, H, I, r, h⟩
  rcases l with ⟨hk, hm⟩ | ⟨hk, c, hc, hcell⟩
  · exact wpAny_Name (wpAny_loadName_local I.ok.kind hk hn hm fin) hd
  · rcases hk with hk | hk
    · exact wpAny_Name (wpAny_loadName_cell I.ok.kind hk hc hcell fin) hd
    · exact wpAny_Name (wpAny_loadName_free I.ok.kind hk hc hcell fin hcd) hd
theorem pe_int {i j pos} : PE X (.Constant (.int i) j pos) (tC (.int i)) := fun _ _ _ H _ I h => wpAny_Constant_int ⟨.int i, H, I.tok _, ⟨_, rfl⟩, h⟩
theorem pe_bl {b j pos} : PE X (.Constant (.bool b) j pos) (tC (.bl b)) := fun _ _ _ H _ I h => Constant_bool ⟨.bl b, H, I, rfl, h⟩
theorem pe_non {j pos} : PE X (.Constant .none j pos) (tC .non) := fun _ _ _ H _ I h => Constant_none ⟨.non, H, I, rfl, h⟩
theorem pe_str {x j pos} : PE X (.Constant (.str x) j pos) (tC (.str x)) := fun _ _ _ H _ I h => Calls.Constant_str ⟨.str x, H, I.tok _, ⟨_, rfl⟩, h⟩

/-- a global name of the def -/
def Gl (X : Cx) (x : Str) : Prop := X.env.kindOf x = some .globalImplicit
theorem ld_glob {E : Value → Shared → Prop} {pins : List (Addr × Obj)} {s : Shared} {σ : St} {H : Hp} {x : Str} {u : Value} {pos : Pos} {Q : Value → Shared → Prop} (I : Inv X pins σ H s) (hg : Gl X x) (hm : X.mg x = some u) (h : Q u s)
    (hd : (x == ("__debug__" : Str)) = false := by decide) : wpAny (model X.prog X.w) X.A (eval (.Name x pos) X.env) Q E s :=
  Calls.Name_function_global I.ok.kind hg (Calls.loadGlobal_global (by rw [I.ok.glob]; exact I.mod.glob.keeps I.bk) hm h) hd
theorem ld_blt {E : Value → Shared → Prop} {pins : List (Addr × Obj)} {s : Shared} {σ : St} {H : Hp} {x : Str} {u : Value} {pos : Pos} {Q : Value → Shared → Prop} (I : Inv X pins σ H s) (hg : Gl X x) (hm : X.mg x = none) (hv : bootBuiltins x = some u) (h : Q u s)
    (hn : x ≠ "__name__" := by decide) (hd : (x == ("__debug__" : Str)) = false := by decide) : wpAny (model X.prog X.w) X.A (eval (.Name x pos) X.env) Q E s := by
  obtain ⟨mb, h1, h2⟩ := I.mod.blt
  exact Calls.Name_function_global I.ok.kind hg (Calls.loadGlobal_builtin (by rw [I.ok.glob]; exact I.mod.glob.keeps I.bk) hm (by rw [I.ok.blt]; exact h1.keeps I.bk) ((h2 x hn).trans hv) h) hd
/-- a module's constant, a class, a function, as a value -/
theorem pe_glob {x : Str} {v : V} {u : Value} {pos : Pos} (hg : Gl X x) (hm : X.mg x = some u) (r : RelV v u) (hd : (x == ("__debug__" : Str)) = false := by decide) : PE X (.Name x pos) (tC v) :=
  fun _ _ _ H _ I h => ld_glob I hg hm ⟨v, H, I, r, h⟩ hd
theorem pe_bltn {x : Str} {v : V} {u : Value} {pos : Pos} (hg : Gl X x) (hm : X.mg x = none) (hv : bootBuiltins x = some u) (r : RelV v u) (hn : x ≠ "__name__" := by decide) (hd : (x == ("__debug__" : Str)) = false := by decide) : PE X (.Name x pos) (tC v) :=
  fun _ _ _ H _ I h => ld_blt I hg hm hv ⟨v, H, I, r, h⟩ hn hd

/-! ### arithmetic -/
/-- two ints -/
def t2I (ta tb : TE) (k : Int → Int → Hp → Prop) : St → Hp → Prop := fun σ H => ta σ H fun x H1 => tb σ H1 fun y H2 => ∃ i j, x = .int i ∧ y = .int j ∧ k i j H2
def tAdd (ta tb : TE) : TE := fun σ H Q => t2I ta tb (fun i j H2 => Q (.int (i + j)) H2) σ H
def tSub (ta tb : TE) : TE := fun σ H Q => t2I ta tb (fun i j H2 => Q (.int (i - j)) H2) σ H
/-- the left factor below 2^64 -/
def tMul (ta tb : TE) : TE := fun σ H Q => t2I ta tb (fun i j H2 => (-(2 ^ 64) < i ∧ i < 2 ^ 64) ∧ Q (.int (i * j)) H2) σ H
variable {a b : Expr} {ta tb : TE} {pos : Pos}
theorem pe_add (ha : PE X a ta) (hb : PE X b tb) : PE X (.BinOp a .Add b pos) (tAdd ta tb) := by
  intro pins s σ H Q I h
  refine wpAny_BinOp (bin ha hb I h fun v u s2 x y H2 I2 rx ry q => ?_)
  obtain ⟨i, j, rfl, rfl, q⟩ := q
  obtain ⟨t, rfl⟩ := rx
  obtain ⟨t', rfl⟩ := ry
  exact add_int ⟨.int _, H2, I2.tok _, ⟨_, rfl⟩, q⟩
theorem pe_sub (ha : PE X a ta) (hb : PE X b tb) : PE X (.BinOp a .Sub b pos) (tSub ta tb) := by
  intro pins s σ H Q I h
  refine wpAny_BinOp (bin ha hb I h fun v u s2 x y H2 I2 rx ry q => ?_)
  obtain ⟨i, j, rfl, rfl, q⟩ := q
  obtain ⟨t, rfl⟩ := rx
  obtain ⟨t', rfl⟩ := ry
  exact sub_int ⟨.int _, H2, I2.tok _, ⟨_, rfl⟩, q⟩
theorem pe_mul (ha : PE X a ta) (hb : PE X b tb) : PE X (.BinOp a .Mult b pos) (tMul ta tb) := by
  intro pins s σ H Q I h
  refine wpAny_BinOp (bin ha hb I h fun v u s2 x y H2 I2 rx ry q => ?_)
  obtain ⟨i, j, rfl, rfl, ⟨q1, q2⟩, q⟩ := q
  obtain ⟨t, rfl⟩ := rx
  obtain ⟨t', rfl⟩ := ry
  exact mul_int ⟨.int _, H2, I2.tok _, ⟨_, rfl⟩, q⟩ (.of_left (intBits_le_64 q1 q2))

/-! ### comparisons -/
def PC (X : Cx) (op : CmpOp) (a b : Expr) (t : TE) : Prop :=
  ∀ (pins : List (Addr × Obj)) (s : Shared) (σ : St) (H : Hp) (Q : VK), Inv X pins σ H s → t σ H Q →
    wpAny (model X.prog X.w) X.A (eval a X.env) (fun v s₁ => wpAny (model X.prog X.w) X.A (eval b X.env) (fun u s₂ => wpAny (model X.prog X.w) X.A (compareOp op v u) (EP X pins σ Q) X.xe s₂) X.xe s₁) X.xe s
theorem nobehind (b : Expr) {op : CmpOp} (h : op ≠ .In) (h2 : op ≠ .NotIn) : behindInMarks op b = false := by
  have e1 : (op == CmpOp.In) = false := by cases op <;> first | rfl | exact absurd rfl h
  have e2 : (op == CmpOp.NotIn) = false := by cases op <;> first | rfl | exact absurd rfl h2
  cases b <;> simp [behindInMarks, e1, e2]
def tCmp (p : Int → Int → Bool) (ta tb : TE) : TE := fun σ H Q => t2I ta tb (fun i j H2 => Q (.bl (p i j)) H2) σ H
abbrev tLt : TE → TE → TE := tCmp fun i j => decide (i < j)
abbrev tLe : TE → TE → TE := tCmp fun i j => decide (i ≤ j)
abbrev tGt : TE → TE → TE := tCmp fun i j => decide (j < i)
abbrev tGe : TE → TE → TE := tCmp fun i j => decide (j ≤ i)
abbrev tEqI : TE → TE → TE := tCmp fun i j => decide (i = j)
abbrev tNeI : TE → TE → TE := tCmp fun i j => !decide (i = j)
/-- a comparison of two ints, by its rule -/
theorem pc_int {op : CmpOp} {p : Int → Int → Bool} (ha : PE X a ta) (hb : PE X b tb)
    (rule : ∀ (i j : Int) (t u : Tok) (Q : Value → Shared → Prop) (s : Shared), Q (.bool (p i j)) s → wpAny (model X.prog X.w) X.A (compareOp op (.int i t) (.int j u)) Q X.xe s) : PC X op a b (tCmp p ta tb) := by
  intro pins s σ H Q I h
  refine bin ha hb I h fun v u s2 x y H2 I2 rx ry q => ?_
  obtain ⟨i, j, rfl, rfl, q⟩ := q
  obtain ⟨t, rfl⟩ := rx
  obtain ⟨t', rfl⟩ := ry
  exact rule i j t t' _ s2 ⟨.bl _, H2, I2, rfl, q⟩
theorem pc_lt (ha : PE X a ta) (hb : PE X b tb) : PC X .Lt a b (tLt ta tb) := pc_int ha hb fun _ _ _ _ _ _ h => lt_int h
theorem pc_le (ha : PE X a ta) (hb : PE X b tb) : PC X .LtE a b (tLe ta tb) := pc_int ha hb fun _ _ _ _ _ _ h => le_int h
theorem pc_gt (ha : PE X a ta) (hb : PE X b tb) : PC X .Gt a b (tGt ta tb) := pc_int ha hb fun _ _ _ _ _ _ h => gt_int h
theorem pc_ge (ha : PE X a ta) (hb : PE X b tb) : PC X .GtE a b (tGe ta tb) := pc_int ha hb fun _ _ _ _ _ _ h => ge_int h
theorem pc_eqI (ha : PE X a ta) (hb : PE X b tb) : PC X .Eq a b (tEqI ta tb) := pc_int ha hb fun _ _ _ _ _ _ h => eq_int (by rw [Bool.beq_eq_decide_eq]; exact h)
theorem pc_neI (ha : PE X a ta) (hb : PE X b tb) : PC X .NotEq a b (tNeI ta tb) := pc_int ha hb fun _ _ _ _ _ _ h => ne_int (by rw [bne, Bool.beq_eq_decide_eq]; exact h)
/-- is None -/
def tIsN (ta : TE) : TE := fun σ H Q => ta σ H fun x H1 => Q (.bl (decide (x = .non))) H1
def tNotN (ta : TE) : TE := fun σ H Q => ta σ H fun x H1 => Q (.bl (!decide (x = .non))) H1
theorem RelV.none_iff {x : V} {v : Value} (r : RelV x v) : (v == Value.none) = decide (x = .non) := by
  cases x with
  | non => cases r; rfl
  | bl _ => cases r; rfl
  | int _ => obtain ⟨t, rfl⟩ := r; rfl
  | str _ => obtain ⟨t, rfl⟩ := r; rfl
  | byt _ => obtain ⟨t, rfl⟩ := r; rfl
  | flt _ => obtain ⟨t, rfl⟩ := r; rfl
  | ref _ => cases r; rfl
  | ty _ => cases r; rfl
theorem pc_isN {j pos'} (ha : PE X a ta) : PC X .Is a (.Constant .none j pos') (tIsN ta) := by
  intro pins s σ H Q I h
  refine thn (ha pins s σ H _ I h) fun v s1 ⟨x, H1, I1, r1, q1⟩ => ?_
  exact Constant_none (is_none_gen ⟨.bl _, H1, I1, by rw [r1.none_iff]; rfl, q1⟩)
theorem pc_notN {j pos'} (ha : PE X a ta) : PC X .IsNot a (.Constant .none j pos') (tNotN ta) := by
  intro pins s σ H Q I h
  refine thn (ha pins s σ H _ I h) fun v s1 ⟨x, H1, I1, r1, q1⟩ => ?_
  exact Constant_none (isnot_none_gen ⟨.bl _, H1, I1, by rw [r1.none_iff]; rfl, q1⟩)
/-- a comparison as a value, as a test -/
def tB (t : TE) : TT := fun σ H Q => t σ H fun x H1 => ∃ c, x = .bl c ∧ Q c H1
theorem pe_cmp {op : CmpOp} {t : TE} (h : PC X op a b t) (h1 : behindInMarks op b = false := by first | exact nobehind _ (by decide) (by decide) | rfl) : PE X (.Compare a [op] [b] pos) t := fun pins s σ H Q I hw => wpAny_Compare1 (h pins s σ H Q I hw) h1
theorem pt_cmp {op : CmpOp} {t : TE} (h : PC X op a b t) (h1 : behindInMarks op b = false := by first | exact nobehind _ (by decide) (by decide) | rfl) : PT X (.Compare a [op] [b] pos) (tB t) := by
  intro pins s σ H Q I hw
  refine wpAny_isTrue_Compare1 (thn (h pins s σ H _ I hw) fun v s1 h1 => thn h1 fun u s2 h2 => thn h2 fun c s3 ⟨x, H1, I1, r1, q1⟩ => ?_) h1
  obtain ⟨d, rfl, q⟩ := q1
  cases r1
  exact wpAny_truthy_bool ⟨H1, I1, q⟩
/-- an expression whose value is a bool, as a test -/
theorem pt_val {e : Expr} {t : TE} (h : PE X e t) (he : ∀ whole, isTrue e X.env whole = (do let v ← whole; standAt e.pos; holding [v] (truthy v)) := by intro _; rfl) : PT X e (tB t) := by
  intro pins s σ H Q I hw
  refine isTrue_plain (thn (h pins s σ H _ I hw) fun v s1 ⟨x, H1, I1, r1, q1⟩ => ?_) (he _)
  obtain ⟨d, rfl, q⟩ := q1
  cases r1
  exact wpAny_truthy_bool ⟨H1, I1, q⟩

/-! ### and, or, not -/
variable {tA tB' : TT} {rest : List Expr}
def tAnd (t u : TT) : TT := fun σ H Q => t σ H fun c H1 => if c = true then u σ H1 Q else Q false H1
def tOr (t u : TT) : TT := fun σ H Q => t σ H fun c H1 => if c = true then Q true H1 else u σ H1 Q
def tNot (t : TT) : TT := fun σ H Q => t σ H fun c H1 => Q (!c) H1
theorem pw_and1 (ha : PT X a tA) : PW X (.BoolOp .And [a] pos) tA := by
  intro wh pins s σ H Q I h
  refine isTrue_and (thn (ha pins s σ H Q I h) fun c s1 e => ?_)
  cases c with
  | true => exact isTrue_and_nil e
  | false => exact e
theorem pw_or1 (ha : PT X a tA) : PW X (.BoolOp .Or [a] pos) tA := by
  intro wh pins s σ H Q I h
  refine isTrue_or (thn (ha pins s σ H Q I h) fun c s1 e => ?_)
  cases c with
  | false => exact isTrue_or_nil e
  | true => exact e
theorem pw_and (ha : PT X a tA) (hb : PW X (.BoolOp .And (b :: rest) pos) tB') : PW X (.BoolOp .And (a :: b :: rest) pos) (tAnd tA tB') := by
  intro wh pins s σ H Q I h
  refine isTrue_and (thn (ha pins s σ H _ I h) fun c s1 ⟨H1, I1, q1⟩ => ?_)
  cases c with
  | true => exact hb wh pins s1 σ H1 Q I1 q1
  | false => exact ⟨H1, I1, q1⟩
theorem pw_or (ha : PT X a tA) (hb : PW X (.BoolOp .Or (b :: rest) pos) tB') : PW X (.BoolOp .Or (a :: b :: rest) pos) (tOr tA tB') := by
  intro wh pins s σ H Q I h
  refine isTrue_or (thn (ha pins s σ H _ I h) fun c s1 ⟨H1, I1, q1⟩ => ?_)
  cases c with
  | true => exact ⟨H1, I1, q1⟩
  | false => exact hb wh pins s1 σ H1 Q I1 q1
theorem pt_not (ha : PT X a tA) : PT X (.UnaryOp .Not a pos) (tNot tA) := by
  intro pins s σ H Q I h
  exact isTrue_not (ha pins s σ H (fun c H1 => Q (!c) H1) I h)
/-- .. as values (bools) -/
def tAndV (ta tb : TE) : TE := fun σ H Q => ta σ H fun x H1 => ∃ c, x = .bl c ∧ if c = true then tb σ H1 Q else Q (.bl false) H1
def tOrV (ta tb : TE) : TE := fun σ H Q => ta σ H fun x H1 => ∃ c, x = .bl c ∧ if c = true then Q (.bl true) H1 else tb σ H1 Q
def tNotV (ta : TE) : TE := fun σ H Q => ta σ H fun x H1 => ∃ c, x = .bl c ∧ Q (.bl (!c)) H1
theorem pe_one {op} {t : TE} (h : PE X a t) : PE X (.BoolOp op [a] pos) t := fun pins s σ H Q I hw => BoolOp_one (h pins s σ H Q I hw)
theorem pe_and (ha : PE X a ta) (hb : PE X (.BoolOp .And (b :: rest) pos) tb) : PE X (.BoolOp .And (a :: b :: rest) pos) (tAndV ta tb) := by
  intro pins s σ H Q I h
  refine BoolOp_and (thn (ha pins s σ H _ I h) fun v s1 ⟨x, H1, I1, r1, q1⟩ => ?_)
  obtain ⟨c, rfl, q1⟩ := q1
  cases r1
  refine wpAny_truthy_bool ?_
  cases c with
  | true => exact hb pins s1 σ H1 Q I1 q1
  | false => exact ⟨.bl false, H1, I1, rfl, q1⟩
theorem pe_or (ha : PE X a ta) (hb : PE X (.BoolOp .Or (b :: rest) pos) tb) : PE X (.BoolOp .Or (a :: b :: rest) pos) (tOrV ta tb) := by
  intro pins s σ H Q I h
  refine BoolOp_or (thn (ha pins s σ H _ I h) fun v s1 ⟨x, H1, I1, r1, q1⟩ => ?_)
  obtain ⟨c, rfl, q1⟩ := q1
  cases r1
  refine wpAny_truthy_bool ?_
  cases c with
  | false => exact hb pins s1 σ H1 Q I1 q1
  | true => exact ⟨.bl true, H1, I1, rfl, q1⟩
theorem pe_not (ha : PE X a ta) : PE X (.UnaryOp .Not a pos) (tNotV ta) := by
  intro pins s σ H Q I h
  refine UnaryOp_ (thn (ha pins s σ H _ I h) fun v s1 ⟨x, H1, I1, r1, q1⟩ => ?_)
  obtain ⟨c, rfl, q1⟩ := q1
  cases r1
  exact not_of (wpAny_truthy_bool ⟨.bl (!c), H1, I1, rfl, q1⟩)
/-- a if t else b -/
def tIf (t : TT) (ta tb : TE) : TE := fun σ H Q => t σ H fun c H1 => if c = true then ta σ H1 Q else tb σ H1 Q
theorem pe_ifExp {c : Expr} (hc : PT X c tA) (ha : PE X a ta) (hb : PE X b tb) : PE X (.IfExp c a b pos) (tIf tA ta tb) := by
  intro pins s σ H Q I h
  refine wpAny_IfExp (thn (hc pins s σ H _ I h) fun d s1 ⟨H1, I1, q1⟩ => ?_)
  cases d with
  | true => exact ha pins s1 σ H1 Q I1 q1
  | false => exact hb pins s1 σ H1 Q I1 q1
end
end L2

namespace L2
open PySem PySem.Spec PyProof.Rows

/-! ### a list, a tuple that is read: tracked, frozen, or an object of the module -/
def SqL (K : PySem.W.Frag) (H : Hp) (a : Addr) (xs : List V) : Prop :=
  Rd H a (.lst xs) ∨
    ∃ (o : Obj) (its : Array Value) (n : Nat), K.lookup a = some o ∧ o.cls = .type "list" ∧ o.dict = none ∧ o.data = .seq its n ∧ its.size ≤ sizeLine ∧ Vals xs its.toList
def SqT (K : PySem.W.Frag) (H : Hp) (a : Addr) (xs : List V) : Prop :=
  Rd H a (.tup xs) ∨
    ∃ (o : Obj) (its : Array Value) (n : Nat), K.lookup a = some o ∧ o.cls = .type "tuple" ∧ o.data = .seq its n ∧ its.size ≤ sizeLine ∧ Vals xs its.toList
def absV : Value → Option V
  | .none => some .non
  | .bool b => some (.bl b)
  | .int i _ => some (.int i)
  | .str x _ => some (.str x)
  | .bytes b _ => some (.byt b)
  | .float b _ => some (.flt b)
  | .ref a => some (.ref a)
  | .type n => some (.ty n)
  | _ => none
theorem RelV.abs {x : V} {u : Value} (r : RelV x u) : absV u = some x := by
  cases x with
  | non => cases r; rfl
  | bl _ => cases r; rfl
  | int _ => obtain ⟨t, rfl⟩ := r; rfl
  | str _ => obtain ⟨t, rfl⟩ := r; rfl
  | byt _ => obtain ⟨t, rfl⟩ := r; rfl
  | flt _ => obtain ⟨t, rfl⟩ := r; rfl
  | ref _ => cases r; rfl
  | ty _ => cases r; rfl
theorem RelV.inj {x y : V} {u : Value} (r : RelV x u) (q : RelV y u) : x = y := Option.some.inj (r.abs.symm.trans q.abs)
theorem Vals.inj : ∀ {xs ys : List V} {us : List Value}, Vals xs us → Vals ys us → xs = ys
  | _, _, _, .nil, .nil => rfl
  | _, _, _, .cons r t, .cons r' t' => by rw [r.inj r', Vals.inj t t']
section
variable {X : Cx} {pins : List (Addr × Obj)} {σ : St} {H : Hp} {s : Shared} {a : Addr} {xs ys : List V}
theorem SqL.of {K : PySem.W.Frag} (h : H a = some (.lst xs)) : SqL K H a xs := .inl (.inl h)
theorem SqT.of {K : PySem.W.Frag} (h : H a = some (.tup xs)) : SqT K H a xs := .inl (.inl h)
theorem Inv.list (I : Inv X pins σ H s) (h : SqL X.K H a xs) : ∃ its : List Value, Vals xs its ∧ PlainL s.heap a its.toArray ∧ xs.length ≤ sizeLine := by
  rcases h with h | ⟨o, its, n, hk, hc, hd, hs, hz, r⟩
  · obtain ⟨z, its, n, r, e⟩ := h.ok I.hok
    exact ⟨its, r, ⟨_, n, e, rfl, rfl, rfl⟩, z⟩
  · refine ⟨its.toList, r, ⟨o, n, I.kIn a o hk, hc, hd, by simpa using hs⟩, ?_⟩
    have e := r.length
    simp only [Array.length_toList] at e
    omega
theorem Inv.tuple (I : Inv X pins σ H s) (h : SqT X.K H a xs) : ∃ its : List Value, Vals xs its ∧ IsTup s.heap a its.toArray ∧ xs.length ≤ sizeLine := by
  rcases h with h | ⟨o, its, n, hk, hc, hs, hz, r⟩
  · obtain ⟨z, its, r, p⟩ := h.ok I.hok
    exact ⟨its, r, p, z⟩
  · refine ⟨its.toList, r, ⟨o, I.kIn a o hk, hc, n, by simpa using hs⟩, ?_⟩
    have e := r.length
    simp only [Array.length_toList] at e
    omega
theorem Inv.list_inj (I : Inv X pins σ H s) (h : SqL X.K H a xs) (h' : SqL X.K H a ys) : xs = ys := by
  obtain ⟨its, r, ⟨o, n, e, _, _, d⟩, _⟩ := I.list h
  obtain ⟨its', r', ⟨o', n', e', _, _, d'⟩, _⟩ := I.list h'
  rw [e] at e'; cases e'
  rw [d] at d'
  injection d' with d1 _
  have : its = its' := by simpa using congrArg Array.toList d1
  subst this
  exact r.inj r'
theorem Inv.tuple_inj (I : Inv X pins σ H s) (h : SqT X.K H a xs) (h' : SqT X.K H a ys) : xs = ys := by
  obtain ⟨its, r, ⟨o, e, _, n, d⟩, _⟩ := I.tuple h
  obtain ⟨its', r', ⟨o', e', _, n', d'⟩, _⟩ := I.tuple h'
  rw [e] at e'; cases e'
  rw [d] at d'
  injection d' with d1 _
  have : its = its' := by simpa using congrArg Array.toList d1
  subst this
  exact r.inj r'
end

/-! ### another wish about exceptions -/
abbrev Cx.wish (X : Cx) (E : Value → Shared → Prop) : Cx := { X with xe := E }
/-- no exception leaves -/
abbrev Cx.nox (X : Cx) : Cx := X.wish fun _ _ => False
theorem Cx.Ok.wish {X : Cx} (ok : X.Ok) (E : Value → Shared → Prop) : (X.wish E).Ok :=
  ⟨ok.mod, ok.kind, ok.glob, ok.blt, ok.above, ok.inj, ok.has, ok.cab, ok.hd, ok.frames, ok.stk, ok.exf, ok.bs, ok.bsz, ok.noex, ok.exfs, ok.funs, ok.frf⟩
theorem Cx.Ok.unwish {X : Cx} {E : Value → Shared → Prop} (ok : (X.wish E).Ok) : X.Ok :=
  ⟨ok.mod, ok.kind, ok.glob, ok.blt, ok.above, ok.inj, ok.has, ok.cab, ok.hd, ok.frames, ok.stk, ok.exf, ok.bs, ok.bsz, ok.noex, ok.exfs, ok.funs, ok.frf⟩
section
variable {X : Cx} {pins : List (Addr × Obj)} {σ : St} {H : Hp} {s : Shared} {E : Value → Shared → Prop}
theorem Inv.wish (I : Inv X pins σ H s) (E : Value → Shared → Prop) : Inv (X.wish E) pins σ H s := ⟨I.ok.wish E, I.os, I.bare, I.base, I.loc, I.cell, I.free, I.freeC, I.pin, I.hok, I.len⟩
theorem Inv.unwish (I : Inv (X.wish E) pins σ H s) : Inv X pins σ H s := ⟨I.ok.unwish, I.os, I.bare, I.base, I.loc, I.cell, I.free, I.freeC, I.pin, I.hok, I.len⟩
theorem SP.unwish {D : Ends} {f : Flow} {s' : Shared} (h : SP (X.wish E) pins D f s') : SP X pins D f s' := by
  cases f with
  | next => obtain ⟨σ', H', I, q⟩ := h; exact ⟨σ', H', I.unwish, q⟩
  | brk => obtain ⟨σ', H', I, q⟩ := h; exact ⟨σ', H', I.unwish, q⟩
  | cont => obtain ⟨σ', H', I, q⟩ := h; exact ⟨σ', H', I.unwish, q⟩
  | ret u => obtain ⟨v, σ', H', I, r, q⟩ := h; exact ⟨v, σ', H', I.unwish, r, q⟩
theorem PE.nox {e : Expr} {t : TE} (h : PE X.nox e t) : PE X e t := fun pins s σ H Q I hw =>
  wpAny_mono (h pins s σ H Q (I.wish _) hw) (fun _ _ ⟨v, H', I', r, q⟩ => ⟨v, H', I'.unwish, r, q⟩) fun _ _ z => False.elim z
theorem PT.nox {e : Expr} {t : TT} (h : PT X.nox e t) : PT X e t := fun pins s σ H Q I hw =>
  wpAny_mono (h pins s σ H Q (I.wish _) hw) (fun _ _ ⟨H', I', q⟩ => ⟨H', I'.unwish, q⟩) fun _ _ z => False.elim z
theorem PSs.nox {st : List Stmt} {t : TS} (h : PSs X.nox st t) : PSs X st t := fun pins s σ H D I hw =>
  wpAny_mono (h pins s σ H D (I.wish _) hw) (fun _ _ q => q.unwish) fun _ _ z => False.elim z
end

/-! ### blocks and small statements -/
section
variable {X : Cx} {st : Stmt} {rest : List Stmt} {t u : TS} {e : Expr} {te : TE} {pos : Pos}
def tNext : TS := fun D σ H => D.nx σ H
def tSeq (t u : TS) : TS := fun D σ H => t { D with nx := u D } σ H
theorem pss_nil : PSs X [] tNext := fun _ _ σ H _ I h => wpAny_execs_nil ⟨σ, H, I, h⟩
theorem pss_cons (h1 : PS X st t) (h2 : PSs X rest u) : PSs X (st :: rest) (tSeq t u) := by
  intro pins s σ H D I h
  refine wpAny_execs_cons (thn (h1 pins s σ H { D with nx := u D } I h) fun f s1 q => ?_)
  cases f with
  | next =>
    obtain ⟨σ', H', I', q⟩ := q
    exact h2 pins s1 σ' H' D I' q
  | ret v => exact q
  | brk => exact q
  | cont => exact q
theorem pss_one (h1 : PS X st t) : PSs X [st] t := by
  intro pins s σ H D I h
  refine wpAny_execs_cons (thn (h1 pins s σ H D I h) fun f s1 q => ?_)
  cases f with
  | next => exact wpAny_execs_nil q
  | ret v => exact q
  | brk => exact q
  | cont => exact q
def tBreak : TS := fun D σ H => D.bk σ H
def tCont : TS := fun D σ H => D.ct σ H
theorem ps_pass : PS X (.Pass pos) tNext := fun _ _ σ H _ I h => wpAny_Pass ⟨σ, H, I, h⟩
theorem ps_break : PS X (.Break pos) tBreak := fun _ _ σ H _ I h => wpAny_Break ⟨σ, H, I, h⟩
theorem ps_continue : PS X (.Continue pos) tCont := fun _ _ σ H _ I h => wpAny_Continue ⟨σ, H, I, h⟩
/-- in a def's body nothing is shown -/
theorem Inv.quiet {pins : List (Addr × Obj)} {σ : St} {H : Hp} {s : Shared} (I : Inv X pins σ H s) : interactive X.env = false := by simp [interactive, I.ok.kind]
/-- a docstring -/
theorem ps_doc {x j pos pos'} : PS X (.Expr (.Constant (.str x) j pos) pos') tNext := fun _ s σ H _ I h => wpAny_Expr (Calls.Constant_str (show SP X _ _ .next { s with toks := s.toks + 1 } from ⟨σ, H, I.tok _, h⟩)) I.quiet
/-- an expression whose value is dropped -/
def tDrop (te : TE) : TS := fun D σ H => te σ H fun _ H1 => D.nx σ H1
theorem ps_expr (he : PE X e te) (hs : swapsWith e none pos.line X.env = pure false := by rfl) : PS X (.Expr e pos) (tDrop te) := by
  intro pins s σ H D I h
  exact wpAny_Expr_any (thn (he pins s σ H _ I h) fun v s1 ⟨x, H1, I1, r1, q1⟩ => ⟨σ, H1, I1, q1⟩) I.quiet hs
def tRet (te : TE) : TS := fun D σ H => te σ H D.rt
theorem ps_ret (he : PE X e te) : PS X (.Return (some e) pos) (tRet te) := by
  intro pins s σ H D I h
  exact wpAny_Return_some (thn (he pins s σ H _ I h) fun v s1 ⟨x, H1, I1, r1, q1⟩ => ⟨x, σ, H1, I1, r1, q1⟩)
def tRetN : TS := fun D _ H => D.rt .non H
theorem ps_retN : PS X (.Return none pos) tRetN := fun _ _ σ H _ I h => wpAny_Return_none ⟨.non, σ, H, I, rfl, h⟩
def tIfS (c : TT) (t u : TS) : TS := fun D σ H => c σ H fun b H1 => if b = true then t D σ H1 else u D σ H1
theorem ps_if {c : Expr} {a b : List Stmt} {tc : TT} (hc : PT X c tc) (ha : PSs X a t) (hb : PSs X b u) : PS X (.If c a b pos) (tIfS tc t u) := by
  intro pins s σ H D I h
  refine wpAny_If (thn (hc pins s σ H _ I h) fun d s1 ⟨H1, I1, q1⟩ => ?_)
  cases d with
  | true => exact ha pins s1 σ H1 D I1 q1
  | false => exact hb pins s1 σ H1 D I1 q1
/-- code that the proof never comes to -/
def tNever : TS := fun _ _ _ => False
theorem ps_never : PS X st tNever := fun _ _ _ _ _ _ h => h.elim
theorem pss_never {sts : List Stmt} : PSs X sts tNever := fun _ _ _ _ _ _ h => h.elim
end

/-! ### targets -/
abbrev TG := V → St → Hp → (St → Hp → Prop) → Prop
abbrev TGs := List V → St → Hp → (St → Hp → Prop) → Prop
def PG (X : Cx) (target : Expr) (t : TG) : Prop :=
  ∀ (pins : List (Addr × Obj)) (s : Shared) (σ : St) (H : Hp) (v : V) (u : Value) (Q : St → Hp → Prop), Inv X pins σ H s → RelV v u → t v σ H Q →
    wpAny (model X.prog X.w) X.A (assign target X.env u) (fun _ s' => ∃ σ' H', Inv X pins σ' H' s' ∧ Q σ' H') X.xe s
/-- several targets, one after another -/
def PGs (X : Cx) (ts : List Expr) (t : TGs) : Prop :=
  ∀ (pins : List (Addr × Obj)) (s : Shared) (σ : St) (H : Hp) (vs : List V) (us : List Value) (Q : St → Hp → Prop), Inv X pins σ H s → Vals vs us → t vs σ H Q →
    wpAny (model X.prog X.w) X.A (assignInOrder ((assignEach ts X.env).map (·.2)) us) (fun _ s' => ∃ σ' H', Inv X pins σ' H' s' ∧ Q σ' H') X.xe s
/-- o[i] = v, by values -/
abbrev TSet := V → V → V → Hp → (Hp → Prop) → Prop
def PSet (X : Cx) (t : TSet) : Prop :=
  ∀ (pins : List (Addr × Obj)) (s : Shared) (σ : St) (H : Hp) (o i v : V) (ov iv u : Value) (Q : Hp → Prop), Inv X pins σ H s → RelV o ov → RelV i iv → RelV v u → t o i v H Q →
    wpAny (model X.prog X.w) X.A (setItem ov iv u) (fun _ s' => ∃ H', Inv X pins σ H' s' ∧ Q H') X.xe s
/-- a op= b, by values -/
abbrev TIp := V → V → Hp → VK → Prop
def PIp (X : Cx) (op : Operator) (t : TIp) : Prop :=
  ∀ (pins : List (Addr × Obj)) (s : Shared) (σ : St) (H : Hp) (x y : V) (v u : Value) (Q : VK), Inv X pins σ H s → RelV x v → RelV y u → t x y H Q →
    wpAny (model X.prog X.w) X.A (inplaceOp op v u) (EP X pins σ Q) X.xe s
section
variable {X : Cx} {pos : Pos}
def gName (i : Nat) : TG := fun v σ H Q => Q (σ.set i (some v)) H
theorem pg_name {i : Nat} {x : Str} (hN : X.N.Nodup) (hi : X.N[i]? = some x) (hx : Loc X.env.scope x) (hf : X.fn x = true ∨ X.env.scope.names.lookup x = some .local := by first | exact .inl rfl | exact .inr rfl | assumption) : PG X (.Name x pos) (gName i) := by
  intro pins s σ H v u Q I r h
  exact wpAny_assign_Name (store_ok I hN hi hx r (fun s' I' => ⟨_, H, I', h⟩) hf)
def gNil : TGs := fun vs σ H Q => vs = [] ∧ Q σ H
def gCons (t : TG) (u : TGs) : TGs := fun vs σ H Q => ∃ v r, vs = v :: r ∧ t v σ H fun σ' H' => u r σ' H' Q
theorem pgs_nil : PGs X [] gNil := by
  intro pins s σ H vs us Q I r h
  obtain ⟨e, h⟩ := h
  subst e
  cases r
  exact assignInOrder_nil ⟨σ, H, I, h⟩
theorem pgs_cons {e : Expr} {es : List Expr} {t : TG} {u : TGs} (h1 : PG X e t) (h2 : PGs X es u)
    (hs : (assignEach (e :: es) X.env).map (·.2) = assign e X.env :: (assignEach es X.env).map (·.2) := by rfl) : PGs X (e :: es) (gCons t u) := by
  intro pins s σ H vs us Q I r h
  obtain ⟨v, vr, e1, h⟩ := h
  subst e1
  cases r with
  | cons r rr =>
    rw [hs]
    refine assignInOrder_cons (thn (h1 pins s σ H _ _ _ I r h) fun _ s1 ⟨σ1, H1, I1, q1⟩ => ?_)
    exact h2 pins s1 σ1 H1 _ _ Q I1 rr q1
/-- (a, b, ..) = a tuple of that length -/
def gTup (K : PySem.W.Frag) (n : Nat) (t : TGs) : TG := fun v σ H Q => ∃ a xs, v = .ref a ∧ SqT K H a xs ∧ xs.length = n ∧ t xs σ H Q
theorem pg_tup {es : List Expr} {k : Nat} {t : TGs} {n : Nat} (hc : X.calm = true) (h : PGs X es t)
    (hn : (assignEach es X.env).length = n := by rfl) (hst : (assignEach es X.env).findIdx? (·.1) = none := by rfl) : PG X (.Tuple es k pos) (gTup X.K n t) := by
  intro pins s σ H v u Q I r hw
  obtain ⟨a, xs, e1, hq, hl, hw⟩ := hw
  subst e1
  cases r
  obtain ⟨its, rv, ht, hz⟩ := I.tuple hq
  refine assign_Tuple_tuple (I.ok.hd hc) ht (by simp [hn, ← hl, rv.length]) hst fun h' hx => ?_
  have I1 : Inv X pins σ H { s with heap := h' } := I.kept (t' := s.toks) fun b o e => hx b o (Nat.ne_of_lt (Heap.lt_size e)) e
  exact h pins _ σ H xs _ Q I1 (by simpa using rv) hw
/-- o[i] = .. -/
def gSub (to ti : TE) (t : TSet) : TG := fun v σ H Q => to σ H fun o H1 => ti σ H1 fun i H2 => t o i v H2 fun H3 => Q σ H3
theorem pg_sub {o i : Expr} {to ti : TE} {t : TSet} (ho : PE X o to) (hi : PE X i ti) (hs : PSet X t)
    (ha : ∀ v, assign (.Subscript o i pos) X.env v = (do
      let ov ← holding [v] (eval o X.env)
      let iv ← holding [v, ov] (eval i X.env)
      standAt pos
      holding [v, ov, iv] (setItem ov iv v)
      release [v, ov, iv] []) := by intro _; rfl) : PG X (.Subscript o i pos) (gSub to ti t) := by
  intro pins s σ H v u Q I r h
  rw [ha]
  refine wpAny_bind (wpAny_holding (thn (ho pins s σ H _ I h) fun ov s1 ⟨x, H1, I1, r1, q1⟩ => ?_))
  refine wpAny_bind (wpAny_holding (thn (hi pins s1 σ H1 _ I1 q1) fun iv s2 ⟨y, H2, I2, r2, q2⟩ => ?_))
  refine wpAny_bind (wpAny_standAt (wpAny_bind (wpAny_holding (thn (hs pins s2 σ H2 x y v ov iv u _ I2 r1 r2 r q2) fun _ s3 ⟨H3, I3, q3⟩ => ?_))))
  exact wpAny_release ⟨σ, H3, I3, q3⟩
/-- target = value -/
def tAsg (te : TE) (g : TG) : TS := fun D σ H => te σ H fun x H1 => g x σ H1 D.nx
theorem ps_asg {tg e : Expr} {te : TE} {g : TG} (he : PE X e te) (hg : PG X tg g) (hs : swapsWithSole [tg] e pos.line X.env = pure false := by rfl) (hw : swappedStores [tg] e X.env = pure none := by rfl)
    (h1 : (assignEach [tg] X.env).map (·.2) = [assign tg X.env] := by rfl) : PS X (.Assign [tg] e pos) (tAsg te g) := by
  intro pins s σ H D I h
  refine wpAny_Assign_stores (thn (he pins s σ H _ I h) fun v s1 ⟨x, H1, I1, r1, q1⟩ => ?_) hs hw
  rw [h1]
  exact thn (hg pins s1 σ H1 x v _ I1 r1 q1) fun _ s2 q => q
/-- name = value -/
theorem ps_set {i : Nat} {x : Str} {e : Expr} {te : TE} {pos' : Pos} (hN : X.N.Nodup) (hi : X.N[i]? = some x) (hx : Loc X.env.scope x) (he : PE X e te) (hs : swapsWith e (some (.Name x pos')) pos.line X.env = pure false := by rfl) (hf : X.fn x = true ∨ X.env.scope.names.lookup x = some .local := by first | exact .inl rfl | exact .inr rfl | assumption) :
    PS X (.Assign [.Name x pos'] e pos) (tAsg te (gName i)) := by
  intro pins s σ H D I h
  refine wpAny_Assign_Name (thn (he pins s σ H _ I h) fun v s1 ⟨y, H1, I1, r1, q1⟩ => ?_) hs
  exact store_ok I1 hN hi hx r1 (fun s2 I2 => ⟨_, H1, I2, q1⟩) hf
/-- a, b = x, y with plain local names: stored from the right; the pair itself is not tracked (the opening rows as in PyProof/Rows/TupAssign.lean:23) -/
def tPar (i j : Nat) (ta : TA) : TS := fun D σ H => ta σ H fun vs H1 => ∃ v w, vs = [v, w] ∧ D.nx ((σ.set i (some v)).set j (some w)) H1
theorem ps_par {i j : Nat} {x y : Str} {a b : Expr} {ta : TA} {px py pt : Pos} {kt k2 pt2} (hc : X.calm = true) (hN : X.N.Nodup) (hi : X.N[i]? = some x) (hj : X.N[j]? = some y) (hij : i ≠ j)
    (hx : X.env.scope.names.lookup x = some .local) (hy : X.env.scope.names.lookup y = some .local) (ha : PA X [a, b] ta)
    (hw : swappedStores [.Tuple [.Name x px, .Name y py] kt pt] (.Tuple [a, b] k2 pt2) X.env = pure (some [x, y]))
    (hs : swapsWithSole [.Tuple [.Name x px, .Name y py] kt pt] (.Tuple [a, b] k2 pt2) pos.line X.env = pure false := by rfl) :
    PS X (.Assign [.Tuple [.Name x px, .Name y py] kt pt] (.Tuple [a, b] k2 pt2) pos) (tPar i j ta) := by
  intro pins s σ H D I h
  rw [exec_Assign_arm]
  refine wpAny_bind (wpAny_standAt ?_)
  rw [hs]
  refine wpAny_bind (wpAny_pure ?_)
  rw [if_neg (by decide)]
  refine wpAny_bind (Tuple_ (thn (ha _ pins s σ H _ I h) fun us s1 ⟨vs, H1, I1, r1, q1⟩ => ?_))
  obtain ⟨v, w, e1, q1⟩ := q1
  subst e1
  obtain ⟨u1, u2, rfl, rv, rw'⟩ : ∃ u1 u2, us = [u1, u2] ∧ RelV v u1 ∧ RelV w u2 := by
    cases r1 with
    | cons p q =>
      cases q with
      | cons p' q' =>
        cases q'
        exact ⟨_, _, rfl, p, p'⟩
  refine wpAny_newObj_type ?_ (by show 2 ≤ sizeLine; decide)
  have I2 : Inv X pins σ H1 { s1 with heap := s1.heap.push { cls := .type "tuple", data := .seq [u1, u2].toArray } } := I1.kept (t' := s1.toks) fun b o e => Heap.get?_push_of_some _ e
  rw [hw]
  refine wpAny_bind (wpAny_pure ?_)
  show wpAny (model X.prog X.w) X.A (do rule "assign.swapped-stores"; let items ← unpackItems (.ref s1.heap.objs.size) 2 none; assignInOrder [fun v => bindName X.env y v, fun v => bindName X.env x v] items.reverse; pure Flow.next) _ _ _
  refine wpAny_bind (wpAny_rule (wpAny_bind (unpackItems_tuple (items := #[u1, u2]) (I.ok.hd hc) (IsTup.new s1.heap _) fun h' hx' => ?_)))
  have I3 := I2.kept (h' := h') (t' := s1.toks) fun b o e => hx' b o (Nat.ne_of_lt (Heap.lt_size e)) e
  show wpAny _ _ (assignInOrder [fun v => bindName X.env y v, fun v => bindName X.env x v] [u2, u1] >>= fun _ => pure Flow.next) _ _ _
  refine wpAny_bind (assignInOrder_cons (wpAny_bindName (store_ok I3 hN hj (.inl hy) rw' (fun s2 I4 => ?_) (.inr hy))))
  refine assignInOrder_cons (wpAny_bindName (store_ok I4 hN hi (.inl hx) rv (fun s3 I5 => assignInOrder_nil (wpAny_pure ?_)) (.inr hx)))
  rw [List.set_comm _ _ (Ne.symm hij)] at I5
  exact ⟨_, H1, I5, q1⟩
/-- name op= e -/
def tAug (i : Nat) (te : TE) (ti : TIp) : TS := fun D σ H => ∃ x, σ[i]? = some (some x) ∧ te σ H fun y H1 => ti x y H1 fun z H2 => D.nx (σ.set i (some z)) H2
theorem ps_aug {i : Nat} {x : Str} {e : Expr} {te : TE} {op : Operator} {ti : TIp} {pos' : Pos} (hN : X.N.Nodup) (hi : X.N[i]? = some x) (hx : Loc X.env.scope x) (he : PE X e te) (ho : PIp X op ti) (hf : X.fn x = true ∨ X.env.scope.names.lookup x = some .local := by first | exact .inl rfl | exact .inr rfl | assumption) :
    PS X (.AugAssign (.Name x pos') op e pos) (tAug i te ti) := by
  intro pins s σ H D I h
  obtain ⟨v, e1, h⟩ := h
  obtain ⟨m, hn, hl⟩ := I.loc
  have vis : Vis X.env.scope x := by rcases hx with k | k; exact .inl k; exact .inr (.inl k)
  obtain ⟨u, r, l⟩ := hl i x v hi e1 vis
  refine wpAny_AugAssign_Name ?_
  have go : wpAny (model X.prog X.w) X.A (eval e X.env) (fun w s₂ => wpAny (model X.prog X.w) X.A (inplaceOp op u w) (fun r s₃ => wpAny (model X.prog X.w) X.A (storeName X.env x r) (fun _ => SP X pins D .next) X.xe s₃) X.xe s₂) X.xe s := by
    refine thn (he pins s σ H _ I h) fun w s1 ⟨y, H1, I1, r1, q1⟩ => ?_
    refine thn (ho pins s1 σ H1 v y u w _ I1 r r1 q1) fun z s2 ⟨zv, H2, I2, r2, q2⟩ => ?_
    exact store_ok I2 hN hi hx r2 (fun s3 I3 => ⟨_, H2, I3, q2⟩) hf
  rcases l with ⟨hk, hm⟩ | ⟨hk, c, hc, hcell⟩
  · exact wpAny_loadName_local I.ok.kind hk hn hm go
  · rcases hk with hk | hk
    · exact wpAny_loadName_cell I.ok.kind hk hc hcell go
    · rcases hx with k | k
      · have : X.env.scope.names.lookup x = some .free := hk
        rw [k] at this; cases this
      · have : X.env.scope.names.lookup x = some .free := hk
        rw [k] at this; cases this
/-- o[i] op= e -/
def tAugS (to ti te : TE) (tget : V → V → Hp → VK → Prop) (tip : TIp) (tset : TSet) : TS := fun D σ H => to σ H fun o H1 => ti σ H1 fun i H2 => tget o i H2 fun x H3 => te σ H3 fun y H4 => tip x y H4 fun z H5 => tset o i z H5 fun H6 => D.nx σ H6
/-- o[i], by values -/
def PGet (X : Cx) (t : V → V → Hp → VK → Prop) : Prop :=
  ∀ (pins : List (Addr × Obj)) (s : Shared) (σ : St) (H : Hp) (o i : V) (ov iv : Value) (Q : VK), Inv X pins σ H s → RelV o ov → RelV i iv → t o i H Q →
    wpAny (model X.prog X.w) X.A (getItem ov iv) (EP X pins σ Q) X.xe s
theorem ps_augS {o i e : Expr} {to ti te : TE} {tget : V → V → Hp → VK → Prop} {tip : TIp} {tset : TSet} {op : Operator} {tpos : Pos} (ho : PE X o to) (hi : PE X i ti) (hg : PGet X tget) (he : PE X e te) (hp : PIp X op tip) (hs : PSet X tset)
    (ha : ∀ ov iv new, augStore i ov iv new = (do holding [new, ov, iv] (setItem ov iv new); release [new, ov, iv] []; pure .next) := by intros; rfl) : PS X (.AugAssign (.Subscript o i tpos) op e pos) (tAugS to ti te tget tip tset) := by
  intro pins s σ H D I h
  refine wpAny_AugAssign_SubscriptAny (thn (ho pins s σ H _ I h) fun ov s1 ⟨x1, H1, I1, r1, q1⟩ => ?_) ha
  refine thn (hi pins s1 σ H1 _ I1 q1) fun iv s2 ⟨x2, H2, I2, r2, q2⟩ => ?_
  refine thn (hg pins s2 σ H2 x1 x2 ov iv _ I2 r1 r2 q2) fun old s3 ⟨x3, H3, I3, r3, q3⟩ => ?_
  refine thn (he pins s3 σ H3 _ I3 q3) fun v s4 ⟨x4, H4, I4, r4, q4⟩ => ?_
  refine thn (hp pins s4 σ H4 x3 x4 old v _ I4 r3 r4 q4) fun new s5 ⟨x5, H5, I5, r5, q5⟩ => ?_
  exact thn (hs pins s5 σ H5 x1 x2 x5 ov iv new _ I5 r1 r2 r5 q5) fun _ s6 ⟨H6, I6, q6⟩ => ⟨σ, H6, I6, q6⟩
/-- ints -/
def ipI (f : Int → Int → Int) : TIp := fun x y H Q => ∃ i j, x = .int i ∧ y = .int j ∧ Q (.int (f i j)) H
theorem ip_add : PIp X .Add (ipI fun i j => i + j) := by
  intro pins s σ H x y v u Q I r1 r2 h
  obtain ⟨i, j, e1, e2, q⟩ := h
  subst e1; subst e2
  obtain ⟨t, rfl⟩ := r1
  obtain ⟨t', rfl⟩ := r2
  exact iadd_int ⟨.int _, H, I.tok _, ⟨_, rfl⟩, q⟩
theorem ip_sub : PIp X .Sub (ipI fun i j => i - j) := by
  intro pins s σ H x y v u Q I r1 r2 h
  obtain ⟨i, j, e1, e2, q⟩ := h
  subst e1; subst e2
  obtain ⟨t, rfl⟩ := r1
  obtain ⟨t', rfl⟩ := r2
  exact isub_int ⟨.int _, H, I.tok _, ⟨_, rfl⟩, q⟩
end

/-! ### while -/
section
variable {X : Cx} {pos : Pos}
/-- the invariant W with its measure -/
def tWhile (c : TT) (tb : TS) : TS := fun D σ H => ∃ W : Nat → St → Hp → Prop, (∃ m, W m σ H) ∧ ∀ m σ H, W m σ H →
  c σ H fun b H1 => if b = true then ∃ N : St → Hp → Prop, (∀ σ' H', N σ' H' → ∃ m', m' < m ∧ W m' σ' H') ∧ tb { D with nx := N, ct := N, bk := D.nx } σ H1 else D.nx σ H1
theorem ps_while {c : Expr} {body : List Stmt} {tc : TT} {tb : TS} (hp : PassesOwn (model X.prog X.w) X.A X.env X.xe) (hc : PT X c tc) (hb : PSs X body tb) : PS X (.While c body [] pos) (tWhile tc tb) := by
  intro pins s σ H D I h
  obtain ⟨W, ⟨m0, w0⟩, turn⟩ := h
  refine wpAny_While (codeAny_whileLoop (fun n s' => ∃ σ' H', Inv X pins σ' H' s' ∧ W n σ' H') ?_ m0 ⟨σ, H, I, w0⟩)
  rintro n s1 ⟨σ1, H1, I1, w1⟩
  refine wpAny_passesOwn hp (thn (hc pins s1 σ1 H1 _ I1 (turn n σ1 H1 w1)) fun b s2 ⟨H2, I2, q2⟩ => ?_)
  cases b with
  | true =>
    obtain ⟨N, hN, q2⟩ := q2
    rw [if_pos rfl]
    refine wpAny_passesOwn hp (thn (hb pins s2 σ1 H2 _ I2 q2) fun f s3 q3 => ?_)
    cases f with
    | next =>
      obtain ⟨σ3, H3, I3, n3⟩ := q3
      obtain ⟨m', hm, w3⟩ := hN σ3 H3 n3
      exact ⟨m', hm, σ3, H3, I3, w3⟩
    | cont =>
      obtain ⟨σ3, H3, I3, n3⟩ := q3
      obtain ⟨m', hm, w3⟩ := hN σ3 H3 n3
      exact ⟨m', hm, σ3, H3, I3, w3⟩
    | brk => exact q3
    | ret v => exact q3
  | false =>
    rw [if_neg Bool.false_ne_true]
    exact wpAny_execs_nil ⟨σ1, H2, I2, q2⟩
end

/-! ### what a loop or a comprehension walks -/
/-- at turn i: it yields x (the heap may grow), or it stops -/
structure It where
  go : Nat → Hp → Prop
  yld : Nat → Hp → V → Hp → Prop
  stop : Nat → Hp → Prop
/-- the iterator's own objects may turn: they are not the frame's, not pinned, younger than the entry (or a comprehension's own) -/
def FpOk (X : Cx) (pins : List (Addr × Obj)) (H : Hp) (b : Addr) : Prop :=
  H b = none ∧ b ≠ X.env.locals ∧ b ∉ X.fs ∧ (b ∈ X.ex ∨ X.s₀.heap.objs.size ≤ b) ∧ (∀ x c, X.env.cells.lookup x = some c → c ≠ b) ∧ ∀ p ∈ X.pn ++ pins, p.1 ≠ b
theorem Inv.fpOk {X : Cx} {pins : List (Addr × Obj)} {σ : St} {H H' : Hp} {s : Shared} {b : Addr} (I : Inv X pins σ H s) (hb : s.heap.objs.size ≤ b) (hn : H' b = none) : FpOk X pins H' b := by
  refine ⟨hn, Nat.ne_of_gt (Nat.lt_of_lt_of_le I.lt hb), I.nofs hb, .inr (Nat.le_trans I.sz hb), fun x c e z => ?_, fun p hp z => ?_⟩
  · obtain ⟨v, q⟩ := I.cell x c e
    exact absurd (Nat.lt_of_lt_of_le q.lt (by rw [z]; exact hb)) (Nat.lt_irrefl _)
  · exact absurd (Nat.lt_of_lt_of_le (Heap.lt_size (I.pin p hp).1) (by rw [z]; exact hb)) (Nat.lt_irrefl _)
structure Turn (P : Program) (w : World) (K : PySem.W.Frag) (tg : Expr) (J : It) (fp : List Addr) (it : Addr) (tn : Nat → Heap → Prop) : Prop where
  mem : it ∈ fp
  obj : ∀ i h, tn i h → ∀ b ∈ fp, ∃ o, h.get? b = some o ∧ ∀ v, o.data ≠ .cell v
  keep : ∀ i h h', tn i h → (∀ b ∈ fp, ∀ o, h.get? b = some o → h'.get? b = some o) → tn i h'
  item : ∀ (X : Cx), X.prog = P → X.w = w → X.K = K → X.calm = true → ∀ (i : Nat) (pins : List (Addr × Obj)) (s : Shared) (σ : St) (H : Hp) (E : Value → Shared → Prop), Inv X pins σ H s → (∀ b ∈ fp, FpOk X pins H b) → tn i s.heap → J.go i H →
    wpAny (model P w) X.A (pyNext (.ref it)) (fun r s1 => ∃ u, r = some u ∧
      wpAny (model P w) X.A (letOwnedTupleGo tg (.ref it) u) (fun _ s2 => ∃ x H', Inv X pins σ H' s2 ∧ RelV x u ∧ J.yld i H x H' ∧ tn (i + 1) s2.heap ∧ ∀ b ∈ fp, H' b = none) E s1) E s
  done : ∀ (X : Cx), X.prog = P → X.w = w → X.K = K → X.calm = true → ∀ (i : Nat) (pins : List (Addr × Obj)) (s : Shared) (σ : St) (H : Hp) (E : Value → Shared → Prop), Inv X pins σ H s → (∀ b ∈ fp, FpOk X pins H b) → tn i s.heap → J.stop i H →
    wpAny (model P w) X.A (pyNext (.ref it)) (fun r s1 => r = none ∧ Inv X pins σ H s1) E s
  self : ∀ (A : Around) (i : Nat) (s : Shared) (Q : Value → Shared → Prop) (E : Value → Shared → Prop), tn i s.heap → Q (.ref it) s → wpAny (model P w) A (pyIter (.ref it)) Q E s
abbrev TI := St → Hp → (It → Hp → Prop) → Prop
/-- an iterator has come -/
def PIE (X : Cx) (pins : List (Addr × Obj)) (σ : St) (tg : Expr) (R : It → Hp → Prop) (itv : Value) (s2 : Shared) : Prop :=
  ∃ (it : Addr) (fp : List Addr) (tn : Nat → Heap → Prop) (J : It) (H' : Hp), itv = .ref it ∧ Inv X pins σ H' s2 ∧ Turn X.prog X.w X.K tg J fp it tn ∧ tn 0 s2.heap ∧ (∀ b ∈ fp, FpOk X pins H' b) ∧ R J H'
def PI (X : Cx) (tg iter : Expr) (wi : TI) : Prop :=
  ∀ (pins : List (Addr × Obj)) (s : Shared) (σ : St) (H : Hp) (R : It → Hp → Prop), Inv X pins σ H s → wi σ H R →
    wpAny (model X.prog X.w) X.A (eval iter X.env) (fun v s1 => wpAny (model X.prog X.w) X.A (pyIter v) (PIE X pins σ tg R) X.xe s1) X.xe s

/-- the step ahead of the store is nothing for an iterator that keeps no tuple -/
theorem go_of {M : Model} {A : Around} {E : Value → Shared → Prop} {s : Shared} {tg : Expr} {it : Addr} {u : Value} {o : Obj} {n : String} {vs : Array Value} {Q : Unit → Shared → Prop} (ho : s.heap.get? it = some o) (hc : o.cls = .type n) (hd : o.data = .fields vs)
    (hn : ["enumerate", "zip", "dict_itemiterator", "dict_reverseitemiterator", "odict_iterator", "itertools.zip_longest", "itertools.pairwise"].contains n = false) (hQ : Q () s) : wpAny M A (letOwnedTupleGo tg (.ref it) u) Q E s := by
  unfold letOwnedTupleGo
  cases tg <;> first
    | exact wpAny_pure hQ
    | (cases u <;> first
        | exact wpAny_pure hQ
        | (refine wpAny_bind (wpAny_load ho ?_)
           rw [hc, hd]
           show wpAny M A (if (["enumerate", "zip", "dict_itemiterator", "dict_reverseitemiterator", "odict_iterator", "itertools.zip_longest", "itertools.pairwise"].contains n && vs[0]? == some (rawInt _)) = true then _ else _) Q E s
           rw [if_neg (by intro h; rw [hn, Bool.false_and] at h; cases h)]
           exact wpAny_pure hQ))

/-- the list at a, as it stands at each turn (a loop may append to it) -/
def Itl (K : PySem.W.Frag) (a : Addr) : It :=
  ⟨fun i H => ∃ xs x, SqL K H a xs ∧ xs[i]? = some x, fun i H x H' => H' = H ∧ ∀ xs, SqL K H a xs → xs[i]? = some x, fun i H => ∃ xs, SqL K H a xs ∧ xs.length ≤ i⟩
def Itt (K : PySem.W.Frag) (a : Addr) : It :=
  ⟨fun i H => ∃ xs x, SqT K H a xs ∧ xs[i]? = some x, fun i H x H' => H' = H ∧ ∀ xs, SqT K H a xs → xs[i]? = some x, fun i H => ∃ xs, SqT K H a xs ∧ xs.length ≤ i⟩
/-- lo, lo + 1, .. (n of them) -/
def Itr (lo : Int) (n : Nat) : It := ⟨fun i _ => i < n, fun i H x H' => H' = H ∧ x = .int (lo + i), fun i _ => n ≤ i⟩
theorem turn_list {P : Program} {w : World} {K : PySem.W.Frag} {tg : Expr} (a it : Addr) : Turn P w K tg (Itl K a) [it] it (fun i h => h.IsListIter it a i) where
  mem := by simp
  obj := fun i h st b hb => by
    have e : b = it := by simpa using hb
    subst e
    obtain ⟨o, e, c, d⟩ := st
    exact ⟨o, e, fun v z => by rw [d] at z; cases z⟩
  keep := fun i h h' st k => st.at fun o e => k it (by simp) o e
  item := by
    intro X hP hw hK hc i pins s σ H E I hf st hg
    subst hP hw hK
    obtain ⟨xs, x, hq, hx⟩ := hg
    obtain ⟨its, rv, p, hz⟩ := I.list hq
    obtain ⟨u, hu, ru⟩ := rv.get hx
    obtain ⟨f0, f1, f2, f3, f4, f5⟩ := hf it (by simp)
    refine wpAny_pyNext_list_item st p.isList (x := u) (by simpa using hu) fun h' st' sb => ?_
    have I1 : Inv X pins σ H { s with heap := h' } := I.turned (t' := s.toks) (fun b o hb e => (sb.2 b hb).trans e) f0 f1 f3 f4 f5
    obtain ⟨o, e, c, d⟩ := id st'
    exact ⟨u, rfl, go_of (s := { s with heap := h' }) e c d (by decide) ⟨x, H, I1, ru, ⟨rfl, fun ys hy => by rw [I.list_inj hy hq]; exact hx⟩, st', fun b hb => (hf b hb).1⟩⟩
  done := by
    intro X hP hw hK hc i pins s σ H E I hf st hg
    subst hP hw hK
    obtain ⟨xs, hq, hx⟩ := hg
    obtain ⟨its, rv, p, hz⟩ := I.list hq
    obtain ⟨f0, f1, f2, f3, f4, f5⟩ := hf it (by simp)
    have hl := rv.length
    exact wpAny_pyNext_list_end (I.ok.hd hc) st p.isList (by simp; omega) fun h' eb => ⟨rfl, I.turned (t' := s.toks) (fun b o hb e => eb b o hb e) f0 f1 f3 f4 f5⟩
  self := fun _ _ _ _ _ st h => wpAny_pyIter_listiter st h
theorem turn_tuple {P : Program} {w : World} {K : PySem.W.Frag} {tg : Expr} (a it : Addr) : Turn P w K tg (Itt K a) [it] it (fun i h => h.IsTupleIter it a i) where
  mem := by simp
  obj := fun i h st b hb => by
    have e : b = it := by simpa using hb
    subst e
    obtain ⟨o, e, c, d⟩ := st
    exact ⟨o, e, fun v z => by rw [d] at z; cases z⟩
  keep := fun i h h' st k => st.at fun o e => k it (by simp) o e
  item := by
    intro X hP hw hK hc i pins s σ H E I hf st hg
    subst hP hw hK
    obtain ⟨xs, x, hq, hx⟩ := hg
    obtain ⟨its, rv, p, hz⟩ := I.tuple hq
    obtain ⟨u, hu, ru⟩ := rv.get hx
    obtain ⟨f0, f1, f2, f3, f4, f5⟩ := hf it (by simp)
    refine wpAny_pyNext_tuple_item st (show s.heap.IsTuple a its.toArray from p) (x := u) (by simpa using hu) fun h' st' sb => ?_
    have I1 : Inv X pins σ H { s with heap := h' } := I.turned (t' := s.toks) (fun b o hb e => (sb.2 b hb).trans e) f0 f1 f3 f4 f5
    obtain ⟨o, e, c, d⟩ := id st'
    exact ⟨u, rfl, go_of (s := { s with heap := h' }) e c d (by decide) ⟨x, H, I1, ru, ⟨rfl, fun ys hy => by rw [I.tuple_inj hy hq]; exact hx⟩, st', fun b hb => (hf b hb).1⟩⟩
  done := by
    intro X hP hw hK hc i pins s σ H E I hf st hg
    subst hP hw hK
    obtain ⟨xs, hq, hx⟩ := hg
    obtain ⟨its, rv, p, hz⟩ := I.tuple hq
    obtain ⟨f0, f1, f2, f3, f4, f5⟩ := hf it (by simp)
    have hl := rv.length
    exact wpAny_pyNext_tuple_end (I.ok.hd hc) st (show s.heap.IsTuple a its.toArray from p) (by simp; omega) fun h' eb => ⟨rfl, I.turned (t' := s.toks) (fun b o hb e => eb b o hb e) f0 f1 f3 f4 f5⟩
  self := fun _ _ _ _ _ st h => wpAny_pyIter_tupleiter st h
theorem turn_range {P : Program} {w : World} {K : PySem.W.Frag} {tg : Expr} (it : Addr) (lo : Int) (n : Nat) : Turn P w K tg (Itr lo n) [it] it (fun i h => IsRangeIter h it (lo + (i : Nat) * 1) ((n : Int) - (i : Nat)) 1) where
  mem := by simp
  obj := fun i h st b hb => by
    have e : b = it := by simpa using hb
    subst e
    exact ⟨_, st, fun v z => by
      have z' : Data.fields _ = Data.cell v := z
      cases z'⟩
  keep := fun i h h' st k => k it (by simp) _ st
  item := by
    intro X hP hw hK hc i pins s σ H E I hf st hg
    subst hP hw hK
    obtain ⟨f0, f1, f2, f3, f4, f5⟩ := hf it (by simp)
    have W := Walks.range (prog := X.prog) (w := X.w) (I.ok.hd hc) it lo 1 n
    refine W.item i s _ _ hg st fun v h' tk hv st' kk => ?_
    obtain ⟨t, rfl⟩ := hv
    have I1 : Inv X pins σ H { s with heap := h', toks := tk } := I.turned (fun b o hb e => kk b o (by simpa using hb) e) f0 f1 f3 f4 f5
    refine ⟨_, rfl, go_of (s := { s with heap := h', toks := tk }) (n := "range_iterator") st' rfl rfl (by decide) ⟨.int (lo + i), H, I1, ⟨t, ?_⟩, ⟨rfl, rfl⟩, st', fun b hb => (hf b hb).1⟩⟩
    rw [Int.mul_one]
  done := by
    intro X hP hw hK hc i pins s σ H E I hf st hg
    subst hP hw hK
    obtain ⟨f0, f1, f2, f3, f4, f5⟩ := hf it (by simp)
    exact wpAny_pyNext_range_end (I.ok.hd hc) st (by have : n ≤ i := hg; omega) fun h' eb => ⟨rfl, I.turned (t' := s.toks) (fun b o hb e => eb b o hb e) f0 f1 f3 f4 f5⟩
  self := fun _ _ _ _ _ st h => wpAny_pyIter_rangeiter st h
end L2

namespace L2
open PySem PySem.Spec PyProof.Rows
section
variable {X : Cx} {tg : Expr}
def iList (K : PySem.W.Frag) (tl : TE) : TI := fun σ H R => tl σ H fun x H1 => ∃ a, x = .ref a ∧ (∃ xs, SqL K H1 a xs) ∧ R (Itl K a) H1
def iTup (K : PySem.W.Frag) (tl : TE) : TI := fun σ H R => tl σ H fun x H1 => ∃ a, x = .ref a ∧ (∃ xs, SqT K H1 a xs) ∧ R (Itt K a) H1
theorem pi_list {l : Expr} {tl : TE} (hl : PE X l tl) : PI X tg l (iList X.K tl) := by
  intro pins s σ H R I h
  refine thn (hl pins s σ H _ I h) fun v s1 ⟨x, H1, I1, r1, q1⟩ => ?_
  obtain ⟨a, e, ⟨xs, hq⟩, q⟩ := q1
  subst e
  cases r1
  obtain ⟨its, rv, p, hz⟩ := I1.list hq
  refine wpAny_pyIter_list p.isList ?_
  refine ⟨s1.heap.objs.size, [s1.heap.objs.size], _, _, H1, rfl, I1.kept (t' := s1.toks) fun b o e => Heap.get?_push_of_some _ e, turn_list a _, ⟨_, Heap.get?_push_size _ rfl, rfl, rfl⟩, fun b hb => ?_, q⟩
  have e : b = s1.heap.objs.size := by simpa using hb
  subst e
  exact I1.fpOk (Nat.le_refl _) (I1.hok.fresh (Nat.le_refl _))
theorem pi_tup {l : Expr} {tl : TE} (hl : PE X l tl) : PI X tg l (iTup X.K tl) := by
  intro pins s σ H R I h
  refine thn (hl pins s σ H _ I h) fun v s1 ⟨x, H1, I1, r1, q1⟩ => ?_
  obtain ⟨a, e, ⟨xs, hq⟩, q⟩ := q1
  subst e
  cases r1
  obtain ⟨its, rv, p, hz⟩ := I1.tuple hq
  refine wpAny_pyIter_tuple (show s1.heap.IsTuple a its.toArray from p) ?_
  refine ⟨s1.heap.objs.size, [s1.heap.objs.size], _, _, H1, rfl, I1.kept (t' := s1.toks) fun b o e => Heap.get?_push_of_some _ e, turn_tuple a _, ⟨_, Heap.get?_push_size _ rfl, rfl, rfl⟩, fun b hb => ?_, q⟩
  have e : b = s1.heap.objs.size := by simpa using hb
  subst e
  exact I1.fpOk (Nat.le_refl _) (I1.hok.fresh (Nat.le_refl _))
/-- a range object just made, walked -/
theorem range_it {pins : List (Addr × Obj)} {σ : St} {H : Hp} {s : Shared} {R : It → Hp → Prop} {E : Value → Shared → Prop} {lo hi : Int} {t u v : Tok} {tk : Nat} (I : Inv X pins σ H s) (h1 : -(2 ^ 62) ≤ lo) (h2 : lo < 2 ^ 62) (h3 : -(2 ^ 62) ≤ hi) (h4 : hi < 2 ^ 62)
    (q : R (Itr lo (hi - lo).toNat) H) : wpAny (model X.prog X.w) X.A (pyIter (.ref s.heap.objs.size)) (PIE X pins σ tg R) E { s with heap := s.heap.push { cls := .type "range", data := .fields #[.int lo t, .int hi u, .int 1 v] }, toks := tk } := by
  refine wpAny_pyIter_range (IsRange.new ..) (small_one h1 h2 h3 h4) ?_
  have I1 : Inv X pins σ H { s with heap := s.heap.push { cls := .type "range", data := .fields #[.int lo t, .int hi u, .int 1 v] }, toks := tk } := I.kept fun b o e => Heap.get?_push_of_some _ e
  refine ⟨(s.heap.push { cls := .type "range", data := .fields #[.int lo t, .int hi u, .int 1 v] }).objs.size, [(s.heap.push { cls := .type "range", data := .fields #[.int lo t, .int hi u, .int 1 v] }).objs.size], _, _, H, rfl,
    I1.kept (t' := tk) fun b o e => Heap.get?_push_of_some _ e, turn_range _ lo (hi - lo).toNat, ?_, fun b hb => ?_, q⟩
  · have e1 : lo + ((0 : Nat) : Int) * 1 = lo := by simp
    have e2 : (((hi - lo).toNat : Nat) : Int) - ((0 : Nat) : Int) = Builtin.Range.rangeSize lo hi 1 := by rw [rangeSize_one]; split <;> omega
    show IsRangeIter _ _ (lo + ((0 : Nat) : Int) * 1) ((((hi - lo).toNat : Nat) : Int) - ((0 : Nat) : Int)) 1
    rw [e1, e2]
    exact Heap.get?_push_size _ rfl
  · have e : b = (s.heap.push { cls := .type "range", data := .fields #[.int lo t, .int hi u, .int 1 v] }).objs.size := by simpa using hb
    subst e
    exact I1.fpOk (Nat.le_refl _) (I1.hok.fresh (Nat.le_refl _))
def iRng1 (ta : TA) : TI := fun σ H R => ta σ H fun vs H1 => ∃ j : Int, vs = [.int j] ∧ -(2 ^ 62) ≤ j ∧ j < 2 ^ 62 ∧ R (Itr 0 j.toNat) H1
def iRng2 (ta : TA) : TI := fun σ H R => ta σ H fun vs H1 => ∃ i j : Int, vs = [.int i, .int j] ∧ (-(2 ^ 62) ≤ i ∧ i < 2 ^ 62 ∧ -(2 ^ 62) ≤ j ∧ j < 2 ^ 62) ∧ R (Itr i (j - i).toNat) H1
theorem pi_range1 {a : Expr} {ta : TA} {p pos : Pos} (hg : Gl X "range") (hm : X.mg "range" = none) (ha : PA X [a] ta) (hs : starEach [a] X.env = [(false, eval a X.env)] := by rfl) : PI X tg (.Call (.Name "range" p) [a] [] pos) (iRng1 ta) := by
  intro pins s σ H R I h
  refine Call_ (ld_blt I hg hm boot_range (PyProof.Rows.callWith_type1 (thn (ha pos pins s σ H _ I h) fun us s1 ⟨vs, H1, I1, r1, q1⟩ => ?_) hs rfl))
  obtain ⟨j, e, q1, q2, q⟩ := q1
  subst e
  cases r1 with
  | cons r rr =>
    cases rr
    obtain ⟨t, rfl⟩ := r
    exact call_range_1 (range_it I1 (by omega) (by omega) q1 q2 (by simpa using q))
theorem pi_range2 {a b : Expr} {ta : TA} {p pos : Pos} (hg : Gl X "range") (hm : X.mg "range" = none) (ha : PA X [a, b] ta) (hs : starEach [a, b] X.env = [(false, eval a X.env), (false, eval b X.env)] := by rfl) (hs2 : starEach [b] X.env = [(false, eval b X.env)] := by rfl) :
    PI X tg (.Call (.Name "range" p) [a, b] [] pos) (iRng2 ta) := by
  intro pins s σ H R I h
  refine Call_ (ld_blt I hg hm boot_range (PyProof.Rows.callWith_type1 (thn (ha pos pins s σ H _ I h) fun us s1 ⟨vs, H1, I1, r1, q1⟩ => ?_) (by rw [hs, hs2]) (by rw [hs2]; rfl)))
  obtain ⟨i, j, e, ⟨q1, q2, q3, q4⟩, q⟩ := q1
  subst e
  cases r1 with
  | cons r rr =>
    cases rr with
    | cons r' rr =>
      cases rr
      obtain ⟨t, rfl⟩ := r
      obtain ⟨t', rfl⟩ := r'
      exact call_range_2 (range_it I1 q1 q2 q3 q4 q)

/-! ### for -/
/-- W: the invariant by the turn and a measure; N: what the body is to reach -/
def tFor (wi : TI) (g : TG) (tb : TS) : TS := fun D σ H => wi σ H fun J H1 => ∃ W : Nat → Nat → St → Hp → Prop, (∃ m, W 0 m σ H1) ∧ ∀ i m σ H, W i m σ H →
  (J.stop i H ∧ D.nx σ H) ∨ (J.go i H ∧ ∃ N : St → Hp → Prop, (∀ σ' H', N σ' H' → ∃ m', m' < m ∧ W (i + 1) m' σ' H') ∧ ∀ x H', J.yld i H x H' → g x σ H' fun σ2 H2 => tb { D with nx := N, ct := N, bk := D.nx } σ2 H2)
/-- the records at fp as they stand -/
def pinsAt (fp : List Addr) (h : Heap) : List (Addr × Obj) := fp.filterMap fun b => (h.get? b).map fun o => (b, o)
theorem mem_pinsAt {fp : List Addr} {h : Heap} {b : Addr} {o : Obj} (hb : b ∈ fp) (e : h.get? b = some o) : (b, o) ∈ pinsAt fp h := List.mem_filterMap.mpr ⟨b, hb, by rw [e]; rfl⟩
theorem of_pinsAt {fp : List Addr} {h : Heap} {p : Addr × Obj} (hp : p ∈ pinsAt fp h) : p.1 ∈ fp ∧ h.get? p.1 = some p.2 := by
  obtain ⟨b, hb, e⟩ := List.mem_filterMap.mp hp
  cases q : h.get? b with
  | none => rw [q] at e; cases e
  | some o =>
    rw [q] at e
    have e' : (b, o) = p := Option.some.inj e
    subst e'
    exact ⟨hb, q⟩
theorem Inv.pinned {pins : List (Addr × Obj)} {σ : St} {H : Hp} {s : Shared} {fp : List Addr} (I : Inv X pins σ H s) (hf : ∀ b ∈ fp, FpOk X pins H b) (ho : ∀ b ∈ fp, ∃ o, s.heap.get? b = some o ∧ ∀ v, o.data ≠ .cell v) : Inv X (pins ++ pinsAt fp s.heap) σ H s :=
  I.pins_of fun p hp => (List.mem_append.mp hp).elim (fun z => I.pin p (List.mem_append_right _ z)) fun z => by
    obtain ⟨hb, e⟩ := of_pinsAt z
    obtain ⟨f0, f1, f2, _⟩ := hf p.1 hb
    obtain ⟨o, e', d⟩ := ho p.1 hb
    rw [e] at e'; cases e'
    exact ⟨e, f0, f1, f2, d⟩
theorem Inv.unpinned {pins pl : List (Addr × Obj)} {σ : St} {H : Hp} {s : Shared} (I : Inv X (pins ++ pl) σ H s) : Inv X pins σ H s := I.pins_of fun p hp => I.pin p (List.mem_append_right _ (List.mem_append_left _ hp))
theorem ps_for {iter : Expr} {body : List Stmt} {wi : TI} {g : TG} {tb : TS} {pos : Pos} (hp : PassesOwn (model X.prog X.w) X.A X.env X.xe) (hc : X.calm = true) (hi : PI X tg iter wi) (hg : PG X tg g) (hb : PSs X body tb)
    (hs : ∀ x, foldedSetIterable iter X.env x = pure x := by intro _; rfl) : PS X (.For tg iter body [] pos) (tFor wi g tb) := by
  intro pins s σ H D I h
  refine wpAny_For (thn (hi pins s σ H _ I h) fun v s1 h1 => thn h1 fun itv s2 h2 => ?_) hs
  obtain ⟨it, fp, tn, J, H2, e, I2, T, st2, f2, W, ⟨m0, w0⟩, turn⟩ := h2
  subst e
  -- what stays true of the iterator's objects through the loop
  have stat : ∀ {H' : Hp}, (∀ b ∈ fp, H' b = none) → ∀ b ∈ fp, FpOk X pins H' b := fun hn b hb => ⟨hn b hb, (f2 b hb).2⟩
  refine codeAny_forLoop_any (fun n s' => ∃ i σ' H', Inv X pins σ' H' s' ∧ tn i s'.heap ∧ (∀ b ∈ fp, H' b = none) ∧ W i n σ' H') ?_ m0 ⟨0, σ, H2, I2, st2, fun b hb => (f2 b hb).1, w0⟩
  rintro n s3 ⟨i, σ3, H3, I3, st3, fr3, w3⟩
  rcases turn i n σ3 H3 w3 with ⟨stop, qn⟩ | ⟨go, N, hN, step⟩
  · refine wpAny_passesOwn hp (thn (T.done X rfl rfl rfl hc i pins s3 σ3 H3 X.xe I3 (stat fr3) st3 stop) fun r s4 ⟨hr, I4⟩ => ?_)
    subst hr
    exact wpAny_execs_nil ⟨σ3, H3, I4, qn⟩
  · refine wpAny_passesOwn hp (thn (T.item X rfl rfl rfl hc i pins s3 σ3 H3 X.xe I3 (stat fr3) st3 go) fun r s4 ⟨u, hr, h4⟩ => ?_)
    subst hr
    refine wpAny_passesOwn hp (thn h4 fun _ s5 ⟨x, H5, I5, r5, y5, st5, fr5⟩ => ?_)
    have I5' := I5.pinned (stat fr5) (T.obj _ _ st5)
    refine wpAny_passesOwn hp (thn (hg _ s5 σ3 H5 x u _ I5' r5 (step x H5 y5)) fun _ s6 ⟨σ6, H6, I6, q6⟩ => ?_)
    refine wpAny_passesOwn hp (thn (hb _ s6 σ6 H6 _ I6 q6) fun f s7 q7 => ?_)
    have again : ∀ {σ7 : St} {H7 : Hp}, Inv X (pins ++ pinsAt fp s5.heap) σ7 H7 s7 → N σ7 H7 → ∃ m, m < n ∧ ∃ i σ' H', Inv X pins σ' H' s7 ∧ tn i s7.heap ∧ (∀ b ∈ fp, H' b = none) ∧ W i m σ' H' := fun {σ7 H7} I7 n7 => by
      obtain ⟨m', hm, w7⟩ := hN σ7 H7 n7
      refine ⟨m', hm, i + 1, σ7, H7, I7.unpinned, T.keep _ _ _ st5 fun b hb o e => (I7.pin (b, o) (List.mem_append_right _ (List.mem_append_right _ (mem_pinsAt hb e)))).1, fun b hb => ?_, w7⟩
      obtain ⟨o, e, d⟩ := T.obj _ _ st5 b hb
      exact (I7.pin (b, o) (List.mem_append_right _ (List.mem_append_right _ (mem_pinsAt hb e)))).2.1
    cases f with
    | next => obtain ⟨σ7, H7, I7, n7⟩ := q7; exact again I7 n7
    | cont => obtain ⟨σ7, H7, I7, n7⟩ := q7; exact again I7 n7
    | brk => obtain ⟨σ7, H7, I7, q7⟩ := q7; exact ⟨σ7, H7, I7.unpinned, q7⟩
    | ret v => obtain ⟨x7, σ7, H7, I7, r7, q7⟩ := q7; exact ⟨x7, σ7, H7, I7.unpinned, r7, q7⟩
end

/-! ### the forms one uses -/
/-- over a list that the body leaves as it is -/
theorem for_list {K : PySem.W.Frag} {a : Addr} {xs : List V} {g : TG} {tb : TS} {D : Ends} {σ : St} {H : Hp} (Pv : Nat → St → Hp → Prop) (h0 : Pv 0 σ H) (hl : ∀ i σ H, i ≤ xs.length → Pv i σ H → SqL K H a xs)
    (hs : ∀ i x σ H, xs[i]? = some x → Pv i σ H → g x σ H fun σ2 H2 => tb { D with nx := Pv (i + 1), ct := Pv (i + 1), bk := D.nx } σ2 H2) (hd : ∀ σ H, Pv xs.length σ H → D.nx σ H) :
    ∃ W : Nat → Nat → St → Hp → Prop, (∃ m, W 0 m σ H) ∧ ∀ i m σ H, W i m σ H →
      ((Itl K a).stop i H ∧ D.nx σ H) ∨ ((Itl K a).go i H ∧ ∃ N : St → Hp → Prop, (∀ σ' H', N σ' H' → ∃ m', m' < m ∧ W (i + 1) m' σ' H') ∧ ∀ x H', (Itl K a).yld i H x H' → g x σ H' fun σ2 H2 => tb { D with nx := N, ct := N, bk := D.nx } σ2 H2) := by
  refine ⟨fun i m σ H => m = xs.length - i ∧ i ≤ xs.length ∧ Pv i σ H, ⟨xs.length, by simp, Nat.zero_le _, h0⟩, ?_⟩
  rintro i m σ H ⟨rfl, hi, p⟩
  have q := hl i σ H hi p
  by_cases hlt : i < xs.length
  · refine .inr ⟨⟨xs, xs[i], q, by simp [hlt]⟩, Pv (i + 1), fun σ' H' p' => ⟨xs.length - (i + 1), by omega, rfl, hlt, p'⟩, fun x H' y => ?_⟩
    obtain ⟨e, y⟩ := y
    subst e
    exact hs i x σ _ (y xs q) p
  · have e : i = xs.length := by omega
    subst e
    exact .inl ⟨⟨xs, q, Nat.le_refl _⟩, hd σ H p⟩
theorem for_tup {K : PySem.W.Frag} {a : Addr} {xs : List V} {g : TG} {tb : TS} {D : Ends} {σ : St} {H : Hp} (Pv : Nat → St → Hp → Prop) (h0 : Pv 0 σ H) (hl : ∀ i σ H, i ≤ xs.length → Pv i σ H → SqT K H a xs)
    (hs : ∀ i x σ H, xs[i]? = some x → Pv i σ H → g x σ H fun σ2 H2 => tb { D with nx := Pv (i + 1), ct := Pv (i + 1), bk := D.nx } σ2 H2) (hd : ∀ σ H, Pv xs.length σ H → D.nx σ H) :
    ∃ W : Nat → Nat → St → Hp → Prop, (∃ m, W 0 m σ H) ∧ ∀ i m σ H, W i m σ H →
      ((Itt K a).stop i H ∧ D.nx σ H) ∨ ((Itt K a).go i H ∧ ∃ N : St → Hp → Prop, (∀ σ' H', N σ' H' → ∃ m', m' < m ∧ W (i + 1) m' σ' H') ∧ ∀ x H', (Itt K a).yld i H x H' → g x σ H' fun σ2 H2 => tb { D with nx := N, ct := N, bk := D.nx } σ2 H2) := by
  refine ⟨fun i m σ H => m = xs.length - i ∧ i ≤ xs.length ∧ Pv i σ H, ⟨xs.length, by simp, Nat.zero_le _, h0⟩, ?_⟩
  rintro i m σ H ⟨rfl, hi, p⟩
  have q := hl i σ H hi p
  by_cases hlt : i < xs.length
  · refine .inr ⟨⟨xs, xs[i], q, by simp [hlt]⟩, Pv (i + 1), fun σ' H' p' => ⟨xs.length - (i + 1), by omega, rfl, hlt, p'⟩, fun x H' y => ?_⟩
    obtain ⟨e, y⟩ := y
    subst e
    exact hs i x σ _ (y xs q) p
  · have e : i = xs.length := by omega
    subst e
    exact .inl ⟨⟨xs, q, Nat.le_refl _⟩, hd σ H p⟩
theorem for_range {lo : Int} {n : Nat} {g : TG} {tb : TS} {D : Ends} {σ : St} {H : Hp} (Pv : Nat → St → Hp → Prop) (h0 : Pv 0 σ H)
    (hs : ∀ i σ H, i < n → Pv i σ H → g (.int (lo + i)) σ H fun σ2 H2 => tb { D with nx := Pv (i + 1), ct := Pv (i + 1), bk := D.nx } σ2 H2) (hd : ∀ σ H, Pv n σ H → D.nx σ H) :
    ∃ W : Nat → Nat → St → Hp → Prop, (∃ m, W 0 m σ H) ∧ ∀ i m σ H, W i m σ H →
      ((Itr lo n).stop i H ∧ D.nx σ H) ∨ ((Itr lo n).go i H ∧ ∃ N : St → Hp → Prop, (∀ σ' H', N σ' H' → ∃ m', m' < m ∧ W (i + 1) m' σ' H') ∧ ∀ x H', (Itr lo n).yld i H x H' → g x σ H' fun σ2 H2 => tb { D with nx := N, ct := N, bk := D.nx } σ2 H2) := by
  refine ⟨fun i m σ H => m = n - i ∧ i ≤ n ∧ Pv i σ H, ⟨n, by simp, Nat.zero_le _, h0⟩, ?_⟩
  rintro i m σ H ⟨rfl, hi, p⟩
  by_cases hlt : i < n
  · refine .inr ⟨hlt, Pv (i + 1), fun σ' H' p' => ⟨n - (i + 1), by omega, rfl, hlt, p'⟩, fun x H' y => ?_⟩
    obtain ⟨e, y⟩ := y
    subst e y
    exact hs i σ _ hlt p
  · have e : i = n := by omega
    subst e
    exact .inl ⟨Nat.le_refl _, hd σ H p⟩
/-- while, by a word and a measure of the state -/
theorem while_by {c : TT} {tb : TS} {D : Ends} {σ : St} {H : Hp} (Pv : St → Hp → Prop) (μ : St → Hp → Nat) (h0 : Pv σ H)
    (hs : ∀ σ H, Pv σ H → c σ H fun b H1 => if b = true then tb { D with nx := fun σ' H' => Pv σ' H' ∧ μ σ' H' < μ σ H, ct := fun σ' H' => Pv σ' H' ∧ μ σ' H' < μ σ H, bk := D.nx } σ H1 else D.nx σ H1)
    (mono : ∀ σ H Q Q', (∀ b H1, Q b H1 → Q' b H1) → c σ H Q → c σ H Q') : tWhile c tb D σ H := by
  refine ⟨fun m σ H => m = μ σ H ∧ Pv σ H, ⟨_, rfl, h0⟩, ?_⟩
  rintro m σ H ⟨rfl, p⟩
  refine mono σ H _ _ (fun b H1 q => ?_) (hs σ H p)
  cases b with
  | true => exact ⟨_, fun σ' H' ⟨p', l⟩ => ⟨_, l, rfl, p'⟩, q⟩
  | false => exact q
end L2

namespace L2
open PySem PySem.Spec PyProof.Rows

abbrev R2 := V → V → Hp → VK → Prop
/-- a two-place operation on values: f is binaryOp op, inplaceOp op or compareOp op -/
def OpR (X : Cx) (f : Value → Value → Sem Value) (r : R2) : Prop :=
  ∀ (pins : List (Addr × Obj)) (s : Shared) (σ : St) (H : Hp) (x y : V) (v u : Value) (Q : VK), Inv X pins σ H s → RelV x v → RelV y u → r x y H Q →
    wpAny (model X.prog X.w) X.A (f v u) (EP X pins σ Q) X.xe s
/-- a one-place operation -/
def UnR (X : Cx) (f : Value → Sem Value) (r : V → Hp → VK → Prop) : Prop :=
  ∀ (pins : List (Addr × Obj)) (s : Shared) (σ : St) (H : Hp) (x : V) (v : Value) (Q : VK), Inv X pins σ H s → RelV x v → r x H Q →
    wpAny (model X.prog X.w) X.A (f v) (EP X pins σ Q) X.xe s
/-- a call of a value that is known (a builtin, a type) with values -/
def CallR (X : Cx) (f : Value) (r : List V → Hp → VK → Prop) : Prop :=
  ∀ (pins : List (Addr × Obj)) (s : Shared) (σ : St) (H : Hp) (xs : List V) (us : List Value) (Q : VK), Inv X pins σ H s → Vals xs us → r xs H Q →
    wpAny (model X.prog X.w) X.A (call f us) (EP X pins σ Q) X.xe s
/-- a value's truth -/
def TruR (X : Cx) (r : V → Hp → (Bool → Hp → Prop) → Prop) : Prop :=
  ∀ (pins : List (Addr × Obj)) (s : Shared) (σ : St) (H : Hp) (x : V) (v : Value) (Q : Bool → Hp → Prop), Inv X pins σ H s → RelV x v → r x H Q →
    wpAny (model X.prog X.w) X.A (truthy v) (TP X pins σ Q) X.xe s

def tOp (r : R2) (ta tb : TE) : TE := fun σ H Q => ta σ H fun x H1 => tb σ H1 fun y H2 => r x y H2 Q
def tUn (r : V → Hp → VK → Prop) (ta : TE) : TE := fun σ H Q => ta σ H fun x H1 => r x H1 Q
/-- ints in, under C, and a value out -/
def rI (C : Int → Int → Prop) (g : Int → Int → V) : R2 := fun x y H Q => ∃ i j, x = .int i ∧ y = .int j ∧ C i j ∧ Q (g i j) H
def rI0 (g : Int → Int → V) : R2 := fun x y H Q => ∃ i j, x = .int i ∧ y = .int j ∧ Q (g i j) H
def rU (g : Int → V) : V → Hp → VK → Prop := fun x H Q => ∃ i, x = .int i ∧ Q (g i) H

section
variable {X : Cx} {a b c : Expr} {ta tb tc : TE} {pos : Pos}

theorem binT (ha : PE X a ta) (hb : PE X b tb) {pins : List (Addr × Obj)} {s : Shared} {σ : St} {H : Hp} {R : V → V → Hp → Prop} (I : Inv X pins σ H s)
    (h : ta σ H fun x H1 => tb σ H1 fun y H2 => R x y H2) {Q : Value → Shared → Prop} {f : Value → Value → Sem Value}
    (hf : ∀ v u s2 x y H2, Inv X pins σ H2 s2 → RelV x v → RelV y u → R x y H2 → wpAny (model X.prog X.w) X.A (f v u) Q X.xe s2) :
    wpAny (model X.prog X.w) X.A (eval a X.env) (fun v s₁ => wpAny (model X.prog X.w) X.A (eval b X.env) (fun u s₂ => wpAny (model X.prog X.w) X.A (f v u) Q X.xe s₂) X.xe s₁) X.xe s := by
  refine thn (ha pins s σ H _ I h) fun v s1 ⟨x, H1, I1, r1, q1⟩ => ?_
  refine thn (hb pins s1 σ H1 _ I1 q1) fun u s2 ⟨y, H2, I2, r2, q2⟩ => ?_
  exact hf v u s2 x y H2 I2 r1 r2 q2

theorem pe_op {op : Operator} {r : R2} (ho : OpR X (binaryOp op) r) (ha : PE X a ta) (hb : PE X b tb) : PE X (.BinOp a op b pos) (tOp r ta tb) := by
  intro pins s σ H Q I h
  exact wpAny_BinOp (binT ha hb I h fun v u s2 x y H2 I2 rx ry q => ho pins s2 σ H2 x y v u Q I2 rx ry q)
theorem pe_un {op : UnaryOp} {r : V → Hp → VK → Prop} (ho : UnR X (unaryOp op) r) (ha : PE X a ta) : PE X (.UnaryOp op a pos) (tUn r ta) := by
  intro pins s σ H Q I h
  exact UnaryOp_ (thn (ha pins s σ H _ I h) fun v s1 ⟨x, H1, I1, r1, q1⟩ => ho pins s1 σ H1 x v Q I1 r1 q1)
/-- a op= e at a name: the name's slot i -/
theorem augR {op : Operator} {r : R2} (ho : OpR X (inplaceOp op) r) {pins : List (Addr × Obj)} {s : Shared} {σ : St} {H : Hp} {x y : V} {v u : Value} {Q : VK} (I : Inv X pins σ H s)
    (rx : RelV x v) (ry : RelV y u) (q : r x y H Q) : wpAny (model X.prog X.w) X.A (inplaceOp op v u) (EP X pins σ Q) X.xe s := ho pins s σ H x y v u Q I rx ry q

/-! ### ints -/
theorem opI {f : Value → Value → Sem Value} {C : Int → Int → Prop} {g : Int → Int → Int}
    (rule : ∀ (i j : Int) (t u : Tok) (s : Shared) (Q : Value → Shared → Prop) (E : Value → Shared → Prop), C i j → Q (.int (g i j) s.toks) { s with toks := s.toks + 1 } → wpAny (model X.prog X.w) X.A (f (.int i t) (.int j u)) Q E s) :
    OpR X f (rI C fun i j => .int (g i j)) := by
  intro pins s σ H x y v u Q I rx ry h
  obtain ⟨i, j, rfl, rfl, hc, q⟩ := h
  obtain ⟨t, rfl⟩ := rx
  obtain ⟨t', rfl⟩ := ry
  exact rule i j t t' s _ _ hc ⟨.int (g i j), H, I.tok _, ⟨_, rfl⟩, q⟩
theorem opI0 {f : Value → Value → Sem Value} {g : Int → Int → Int}
    (rule : ∀ (i j : Int) (t u : Tok) (s : Shared) (Q : Value → Shared → Prop) (E : Value → Shared → Prop), Q (.int (g i j) s.toks) { s with toks := s.toks + 1 } → wpAny (model X.prog X.w) X.A (f (.int i t) (.int j u)) Q E s) :
    OpR X f (rI0 fun i j => .int (g i j)) := by
  intro pins s σ H x y v u Q I rx ry h
  obtain ⟨i, j, rfl, rfl, q⟩ := h
  obtain ⟨t, rfl⟩ := rx
  obtain ⟨t', rfl⟩ := ry
  exact rule i j t t' s _ _ ⟨.int (g i j), H, I.tok _, ⟨_, rfl⟩, q⟩
theorem opB0 {f : Value → Value → Sem Value} {g : Int → Int → Bool}
    (rule : ∀ (i j : Int) (t u : Tok) (s : Shared) (Q : Value → Shared → Prop) (E : Value → Shared → Prop), Q (.bool (g i j)) s → wpAny (model X.prog X.w) X.A (f (.int i t) (.int j u)) Q E s) :
    OpR X f (rI0 fun i j => .bl (g i j)) := by
  intro pins s σ H x y v u Q I rx ry h
  obtain ⟨i, j, rfl, rfl, q⟩ := h
  obtain ⟨t, rfl⟩ := rx
  obtain ⟨t', rfl⟩ := ry
  exact rule i j t t' s _ _ ⟨.bl (g i j), H, I, rfl, q⟩

def CDiv (i j : Int) : Prop := 0 < j ∧ j < 1073741824
def CDivN (i j : Int) : Prop := j ≠ 0 ∧ j.natAbs < 1073741824
def CPow (i j : Int) : Prop := 0 ≤ j ∧ j ≤ 1000000 ∧ i.natAbs < 2 ^ 64
def CMul (i j : Int) : Prop := (-(2 ^ 64) < i ∧ i < 2 ^ 64) ∨ (-(2 ^ 64) < j ∧ j < 2 ^ 64)
theorem CMul.ok {i j : Int} (h : CMul i j) : IntMulOk i j := by
  rcases h with ⟨h1, h2⟩ | ⟨h1, h2⟩
  · exact .of_left (intBits_le_64 h1 h2)
  · exact .of_right (intBits_le_64 h1 h2)
theorem two_pow_nn (k : Nat) : (0 : Int) ≤ 2 ^ k := by
  rw [two_pow_cast]
  exact Int.natCast_nonneg _

theorem op_add : OpR X (binaryOp .Add) (rI0 fun i j => .int (i + j)) := opI0 fun _ _ _ _ _ _ _ q => add_int q
theorem op_sub : OpR X (binaryOp .Sub) (rI0 fun i j => .int (i - j)) := opI0 fun _ _ _ _ _ _ _ q => sub_int q
theorem op_mul : OpR X (binaryOp .Mult) (rI CMul fun i j => .int (i * j)) := opI fun _ _ _ _ _ _ _ hc q => mul_int q hc.ok
/-- // by a positive divisor -/
theorem op_fdiv : OpR X (binaryOp .FloorDiv) (rI CDiv fun i j => .int (i / j)) := opI fun i j _ _ _ _ _ hc q => by
  have h1 : (0 : Int) < j := hc.1
  have h2 : j < 1073741824 := hc.2
  exact floordiv_int (by omega) (by rw [Int.fdiv_eq_ediv_of_nonneg i (by omega)]; exact q) (.inl (PyProof.noPylong_small (by omega)))
theorem op_fdivN : OpR X (binaryOp .FloorDiv) (rI CDivN fun i j => .int (i.fdiv j)) := opI fun _ _ _ _ _ _ _ hc q => floordiv_int hc.1 q (.inl (PyProof.noPylong_small hc.2))
/-- % by a positive divisor of any size -/
theorem op_mod : OpR X (binaryOp .Mod) (rI (fun _ j => 0 < j) fun i j => .int (i % j)) := opI fun i j _ _ _ _ _ hc q => by
  have h1 : (0 : Int) < j := hc
  exact mod_int' (by omega) (by rw [Int.fmod_eq_emod_of_nonneg i (by omega)]; exact q)
theorem op_modN : OpR X (binaryOp .Mod) (rI (fun _ j => j ≠ 0) fun i j => .int (i.fmod j)) := opI fun _ _ _ _ _ _ _ hc q => mod_int' hc q
theorem op_pow : OpR X (binaryOp .Pow) (rI CPow fun i j => .int (i ^ j.toNat)) := opI fun _ _ _ _ _ _ _ hc q => pow_int_small hc.1 hc.2.1 hc.2.2 q
theorem op_shl : OpR X (binaryOp .LShift) (rI CPow fun i j => .int (i * 2 ^ j.toNat)) := opI fun _ _ _ _ _ _ _ hc q => lshift_int_small hc.1 hc.2.1 hc.2.2 q
theorem op_shr : OpR X (binaryOp .RShift) (rI (fun _ j => 0 ≤ j) fun i j => .int (i / 2 ^ j.toNat)) := opI fun i j _ _ _ _ _ hc q =>
  rshift_int hc (by rw [Int.fdiv_eq_ediv_of_nonneg i (two_pow_nn _)]; exact q)
theorem op_and : OpR X (binaryOp .BitAnd) (rI0 fun i j => .int (Builtin.bitAnd i j)) := opI0 fun _ _ _ _ _ _ _ q => and_int q
theorem op_or : OpR X (binaryOp .BitOr) (rI0 fun i j => .int (Builtin.bitOr i j)) := opI0 fun _ _ _ _ _ _ _ q => or_int q
theorem op_xor : OpR X (binaryOp .BitXor) (rI0 fun i j => .int (Builtin.bitXor i j)) := opI0 fun _ _ _ _ _ _ _ q => xor_int q

theorem iop_add : OpR X (inplaceOp .Add) (rI0 fun i j => .int (i + j)) := opI0 fun _ _ _ _ _ _ _ q => iadd_int q
theorem iop_sub : OpR X (inplaceOp .Sub) (rI0 fun i j => .int (i - j)) := opI0 fun _ _ _ _ _ _ _ q => isub_int q
theorem iop_mul : OpR X (inplaceOp .Mult) (rI CMul fun i j => .int (i * j)) := opI fun _ _ _ _ _ _ _ hc q => imul_int q hc.ok
theorem iop_fdiv : OpR X (inplaceOp .FloorDiv) (rI CDiv fun i j => .int (i / j)) := opI fun i j _ _ _ _ _ hc q => by
  have h1 : (0 : Int) < j := hc.1
  have h2 : j < 1073741824 := hc.2
  exact ifloordiv_int (by omega) (by rw [Int.fdiv_eq_ediv_of_nonneg i (by omega)]; exact q) (.inl (PyProof.noPylong_small (by omega)))
theorem iop_mod : OpR X (inplaceOp .Mod) (rI (fun _ j => 0 < j) fun i j => .int (i % j)) := opI fun i j _ _ _ _ _ hc q => by
  have h1 : (0 : Int) < j := hc
  exact imod_int (by omega) (by rw [Int.fmod_eq_emod_of_nonneg i (by omega)]; exact q)
theorem iop_shl : OpR X (inplaceOp .LShift) (rI CPow fun i j => .int (i * 2 ^ j.toNat)) := opI fun _ _ _ _ _ _ _ hc q => ilshift_int_small hc.1 hc.2.1 hc.2.2 q
theorem iop_shr : OpR X (inplaceOp .RShift) (rI (fun _ j => 0 ≤ j) fun i j => .int (i / 2 ^ j.toNat)) := opI fun i j _ _ _ _ _ hc q =>
  irshift_int hc (by rw [Int.fdiv_eq_ediv_of_nonneg i (two_pow_nn _)]; exact q)
theorem iop_and : OpR X (inplaceOp .BitAnd) (rI0 fun i j => .int (Builtin.bitAnd i j)) := opI0 fun _ _ _ _ _ _ _ q => iand_int q
theorem iop_or : OpR X (inplaceOp .BitOr) (rI0 fun i j => .int (Builtin.bitOr i j)) := opI0 fun _ _ _ _ _ _ _ q => ior_int q
theorem iop_xor : OpR X (inplaceOp .BitXor) (rI0 fun i j => .int (Builtin.bitXor i j)) := opI0 fun _ _ _ _ _ _ _ q => ixor_int q

theorem unI {f : Value → Sem Value} {g : Int → Int}
    (rule : ∀ (i : Int) (t : Tok) (s : Shared) (Q : Value → Shared → Prop) (E : Value → Shared → Prop), Q (.int (g i) s.toks) { s with toks := s.toks + 1 } → wpAny (model X.prog X.w) X.A (f (.int i t)) Q E s) :
    UnR X f (rU fun i => .int (g i)) := by
  intro pins s σ H x v Q I rx h
  obtain ⟨i, rfl, q⟩ := h
  obtain ⟨t, rfl⟩ := rx
  exact rule i t s _ _ ⟨.int (g i), H, I.tok _, ⟨_, rfl⟩, q⟩
theorem un_neg : UnR X (unaryOp .USub) (rU fun i => .int (-i)) := unI fun _ _ _ _ _ q => neg_int q
theorem un_inv : UnR X (unaryOp .Invert) (rU fun i => .int (Builtin.bitNot i)) := unI fun _ _ _ _ _ q => invert_int q

/-! ### bools among ints: n += (a < b) -/
theorem op_add_ib : OpR X (binaryOp .Add) (fun x y H Q => ∃ i k, x = .int i ∧ y = .bl k ∧ Q (.int (i + b2i k)) H) := by
  intro pins s σ H x y v u Q I rx ry h
  obtain ⟨i, k, rfl, rfl, q⟩ := h
  obtain ⟨t, rfl⟩ := rx
  cases ry
  exact add_int_bool ⟨.int (i + b2i k), H, I.tok _, ⟨_, rfl⟩, q⟩
end

/-! ### comparisons -/
/-- the scalars that == tells apart as data does -/
def scal : V → V → Bool
  | .non, .non => true | .non, .int _ => true | .int _, .non => true | .non, .bl _ => true | .bl _, .non => true | .non, .str _ => true | .str _, .non => true
  | .int _, .int _ => true | .bl _, .bl _ => true | .str _, .str _ => true | .byt _, .byt _ => true
  | .int _, .str _ => true | .str _, .int _ => true | .bl _, .str _ => true | .str _, .bl _ => true
  | _, _ => false
def rEq : R2 := fun x y H Q => scal x y = true ∧ Q (.bl (decide (x = y))) H
def rNe : R2 := fun x y H Q => scal x y = true ∧ Q (.bl (!decide (x = y))) H

theorem dec_int {i j : Int} : decide (V.int i = V.int j) = (i == j) := by
  rw [Bool.eq_iff_iff]
  simp
theorem dec_bl {i j : Bool} : decide (V.bl i = V.bl j) = (i == j) := by
  rw [Bool.eq_iff_iff]
  simp
theorem dec_str {i j : Str} : decide (V.str i = V.str j) = (i == j) := by
  rw [Bool.eq_iff_iff]
  simp
theorem dec_byt {i j : Array UInt8} : decide (V.byt i = V.byt j) = (i.toList == j.toList) := by
  rw [Bool.eq_iff_iff]
  cases i
  cases j
  simp

section
variable {X : Cx} {a b c : Expr} {ta tb tc : TE} {pos : Pos}
theorem fin_bl {pins : List (Addr × Obj)} {σ : St} {H : Hp} {s : Shared} {Q : VK} {k k' : Bool} (I : Inv X pins σ H s) (q : Q (.bl k) H) (e : k = k') : EP X pins σ Q (.bool k') s := by
  subst e
  exact ⟨.bl k, H, I, rfl, q⟩
theorem op_eq : OpR X (compareOp .Eq) rEq := by
  intro pins s σ H x y v u Q I rx ry h
  obtain ⟨hs, q⟩ := h
  cases x with
  | non =>
    cases rx
    cases y with
    | non => cases ry; exact PySem.EqNone.eq_none_none (fin_bl I q (by simp))
    | bl j => cases ry; exact PySem.EqNone.eq_none_bool (fin_bl I q (by simp))
    | int j => obtain ⟨t', rfl⟩ := ry; exact PySem.EqNone.eq_none_int (fin_bl I q (by simp))
    | str j => obtain ⟨t', rfl⟩ := ry; exact PySem.EqNone.eq_none_str (fin_bl I q (by simp))
    | _ => exact absurd (show false = true from hs) Bool.false_ne_true
  | bl i =>
    cases rx
    cases y with
    | non => cases ry; exact PySem.EqNone.eq_bool_none (fin_bl I q (by simp))
    | bl j => cases ry; exact eq_bool (fin_bl I q dec_bl)
    | str j => obtain ⟨t', rfl⟩ := ry; exact PySem.EqMixed.eq_bool_str (fin_bl I q (by simp))
    | _ => exact absurd (show false = true from hs) Bool.false_ne_true
  | int i =>
    obtain ⟨t, rfl⟩ := rx
    cases y with
    | non => cases ry; exact PySem.EqNone.eq_int_none (fin_bl I q (by simp))
    | int j => obtain ⟨t', rfl⟩ := ry; exact eq_int (fin_bl I q dec_int)
    | str j => obtain ⟨t', rfl⟩ := ry; exact PySem.EqMixed.eq_int_str (fin_bl I q (by simp))
    | _ => exact absurd (show false = true from hs) Bool.false_ne_true
  | str i =>
    obtain ⟨t, rfl⟩ := rx
    cases y with
    | non => cases ry; exact PySem.EqNone.eq_str_none (fin_bl I q (by simp))
    | bl j => cases ry; exact PySem.EqMixed.eq_str_bool (fin_bl I q (by simp))
    | int j => obtain ⟨t', rfl⟩ := ry; exact PySem.EqMixed.eq_str_int (fin_bl I q (by simp))
    | str j => obtain ⟨t', rfl⟩ := ry; exact eq_str (fin_bl I q dec_str)
    | _ => exact absurd (show false = true from hs) Bool.false_ne_true
  | byt i =>
    obtain ⟨t, rfl⟩ := rx
    cases y with
    | byt j => obtain ⟨t', rfl⟩ := ry; exact PySem.W.eq_bytes (fin_bl I q dec_byt)
    | _ => exact absurd (show false = true from hs) Bool.false_ne_true
  | _ => cases y <;> exact absurd (show false = true from hs) Bool.false_ne_true
theorem op_ne : OpR X (compareOp .NotEq) rNe := by
  intro pins s σ H x y v u Q I rx ry h
  obtain ⟨hs, q⟩ := h
  cases x with
  | non =>
    cases rx
    cases y with
    | non => cases ry; exact PySem.EqNone.ne_none_none (fin_bl I q (by simp))
    | bl j => cases ry; exact PySem.EqNone.ne_none_bool (fin_bl I q (by simp))
    | int j => obtain ⟨t', rfl⟩ := ry; exact PySem.EqNone.ne_none_int (fin_bl I q (by simp))
    | str j => obtain ⟨t', rfl⟩ := ry; exact PySem.EqNone.ne_none_str (fin_bl I q (by simp))
    | _ => exact absurd (show false = true from hs) Bool.false_ne_true
  | bl i =>
    cases rx
    cases y with
    | non => cases ry; exact PySem.EqNone.ne_bool_none (fin_bl I q (by simp))
    | bl j => cases ry; exact ne_bool (fin_bl I q (congrArg not dec_bl))
    | str j => obtain ⟨t', rfl⟩ := ry; exact PySem.EqMixed.ne_bool_str (fin_bl I q (by simp))
    | _ => exact absurd (show false = true from hs) Bool.false_ne_true
  | int i =>
    obtain ⟨t, rfl⟩ := rx
    cases y with
    | non => cases ry; exact PySem.EqNone.ne_int_none (fin_bl I q (by simp))
    | int j => obtain ⟨t', rfl⟩ := ry; exact ne_int (fin_bl I q (congrArg not dec_int))
    | str j => obtain ⟨t', rfl⟩ := ry; exact PySem.EqMixed.ne_int_str (fin_bl I q (by simp))
    | _ => exact absurd (show false = true from hs) Bool.false_ne_true
  | str i =>
    obtain ⟨t, rfl⟩ := rx
    cases y with
    | non => cases ry; exact PySem.EqNone.ne_str_none (fin_bl I q (by simp))
    | bl j => cases ry; exact PySem.EqMixed.ne_str_bool (fin_bl I q (by simp))
    | int j => obtain ⟨t', rfl⟩ := ry; exact PySem.EqMixed.ne_str_int (fin_bl I q (by simp))
    | str j => obtain ⟨t', rfl⟩ := ry; exact ne_str (fin_bl I q (congrArg not dec_str))
    | _ => exact absurd (show false = true from hs) Bool.false_ne_true
  | byt i =>
    obtain ⟨t, rfl⟩ := rx
    cases y with
    | byt j => obtain ⟨t', rfl⟩ := ry; exact PySem.W.ne_bytes (fin_bl I q (congrArg not dec_byt))
    | _ => exact absurd (show false = true from hs) Bool.false_ne_true
  | _ => cases y <;> exact absurd (show false = true from hs) Bool.false_ne_true

theorem op_lt : OpR X (compareOp .Lt) (rI0 fun i j => .bl (decide (i < j))) := opB0 fun _ _ _ _ _ _ _ q => lt_int q
theorem op_le : OpR X (compareOp .LtE) (rI0 fun i j => .bl (decide (i ≤ j))) := opB0 fun _ _ _ _ _ _ _ q => le_int q
theorem op_gt : OpR X (compareOp .Gt) (rI0 fun i j => .bl (decide (j < i))) := opB0 fun _ _ _ _ _ _ _ q => gt_int q
theorem op_ge : OpR X (compareOp .GtE) (rI0 fun i j => .bl (decide (j ≤ i))) := opB0 fun _ _ _ _ _ _ _ q => ge_int q
theorem op_lt_str : OpR X (compareOp .Lt) (fun x y H Q => ∃ i j, x = .str i ∧ y = .str j ∧ Q (.bl (decide (i.cps.toList < j.cps.toList))) H) := by
  intro pins s σ H x y v u Q I rx ry h
  obtain ⟨i, j, rfl, rfl, q⟩ := h
  obtain ⟨t, rfl⟩ := rx
  obtain ⟨t', rfl⟩ := ry
  exact lt_str (fin_bl I q rfl)
/-- the one string within the other -/
theorem op_in_str : OpR X (compareOp .In) (fun x y H Q => ∃ i j, x = .str i ∧ y = .str j ∧ Q (.bl (!(Builtin.Str.occurrences j i 0 j.length 1).isEmpty)) H) := by
  intro pins s σ H x y v u Q I rx ry h
  obtain ⟨i, j, rfl, rfl, q⟩ := h
  obtain ⟨t, rfl⟩ := rx
  obtain ⟨t', rfl⟩ := ry
  exact in_str (fin_bl I q rfl)

/-- is None, is not None: the right side a value none -/
theorem op_isN : OpR X (compareOp .Is) (fun x y H Q => y = .non ∧ Q (.bl (decide (x = .non))) H) := by
  intro pins s σ H x y v u Q I rx ry h
  obtain ⟨rfl, q⟩ := h
  cases ry
  refine is_none_gen (fin_bl I q ?_)
  cases x <;> first
    | (cases rx; rfl)
    | (obtain ⟨t, rfl⟩ := rx; rfl)
theorem op_notN : OpR X (compareOp .IsNot) (fun x y H Q => y = .non ∧ Q (.bl (!decide (x = .non))) H) := by
  intro pins s σ H x y v u Q I rx ry h
  obtain ⟨rfl, q⟩ := h
  cases ry
  refine isnot_none_gen (fin_bl I q ?_)
  cases x <;> first
    | (cases rx; rfl)
    | (obtain ⟨t, rfl⟩ := rx; rfl)

theorem op_notin_str : OpR X (compareOp .NotIn) (fun x y H Q => ∃ i j, x = .str i ∧ y = .str j ∧ Q (.bl (!(!(Builtin.Str.occurrences j i 0 j.length 1).isEmpty))) H) := by
  intro pins s σ H x y v u Q I rx ry h
  obtain ⟨i, j, rfl, rfl, q⟩ := h
  obtain ⟨t, rfl⟩ := rx
  obtain ⟨t', rfl⟩ := ry
  exact notIn_str (fin_bl I q rfl)
/-- is, is not of two objects that are tracked lists or instances -/
def isObj : HO → Bool
  | .lst _ => true
  | .ins _ _ _ => true
  | _ => false
theorem obj_there {pins : List (Addr × Obj)} {s : Shared} {σ : St} {H : Hp} {a : Addr} {o : HO} (I : Inv X pins σ H s) (h : H a = some o) (p : isObj o = true) : ∃ ob, s.heap.get? a = some ob ∧ ob.cls ≠ .type "tuple" := by
  cases o with
  | lst xs =>
    obtain ⟨_, its, n, _, e⟩ : xs.length ≤ sizeLine ∧ ∃ (its : List Value) (n : Nat), Vals xs its ∧ s.heap.get? a = some { cls := .type "list", data := .seq its.toArray n } := I.hok a _ h
    exact ⟨_, e, (by show Value.type "list" ≠ .type "tuple"; decide +kernel)⟩
  | ins C dx fs =>
    have x := I.hok a _ h
    obtain ⟨_, _, _, e, _⟩ := x
    exact ⟨_, e, (by show Value.ref C ≠ .type "tuple"; exact fun z => by cases z)⟩
  | _ => exact absurd (show false = true from p) Bool.false_ne_true
theorem op_is_ref : OpR X (compareOp .Is) (fun x y H Q => ∃ a b oa ob, x = .ref a ∧ y = .ref b ∧ H a = some oa ∧ isObj oa = true ∧ H b = some ob ∧ isObj ob = true ∧ Q (.bl (decide (a = b))) H) := by
  intro pins s σ H x y v u Q I rx ry h
  obtain ⟨a, b, oa, ob, rfl, rfl, ha, pa, hb, pb, q⟩ := h
  cases rx
  cases ry
  obtain ⟨o1, e1, n1⟩ := obj_there I ha pa
  obtain ⟨o2, e2, _⟩ := obj_there I hb pb
  by_cases z : a = b
  · subst z
    exact wpAny_is_ref_self (fin_bl I q (by simp))
  · exact wpAny_is_ref_other z e1 e2 n1 (fin_bl I q (by simp [z]))
theorem op_isnot_ref : OpR X (compareOp .IsNot) (fun x y H Q => ∃ a b oa ob, x = .ref a ∧ y = .ref b ∧ H a = some oa ∧ isObj oa = true ∧ H b = some ob ∧ isObj ob = true ∧ Q (.bl (!decide (a = b))) H) := by
  intro pins s σ H x y v u Q I rx ry h
  obtain ⟨a, b, oa, ob, rfl, rfl, ha, pa, hb, pb, q⟩ := h
  cases rx
  cases ry
  obtain ⟨o1, e1, n1⟩ := obj_there I ha pa
  obtain ⟨o2, e2, _⟩ := obj_there I hb pb
  by_cases z : a = b
  · subst z
    exact wpAny_isNot_ref_self (fin_bl I q (by simp))
  · exact wpAny_isNot_ref_other z e1 e2 n1 (fin_bl I q (by simp [z]))

/-- two rules for one operation: by cases -/
theorem OpR.or {f : Value → Value → Sem Value} {r r' : R2} (h : OpR X f r) (h' : OpR X f r') : OpR X f (fun x y H Q => r x y H Q ∨ r' x y H Q) := by
  intro pins s σ H x y v u Q I rx ry q
  rcases q with q | q
  · exact h pins s σ H x y v u Q I rx ry q
  · exact h' pins s σ H x y v u Q I rx ry q

theorem nomark (b : Expr) {op : CmpOp} (h : op ≠ .In := by decide) (h2 : op ≠ .NotIn := by decide) : behindInMarks op b = false := by
  have e1 : (op == CmpOp.In) = false := by cases op <;> first | rfl | exact absurd rfl h
  have e2 : (op == CmpOp.NotIn) = false := by cases op <;> first | rfl | exact absurd rfl h2
  cases b <;> simp [behindInMarks, e1, e2]
/-- a comparison as a value; hm: nomark b, or (for in, not in) by with_unfolding_all rfl -/
theorem pe_cmpR {op : CmpOp} {r : R2} (ho : OpR X (compareOp op) r) (ha : PE X a ta) (hb : PE X b tb) (hm : behindInMarks op b = false) : PE X (.Compare a [op] [b] pos) (tOp r ta tb) := by
  intro pins s σ H Q I h
  exact wpAny_Compare1 (binT ha hb I h fun v u s2 x y H2 I2 rx ry q => ho pins s2 σ H2 x y v u Q I2 rx ry q) hm
/-- a reading of a value as a test -/
def tTest (t : TE) : TT := fun σ H Q => t σ H fun x H' => ∃ k, x = .bl k ∧ Q k H'
theorem pt_cmpR {op : CmpOp} {r : R2} (ho : OpR X (compareOp op) r) (ha : PE X a ta) (hb : PE X b tb) (hm : behindInMarks op b = false) : PT X (.Compare a [op] [b] pos) (tTest (tOp r ta tb)) := by
  intro pins s σ H Q I h
  refine wpAny_isTrue_Compare1 (thn (ha pins s σ H _ I h) fun v s1 ⟨x, H1, I1, r1, q1⟩ => thn (hb pins s1 σ H1 _ I1 q1) fun u s2 ⟨y, H2, I2, r2, q2⟩ =>
    thn (ho pins s2 σ H2 x y v u _ I2 r1 r2 q2) fun c s3 ⟨z, H3, I3, r3, k, e, q3⟩ => ?_) hm
  subst e
  cases r3
  exact wpAny_truthy_bool ⟨H3, I3, q3⟩
/-- a op1 b op2 c -/
def tChain (r r' : R2) (ta tb tc : TE) : TE := fun σ H Q => ta σ H fun x H1 => tb σ H1 fun y H2 => r x y H2 fun z H3 => ∃ k, z = .bl k ∧
  (if k = true then tc σ H3 fun w' H4 => r' y w' H4 Q else Q (.bl false) H3)
theorem pe_chain {op op' : CmpOp} {r r' : R2} (ho : OpR X (compareOp op) r) (ho' : OpR X (compareOp op') r') (ha : PE X a ta) (hb : PE X b tb) (hc : PE X c tc)
    (hm : lastMarks [op, op'] [b, c] = false := by with_unfolding_all rfl) : PE X (.Compare a [op, op'] [b, c] pos) (tChain r r' ta tb tc) := by
  intro pins s σ H Q I h
  refine Compare_chain (thn (ha pins s σ H _ I h) fun v s1 ⟨x, H1, I1, r1, q1⟩ => chain_link (thn (hb pins s1 σ H1 _ I1 q1) fun u s2 ⟨y, H2, I2, r2, q2⟩ =>
    thn (ho pins s2 σ H2 x y v u _ I2 r1 r2 q2) fun d s3 ⟨z, H3, I3, r3, k, e, q3⟩ => ?_)) hm
  subst e
  cases r3
  refine wpAny_truthy_bool ?_
  cases k with
  | false => exact ite_ff ⟨.bl false, H3, I3, rfl, q3⟩
  | true => exact ite_tt (chain_last (thn (hc pins s3 σ H3 _ I3 q3) fun w' s4 ⟨z', H4, I4, r4, q4⟩ => ho' pins s4 σ H4 y z' u w' Q I4 r2 r4 q4))
theorem pt_chain {op op' : CmpOp} {r r' : R2} (ho : OpR X (compareOp op) r) (ho' : OpR X (compareOp op') r') (ha : PE X a ta) (hb : PE X b tb) (hc : PE X c tc)
    (hm : lastMarks [op, op'] [b, c] = false := by with_unfolding_all rfl) : PT X (.Compare a [op, op'] [b, c] pos) (tTest (tChain r r' ta tb tc)) := by
  intro pins s σ H Q I h
  refine isTrue_chain (thn (ha pins s σ H _ I h) fun v s1 ⟨x, H1, I1, r1, q1⟩ => test_link (thn (hb pins s1 σ H1 _ I1 q1) fun u s2 ⟨y, H2, I2, r2, q2⟩ =>
    thn (ho pins s2 σ H2 x y v u _ I2 r1 r2 q2) fun d s3 ⟨z, H3, I3, r3, k, e, q3⟩ => ?_)) hm
  subst e
  cases r3
  refine wpAny_truthy_bool ?_
  cases k with
  | false =>
    obtain ⟨k', e', q'⟩ := q3
    cases e'
    exact ite_ff ⟨H3, I3, q'⟩
  | true =>
    refine ite_tt (test_last (thn (hc pins s3 σ H3 _ I3 q3) fun w' s4 ⟨z', H4, I4, r4, q4⟩ => thn (ho' pins s4 σ H4 y z' u w' _ I4 r2 r4 q4) fun d' s5 ⟨z2, H5, I5, r5, k2, e2, q5⟩ => ?_))
    subst e2
    cases r5
    exact wpAny_truthy_bool ⟨H5, I5, q5⟩

/-! ### truth -/
/-- a value's truth by the abstract heap -/
def TruV (K : PySem.W.Frag) (x : V) (H : Hp) (k : Bool) : Prop :=
  match x with
  | .non => k = false
  | .bl b => k = b
  | .int i => k = (i != 0)
  | .str y => y.length ≤ sizeLine ∧ k = ((y.length : Int) != 0)
  | .byt y => y.size ≤ sizeLine ∧ k = ((y.size : Int) != 0)
  | .ref p => (∃ xs, SqL K H p xs ∧ k = !xs.isEmpty) ∨ (∃ xs, SqT K H p xs ∧ k = !xs.isEmpty) ∨ ∃ kvs, H p = some (.dK kvs) ∧ k = !kvs.isEmpty
  | _ => False
theorem isEmpty_kv {κ : Type} {kvs : List (κ × V)} {vs : List (κ × Value)} (r : KV kvs vs) : (!vs.isEmpty) = !kvs.isEmpty := by
  cases r <;> rfl
theorem isEmpty_of {xs : List V} {its : List Value} (r : Vals xs its) : (!its.toArray.isEmpty) = !xs.isEmpty := by
  cases r <;> simp
theorem line63 : (sizeLine : Nat) < 2 ^ 63 := by rw [sizeLine_eq]; decide
theorem tru_ok : TruR X (fun x H Q => ∃ k, TruV X.K x H k ∧ Q k H) := by
  intro pins s σ H x v Q I rx h
  obtain ⟨k, e, q⟩ := h
  have hl := line63
  have hs : sizeLine = 16777216 := sizeLine_eq
  cases x with
  | non =>
    cases rx
    have e' : k = false := e
    subst e'
    exact truthy_none ⟨H, I, q⟩
  | bl b =>
    cases rx
    have e' : k = b := e
    subst e'
    exact wpAny_truthy_bool ⟨H, I, q⟩
  | int i =>
    obtain ⟨t, rfl⟩ := rx
    have e' : k = (i != 0) := e
    subst e'
    exact PySem.P.truthy_int ⟨H, I, q⟩
  | str y =>
    obtain ⟨t, rfl⟩ := rx
    obtain ⟨hy, e'⟩ : y.length ≤ sizeLine ∧ k = ((y.length : Int) != 0) := e
    subst e'
    exact PySem.P.truthy_str (by omega) ⟨H, I.tok _, q⟩
  | byt y =>
    obtain ⟨t, rfl⟩ := rx
    obtain ⟨hy, e'⟩ : y.size ≤ sizeLine ∧ k = ((y.size : Int) != 0) := e
    subst e'
    exact PySem.W.truthy_bytes (by omega) ⟨H, I.tok _, q⟩
  | ref p =>
    cases rx
    have e' : (∃ xs, SqL X.K H p xs ∧ k = !xs.isEmpty) ∨ (∃ xs, SqT X.K H p xs ∧ k = !xs.isEmpty) ∨ ∃ kvs, H p = some (.dK kvs) ∧ k = !kvs.isEmpty := e
    rcases e' with ⟨xs, hx, e'⟩ | ⟨xs, hx, e'⟩ | ⟨kvs, hx, e'⟩
    · subst e'
      obtain ⟨its, r, pl, hz⟩ := I.list hx
      have hlen := r.length
      exact wpAny_truthy_list pl.isList (by simp only [List.size_toArray]; omega) ⟨H, I.tok _, by rw [isEmpty_of r]; exact q⟩
    · subst e'
      obtain ⟨its, r, pl, hz⟩ := I.tuple hx
      have hlen := r.length
      exact truthy_tuple pl (by simp only [List.size_toArray]; omega) ⟨H, I.tok _, by rw [isEmpty_of r]; exact q⟩
    · subst e'
      obtain ⟨hz, hS, vs, r, m⟩ : kvs.length ≤ sizeLine ∧ (p == sysModules) = false ∧ ∃ vs, KV kvs vs ∧ s.heap.DictOf (mixKind X.prog X.w) p vs := I.hok p _ hx
      have hlen : kvs.length = vs.length := Paired.length r
      exact wpAny_truthy_dict hS m (by omega) ⟨H, I.tok _, by rw [isEmpty_kv r]; exact q⟩
  | _ => exact (show False from e).elim
/-- any expression whose test is its value's truth (a name, a call, a subscript, a field ..: he by fun _ => rfl) -/
theorem pt_truth (ha : PE X a ta) (he : ∀ whole, isTrue a X.env whole = (do let v ← whole; standAt a.pos; holding [v] (truthy v))) :
    PT X a (fun σ H Q => ta σ H fun x H' => ∃ k, TruV X.K x H' k ∧ Q k H') := by
  intro pins s σ H Q I h
  exact isTrue_plain (thn (ha pins s σ H _ I h) fun v s1 ⟨x, H1, I1, r1, q1⟩ => tru_ok pins s1 σ H1 x v Q I1 r1 q1) (he _)

/-! ### strs and bytes -/
theorem pe_byt {x : List UInt8} {k : Nat} : PE X (.Constant (.bytes x) k pos) (fun _ H Q => Q (.byt x.toArray) H) := fun _ _ _ H _ I h => PySem.W.Constant_bytes ⟨.byt x.toArray, H, I.tok _, ⟨_, rfl⟩, h⟩
theorem op_add_str : OpR X (binaryOp .Add) (fun x y H Q => ∃ i j, x = .str i ∧ y = .str j ∧ i.length + j.length ≤ sizeLine ∧ Q (.str (i ++ j)) H) := by
  intro pins s σ H x y v u Q I rx ry h
  obtain ⟨i, j, rfl, rfl, hz, q⟩ := h
  obtain ⟨t, rfl⟩ := rx
  obtain ⟨t', rfl⟩ := ry
  exact add_str (fun t' tk => ⟨.str (i ++ j), H, I.tok _, ⟨_, rfl⟩, q⟩) hz
theorem iop_add_str : OpR X (inplaceOp .Add) (fun x y H Q => ∃ i j, x = .str i ∧ y = .str j ∧ i.length + j.length ≤ sizeLine ∧ Q (.str (i ++ j)) H) := by
  intro pins s σ H x y v u Q I rx ry h
  obtain ⟨i, j, rfl, rfl, hz, q⟩ := h
  obtain ⟨t, rfl⟩ := rx
  obtain ⟨t', rfl⟩ := ry
  exact iadd_str (fun t' tk => ⟨.str (i ++ j), H, I.tok _, ⟨_, rfl⟩, q⟩) hz
theorem op_add_byt : OpR X (binaryOp .Add) (fun x y H Q => ∃ i j, x = .byt i ∧ y = .byt j ∧ i.size + j.size ≤ 16777216 ∧ Q (.byt (i ++ j)) H) := by
  intro pins s σ H x y v u Q I rx ry h
  obtain ⟨i, j, rfl, rfl, hz, q⟩ := h
  obtain ⟨t, rfl⟩ := rx
  obtain ⟨t', rfl⟩ := ry
  exact PySem.W.KBy.add_bytes hz (fun t' tk => ⟨.byt (i ++ j), H, I.tok _, ⟨_, rfl⟩, q⟩)

def PlainIxT (b : Expr) : Prop := ∀ o i, subscripted b false o i = operate [o, i] (getItem o i)
/-- s[i], 0 ≤ i < len -/
theorem pe_item_str (ha : PE X a ta) (hb : PE X b tb) (hs : PlainIxT b) :
    PE X (.Subscript a b pos) (tOp (fun x y H Q => ∃ z i c, x = .str z ∧ y = .int i ∧ 0 ≤ i ∧ i < 2 ^ 63 ∧ i < z.length ∧ z.cps[i.toNat]? = some c ∧ Q (.str ⟨#[c]⟩) H) ta tb) := by
  intro pins s σ H Q I h
  refine Subscript_ (binT ha hb I h fun v u s2 x y H2 I2 rx ry q => ?_)
  obtain ⟨z, i, c, rfl, rfl, h0, h63, h1, hc, q⟩ := q
  obtain ⟨t, rfl⟩ := rx
  obtain ⟨t', rfl⟩ := ry
  have e : seqIndex? i z.length = some i.toNat := PySem.StrLaws.seqIndex_nonneg h0 h1
  exact tail_any (typeIs_str s2 z t) slot_str_getitem.lookup (getItem_str (c := c) (by
    have e1 : decide (i < -(2 ^ 63 : Int)) = false := decide_eq_false (by omega)
    have e2 : decide (i ≥ 2 ^ 63) = false := decide_eq_false (by omega)
    rw [e1, e2] <;> rfl) (by rw [e]; exact hc) ⟨.str ⟨#[c]⟩, H2, I2.tok _, ⟨_, rfl⟩, q⟩) (hs _ _)
/-- b[i], 0 ≤ i < len -/
theorem pe_item_byt (ha : PE X a ta) (hb : PE X b tb) (hs : PlainIxT b) :
    PE X (.Subscript a b pos) (tOp (fun x y H Q => ∃ (z : List UInt8) (i : Int), x = .byt z.toArray ∧ y = .int i ∧ z.length ≤ sizeLine ∧ 0 ≤ i ∧ i < z.length ∧ Q (.int ((z.getD i.toNat 0).toNat : Nat)) H) ta tb) := by
  intro pins s σ H Q I h
  refine Subscript_ (binT ha hb I h fun v u s2 x y H2 I2 rx ry q => ?_)
  obtain ⟨z, i, rfl, rfl, hz, h0, h1, q⟩ := q
  obtain ⟨t, rfl⟩ := rx
  obtain ⟨t', rfl⟩ := ry
  have hl : sizeLine = 16777216 := sizeLine_eq
  exact tail_any (PySem.W.typeIs_bytes s2 z.toArray t) PySem.W.FB.slot_bytes_getitem.lookup (PySem.W.getItem_bytes (by omega) h0 h1 ⟨.int ((z.getD i.toNat 0).toNat : Nat), H2, I2.tok _, ⟨_, rfl⟩, q⟩) (hs _ _)

/-! ### scalar builtins, by CallR -/
theorem vals1 {x : V} {us : List Value} (r : Vals [x] us) : ∃ u, us = [u] ∧ RelV x u := by
  cases r with
  | cons r1 r2 => cases r2; exact ⟨_, rfl, r1⟩
theorem vals2 {x y : V} {us : List Value} (r : Vals [x, y] us) : ∃ u w', us = [u, w'] ∧ RelV x u ∧ RelV y w' := by
  cases r with
  | cons r1 r2 =>
    cases r2 with
    | cons r3 r4 => cases r4; exact ⟨_, _, rfl, r1, r3⟩
theorem call_abs : CallR X (.builtin "abs") (fun xs H Q => ∃ i, xs = [.int i] ∧ Q (.int (if i < 0 then -i else i)) H) := by
  intro pins s σ H xs us Q I r h
  obtain ⟨i, rfl, q⟩ := h
  obtain ⟨u, rfl, t, rfl⟩ := vals1 r
  exact call_abs_int fun u tk => ⟨.int (if i < 0 then -i else i), H, I.tok _, ⟨_, rfl⟩, q⟩
theorem call_max2 (hc : X.calm = true) : CallR X (.builtin "max") (fun xs H Q => ∃ i j, xs = [.int i, .int j] ∧ Q (.int (if j > i then j else i)) H) := by
  intro pins s σ H xs us Q I r h
  obtain ⟨i, j, rfl, q⟩ := h
  obtain ⟨u, w', rfl, ⟨t, rfl⟩, ⟨t', rfl⟩⟩ := vals2 r
  refine max_two_ints (I.ok.hd hc) fun h' tk k => ⟨_, H, I.kept k, ?_, q⟩
  by_cases hj : j > i
  · rw [if_pos hj, if_pos hj]; exact ⟨_, rfl⟩
  · rw [if_neg hj, if_neg hj]; exact ⟨_, rfl⟩
theorem call_min2 (hc : X.calm = true) : CallR X (.builtin "min") (fun xs H Q => ∃ i j, xs = [.int i, .int j] ∧ Q (.int (if j < i then j else i)) H) := by
  intro pins s σ H xs us Q I r h
  obtain ⟨i, j, rfl, q⟩ := h
  obtain ⟨u, w', rfl, ⟨t, rfl⟩, ⟨t', rfl⟩⟩ := vals2 r
  refine min_two_ints (I.ok.hd hc) fun h' tk k => ⟨_, H, I.kept k, ?_, q⟩
  by_cases hj : j < i
  · rw [if_pos hj, if_pos hj]; exact ⟨_, rfl⟩
  · rw [if_neg hj, if_neg hj]; exact ⟨_, rfl⟩
theorem call_int1 : CallR X (.type "int") (fun xs H Q => (∃ i, xs = [.int i] ∧ Q (.int i) H) ∨ ∃ k, xs = [.bl k] ∧ Q (.int (if k then 1 else 0)) H) := by
  intro pins s σ H xs us Q I r h
  rcases h with ⟨i, rfl, q⟩ | ⟨k, rfl, q⟩
  · obtain ⟨u, rfl, t, rfl⟩ := vals1 r
    exact call_int_int ⟨.int i, H, I, ⟨_, rfl⟩, q⟩
  · obtain ⟨u, rfl, r1⟩ := vals1 r
    cases r1
    exact call_int_bool ⟨.int (if k then 1 else 0), H, I.tok _, ⟨_, rfl⟩, q⟩
theorem call_bool1 : CallR X (.type "bool") (fun xs H Q => (∃ i, xs = [.int i] ∧ Q (.bl (i != 0)) H) ∨ ∃ k, xs = [.bl k] ∧ Q (.bl k) H) := by
  intro pins s σ H xs us Q I r h
  rcases h with ⟨i, rfl, q⟩ | ⟨k, rfl, q⟩
  · obtain ⟨u, rfl, t, rfl⟩ := vals1 r
    exact call_bool_int ⟨.bl (i != 0), H, I, rfl, q⟩
  · obtain ⟨u, rfl, r1⟩ := vals1 r
    cases r1
    exact call_bool_bool ⟨.bl k, H, I, rfl, q⟩
theorem call_str_int : CallR X (.type "str") (fun xs H Q => ∃ i, xs = [.int i] ∧ i.natAbs.log2 < 1920 ∧ Q (.str (toString i)) H) := by
  intro pins s σ H xs us Q I r h
  obtain ⟨i, rfl, hz, q⟩ := h
  obtain ⟨u, rfl, t, rfl⟩ := vals1 r
  exact PySem.P.str_of_int hz ⟨.str _, H, I.tok _, ⟨_, rfl⟩, q⟩
theorem call_ord : CallR X (.builtin "ord") (fun xs H Q => ∃ x, xs = [.str x] ∧ x.length = 1 ∧ Q (.int (x.cps.getD 0 0 : Nat)) H) := by
  intro pins s σ H xs us Q I r h
  obtain ⟨x, rfl, hz, q⟩ := h
  obtain ⟨u, rfl, t, rfl⟩ := vals1 r
  exact ord_of_one hz ⟨.int _, H, I.tok _, ⟨_, rfl⟩, q⟩
theorem call_chr : CallR X (.builtin "chr") (fun xs H Q => ∃ i, xs = [.int i] ∧ 0 ≤ i ∧ i ≤ 1114111 ∧ Q (.str ⟨#[i.toNat]⟩) H) := by
  intro pins s σ H xs us Q I r h
  obtain ⟨i, rfl, h0, h1, q⟩ := h
  obtain ⟨u, rfl, t, rfl⟩ := vals1 r
  exact chr_of_range h0 h1 ⟨.str _, H, I.tok _, ⟨_, rfl⟩, q⟩
/-- len of a str, a bytes, a list, a tuple -/
def LenV (K : PySem.W.Frag) (x : V) (H : Hp) (n : Nat) : Prop :=
  match x with
  | .str y => y.length ≤ sizeLine ∧ n = y.length
  | .byt y => y.size ≤ sizeLine ∧ n = y.size
  | .ref p => (∃ xs, SqL K H p xs ∧ n = xs.length) ∨ ∃ xs, SqT K H p xs ∧ n = xs.length
  | _ => False
theorem call_len : CallR X (.builtin "len") (fun xs H Q => ∃ x n, xs = [x] ∧ LenV X.K x H n ∧ Q (.int n) H) := by
  intro pins s σ H xs us Q I r h
  obtain ⟨x, n, rfl, e, q⟩ := h
  obtain ⟨u, rfl, rx⟩ := vals1 r
  have hl := line63
  have hs : sizeLine = 16777216 := sizeLine_eq
  cases x with
  | str y =>
    obtain ⟨t, rfl⟩ := rx
    obtain ⟨hy, e'⟩ : y.length ≤ sizeLine ∧ n = y.length := e
    subst e'
    exact len_str (by omega) ⟨.int _, H, I.tok _, ⟨_, rfl⟩, q⟩
  | byt y =>
    obtain ⟨t, rfl⟩ := rx
    obtain ⟨hy, e'⟩ : y.size ≤ sizeLine ∧ n = y.size := e
    subst e'
    exact PySem.W.len_bytes (by omega) ⟨.int _, H, I.tok _, ⟨_, rfl⟩, q⟩
  | ref p =>
    cases rx
    have e' : (∃ xs, SqL X.K H p xs ∧ n = xs.length) ∨ ∃ xs, SqT X.K H p xs ∧ n = xs.length := e
    rcases e' with ⟨xs, hx, e'⟩ | ⟨xs, hx, e'⟩
    · subst e'
      obtain ⟨its, r', pl, hz⟩ := I.list hx
      have hlen := r'.length
      exact Calls.call_len_list pl.isList (by simp only [List.size_toArray]; omega) ⟨.int xs.length, H, I.tok _, ⟨_, by simp only [List.size_toArray]; rw [hlen]⟩, q⟩
    · subst e'
      obtain ⟨its, r', pl, hz⟩ := I.tuple hx
      have hlen := r'.length
      exact len_tuple pl (by simp only [List.size_toArray]; omega) ⟨.int xs.length, H, I.tok _, ⟨_, by simp only [List.size_toArray]; rw [hlen]⟩, q⟩
  | _ => exact (show False from e).elim
/-- divmod: a new tuple -/
theorem call_divmod : CallR X (.builtin "divmod") (fun xs H Q => ∃ i j, xs = [.int i, .int j] ∧ CDiv i j ∧ ∀ p, H p = none → Q (.ref p) (upd H p (.tup [.int (i / j), .int (i % j)]))) := by
  intro pins s σ H xs us Q I r h
  obtain ⟨i, j, rfl, ⟨h1, h2⟩, q⟩ := h
  obtain ⟨u, w', rfl, ⟨t, rfl⟩, ⟨t', rfl⟩⟩ := vals2 r
  refine divmod_int (by omega) ?_ (.inl (PyProof.noPylong_small (by omega)))
  rw [Int.fdiv_eq_ediv_of_nonneg i (by omega), Int.fmod_eq_emod_of_nonneg i (by omega)]
  have hn : H s.heap.objs.size = none := I.hok.fresh (Nat.le_refl _)
  refine ⟨.ref s.heap.objs.size, _, ?_, rfl, q _ hn⟩
  refine I.laid (fun b o e => Heap.get?_push_of_some _ e) (Nat.le_refl _) ⟨by simp only [List.length_cons, List.length_nil]; rw [sizeLine_eq]; decide, [.int (i / j) s.toks, .int (i % j) (s.toks + 1)], .cons ⟨_, rfl⟩ (.cons ⟨_, rfl⟩ .nil), ?_⟩
  exact ⟨_, Heap.get?_push_size s.heap rfl, rfl, 0, rfl⟩
end
end L2

namespace L2
open PySem PySem.Spec PyProof.Rows

/-! ### an instance, its attributes a map -/
structure ObjM (h : Heap) (x dx C : Addr) (mA : Str → Option Value) : Prop where
  obj : h.get? x = some (PySem.W.instObj C dx)
  ns : h.Ns1 dx mA
  ne : dx ≠ x

theorem lookIn_ns {h : Heap} {dx : Addr} {mA : Str → Option Value} (n : h.Ns1 dx mA) : ∃ od, h.get? dx = some od ∧ ∀ name, PySem.W.lookIn name od = some (mA name) := by
  obtain ⟨o, es, ep, ho, hd, hk, _, hm⟩ := n
  refine ⟨o, ho, fun name => ?_⟩
  have e := hm name
  unfold nsFind findBy at e
  rw [← Array.find?_toList] at e
  unfold PySem.W.lookIn
  rw [hd]
  dsimp only
  split
  · rename_i y q
    rw [q] at e
    exact congrArg some e
  · rename_i q
    rw [q] at e
    have a : es.toList.any (·.refKey) = false := by
      rw [List.any_eq_false]
      intro y hy
      obtain ⟨z, t, hkey⟩ := hk y (Array.mem_toList_iff.mp hy)
      simp [DictEntry.refKey, hkey]
    have a' : ¬ es.toList.any (·.refKey) = true := by rw [a]; exact Bool.false_ne_true
    rw [if_neg a']
    exact congrArg some e

theorem ObjM.look {h : Heap} {x dx C : Addr} {mA : Str → Option Value} (I : ObjM h x dx C mA) : ∃ od, PySem.W.InstAt h x (PySem.W.instObj C dx) C (some od) ∧ ∀ name, PySem.W.lookIn name od = some (mA name) :=
  let ⟨od, ho, hl⟩ := lookIn_ns I.ns
  ⟨od, ⟨I.obj, rfl, rfl, ho⟩, hl⟩

section
variable {prog : Program} {w : World} {A : Around} {E : Value → Shared → Prop} {s : Shared} {K : PySem.W.Frag} {x dx C f : Addr} {mA : Str → Option Value} {name : Str} {v : Value}

theorem get_map {expr : Bool} {Q : Value → Shared → Prop} (X : K.In s.heap) (I : ObjM s.heap x dx C mA) (hg : PySem.W.plainGet K C name = true) (hh : PySem.W.hasDictIn K C = true)
    (ha : PySem.W.findIn K (.ref C) name = some none) (hv : mA name = some v) (hv' : PySem.W.handedIn v = true) (h : Q v { s with toks := s.toks + 1 }) :
    wpAny (model prog w) A (getAttr (.ref x) name expr) Q E s := by
  obtain ⟨od, J, hl⟩ := I.look
  exact PySem.W.get_value X J (PySem.W.plainGet_of hg).1 (PySem.W.findObj_own hh ha rfl (by rw [hl, hv])) hv' h

theorem get_const {expr : Bool} {a : Value} {Q : Value → Shared → Prop} (X : K.In s.heap) (I : ObjM s.heap x dx C mA) (hg : PySem.W.plainGet K C name = true) (hh : PySem.W.hasDictIn K C = true)
    (ha : PySem.W.findIn K (.ref C) name = some (some a)) (hn : PySem.W.specialIn K a "__get__" = some none) (hc : PySem.W.copiedNames.contains name = false) (hv : mA name = none) (hv' : PySem.W.handedIn a = true)
    (h : Q a { s with toks := s.toks + 1 }) : wpAny (model prog w) A (getAttr (.ref x) name expr) Q E s := by
  obtain ⟨od, J, hl⟩ := I.look
  exact PySem.W.get_value X J (PySem.W.plainGet_of hg).1 (PySem.W.findObj_cls hh ha hn hv' hc (by rw [hl, hv])) hv' h

theorem get_meth {pl : Sem Bool} {Q : Value × List Value → Shared → Prop} (X : K.In s.heap) (I : ObjM s.heap x dx C mA) (hg : PySem.W.plainGet K C name = true)
    (hf : PySem.W.findIn K (.ref C) name = some (some (.ref f))) (ht : PySem.W.isFn K (.ref f) = true) (hv : mA name = none) (h : Q (.ref f, [.ref x]) s) :
    wpAny (model prog w) A (getMethod (.ref x) name pl) Q E s := by
  obtain ⟨od, J, hl⟩ := I.look
  exact PySem.W.method_fn X J (PySem.W.plainGet_of hg).1 (PySem.W.plainGet_of hg).2 hf (beq_iff_eq.mp ht) (by show (PySem.W.lookIn name od).map (·.isSome) = some false; rw [hl, hv]; rfl) h

theorem set_map {ns : List Str} {Q : Unit → Shared → Prop} (X : K.In s.heap) (I : ObjM s.heap x dx C mA)
    (hs : PySem.W.findIn K (.ref C) "__setattr__" = some (some (.builtin "object.__setattr__"))) (hp : PySem.W.plainOver K C = true) (ht : PySem.W.takerIn K C name = some none) (hh : PySem.W.hasDictIn K C = true)
    (hw : PySem.Within mA ns) (hsz : ns.length ≤ sizeLine)
    (h : ∀ h', ObjM h' x dx C (fun y => if y = name then some v else mA y) → Heap.SameBut dx s.heap h' → Q () { s with heap := h', toks := s.toks + 2 }) :
    wpAny (model prog w) A (setAttr (.ref x) name v) Q E s := by
  obtain ⟨od, J, hl⟩ := I.look
  refine PySem.W.set_plain X J hs (PySem.W.osa_open (s := { s with toks := s.toks + 1 }) (r := none) X J hp ht fun b => ?_)
  obtain ⟨cd, hc, hd'⟩ := PySem.W.any_some hh
  have hx : s.heap.get? x = some ⟨.ref C, some dx, .plain, #[]⟩ := I.obj
  refine wpAny_bind (wpAny_pure (wpAny_bind (wpAny_bind (wpAny_loadPart hx (wpAny_bind (PySem.W.Looks.here (s := { s with toks := s.toks + 1 }) (PySem.W.looks_clsIn X hc) ?_))))))
  rw [hd']
  refine wpAny_pure (a := some dx) (wpAny_bind (wpAny_pure (wpAny_bind ?_)))
  refine wpAny_nsSet1 (s := { s with toks := s.toks + 1 }) I.ns fun h' hn2 hs2 => ?_
  obtain ⟨oD, esD, epD, hoD, hdD, hcD⟩ := hn2.count (PySem.Within.cons name v hw)
  refine wpAny_bind (wpAny_lookBehind hoD (by rw [hdD]; exact pastItsLine_dict (Nat.le_trans hcD (by rw [List.length_cons]; omega))) ?_)
  exact wpAny_pure (h _ ⟨(hs2.2 _ (Ne.symm I.ne)).trans I.obj, hn2, I.ne⟩ hs2)

/-- C(..): the dict at the heap's end, the instance behind it; then its __init__ -/
theorem make_map {R : Result → Shared → Prop} {vs : List Value} {kw : List (Str × Value)} (X : K.In s.heap) (hm : PySem.W.makesIn K C = true)
    (hi : PySem.W.findIn K (.ref C) "__init__" = some (some (.ref f))) (hf : PySem.W.typeIn K (.ref f) = some (.type "function"))
    (h : codeAny (model prog w) (A.under (.builtin "type.__call__" ⟨.ref C :: vs, kw⟩)) (.call (.ref f) ⟨.ref (s.heap.objs.size + 1) :: vs, kw⟩) (PySem.W.InitBack (s.heap.objs.size + 1) R)
      { s with heap := (s.heap.push PySem.W.emptyDict).push (PySem.W.instObj C s.heap.objs.size) }) :
    codeAny (model prog w) A (.call (.ref C) ⟨vs, kw⟩) R s := by
  obtain ⟨hh, g, d, t, os⟩ := s
  exact PySem.W.make_core (PySem.W.makes_of X hm) (PySem.W.looks_findIn X hi) (fun self => PySem.W.bind_fn X self hf) (.inl rfl) h
/-- C() where there is no __init__ but object's -/
theorem make_map0 {R : Result → Shared → Prop} (X : K.In s.heap) (hm : PySem.W.makesIn K C = true)
    (hi : PySem.W.findIn K (.ref C) "__init__" = some (some (.builtin "object.__init__")))
    (hb : ∀ self, PySem.W.Looks (model prog w) s.heap (bindSpecial (.builtin "object.__init__") self) (.builtin "object.__init__", [self]))
    (h : codeAny (model prog w) (A.under (.builtin "type.__call__" ⟨[.ref C], []⟩)) (.call (.builtin "object.__init__") ⟨[.ref (s.heap.objs.size + 1)], []⟩) (PySem.W.InitBack (s.heap.objs.size + 1) R)
      { s with heap := (s.heap.push PySem.W.emptyDict).push (PySem.W.instObj C s.heap.objs.size) }) :
    codeAny (model prog w) A (.call (.ref C) ⟨[], []⟩) R s := by
  obtain ⟨hh, g, d, t, os⟩ := s
  exact PySem.W.make_core (PySem.W.makes_of X hm) (PySem.W.looks_findIn X hi) hb (.inr ⟨rfl, rfl⟩) h
end

/-! ### the attributes as a list of pairs -/
def putF (f : Str) (v : V) : List (Str × V) → List (Str × V)
  | [] => [(f, v)]
  | (g, x) :: r => if g = f then (g, v) :: r else (g, x) :: putF f v r
theorem lookup_putF (f g : Str) (v : V) : ∀ fs : List (Str × V), (putF f v fs).lookup g = if g = f then some v else fs.lookup g
  | [] => by
    show List.lookup g [(f, v)] = _
    by_cases h : g = f
    · have hb : (g == f) = true := beq_iff_eq.mpr h
      simp only [List.lookup, hb, if_pos h]
    · have hb : (g == f) = false := beq_eq_false_iff_ne.mpr h
      simp only [List.lookup, hb, if_neg h]
  | (k, x) :: r => by
    have ih := lookup_putF f g v r
    rw [show putF f v ((k, x) :: r) = (if k = f then (k, v) :: r else (k, x) :: putF f v r) from rfl]
    by_cases hk : k = f
    · rw [if_pos hk]
      by_cases h : g = k
      · have hb : (g == k) = true := beq_iff_eq.mpr h
        simp only [List.lookup, hb, if_pos (h.trans hk)]
      · have hb : (g == k) = false := beq_eq_false_iff_ne.mpr h
        simp only [List.lookup, hb, if_neg (fun e : g = f => h (e.trans hk.symm))]
    · rw [if_neg hk]
      by_cases h : g = k
      · have hb : (g == k) = true := beq_iff_eq.mpr h
        simp only [List.lookup, hb, if_neg (fun e : g = f => hk (h.symm.trans e))]
      · have hb : (g == k) = false := beq_eq_false_iff_ne.mpr h
        simp only [List.lookup, hb]
        exact ih
theorem keys_putF (f : Str) (v : V) : ∀ fs : List (Str × V), f ∈ (putF f v fs).map (·.1) ∧ ∀ g, g ∈ fs.map (·.1) → g ∈ (putF f v fs).map (·.1)
  | [] => ⟨by simp [putF], fun g h => by simp at h⟩
  | (k, x) :: r => by
    obtain ⟨i1, i2⟩ := keys_putF f v r
    rw [show putF f v ((k, x) :: r) = (if k = f then (k, v) :: r else (k, x) :: putF f v r) from rfl]
    by_cases hk : k = f
    · rw [if_pos hk]
      subst hk
      exact ⟨by simp, fun g h => by simpa using h⟩
    · rw [if_neg hk]
      refine ⟨?_, fun g h => ?_⟩
      · rw [List.map_cons]
        exact List.mem_cons_of_mem _ i1
      · rw [List.map_cons] at h ⊢
        rcases List.mem_cons.mp h with e | e
        · exact List.mem_cons.mpr (.inl e)
        · exact List.mem_cons_of_mem _ (i2 g e)
theorem length_putF (f : Str) (v : V) : ∀ fs : List (Str × V), (putF f v fs).length ≤ fs.length + 1
  | [] => by simp [putF]
  | (k, x) :: r => by
    have ih := length_putF f v r
    rw [show putF f v ((k, x) :: r) = (if k = f then (k, v) :: r else (k, x) :: putF f v r) from rfl]
    by_cases hk : k = f
    · rw [if_pos hk, List.length_cons, List.length_cons]; omega
    · rw [if_neg hk, List.length_cons, List.length_cons]; omega

theorem RelO.some_of {v : V} {o : Option Value} (r : RelO (some v) o) : ∃ u, o = some u ∧ RelV v u := by
  cases o with
  | none => exact (show False from r).elim
  | some u => exact ⟨u, rfl, r⟩
theorem RelO.none_of {o : Option Value} (r : RelO none o) : o = none := by
  cases o with
  | none => rfl
  | some u => exact (show False from r).elim
theorem handed_of {v : V} {u : Value} (r : RelV v u) : PySem.W.handedIn u = true := by
  cases v with
  | non => cases (show u = Value.none from r); rfl
  | bl b => cases (show u = Value.bool b from r); rfl
  | int i => obtain ⟨t, e⟩ := (show ∃ t, u = Value.int i t from r); cases e; rfl
  | str x => obtain ⟨t, e⟩ := (show ∃ t, u = Value.str x t from r); cases e; rfl
  | byt b => obtain ⟨t, e⟩ := (show ∃ t, u = Value.bytes b t from r); cases e; rfl
  | flt b => obtain ⟨t, e⟩ := (show ∃ t, u = Value.float b t from r); cases e; rfl
  | ref a => cases (show u = Value.ref a from r); rfl
  | ty n => cases (show u = Value.type n from r); rfl

section
variable {P : Program} {w : World} {H H' : Hp} {h h' : Heap} {a C dx : Addr} {fs fs' : List (Str × V)}
theorem ins_get (hok : HOk P w H h) (e : H a = some (.ins C dx fs)) : ∃ mA, ObjM h a dx C mA ∧ (∀ f, RelO (fs.lookup f) (mA f)) ∧ PySem.Within mA (fs.map (·.1)) ∧ fs.length ≤ 1000 ∧ H dx = some (.own a) := by
  obtain ⟨d, z, ne, ob, mA, n, r, q⟩ := (show ObjOk P w H h a (.ins C dx fs) from hok a _ e)
  exact ⟨mA, ⟨ob, n, ne⟩, r, q, z, d⟩
end

/-! ### what of the text a class must have -/
structure Cls (K : PySem.W.Frag) (C : Addr) : Prop where
  pg : PySem.W.plainGet K C Str.empty = true
  hd : PySem.W.hasDictIn K C = true
  po : PySem.W.plainOver K C = true
  sa : PySem.W.findIn K (.ref C) "__setattr__" = some (some (.builtin "object.__setattr__"))
theorem Cls.get {K : PySem.W.Frag} {C : Addr} (c : Cls K C) (f : Str) : PySem.W.plainGet K C f = true := c.pg
/-- no class of it has the name -/
def NoAttr (K : PySem.W.Frag) (C : Addr) (f : Str) : Prop := PySem.W.findIn K (.ref C) f = some none
theorem NoAttr.taker {K : PySem.W.Frag} {C : Addr} {f : Str} (n : NoAttr K C f) : PySem.W.takerIn K C f = some none := by
  unfold PySem.W.takerIn
  rw [show PySem.W.findIn K (.ref C) f = some none from n]
  rfl
/-- a constant of the class -/
structure Con (K : PySem.W.Frag) (C : Addr) (f : Str) (v : V) (u : Value) : Prop where
  at_ : PySem.W.findIn K (.ref C) f = some (some u)
  rel : RelV v u
  get : PySem.W.specialIn K u "__get__" = some none
  cp : PySem.W.copiedNames.contains f = false
/-- a method: a plain def of the class or of one above it -/
structure Meth (K : PySem.W.Frag) (C : Addr) (m : Str) (f : Addr) : Prop where
  at_ : PySem.W.findIn K (.ref C) m = some (some (.ref f))
  fn : PySem.W.isFn K (.ref f) = true
  kp : PySem.W.keepIn K (.ref f) = true

section
variable {X : Cx} {pins : List (Addr × Obj)} {σ : St} {H : Hp} {s : Shared} {a C dx : Addr} {fs : List (Str × V)} {f : Str} {v : V} {A : Around} {E : Value → Shared → Prop}

theorem getattr_ok {b : Bool} {Q : Value → Shared → Prop} (I : Inv X pins σ H s) (e : H a = some (.ins C dx fs)) (c : Cls X.K C) (n : NoAttr X.K C f) (l : fs.lookup f = some v)
    (h : ∀ u s', Inv X pins σ H s' → RelV v u → Q u s') : wpAny (model X.prog X.w) A (getAttr (.ref a) f b) Q E s := by
  obtain ⟨mA, O, r, _, _, _⟩ := ins_get I.hok e
  obtain ⟨u, hu, ru⟩ := RelO.some_of (v := v) (o := mA f) (by rw [← l]; exact r f)
  exact get_map I.kIn O (c.get f) c.hd n hu (handed_of ru) (h u _ (I.tok _) ru)

theorem getcon_ok {b : Bool} {u : Value} {Q : Value → Shared → Prop} (I : Inv X pins σ H s) (e : H a = some (.ins C dx fs)) (c : Cls X.K C) (k : Con X.K C f v u) (l : fs.lookup f = none)
    (h : ∀ s', Inv X pins σ H s' → Q u s') : wpAny (model X.prog X.w) A (getAttr (.ref a) f b) Q E s := by
  obtain ⟨mA, O, r, _, _, _⟩ := ins_get I.hok e
  have hn : mA f = none := RelO.none_of (by rw [← l]; exact r f)
  exact get_const I.kIn O (c.get f) c.hd k.at_ k.get k.cp hn (handed_of k.rel) (h _ (I.tok _))

theorem getmeth_ok {m : Str} {g : Addr} {pl : Sem Bool} {Q : Value × List Value → Shared → Prop} (I : Inv X pins σ H s) (e : H a = some (.ins C dx fs)) (c : Cls X.K C) (k : Meth X.K C m g) (l : fs.lookup m = none)
    (h : Q (.ref g, [.ref a]) s) : wpAny (model X.prog X.w) A (getMethod (.ref a) m pl) Q E s := by
  obtain ⟨mA, O, r, _, _, _⟩ := ins_get I.hok e
  have hn : mA m = none := RelO.none_of (by rw [← l]; exact r m)
  exact get_meth I.kIn O (c.get m) k.at_ k.fn hn h

theorem setattr_ok {y : V} {u : Value} {Q : Unit → Shared → Prop} (I : Inv X pins σ H s) (e : H a = some (.ins C dx fs)) (c : Cls X.K C) (n : NoAttr X.K C f) (hl : fs.length < 1000) (ry : RelV y u)
    (h : ∀ s', Inv X pins σ (upd H a (.ins C dx (putF f y fs))) s' → Q () s') : wpAny (model X.prog X.w) A (setAttr (.ref a) f u) Q E s := by
  obtain ⟨mA, O, r, wi, _, ho⟩ := ins_get I.hok e
  have hz : (fs.map (·.1)).length ≤ sizeLine := by rw [List.length_map, sizeLine_eq]; omega
  refine set_map I.kIn O c.sa c.po n.taker c.hd wi hz fun h' O' sb => h _ ?_
  have hd : ∃ o, h'.get? dx = some o := let ⟨o, _, _, e', _⟩ := O'.ns; ⟨o, e'⟩
  refine I.write (x := a) (e := dx) (by rw [e]; exact True.intro) (.inr ho) (fun b q hb z => (sb.2 b hb).trans z) hd ?_
  refine ⟨by rw [upd_ne O.ne]; exact ho, ?_, O.ne, O'.obj, _, O'.ns, fun g => ?_, fun g hg => ?_⟩
  · have := length_putF f y fs; omega
  · show RelO ((putF f y fs).lookup g) (if g = f then some u else mA g)
    rw [lookup_putF]
    by_cases q : g = f
    · rw [if_pos q, if_pos q]; exact ry
    · rw [if_neg q, if_neg q]; exact r g
  · by_cases q : g = f
    · rw [q]; exact (keys_putF f y fs).1
    · refine (keys_putF f y fs).2 g (wi g fun z => hg ?_)
      show (if g = f then some u else mA g) = none
      rw [if_neg q]; exact z

/-- a new instance, tracked, without attributes -/
theorem Inv.made (I : Inv X pins σ H s) : Inv X pins σ (upd (upd H s.heap.objs.size (.own (s.heap.objs.size + 1))) (s.heap.objs.size + 1) (.ins C s.heap.objs.size []))
    { s with heap := (s.heap.push PySem.W.emptyDict).push (PySem.W.instObj C s.heap.objs.size) } := by
  have e1 : (s.heap.push PySem.W.emptyDict).get? s.heap.objs.size = some PySem.W.emptyDict := Heap.get?_push_size s.heap rfl
  have e2 : ((s.heap.push PySem.W.emptyDict).push (PySem.W.instObj C s.heap.objs.size)).get? (s.heap.objs.size + 1) = some (PySem.W.instObj C s.heap.objs.size) := by
    have := Heap.get?_push_size (s.heap.push PySem.W.emptyDict) (o := PySem.W.instObj C s.heap.objs.size) rfl
    rwa [Heap.size_push] at this
  have e3 : (s.heap.push PySem.W.emptyDict).Ns s.heap.objs.size (fun _ => none) := ⟨PySem.W.emptyDict, #[], _, e1, rfl, (fun e he => absurd he (by simp)), fun _ => rfl⟩
  have I1 := I.laid (a := s.heap.objs.size) (o := .own (s.heap.objs.size + 1)) (h' := s.heap.push PySem.W.emptyDict) (t' := s.toks) (fun b u q => Heap.get?_push_of_some _ q) (Nat.le_refl _) ⟨_, e1⟩
  refine I1.laid (a := s.heap.objs.size + 1) (o := .ins C s.heap.objs.size []) (t' := s.toks) (fun b u q => Heap.get?_push_of_some _ q) (Nat.le_of_eq (Heap.size_push _ _)) ?_
  have ne : s.heap.objs.size ≠ s.heap.objs.size + 1 := Nat.ne_of_lt (Nat.lt_succ_self _)
  refine ⟨by rw [upd_ne ne, upd_same], Nat.zero_le _, ne, e2, fun _ => none, (Heap.Ns1.of_empty e3).at fun o q => Heap.get?_push_of_some _ q, fun _ => True.intro, fun y hy => absurd rfl hy⟩

/-- e.f where nothing but the object is asked: through attributeBase (super) and the last hold -/
theorem attr_of {prog : Program} {w : World} {env : Env} {e : Expr} {f : Str} {pos : Pos} {s : Shared} {Q : Value → Shared → Prop} (hb : attributeBase e f env (eval e env) = eval e env)
    (h : wpAny (model prog w) A (eval e env) (fun o s₁ => wpAny (model prog w) A (getAttr o f true) Q E s₁) E s) : wpAny (model prog w) A (eval (.Attribute e f pos) env) Q E s :=
  Attribute_any_ h (by rw [arm_eval_Attribute, hb])
end

/-! ### readings and rules -/
/-- e.f, an attribute of the instance -/
def tFld (K : PySem.W.Frag) (ta : TE) (f : Str) : TE := fun σ H Q => ta σ H fun x H1 => ∃ a C dx fs v, x = .ref a ∧ H1 a = some (.ins C dx fs) ∧ Cls K C ∧ NoAttr K C f ∧ fs.lookup f = some v ∧ Q v H1
/-- e.f, a constant of the class -/
def tCon (K : PySem.W.Frag) (ta : TE) (f : Str) : TE := fun σ H Q => ta σ H fun x H1 => ∃ a C dx fs v u, x = .ref a ∧ H1 a = some (.ins C dx fs) ∧ Cls K C ∧ Con K C f v u ∧ fs.lookup f = none ∧ Q v H1
/-- e.f = value -/
def sFld (K : PySem.W.Frag) (ta tv : TE) (f : Str) : TS := fun D σ H => tv σ H fun y H1 => ta σ H1 fun x H2 => ∃ a C dx fs, x = .ref a ∧ H2 a = some (.ins C dx fs) ∧ Cls K C ∧ NoAttr K C f ∧ fs.length < 1000 ∧
  D.nx σ (upd H2 a (.ins C dx (putF f y fs)))
/-- an augmented operator on two values -/
def InOp (X : Cx) (op : Operator) (rd : V → V → Hp → VK → Prop) : Prop :=
  ∀ (pins : List (Addr × Obj)) (s : Shared) (σ : St) (H : Hp) (x y : V) (u v : Value) (Q : VK), Inv X pins σ H s → RelV x u → RelV y v → rd x y H Q → wpAny (model X.prog X.w) X.A (inplaceOp op u v) (EP X pins σ Q) X.xe s
/-- e.f op= value -/
def sFldAug (K : PySem.W.Frag) (ta tv : TE) (rd : V → V → Hp → VK → Prop) (f : Str) : TS := fun D σ H => ta σ H fun x H1 => ∃ a C dx fs v, x = .ref a ∧ H1 a = some (.ins C dx fs) ∧ Cls K C ∧ NoAttr K C f ∧ fs.lookup f = some v ∧
  tv σ H1 fun y H2 => rd v y H2 fun z H3 => ∃ dx' fs', H3 a = some (.ins C dx' fs') ∧ fs'.length < 1000 ∧ D.nx σ (upd H3 a (.ins C dx' (putF f z fs')))

section
variable {X : Cx} {o e value : Expr} {f : Str} {pos pos' tpos : Pos} {ta tv : TE}
theorem pe_fld (he : PE X e ta) (hb : attributeBase e f X.env (eval e X.env) = eval e X.env) : PE X (.Attribute e f pos) (tFld X.K ta f) := by
  intro pins s σ H Q I h
  refine attr_of hb (thn (he pins s σ H _ I h) fun u s1 ⟨x, H1, I1, rx, a, C, dx, fs, v, ex, ea, c, n, l, q⟩ => ?_)
  subst ex
  obtain rfl : u = Value.ref a := rx
  exact getattr_ok I1 ea c n l fun u' s2 I2 ru => ⟨v, H1, I2, ru, q⟩
theorem pe_con (he : PE X e ta) (hb : attributeBase e f X.env (eval e X.env) = eval e X.env) : PE X (.Attribute e f pos) (tCon X.K ta f) := by
  intro pins s σ H Q I h
  refine attr_of hb (thn (he pins s σ H _ I h) fun u s1 ⟨x, H1, I1, rx, a, C, dx, fs, v, u0, ex, ea, c, k, l, q⟩ => ?_)
  subst ex
  obtain rfl : u = Value.ref a := rx
  exact getcon_ok I1 ea c k l fun s2 I2 => ⟨v, H1, I2, k.rel, q⟩
theorem ps_fld (ha : PE X o ta) (hv : PE X value tv) (hs : swapsWith value (some (.Attribute o f pos')) pos.line X.env = pure false) : PS X (.Assign [.Attribute o f pos'] value pos) (sFld X.K ta tv f) := by
  intro pins s σ H D I h
  refine plainObj_wpAny_Assign_Attribute (thn (hv pins s σ H _ I h) fun u s1 ⟨y, H1, I1, ry, q⟩ => thn (ha pins s1 σ H1 _ I1 q) fun ov s2 ⟨x, H2, I2, rx, a, C, dx, fs, ex, ea, c, n, l, q2⟩ => ?_) hs
  subst ex
  obtain rfl : ov = Value.ref a := rx
  exact setattr_ok I2 ea c n l ry fun s3 I3 => ⟨σ, _, I3, q2⟩
theorem ps_fldaug {op : Operator} {rd : V → V → Hp → VK → Prop} (ha : PE X o ta) (hv : PE X value tv) (hop : InOp X op rd) : PS X (.AugAssign (.Attribute o f tpos) op value pos) (sFldAug X.K ta tv rd f) := by
  intro pins s σ H D I h
  refine wpAny_AugAssign_AttributeAny (thn (ha pins s σ H _ I h) fun ov s1 ⟨x, H1, I1, rx, a, C, dx, fs, v, ex, ea, c, n, l, q⟩ => ?_)
  subst ex
  obtain rfl : ov = Value.ref a := rx
  refine getattr_ok I1 ea c n l fun u s2 I2 ru => thn (hv pins s2 σ H1 _ I2 q) fun w3 s3 ⟨y, H2, I3, ry, q3⟩ => thn (hop pins s3 σ H2 v y u w3 _ I3 ru ry q3) fun w4 s4 ⟨z, H3, I4, rz, dx', fs', ea', l', q4⟩ => ?_
  exact setattr_ok I4 ea' c n l' rz fun s5 I5 => ⟨σ, _, I5, q4⟩
def rAdd : V → V → Hp → VK → Prop := fun x y H Q => ∃ i j, x = .int i ∧ y = .int j ∧ Q (.int (i + j)) H
def rSub : V → V → Hp → VK → Prop := fun x y H Q => ∃ i j, x = .int i ∧ y = .int j ∧ Q (.int (i - j)) H
theorem in_add : InOp X .Add rAdd := by
  rintro pins s σ H x y u v Q I rx ry ⟨i, j, rfl, rfl, q⟩
  obtain ⟨t, rfl⟩ := (show ∃ t, u = Value.int i t from rx)
  obtain ⟨t', rfl⟩ := (show ∃ t', v = Value.int j t' from ry)
  exact PyProof.Rows.iadd_int ⟨.int (i + j), H, I.tok _, ⟨_, rfl⟩, q⟩
theorem in_sub : InOp X .Sub rSub := by
  rintro pins s σ H x y u v Q I rx ry ⟨i, j, rfl, rfl, q⟩
  obtain ⟨t, rfl⟩ := (show ∃ t, u = Value.int i t from rx)
  obtain ⟨t', rfl⟩ := (show ∃ t', v = Value.int j t' from ry)
  exact PyProof.Rows.isub_int ⟨.int (i - j), H, I.tok _, ⟨_, rfl⟩, q⟩

/-- what is between an instance and its method: the tree of a method call -/
theorem methcall_of {pl : Sem Bool} {m : Str} {apos : Pos} {args : List Expr} {pins : List (Addr × Obj)} {s : Shared} {σ : St} {H : Hp} {Q : Value → Shared → Prop} {te : TE} (he : PE X e te) (I : Inv X pins σ H s)
    (h : te σ H fun x H1 => ∃ a C dx fs g, x = .ref a ∧ H1 a = some (.ins C dx fs) ∧ Cls X.K C ∧ Meth X.K C m g ∧ fs.lookup m = none ∧
      ∀ s1, Inv X pins σ H1 s1 → wpAny (model X.prog X.w) X.A (callWith pos (.ref g) [.ref a] (backTo pos (starEach args X.env)) (backToKw pos (keywordEach [] X.env))) Q X.xe s1)
    (ht : eval (.Call (.Attribute e m apos) args [] pos) X.env = (do
      let ov ← eval e X.env
      standAt apos.atName
      let (f, first) ← holding [ov] (getMethod ov m pl)
      callWith pos f first (backTo pos (starEach args X.env)) (backToKw pos (keywordEach [] X.env)))) :
    wpAny (model X.prog X.w) X.A (eval (.Call (.Attribute e m apos) args [] pos) X.env) Q X.xe s := by
  refine PySem.W.methodCall_KW (pl := pl) (thn (he pins s σ H _ I h) fun u s1 ⟨x, H1, I1, rx, a, C, dx, fs, g, ex, ea, c, k, l, q⟩ => ?_) ht
  subst ex
  obtain rfl : u = Value.ref a := rx
  exact getmeth_ok I1 ea c k l (q s1 I1)
end

/-! ### isinstance -/
section
variable {X : Cx} {pins : List (Addr × Obj)} {σ : St} {H : Hp} {s : Shared} {A : Around} {E : Value → Shared → Prop} {Q : Value → Shared → Prop} {c : Value} {b : Bool}
/-- the type of a value, as the fragment's deciders take it; for an instance its class -/
inductive TyOf (K : PySem.W.Frag) (H : Hp) : V → Value → Prop where
  | non : TyOf K H .non (.type "NoneType")
  | bl (x : Bool) : TyOf K H (.bl x) (.type "bool")
  | int (i : Int) : TyOf K H (.int i) (.type "int")
  | str (x : Str) : TyOf K H (.str x) (.type "str")
  | flt (x : UInt64) : TyOf K H (.flt x) (.type "float")
  | lst {a : Addr} {xs : List V} (e : H a = some (.lst xs)) : TyOf K H (.ref a) (.type "list")
  | frz {a : Addr} {o : Obj} {xs : List V} (e : H a = some (.frz o (.lst xs))) : TyOf K H (.ref a) (.type "list")
  | tup {a : Addr} {xs : List V} (e : H a = some (.tup xs)) : TyOf K H (.ref a) (.type "tuple")
  | dK {a : Addr} {kvs : List (Key × V)} (e : H a = some (.dK kvs)) : TyOf K H (.ref a) (.type "dict")
  | dT {a : Addr} {kvs : List (List Key × V)} (e : H a = some (.dT kvs)) : TyOf K H (.ref a) (.type "dict")
  | ins {a C dx : Addr} {fs : List (Str × V)} (e : H a = some (.ins C dx fs)) (cl : Cls K C) (ha : PySem.W.findIn K (.ref C) "__class__" = some (some (.builtin "object.__class__")))
      (hn : PySem.W.specialIn K (.builtin "object.__class__") "__get__" = some (some (.builtin "getset_descriptor.__get__"))) (htk : PySem.W.takesIn K (.builtin "object.__class__") = some true)
      (hm : PySem.W.mroIn K C (.type "object") = some true) : TyOf K H (.ref a) (.ref C)
/-- isinstance(x, c) for one class c, a built-in or an own one: kitOne's answer -/
theorem isinst_ok {x : V} {u t : Value} (I : Inv X pins σ H s) (rx : RelV x u) (ty : TyOf X.K H x t) (e : PySem.W.kitOne X.K t c = some b) (h : ∀ tk, Q (.bool b) { s with toks := tk }) :
    wpAny (model X.prog X.w) A (call (.builtin "isinstance") [u, c]) Q E s := by
  cases ty with
  | non => cases (show u = Value.none from rx); exact PySem.W.kia_one PySem.W.kitx_none I.kIn True.intro e (fun z => nomatch z) h
  | bl y => cases (show u = Value.bool y from rx); exact PySem.W.kia_one PySem.W.kitx_bool I.kIn True.intro e (fun z => nomatch z) h
  | int i => obtain ⟨t, q⟩ := (show ∃ t, u = Value.int i t from rx); cases q; exact PySem.W.kia_one PySem.W.kitx_int I.kIn True.intro e (fun z => nomatch z) h
  | str y => obtain ⟨t, q⟩ := (show ∃ t, u = Value.str y t from rx); cases q; exact PySem.W.kia_one PySem.W.kitx_str I.kIn True.intro e (fun z => nomatch z) h
  | flt y => obtain ⟨t, q⟩ := (show ∃ t, u = Value.float y t from rx); cases q; exact PySem.W.kia_one PySem.W.kitx_float I.kIn True.intro e (fun z => nomatch z) h
  | @lst a xs ea =>
    cases (show u = Value.ref a from rx)
    obtain ⟨_, _, n, _, h1⟩ := (show ObjOk X.prog X.w H s.heap a (.lst xs) from I.hok a _ ea)
    exact PySem.W.kia_one PySem.W.kitx_list I.kIn ⟨_, h1, rfl⟩ e (fun z => nomatch z) h
  | @frz a ob xs ea =>
    cases (show u = Value.ref a from rx)
    obtain ⟨_, _, _, n, _, h1⟩ := (show ObjOk X.prog X.w H s.heap a (.frz ob (.lst xs)) from I.hok a _ ea)
    exact PySem.W.kia_one PySem.W.kitx_list I.kIn ⟨_, h1, rfl⟩ e (fun z => nomatch z) h
  | @tup a xs ea =>
    cases (show u = Value.ref a from rx)
    obtain ⟨_, _, _, p⟩ := (show ObjOk X.prog X.w H s.heap a (.tup xs) from I.hok a _ ea)
    obtain ⟨o, h1, h2, _⟩ := p
    exact PySem.W.kia_one PySem.W.kitx_tuple I.kIn ⟨o, h1, h2⟩ e (fun z => nomatch z) h
  | @dK a kvs ea =>
    cases (show u = Value.ref a from rx)
    obtain ⟨_, _, vs, _, p⟩ := (show ObjOk X.prog X.w H s.heap a (.dK kvs) from I.hok a _ ea)
    obtain ⟨o, es, ep, h1, h2, _⟩ := p
    exact PySem.W.kia_one PySem.W.kitx_dict I.kIn ⟨o, h1, h2.1⟩ e (fun z => nomatch z) h
  | @dT a kvs ea =>
    cases (show u = Value.ref a from rx)
    obtain ⟨_, _, xs, _, o, es, ep, h1, h2, _⟩ := (show ObjOk X.prog X.w H s.heap a (.dT kvs) from I.hok a _ ea)
    exact PySem.W.kia_one PySem.W.kitx_dict I.kIn ⟨o, h1, h2.1⟩ e (fun z => nomatch z) h
  | @ins a C dx fs ea cl ha hn htk hm =>
    cases (show u = Value.ref a from rx)
    obtain ⟨mA, O, _⟩ := ins_get I.hok ea
    obtain ⟨od, J, _⟩ := O.look
    exact PySem.W.kia_one (PySem.W.kitx_own (cl.get _) cl.hd ha hn htk hm) I.kIn J e (fun z => nomatch z) h
end
end L2

namespace L2
open PySem PySem.Spec PyProof.Rows

/-! ### room -/
structure Room (k : Nat) (A : Around) : Prop where
  hd : A.handled = none
  dp : A.depth + 3 * k + 5 < recursionLimit
  un : A.units + 16 * k + 200 < cLine
theorem Room.mono {j k : Nat} {A : Around} (r : Room k A) (h : j ≤ k) : Room j A := ⟨r.hd, by have := r.dp; omega, by have := r.un; omega⟩
theorem Room.deeper {k : Nat} {A : Around} (r : Room (k + 1) A) (env : Env) : Room k (A.deeper env) :=
  ⟨r.hd, by have := r.dp; show A.depth + 1 + 3 * k + 5 < _; omega, by have := r.un; show A.units + 3 + 16 * k + 200 < _; omega⟩
theorem Room.in1 {k : Nat} {A : Around} (r : Room (k + 1) A) : Room k A.in1 :=
  ⟨r.hd, by have := r.dp; show A.depth + 3 * k + 5 < _; omega, by have := r.un; show A.units + 1 + 16 * k + 200 < _; omega⟩
theorem make_depth {A : Around} {C : Addr} {us : List Value} {kw : List (Str × Value)} : (A.under (.builtin "type.__call__" ⟨.ref C :: us, kw⟩)).depth = A.depth + 1 := by
  first | rfl | simp [Around.under, Code.weight, Code.isCreation, Code.isGuard, Code.isCaller, Code.frames, Code.isFrame, guardIds]
theorem make_units {A : Around} {C : Addr} {us : List Value} {kw : List (Str × Value)} : (A.under (.builtin "type.__call__" ⟨.ref C :: us, kw⟩)).units = A.units + 1 := by
  first | rfl | simp [Around.under, Code.cUnits, Code.frames, Code.isFrame]
theorem Room.make {k : Nat} {A : Around} (r : Room (k + 1) A) (C : Addr) (us : List Value) (kw : List (Str × Value)) : Room k (A.under (.builtin "type.__call__" ⟨.ref C :: us, kw⟩)) :=
  ⟨r.hd, by have := r.dp; rw [make_depth]; omega, by have := r.un; rw [make_units]; omega⟩
theorem Room.depth {k : Nat} {A : Around} (r : Room k A) : A.depth < recursionLimit := by have := r.dp; omega
theorem Room.units {k : Nat} {A : Around} (r : Room k A) : A.units + 64 < cLine := by have := r.un; omega
theorem Room.units0 {k : Nat} {A : Around} (r : Room k A) : A.units < cLine := by have := r.un; omega

/-! ### argument lists and displays -/
def tNil : TA := fun _ H Q => Q [] H
def tCons (ta : TE) (tr : TA) : TA := fun σ H Q => ta σ H fun x H1 => tr σ H1 fun xs H2 => Q (x :: xs) H2
section
variable {X : Cx} {e : Expr} {es : List Expr} {te : TE} {t : TA} {pos : Pos}
theorem pa_nil : PA X [] tNil := fun _ _ _ _ H Q I h => Calls.spliced_nil ⟨[], H, I, .nil, h⟩
theorem pa_cons (ha : PE X e te) (hr : PA X es t) (hs : starEach (e :: es) X.env = (false, eval e X.env) :: starEach es X.env := by rfl) : PA X (e :: es) (tCons te t) := by
  intro pos pins s σ H Q I h
  rw [hs]
  show wpAny _ _ (spliced ((false, eval e X.env) :: backTo pos (starEach es X.env))) _ _ s
  refine Calls.spliced_cons (thn (ha pins s σ H _ I h) fun u s1 ⟨x, H1, I1, r1, q1⟩ => ?_)
  exact thn (hr pos pins s1 σ H1 _ I1 q1) fun us s2 ⟨xs, H2, I2, r2, q2⟩ => ⟨x :: xs, H2, I2, .cons r1 r2, q2⟩

/-- a tuple, a list of written items -/
def tTup (t : TA) : TE := fun σ H Q => t σ H fun xs H1 => xs.length ≤ sizeLine ∧ ∀ p, H1 p = none → Q (.ref p) (upd H1 p (.tup xs))
def tLst (t : TA) : TE := fun σ H Q => t σ H fun xs H1 => xs.length ≤ sizeLine ∧ ∀ p, H1 p = none → Q (.ref p) (upd H1 p (.lst xs))
theorem pe_tup {x1} (h : PA X es t) : PE X (.Tuple es x1 pos) (tTup t) := by
  intro pins s σ H Q I hq
  refine wpAny_Tuple_spliced (thn (h pos pins s σ H _ I hq) fun us s1 ⟨xs, H1, I1, r, z, q⟩ => ⟨by rw [← r.length]; exact z, ?_⟩)
  have hf : H1 s1.heap.objs.size = none := I1.hok.fresh (Nat.le_refl _)
  refine ⟨.ref s1.heap.objs.size, upd H1 s1.heap.objs.size (.tup xs), I1.laid (t' := s1.toks) (fun b u e => Heap.get?_push_of_some _ e) (Nat.le_refl _) ?_, rfl, q _ hf⟩
  exact ⟨z, us, r, ⟨_, Heap.get?_push_size _ rfl, rfl, _, rfl⟩⟩
theorem pe_lst (h : PA X es t) : PE X (.List es pos) (tLst t) := by
  intro pins s σ H Q I hq
  refine wpAny_List_spliced (thn (h pos pins s σ H _ I hq) fun us s1 ⟨xs, H1, I1, r, z, q⟩ => ⟨by rw [← r.length]; exact z, ?_⟩)
  have hf : H1 s1.heap.objs.size = none := I1.hok.fresh (Nat.le_refl _)
  refine ⟨.ref s1.heap.objs.size, upd H1 s1.heap.objs.size (.lst xs), I1.laid (t' := s1.toks) (fun b u e => Heap.get?_push_of_some _ e) (Nat.le_refl _) ?_, rfl, q _ hf⟩
  exact ⟨z, us, 0, r, Heap.get?_push_size _ rfl⟩
end

/-! ### what a def promises -/
/-- a def's promise: the bound arguments in the parameters' order, the heap, the wanted end, the wanted exception -/
abbrev Sp := List V → Hp → VK → XK → Prop
/-- how an exception lies behind a call (file 08 gives it): the callers' frames, abstract heap and state ahead of the call, the wish, the exception, the state -/
abbrev CXT := List Env → Hp → Shared → XK → Value → Shared → Prop

/-- the state at a call -/
structure Env0 (P : Program) (w : World) (K : PySem.W.Frag) (mg : Str → Option Value) (base : Heap) (A : Around) (outer : List Env) (s : Shared) (H : Hp) : Prop where
  frames : A.frames = some outer
  mod : Mod K mg base
  bs : ∀ b o, base.get? b = some o → s.heap.get? b = some o ∧ H b = none
  bsz : base.objs.size ≤ s.heap.objs.size
  funs : s.heap.FunFrames base outer
  frf : ∀ b ∈ frs outer, H b = none
  hok : HOk P w H s.heap
  bare : AllBare s.gens
/-- a call's end -/
def CE (outer : List Env) (P : Program) (w : World) (H : Hp) (s : Shared) (Q : VK) (u : Value) (s' : Shared) : Prop :=
  ∃ v H', s'.os = s.os ∧ AllBare s'.gens ∧ Un (frs outer) [] H H' s.heap s'.heap ∧ HOk P w H' s'.heap ∧ RelV v u ∧ Q v H'
def CR (CX : CXT) (outer : List Env) (P : Program) (w : World) (H : Hp) (s : Shared) (Q : VK) (E : XK) (r : Result) (s' : Shared) : Prop :=
  match r with
  | .ok (.ret u) => CE outer P w H s Q u s'
  | .ok _ => False
  | .error e => CX outer H s E e s'
structure FnOk (P : Program) (w : World) (K : PySem.W.Frag) (mg : Str → Option Value) (base : Heap) (CX : CXT) (k : Nat) (f : Addr) (fd : FuncData) (ps : List Str) (sp : Sp) : Prop where
  len : ∀ vs H Q E, sp vs H Q E → vs.length = ps.length
  run : ∀ (A : Around) (outer : List Env) (s : Shared) (H : Hp) (args : Args) (us : List Value) (vs : List V) (Q : VK) (E : XK), Room k A → Env0 P w K mg base A outer s H → BindsTo s fd args (ps.zip us) → Vals vs us → sp vs H Q E →
    codeAny (model P w) A (.call (.ref f) args) (CR CX outer P w H s Q E) s
theorem FnOk.mono {P : Program} {w : World} {K : PySem.W.Frag} {mg : Str → Option Value} {base : Heap} {CX : CXT} {j k : Nat} {f : Addr} {fd : FuncData} {ps : List Str} {sp : Sp} (F : FnOk P w K mg base CX j f fd ps sp) (h : j ≤ k) :
    FnOk P w K mg base CX k f fd ps sp := ⟨F.len, fun A outer s H args us vs Q E hr => F.run A outer s H args us vs Q E (hr.mono h)⟩
/-- a weaker promise -/
theorem FnOk.imp {P : Program} {w : World} {K : PySem.W.Frag} {mg : Str → Option Value} {base : Heap} {CX : CXT} {k : Nat} {f : Addr} {fd : FuncData} {ps : List Str} {sp sp' : Sp} (F : FnOk P w K mg base CX k f fd ps sp)
    (h : ∀ vs H Q E, sp' vs H Q E → sp vs H Q E) : FnOk P w K mg base CX k f fd ps sp' :=
  ⟨fun vs H Q E q => F.len vs H Q E (h _ _ _ _ q), fun A outer s H args us vs Q E hr he hb hv hs => F.run A outer s H args us vs Q E hr he hb hv (h _ _ _ _ hs)⟩

theorem Env0.make {P : Program} {w : World} {K : PySem.W.Frag} {mg : Str → Option Value} {base : Heap} {A : Around} {outer : List Env} {s : Shared} {H : Hp} (e : Env0 P w K mg base A outer s H) (C : Addr) (us : List Value) (kw : List (Str × Value)) :
    Env0 P w K mg base (A.under (.builtin "type.__call__" ⟨.ref C :: us, kw⟩)) outer s H := ⟨by first | exact e.frames | (simpa [Around.under, Code.envs, Code.isFrame, pushEnvs] using e.frames), e.mod, e.bs, e.bsz, e.funs, e.frf, e.hok, e.bare⟩
theorem Env0.in1 {P : Program} {w : World} {K : PySem.W.Frag} {mg : Str → Option Value} {base : Heap} {A : Around} {outer : List Env} {s : Shared} {H : Hp} (e : Env0 P w K mg base A outer s H) :
    Env0 P w K mg base A.in1 outer s H := ⟨e.frames, e.mod, e.bs, e.bsz, e.funs, e.frf, e.hok, e.bare⟩

section
variable {X : Cx} {pins : List (Addr × Obj)} {σ : St} {H : Hp} {s s' : Shared}
/-- from a body: what a callee wants -/
theorem Inv.env0 (I : Inv X pins σ H s) : Env0 X.prog X.w X.K X.mg X.base X.A X.stack s H :=
  ⟨I.ok.frames, I.ok.mod, I.bs, Nat.le_trans I.ok.bsz I.sz, I.stack, I.stkFree, I.hok, I.bare⟩
/-- behind a call -/
theorem Inv.after {Q : VK} {u : Value} (I : Inv X pins σ H s) (h : CE X.stack X.prog X.w H s Q u s') : EP X pins σ Q u s' := by
  obtain ⟨v, H', os, bare, un, hok, r, q⟩ := h
  obtain ⟨hh, g, d, t, os'⟩ := s'
  obtain rfl : os' = s.os := os
  exact ⟨v, H', I.call (h' := hh) (g' := g) (d' := d) (t' := t) (ch := []) un hok bare (fun b z => absurd z (by simp)), r, q⟩
end

/-! ### calls -/
/-- f(..): the written arguments, then the defaults dvs; E: what is wanted of an exception -/
def tCall (sp : Sp) (dvs : List V) (E : XK) (t : TA) : TE := fun σ H Q => t σ H fun vs H1 => sp (vs ++ dvs) H1 Q E
/-- o.m(..) of an instance of the class at C -/
def tMeth (C : Addr) (m : Str) (sp : Sp) (dvs : List V) (E : XK) (ta : TE) (t : TA) : TE := fun σ H Q => ta σ H fun x H1 => ∃ a dx fs, x = .ref a ∧ H1 a = some (.ins C dx fs) ∧ fs.lookup m = none ∧
  t σ H1 fun vs H2 => sp (x :: (vs ++ dvs)) H2 Q E
/-- C(..): a new instance and its dict, then __init__ -/
def tMake (C : Addr) (sp : Sp) (dvs : List V) (E : XK) (t : TA) : TE := fun σ H Q => t σ H fun vs H1 => ∀ x dx, H1 x = none → H1 dx = none → dx ≠ x →
  sp (.ref x :: (vs ++ dvs)) (upd (upd H1 dx (.own x)) x (.ins C dx [])) (fun v H2 => v = .non ∧ Q (.ref x) H2) E

/-- how the parameters are bound: us the positional arguments, kw the keywords' values by name, ds the defaults that fill up -/
def Binds (K : PySem.W.Frag) (fd : FuncData) (ps : List Str) (ds : List Value) : Prop :=
  ∀ (s : Shared) (us : List Value), K.In s.heap → (us ++ ds).length = ps.length → BindsTo s fd ⟨us, []⟩ (ps.zip (us ++ ds))
/-- every parameter is given -/
theorem Binds.all {K : PySem.W.Frag} {fd : FuncData} {ps : List Str} (h : ∀ us : List Value, us.length = ps.length → bindArgs fd ⟨us, []⟩ = pure (ps.zip us)) : Binds K fd ps [] := fun s us _ hl => by
  rw [List.append_nil] at hl ⊢
  exact .of_eq (h us hl)

/-- an exception of a callee reaches what this body wants of exceptions -/
def Passes (CX : CXT) (X : Cx) (E : XK) : Prop := ∀ (pins : List (Addr × Obj)) (σ : St) (H : Hp) (s : Shared) (e : Value) (s' : Shared), Inv X pins σ H s → CX X.stack H s E e s' → X.xe e s'

section
variable {X : Cx} {CX : CXT} {k : Nat} {f C : Addr} {fd : FuncData} {ps : List Str} {sp : Sp} {dvs : List V} {ds : List Value} {E : XK} {x m : Str} {p pos apos : Pos} {e o : Expr} {es : List Expr} {ta : TE} {t : TA}

/-- the callee runs -/
theorem run_fn {pins : List (Addr × Obj)} {σ : St} {H : Hp} {s : Shared} {Q : VK} {us : List Value} {vs : List V} (F : FnOk X.prog X.w X.K X.mg X.base CX k f fd ps sp) (hr : Room k X.A) (hb : Binds X.K fd ps ds) (hd : Vals dvs ds) (hx : Passes CX X E)
    (I : Inv X pins σ H s) (r : Vals vs us) (h : sp (vs ++ dvs) H Q E) : wpAny (model X.prog X.w) X.A (call (.ref f) us) (EP X pins σ Q) X.xe s := by
  have r2 : Vals (vs ++ dvs) (us ++ ds) := r.append hd
  have hl : (us ++ ds).length = ps.length := by rw [← r2.length]; exact F.len _ _ _ _ h
  refine wpAny_call (codeAny_mono (F.run X.A X.stack s H ⟨us, []⟩ (us ++ ds) (vs ++ dvs) Q E hr I.env0 (hb s us I.kIn hl) r2 h) fun r s' hq => ?_)
  cases r with
  | error e => exact hx pins σ H s e s' I hq
  | ok fl =>
    cases fl with
    | ret u => exact I.after hq
    | next => exact False.elim hq
    | brk => exact False.elim hq
    | cont => exact False.elim hq

theorem pe_call (F : FnOk X.prog X.w X.K X.mg X.base CX k f fd ps sp) (hr : Room k X.A) (hg : Gl X x) (hm : X.mg x = some (.ref f)) (hk : PySem.W.keepIn X.K (.ref f) = true) (hb : Binds X.K fd ps ds) (hd : Vals dvs ds) (hx : Passes CX X E)
    (ha : PA X (e :: es) t) (hdb : (x == ("__debug__" : Str)) = false := by decide) (he : starEach (e :: es) X.env = (false, eval e X.env) :: starEach es X.env := by rfl) (hpl : (backTo pos (starEach es X.env)).any (·.1) = false := by rfl) :
    PE X (.Call (.Name x p) (e :: es) [] pos) (tCall sp dvs E t) := by
  intro pins s σ H Q I h
  refine wpAny_Call_Name_kw (ld_glob I hg hm ?_ hdb)
  refine PySem.W.callWith_K (h₀ := X.base) I.ok.mod.kin hk (thn (ha pos pins s σ H _ I h) fun us s1 ⟨vs, H1, I1, r, q⟩ => ⟨I1.kIn, ?_⟩) he hpl
  exact run_fn F hr hb hd hx I1 r q
theorem pe_call0 (F : FnOk X.prog X.w X.K X.mg X.base CX k f fd ps sp) (hr : Room k X.A) (hg : Gl X x) (hm : X.mg x = some (.ref f)) (hk : PySem.W.keepIn X.K (.ref f) = true) (hb : Binds X.K fd ps ds) (hd : Vals dvs ds) (hx : Passes CX X E)
    (hdb : (x == ("__debug__" : Str)) = false := by decide) : PE X (.Call (.Name x p) [] [] pos) (tCall sp dvs E tNil) := by
  intro pins s σ H Q I h
  refine wpAny_Call_Name_kw (ld_glob I hg hm ?_ hdb)
  exact PySem.W.callWith_K0 I.kIn hk (run_fn (us := []) F hr hb hd hx I .nil h)

/-- o.m(e, ..) -/
theorem pe_meth {pl : Sem Bool} (he : PE X o ta) (c : Cls X.K C) (hm : Meth X.K C m f) (F : FnOk X.prog X.w X.K X.mg X.base CX k f fd ps sp) (hr : Room k X.A) (hb : Binds X.K fd ps ds) (hd : Vals dvs ds) (hx : Passes CX X E) (ha : PA X (e :: es) t)
    (hst : starEach (e :: es) X.env = (false, eval e X.env) :: starEach es X.env := by rfl) (hpl : (backTo pos (starEach es X.env)).any (·.1) = false := by rfl)
    (ht : eval (.Call (.Attribute o m apos) (e :: es) [] pos) X.env = (do
      let ov ← eval o X.env
      standAt apos.atName
      let (f, first) ← holding [ov] (getMethod ov m pl)
      callWith pos f first (backTo pos (starEach (e :: es) X.env)) (backToKw pos (keywordEach [] X.env))) := by rfl) :
    PE X (.Call (.Attribute o m apos) (e :: es) [] pos) (tMeth C m sp dvs E ta t) := by
  intro pins s σ H Q I h
  refine PySem.W.methodCall_KW (pl := pl) (thn (he pins s σ H _ I h) fun u s1 ⟨x, H1, I1, rx, a, dx, fs, ex, ea, l, q⟩ => ?_) ht
  subst ex
  obtain rfl : u = Value.ref a := rx
  refine getmeth_ok I1 ea c hm l ?_
  refine PySem.W.callWith_K (first := [.ref a]) (h₀ := X.base) I.ok.mod.kin hm.kp (thn (ha pos pins s1 σ H1 _ I1 q) fun us s2 ⟨vs, H2, I2, r, q2⟩ => ⟨I2.kIn, ?_⟩) hst hpl
  exact run_fn (us := .ref a :: us) (vs := .ref a :: vs) F hr hb hd hx I2 (.cons rfl r) q2
/-- o.m() -/
theorem pe_meth0 {pl : Sem Bool} (he : PE X o ta) (c : Cls X.K C) (hm : Meth X.K C m f) (F : FnOk X.prog X.w X.K X.mg X.base CX k f fd ps sp) (hr : Room k X.A) (hb : Binds X.K fd ps ds) (hd : Vals dvs ds) (hx : Passes CX X E)
    (ht : eval (.Call (.Attribute o m apos) [] [] pos) X.env = (do
      let ov ← eval o X.env
      standAt apos.atName
      let (f, first) ← holding [ov] (getMethod ov m pl)
      callWith pos f first (backTo pos (starEach [] X.env)) (backToKw pos (keywordEach [] X.env))) := by rfl) :
    PE X (.Call (.Attribute o m apos) [] [] pos) (tMeth C m sp dvs E ta tNil) := by
  intro pins s σ H Q I h
  refine PySem.W.methodCall_KW (pl := pl) (thn (he pins s σ H _ I h) fun u s1 ⟨x, H1, I1, rx, a, dx, fs, ex, ea, l, q⟩ => ?_) ht
  subst ex
  obtain rfl : u = Value.ref a := rx
  refine getmeth_ok I1 ea c hm l ?_
  exact PySem.W.callWith_K0 (first := [.ref a]) I1.kIn hm.kp (run_fn (us := [.ref a]) (vs := [.ref a]) F hr hb hd hx I1 (.cons rfl .nil) q)

/-- what a class must have to be made -/
structure Mk (K : PySem.W.Frag) (C f : Addr) : Prop where
  makes : PySem.W.makesIn K C = true
  init : PySem.W.findIn K (.ref C) "__init__" = some (some (.ref f))
  fn : PySem.W.isFn K (.ref f) = true
  kp : PySem.W.keepIn K (.ref C) = true

theorem run_make {pins : List (Addr × Obj)} {σ : St} {H : Hp} {s : Shared} {Q : VK} {us : List Value} {vs : List V} (M : Mk X.K C f) (F : FnOk X.prog X.w X.K X.mg X.base CX k f fd ps sp) (hr : Room (k + 1) X.A) (hb : Binds X.K fd ps ds) (hd : Vals dvs ds)
    (hx : Passes CX X E) (I : Inv X pins σ H s) (r : Vals vs us)
    (h : ∀ x dx, H x = none → H dx = none → dx ≠ x → sp (.ref x :: (vs ++ dvs)) (upd (upd H dx (.own x)) x (.ins C dx [])) (fun v H2 => v = .non ∧ Q (.ref x) H2) E) :
    wpAny (model X.prog X.w) X.A (call (.ref C) us) (EP X pins σ Q) X.xe s := by
  have hq := h (s.heap.objs.size + 1) s.heap.objs.size (I.hok.fresh (Nat.le_succ _)) (I.hok.fresh (Nat.le_refl _)) (Nat.ne_of_lt (Nat.lt_succ_self _))
  have I2 := Inv.made (C := C) I
  have r2 : Vals (V.ref (s.heap.objs.size + 1) :: (vs ++ dvs)) (Value.ref (s.heap.objs.size + 1) :: (us ++ ds)) := .cons rfl (r.append hd)
  have hl : (Value.ref (s.heap.objs.size + 1) :: us ++ ds).length = ps.length := by
    have e := r2.length
    rw [F.len _ _ _ _ hq] at e
    exact e.symm
  refine wpAny_call (make_map (f := f) I.kIn M.makes M.init (beq_iff_eq.mp M.fn) (codeAny_mono (F.run _ X.stack _ _ ⟨Value.ref (s.heap.objs.size + 1) :: us, []⟩ (Value.ref (s.heap.objs.size + 1) :: (us ++ ds)) _ _ E (hr.make C us [])
    (I2.env0.make C us []) (hb _ (Value.ref (s.heap.objs.size + 1) :: us) I2.kIn hl) r2 hq) fun r s' hq' => ?_))
  cases r with
  | error e => exact hx pins σ _ _ e s' I2 hq'
  | ok fl =>
    cases fl with
    | ret u =>
      obtain ⟨v, H', I3, rv, ev, q3⟩ := I2.after hq'
      subst ev
      exact ⟨rv, ⟨V.ref (s.heap.objs.size + 1), H', I3, rfl, q3⟩⟩
    | next => exact False.elim hq'
    | brk => exact False.elim hq'
    | cont => exact False.elim hq'
theorem pe_make (M : Mk X.K C f) (F : FnOk X.prog X.w X.K X.mg X.base CX k f fd ps sp) (hr : Room (k + 1) X.A) (hg : Gl X x) (hm : X.mg x = some (.ref C)) (hb : Binds X.K fd ps ds) (hd : Vals dvs ds) (hx : Passes CX X E)
    (ha : PA X (e :: es) t) (hdb : (x == ("__debug__" : Str)) = false := by decide) (he : starEach (e :: es) X.env = (false, eval e X.env) :: starEach es X.env := by rfl) (hpl : (backTo pos (starEach es X.env)).any (·.1) = false := by rfl) :
    PE X (.Call (.Name x p) (e :: es) [] pos) (tMake C sp dvs E t) := by
  intro pins s σ H Q I h
  refine wpAny_Call_Name_kw (ld_glob I hg hm ?_ hdb)
  refine PySem.W.callWith_K (h₀ := X.base) I.ok.mod.kin M.kp (thn (ha pos pins s σ H _ I h) fun us s1 ⟨vs, H1, I1, r, q⟩ => ⟨I1.kIn, ?_⟩) he hpl
  exact run_make M F hr hb hd hx I1 r q
theorem pe_make0 (M : Mk X.K C f) (F : FnOk X.prog X.w X.K X.mg X.base CX k f fd ps sp) (hr : Room (k + 1) X.A) (hg : Gl X x) (hm : X.mg x = some (.ref C)) (hb : Binds X.K fd ps ds) (hd : Vals dvs ds) (hx : Passes CX X E)
    (hdb : (x == ("__debug__" : Str)) = false := by decide) : PE X (.Call (.Name x p) [] [] pos) (tMake C sp dvs E tNil) := by
  intro pins s σ H Q I h
  refine wpAny_Call_Name_kw (ld_glob I hg hm ?_ hdb)
  exact PySem.W.callWith_K0 I.kIn M.kp (run_make (us := []) M F hr hb hd hx I .nil h)
end

/-! ### keywords -/
/-- the values of the keywords, from the left -/
def PK (X : Cx) (kws : List Keyword) (t : TA) : Prop :=
  ∀ (pos : Pos) (pins : List (Addr × Obj)) (s : Shared) (σ : St) (H : Hp) (Q : List V → Hp → Prop), Inv X pins σ H s → t σ H Q → wpAny (model X.prog X.w) X.A (evalAll ((backToKw pos (keywordEach kws X.env)).map (·.2))) (AP X pins σ Q) X.xe s
section
variable {X : Cx} {CX : CXT} {k : Nat} {f C : Addr} {fd : FuncData} {ps ks : List Str} {sp : Sp} {E : XK} {x m : Str} {p pos apos kpos : Pos} {e o : Expr} {es : List Expr} {kws : List Keyword} {te ta : TE} {t tk : TA} {nm : Option Str}
theorem pk_nil : PK X [] tNil := fun _ _ _ _ H Q I h => wpAny_evalAll_nil ⟨[], H, I, .nil, h⟩
theorem pk_cons (ha : PE X e te) (hr : PK X kws t) : PK X (⟨nm, e, kpos⟩ :: kws) (tCons te t) := by
  intro pos pins s σ H Q I h
  show wpAny _ _ (evalAll ((do let v ← eval e X.env; standAt pos; pure v) :: (backToKw pos (keywordEach kws X.env)).map (·.2))) _ _ s
  refine wpAny_evalAll_cons (wpAny_bind (thn (ha pins s σ H _ I h) fun u s1 ⟨x, H1, I1, r1, q1⟩ => wpAny_bind (wpAny_standAt (wpAny_pure ?_))))
  exact thn (hr pos pins s1 σ H1 _ I1 q1) fun us s2 ⟨xs, H2, I2, r2, q2⟩ => ⟨x :: xs, H2, I2, .cons r1 r2, q2⟩

/-- how a call with keywords binds: g puts the positional values us and the keywords' values ws (names ks) in the parameters' order, defaults among them -/
structure KBinds (K : PySem.W.Frag) (fd : FuncData) (ps ks : List Str) (g : List Value → List Value → List Value) (gV : List V → List V → List V) : Prop where
  to : ∀ (s : Shared) (us ws : List Value), K.In s.heap → (g us ws).length = ps.length → BindsTo s fd ⟨us, ks.zip ws⟩ (ps.zip (g us ws))
  rel : ∀ {vs : List V} {us : List Value} {zs : List V} {ws : List Value}, Vals vs us → Vals zs ws → Vals (gV vs zs) (g us ws)
def tCallK (sp : Sp) (gV : List V → List V → List V) (E : XK) (t tk : TA) : TE := fun σ H Q => t σ H fun vs H1 => tk σ H1 fun zs H2 => sp (gV vs zs) H2 Q E
variable {g : List Value → List Value → List Value} {gV : List V → List V → List V}
theorem run_fnk {pins : List (Addr × Obj)} {σ : St} {H : Hp} {s : Shared} {Q : VK} {us ws : List Value} {vs zs : List V} (F : FnOk X.prog X.w X.K X.mg X.base CX k f fd ps sp) (hr : Room k X.A) (hb : KBinds X.K fd ps ks g gV) (hx : Passes CX X E)
    (I : Inv X pins σ H s) (r : Vals vs us) (rz : Vals zs ws) (h : sp (gV vs zs) H Q E) : wpAny (model X.prog X.w) X.A (call (.ref f) us (ks.zip ws)) (EP X pins σ Q) X.xe s := by
  have r2 := hb.rel r rz
  have hl : (g us ws).length = ps.length := by rw [← r2.length]; exact F.len _ _ _ _ h
  refine wpAny_call (codeAny_mono (F.run X.A X.stack s H ⟨us, ks.zip ws⟩ (g us ws) (gV vs zs) Q E hr I.env0 (hb.to s us ws I.kIn hl) r2 h) fun r s' hq => ?_)
  cases r with
  | error e => exact hx pins σ H s e s' I hq
  | ok fl =>
    cases fl with
    | ret u => exact I.after hq
    | next => exact False.elim hq
    | brk => exact False.elim hq
    | cont => exact False.elim hq
/-- f(e, .., k = v, ..) -/
theorem pe_callK (F : FnOk X.prog X.w X.K X.mg X.base CX k f fd ps sp) (hr : Room k X.A) (hg : Gl X x) (hm : X.mg x = some (.ref f)) (hk : PySem.W.keepIn X.K (.ref f) = true) (hb : KBinds X.K fd ps ks g gV) (hx : Passes CX X E)
    (ha : PA X (e :: es) t) (hkw : PK X kws tk) (hall : (backToKw pos (keywordEach kws X.env)).all (·.1.isSome) = true := by rfl) (hks : (backToKw pos (keywordEach kws X.env)).filterMap (·.1) = ks := by rfl)
    (hdb : (x == ("__debug__" : Str)) = false := by decide) (he : starEach (e :: es) X.env = (false, eval e X.env) :: starEach es X.env := by rfl)
    (hpl : ((backTo pos (starEach (e :: es) X.env)).any (·.1) || (backToKw pos (keywordEach kws X.env)).any (·.1.isNone)) = false := by rfl) :
    PE X (.Call (.Name x p) (e :: es) kws pos) (tCallK sp gV E t tk) := by
  intro pins s σ H Q I h
  refine wpAny_Call_Name_kw (ld_glob I hg hm ?_ hdb)
  refine PySem.W.callWith_KW (h₀ := X.base) I.ok.mod.kin hk hall (thn (ha pos pins s σ H _ I h) fun us s1 ⟨vs, H1, I1, r, q⟩ => ?_) hpl he
  refine thn (hkw pos pins s1 σ H1 _ I1 q) fun ws s2 ⟨zs, H2, I2, rz, q2⟩ => ⟨I2.kIn, ?_⟩
  rw [hks]
  exact run_fnk F hr hb hx I2 r rz q2
end

/-! ### a def's body keeps its promise -/
/-- names: the parameters first -/
structure FnScope (N P : List Str) (sc : Scope) : Prop where
  kind : sc.kind = .function
  co : sc.isCoroutine = false
  gen : sc.isGenerator = false
  nd : N.Nodup
  pre : N.take P.length = P
  par : ∀ x ∈ P, sc.names.lookup x = some .local ∨ sc.names.lookup x = some .cell
  nofree : ∀ y ∈ sc.names, y.2 ≠ .free

theorem bindL_out {kindOf : Str → Option NameKind} {x : Str} : ∀ {binds : List (Str × Value)} {m : Str → Option Value}, (∀ v, (x, v) ∉ binds) → bindL kindOf binds m x = m x
  | [], _, _ => rfl
  | (n, v) :: r, m, h => by
    unfold bindL
    rw [bindL_out fun w hw => h w (List.mem_cons_of_mem _ hw)]
    split
    · have : x ≠ n := by rintro rfl; exact h v List.mem_cons_self
      simp [this]
    · rfl
theorem bindC_out {kindOf : Str → Option NameKind} {x : Str} : ∀ {binds : List (Str × Value)} {m : Str → Option Value}, (∀ v, (x, v) ∉ binds) → bindC kindOf binds m x = m x
  | [], _, _ => rfl
  | (n, v) :: r, m, h => by
    unfold bindC
    rw [bindC_out fun w hw => h w (List.mem_cons_of_mem _ hw)]
    split
    · rfl
    · have : x ≠ n := by rintro rfl; exact h v List.mem_cons_self
      simp [this]
theorem bindL_get {kindOf : Str → Option NameKind} {x : Str} {v : Value} : ∀ {P : List Str} {vs : List Value} {i : Nat} {m : Str → Option Value}, P.Nodup → P[i]? = some x → vs[i]? = some v → kindOf x = some .local →
    bindL kindOf (P.zip vs) m x = some v
  | [], _, _, _, _, h, _, _ => by simp at h
  | _ :: _, [], _, _, _, _, h, _ => by simp at h
  | p :: P, w :: vs, 0, m, nd, h1, h2, hk => by
    simp at h1 h2; subst h1; subst h2
    show bindL kindOf ((p, w) :: P.zip vs) m p = _
    unfold bindL
    rw [bindL_out fun v hv => (List.nodup_cons.mp nd).1 (List.of_mem_zip hv).1, if_pos hk]
    simp
  | p :: P, w :: vs, i + 1, m, nd, h1, h2, hk => by
    show bindL kindOf ((p, w) :: P.zip vs) m x = _
    unfold bindL
    exact bindL_get (i := i) (List.nodup_cons.mp nd).2 (by simpa using h1) (by simpa using h2) hk
theorem bindC_get {kindOf : Str → Option NameKind} {x : Str} {v : Value} : ∀ {P : List Str} {vs : List Value} {i : Nat} {m : Str → Option Value}, P.Nodup → P[i]? = some x → vs[i]? = some v → kindOf x ≠ some .local →
    bindC kindOf (P.zip vs) m x = some v
  | [], _, _, _, _, h, _, _ => by simp at h
  | _ :: _, [], _, _, _, _, h, _ => by simp at h
  | p :: P, w :: vs, 0, m, nd, h1, h2, hk => by
    simp at h1 h2; subst h1; subst h2
    show bindC kindOf ((p, w) :: P.zip vs) m p = _
    unfold bindC
    rw [bindC_out fun v hv => (List.nodup_cons.mp nd).1 (List.of_mem_zip hv).1, if_neg hk]
    simp
  | p :: P, w :: vs, i + 1, m, nd, h1, h2, hk => by
    show bindC kindOf ((p, w) :: P.zip vs) m x = _
    unfold bindC
    exact bindC_get (i := i) (List.nodup_cons.mp nd).2 (by simpa using h1) (by simpa using h2) hk

/-- the names' values at the entry -/
def start (N : List Str) (vs : List V) : St := vs.map some ++ List.replicate (N.length - vs.length) none

/-- the context of a def's body, at its entry; an exception leaves the frame, then lies as CX says -/
def cxOf (CX : CXT) (P : Program) (w : World) (K : PySem.W.Frag) (mg : Str → Option Value) (base : Heap) (N : List Str) (qual : Str) (scope : Scope) (f : Addr) (cd : Value) (A : Around) (outer : List Env) (s : Shared) (H : Hp) (E : XK) : Cx where
  prog := P
  w := w
  K := K
  mg := mg
  base := base
  A := A.deeper (envOfC qual scope s.heap.objs.size f cd)
  N := N
  s₀ := s
  H₀ := H
  env := envOfC qual scope s.heap.objs.size f cd
  outer := outer
  stack := envOfC qual scope s.heap.objs.size f cd :: outer
  ex := []
  calm := true
  fn := fun _ => true
  pn := []
  xe := fun e s' => wpAny (model P w) (A.deeper (envOfC qual scope s.heap.objs.size f cd)) (leaving (envOfC qual scope s.heap.objs.size f cd) e) (fun _ s'' => CX outer H s E e s'') (fun e' s'' => CX outer H s E e' s'') s'

theorem cell_has {sc : Scope} {n : Nat} {x : Str} (h : sc.names.lookup x = some .cell) : ∃ c, (cellsFrom n sc.names []).lookup x = some c := by
  have q := PySem.W.cellsFrom_some sc.names n [] (.inl h)
  exact Option.isSome_iff_exists.mp q

theorem inv_start {CX : CXT} {P : Program} {w : World} {K : PySem.W.Frag} {mg : Str → Option Value} {base : Heap} {N ps : List Str} {qual : Str} {scope : Scope} {f : Addr} {cd : Value} {A : Around} {outer : List Env} {s s1 : Shared} {H : Hp} {E : XK} {us : List Value} {vs : List V}
    (S : FnScope N ps scope) (hd : A.handled = none) (e0 : Env0 P w K mg base A outer s H) (hl : vs.length = ps.length) (r : Vals vs us)
    (x : InCallC s s.heap.objs.size (bindL (envOfC qual scope s.heap.objs.size f cd).kindOf (ps.zip us) fun _ => none) (cellsFrom (s.heap.objs.size + 1) scope.names []) (bindC (envOfC qual scope s.heap.objs.size f cd).kindOf (ps.zip us) fun _ => none) s1) :
    Inv (cxOf CX P w K mg base N qual scope f cd A outer s H E) [] (start N vs) H s1 := by
  have hpl : ps.length ≤ N.length := by have := congrArg List.length S.pre; rw [List.length_take] at this; omega
  obtain ⟨h1, tk, rfl, hk⟩ := x.done
  have noA : ∀ b : Addr, b ∉ (cxOf CX P w K mg base N qual scope f cd A outer s H E).ex := fun b z => absurd (show b ∈ ([] : List Addr) from z) (by simp)
  refine ⟨⟨e0.mod, S.kind, rfl, rfl, Nat.le_refl _, fun y z c h1 h2 => ?_, fun y hy => ?_, fun y c _ h => ?_, fun _ => hd, Around.frames_deeper e0.frames, .inr ⟨rfl, rfl⟩, fun b z => absurd z (noA b), e0.bs, e0.bsz, fun b _ _ => noA b, fun b z => absurd z (noA b), e0.funs, e0.frf⟩,
    rfl, e0.bare, Un.kept hk, ⟨_, x.toInCall.ns, fun i y v h1 h2 h3 => ?_⟩, fun y c h => ⟨_, x.cell y c h⟩, e0.hok.fresh (Nat.le_refl _), fun y c h => ?_, fun p hp => absurd (show p ∈ ([] : List (Addr × Obj)) from hp) (by simp), e0.hok.kept hk, ?_⟩
  · exact name_of_addr x.apart (PySem.mem_of_lookup h1) (PySem.mem_of_lookup h2)
  · have hy : scope.names.lookup y = some .cell ∨ scope.names.lookup y = some .free := hy
    rcases hy with hy | hy
    · exact cell_has hy
    · exact absurd rfl (S.nofree _ (PySem.mem_of_lookup hy))
  · exact Nat.le_of_lt (x.above y c (PySem.mem_of_lookup h))
  · have hi : i < vs.length := by
      unfold start at h2
      by_cases hi : i < vs.length
      · exact hi
      · rw [List.getElem?_append_right (by simpa using hi)] at h2
        rw [List.getElem?_replicate] at h2
        split at h2 <;> cases h2
    have ha : vs[i]? = some v := by
      unfold start at h2
      rw [List.getElem?_append_left (by simpa using hi), List.getElem?_map] at h2
      cases e : vs[i]? with
      | none => rw [e] at h2; cases h2
      | some a => rw [e] at h2; cases h2; rfl
    obtain ⟨u, hu, rv⟩ := r.get ha
    have hp : ps[i]? = some y := by
      rw [← S.pre, List.getElem?_take_of_lt (by omega)]; exact h1
    have ndP : ps.Nodup := by rw [← S.pre]; exact S.nd.sublist (List.take_sublist _ _)
    refine ⟨u, rv, ?_⟩
    rcases S.par y (List.mem_of_getElem? hp) with k | k
    · exact .inl ⟨k, bindL_get ndP hp hu k⟩
    · obtain ⟨c, e⟩ := cell_has (n := s.heap.objs.size + 1) k
      refine .inr ⟨.inl k, c, e, ?_⟩
      have q := x.cell y c e
      rw [bindC_get ndP hp hu (by show scope.names.lookup y ≠ _; rw [k]; decide)] at q
      exact q
  · exact e0.hok.fresh (Nat.le_of_lt (x.above y c (PySem.mem_of_lookup h)))
  · unfold start
    show _ = N.length
    rw [List.length_append, List.length_map, List.length_replicate]
    omega

/-- THE RULE: a def (or a method) of the text, by its body. The body's reading t is chosen for each entry; it is run at the parameters' values -/
theorem fn_of {CX : CXT} {P : Program} {w : World} {K : PySem.W.Frag} {mg : Str → Option Value} {base : Heap} {k : Nat} {f : Addr} {name qual : Str} {params : Arguments} {body : List Stmt} {scope : Scope} {dV kV doc pm cdv ct oc : Value} {an od : Option Addr}
    {osl : Array (Option Value)} {N ps : List Str} {sp : Sp} (lk : K.lookup f = some ⟨oc, od, .func (PySem.W.fnOf name qual params body scope dV kV doc pm an cdv ct), osl⟩) (hcd : PySem.W.codeIn K cdv qual = true) (S : FnScope N ps scope)
    (len : ∀ vs H Q E, sp vs H Q E → vs.length = ps.length)
    (hbody : ∀ (A : Around) (outer : List Env) (s : Shared) (H : Hp) (vs : List V) (Q : VK) (E : XK), Room k (A.deeper (envOfC qual scope s.heap.objs.size f cdv)) → sp vs H Q E →
      ∃ t, PSs (cxOf CX P w K mg base N qual scope f cdv A outer s H E) body t ∧ t { nx := fun _ H' => Q .non H', rt := Q } (start N vs) H) :
    FnOk P w K mg base CX (k + 1) f (PySem.W.fnOf name qual params body scope dV kV doc pm an cdv ct) ps sp := by
  refine ⟨len, fun A outer s H args us vs Q E hr e0 hb r hsp => ?_⟩
  have hl := len _ _ _ _ hsp
  have KX : K.In s.heap := e0.mod.kin.keeps fun b o e => (e0.bs b o e).1
  have lim : s.heap.NoLimit := e0.mod.nolimit.keeps fun b o e => (e0.bs b o e).1
  have hkind : ∀ y ∈ ps.zip us, scope.names.lookup y.1 = some .local ∨ (scope.names.lookup y.1 = some .cell ∧ ((cellsFrom (s.heap.objs.size + 1) scope.names []).lookup y.1).isSome = true) := fun ⟨n, v⟩ hy => by
    rcases S.par n (List.of_mem_zip hy).1 with q | q
    · exact .inl q
    · exact .inr ⟨q, PySem.W.cellsFrom_some _ _ _ (.inl q)⟩
  refine codeAny_call_function hr.depth (KX _ _ lk) rfl S.co S.gen rfl (PySem.W.codeRec_of KX hcd) (hb _ _ _ _ ?_)
  refine wpAny_newFunctionEnv_cells S.kind hkind fun env he s1 x => ?_
  subst he
  refine ⟨lim.keeps x.toInCall.keep, codeAny_func ?_⟩
  obtain ⟨t, ht, hq⟩ := hbody A outer s H vs Q E (hr.deeper _) hsp
  have I : Inv (cxOf CX P w K mg base N qual scope f cdv A outer s H E) [] (start N vs) H s1 := inv_start S hr.hd e0 hl r x
  refine wpAny_mono (ht [] s1 (start N vs) H _ I hq) (fun fl s' hs => ?_) fun e s' hs => hs
  have fin : ∀ {σ' : St} {H' : Hp} {v : V} {u : Value}, Inv (cxOf CX P w K mg base N qual scope f cdv A outer s H E) [] σ' H' s' → RelV v u → Q v H' → CE outer P w H s Q u s' :=
    fun {σ' H' v u} J rv q => ⟨v, H', J.os, J.bare, J.base, J.hok, rv, q⟩
  cases fl with
  | ret u =>
    obtain ⟨v, σ', H', J, rv, q⟩ := hs
    exact fin J rv q
  | next =>
    obtain ⟨σ', H', J, q⟩ := hs
    exact fin (v := V.non) (u := Value.none) J rfl q
  | brk =>
    obtain ⟨_, _, _, q⟩ := hs
    exact False.elim q
  | cont =>
    obtain ⟨_, _, _, q⟩ := hs
    exact False.elim q
end L2

namespace L2
open PySem PySem.Spec PyProof.Rows
section
variable {X : Cx} {x : Str} {p pos : Pos} {e : Expr} {es : List Expr} {t : TA} {id T : String} {r : List V → Hp → VK → Prop}

def tCB (r : List V → Hp → VK → Prop) (t : TA) : TE := fun σ H Q => t σ H fun vs H1 => r vs H1 Q
/-- f(e, ..), f a built-in function -/
theorem pe_callB (hc : CallR X (.builtin id) r) (hg : Gl X x) (hm : X.mg x = none) (hv : bootBuiltins x = some (.builtin id)) (ha : PA X (e :: es) t) (hn : x ≠ "__name__" := by decide) (hdb : (x == ("__debug__" : Str)) = false := by decide)
    (he : starEach (e :: es) X.env = (false, eval e X.env) :: starEach es X.env := by rfl) (hpl : (backTo pos (starEach es X.env)).any (·.1) = false := by rfl) : PE X (.Call (.Name x p) (e :: es) [] pos) (tCB r t) := by
  intro pins s σ H Q I h
  refine wpAny_Call_Name_kw (ld_blt I hg hm hv ?_ hn hdb)
  exact PyProof.Rows.callWith_builtin1 (thn (ha pos pins s σ H _ I h) fun us s1 ⟨vs, H1, I1, r1, q1⟩ => hc pins s1 σ H1 vs us Q I1 r1 q1) he hpl
/-- T(e, ..), T a built-in type -/
theorem pe_callTy (hc : CallR X (.type T) r) (hg : Gl X x) (hm : X.mg x = none) (hv : bootBuiltins x = some (.type T)) (ha : PA X (e :: es) t) (hn : x ≠ "__name__" := by decide) (hdb : (x == ("__debug__" : Str)) = false := by decide)
    (he : starEach (e :: es) X.env = (false, eval e X.env) :: starEach es X.env := by rfl) (hpl : (backTo pos (starEach es X.env)).any (·.1) = false := by rfl) : PE X (.Call (.Name x p) (e :: es) [] pos) (tCB r t) := by
  intro pins s σ H Q I h
  refine wpAny_Call_Name_kw (ld_blt I hg hm hv ?_ hn hdb)
  exact PyProof.Rows.callWith_type1 (thn (ha pos pins s σ H _ I h) fun us s1 ⟨vs, H1, I1, r1, q1⟩ => hc pins s1 σ H1 vs us Q I1 r1 q1) he hpl
/-- T() -/
theorem pe_callTy0 (hc : CallR X (.type T) r) (hg : Gl X x) (hm : X.mg x = none) (hv : bootBuiltins x = some (.type T)) (hn : x ≠ "__name__" := by decide) (hdb : (x == ("__debug__" : Str)) = false := by decide) :
    PE X (.Call (.Name x p) [] [] pos) (tCB r tNil) := by
  intro pins s σ H Q I h
  refine wpAny_Call_Name_kw (ld_blt I hg hm hv ?_ hn hdb)
  exact PyProof.Rows.callWith_type0 (hc pins s σ H [] [] Q I .nil h)
end
end L2

namespace HT
open PySem PyProof.Rows

/-- t < u of tuples of ints -/
def lexLt : List Int → List Int → Bool
  | [], [] => false
  | [], _ :: _ => true
  | _ :: _, [] => false
  | x :: xs, y :: ys => if x = y then lexLt xs ys else decide (x < y)
theorem lexLt_cons (x y : Int) (xs ys : List Int) : lexLt (x :: xs) (y :: ys) = if x = y then lexLt xs ys else decide (x < y) := rfl
theorem lexLt_nil_nil : lexLt [] [] = false := rfl
theorem lexLt_nil_cons (y : Int) (ys : List Int) : lexLt [] (y :: ys) = true := rfl
theorem lexLt_cons_nil (x : Int) (xs : List Int) : lexLt (x :: xs) [] = false := rfl

theorem eqAt_int (A : Around) (s : Shared) (a : Int) (t : Tok) (c : Int) (u : Tok) : ∃ e, SeqAt.EqAt A s (.int a t) (.int c u) e ∧ (e = true ↔ a = c) :=
  ⟨(a == c), SeqAt.EqAt.int_int a t c u, by simp⟩
theorem rcLt_int (A : Around) (s : Shared) (a : Int) (t : Tok) (c : Int) (u : Tok) (prog : Program) (w : World) (E : Value → Shared → Prop) (Q : Value → Shared → Prop) (h : Q (.bool (decide (a < c))) s) :
    wpAny (model prog w) A (richCompare .Lt (.int a t) (.int c u)) Q E s :=
  (PyProof.Rows.lt_int h : wpAny (model prog w) A (compareOp .Lt (.int a t) (.int c u)) Q E s)

section
open PySem.SeqAt
open PySem.AutoSeq1 (wpAny_loadPart')
open PySem.MeetsSeq PySem.MeetsSeq2 PySem.MeetsSeq3

theorem tuple_lt_ints (l b : Addr) (items items2 : Array Value) (n n2 : Nat) (dd dd2 : Option Addr) (sl sl2 : Array (Option Value)) (ns ms : List Int) (hi : IntsAre items.toList ns) (hj : IntsAre items2.toList ms) :
    Meets (Builtin.«tuple.__lt__» ⟨[.ref l, .ref b], []⟩)
      (fun _ R s => s.heap.get? l = some { cls := .type "tuple", dict := dd, data := .seq items n, slots := sl } ∧ s.heap.get? b = some { cls := .type "tuple", dict := dd2, data := .seq items2 n2, slots := sl2 } ∧
        R (.ok (.ret (.bool (lexLt ns ms)))) s) :=
  .of_wp fun prog w A R s h => by
    obtain ⟨hp, g, d, tk, os⟩ := s; obtain ⟨hl, hb, h⟩ := h
    have f2 := AutoSeq1.sub_tuple_tuple
    have z1 : items.size = ns.length := by rw [← hi.length]; simp
    have z2 : items2.size = ms.length := by rw [← hj.length]; simp
    wp_walk using wpAny_loadPart' hl, wpAny_loadPart' hb, wpAny_forIn_list _ (fun rest b s' => b.1 = none ∧ s' = ⟨hp, g, d, tk, os⟩ ∧ ∃ (vs ws : List Value) (ns' ms' : List Int), rest = vs.zip ws ∧
      IntsAre vs ns' ∧ IntsAre ws ms' ∧ ns'.length + items2.size = ms'.length + items.size ∧ R (.ok (.ret (.bool (lexLt ns' ms')))) ⟨hp, g, d, tk, os⟩) _
    case turn =>
      rintro ⟨y, x⟩ rest b s' ⟨hb', rfl, vs, ws, ns', ms', hz, hvi, hwi, hlen, hR⟩
      cases hvi with
      | nil => rw [List.zip_nil_left] at hz; cases hz
      | cons a t hvi' =>
        cases hwi with
        | nil => rw [List.zip_nil_right] at hz; cases hz
        | cons c u hwi' =>
          rw [List.zip_cons_cons] at hz
          injection hz with hyx hrest
          injection hyx with hy hx
          subst hy hx
          rw [lexLt_cons] at hR
          simp only [List.length_cons] at hlen
          obtain ⟨e, he, hiff⟩ := eqAt_int A.in1 ⟨hp, g, d, tk, os⟩ a t c u
          refine wpAny_bind (he prog w _ _ ?_)
          cases e with
          | true =>
            rw [if_pos (hiff.mp rfl)] at hR
            wp_walk
            exact ⟨rfl, rfl, _, _, _, _, hrest, hvi', hwi', by omega, hR⟩
          | false =>
            rw [if_neg (fun q => absurd (hiff.mpr q) Bool.false_ne_true)] at hR
            have hri := rcLt_int A.in1 ⟨hp, g, d, tk, os⟩ a t c u prog w
            wp_walk using hri
            exact ⟨_, rfl, by simpa using hR⟩
    case fin =>
      rintro ⟨b1, b2⟩ s' ⟨hb', rfl, vs, ws, ns', ms', hz, hvi, hwi, hlen, hR⟩
      simp only at hb'
      subst hb'
      have hv : lexLt ns' ms' = decide (items.size < items2.size) := by
        cases hvi with
        | nil =>
          cases hwi with
          | nil =>
            simp only [List.length_nil] at hlen
            rw [lexLt_nil_nil]
            exact (decide_eq_false (by omega)).symm
          | cons c u hw =>
            simp only [List.length_nil, List.length_cons] at hlen
            rw [lexLt_nil_cons]
            exact (decide_eq_true (by omega)).symm
        | cons a t hv =>
          cases hwi with
          | nil =>
            simp only [List.length_nil, List.length_cons] at hlen
            rw [lexLt_cons_nil]
            exact (decide_eq_false (by omega)).symm
          | cons c u hw =>
            rw [List.zip_cons_cons] at hz
            cases hz
      rw [hv] at hR
      wp_walk
      exact ⟨_, rfl, by simpa [Builtin.Tuple.tupleCompareSizes] using hR⟩
    case h =>
      exact ⟨rfl, rfl, items.toList, items2.toList, ns, ms, rfl, hi, hj, by omega, h⟩
end

section
variable {prog : Program} {w : World} {A : Around} {E : Value → Shared → Prop} {s : Shared}

theorem lt_tupInts {l b : Addr} {items items2 : Array Value} {ns ms : List Int} {Q : Value → Shared → Prop} (hl : IsTup s.heap l items) (hb : IsTup s.heap b items2) (hi : IntsAre items.toList ns) (hj : IntsAre items2.toList ms)
    (hu : A.units < cLine) (h : Q (.bool (lexLt ns ms)) s) : wpAny (model prog w) A (compareOp .Lt (.ref l) (.ref b)) Q E s := by
  obtain ⟨⟨cls, dd, data, sl⟩, ho, hc, n, hd⟩ := id hl
  obtain ⟨⟨cls2, dd2, data2, sl2⟩, ho2, hc2, n2, hd2⟩ := id hb
  simp only at hc hd hc2 hd2
  subst hc hd hc2 hd2
  exact richCompare_meets_room (op := .Lt) ⟨_, ho, rfl⟩ ⟨_, ho2, rfl⟩ PySem.F.slot_tuple_lt PySem.F.entry_tuple_lt (PySem.F.args_tuple_lt_2 _ _) (tuple_lt_ints l b items items2 n n2 dd dd2 sl sl2 ns ms hi hj)
    ⟨ho, ho2, show Value.bool (lexLt ns ms) ≠ Value.notImplemented ∧ Q (.bool (lexLt ns ms)) s from ⟨(fun x => nomatch x), h⟩⟩ hu

/-- t + u, t not empty -/
theorem cat_tup {t b : Addr} {vs ws : List Value} {Q : Value → Shared → Prop} (ht : IsTup s.heap t vs.toArray) (hb : IsTup s.heap b ws.toArray) (hv : vs ≠ [])
    (h1 : ws = [] → Q (.ref t) s) (h2 : ws ≠ [] → Q (.ref s.heap.objs.size) { s with heap := s.heap.push { cls := .type "tuple", data := .seq (vs ++ ws).toArray } })
    (hsz : vs.length + ws.length ≤ sizeLine) : wpAny (model prog w) A (binaryOp .Add (.ref t) (.ref b)) Q E s := by
  obtain ⟨⟨cls, dd, data, sl⟩, ho, hc, n, hd⟩ := id ht
  obtain ⟨⟨cls2, dd2, data2, sl2⟩, ho2, hc2, n2, hd2⟩ := id hb
  simp only at hc hd hc2 hd2
  subst hc hd hc2 hd2
  have e : vs.toArray ++ ws.toArray = (vs ++ ws).toArray := by simp
  by_cases hw : ws = []
  · exact concat_meets ⟨_, ho, rfl⟩ ⟨_, ho2, rfl⟩ noFill_tuple_add seq_tuple_add PySem.F.slot_tuple_add PySem.F.entry_tuple_add (PySem.F.args_tuple_add_2 _ _)
      (tuple_addW1 t b vs.toArray ws.toArray n n2 dd dd2 sl sl2 (by simpa using hv) (by simp [hw])) ⟨ho, ho2, h1 hw⟩
  · refine concat_meets ⟨_, ho, rfl⟩ ⟨_, ho2, rfl⟩ noFill_tuple_add seq_tuple_add PySem.F.slot_tuple_add PySem.F.entry_tuple_add (PySem.F.args_tuple_add_2 _ _)
      (tuple_addW2 t b vs.toArray ws.toArray n n2 dd dd2 sl sl2 (by simpa using hv) (by simpa using hw) (by rw [List.size_toArray, List.size_toArray]; exact hsz)) ⟨ho, ho2, ?_⟩
    rw [e]
    exact h2 hw

/-! ### t[a:b], not the whole -/
/-- a slice's bound as a place among n (d where it is left out) -/
def sIx (n d : Nat) : Option Int → Nat
  | none => d
  | some v => if v < 0 then (v + (n : Int)).toNat else min v.toNat n
theorem sIx_none (n d : Nat) : sIx n d none = d := rfl
theorem sIx_nat (n d k : Nat) : sIx n d (some (k : Int)) = min k n := by
  show (if (k : Int) < 0 then ((k : Int) + (n : Int)).toNat else min (k : Int).toNat n) = min k n
  rw [if_neg (by omega), Int.toNat_natCast]
theorem sIx_le (n d : Nat) (hd : d ≤ n) (o : Option Int) : sIx n d o ≤ n := by
  cases o with
  | none => exact hd
  | some v =>
    show (if v < 0 then (v + (n : Int)).toNat else min v.toNat n) ≤ n
    by_cases hv : v < 0
    · rw [if_pos hv]; omega
    · rw [if_neg hv]; exact Nat.min_le_right _ _
theorem clip_eq (v : Int) (n d : Nat) : (if v < 0 then max (v + (n : Int)) 0 else min v (n : Int)) = ((sIx n d (some v) : Nat) : Int) := by
  show (if v < 0 then max (v + (n : Int)) 0 else min v (n : Int)) = (((if v < 0 then (v + (n : Int)).toNat else min v.toNat n) : Nat) : Int)
  by_cases hv : v < 0
  · simp only [if_pos hv]; omega
  · simp only [if_neg hv]; omega
theorem adjust_gen (lo hi : Option Int) (n : Nat) : Builtin.Slice.sliceAdjust lo hi 1 (n : Int) = (((sIx n 0 lo : Nat) : Int), ((sIx n n hi : Nat) : Int)) := by
  have h1 : ¬ ((1 : Int) < 0) := by omega
  unfold Builtin.Slice.sliceAdjust
  simp only [h1, if_false]
  refine Prod.ext ?_ ?_
  · cases lo with
    | none => rfl
    | some v => exact clip_eq v n 0
  · cases hi with
    | none => rfl
    | some v => exact clip_eq v n n
theorem places_gen (i j : Nat) : Builtin.Slice.slicePlaces (i : Int) (j : Int) 1 = j - i := by
  unfold Builtin.Slice.slicePlaces
  have h1 : (1 : Int) > 0 := by omega
  simp only [h1, if_true, Int.ediv_one]
  split <;> omega
theorem slicePart_ {v : Value} {o : Option Int} {Q : Option Int → Shared → Prop} (p : IsPart v o) (h : Q o s) : wpAny (model prog w) A (Builtin.Slice.slicePartIndex v) Q E s := by
  cases p with
  | none => exact slicePart_none h
  | int i t => exact slicePart_int h
theorem sliceApplied_gen {sl : Addr} {vl vu : Value} {lo hi : Option Int} {n : Nat} {Q : Int × Int × Nat → Shared → Prop} (hs : s.heap.IsSliceOf sl vl vu .none) (pl : IsPart vl lo) (pu : IsPart vu hi)
    (h : Q (((sIx n 0 lo : Nat) : Int), 1, sIx n n hi - sIx n 0 lo) s) : wpAny (model prog w) A (Builtin.Slice.sliceApplied (.ref sl) (pure (n : Int))) Q E s := by
  obtain ⟨os, hos, hcs, hds⟩ := id hs
  unfold Builtin.Slice.sliceApplied Builtin.Slice.sliceFields
  refine wpAny_bind (wpAny_bind (wpAny_field hos hds (x := vl) rfl (wpAny_bind (wpAny_field hos hds (x := vu) rfl (wpAny_bind (wpAny_field hos hds (x := .none) rfl (wpAny_pure ?_)))))))
  refine wpAny_bind (slicePart_none ?_)
  show wpAny _ _ (if ((1 : Int) == 0) = true then _ else _) _ _ s
  rw [if_neg (by decide)]
  refine wpAny_bind (slicePart_ pl (wpAny_bind (slicePart_ pu (wpAny_bind (wpAny_pure ?_)))))
  show wpAny _ _ (match Builtin.Slice.sliceAdjust lo hi 1 (n : Int) with | (lo, hi) => pure (lo, (1 : Int), Builtin.Slice.slicePlaces lo hi 1)) _ _ s
  rw [adjust_gen lo hi n]
  show wpAny _ _ (pure (((sIx n 0 lo : Nat) : Int), (1 : Int), Builtin.Slice.slicePlaces ((sIx n 0 lo : Nat) : Int) ((sIx n n hi : Nat) : Int) 1)) _ _ s
  rw [places_gen]
  exact wpAny_pure h
theorem pick_gen (xs : Array Value) (i k : Nat) : ((List.range k).filterMap fun (m : Nat) => xs[((i : Int) + (m : Int) * 1).toNat]?).toArray = ((xs.toList.drop i).take k).toArray := by
  have e : (fun (m : Nat) => xs[((i : Int) + (m : Int) * 1).toNat]?) = fun m => xs[i + m]? := by
    funext m
    have : ((i : Int) + (m : Int) * 1).toNat = i + m := by omega
    rw [this]
  rw [e]
  have := pick_run xs i k
  rw [List.filterMap_map] at this
  have e2 : ((fun x => xs[x]?) ∘ fun x => i + x) = fun m => xs[i + m]? := rfl
  rw [e2] at this
  rw [this]

theorem getItem_tuple_cut {t sl : Addr} {items : Array Value} {vl vu : Value} {lo hi : Option Int} {Q : Value → Shared → Prop} (ht : IsTup s.heap t items) (hs : s.heap.IsSliceOf sl vl vu .none) (pl : IsPart vl lo) (pu : IsPart vu hi)
    (hw : ¬ (sIx items.size 0 lo = 0 ∧ sIx items.size items.size hi = items.size))
    (h : Q (.ref s.heap.objs.size) { s with heap := s.heap.push { cls := .type "tuple", data := .seq ((items.toList.drop (sIx items.size 0 lo)).take (sIx items.size items.size hi - sIx items.size 0 lo)).toArray } })
    (hsz : items.size ≤ sizeLine) : wpAny (model prog w) A (getItem (.ref t) (.ref sl)) Q E s := by
  have htake : sizeOk (.seq ((items.toList.drop (sIx items.size 0 lo)).take (sIx items.size items.size hi - sIx items.size 0 lo)).toArray) := by
    show ((items.toList.drop (sIx items.size 0 lo)).take (sIx items.size items.size hi - sIx items.size 0 lo)).toArray.size ≤ sizeLine
    rw [List.size_toArray, List.length_take, List.length_drop, Array.length_toList]
    omega
  have hj : sIx items.size items.size hi ≤ items.size := sIx_le _ _ (Nat.le_refl _) hi
  obtain ⟨os, hos, hcs, hds⟩ := id hs
  have hTs : s.TypeIs (.ref sl) "slice" := ⟨os, hos, hcs⟩
  unfold getItem
  try with_reducible refine wpAny_holding ?_
  first | refine wpAny_bind (wpAny_pure ?_) | skip
  refine wpAny_bind (wpAny_sequenceKey ht.typeIs (by decide) ?_)
  refine wpAny_bind (wpAny_callSpecial?_slot (name := Str.ofString "__getitem__") ht.typeIs PyProof.Rows.slot_tuple_getitem
    (wpAny_call_entry PyProof.Rows.slot_tuple_getitem ht.typeIs entry_tuple_getitem ?_ (args_tuple_getitem _ _)))
  show wpAny _ _ (Builtin.Tuple.tupleItemsOf (.ref t) >>= _) _ _ s
  refine wpAny_bind (tupleItemsOf_ ht ?_)
  refine wpAny_bind (wpAny_typeOf hTs ?_)
  rw [if_pos (by decide)]
  refine wpAny_bind (sliceApplied_gen hs pl pu ?_)
  have hno : ¬ ((((sIx items.size 0 lo : Nat) : Int) == 0 && (1 : Int) == 1 && (sIx items.size items.size hi - sIx items.size 0 lo) == items.size) = true) := by
    intro q
    rw [Bool.and_eq_true, Bool.and_eq_true] at q
    have q1 : ((sIx items.size 0 lo : Nat) : Int) = 0 := eq_of_beq q.1.1
    have q2 : sIx items.size items.size hi - sIx items.size 0 lo = items.size := eq_of_beq q.2
    exact hw ⟨by omega, by omega⟩
  show wpAny _ _ (if (((sIx items.size 0 lo : Nat) : Int) == 0 && (1 : Int) == 1 && (sIx items.size items.size hi - sIx items.size 0 lo) == items.size) = true then _ else _) _ _ s
  rw [if_neg hno, pick_gen]
  first
    | exact wpAny_bind (m := Builtin.Tuple.tupleExact _) (wpAny_newObj_type (wpAny_pure ⟨_, rfl, wpAny_pure h⟩) htake)
    | exact wpAny_bind (m := Builtin.Tuple.tupleExact _) (wpAny_newObj_type (wpAny_bind (wpAny_pure (wpAny_pure ⟨_, rfl, wpAny_pure h⟩))) htake)
    | exact wpAny_bind (wpAny_bind (m := Builtin.Tuple.tupleExact _) (wpAny_newObj_type (wpAny_pure (wpAny_pure ⟨_, rfl, wpAny_pure h⟩)) htake))
    | exact wpAny_bind (wpAny_bind (m := Builtin.Tuple.tupleExact _) (wpAny_newObj_type (wpAny_pure ⟨_, rfl, wpAny_pure h⟩) htake))
end
end HT

namespace L2
open PySem PySem.Spec PyProof.Rows

/-! ### the parts of a slice -/
abbrev TO := St → Hp → (Option Int → Hp → Prop) → Prop
/-- a slice's part (left out, or an int) -/
def PO (X : Cx) (e : Option Expr) (t : TO) : Prop :=
  ∀ (pins : List (Addr × Obj)) (s : Shared) (σ : St) (H : Hp) (Q : Option Int → Hp → Prop), Inv X pins σ H s → t σ H Q →
    wpAny (model X.prog X.w) X.A (evalPart e X.env) (fun u s' => ∃ o H', Inv X pins σ H' s' ∧ IsPart u o ∧ Q o H') X.xe s
def tNoPart : TO := fun _ H Q => Q none H
def tPart (t : TE) : TO := fun σ H Q => t σ H fun x H1 => ∃ i, x = .int i ∧ Q (some i) H1

theorem intsAre_of {ns : List Int} : ∀ {us : List Value}, Vals (ns.map V.int) us → IntsAre us ns := by
  induction ns with
  | nil => intro us r; rw [List.map_nil] at r; cases r; exact .nil
  | cons n ns ih =>
    intro us r
    rw [List.map_cons] at r
    cases r with
    | cons r1 r2 =>
      obtain ⟨t, e⟩ := r1
      subst e
      exact .cons n t (ih r2)

section
variable {X : Cx} {e : Expr} {te : TE} {lo hi : Option Expr} {tl th : TO} {pos p2 : Pos}

theorem po_none : PO X none tNoPart := by
  intro pins s σ H Q I h
  rw [evalPart_none]
  exact wpAny_pure ⟨none, H, I, .none, h⟩
theorem po_some (h : PE X e te) : PO X (some e) (tPart te) := by
  intro pins s σ H Q I hw
  rw [evalPart_some]
  refine thn (h pins s σ H _ I hw) fun u s1 ⟨x, H1, I1, r1, q1⟩ => ?_
  obtain ⟨i, rfl, q⟩ := q1
  obtain ⟨t, rfl⟩ := r1
  exact ⟨some i, H1, I1, .int i t, q⟩

/-- what a slice of a value is, by values: the slice object stands at sl -/
def SlR (X : Cx) (r : V → Option Int → Option Int → Hp → VK → Prop) : Prop :=
  ∀ (pins : List (Addr × Obj)) (s : Shared) (σ : St) (H : Hp) (x : V) (v vl vu : Value) (lo hi : Option Int) (sl : Addr) (Q : VK), Inv X pins σ H s → RelV x v → s.heap.IsSliceOf sl vl vu .none → IsPart vl lo → IsPart vu hi → r x lo hi H Q →
    ∃ T id, typeLookup (.type T) "__getitem__" = pure (some (.builtin id)) ∧ s.TypeIs v T ∧ wpAny (model X.prog X.w) X.A (getItem v (.ref sl)) (EP X pins σ Q) X.xe s
theorem SlR.or {r r' : V → Option Int → Option Int → Hp → VK → Prop} (h : SlR X r) (h' : SlR X r') : SlR X (fun x lo hi H Q => r x lo hi H Q ∨ r' x lo hi H Q) := by
  intro pins s σ H x v vl vu lo hi sl Q I rx hs pl pu q
  rcases q with q | q
  · exact h pins s σ H x v vl vu lo hi sl Q I rx hs pl pu q
  · exact h' pins s σ H x v vl vu lo hi sl Q I rx hs pl pu q
def tSl (r : V → Option Int → Option Int → Hp → VK → Prop) (te : TE) (tl th : TO) : TE := fun σ H Q => te σ H fun x H1 => tl σ H1 fun l H2 => th σ H2 fun u H3 => r x l u H3 Q
/-- a[lo:hi], any a -/
theorem pe_slice {r : V → Option Int → Option Int → Hp → VK → Prop} (hr : SlR X r) (he : PE X e te) (hl : PO X lo tl) (hu : PO X hi th) : PE X (.Subscript e (.Slice lo hi none p2) pos) (tSl r te tl th) := by
  intro pins s σ H Q I h
  refine Subscript_ (thn (he pins s σ H _ I h) fun v s1 ⟨x, H1, I1, r1, q1⟩ => ?_)
  refine wpAny_Slice (thn (hl pins s1 σ H1 _ I1 q1) fun vl s2 ⟨l, H2, I2, pl, q2⟩ => thn (hu pins s2 σ H2 _ I2 q2) fun vu s3 ⟨u, H3, I3, pu, q3⟩ => ?_)
  rw [evalPart_none]
  refine wpAny_pure ?_
  have I4 : Inv X pins σ H3 { s3 with heap := s3.heap.push { cls := .type "slice", data := .fields #[vl, vu, .none] } } := I3.kept (t' := s3.toks) fun b ob q => Heap.get?_push_of_some _ q
  obtain ⟨T, id, hT, ht, hg⟩ := hr pins { s3 with heap := s3.heap.push { cls := .type "slice", data := .fields #[vl, vu, .none] } } σ H3 x v vl vu l u s3.heap.objs.size Q I4 r1 (Heap.IsSliceOf.new ..) pl pu q3
  show wpAny (model X.prog X.w) X.A (subscriptTail e (.Slice lo hi none p2) v (.ref s3.heap.objs.size)) (EP X pins σ Q) X.xe { s3 with heap := s3.heap.push { cls := .type "slice", data := .fields #[vl, vu, .none] } }
  exact tail_any (ops := [.ref s3.heap.objs.size, v]) ht hT hg (by with_unfolding_all rfl)

/-- the items of xs[lo:hi] -/
def cutV (xs : List V) (lo hi : Option Int) : List V := (xs.drop (HT.sIx xs.length 0 lo)).take (HT.sIx xs.length xs.length hi - HT.sIx xs.length 0 lo)
theorem cutV_length (xs : List V) (lo hi : Option Int) : (cutV xs lo hi).length ≤ xs.length := by
  unfold cutV
  rw [List.length_take, List.length_drop]
  omega
/-- t[lo:hi], not the whole of it (the whole would be t itself) -/
def rSlT (K : PySem.W.Frag) : V → Option Int → Option Int → Hp → VK → Prop := fun x lo hi H Q => ∃ a xs, x = .ref a ∧ SqT K H a xs ∧
  ¬ (HT.sIx xs.length 0 lo = 0 ∧ HT.sIx xs.length xs.length hi = xs.length) ∧ ∀ p, H p = none → Q (.ref p) (upd H p (.tup (cutV xs lo hi)))
theorem sl_tup : SlR X (rSlT X.K) := by
  intro pins s σ H x v vl vu lo hi sl Q I rx hs pl pu h
  obtain ⟨a, xs, rfl, hx, hw, q⟩ := h
  cases rx
  obtain ⟨its, r, ht, hz⟩ := I.tuple hx
  have hlen : its.toArray.size = xs.length := by rw [List.size_toArray]; exact r.length.symm
  refine ⟨"tuple", _, PyProof.Rows.slot_tuple_getitem.lookup, ht.typeIs, ?_⟩
  refine HT.getItem_tuple_cut ht hs pl pu (by rw [hlen]; exact hw) ?_ (by rw [hlen]; exact hz)
  rw [hlen]
  refine ⟨.ref s.heap.objs.size, _, I.laid (t' := s.toks) (o := .tup (cutV xs lo hi)) (fun b ob q => Heap.get?_push_of_some _ q) (Nat.le_refl _) ?_, rfl, q _ (I.hok.fresh (Nat.le_refl _))⟩
  exact ⟨Nat.le_trans (cutV_length xs lo hi) hz, _, (r.drop (HT.sIx xs.length 0 lo)).take (HT.sIx xs.length xs.length hi - HT.sIx xs.length 0 lo), IsTup.new _ _⟩

/-! ### t < u, t + u -/
def rLtT (K : PySem.W.Frag) : R2 := fun x y H Q => ∃ a b ns ms, x = .ref a ∧ y = .ref b ∧ SqT K H a (ns.map V.int) ∧ SqT K H b (ms.map V.int) ∧ Q (.bl (HT.lexLt ns ms)) H
theorem op_ltT (hu : X.A.units < cLine) : OpR X (compareOp .Lt) (rLtT X.K) := by
  intro pins s σ H x y v u Q I rx ry h
  obtain ⟨a, b, ns, ms, rfl, rfl, ha, hb, q⟩ := h
  cases rx
  cases ry
  obtain ⟨its, r1, p1, _⟩ := I.tuple ha
  obtain ⟨its2, r2, p2, _⟩ := I.tuple hb
  have i1 : IntsAre its.toArray.toList ns := intsAre_of r1
  have i2 : IntsAre its2.toArray.toList ms := intsAre_of r2
  exact HT.lt_tupInts p1 p2 i1 i2 hu ⟨.bl (HT.lexLt ns ms), H, I, rfl, q⟩
/-- t + u, t not empty: u empty gives t itself -/
def rCatT (K : PySem.W.Frag) : R2 := fun x y H Q => ∃ a b xs ys, x = .ref a ∧ y = .ref b ∧ SqT K H a xs ∧ SqT K H b ys ∧ xs ≠ [] ∧ xs.length + ys.length ≤ sizeLine ∧
  (ys = [] → Q (.ref a) H) ∧ (ys ≠ [] → ∀ p, H p = none → Q (.ref p) (upd H p (.tup (xs ++ ys))))
theorem Vals.nil_iff {xs : List V} {us : List Value} (r : Vals xs us) : us = [] ↔ xs = [] := by
  cases r with
  | nil => simp
  | cons _ _ => simp
theorem op_catT : OpR X (binaryOp .Add) (rCatT X.K) := by
  intro pins s σ H x y v u Q I rx ry h
  obtain ⟨a, b, xs, ys, rfl, rfl, ha, hb, hx, hz, q1, q2⟩ := h
  cases rx
  cases ry
  obtain ⟨its, r1, p1, _⟩ := I.tuple ha
  obtain ⟨its2, r2, p2, _⟩ := I.tuple hb
  refine HT.cat_tup p1 p2 (fun z => hx (r1.nil_iff.mp z)) (fun z => ⟨.ref a, H, I, rfl, q1 (r2.nil_iff.mp z)⟩) (fun z => ?_) (by rw [← r1.length, ← r2.length]; exact hz)
  refine ⟨.ref s.heap.objs.size, _, I.laid (t' := s.toks) (o := .tup (xs ++ ys)) (fun b ob q => Heap.get?_push_of_some _ q) (Nat.le_refl _) ?_, rfl, q2 (fun w => z (r2.nil_iff.mpr w)) _ (I.hok.fresh (Nat.le_refl _))⟩
  exact ⟨by rw [List.length_append]; exact hz, _, r1.append r2, IsTup.new _ _⟩
/-- tuple(t) -/
theorem call_tupleT : CallR X (.type "tuple") (fun xs H Q => ∃ a ys, xs = [.ref a] ∧ SqT X.K H a ys ∧ Q (.ref a) H) := by
  intro pins s σ H xs us Q I r h
  obtain ⟨a, ys, rfl, ha, q⟩ := h
  obtain ⟨u, rfl, ru⟩ := vals1 r
  cases ru
  obtain ⟨its, _, p1, _⟩ := I.tuple ha
  exact call_tuple_same (items := its.toArray) p1 ⟨.ref a, H, I, rfl, q⟩
end
end L2

namespace L2
open PySem PySem.Spec PyProof.Rows

/-! ### places -/
/-- the place that an index of any sign means -/
def ixN (n : Nat) (i : Int) : Option Nat := if 0 ≤ i then (if i < n then some i.toNat else none) else if -(n : Int) ≤ i then some (i + n).toNat else none
def atI {α : Type} (xs : List α) (i : Int) : Option α := (ixN xs.length i).bind fun j => xs[j]?
theorem ixN_seq {n : Nat} {i : Int} {j : Nat} (h : ixN n i = some j) : seqIndex? i n = some j ∧ j < n ∧ -(n : Int) ≤ i ∧ i < n := by
  unfold ixN at h
  by_cases h0 : 0 ≤ i
  · rw [if_pos h0] at h
    by_cases h1 : i < n
    · rw [if_pos h1] at h
      have e : i.toNat = j := Option.some.inj h
      exact ⟨by rw [seqIndex_of h0 h1, e], by omega, by omega, h1⟩
    · rw [if_neg h1] at h; cases h
  · rw [if_neg h0] at h
    by_cases h1 : -(n : Int) ≤ i
    · rw [if_pos h1] at h
      have e : (i + n).toNat = j := Option.some.inj h
      exact ⟨by rw [seqIndex_neg (by omega) h1, e], by omega, h1, by omega⟩
    · rw [if_neg h1] at h; cases h
theorem atI_get {α : Type} {xs : List α} {i : Int} {v : α} (h : atI xs i = some v) : ∃ j, seqIndex? i xs.length = some j ∧ xs[j]? = some v ∧ j < xs.length ∧ -(xs.length : Int) ≤ i ∧ i < xs.length := by
  unfold atI at h
  cases e : ixN xs.length i with
  | none => rw [e] at h; cases h
  | some j =>
    rw [e] at h
    obtain ⟨h1, h2, h3, h4⟩ := ixN_seq e
    exact ⟨j, h1, h, h2, h3, h4⟩
theorem atI_nat {α : Type} {xs : List α} {j : Nat} {v : α} (h : xs[j]? = some v) : atI xs (j : Int) = some v := by
  have hj : j < xs.length := (List.getElem?_eq_some_iff.mp h).1
  have e : ixN xs.length (j : Int) = some j := by
    unfold ixN
    rw [if_pos (by omega), if_pos (by omega)]; simp
  unfold atI; rw [e]; exact h
theorem atI_last {α : Type} (xs : List α) (v : α) : atI (xs ++ [v]) (-1) = some v := by
  have hl : (xs ++ [v]).length = xs.length + 1 := by simp
  have e : ixN (xs ++ [v]).length (-1) = some xs.length := by
    unfold ixN
    rw [hl, if_neg (by decide), if_pos (by omega)]
    congr 1
    omega
  unfold atI
  rw [e]
  show (xs ++ [v])[xs.length]? = some v
  simp

/-! ### what may be subscripted -/
/-- what stands as an index of a plain subscript -/
def PlainIx (b : Expr) : Prop := ∀ o i, subscripted b false o i = operate [o, i] (getItem o i)
/-- a subscript by values -/
def IxR (X : Cx) (r : R2) : Prop :=
  ∀ (value slice : Expr) (pins : List (Addr × Obj)) (s : Shared) (σ : St) (H : Hp) (x y : V) (v u : Value) (Q : VK), Inv X pins σ H s → RelV x v → RelV y u → r x y H Q →
    subscripted slice false v u = operate [v, u] (getItem v u) → wpAny (model X.prog X.w) X.A (subscriptTail value slice v u) (EP X pins σ Q) X.xe s
/-- a call of a builtin's method by values: the receiver, the arguments -/
def MtR (X : Cx) (id : String) (r : V → List V → Hp → VK → Prop) : Prop :=
  ∀ (pins : List (Addr × Obj)) (s : Shared) (σ : St) (H : Hp) (x : V) (xs : List V) (v : Value) (us : List Value) (Q : VK), Inv X pins σ H s → RelV x v → Vals xs us → r x xs H Q →
    wpAny (model X.prog X.w) X.A (call (.builtin id) (v :: us)) (EP X pins σ Q) X.xe s
section
variable {X : Cx} {a b : Expr} {ta tb : TE} {pos : Pos}
theorem IxR.or {r r' : R2} (h : IxR X r) (h' : IxR X r') : IxR X (fun x y H Q => r x y H Q ∨ r' x y H Q) := by
  intro value slice pins s σ H x y v u Q I rx ry q hs
  rcases q with q | q
  · exact h value slice pins s σ H x y v u Q I rx ry q hs
  · exact h' value slice pins s σ H x y v u Q I rx ry q hs
theorem MtR.or {id : String} {r r' : V → List V → Hp → VK → Prop} (h : MtR X id r) (h' : MtR X id r') : MtR X id (fun x xs H Q => r x xs H Q ∨ r' x xs H Q) := by
  intro pins s σ H x xs v us Q I rx rs q
  rcases q with q | q
  · exact h pins s σ H x xs v us Q I rx rs q
  · exact h' pins s σ H x xs v us Q I rx rs q
/-- a[b] -/
theorem pe_ix {r : R2} (hr : IxR X r) (ha : PE X a ta) (hb : PE X b tb) (hs : PlainIx b) : PE X (.Subscript a b pos) (tOp r ta tb) := by
  intro pins s σ H Q I h
  exact Subscript_ (binT ha hb I h fun v u s2 x y H2 I2 rx ry q => hr a b pins s2 σ H2 x y v u Q I2 rx ry q (hs _ _))

def rIxL (K : PySem.W.Frag) : R2 := fun x y H Q => ∃ p xs i v, x = .ref p ∧ y = .int i ∧ SqL K H p xs ∧ atI xs i = some v ∧ Q v H
def rIxT (K : PySem.W.Frag) : R2 := fun x y H Q => ∃ p xs i v, x = .ref p ∧ y = .int i ∧ SqT K H p xs ∧ atI xs i = some v ∧ Q v H
def rIxS : R2 := fun x y H Q => ∃ z i c, x = .str z ∧ y = .int i ∧ z.length ≤ sizeLine ∧ atI z.cps.toList i = some c ∧ Q (.str ⟨#[c]⟩) H
theorem ix_list : IxR X (rIxL X.K) := by
  intro value slice pins s σ H x y v u Q I rx ry h hs
  obtain ⟨p, xs, i, z, rfl, rfl, hq, he, q⟩ := h
  cases rx
  obtain ⟨t, rfl⟩ := ry
  obtain ⟨its, r, pl, hz⟩ := I.list hq
  obtain ⟨j, h1, h2, h3, h4, h5⟩ := atI_get he
  obtain ⟨w, ew, rw'⟩ := r.get h2
  have hl := r.length
  have hn := line63
  have fin : EP X pins σ Q w s := ⟨z, H, I, rw', q⟩
  by_cases h0 : 0 ≤ i
  · have hj : i.toNat = j := by
      rw [seqIndex_of h0 h5] at h1
      exact Option.some.inj h1
    exact item_listR pl.isList h0 (by omega) (by rw [hj]; simpa using ew) fin hs
  · have hj : (i + (its.toArray.size : Int)).toNat = j := by
      rw [seqIndex_neg (by omega) h4] at h1
      rw [List.size_toArray, ← hl]
      exact Option.some.inj h1
    exact subscriptTail_builtinR (x := w) pl.isList.typeIs slot_list_getitem.lookup
      (wpAny_getItem_list_neg (Q := fun r s' => r = w ∧ EP X pins σ Q r s') pl.isList (by omega) (by rw [List.size_toArray] <;> omega) (by omega) (by rw [hj]; simpa using ew) ⟨rfl, fin⟩) hs
theorem ix_tup : IxR X (rIxT X.K) := by
  intro value slice pins s σ H x y v u Q I rx ry h hs
  obtain ⟨p, xs, i, z, rfl, rfl, hq, he, q⟩ := h
  cases rx
  obtain ⟨t, rfl⟩ := ry
  obtain ⟨its, r, pl, hz⟩ := I.tuple hq
  obtain ⟨j, h1, h2, h3, h4, h5⟩ := atI_get he
  obtain ⟨w, ew, rw'⟩ := r.get h2
  have hl := r.length
  have hn := line63
  have fin : EP X pins σ Q w s := ⟨z, H, I, rw', q⟩
  exact subscriptTail_builtinR (x := w) pl.typeIs slot_tuple_getitem.lookup
    (getItem_tuple (j := j) (Q := fun r s' => r = w ∧ EP X pins σ Q r s') pl (by omega) (by omega) (by rw [List.size_toArray, ← hl]; exact h1) (by simpa using ew) ⟨rfl, fin⟩) hs
theorem ix_str : IxR X rIxS := by
  intro value slice pins s σ H x y v u Q I rx ry h hs
  obtain ⟨z, i, c, rfl, rfl, hz, he, q⟩ := h
  obtain ⟨t, rfl⟩ := rx
  obtain ⟨t', rfl⟩ := ry
  obtain ⟨j, h1, h2, h3, h4, h5⟩ := atI_get he
  have hl : z.cps.toList.length = z.length := by simp [Str.length]
  rw [hl] at h1 h4 h5
  have hn := line63
  exact tail_any (typeIs_str s z t) slot_str_getitem.lookup (getItem_str (c := c) (by
    have e1 : decide (i < -(2 ^ 63 : Int)) = false := decide_eq_false (by omega)
    have e2 : decide (i ≥ 2 ^ 63) = false := decide_eq_false (by omega)
    rw [e1, e2, Bool.or_false]) (by rw [h1]; simpa using h2) ⟨.str ⟨#[c]⟩, H, I.tok _, ⟨_, rfl⟩, q⟩) hs
/-- list, tuple or str -/
def rIx (K : PySem.W.Frag) : R2 := fun x y H Q => rIxL K x y H Q ∨ rIxT K x y H Q ∨ rIxS x y H Q
theorem ix_seq : IxR X (rIx X.K) := ix_list.or (ix_tup.or ix_str)

/-! ### xs[i] = v, any sign -/
/-- the list's object behind a store -/
theorem mapSeq_set (its : List Value) (n j : Nat) (u : Value) : Obj.mapSeq (·.setIfInBounds j u) { cls := .type "list", data := .seq its.toArray n } = { cls := .type "list", data := .seq (its.set j u).toArray n } := by
  simp [Obj.mapSeq]
theorem Inv.lst {pins : List (Addr × Obj)} {σ : St} {H : Hp} {s : Shared} {p : Addr} {xs : List V} (I : Inv X pins σ H s) (h : H p = some (.lst xs)) :
    ∃ (its : List Value) (n : Nat), Vals xs its ∧ s.heap.get? p = some { cls := .type "list", data := .seq its.toArray n } ∧ xs.length ≤ sizeLine := by
  obtain ⟨z, its, n, r, e⟩ := I.hok p _ h
  exact ⟨its, n, r, e, z⟩
/-- the list at p is written by an update of its object -/
theorem Inv.lstUpd {pins : List (Addr × Obj)} {σ : St} {H : Hp} {s : Shared} {p : Addr} {xs ys : List V} {its its' : List Value} {n n' : Nat} {f : Obj → Obj} (I : Inv X pins σ H s) (h : H p = some (.lst xs))
    (ho : s.heap.get? p = some { cls := .type "list", data := .seq its.toArray n }) (hf : f { cls := .type "list", data := .seq its.toArray n } = { cls := .type "list", data := .seq its'.toArray n' }) (r : Vals ys its') (hz : ys.length ≤ sizeLine) (t : Nat) :
    Inv X pins σ (upd H p (.lst ys)) { s with heap := s.heap.update p f, toks := t } := by
  have e : (s.heap.update p f).get? p = some { cls := .type "list", data := .seq its'.toArray n' } := by
    rw [Heap.get?_update_self f ho (by rw [hf] <;> rfl), hf]
  refine I.write (x := p) (e := p) (by rw [h]; trivial) (.inl rfl) (fun b u hb q => (Heap.get?_update_other _ _ (Ne.symm hb)).trans q) ⟨_, e⟩ ?_
  exact ⟨hz, its', n', r, e⟩
def rSetL : V → V → V → Hp → (Hp → Prop) → Prop := fun o i v H Q => ∃ p xs k j, o = .ref p ∧ i = .int k ∧ H p = some (.lst xs) ∧ ixN xs.length k = some j ∧ Q (upd H p (.lst (xs.set j v)))
theorem set_list : PSet X rSetL := by
  intro pins s σ H o i v ov iv u Q I ro ri rv h
  obtain ⟨p, xs, k, j, rfl, rfl, hp, hj, q⟩ := h
  cases ro
  obtain ⟨t, rfl⟩ := ri
  obtain ⟨its, n, r, ho, hz⟩ := I.lst hp
  obtain ⟨h1, h2, h3, h4⟩ := ixN_seq hj
  have hl := r.length
  have hn := line63
  have I' : Inv X pins σ (upd H p (.lst (xs.set j v))) { s with heap := s.heap.update p (Obj.mapSeq (·.setIfInBounds j u)) } :=
    I.lstUpd hp ho (mapSeq_set its n j u) (r.set rv j) (by rw [List.length_set]; exact hz) s.toks
  by_cases h0 : 0 ≤ k
  · have hk : k.toNat = j := by
      rw [seqIndex_of h0 h4] at h1
      exact Option.some.inj h1
    exact PySem.W.ki_setAt ho h0 (by omega) (by rw [List.size_toArray, ← hl]; exact h4) (by rw [hk]; exact ⟨_, I', q⟩)
  · have hk : (k + (its.toArray.size : Int)).toNat = j := by
      rw [seqIndex_neg (by omega) h3] at h1
      rw [List.size_toArray, ← hl]
      exact Option.some.inj h1
    exact PySem.W.ki_setBack ho (by omega) (by rw [List.size_toArray, ← hl]; exact h3) (by omega) (by rw [hk]; exact ⟨_, I', q⟩)

/-! ### slices -/
theorem slice_bounds (lo hi : Option Int) (n : Nat) : (sliceBounds lo hi none n).1 = ((HT.sIx n 0 lo : Nat) : Int) ∧ (sliceBounds lo hi none n).2.1 = ((HT.sIx n n hi : Nat) : Int) ∧ (sliceBounds lo hi none n).2.2 = 1 := by
  refine ⟨?_, ?_, rfl⟩
  · cases lo with
    | none => simp [sliceBounds, HT.sIx]
    | some i =>
      simp only [sliceBounds, HT.sIx, Option.getD_none, show (1 : Int) > 0 by decide, if_true]
      by_cases h : i < 0
      · simp only [h, if_true] <;> omega
      · simp only [h, if_false] <;> omega
  · cases hi with
    | none => simp [sliceBounds, HT.sIx]
    | some i =>
      simp only [sliceBounds, HT.sIx, Option.getD_none, show (1 : Int) > 0 by decide, if_true]
      by_cases h : i < 0
      · simp only [h, if_true] <;> omega
      · simp only [h, if_false] <;> omega
theorem slicePick_cut (its : List Value) (lo hi : Option Int) : slicePick its.toArray lo hi none = ((its.drop (HT.sIx its.length 0 lo)).take (HT.sIx its.length its.length hi - HT.sIx its.length 0 lo)).toArray := by
  obtain ⟨h1, h2, h3⟩ := slice_bounds lo hi its.toArray.size
  unfold slicePick
  rw [h1, h2, h3]
  simp only [sliceRange_one, pick_run, List.size_toArray] <;> rfl
/-- xs[lo:hi] of a list: a new list -/
def rSlL (K : PySem.W.Frag) : V → Option Int → Option Int → Hp → VK → Prop := fun x lo hi H Q => ∃ a xs, x = .ref a ∧ SqL K H a xs ∧ ∀ p, H p = none → Q (.ref p) (upd H p (.lst (cutV xs lo hi)))
theorem sl_list : SlR X (rSlL X.K) := by
  intro pins s σ H x v vl vu lo hi sl Q I rx hs pl pu h
  obtain ⟨a, xs, rfl, hx, q⟩ := h
  cases rx
  obtain ⟨its, r, ht, hz⟩ := I.list hx
  have hlen := r.length
  refine ⟨"list", _, slot_list_getitem.lookup, ht.isList.typeIs, ?_⟩
  refine wpAny_getItem_list_slice ht.isList hs pl pu .none (by simp) ?_ (by rw [List.size_toArray] <;> omega)
  rw [slicePick_cut, ← hlen]
  refine ⟨.ref s.heap.objs.size, _, I.laid (t' := s.toks) (o := .lst (cutV xs lo hi)) (fun b ob q => Heap.get?_push_of_some _ q) (Nat.le_refl _) ?_, rfl, q _ (I.hok.fresh (Nat.le_refl _))⟩
  exact ⟨Nat.le_trans (cutV_length xs lo hi) hz, _, 0, (r.drop (HT.sIx xs.length 0 lo)).take (HT.sIx xs.length xs.length hi - HT.sIx xs.length 0 lo), Heap.get?_push_size _ rfl⟩

/-! ### in, not in: flat items -/
def flatV : V → Bool
  | .non => true
  | .bl _ => true
  | .int _ => true
  | .str _ => true
  | _ => false
/-- == of flat values -/
def eqV : V → V → Bool
  | .non, .non => true
  | .bl a, .bl b => a == b
  | .bl a, .int b => (if a then 1 else 0) == b
  | .int a, .bl b => a == (if b then 1 else 0)
  | .int a, .int b => a == b
  | .str a, .str b => a == b
  | _, _ => false
theorem eqAt_V {A : Around} {s : Shared} {y x : V} {u v : Value} (ry : RelV y u) (rx : RelV x v) (fy : flatV y = true) (fx : flatV x = true) : SeqAt.EqAt A s u v (eqV y x) := by
  cases y with
  | non =>
    cases ry
    cases x with
    | non => cases rx; exact SeqAt.EqAt.same _
    | bl b => cases rx; exact SeqAt.EqAt.none_bool b
    | int b => obtain ⟨t, rfl⟩ := rx; exact SeqAt.EqAt.none_int b t
    | str b => obtain ⟨t, rfl⟩ := rx; exact SeqAt.EqAt.none_str b t
    | _ => exact absurd (show false = true from fx) Bool.false_ne_true
  | bl a =>
    cases ry
    cases x with
    | non => cases rx; exact SeqAt.EqAt.bool_none a
    | bl b => cases rx; exact SeqAt.EqAt.bool_bool a b
    | int b => obtain ⟨t, rfl⟩ := rx; exact SeqAt.EqAt.bool_int a b t
    | str b => obtain ⟨t, rfl⟩ := rx; exact SeqAt.EqAt.bool_str a b t
    | _ => exact absurd (show false = true from fx) Bool.false_ne_true
  | int a =>
    obtain ⟨t', rfl⟩ := ry
    cases x with
    | non => cases rx; exact SeqAt.EqAt.int_none a t'
    | bl b => cases rx; exact SeqAt.EqAt.int_bool a t' b
    | int b => obtain ⟨t, rfl⟩ := rx; exact SeqAt.EqAt.int_int a t' b t
    | str b => obtain ⟨t, rfl⟩ := rx; exact SeqAt.EqAt.int_str a t' b t
    | _ => exact absurd (show false = true from fx) Bool.false_ne_true
  | str a =>
    obtain ⟨t', rfl⟩ := ry
    cases x with
    | non => cases rx; exact SeqAt.EqAt.str_none a t'
    | bl b => cases rx; exact SeqAt.EqAt.str_bool a t' b
    | int b => obtain ⟨t, rfl⟩ := rx; exact SeqAt.EqAt.str_int a t' b t
    | str b => obtain ⟨t, rfl⟩ := rx; exact SeqAt.EqAt.str_str a t' b t
    | _ => exact absurd (show false = true from fx) Bool.false_ne_true
  | _ => exact absurd (show false = true from fy) Bool.false_ne_true
/-- the items' answers, read off the values (a value's own answer does not lean on its token) -/
def eqU (x : V) (u : Value) : Bool := match u with
  | .none => eqV .non x
  | .bool b => eqV (.bl b) x
  | .int i _ => eqV (.int i) x
  | .str z _ => eqV (.str z) x
  | _ => false
theorem eqU_of {x y : V} {u : Value} (r : RelV y u) (f : flatV y = true) : eqU x u = eqV y x := by
  cases y with
  | non => cases r; rfl
  | bl b => cases r; rfl
  | int i => obtain ⟨t, rfl⟩ := r; rfl
  | str z => obtain ⟨t, rfl⟩ := r; rfl
  | _ => exact absurd (show false = true from f) Bool.false_ne_true
theorem any_eqU {x : V} : ∀ {xs : List V} {us : List Value}, Vals xs us → xs.all flatV = true → us.any (eqU x) = xs.any fun y => eqV y x
  | _, _, .nil, _ => rfl
  | y :: xs, u :: us, .cons r t, f => by
    rw [List.all_cons, Bool.and_eq_true] at f
    rw [List.any_cons, List.any_cons, eqU_of r f.1, any_eqU t f.2]
theorem mem_eqAt {A : Around} {s : Shared} {x : V} {v : Value} (rx : RelV x v) (fx : flatV x = true) : ∀ {xs : List V} {us : List Value}, Vals xs us → xs.all flatV = true → ∀ u ∈ us, SeqAt.EqAt A s u v (eqU x u)
  | _, _, .nil, _ => fun u hu => by cases hu
  | y :: xs, u :: us, .cons r t, f => fun u' hu => by
    rw [List.all_cons, Bool.and_eq_true] at f
    rcases List.mem_cons.mp hu with rfl | hu
    · rw [eqU_of r f.1]; exact eqAt_V r rx f.1 fx
    · exact mem_eqAt rx fx t f.2 u' hu
def inV (x : V) (xs : List V) : Bool := xs.any fun y => eqV y x
/-- x in a list or tuple of flat items -/
def rIn (K : PySem.W.Frag) (neg : Bool) : R2 := fun x y H Q => ∃ p xs, y = .ref p ∧ (SqL K H p xs ∨ SqT K H p xs) ∧ flatV x = true ∧ xs.all flatV = true ∧ Q (.bl (if neg then !inV x xs else inV x xs)) H
theorem op_in_seq : OpR X (compareOp .In) (rIn X.K false) := by
  intro pins s σ H x y v u Q I rx ry h
  obtain ⟨p, xs, rfl, hq, fx, fs, q⟩ := h
  cases ry
  rcases hq with hq | hq
  · obtain ⟨its, r, pl, hz⟩ := I.list hq
    refine SeqAt.in_listAt (eqU x) pl.isList (fun w hw => mem_eqAt rx fx r fs w (by simpa using hw)) ⟨.bl _, H, I, rfl, ?_⟩
    rw [show its.toArray.any (eqU x) = its.any (eqU x) by simp, any_eqU r fs]
    exact q
  · obtain ⟨its, r, pl, hz⟩ := I.tuple hq
    refine SeqAt.in_tupleAt (eqU x) pl (fun w hw => mem_eqAt rx fx r fs w (by simpa using hw)) ⟨.bl _, H, I, rfl, ?_⟩
    rw [show its.toArray.any (eqU x) = its.any (eqU x) by simp, any_eqU r fs]
    exact q
theorem op_notIn_seq : OpR X (compareOp .NotIn) (rIn X.K true) := by
  intro pins s σ H x y v u Q I rx ry h
  obtain ⟨p, xs, rfl, hq, fx, fs, q⟩ := h
  cases ry
  rcases hq with hq | hq
  · obtain ⟨its, r, pl, hz⟩ := I.list hq
    refine SeqAt.notIn_listAt (eqU x) pl.isList (fun w hw => mem_eqAt rx fx r fs w (by simpa using hw)) ⟨.bl _, H, I, rfl, ?_⟩
    rw [show its.toArray.any (eqU x) = its.any (eqU x) by simp, any_eqU r fs]
    exact q
  · obtain ⟨its, r, pl, hz⟩ := I.tuple hq
    refine SeqAt.notIn_tupleAt (eqU x) pl (fun w hw => mem_eqAt rx fx r fs w (by simpa using hw)) ⟨.bl _, H, I, rfl, ?_⟩
    rw [show its.toArray.any (eqU x) = its.any (eqU x) by simp, any_eqU r fs]
    exact q
theorem op_notIn_str : OpR X (compareOp .NotIn) (fun x y H Q => ∃ i j, x = .str i ∧ y = .str j ∧ Q (.bl (!(!(Builtin.Str.occurrences j i 0 j.length 1).isEmpty))) H) := by
  intro pins s σ H x y v u Q I rx ry h
  obtain ⟨i, j, rfl, rfl, q⟩ := h
  obtain ⟨t, rfl⟩ := rx
  obtain ⟨t', rfl⟩ := ry
  exact notIn_str ⟨.bl _, H, I, rfl, q⟩

/-! ### len, list(x), tuple(x) of any list or tuple that is read -/
theorem call_len_seq : CallR X (.builtin "len") (fun xs H Q => ∃ p ys, xs = [.ref p] ∧ (SqL X.K H p ys ∨ SqT X.K H p ys) ∧ Q (.int ys.length) H) := by
  intro pins s σ H xs us Q I r h
  obtain ⟨p, ys, rfl, hq, q⟩ := h
  obtain ⟨u, rfl, rx⟩ := vals1 r
  cases rx
  have hn := line63
  rcases hq with hq | hq
  · obtain ⟨its, r', pl, hz⟩ := I.list hq
    have hlen := r'.length
    exact Calls.call_len_list pl.isList (by simp only [List.size_toArray] <;> omega) ⟨.int ys.length, H, I.tok _, ⟨s.toks + 1, by rw [List.size_toArray, hlen]⟩, q⟩
  · obtain ⟨its, r', pl, hz⟩ := I.tuple hq
    have hlen := r'.length
    exact len_tuple pl (by simp only [List.size_toArray] <;> omega) ⟨.int ys.length, H, I.tok _, ⟨s.toks + 1, by rw [List.size_toArray, hlen]⟩, q⟩
theorem call_len_str : CallR X (.builtin "len") (fun xs H Q => ∃ z, xs = [.str z] ∧ z.length ≤ sizeLine ∧ Q (.int z.length) H) := by
  intro pins s σ H xs us Q I r h
  obtain ⟨z, rfl, hz, q⟩ := h
  obtain ⟨u, rfl, t, rfl⟩ := vals1 r
  have hn := line63
  exact len_str (by omega) ⟨.int z.length, H, I.tok _, ⟨_, rfl⟩, q⟩
theorem CallR.or {f : Value} {r r' : List V → Hp → VK → Prop} (h : CallR X f r) (h' : CallR X f r') : CallR X f (fun xs H Q => r xs H Q ∨ r' xs H Q) := by
  intro pins s σ H xs us Q I rs q
  rcases q with q | q
  · exact h pins s σ H xs us Q I rs q
  · exact h' pins s σ H xs us Q I rs q
theorem call_list_of : CallR X (.type "list") (fun xs H Q => ∃ p ys, xs = [.ref p] ∧ (SqL X.K H p ys ∨ SqT X.K H p ys) ∧ ∀ l, H l = none → Q (.ref l) (upd H l (.lst ys))) := by
  intro pins s σ H xs us Q I r h
  obtain ⟨p, ys, rfl, hq, q⟩ := h
  obtain ⟨u, rfl, rx⟩ := vals1 r
  cases rx
  have fin : ∀ (its : List Value), Vals ys its → ys.length ≤ sizeLine → ∀ (h' : Heap) (c' : Nat), (∀ b o', s.heap.get? b = some o' → h'.get? b = some o') →
      h'.get? s.heap.objs.size = some { cls := .type "list", dict := none, data := .seq its.toArray c', slots := #[] } → EP X pins σ Q (.ref s.heap.objs.size) { s with heap := h' } := fun its r' hz h' c' kp e =>
    ⟨.ref s.heap.objs.size, _, I.laid (t' := s.toks) kp (Nat.le_refl _) (show ObjOk X.prog X.w _ h' _ (.lst ys) from ⟨hz, its, c', r', e⟩), rfl, q _ (I.hok.fresh (Nat.le_refl _))⟩
  rcases hq with hq | hq
  · obtain ⟨its, r', pl, hz⟩ := I.list hq
    have hlen := r'.length
    obtain ⟨o, ho, hc, n, hd⟩ := pl.isList
    exact call_list_seq p (.inl rfl) ho hc hd (fun h' c' kp e => fin its r' hz h' c' kp e) (by simp only [List.size_toArray] <;> omega)
  · obtain ⟨its, r', pl, hz⟩ := I.tuple hq
    have hlen := r'.length
    obtain ⟨o, ho, hc, n, hd⟩ := pl
    exact call_list_seq p (.inr rfl) ho hc hd (fun h' c' kp e => fin its r' hz h' c' kp e) (by simp only [List.size_toArray] <;> omega)
theorem call_tuple_of : CallR X (.type "tuple") (fun xs H Q => ∃ p ys, xs = [.ref p] ∧ ((SqL X.K H p ys ∧ ∀ l, H l = none → Q (.ref l) (upd H l (.tup ys))) ∨ (SqT X.K H p ys ∧ Q (.ref p) H))) := by
  intro pins s σ H xs us Q I r h
  obtain ⟨p, ys, rfl, h⟩ := h
  obtain ⟨u, rfl, rx⟩ := vals1 r
  cases rx
  rcases h with ⟨hq, q⟩ | ⟨hq, q⟩
  · obtain ⟨its, r', pl, hz⟩ := I.list hq
    have hlen := r'.length
    refine call_tuple_list pl.isList (fun h' kp => ?_) (by simp only [List.size_toArray] <;> omega)
    have I1 : Inv X pins σ H { s with heap := h' } := I.kept (t' := s.toks) kp
    have I2 : Inv X pins σ (upd H h'.objs.size (.tup ys)) { s with heap := h'.push { cls := .type "tuple", data := .seq its.toArray } } :=
      I1.laid (t' := s.toks) (fun b o e => Heap.get?_push_of_some _ e) (Nat.le_refl _) (show ObjOk X.prog X.w _ _ _ (.tup ys) from ⟨hz, its, r', IsTup.new _ _⟩)
    exact ⟨.ref h'.objs.size, _, I2, rfl, q _ (I1.hok.fresh (Nat.le_refl _))⟩
  · obtain ⟨its, r', pl, hz⟩ := I.tuple hq
    exact call_tuple_same pl ⟨.ref p, H, I, rfl, q⟩

/-! ### the call of a builtin's method: o.m(..) -/
/-- the value is of that builtin type -/
def tyV (K : PySem.W.Frag) (T : String) (x : V) (H : Hp) : Prop := match x with
  | .str _ => T = "str"
  | .int _ => T = "int"
  | .ref p => (T = "list" ∧ ∃ xs, SqL K H p xs) ∨ (T = "tuple" ∧ ∃ o, K.lookup p = some o ∧ o.cls = .type "tuple" ∧ o.dict = none) ∨
      (T = "dict" ∧ ((∃ kvs, H p = some (.dK kvs)) ∨ ∃ kvs, H p = some (.dT kvs))) ∨ (T = "set" ∧ ∃ S n, H p = some (.set S n))
  | _ => False
theorem tyV_is {pins : List (Addr × Obj)} {σ : St} {H : Hp} {s : Shared} {T : String} {x : V} {v : Value} (I : Inv X pins σ H s) (r : RelV x v) (ty : tyV X.K T x H) :
    s.TypeIs v T ∧ ∀ a, v = .ref a → ∃ ob, s.heap.get? a = some ob ∧ ob.dict = none := by
  cases x with
  | str z =>
    obtain ⟨t, rfl⟩ := r
    cases (show T = "str" from ty)
    exact ⟨typeIs_str s z t, fun _ e => nomatch e⟩
  | int i =>
    obtain ⟨t, rfl⟩ := r
    cases (show T = "int" from ty)
    exact ⟨typeIs_int s i t, fun _ e => nomatch e⟩
  | ref p =>
    cases r
    rcases ty with ⟨rfl, xs, hq⟩ | ⟨rfl, o, hk, hc, hd⟩ | ⟨rfl, hk⟩ | ⟨rfl, S, n, hk⟩
    · obtain ⟨its, _, pl, _⟩ := I.list hq
      refine ⟨pl.isList.typeIs, fun a e => ?_⟩
      cases e
      obtain ⟨o, n, e, c, hd, _⟩ := pl
      exact ⟨o, e, hd⟩
    · refine ⟨⟨o, I.kIn p o hk, hc⟩, fun a e => ?_⟩
      cases e
      exact ⟨o, I.kIn _ o hk, hd⟩
    · have z : ∃ o, s.heap.get? p = some o ∧ o.ExactDict := by
        rcases hk with ⟨kvs, hk⟩ | ⟨kvs, hk⟩
        · obtain ⟨_, _, _, _, o, _, _, e, ex, _⟩ := I.hok p _ hk
          exact ⟨o, e, ex⟩
        · obtain ⟨_, _, _, _, o, _, _, e, ex, _⟩ := I.hok p _ hk
          exact ⟨o, e, ex⟩
      obtain ⟨o, e, ex⟩ := z
      refine ⟨⟨o, e, ex.1⟩, fun a e2 => ?_⟩
      cases e2
      exact ⟨o, e, ex.2.1⟩
    · obtain ⟨o, _, _, _, e, ex, _⟩ := I.hok p _ hk
      refine ⟨⟨o, e, ex.1⟩, fun a e2 => ?_⟩
      cases e2
      exact ⟨o, e, ex.2.1⟩
  | _ => exact False.elim ty
def tBM0 (K : PySem.W.Frag) (T : String) (r : V → List V → Hp → VK → Prop) (to : TE) : TE := fun σ H Q => to σ H fun x H1 => tyV K T x H1 ∧ r x [] H1 Q
def tBM (K : PySem.W.Frag) (T : String) (r : V → List V → Hp → VK → Prop) (to : TE) (t : TA) : TE := fun σ H Q => to σ H fun x H1 => tyV K T x H1 ∧ t σ H1 fun xs H2 => r x xs H2 Q
variable {o e : Expr} {es : List Expr} {to : TE} {t : TA} {name : Str} {apos cpos : Pos} {T id : String} {r : V → List V → Hp → VK → Prop}
theorem pe_bm0 (pa : PlainAttrs T) (slot : Slot T name id) (hty : typeOf (.builtin id) = pure (.type "method_descriptor")) (hm : MtR X id r) (ho : PE X o to)
    (hbase : attributeBase o name X.env (eval o X.env) = eval o X.env := by rfl) (hline : (apos.endLine == cpos.line) = true := by rfl) : PE X (.Call (.Attribute o name apos) [] [] cpos) (tBM0 X.K T r to) := by
  intro pins s σ H Q I h
  refine wpAny_Call_method0_late hbase hline (thn (ho pins s σ H _ I h) fun v s1 ⟨x, H1, I1, r1, ty, q1⟩ => ?_)
  obtain ⟨h1, h2⟩ := tyV_is I1 r1 ty
  exact ⟨T, id, pa, slot, hty, h1, h2, Calls.callWith_builtin rfl (PySem.evalArgs_none (hm pins s1 σ H1 x [] v [] Q I1 r1 .nil q1))⟩
theorem pe_bm (pa : PlainAttrs T) (slot : Slot T name id) (hty : typeOf (.builtin id) = pure (.type "method_descriptor")) (hm : MtR X id r) (ho : PE X o to) (ha : PA X (e :: es) t)
    (hbase : attributeBase o name X.env (eval o X.env) = eval o X.env := by rfl)
    (hfew : ((backTo cpos (starEach (e :: es) X.env)).all (fun x => !x.1) && (backToKw cpos (keywordEach [] X.env)).all (fun x => x.1.isSome)
      && decide ((e :: es).length + ([] : List Keyword).length + (if ([] : List Keyword).isEmpty then 0 else 1) < 30)) = true := by rfl)
    (hline : (apos.endLine == cpos.line) = true := by rfl) (hs : starEach (e :: es) X.env = (false, eval e X.env) :: starEach es X.env := by rfl) (hplain : (backTo cpos (starEach es X.env)).any (·.1) = false := by rfl) :
    PE X (.Call (.Attribute o name apos) (e :: es) [] cpos) (tBM X.K T r to t) := by
  intro pins s σ H Q I h
  refine wpAny_Call_method_late hbase hfew hline rfl (thn (ho pins s σ H _ I h) fun v s1 ⟨x, H1, I1, r1, ty, q1⟩ => ?_)
  obtain ⟨h1, h2⟩ := tyV_is I1 r1 ty
  refine ⟨T, id, pa, slot, hty, h1, h2, ?_⟩
  have hA := ha cpos pins s1 σ H1 _ I1 q1
  rw [hs] at hA ⊢
  refine Calls.callWith_builtin (by show (false || (backTo cpos (starEach es X.env)).any (·.1)) = false; rw [hplain] <;> rfl) (Calls.evalArgs_plain ?_)
  exact thn hA fun us s2 ⟨vs, H2, I2, r2, q2⟩ => hm pins s2 σ H2 x vs v us Q I2 r1 r2 q2
/- xs.append(e), list.index on a module's tuple .. are MtR facts of 06m -/
end
end L2

namespace L2
open PySem PySem.Spec PyProof.Rows

def MtM (X : Cx) (id : String) (r : V → List V → Hp → VK → Prop) : Prop :=
  ∀ (pins : List (Addr × Obj)) (s : Shared) (σ : St) (H : Hp) (x : V) (xs : List V) (v : Value) (us : List Value) (Q : VK), Inv X pins σ H s → RelV x v → Vals xs us → r x xs H Q →
    wpAny (model X.prog X.w) X.A (call (.builtin id) (v :: us)) (EP X pins σ Q) X.xe s

/-! ### lists of values -/
theorem Vals.one : ∀ {x : V} {us : List Value}, Vals [x] us → ∃ u, us = [u] ∧ RelV x u
  | _, _, .cons r .nil => ⟨_, rfl, r⟩
theorem Vals.two : ∀ {x y : V} {us : List Value}, Vals [x, y] us → ∃ u v, us = [u, v] ∧ RelV x u ∧ RelV y v
  | _, _, _, .cons r (.cons q .nil) => ⟨_, _, rfl, r, q⟩
theorem Vals.zero : ∀ {us : List Value}, Vals [] us → us = []
  | _, .nil => rfl
theorem Vals.dropLast {xs : List V} {us : List Value} (h : Vals xs us) : Vals xs.dropLast us.dropLast := by
  induction h with
  | nil => exact .nil
  | cons r t ih =>
    cases t with
    | nil => exact .nil
    | cons q t' => exact .cons r ih
theorem Vals.eraseIdx : ∀ {xs : List V} {us : List Value} (i : Nat), Vals xs us → Vals (xs.eraseIdx i) (us.eraseIdx i)
  | _, _, _, .nil => .nil
  | _, _, 0, .cons _ t => t
  | _, _, i + 1, .cons r t => .cons r (Vals.eraseIdx i t)
theorem Vals.reverse {xs : List V} {us : List Value} (h : Vals xs us) : Vals xs.reverse us.reverse := by
  induction h with
  | nil => exact .nil
  | cons r t ih => rw [List.reverse_cons, List.reverse_cons]; exact Vals.append ih (.cons r .nil)
theorem Vals.rep {xs : List V} {us : List Value} (h : Vals xs us) : ∀ k : Nat, Vals (List.replicate k xs).flatten (List.replicate k us).flatten
  | 0 => .nil
  | k + 1 => by
    rw [List.replicate_succ, List.replicate_succ, List.flatten_cons, List.flatten_cons]
    exact Vals.append h (Vals.rep h k)
theorem erase_last {α : Type} (l : List α) : l.eraseIdx (l.length - 1) = l.dropLast := by
  induction l with
  | nil => rfl
  | cons a r ih =>
    cases r with
    | nil => rfl
    | cons b r =>
      have e : (a :: b :: r).length - 1 = ((b :: r).length - 1) + 1 := by
        have h1 : (a :: b :: r).length = r.length + 2 := rfl
        have h2 : (b :: r).length = r.length + 1 := rfl
        omega
      rw [e, List.eraseIdx_cons_succ, ih]
      all_goals rfl
theorem len_erase {α : Type} : ∀ (l : List α) (i : Nat), (l.eraseIdx i).length ≤ l.length
  | [], _ => Nat.le_refl _
  | _ :: _, 0 => Nat.le_succ _
  | _ :: r, i + 1 => Nat.succ_le_succ (len_erase r i)
theorem foldl_rep (its : List Value) : ∀ (k : Nat) (acc : List Value),
    List.foldl (fun x1 x2 => x1 ++ x2) acc.toArray (List.replicate k its.toArray) = (acc ++ (List.replicate k its).flatten).toArray
  | 0, acc => by simp
  | k + 1, acc => by
    have e : acc.toArray ++ its.toArray = (acc ++ its).toArray := by simp
    have e2 : (acc ++ its) ++ (List.replicate k its).flatten = acc ++ (List.replicate (k + 1) its).flatten := by
      rw [List.replicate_succ, List.flatten_cons, List.append_assoc]
    rw [← e2, ← foldl_rep its k (acc ++ its), ← e, List.replicate_succ, List.foldl_cons]

section
variable {X : Cx} {pins : List (Addr × Obj)} {σ : St} {H : Hp} {s : Shared} {l b : Addr} {xs ys zs : List V}

/-! ### the two steps: a tracked list is rewritten, a new list is laid -/
theorem Inv.lset {its its' : List Value} {n : Nat} {f : Array Value → Array Value} {t' : Nat} (I : Inv X pins σ H s) (hH : H l = some (.lst xs))
    (e : s.heap.get? l = some { cls := .type "list", data := .seq its.toArray n }) (hf : f its.toArray = its'.toArray) (hv : Vals ys its') (hz : ys.length ≤ sizeLine) :
    Inv X pins σ (upd H l (.lst ys)) { s with heap := s.heap.update l (Obj.mapSeq f), toks := t' } := by
  have q := PySem.IsL.update e f
  rw [hf] at q
  refine I.write (x := l) (e := l) (by rw [hH]; exact trivial) (.inl rfl) (fun b' u hb hu => (Heap.get?_update_other s.heap (Obj.mapSeq f) (Ne.symm hb)).trans hu) ⟨_, q⟩ ?_
  exact ⟨hz, its', _, hv, q⟩
theorem Inv.lnew {its : List Value} {t' : Nat} (I : Inv X pins σ H s) (hv : Vals ys its) (hz : ys.length ≤ sizeLine) :
    Inv X pins σ (upd H s.heap.objs.size (.lst ys)) { s with heap := s.heap.push { cls := .type "list", data := .seq its.toArray }, toks := t' } :=
  I.laid (fun _ _ q => Heap.get?_push_of_some _ q) (Nat.le_refl _) ⟨hz, its, 0, hv, Heap.get?_push_size _ rfl⟩
theorem Inv.fresh (I : Inv X pins σ H s) : H s.heap.objs.size = none := I.hok.fresh (Nat.le_refl _)
theorem Inv.lstM (I : Inv X pins σ H s) (hH : H l = some (.lst xs)) : xs.length ≤ sizeLine ∧ ∃ (its : List Value) (n : Nat), Vals xs its ∧ xs.length = its.length ∧ s.heap.get? l = some { cls := .type "list", data := .seq its.toArray n } := by
  obtain ⟨z, its, n, r, e⟩ := I.hok l _ hH
  exact ⟨z, its, n, r, r.length, e⟩

theorem notLongL {n : Nat} (h : n ≤ sizeLine) : Builtin.List.listTooLong n = false := by
  unfold Builtin.List.listTooLong
  exact decide_eq_false (by omega)
end

section
variable {X : Cx}

/-! ### methods -/
def rAppend : V → List V → Hp → VK → Prop := fun x vs H Q => ∃ l xs y, x = .ref l ∧ vs = [y] ∧ H l = some (.lst xs) ∧ xs.length < sizeLine ∧ Q .non (upd H l (.lst (xs ++ [y])))
theorem mt_append : MtM X "list.append" rAppend := by
  intro pins s σ H x vs v us Q I rx rv h
  obtain ⟨l, xs, y, rfl, rfl, hH, hz, q⟩ := h
  cases rx
  obtain ⟨u, rfl, ru⟩ := rv.one
  obtain ⟨z, its, n, r, hl, e⟩ := I.lstM hH
  refine call_meets F.slot_list_append ⟨_, e, rfl⟩ F.entry_list_append (F.args_list_append_2 _ _) (PySem.list_append l its.toArray n u (by rw [List.size_toArray]; omega)) ⟨e, ?_⟩
  refine ⟨.non, _, I.lset (its' := its ++ [u]) hH e (by simp) (r.append (.cons ru .nil)) ?_, rfl, q⟩
  rw [List.length_append, List.length_singleton]
  omega

def rExtend : V → List V → Hp → VK → Prop := fun x vs H Q => ∃ l b xs zs, x = .ref l ∧ vs = [.ref b] ∧ H l = some (.lst xs) ∧ H b = some (.lst zs) ∧ xs.length + zs.length ≤ sizeLine ∧ Q .non (upd H l (.lst (xs ++ zs)))
theorem mt_extend : MtM X "list.extend" rExtend := by
  intro pins s σ H x vs v us Q I rx rv h
  obtain ⟨l, b, xs, zs, rfl, rfl, hH, hB, hz, q⟩ := h
  cases rx
  obtain ⟨u, rfl, ru⟩ := rv.one
  cases ru
  obtain ⟨z, its, n, r, hl, e⟩ := I.lstM hH
  obtain ⟨z2, its2, n2, r2, hl2, e2⟩ := I.lstM hB
  have hsz : its.toArray.size + its2.toArray.size ≤ sizeLine := by rw [List.size_toArray, List.size_toArray]; omega
  have hlong : ¬ (!its.toArray.isEmpty && Builtin.List.listTooLong (its.toArray.size + its2.toArray.size)) = true := by
    rw [notLongL hsz, Bool.and_false]
    exact Bool.false_ne_true
  refine call_meets F.slot_list_extend ⟨_, e, rfl⟩ F.entry_list_extend (F.args_list_extend_2 _ _)
    (AutoSeq1.list_extend_list_list_0 l its.toArray n b its2.toArray n2 hlong (by rw [List.size_toArray]; omega) (by omega)) ⟨e, e2, ?_⟩
  refine ⟨.non, _, I.lset (its' := its ++ its2) hH e (by simp) (r.append r2) ?_, rfl, q⟩
  rw [List.length_append]
  omega

def rPop : V → List V → Hp → VK → Prop := fun x vs H Q => ∃ l xs y, x = .ref l ∧ vs = [] ∧ H l = some (.lst xs) ∧ xs[xs.length - 1]? = some y ∧ Q y (upd H l (.lst xs.dropLast))
theorem mt_pop : MtM X "list.pop" rPop := by
  intro pins s σ H x vs v us Q I rx rv h
  obtain ⟨l, xs, y, rfl, rfl, hH, hy, q⟩ := h
  cases rx
  have hus := rv.zero
  subst hus
  obtain ⟨z, its, n, r, hl, e⟩ := I.lstM hH
  obtain ⟨u, hu, ru⟩ := r.get hy
  have hy' : its.toArray[its.toArray.size - 1]? = some u := by
    show its.toArray[its.length - 1]? = some u
    rw [← Array.getElem?_toList, ← hl]
    exact hu
  refine call_meets F.slot_list_pop ⟨_, e, rfl⟩ F.entry_list_pop (F.args_list_pop_1 _) (MeetsSeq.list_pop_last l its.toArray n u hy' (by rw [List.size_toArray]; omega)) ⟨e, ?_⟩
  refine ⟨y, _, I.lset (its' := its.dropLast) hH e ?_ r.dropLast ?_, ru, q⟩
  · show its.toArray.eraseIdxIfInBounds (its.toArray.size - 1) = its.dropLast.toArray
    rw [List.size_toArray, List.eraseIdxIfInBounds_toArray, erase_last]
  · rw [List.length_dropLast]
    omega

def rPopAt : V → List V → Hp → VK → Prop := fun x vs H Q => ∃ l xs i k y, x = .ref l ∧ vs = [.int i] ∧ H l = some (.lst xs) ∧ -(2 ^ 63) ≤ i ∧ i < 2 ^ 63 ∧ seqIndex? i xs.length = some k ∧ xs[k]? = some y ∧ Q y (upd H l (.lst (xs.eraseIdx k)))
theorem mt_popAt : MtM X "list.pop" rPopAt := by
  intro pins s σ H x vs v us Q I rx rv h
  obtain ⟨l, xs, i, k, y, rfl, rfl, hH, h1, h2, hk, hy, q⟩ := h
  cases rx
  obtain ⟨u, rfl, ru⟩ := rv.one
  obtain ⟨t, rfl⟩ := ru
  obtain ⟨z, its, n, r, hl, e⟩ := I.lstM hH
  obtain ⟨w, hw, rw'⟩ := r.get hy
  refine call_meets F.slot_list_pop ⟨_, e, rfl⟩ F.entry_list_pop (F.args_list_pop_2 _ _)
    (MeetsSeq.list_pop_at l its.toArray n i t k w (fitsIndex_both h1 h2) (by rw [List.size_toArray, ← hl]; exact hk) (by rw [← Array.getElem?_toList]; exact hw) (by rw [List.size_toArray]; omega)) ⟨e, ?_⟩
  refine ⟨y, _, I.lset (its' := its.eraseIdx k) hH e ?_ (r.eraseIdx k) ?_, rw', q⟩
  · show its.toArray.eraseIdxIfInBounds k = (its.eraseIdx k).toArray
    rw [List.eraseIdxIfInBounds_toArray]
  · have := len_erase xs k
    omega

def rReverse : V → List V → Hp → VK → Prop := fun x vs H Q => ∃ l xs, x = .ref l ∧ vs = [] ∧ H l = some (.lst xs) ∧ Q .non (upd H l (.lst xs.reverse))
theorem mt_reverse : MtM X "list.reverse" rReverse := by
  intro pins s σ H x vs v us Q I rx rv h
  obtain ⟨l, xs, rfl, rfl, hH, q⟩ := h
  cases rx
  have hus := rv.zero
  subst hus
  obtain ⟨z, its, n, r, hl, e⟩ := I.lstM hH
  refine call_meets F.slot_list_reverse ⟨_, e, rfl⟩ F.entry_list_reverse (F.args_list_reverse_1 _) (AutoSeq1.list_reverse_list_0 l its.toArray n (by rw [List.size_toArray]; omega)) ⟨e, ?_⟩
  refine ⟨.non, _, I.lset (its' := its.reverse) hH e (by simp) r.reverse ?_, rfl, q⟩
  rw [List.length_reverse]
  omega

def rClear : V → List V → Hp → VK → Prop := fun x vs H Q => ∃ l xs, x = .ref l ∧ vs = [] ∧ H l = some (.lst xs) ∧ Q .non (upd H l (.lst []))
theorem mt_clear : MtM X "list.clear" rClear := by
  intro pins s σ H x vs v us Q I rx rv h
  obtain ⟨l, xs, rfl, rfl, hH, q⟩ := h
  cases rx
  have hus := rv.zero
  subst hus
  obtain ⟨z, its, n, r, hl, e⟩ := I.lstM hH
  refine call_meets F.slot_list_clear ⟨_, e, rfl⟩ F.entry_list_clear (F.args_list_clear_1 _) (AutoSeq1.list_clear_list_0 l its.toArray n (by rw [List.size_toArray]; omega)) ⟨e, ?_⟩
  exact ⟨.non, _, I.lset (its' := []) (ys := []) hH e rfl .nil (Nat.zero_le _), rfl, q⟩

/-! ### list + list, list += list, list * int -/
def rCat : R2 := fun x y H Q => ∃ l b xs zs, x = .ref l ∧ y = .ref b ∧ H l = some (.lst xs) ∧ H b = some (.lst zs) ∧ xs.length + zs.length ≤ sizeLine ∧ ∀ p, H p = none → Q (.ref p) (upd H p (.lst (xs ++ zs)))
theorem op_cat : OpR X (binaryOp .Add) rCat := by
  intro pins s σ H x y v u Q I rx ry h
  obtain ⟨l, b, xs, zs, rfl, rfl, hH, hB, hz, q⟩ := h
  cases rx
  cases ry
  obtain ⟨z, its, n, r, hl, e⟩ := I.lstM hH
  obtain ⟨z2, its2, n2, r2, hl2, e2⟩ := I.lstM hB
  refine PySem.P.add_list e e2 ?_ (by rw [List.size_toArray, List.size_toArray]; omega)
  have ea : its.toArray ++ its2.toArray = (its ++ its2).toArray := by simp
  rw [ea]
  exact ⟨.ref _, _, I.lnew (t' := s.toks) (r.append r2) (by rw [List.length_append]; omega), rfl, q _ I.fresh⟩
/-- a list times an int (a negative one is nothing) -/
def rRep : R2 := fun x y H Q => ∃ l k xs, x = .ref l ∧ y = .int k ∧ H l = some (.lst xs) ∧ -(2 ^ 63) ≤ k ∧ k < 2 ^ 63 ∧ xs.length * k.toNat ≤ sizeLine ∧
  ∀ p, H p = none → Q (.ref p) (upd H p (.lst (List.replicate k.toNat xs).flatten))
theorem len_rep {α : Type} (xs : List α) (k : Nat) : (List.replicate k xs).flatten.length = k * xs.length := by
  induction k with
  | zero => simp
  | succ k ih => rw [List.replicate_succ, List.flatten_cons, List.length_append, ih, Nat.succ_mul, Nat.add_comm]
theorem op_rep : OpR X (binaryOp .Mult) rRep := by
  intro pins s σ H x y v u Q I rx ry h
  obtain ⟨l, k, xs, rfl, rfl, hH, h1, h2, hz, q⟩ := h
  cases rx
  obtain ⟨t, rfl⟩ := ry
  obtain ⟨z, its, n, r, hl, e⟩ := I.lstM hH
  have hlen : its.toArray.size * k.toNat ≤ sizeLine := by rw [List.size_toArray, ← hl]; exact hz
  have hcap : ¬ its.toArray.size * k.toNat > (2 ^ 63 - 1) / 8 := by
    have : (sizeLine : Nat) ≤ (2 ^ 63 - 1) / 8 := by decide
    omega
  have hfit : ¬ (!Builtin.List.listFitsIndex k) = true := by
    rw [fitsIndex_both h1 h2]
    exact Bool.false_ne_true
  have hlong : ¬ Builtin.List.listTooLong (its.toArray.size * k.toNat) = true := by
    rw [notLongL hlen]
    exact Bool.false_ne_true
  have hnew : List.foldl (fun x1 x2 => x1 ++ x2) #[] (List.replicate (if its.toArray.isEmpty = true then 0 else k.toNat) its.toArray) = (List.replicate k.toNat its).flatten.toArray := by
    have f0 : ∀ m : Nat, List.foldl (fun x1 x2 => x1 ++ x2) #[] (List.replicate m its.toArray) = (List.replicate m its).flatten.toArray := fun m => by
      have := foldl_rep its m []
      rw [List.nil_append] at this
      exact this
    rw [f0]
    cases its with
    | nil => simp
    | cons a r' => rw [if_neg (by simp)]
  refine wpAny_binaryOp_repeat_ref (T := "list") (U := "int") (by decide) ⟨_, e, rfl⟩ (fun s' => typeIs_int s' k t) noFill_list_mul F.fills_int_mul F.slot_int_rmul repeat_list F.slot_int_index.lookup
    (call_meets F.slot_int_rmul (typeIs_int s k t) F.entry_int_rmul (F.args_int_rmul_2 _ _) (int___rmul___int_list k t l its.toArray n)
      ⟨e, rfl, ⟨_, e, rfl⟩, call_meets F.slot_list_mul ⟨_, e, rfl⟩ F.entry_list_mul (F.args_list_mul_2 _ _) (AutoListH.list___mul___list_int_3 l its.toArray n k t hfit hcap hlong) ⟨e, ?_⟩⟩)
  rw [hnew]
  exact ⟨.ref _, _, I.lnew (t' := s.toks) (r.rep k.toNat) (by rw [len_rep, Nat.mul_comm]; exact hz), rfl, q _ I.fresh⟩

/-! ### del xs[i] -/
theorem del_list {pins : List (Addr × Obj)} {s : Shared} {σ : St} {H : Hp} {l : Addr} {xs : List V} {i : Int} {t : Tok} {k : Nat} {Q : Unit → Shared → Prop} (I : Inv X pins σ H s) (hH : H l = some (.lst xs))
    (h1 : -(2 ^ 63) ≤ i) (h2 : i < 2 ^ 63) (hk : seqIndex? i xs.length = some k) (h : ∀ s', Inv X pins σ (upd H l (.lst (xs.eraseIdx k))) s' → Q () s') :
    wpAny (model X.prog X.w) X.A (delItem (.ref l) (.int i t)) Q X.xe s := by
  obtain ⟨z, its, n, r, hl, e⟩ := I.lstM hH
  refine PySem.P.delItem_list (k := k) e (fitsIndex_both h1 h2) (by rw [List.size_toArray, ← hl]; exact hk) (h _ ?_) (by rw [List.size_toArray]; omega)
  refine I.lset (its' := its.eraseIdx k) (t' := s.toks) hH e ?_ (r.eraseIdx k) ?_
  · show its.toArray.eraseIdxIfInBounds k = (its.eraseIdx k).toArray
    rw [List.eraseIdxIfInBounds_toArray]
  · have := len_erase xs k
    omega
end

/-! ### xs[a:b] = ys -/
section
variable {prog : Program} {w : World} {A : Around} {E : Value → Shared → Prop} {s : Shared}
theorem splice_eq (its its2 : List Value) (a c : Nat) : its.toArray.extract 0 a ++ its2.toArray ++ its.toArray.extract c its.toArray.size = (its.take a ++ its2 ++ its.drop c).toArray := by
  apply Array.toList_inj.mp
  first
    | (simp
       exact List.take_of_length_le (by simp))
    | simp [List.take_of_length_le]
    | simp
theorem bounds_run {a c n : Nat} (hac : a ≤ c) (hc : c ≤ n) : sliceBounds (some (a : Int)) (some (c : Int)) none n = ((a : Int), (c : Int), 1) := by
  simp only [sliceBounds, Option.getD_none]
  have h1 : ¬ ((a : Int) < 0) := by omega
  have h2 : ¬ ((c : Int) < 0) := by omega
  simp only [h1, h2, if_false, show (1 : Int) > 0 by decide, if_true]
  congr 1
  · omega
  · congr 1; omega
set_option maxRecDepth 100000 in
/-- list.__setitem__ with a slice of step one and another list -/
theorem setItem_slice {l b sl : Addr} {items new : Array Value} {n n2 : Nat} {vl vu : Value} {a c : Nat} {Q : Unit → Shared → Prop}
    (e : s.heap.get? l = some { cls := .type "list", data := .seq items n }) (e2 : s.heap.get? b = some { cls := .type "list", data := .seq new n2 }) (hne : l ≠ b)
    (hs : s.heap.IsSliceOf sl vl vu .none) (pl : IsPart vl (some (a : Int))) (pu : IsPart vu (some (c : Int))) (hac : a ≤ c) (hc : c ≤ items.size)
    (hsz : items.size + new.size ≤ sizeLine) (h : Q () { s with heap := s.heap.update l (Obj.mapSeq fun xs => xs.extract 0 a ++ new ++ xs.extract c xs.size) }) :
    wpAny (model prog w) A (setItem (.ref l) (.ref sl) (.ref b)) Q E s := by
  have hl : s.heap.IsList l items := PySem.IsL.isList e
  have hb : s.heap.IsList b new := PySem.IsL.isList e2
  obtain ⟨os, hos, hcs, hds⟩ := id hs
  have hTs : s.TypeIs (.ref sl) "slice" := ⟨os, hos, hcs⟩
  have hstep : ¬ ((rawPart none == rawInt 0) = true) := Bool.false_ne_true
  have hsame : Builtin.List.listSameRef (.ref l) (.ref b) = false := by
    unfold Builtin.List.listSameRef
    exact beq_eq_false_iff_ne.mpr hne
  have hmax : (max (a : Int) (c : Int)).toNat = c := by omega
  have hz' : ((fun xs : Array Value => xs.extract 0 a ++ new ++ xs.extract c xs.size) items).size ≤ sizeLine + 1 := by
    simp only [Array.size_append, Array.size_extract]
    omega
  unfold setItem
  try with_reducible refine wpAny_holding ?_
  first | refine wpAny_bind (wpAny_pure ?_) | skip
  refine wpAny_bind (wpAny_sequenceKey hl.typeIs (by decide) ?_)
  refine wpAny_bind (wpAny_callSpecial?_slot (name := Str.ofString "__setitem__") hl.typeIs slot_list_setitem
    (wpAny_call_entry slot_list_setitem hl.typeIs entry_list_setitem ?_ (args_list_setitem _ _ _)))
  show wpAny _ _ (Builtin.List.listSubscript? (.ref sl) >>= _) _ _ s
  refine wpAny_bind ?_
  unfold Builtin.List.listSubscript?
  refine wpAny_bind (wpAny_specialOf hTs slice_no_index ?_)
  simp only [Option.isNone_none, if_true]
  refine wpAny_pure ?_
  show wpAny _ _ (typeOf (.ref sl) >>= _) _ _ s
  refine wpAny_bind (wpAny_typeOf hTs ?_)
  first
    | rw [if_neg (by decide)]
    | refine PySem.W.KFB.if_not (by decide) ?_
  rw [listSliceParts_eq]
  refine wpAny_bind (wpAny_bind (wpAny_field hos hds (x := .none) rfl (wpAny_bind (wpAny_listPart .none ?_))))
  rw [if_neg hstep]
  refine wpAny_bind (wpAny_field hos hds (x := vl) rfl (wpAny_bind (wpAny_listPart pl ?_)))
  refine wpAny_bind (wpAny_field hos hds (x := vu) rfl (wpAny_bind (wpAny_listPart pu (wpAny_pure ?_))))
  first
    | simp only [hsame, Bool.false_eq_true, if_false]
    | refine PySem.W.KFB.if_not hsame ?_
    | (dsimp only
       rw [if_neg (by rw [hsame]; exact Bool.false_ne_true)])
  refine wpAny_bind (m := Builtin.List.listAllItems (.ref b) "must assign iterable to extended slice") ?_
  unfold Builtin.List.listAllItems
  refine wpAny_bind (wpAny_typeOf hb.typeIs ?_)
  first
    | refine PySem.W.KFB.if_so (by decide) ?_
    | rw [if_pos (by decide)]
    | simp only [beq_self_eq_true, Bool.true_or, if_true]
  unfold Builtin.List.listItems
  refine wpAny_bind (wpAny_seqItems e2 rfl (wpAny_pure ?_))
  refine wpAny_bind (wpAny_bind (wpAny_seqItems e rfl (wpAny_pure ?_)))
  refine wpAny_bind (wpAny_of_eq ((sliceIndices_raw (some (a : Int)) (some (c : Int)) none items.size (by simp)).trans (congrArg (pure : Int × Int × Int → Sem (Int × Int × Int)) (bounds_run hac hc))) ?_)
  show wpAny _ _ (if ((1 : Int) == 1) = true then _ else _) _ _ s
  rw [if_pos (by decide)]
  refine wpAny_bind (wpAny_rule ?_)
  first
    | simp only [notLongL hsz, Bool.false_eq_true, if_false]
    | refine PySem.W.KFB.if_not (notLongL hsz) ?_
  first | refine wpAny_bind (wpAny_pure ?_) | skip
  show wpAny _ _ (updateSeq l (fun xs => xs.extract 0 ((a : Int)).toNat ++ new ++ xs.extract (max (a : Int) (c : Int)).toNat xs.size) >>= _) _ _ s
  rw [hmax, Int.toNat_natCast]
  refine wpAny_bind (wpAny_updateSeq (hz := Nat.le_trans (Nat.le_add_right _ _) hsz) (_hz' := hz') e rfl ?_)
  refine wpAny_bind (wpAny_letGo ?_)
  first
    | exact wpAny_bind (wpAny_pure (wpAny_pure ⟨.none, rfl, wpAny_pure h⟩))
    | exact wpAny_pure ⟨.none, rfl, wpAny_pure h⟩
end

section
variable {X : Cx}
/-- xs[a:c] = ys of another list, at the value level: sl is the slice object that was just made -/
theorem set_slice {pins : List (Addr × Obj)} {s : Shared} {σ : St} {H : Hp} {l b sl : Addr} {xs ys : List V} {a c : Int} {vl vu : Value} {Q : Unit → Shared → Prop} (I : Inv X pins σ H s)
    (hH : H l = some (.lst xs)) (hB : H b = some (.lst ys)) (hne : l ≠ b) (hs : s.heap.IsSliceOf sl vl vu .none) (ra : RelV (.int a) vl) (rc : RelV (.int c) vu) (h0 : 0 ≤ a) (hac : a ≤ c) (hc : c ≤ xs.length)
    (hz : xs.length + ys.length ≤ sizeLine) (h : ∀ s', Inv X pins σ (upd H l (.lst (xs.take a.toNat ++ ys ++ xs.drop c.toNat))) s' → Q () s') :
    wpAny (model X.prog X.w) X.A (setItem (.ref l) (.ref sl) (.ref b)) Q X.xe s := by
  obtain ⟨ta, rfl⟩ := ra
  obtain ⟨tc, rfl⟩ := rc
  obtain ⟨z, its, n, r, hl, e⟩ := I.lstM hH
  obtain ⟨z2, its2, n2, r2, hl2, e2⟩ := I.lstM hB
  obtain ⟨a', rfl⟩ := Int.eq_ofNat_of_zero_le h0
  obtain ⟨c', rfl⟩ := Int.eq_ofNat_of_zero_le (Int.le_trans h0 hac)
  simp only [Int.toNat_natCast] at h
  refine setItem_slice (a := a') (c := c') e e2 hne hs (.int _ _) (.int _ _) (by omega) (by rw [List.size_toArray]; omega) (by rw [List.size_toArray, List.size_toArray]; omega) (h _ ?_)
  refine I.lset (its' := its.take a' ++ its2 ++ its.drop c') (t' := s.toks) hH e ?_ (Vals.append (Vals.append (r.take _) r2) (r.drop _)) ?_
  · exact splice_eq its its2 a' c'
  · rw [List.length_append, List.length_append, List.length_take, List.length_drop]
    omega
end
end L2

namespace Att
open PySem PySem.W PySem.Calls PyProof.Rows

/-! ### the script -/
theorem ints_of_wellAll {P : Params} {h : Heap} : ∀ (ns : List Int) (vs : List Value), WellAll P h vs (ns.map WData.int) → IntsAre vs ns := by
  intro ns
  induction ns with
  | nil =>
    intro vs w
    rw [List.map_nil] at w
    cases w
    exact .nil
  | cons n ns ih =>
    intro vs w
    rw [List.map_cons] at w
    cases w with
    | cons a b =>
      cases a
      exact .cons _ _ (ih _ b)

theorem script_of {l : OpenLaw} {n : Nat} (hn : l.most = some n) {P : Params} {h : Heap} {args : List WData} {vals : List Value}
    (hpre : l.row.toRowW.claim.pre args = true) (hwl : WellAll P h vals args) :
    ∃ a vs ns, vals = [Value.ref a] ∧ args = [WData.list (ns.map WData.int)] ∧ h.get? a = some { cls := .type "list", data := .seq vs.toArray } ∧ IntsAre vs ns ∧ ns.length ≤ n := by
  have hsh : WShape.hasAll [] args [.list .int] = true := (pre_splitW hpre).1
  have hc : l.pre.holds [] { args := args } = true := (pre_splitW hpre).2
  obtain ⟨d, r, rfl, h1, h2⟩ := hasAllW_cons hsh
  obtain rfl := hasAllW_nil h2
  obtain ⟨xs, rfl, h3⟩ := hasW_list h1
  obtain ⟨ns, rfl⟩ := items_int h3
  have hlen : ns.length ≤ n := by
    unfold OpenLaw.pre at hc
    have h4 : (WTm.not (.lt (.lit (.int (n : Int))) (.len (.arg 0)))).holds [] { args := [.list (ns.map .int)] } = true := by
      have h4 := (holds_andW hc).1
      rw [hn] at h4
      exact h4
    have h5 := condW_of h4 (w_not (w_lt w_lit (w_len_list (w_arg rfl))))
    rw [List.length_map] at h5
    refine Nat.le_of_not_lt fun q => ?_
    have q' : (n : Int) < ((ns.length : Nat) : Int) := by omega
    first
      | (rw [decide_eq_true q'] at h5; exact absurd h5 (by decide))
      | (simp at h5; omega)
  cases hwl with
  | cons w1 w2 =>
    cases w2
    cases w1 with
    | list ho hall => exact ⟨_, _, ns, rfl, rfl, ho, ints_of_wellAll ns _ hall, hlen⟩

theorem post_true (l : OpenLaw) (args : List WData) : l.row.toRowW.claim.post args (.bool true) args = true :=
  postW_of (r := l.row.toRowW) (X := (true == true))
    (show WShape.has [] (.bool true) .bool = true by first | rfl | decide | simp [WShape.has, WShape.arms, WShape.armsAll])
    (show (WTm.eq .res (.lit (.bool true))).value [] { args := args, res := some (.bool true), after := args } = some (.bool (true == true)) from w_eq_bool (w_res rfl) w_lit) rfl

/-! ### the attachment: holds_open's last premise (the goal 'hc' behind k_head) from a wpAny of the law's body -/
theorem attach {l : OpenLaw} {n : Nat} {q : Program} {loose : List Str} {XP : (Str → Option Value) → Heap → Prop} {YP : World → Heap → Prop} {d : DefRec} {x : Str}
    (hn : l.most = some n) (hdf : d.params.defaults = [])
    (hbind : ∀ pm cd doc v : Value, bindArgs (docDef d.name d.params d.body d.scope pm cd doc) ⟨[v], []⟩ = pure [(x, v)])
    (hx : d.scope.names.lookup x = some .local ∨ d.scope.names.lookup x = some .cell)
    (hk : d.scope.kind = .function) (hco : d.scope.isCoroutine = false) (hgen : d.scope.isGenerator = false)
    (body : ∀ (w : World) (s₀ s₁ s : Shared) (mg mb : Str → Option Value) (fa : Addr) (o : Obj) (pm cd doc : Value) (a : Addr) (vs : List Value) (ns : List Int),
      Ground q loose [] XP w s₀ mg mb s₁.heap → YP w s₁.heap →
      s₁.heap.get? fa = some o → o.data = .func (docDef d.name d.params d.body d.scope pm cd doc) → s₁.heap.CodeRec cd d.name → mg d.name = some (.ref fa) →
      s₁.heap.get? a = some { cls := .type "list", data := .seq vs.toArray } → IntsAre vs ns → ns.length ≤ n →
      s.gens = #[] → s.os = s₁.os →
      Fr s₁.heap s₁.heap.objs.size s.heap (bindL (envOfC d.name d.scope s₁.heap.objs.size fa cd).kindOf [(x, .ref a)] fun _ => none) →
      Cl s₁.heap.objs.size (cellsFrom (s₁.heap.objs.size + 1) d.scope.names []) s.heap (bindC (envOfC d.name d.scope s₁.heap.objs.size fa cd).kindOf [(x, .ref a)] fun _ => none) →
      wpAny (model l.prog w) (callerA.deeper (envOfC d.name d.scope s₁.heap.objs.size fa cd)) (execs d.body (envOfC d.name d.scope s₁.heap.objs.size fa cd))
        (fun f s' => f = .ret (.bool true) ∧ OldK s₁.heap s'.heap ∧ s'.os = s₁.os ∧ AllBare s'.gens) (fun _ _ => False) s) :
    WalkO q loose XP YP l.row.toRowW d [] (fun f vs => PySem.call f vs) := by
  intro w s₀ s₁ mg mb G Y fa o pm cd doc dV kV ho hd hcd hD hmg hg args vals as hpre hlay hrd hwl hlo
  obtain rfl : dV = .none := Dflts.none hD hdf
  obtain rfl : kV = .none := Dflts.noKw hD
  obtain ⟨a, vs, ns, rfl, rfl, hobj, hints, hlen⟩ := script_of hn hpre hwl
  refine enter_call ?_
  refine call_cells_ret (o := o) (by rw [depth_caller]; decide) ho (fd_plain hd) G.T.nolimit hcd (hbind pm cd doc (.ref a)) (fun y hy => ?_) (fun h₁ tk F X => ?_) hco hgen hk
  · obtain rfl : y = (x, Value.ref a) := List.mem_singleton.mp hy
    rcases hx with e | e
    · exact .inl e
    · exact .inr ⟨e, cellsFrom_some _ _ _ (.inl e)⟩
  · refine wpAny_mono (body w s₀ s₁ { s₁ with heap := h₁, toks := tk } mg mb fa o pm cd doc a vs ns G Y ho (fd_plain hd) hcd hmg hobj hints hlen hg rfl F X) (fun f s' hq => ?_) (fun _ _ hq => hq)
    obtain ⟨rfl, h2, h3, h4⟩ := hq
    exact ⟨.inl ⟨.bool true, .bool true, [], rfl, fun _ => rfl, .bool true, post_true l _, fun _ => ⟨List.Pairwise.nil, fun _ hm => (nomatch hm)⟩⟩, h2, h3, h4⟩

/-- the same from a codeAny of the CALL (for a layer whose function contracts speak of calls) -/
theorem attach_call {l : OpenLaw} {n : Nat} {q : Program} {loose : List Str} {XP : (Str → Option Value) → Heap → Prop} {YP : World → Heap → Prop} {d : DefRec}
    (hn : l.most = some n) (hdf : d.params.defaults = [])
    (call : ∀ (w : World) (s₀ s₁ : Shared) (mg mb : Str → Option Value) (fa : Addr) (o : Obj) (pm cd doc : Value) (a : Addr) (vs : List Value) (ns : List Int),
      Ground q loose [] XP w s₀ mg mb s₁.heap → YP w s₁.heap →
      s₁.heap.get? fa = some o → o.data = .func (docDef d.name d.params d.body d.scope pm cd doc) → s₁.heap.CodeRec cd d.name → mg d.name = some (.ref fa) →
      s₁.heap.get? a = some { cls := .type "list", data := .seq vs.toArray } → IntsAre vs ns → ns.length ≤ n → s₁.gens = #[] →
      codeAny (model l.prog w) callerA (.call (.ref fa) ⟨[.ref a], []⟩) (fun r s' => r = .ok (.ret (.bool true)) ∧ OldK s₁.heap s'.heap ∧ s'.os = s₁.os ∧ AllBare s'.gens) s₁) :
    WalkO q loose XP YP l.row.toRowW d [] (fun f vs => PySem.call f vs) := by
  intro w s₀ s₁ mg mb G Y fa o pm cd doc dV kV ho hd hcd hD hmg hg args vals as hpre hlay hrd hwl hlo
  obtain rfl : dV = .none := Dflts.none hD hdf
  obtain rfl : kV = .none := Dflts.noKw hD
  obtain ⟨a, vs, ns, rfl, rfl, hobj, hints, hlen⟩ := script_of hn hpre hwl
  refine enter_call (codeAny_mono (call w s₀ s₁ mg mb fa o pm cd doc a vs ns G Y ho (fd_plain hd) hcd hmg hobj hints hlen hg) fun r s' hq => ?_)
  obtain ⟨rfl, h2, h3, h4⟩ := hq
  exact ⟨.inl ⟨.bool true, .bool true, [], rfl, fun _ => rfl, .bool true, post_true l _, fun _ => ⟨List.Pairwise.nil, fun _ hm => (nomatch hm)⟩⟩, h2, h3, h4⟩

/-- the same where the top left finished generators (o_head chose holds_openN): nothing may have changed at all and no generator may be left -/
theorem attachN {l : OpenLaw} {n : Nat} {q : Program} {loose : List Str} {XP : (Str → Option Value) → Heap → Prop} {YP : World → Heap → Prop} {d : DefRec} {x : Str}
    (hn : l.most = some n) (hdf : d.params.defaults = [])
    (hbind : ∀ pm cd doc v : Value, bindArgs (docDef d.name d.params d.body d.scope pm cd doc) ⟨[v], []⟩ = pure [(x, v)])
    (hx : d.scope.names.lookup x = some .local ∨ d.scope.names.lookup x = some .cell)
    (hk : d.scope.kind = .function) (hco : d.scope.isCoroutine = false) (hgen : d.scope.isGenerator = false)
    (body : ∀ (w : World) (s₀ s₁ s : Shared) (mg mb : Str → Option Value) (fa : Addr) (o : Obj) (pm cd doc : Value) (a : Addr) (vs : List Value) (ns : List Int),
      Ground q loose [] XP w s₀ mg mb s₁.heap → YP w s₁.heap →
      s₁.heap.get? fa = some o → o.data = .func (docDef d.name d.params d.body d.scope pm cd doc) → s₁.heap.CodeRec cd d.name → mg d.name = some (.ref fa) →
      s₁.heap.get? a = some { cls := .type "list", data := .seq vs.toArray } → IntsAre vs ns → ns.length ≤ n →
      s.gens = #[] → s.os = s₁.os →
      Fr s₁.heap s₁.heap.objs.size s.heap (bindL (envOfC d.name d.scope s₁.heap.objs.size fa cd).kindOf [(x, .ref a)] fun _ => none) →
      Cl s₁.heap.objs.size (cellsFrom (s₁.heap.objs.size + 1) d.scope.names []) s.heap (bindC (envOfC d.name d.scope s₁.heap.objs.size fa cd).kindOf [(x, .ref a)] fun _ => none) →
      wpAny (model l.prog w) (callerA.deeper (envOfC d.name d.scope s₁.heap.objs.size fa cd)) (execs d.body (envOfC d.name d.scope s₁.heap.objs.size fa cd))
        (fun f s' => f = .ret (.bool true) ∧ (∀ b o, s₁.heap.get? b = some o → s'.heap.get? b = some o) ∧ s'.os = s₁.os ∧ s'.gens = #[]) (fun _ _ => False) s) :
    WalkN q loose XP YP l.row.toRowW d [] (fun f vs => PySem.call f vs) := by
  intro w s₀ s₁ mg mb G Y fa o pm cd doc dV kV ho hd hcd hD hmg hg args vals as hpre hlay hrd hwl hlo
  obtain rfl : dV = .none := Dflts.none hD hdf
  obtain rfl : kV = .none := Dflts.noKw hD
  obtain ⟨a, vs, ns, rfl, rfl, hobj, hints, hlen⟩ := script_of hn hpre hwl
  refine enter_callW ?_
  refine call_cells_ret (o := o) (by rw [depth_caller]; decide) ho (fd_plain hd) G.T.nolimit hcd (hbind pm cd doc (.ref a)) (fun y hy => ?_) (fun h₁ tk F X => ?_) hco hgen hk
  · obtain rfl : y = (x, Value.ref a) := List.mem_singleton.mp hy
    rcases hx with e | e
    · exact .inl e
    · exact .inr ⟨e, cellsFrom_some _ _ _ (.inl e)⟩
  · refine wpAny_mono (body w s₀ s₁ { s₁ with heap := h₁, toks := tk } mg mb fa o pm cd doc a vs ns G Y ho (fd_plain hd) hcd hmg hobj hints hlen hg rfl F X) (fun f s' hq => ?_) (fun _ _ hq => hq)
    obtain ⟨rfl, h2, h3, h4⟩ := hq
    exact ⟨.inl ⟨.bool true, .bool true, [], rfl, fun _ => rfl, .bool true, post_true l _, fun _ => ⟨List.Pairwise.nil, fun _ hm => (nomatch hm)⟩⟩, h2, h3, h4⟩

/-! ### rules over ANY heap (no ledger) from facts about the written part K: the library's own take a ledger (News) for what they write -/
section
variable {prog : Program} {w : World} {A : Around} {E : Value → Shared → Prop} {s : Shared} {K : Frag}

/-- a def of the module, or a method (qual 'C.m'), entered: the frame is the next address; cells behind it -/
theorem call_fn {R : Result → Shared → Prop} {name qual : Str} {params : Arguments} {body : List Stmt} {scope : Scope} {dV kV doc pm cdv ct oc : Value} {an od : Option Addr} {osl : Array (Option Value)} {f : Addr} {args : Args} {binds : List (Str × Value)}
    (X : K.In s.heap) (hlim : s.heap.NoLimit) (ho : K.lookup f = some ⟨oc, od, .func (fnOf name qual params body scope dV kV doc pm an cdv ct), osl⟩) (hcd : codeIn K cdv qual = true) (hroom : A.depth < recursionLimit)
    (hbind : BindsTo s (fnOf name qual params body scope dV kV doc pm an cdv ct) args binds)
    (hkind : (binds.all fun y => scope.names.lookup y.1 == some .local || scope.names.lookup y.1 == some .cell) = true)
    (h : ∀ s₁, InCallC s s.heap.objs.size (bindL (envOfC qual scope s.heap.objs.size f cdv).kindOf binds fun _ => none) (cellsFrom (s.heap.objs.size + 1) scope.names [])
        (bindC (envOfC qual scope s.heap.objs.size f cdv).kindOf binds fun _ => none) s₁ →
      wpAny (model prog w) (A.deeper (envOfC qual scope s.heap.objs.size f cdv)) (execs body (envOfC qual scope s.heap.objs.size f cdv))
        (fun fl s' => R (.ok (.ret (match fl with | .ret v => v | _ => .none))) s')
        (fun e s' => wpAny (model prog w) (A.deeper (envOfC qual scope s.heap.objs.size f cdv)) (leaving (envOfC qual scope s.heap.objs.size f cdv) e) (fun _ s'' => R (.error e) s'') (fun e' s'' => R (.error e') s'') s') s₁)
    (hco : scope.isCoroutine = false) (hgen : scope.isGenerator = false) (hk : scope.kind = .function) : codeAny (model prog w) A (.call (.ref f) args) R s := by
  refine codeAny_call_function hroom (X _ _ ho) rfl hco hgen rfl (codeRec_of X hcd) (hbind _ _ _ _ ?_)
  refine wpAny_newFunctionEnv_cells hk (kindsX hkind _) fun env he s₁ x => ?_
  subst he
  exact ⟨hlim.keeps x.toInCall.keep, codeAny_func (h s₁ x)⟩

/-- C(..): dict at size, instance at size + 1, then __init__ -/
theorem make_obj {R : Result → Shared → Prop} {C fI : Addr} {rest : List Value} {kw : List (Str × Value)}
    (X : K.In s.heap) (hm : makesIn K C = true) (hi : findIn K (.ref C) "__init__" = some (some (.ref fI))) (hf : isFn K (.ref fI) = true)
    (h : codeAny (model prog w) (A.under (.builtin "type.__call__" ⟨.ref C :: rest, kw⟩)) (.call (.ref fI) ⟨.ref (s.heap.objs.size + 1) :: rest, kw⟩) (InitBack (s.heap.objs.size + 1) R)
      { s with heap := (s.heap.push emptyDict).push (instObj C s.heap.objs.size) }) : codeAny (model prog w) A (.call (.ref C) ⟨rest, kw⟩) R s := by
  obtain ⟨hh, g, d, t, os⟩ := s
  exact make_core (makes_of X hm) (looks_findIn X hi) (fun self => bind_fn X self (beq_iff_eq.mp hf)) (.inl rfl) h

/-- x.name where the instance's dict holds the name and the class does not -/
theorem get_field {x C : Addr} {ox : Obj} {es : List DictEntry} {n : Nat} {name : Str} {expr : Bool} {v : Value} {Q : Value → Shared → Prop}
    (X : K.In s.heap) (I : PySem.W.InstAt s.heap x ox C (some (dictOf es n))) (hg : plainGet K C name = true) (hh : hasDictIn K C = true) (ha : findIn K (.ref C) name = some none)
    (hl : getL name es = some (some v)) (hv : handedIn v = true) (h : Q v { s with toks := s.toks + 1 }) : wpAny (model prog w) A (getAttr (.ref x) name expr) Q E s :=
  get_value X I (plainGet_of hg).1 (findObj_own hh ha rfl hl) hv h

/-- x.m(..): the method found in the class -/
theorem get_method {x C f : Addr} {ox : Obj} {es : List DictEntry} {n : Nat} {name : Str} {pl : Sem Bool} {Q : Value × List Value → Shared → Prop}
    (X : K.In s.heap) (I : PySem.W.InstAt s.heap x ox C (some (dictOf es n))) (hg : plainGet K C name = true) (hf : findIn K (.ref C) name = some (some (.ref f))) (ht : isFn K (.ref f) = true)
    (hl : getL name es = some none) (h : Q (.ref f, [.ref x]) s) : wpAny (model prog w) A (getMethod (.ref x) name pl) Q E s :=
  method_fn X I (plainGet_of hg).1 (plainGet_of hg).2 hf (beq_iff_eq.mp ht) (by show (lookIn name (dictOf es n)).map _ = _; rw [lookIn_dict, hl]; rfl) h

/-! the whole heap as the ledger: makes every rule that writes through a ledger a rule over any heap -/
def noObjs (h : Heap) : Heap := { h with objs := #[] }
theorem noObjs_get (h : Heap) (b : Addr) : (noObjs h).get? b = none := by
  cases e : (noObjs h).get? b with
  | none => rfl
  | some o => exact absurd (Heap.lt_size e) (Nat.not_lt_zero _)
def ledger (h : Heap) (L d : Addr) : List (Addr × Obj) := (List.range h.objs.size).filterMap fun a => if a = L ∨ a = d then none else (h.get? a).map fun o => (a, o)
theorem mem_ledger {h : Heap} {L d a : Addr} {o : Obj} : (a, o) ∈ ledger h L d ↔ a ≠ L ∧ a ≠ d ∧ h.get? a = some o := by
  unfold ledger
  rw [List.mem_filterMap]
  constructor
  · rintro ⟨b, _, e⟩
    split at e
    · cases e
    · rename_i hb
      obtain ⟨o', ho, e'⟩ := Option.map_eq_some_iff.mp e
      cases e'
      exact ⟨fun q => hb (.inl q), fun q => hb (.inr q), ho⟩
  · rintro ⟨n1, n2, ho⟩
    refine ⟨a, List.mem_range.mpr (Heap.lt_size ho), ?_⟩
    rw [if_neg (show ¬ (a = L ∨ a = d) from fun q => q.elim n1 n2), ho] <;> rfl
theorem news_ledger {h : Heap} {L d : Addr} {od : Obj} (hne : d ≠ L) (ho : h.get? d = some od) : News (noObjs h) L h ([] ++ (d, od) :: ledger h L d) := by
  rintro ⟨a, o⟩ hp
  rcases List.mem_cons.mp hp with e | hp
  · cases e
    exact ⟨ho, hne, noObjs_get _ _⟩
  · obtain ⟨n1, n2, e⟩ := mem_ledger.mp hp
    exact ⟨e, n1, noObjs_get _ _⟩
theorem fr_all {h : Heap} {L : Addr} {m : Str → Option Value} (n : h.Ns L m) : Fr (noObjs h) L h m :=
  ⟨n, fun b o e => (by rw [noObjs_get] at e; cases e), Nat.zero_le _⟩
/-- Upd of the head entry (for append_K, setItem_K ..) -/
theorem upd_ledger {h : Heap} {L d : Addr} {o o' : Obj} : Upd d o o' ((d, o) :: ledger h L d) ((d, o') :: ledger h L d) :=
  .head fun ⟨_, _⟩ hp => (mem_ledger.mp hp).2.1

/-- x.name = v over any heap: L is any namespace of the heap (the frame's, say): its map stays, its object is not told; all else but the dict stays -/
theorem set_field {x C dx L : Addr} {ox : Obj} {m : Str → Option Value} {es es' : List DictEntry} {n n' : Nat} {name : Str} {v : Value} {Q : Unit → Shared → Prop}
    (X : K.In s.heap) (I : PySem.W.InstAt s.heap x ox C (some (dictOf es n))) (hd : ox.dict = some dx) (hL : s.heap.Ns L m) (hne : dx ≠ L)
    (hs : findIn K (.ref C) "__setattr__" = some (some (.builtin "object.__setattr__"))) (hp : plainOver K C = true) (ht : takerIn K C name = some none) (hh : hasDictIn K C = true) (hl : (getL name es).isSome = true)
    (e : (putL name (PyData.keyHash w.params name) (.str name (s.toks + 1)) v es, putN name es n) = (es', n')) (hz : es'.length ≤ 1000)
    (h : ∀ h' : Heap, h'.Ns L m → h'.get? dx = some (dictOf es' n') → (∀ b o, b ≠ dx → b ≠ L → s.heap.get? b = some o → h'.get? b = some o) → Q () { s with heap := h', toks := s.toks + 2 }) :
    wpAny (model prog w) A (setAttr (.ref x) name v) Q E s := by
  obtain ⟨e1, e2⟩ := Prod.mk.inj e
  have hdx : s.heap.get? dx = some (dictOf es n) := by
    have := I.dict
    rw [hd] at this
    exact this
  refine set_plain X I hs (osa_dict (s := { s with toks := s.toks + 1 }) (h₀ := noObjs s.heap) (L := L) (m := m) (od := dictOf es n) (od' := dictOf es' n') (es := es') (n := n') (pre := []) (post := ledger s.heap L dx)
    (fr_all hL) (news_ledger hne hdx) X I hd hp ht hh hl (fun _ q => nomatch q) (fun ⟨_, _⟩ q => (mem_ledger.mp q).2.1) (by rw [putName_dict, e1, e2]) rfl hz fun h' F' N' => ?_)
  exact h h' F'.ns (N'.get (List.Mem.head _)) fun b o n1 n2 ho => N'.get (List.Mem.tail _ (mem_ledger.mpr ⟨n2, n1, ho⟩))
end
end Att

namespace L2
open PySem PySem.Spec PyProof.Rows

theorem vals_ints : ∀ {vs : List Value} {ns : List Int}, IntsAre vs ns → Vals (ns.map V.int) vs
  | _, _, .nil => .nil
  | _, _, .cons n t h => .cons ⟨t, rfl⟩ (vals_ints h)

/-- nothing is tracked but the script, known to the object (or it is an object of the module) -/
def Only (H : Hp) : Prop := ∀ b, H b = none ∨ ∃ o xs, H b = some (.frz o (.lst xs))

/-- THE HEAD: the law's promise, at the heap behind the top. F, the promise of the law's def, may use that base is part of the heap (so K.In base, base.Ns mainGlobals mg stand in Mod) -/
theorem law_call {P : Program} {w : World} {K : PySem.W.Frag} {mg mb : Str → Option Value} {CX : CXT} {k : Nat} {fa a : Addr} {fd : FuncData} {x : Str} {sp : Sp} {s₁ : Shared} {vs : List Value} {ns : List Int}
    (KX : K.In s₁.heap) (hns : s₁.heap.Ns mainGlobals mg) (hb : s₁.heap.Ns builtinsNs mb) (hbb : ∀ x : Str, x ≠ "__name__" → mb x = bootBuiltins x) (hlim : s₁.heap.NoLimit) (hg : s₁.gens = #[])
    (ha : s₁.heap.get? a = some { cls := .type "list", data := .seq vs.toArray }) (hi : IntsAre vs ns) (hl : ns.length ≤ sizeLine) (hr : Room k callerA)
    (F : ∀ base : Heap, K.In base → base.Ns mainGlobals mg → FnOk P w K mg base CX k fa fd [x] sp) (hbind : ∀ (s : Shared) (u : Value), BindsTo s fd ⟨[u], []⟩ [(x, u)])
    (hsp : ∀ H : Hp, Only H → SqL K H a (ns.map V.int) → sp [.ref a] H (fun v _ => v = .bl true) fun _ _ _ => False)
    (hCX : ∀ H e s', CX [] H s₁ (fun _ _ _ => False) e s' → False) :
    codeAny (model P w) callerA (.call (.ref fa) ⟨[.ref a], []⟩) (fun r s' => r = .ok (.ret (.bool true)) ∧ OldK s₁.heap s'.heap ∧ s'.os = s₁.os ∧ AllBare s'.gens) s₁ := by
  have rv := vals_ints hi
  have lenV := hi.length
  -- from an abstract heap in which nothing but the script may be tracked
  have core : ∀ H : Hp, Only H → SqL K H a (ns.map V.int) → HOk P w H s₁.heap → (∀ b, H b ≠ none → b = a) → (H a ≠ none → K.lookup a = none) →
      codeAny (model P w) callerA (.call (.ref fa) ⟨[.ref a], []⟩) (fun r s' => r = .ok (.ret (.bool true)) ∧ OldK s₁.heap s'.heap ∧ s'.os = s₁.os ∧ AllBare s'.gens) s₁ := by
    intro H hO hS hok hA hK
    have base_of : ∀ {b : Addr} {o : Obj}, s₁.heap.get? b = some o → H b = none → (hidT s₁.heap H).get? b = some o := fun e n => hidT_get e n
    have noA : ∀ {b : Addr} {o : Obj} {es : Array DictEntry} {ep : Nat}, s₁.heap.get? b = some o → o.data = .dict es ep → H b = none := fun {b o es ep} e d => by
      cases q : H b with
      | none => rfl
      | some u =>
        have e' : b = a := hA b (by rw [q]; simp)
        subst e'
        rw [ha] at e; cases e
        have d' : Data.seq vs.toArray _ = Data.dict es ep := d
        cases d'
    have nsK : ∀ {b : Addr} {m : Str → Option Value}, s₁.heap.Ns b m → (hidT s₁.heap H).Ns b m := fun {b m} ⟨o, es, ep, e, d, r⟩ => ⟨o, es, ep, base_of e (noA e d), d, r⟩
    have hKb : K.In (hidT s₁.heap H) := fun b o e => base_of (KX b o e) (by
      cases q : H b with
      | none => rfl
      | some u =>
        have e' : b = a := hA b (by rw [q]; simp)
        subst e'
        rw [hK (by rw [q]; simp)] at e; cases e)
    have hM : Mod K mg (hidT s₁.heap H) := ⟨hKb, nsK hns, ⟨mb, nsK hb, hbb⟩, let ⟨mc, h1, h2⟩ := hlim; ⟨mc, nsK h1, h2⟩⟩
    have e0 : Env0 P w K mg (hidT s₁.heap H) callerA [] s₁ H := ⟨rfl, hM, fun b o e => of_hidT e, Nat.le_of_eq (hidT_size _ _), trivial, fun b hb => absurd (show b ∈ ([] : List Addr) from hb) (by simp), hok, .of_eq hg⟩
    refine codeAny_mono ((F _ hKb (nsK hns)).run callerA [] s₁ H ⟨[.ref a], []⟩ [.ref a] [.ref a] _ _ hr e0 (hbind s₁ (.ref a)) (.cons rfl .nil) (hsp H hO hS)) fun r s' h => ?_
    cases r with
    | error e => exact (hCX H e s' h).elim
    | ok fl =>
      cases fl with
      | next => exact False.elim h
      | brk => exact False.elim h
      | cont => exact False.elim h
      | ret u =>
        obtain ⟨v, H', os, bare, un, hok', r', q⟩ := h
        have q' : v = .bl true := q
        subst q'
        obtain rfl : u = Value.bool true := r'
        refine ⟨rfl, OldK.of_keep fun b o e => ?_, os, bare⟩
        cases q : H b with
        | none => exact un.keep b o e q (by intro z; exact absurd (show b ∈ ([] : List Addr) from z) (by simp)) (by simp)
        | some u =>
          rcases hO b with z | ⟨ob, xs, z⟩
          · rw [q] at z; cases z
          · have z2 := un.frzs b ob _ z
            obtain ⟨e1, _⟩ := hok b _ z
            obtain ⟨e2, _⟩ := hok' b _ z2
            rw [e] at e1; cases e1
            exact e2
  cases hk : K.lookup a with
  | some o =>
    -- the script is one of the module's own objects
    have e := KX a o hk
    rw [ha] at e
    cases e
    refine core (fun _ => none) (fun _ => .inl rfl) (.inr ⟨_, vs.toArray, _, hk, rfl, rfl, rfl, by rw [List.size_toArray, lenV]; exact hl, by simpa using rv⟩) (fun b u z => by have z' : (none : Option HO) = some u := z; cases z') (fun b z => absurd rfl z) fun z => absurd rfl z
  | none =>
    refine core (fun b => if b = a then some (.frz { cls := .type "list", data := .seq vs.toArray } (.lst (ns.map V.int))) else none) (fun b => ?_) (.inl (.inr ⟨{ cls := .type "list", data := .seq vs.toArray }, if_pos rfl⟩)) (fun b u z => ?_) (fun b z => ?_) fun _ => hk
    · by_cases hb : b = a
      · exact .inr ⟨_, _, if_pos hb⟩
      · exact .inl (if_neg hb)
    · by_cases hb : b = a
      · have z' := (if_pos hb).symm.trans z
        cases z'
        subst hb
        exact ⟨ha, by rw [List.length_map]; exact hl, vs, _, rv, ha⟩
      · have z' := (if_neg hb).symm.trans z
        cases z'
    · by_cases hb : b = a
      · exact hb
      · exact absurd (if_neg hb) z
end L2

namespace L2
open PySem PySem.Spec PyProof.Rows

abbrev KOf {K : PySem.W.Frag} {h : Heap} (_ : K.In h) : PySem.W.Frag := K

/-- the goal that k_head leaves (case hc), from the law's promise. F gives the function object fd (K's own) once, then the promise over every base -/
theorem walk_of {l : PySem.W.OpenLaw} {n k : Nat} {q : Program} {loose : List Str} {XP : (Str → Option Value) → Heap → Prop} {YP : World → Heap → Prop} {d : DefRec} {K : Params → PySem.W.Frag} {CX : World → CXT} {sp : World → Sp} {x : Str}
    (hn : l.most = some n) (hn2 : n ≤ sizeLine) (hdf : d.params.defaults = []) (hr : Room k callerA)
    (hY : ∀ (w : World) (h : Heap), YP w h → (K w.params).In h)
    (F : ∀ (w : World) (mg : Str → Option Value) (fa : Addr) (h : Heap), (K w.params).In h → h.Ns mainGlobals mg → mg d.name = some (.ref fa) →
      ∃ fd : FuncData, (∀ (s : Shared) (u : Value), BindsTo s fd ⟨[u], []⟩ [(x, u)]) ∧
        ∀ base : Heap, (K w.params).In base → base.Ns mainGlobals mg → FnOk l.prog w (K w.params) mg base (CX w) k fa fd [x] (sp w))
    (hsp : ∀ (w : World) (H : Hp) (a : Addr) (ns : List Int), ns.length ≤ n → Only H → SqL (K w.params) H a (ns.map V.int) → sp w [.ref a] H (fun v _ => v = .bl true) fun _ _ _ => False)
    (hCX : ∀ (w : World) (H : Hp) (s : Shared) (e : Value) (s' : Shared), CX w [] H s (fun _ _ _ => False) e s' → False) :
    PySem.W.WalkO q loose XP YP l.row.toRowW d [] (fun f vs => PySem.call f vs) := by
  refine Att.attach_call hn hdf fun w s₀ s₁ mg mb fa o pm cd doc a vs ns G Y ho hd hcd hmg hobj hints hlen hg => ?_
  have KX := hY w _ Y
  obtain ⟨fd, hb, hF⟩ := F w mg fa _ KX G.T.g hmg
  exact law_call KX G.T.g G.T.b G.T.builtins G.T.nolimit hg hobj hints (Nat.le_trans hlen hn2) hr hF hb (fun H hO hS => hsp w H a ns hlen hO hS) fun H e s' => hCX w H s₁ e s'
/-- the same where the promise hangs on the written part alone: (sp := My.sp_law), no hole under a binder -/
theorem walk_ofK {l : PySem.W.OpenLaw} {n k : Nat} {q : Program} {loose : List Str} {XP : (Str → Option Value) → Heap → Prop} {YP : World → Heap → Prop} {d : DefRec} {K : Params → PySem.W.Frag} {CX : CXT} {sp : PySem.W.Frag → Sp} {x : Str}
    (hn : l.most = some n) (hn2 : n ≤ sizeLine) (hdf : d.params.defaults = []) (hr : Room k callerA)
    (hY : ∀ (w : World) (h : Heap), YP w h → (K w.params).In h)
    (F : ∀ (w : World) (mg : Str → Option Value) (fa : Addr) (h : Heap), (K w.params).In h → h.Ns mainGlobals mg → mg d.name = some (.ref fa) →
      ∃ fd : FuncData, (∀ (s : Shared) (u : Value), BindsTo s fd ⟨[u], []⟩ [(x, u)]) ∧
        ∀ base : Heap, (K w.params).In base → base.Ns mainGlobals mg → FnOk l.prog w (K w.params) mg base CX k fa fd [x] (sp (K w.params)))
    (hsp : ∀ (K : PySem.W.Frag) (H : Hp) (a : Addr) (ns : List Int), ns.length ≤ n → Only H → SqL K H a (ns.map V.int) → sp K [.ref a] H (fun v _ => v = .bl true) fun _ _ _ => False)
    (hCX : ∀ (H : Hp) (s : Shared) (e : Value) (s' : Shared), CX [] H s (fun _ _ _ => False) e s' → False) :
    PySem.W.WalkO q loose XP YP l.row.toRowW d [] (fun f vs => PySem.call f vs) :=
  walk_of (K := K) (CX := fun _ => CX) (sp := fun w => sp (K w.params)) hn hn2 hdf hr hY F (fun w H a ns h1 h2 h3 => hsp (K w.params) H a ns h1 h2 h3) fun _ H s e s' => hCX H s e s'
end L2

/- THE LAST THEOREM (shape; LID, My.* are yours):
   My.Adr: a structure of the addresses that your layer names (classes, functions); My.Txt K t: a structure (Prop) of the equations over K;
   My.txt_mk : {K} {implicit addresses ..} (e1 : nsIn K mainGlobals "law" = some (some (.ref f))) (e2 : K.lookup f = some ⟨oc, od, .func (fnOf "law" "law" params body scope dV kV doc pm an cdv ct), sl⟩) (e3 : codeIn K cdv "law" = true) .. : ∃ t, My.Txt K t

set_option maxRecDepth 100000 in
set_option maxHeartbeats 0 in
theorem PySem.Challenge.cw_LID_holds : PySem.Challenge.rw_LID.Holds := by
  w_on; o_law; k_head; (case hw => w_witness2)
  k_fill
  refine L2.walk_of (l := PySem.Challenge.rw_LID) (n := 63) (k := 40) (x := "script") (CX := fun w => ..) (sp := fun _ => My.sp_law) rfl (by decide) rfl ⟨rfl, by decide, by decide⟩ (fun w h Y => PySem.W.kIn_of Y) ?F ?S ?C
  case F =>
    intro w mg fa h KX G hmg
    have T : ∃ t, My.Txt (L2.KOf KX) t := by
      dsimp only [L2.KOf]                          -- K must stand as «<heap const> w.params» for k_is
      refine' My.txt_mk ?e1 ?e2 ?e3 ..
      (case e1 => PySem.W.k_is)                    -- in the order: a name -> its address -> its object -> its parts
      (case e2 => PySem.W.k_is)
      ..
    obtain ⟨t, T⟩ := T
    have e0 := hmg.symm.trans (PySem.W.mg_of KX G T.law)
    cases e0                                       -- fa is the law's own address
    exact ⟨_, fun s u => .of_eq rfl, fun base kb nb => My.law_fn T kb nb⟩     -- if «.of_eq rfl» comes too early: refine' ⟨_, ?b, fun base kb nb => My.law_fn T kb nb⟩; exact fun s u => .of_eq rfl
  case S => exact fun w H a ns hl hO hS => ..
  case C => exact ..
(the tactic k_is has no namespace: write k_is) -/

/-! SHORT WORDS over the layer: a def of the text, its body, what a loop and a test want. -/
namespace L2
open PySem PySem.Spec PyProof.Rows

/-! ### the text by places -/
/-- the j-th statement of a class's body -/
def inClass (s : Stmt) (j : Nat) : Stmt := match s with
  | .ClassDef _ _ _ body _ _ _ _ _ _ _ => body.getD j (.Pass ⟨0, 0, 0, 0⟩)
  | _ => .Pass ⟨0, 0, 0, 0⟩
def defArgs (s : Stmt) : Arguments := match s with
  | .FunctionDef _ a _ _ _ _ _ _ _ _ => a
  | _ => { posonlyargs := [], args := [], vararg := none, kwonlyargs := [], kw_defaults := [], kwarg := none, defaults := [] }
def defBody (s : Stmt) : List Stmt := match s with
  | .FunctionDef _ _ b _ _ _ _ _ _ _ => b
  | _ => []
def defScope (s : Stmt) : Scope := match s with
  | .FunctionDef _ _ _ _ _ _ sc _ _ _ => sc
  | _ => { kind := .function, names := [], isGenerator := false, isCoroutine := false }

/-! ### no exception leaves a def -/
abbrev CX0 : CXT := fun _ _ _ _ _ _ => False
abbrev E0 : XK := fun _ _ _ => False
theorem pass0 {X : Cx} : Passes CX0 X E0 := fun _ _ _ _ _ _ _ h => h.elim

/-! ### a def (or method) of the text as it stands behind the top -/
structure Fun (K : PySem.W.Frag) (x qual : Str) (st : Stmt) (f : Addr) (fd : FuncData) : Prop where
  ex : ∃ (oc : Value) (od : Option Addr) (kV doc pm : Value) (an : Option Addr) (cdv ct : Value) (osl : Array (Option Value)),
    fd = PySem.W.fnOf x qual (defArgs st) (defBody st) (defScope st) .none kV doc pm an cdv ct ∧ K.lookup f = some ⟨oc, od, .func fd, osl⟩ ∧ PySem.W.codeIn K cdv qual = true
  kp : PySem.W.keepIn K (.ref f) = true
section
variable {P : Program} {w : World} {K : PySem.W.Frag} {mg : Str → Option Value} {base : Heap}
/-- THE RULE for a def: its body as a term of rules, and the reading of that term -/
theorem Fun.ok {x qual : Str} {st : Stmt} {f : Addr} {fd : FuncData} {N ps : List Str} {k : Nat} {sp : Sp} (F : Fun K x qual st f fd) (S : FnScope N ps (defScope st)) (len : ∀ vs H Q E, sp vs H Q E → vs.length = ps.length)
    (hbody : ∀ (cdv : Value) (A : Around) (outer : List Env) (s : Shared) (H : Hp) (vs : List V) (Q : VK) (E : XK), Room k (A.deeper (envOfC qual (defScope st) s.heap.objs.size f cdv)) → sp vs H Q E →
      ∃ t, PSs (cxOf CX0 P w K mg base N qual (defScope st) f cdv A outer s H E).nox (defBody st) t ∧ t { nx := fun _ H' => Q .non H', rt := Q } (start N vs) H) : FnOk P w K mg base CX0 (k + 1) f fd ps sp := by
  obtain ⟨oc, od, kV, doc, pm, an, cdv, ct, osl, rfl, lk, hcd⟩ := F.ex
  refine fn_of lk hcd S len fun A outer s H vs Q E hr hsp => ?_
  obtain ⟨t, h, q⟩ := hbody cdv A outer s H vs Q E hr hsp
  exact ⟨t, h.nox, q⟩
/-- how its arguments bind (no defaults): h is «fun _ _ _ _ _ _ us hl => match us, hl with | [_, _], _ => rfl», one _ a parameter -/
theorem Fun.binds {x qual : Str} {st : Stmt} {f : Addr} {fd : FuncData} {ps : List Str} (F : Fun K x qual st f fd)
    (h : ∀ (kV doc pm : Value) (an : Option Addr) (cdv ct : Value) (us : List Value), us.length = ps.length → bindArgs (PySem.W.fnOf x qual (defArgs st) (defBody st) (defScope st) .none kV doc pm an cdv ct) ⟨us, []⟩ = pure (ps.zip us)) : Binds K fd ps [] := by
  obtain ⟨oc, od, kV, doc, pm, an, cdv, ct, osl, rfl, lk, hcd⟩ := F.ex
  exact .all (h kV doc pm an cdv ct)
theorem fun_mk {x qual : Str} {st : Stmt} {f : Addr} {oc : Value} {od an : Option Addr} {osl : Array (Option Value)} {kV doc pm cdv ct : Value} (l : K.lookup f = some ⟨oc, od, .func (PySem.W.fnOf x qual (defArgs st) (defBody st) (defScope st) .none kV doc pm an cdv ct), osl⟩)
    (c : PySem.W.codeIn K cdv qual = true) (k : PySem.W.keepIn K (.ref f) = true) : Fun K x qual st f (PySem.W.fnOf x qual (defArgs st) (defBody st) (defScope st) .none kV doc pm an cdv ct) := ⟨⟨oc, od, kV, doc, pm, an, cdv, ct, osl, rfl, l, c⟩, k⟩
end
theorem hu_of {A : Around} {k : Nat} (hr : Room k A) : A.units + 1 < cLine := Nat.lt_of_le_of_lt (Nat.add_le_add_left (by decide : 1 ≤ 64) _) hr.units
theorem small1000 {n : Nat} (h : n ≤ 1000) : n < sizeLine := Nat.lt_of_le_of_lt h (by decide)

/-! ### expressions in short: the name that stands in the i-th slot -/
section
variable {X : Cx}
theorem pv (i : Nat) {x : Str} {pos : Pos} (hN : X.N[i]? = some x := by rfl) (hv : Vis X.env.scope x := by first | exact Or.inl rfl | exact Or.inr (Or.inl rfl) | exact Or.inr (Or.inr rfl)) (hd : (x == ("__debug__" : Str)) = false := by decide)
    (hcd : (x == ("__classdict__" : Str)) = false := by decide) : PE X (.Name x pos) (tVar i) := pe_var hN hv hd hcd
end

/-! ### tests -/
theorem iteF {A B : Prop} (h : B) : if false = true then A else B := by
  rw [if_neg Bool.false_ne_true]
  exact h
theorem iteT {A B : Prop} (h : A) : if true = true then A else B := by
  rw [if_pos rfl]
  exact h
theorem ite2 {c A B : Prop} [Decidable c] (h1 : c → A) (h2 : ¬ c → B) : if c then A else B := by
  by_cases h : c
  · rw [if_pos h]
    exact h1 h
  · rw [if_neg h]
    exact h2 h
theorem iteNS {c A B : Prop} [Decidable c] (hc : c) (h : B) : if (!decide c) = true then A else B := by
  rw [decide_eq_true hc]
  exact iteF h

/-! ### heaps -/
/-- all that was tracked is as it was -/
def Same (H H' : Hp) : Prop := ∀ b o, H b = some o → H' b = some o
theorem Same.refl (H : Hp) : Same H H := fun _ _ h => h
theorem Same.trans {H H1 H2 : Hp} (a : Same H H1) (b : Same H1 H2) : Same H H2 := fun c o h => b c o (a c o h)
theorem Same.free {H H' : Hp} (e : Same H H') {l : Addr} (h : H' l = Option.none) : H l = Option.none := by
  cases q : H l with
  | none => rfl
  | some o =>
    rw [e l o q] at h
    cases h
theorem Same.seq {K : PySem.W.Frag} {H H' : Hp} {a : Addr} {xs : List V} (e : Same H H') (h : SqL K H a xs) : SqL K H' a xs := by
  rcases h with (h | ⟨o, h⟩) | h
  · exact .inl (.inl (e _ _ h))
  · exact .inl (.inr ⟨o, e _ _ h⟩)
  · exact .inr h

end L2

set_option maxHeartbeats 4000000
namespace L2
open PySem PySem.Spec PyProof.Rows

/-! ### a comprehension's block -/
def clOf (env : Env) : List (Str × NameKind) → List (Str × Addr) → List (Str × Addr)
  | [], acc => acc
  | (n, k) :: r, acc => clOf env r (if k == NameKind.free then (match env.cells.lookup n with | some c => (n, c) :: acc | none => acc) else acc)

theorem clo_fold {env : Env} {f : Str × NameKind → List (Str × Addr) → Sem (ForInStep (List (Str × Addr)))}
    (hf : ∀ n k acc, f (n, k) acc = if (k == NameKind.free) = true then (do let c ← cellOf env n; pure (ForInStep.yield ((n, c) :: acc))) else pure (ForInStep.yield acc)) :
    ∀ (l : List (Str × NameKind)) (acc : List (Str × Addr)), (∀ y ∈ l, y.2 = .free → ∃ c, env.cells.lookup y.1 = some c) → forIn l acc f = (pure (clOf env l acc) : Sem _)
  | [], acc, _ => rfl
  | (n, k) :: r, acc, h => by
    rw [List.forIn_cons, hf]
    have ih := clo_fold hf r
    by_cases hk : (k == NameKind.free) = true
    · have hk' : k = .free := by simpa using hk
      obtain ⟨c, hc⟩ := h (n, k) List.mem_cons_self hk'
      have e : cellOf env n = (pure c : Sem _) := by unfold cellOf; rw [hc]
      rw [if_pos hk, e, pure_bind, pure_bind]
      show forIn r ((n, c) :: acc) f = _
      rw [ih _ fun y hy => h y (List.mem_cons_of_mem _ hy)]
      unfold clOf
      rw [if_pos hk]
      have hc2 : List.lookup n env.cells = some c := hc
      simp only [hc2]
      cases r <;> rfl
    · rw [if_neg hk, pure_bind]
      show forIn r acc f = _
      rw [ih _ fun y hy => h y (List.mem_cons_of_mem _ hy)]
      conv => rhs; unfold clOf
      rw [if_neg hk]
theorem clo_eq {scope : Scope} {env : Env} (h : ∀ y ∈ scope.names, y.2 = .free → ∃ c, env.cells.lookup y.1 = some c) : closureFor scope env = (pure (clOf env scope.names []) : Sem _) := by
  have e : closureFor scope env = (forIn scope.names ([] : List (Str × Addr)) (fun x cs => match x with
      | (name, kind) => if (kind == NameKind.free) = true then (do let c ← cellOf env name; pure (ForInStep.yield ((name, c) :: cs))) else pure (ForInStep.yield cs)) >>= fun cs => pure cs) := rfl
  rw [e, clo_fold (env := env) (fun n k acc => rfl) scope.names [] h]
  rfl
theorem cl_sub {env : Env} : ∀ {l : List (Str × NameKind)} {acc : List (Str × Addr)}, (∀ x c, acc.lookup x = some c → env.cells.lookup x = some c) → ∀ x c, (clOf env l acc).lookup x = some c → env.cells.lookup x = some c
  | [], acc, h, x, c, e => h x c e
  | (n, k) :: r, acc, h, x, c, e => by
    unfold clOf at e
    refine cl_sub (l := r) (fun y d hd => ?_) x c e
    by_cases hk : (k == NameKind.free) = true
    · rw [if_pos hk] at hd
      cases hc : env.cells.lookup n with
      | none => rw [hc] at hd; exact h y d hd
      | some c' =>
        rw [hc] at hd
        simp only [List.lookup_cons] at hd
        by_cases hy : (y == n) = true
        · rw [hy] at hd
          have e1 : y = n := by simpa using hy
          cases hd
          rw [e1]; exact hc
        · have hy' : (y == n) = false := by simpa using hy
          rw [hy'] at hd
          exact h y d hd
    · rw [if_neg hk] at hd; exact h y d hd
theorem cl_mono {env : Env} : ∀ {l : List (Str × NameKind)} {acc : List (Str × Addr)} {x : Str}, (acc.lookup x).isSome = true → ((clOf env l acc).lookup x).isSome = true
  | [], acc, x, h => h
  | (n, k) :: r, acc, x, h => by
    unfold clOf
    refine cl_mono (l := r) ?_
    by_cases hk : (k == NameKind.free) = true
    · rw [if_pos hk]
      cases hc : env.cells.lookup n with
      | none => exact h
      | some c' =>
        simp only [List.lookup_cons]
        by_cases hy : (x == n) = true
        · rw [hy]; rfl
        · have hy' : (x == n) = false := by simpa using hy
          rw [hy']; exact h
    · rw [if_neg hk]; exact h
theorem cl_has {env : Env} : ∀ {l : List (Str × NameKind)} {acc : List (Str × Addr)} {x : Str} {c : Addr}, (x, NameKind.free) ∈ l → env.cells.lookup x = some c → ((clOf env l acc).lookup x).isSome = true
  | (n, k) :: r, acc, x, c, hm, hc => by
    unfold clOf
    rcases List.mem_cons.mp hm with e | hm
    · cases e
      rw [if_pos (by rfl)]
      rw [hc]
      refine cl_mono ?_
      simp
    · exact cl_has hm hc

/-- the names of a block as its scope has them behind the relabelling -/
theorem relabel_of {env : Env} : ∀ {names : List (Str × NameKind)} {x : Str} {k : NameKind}, (∀ y ∈ names, y.2 ≠ .cell) →
    (names.map fun (n, k) => if (k == NameKind.free && env.scope.kind == .function && env.kindOf n == some .cell) then (n, NameKind.cell) else (n, k)).lookup x = some k → (k = .cell ∨ k = .free) → (x, NameKind.free) ∈ names
  | [], _, _, _, h, _ => by simp at h
  | (n, j) :: r, x, k, hn, h, hk => by
    rw [List.map_cons] at h
    cases hx : x == n with
    | true =>
      have hxe : x = n := by simpa using hx
      subst hxe
      by_cases hc : (j == NameKind.free && env.scope.kind == .function && env.kindOf x == some .cell) = true
      · have hj : j = .free := by
          simp only [Bool.and_eq_true] at hc
          simpa using hc.1.1
        subst hj
        exact List.mem_cons_self
      · rw [show (match ((x, j) : Str × NameKind) with | (n, k) => if (k == NameKind.free && env.scope.kind == .function && env.kindOf n == some .cell) = true then (n, NameKind.cell) else (n, k)) = (x, j) from if_neg hc] at h
        simp only [List.lookup_cons, beq_self_eq_true] at h
        cases h
        rcases hk with e | e
        · exact absurd e (hn (x, j) List.mem_cons_self)
        · rw [e]; exact List.mem_cons_self
    | false =>
      refine List.mem_cons_of_mem _ (relabel_of (env := env) (fun y hy => hn y (List.mem_cons_of_mem _ hy)) ?_ hk)
      by_cases hc : (j == NameKind.free && env.scope.kind == .function && env.kindOf n == some .cell) = true
      · rw [show (match ((n, j) : Str × NameKind) with | (n, k) => if (k == NameKind.free && env.scope.kind == .function && env.kindOf n == some .cell) = true then (n, NameKind.cell) else (n, k)) = (n, NameKind.cell) from if_pos hc] at h
        simp only [List.lookup_cons, hx] at h
        exact h
      · rw [show (match ((n, j) : Str × NameKind) with | (n, k) => if (k == NameKind.free && env.scope.kind == .function && env.kindOf n == some .cell) = true then (n, NameKind.cell) else (n, k)) = (n, j) from if_neg hc] at h
        simp only [List.lookup_cons, hx] at h
        exact h

theorem relabel_free {env : Env} : ∀ {names : List (Str × NameKind)} {x : Str}, names.lookup x = some .free →
    (names.map fun (n, k) => if (k == NameKind.free && env.scope.kind == .function && env.kindOf n == some .cell) then (n, NameKind.cell) else (n, k)).lookup x = some .cell ∨
    (names.map fun (n, k) => if (k == NameKind.free && env.scope.kind == .function && env.kindOf n == some .cell) then (n, NameKind.cell) else (n, k)).lookup x = some .free
  | [], _, h => by simp at h
  | (n, j) :: r, x, h => by
    rw [List.map_cons]
    cases hx : x == n with
    | true =>
      simp only [List.lookup_cons, hx] at h
      cases h
      by_cases hc : (NameKind.free == NameKind.free && env.scope.kind == .function && env.kindOf n == some .cell) = true
      · refine .inl ?_
        rw [show (match ((n, NameKind.free) : Str × NameKind) with | (n, k) => if (k == NameKind.free && env.scope.kind == .function && env.kindOf n == some .cell) = true then (n, NameKind.cell) else (n, k)) = (n, NameKind.cell) from if_pos hc]
        simp only [List.lookup_cons, hx]
      · refine .inr ?_
        rw [show (match ((n, NameKind.free) : Str × NameKind) with | (n, k) => if (k == NameKind.free && env.scope.kind == .function && env.kindOf n == some .cell) = true then (n, NameKind.cell) else (n, k)) = (n, NameKind.free) from if_neg hc]
        simp only [List.lookup_cons, hx]
    | false =>
      simp only [List.lookup_cons, hx] at h
      have ih := relabel_free (env := env) h
      by_cases hc : (j == NameKind.free && env.scope.kind == .function && env.kindOf n == some .cell) = true
      · rw [show (match ((n, j) : Str × NameKind) with | (n, k) => if (k == NameKind.free && env.scope.kind == .function && env.kindOf n == some .cell) = true then (n, NameKind.cell) else (n, k)) = (n, NameKind.cell) from if_pos hc]
        simp only [List.lookup_cons, hx]
        exact ih
      · rw [show (match ((n, j) : Str × NameKind) with | (n, k) => if (k == NameKind.free && env.scope.kind == .function && env.kindOf n == some .cell) = true then (n, NameKind.cell) else (n, k)) = (n, j) from if_neg hc]
        simp only [List.lookup_cons, hx]
        exact ih
theorem lookup_mem {x : Str} {k : NameKind} : ∀ {l : List (Str × NameKind)}, l.lookup x = some k → (x, k) ∈ l
  | [], h => by simp at h
  | (n, j) :: r, h => by
    cases hx : x == n with
    | true =>
      simp only [List.lookup_cons, hx] at h
      cases h
      have e : x = n := by simpa using hx
      rw [e]; exact List.mem_cons_self
    | false =>
      simp only [List.lookup_cons, hx] at h
      exact List.mem_cons_of_mem _ (lookup_mem h)
/-- the block's context -/
def blk (X : Cx) (N : List Str) (scope : Scope) (C : Addr) (s₀ : Shared) (H₀ : Hp) (ex : List Addr) (xe : Value → Shared → Prop) : Cx :=
  { X with N := N, s₀ := s₀, H₀ := H₀, env := compEnvC scope (clOf X.env scope.names []) C X.env, outer := X.stack, stack := X.stack, ex := ex, fn := fun _ => false, pn := [], xe := xe }
/-- what of the text a block must have: N its names, those at caps.. taken from the outer names -/
structure Blk (X : Cx) (N : List Str) (caps : List (Option Nat)) (scope : Scope) : Prop where
  kind : scope.kind = .function
  nocell : ∀ y ∈ scope.names, y.2 ≠ .cell
  names : ∀ y ∈ scope.names, y.2 = .local → scope.names.lookup y.1 = some .local
  free : ∀ y ∈ scope.names, y.2 = .free → X.env.kindOf y.1 = some .cell ∨ X.env.kindOf y.1 = some .free
  len : caps.length = N.length
  cap : ∀ (i j : Nat) (x : Str), caps[i]? = some (some j) → N[i]? = some x → X.N[j]? = some x ∧ Vis X.env.scope x ∧ scope.names.lookup x = some .free
/-- the block's names' values at its start -/
def capSt (caps : List (Option Nat)) (σ : St) : St := caps.map fun c => match c with | some j => (σ[j]?).join | none => none

section
variable {X : Cx} {pins : List (Addr × Obj)} {σ : St} {H : Hp} {s : Shared}
theorem blk_ok {N : List Str} {caps : List (Option Nat)} {scope : Scope} {fp : List Addr} {xe : Value → Shared → Prop} (B : Blk X N caps scope) (I : Inv X pins σ H s) (hlt : ∀ b ∈ fp, b < s.heap.objs.size) (hf : ∀ b ∈ fp, FpOk X pins H b) :
    (blk X N scope s.heap.objs.size s H fp xe).Ok where
  mod := I.ok.mod
  kind := B.kind
  glob := I.ok.glob
  blt := I.ok.blt
  above := Nat.le_refl _
  inj := fun x y c hx hy => I.ok.inj x y c (cl_sub (fun _ _ e => by simp at e) x c hx) (cl_sub (fun _ _ e => by simp at e) y c hy)
  has := fun x hk => by
    have hm : (x, NameKind.free) ∈ scope.names := hk.elim (fun e => relabel_of B.nocell e (.inl rfl)) fun e => relabel_of B.nocell e (.inr rfl)
    obtain ⟨c, hc⟩ := I.ok.has x (B.free _ hm rfl)
    exact Option.isSome_iff_exists.mp (cl_has hm hc)
  cab := fun x c h _ => by cases h
  hd := I.ok.hd
  frames := I.ok.frames
  stk := .inl rfl
  exf := fun b hb => ⟨Nat.ne_of_lt (hlt b hb), fun x c hc => (hf b hb).2.2.2.2.1 x c (cl_sub (fun _ _ e => by simp at e) x c hc)⟩
  bs := I.bs
  bsz := Nat.le_trans I.ok.bsz I.sz
  noex := fun b o e hb => by
    rcases (hf b hb).2.2.2.1 with h | h
    · exact I.ok.noex b o e h
    · exact absurd (Heap.lt_size (I.ok.bs b o e).1) (Nat.not_lt.mpr h)
  exfs := fun b hb hs => by
    rcases List.mem_cons.mp (I.stkSub b hs) with e | e
    · exact (hf b hb).2.1 e
    · exact (hf b hb).2.2.1 e
  funs := I.stack
  frf := I.stkFree

theorem blk_inv {N : List Str} {caps : List (Option Nat)} {scope : Scope} {fp : List Addr} {xe : Value → Shared → Prop} {h₁ : Heap} {t' : Nat} (B : Blk X N caps scope) (I : Inv X pins σ H s) (hlt : ∀ b ∈ fp, b < s.heap.objs.size) (hf : ∀ b ∈ fp, FpOk X pins H b)
    {m : Str → Option Value} (hn : h₁.Ns s.heap.objs.size m) (hk : ∀ b o, s.heap.get? b = some o → h₁.get? b = some o) :
    Inv (blk X N scope s.heap.objs.size s H fp xe) [] (capSt caps σ) H { s with heap := h₁, toks := t' } where
  ok := blk_ok B I hlt hf
  os := rfl
  bare := I.bare
  base := Un.kept hk
  loc := by
    refine ⟨m, hn, fun i x v hN hσ hv => ?_⟩
    unfold capSt at hσ
    rw [List.getElem?_map] at hσ
    cases hc : caps[i]? with
    | none => rw [hc] at hσ; cases hσ
    | some oj =>
      rw [hc] at hσ
      cases oj with
      | none => cases hσ
      | some j =>
        have hσ' : (σ[j]?).join = some v := Option.some.inj hσ
        have hj : σ[j]? = some (some v) := by
          cases q : σ[j]? with
          | none => rw [q] at hσ'; cases hσ'
          | some o => rw [q] at hσ'; have : o = some v := hσ'; rw [this]
        obtain ⟨hNj, hVis, hfr⟩ := B.cap i j x hc hN
        obtain ⟨m', _, hl⟩ := I.loc
        obtain ⟨u, ru, lk⟩ := hl j x v hNj hj hVis
        have hm := lookup_mem hfr
        have hkX := B.free _ hm rfl
        refine ⟨u, ru, .inr ⟨relabel_free hfr, ?_⟩⟩
        rcases lk with ⟨e, _⟩ | ⟨_, c, hc1, hc2⟩
        · rcases hkX with e' | e'
          · rw [e] at e'; cases e'
          · rw [e] at e'; cases e'
        · obtain ⟨c', hc'⟩ := Option.isSome_iff_exists.mp (cl_has (env := X.env) (acc := []) hm hc1)
          have h2 := cl_sub (fun _ _ e => by simp at e) x c' hc'
          rw [hc1] at h2
          cases h2
          exact ⟨c, hc', hc2.keeps hk⟩
  cell := fun x c hc => by
    obtain ⟨v, hv⟩ := I.cell x c (cl_sub (fun _ _ e => by simp at e) x c hc)
    exact ⟨v, hv.keeps hk⟩
  free := I.hok.fresh (Nat.le_refl _)
  freeC := fun x c hc => I.freeC x c (cl_sub (fun _ _ e => by simp at e) x c hc)
  pin := fun p hp => by cases hp
  hok := I.hok.kept hk
  len := by unfold capSt; rw [List.length_map]; exact B.len
end
end L2

namespace L2
open PySem PySem.Spec PyProof.Rows
section
variable {prog : Program} {w : World} {A : Around} {R : Result → Shared → Prop} {s : Shared}
abbrev testsOf (ifs : List Expr) (env : Env) : Sem Bool := forIn ifs true fun c r => if r = true then do let ok ← isTrue c env (eval c env); pure (ForInStep.yield ok) else pure (ForInStep.yield r)
theorem comp_loop {elt target iter : Expr} {ifs : List Expr} {scope : Scope} {pos : Pos} {it acc : Value} {env : Env} (I : Nat → Shared → Prop)
    (turn : ∀ n s, I n s → wpAny (model prog w) A (pyNext it) (fun r s₁ => match r with
      | none => R (.ok .next) s₁
      | some v => wpAny (model prog w) A (letOwnedTupleGo target it v) (fun _ s₁' => wpAny (model prog w) A (assign target env v) (fun _ s₂ =>
          wpAny (model prog w) A (testsOf ifs env) (fun ok s₃ =>
            if ok = true then wpAny (model prog w) A (eval elt env) (fun x s₄ =>
              wpAny (model prog w) A (call (.builtin "list.append") [acc, x]) (fun _ s₅ => ∃ m, m < n ∧ I m s₅) (notedBy (model prog w) A env fun e s' => R (.error e) s') s₄) (notedBy (model prog w) A env fun e s' => R (.error e) s') s₃
            else ∃ m, m < n ∧ I m s₃) (notedBy (model prog w) A env fun e s' => R (.error e) s') s₂) (notedBy (model prog w) A env fun e s' => R (.error e) s') s₁') (notedBy (model prog w) A env fun e s' => R (.error e) s') s₁) (notedBy (model prog w) A env fun e s' => R (.error e) s') s)
    (n : Nat) (h : I n s) : codeAny (model prog w) A (.compLoop (.ListComp elt [⟨target, iter, ifs, 0⟩] scope pos) 0 it acc env) R s := by
  refine codeAny_loop rfl I (fun n s hI => ?_) n h
  show wpAny _ A ((compTurn (.ListComp elt [⟨target, iter, ifs, 0⟩] scope pos) 0 it acc env).onRaise (fun x => do noteFrame x env; theTreesLotGoes x)) _ _ s
  refine wpAny_noted ?_
  rw [compTurn_list]
  refine wpAny_bind (wpAny_standAt (wpAny_bind (wpAny_mono (turn n s hI) (fun r s₁ h₁ => ?_) fun _ _ h' => h')))
  cases r with
  | none => exact wpAny_pure h₁
  | some v =>
    refine wpAny_bind (wpAny_mono h₁ (fun _ s₁' h₁' => ?_) fun _ _ h' => h')
    refine wpAny_bind (wpAny_mono h₁' (fun _ s₂ h₂ => wpAny_bind (wpAny_mono h₂ (fun ok s₃ h₃ => ?_) fun _ _ h' => h')) fun _ _ h' => h')
    cases ok with
    | false => exact wpAny_pure ⟨rfl, h₃⟩
    | true =>
      exact wpAny_bind (wpAny_bind (wpAny_mono h₃ (fun x s₄ h₄ => wpAny_bind (wpAny_mono h₄ (fun _ s₅ h₅ => wpAny_pure (wpAny_pure ⟨rfl, h₅⟩)) fun _ _ h' => h')) fun _ _ h' => h'))
end

/-! ### the tests of a clause -/
def PF (X : Cx) (ifs : List Expr) (t : TT) : Prop :=
  ∀ (pins : List (Addr × Obj)) (s : Shared) (σ : St) (H : Hp) (Q : Bool → Hp → Prop), Inv X pins σ H s → t σ H Q → wpAny (model X.prog X.w) X.A (testsOf ifs X.env) (TP X pins σ Q) X.xe s
def tYes : TT := fun _ H Q => Q true H
theorem pf_nil {X : Cx} : PF X [] tYes := fun pins s σ H Q I h => wpAny_tests_nil ⟨H, I, h⟩
theorem pf_one {X : Cx} {c : Expr} {t : TT} (h : PT X c t) : PF X [c] t := fun pins s σ H Q I q => wpAny_tests_one (h pins s σ H Q I q)

/-- what a comprehension reads as: l is the new list -/
def tCompR (g : TG) (tt : TT) (te : TE) (σ0 : St) (J : It) (H1 : Hp) (Q : V → Hp → Prop) : Prop :=
  ∀ l, H1 l = none → ∃ W : Nat → Nat → St → Hp → Prop, (∃ m, W 0 m σ0 (upd H1 l (.lst []))) ∧ ∀ i m σ H, W i m σ H →
    (J.stop i H ∧ Q (.ref l) H) ∨ (J.go i H ∧ ∀ x H', J.yld i H x H' → g x σ H' fun σ2 H2 => tt σ2 H2 fun c H3 =>
      if c = true then te σ2 H3 fun v H4 => ∃ xs, H4 l = some (.lst xs) ∧ xs.length < sizeLine ∧ ∃ m', m' < m ∧ W (i + 1) m' σ2 (upd H4 l (.lst (xs ++ [v])))
      else ∃ m', m' < m ∧ W (i + 1) m' σ2 H3)
def tComp (caps : List (Option Nat)) (wi : TI) (g : TG) (tt : TT) (te : TE) : TE := fun σ H Q => wi σ H fun J H1 => tCompR g tt te (capSt caps σ) J H1 Q

/-- the block's own frame, behind the block: nobody's -/
structure Loose (X : Cx) (pins : List (Addr × Obj)) (H : Hp) (C : Addr) : Prop where
  un : H C = none
  loc : C ≠ X.env.locals
  ab : X.s₀.heap.objs.size ≤ C
  cel : ∀ x c, X.env.cells.lookup x = some c → c ≠ C
  pin : ∀ p ∈ X.pn ++ pins, p.1 ≠ C
section
variable {X : Cx} {pins : List (Addr × Obj)} {σ : St} {H : Hp} {s : Shared}
/-- what the block's exceptions are to reach -/
def blkX (X : Cx) (N : List Str) (scope : Scope) (use : Option (Value → Sem Unit)) (Q : Value → Shared → Prop) (acc : Value) (C : Addr) : Value → Shared → Prop :=
  notedBy (model X.prog X.w) X.A (compEnvC scope (clOf X.env scope.names []) C X.env) fun e s' => compPost (model X.prog X.w) X.A X.xe use Q acc C (.error e) s'

theorem comp_core {tg elt iter : Expr} {ifs : List Expr} {scope : Scope} {pos pos' : Pos} {N : List Str} {caps : List (Option Nat)} {wi : TI} {g : TG} {tt : TT} {te : TE} {use : Option (Value → Sem Unit)} {Q : Value → Shared → Prop} {Qv : V → Hp → Prop}
    {xe : Value → Shared → Prop} (hc : X.calm = true) (B : Blk X N caps scope) (hi : PI X tg iter wi)
    (hg : ∀ C s₀ H₀ ex, PG (blk X N scope C s₀ H₀ ex xe) tg g) (ht : ∀ C s₀ H₀ ex, PF (blk X N scope C s₀ H₀ ex xe) ifs tt) (he : ∀ C s₀ H₀ ex, PE (blk X N scope C s₀ H₀ ex xe) elt te)
    (I : Inv X pins σ H s) (h : wi σ H fun J H1 => tCompR g tt te (capSt caps σ) J H1 Qv)
    (fin : ∀ l C H' s5, Inv X pins σ H' s5 → (∃ m, s5.heap.Ns C m) → Loose X pins H' C → Qv (.ref l) H' → compPost (model X.prog X.w) X.A X.xe use Q (.ref l) C (.ok .next) s5)
    (hx : ∀ acc C e s', xe e s' → blkX X N scope use Q acc C e s')
    (hs : ∀ x, foldedSetIterable iter X.env x = pure x := by intro _; rfl) :
    wpAny (model X.prog X.w) X.A (comprehension (.ListComp elt [⟨tg, iter, ifs, 0⟩] scope pos) scope X.env pos' (newList []) false (eval iter X.env) use) Q X.xe s := by
  have hclos : closureFor scope X.env = (pure (clOf X.env scope.names []) : Sem _) := clo_eq fun y hy hf => I.ok.has y.1 (B.free y hy hf)
  refine wpAny_comprehension_free rfl hs hclos B.kind B.names (thn (hi pins s σ H _ I h) fun v s1 h1 => thn h1 fun itv s2 h2 => ?_)
  obtain ⟨it, fp, tn, J, H2, e, I2, T, st2, f2, hJ⟩ := h2
  subst e
  -- the list
  have I3 : Inv X pins σ (upd H2 s2.heap.objs.size (.lst [])) { s2 with heap := s2.heap.push { cls := .type "list", data := .seq ([] : List Value).toArray }, toks := s2.toks } := I2.lnew (ys := []) (its := []) .nil (Nat.zero_le _)
  have hfr2 : H2 s2.heap.objs.size = none := I2.fresh
  obtain ⟨W, ⟨m0, w0⟩, turn⟩ := hJ s2.heap.objs.size hfr2
  refine wpAny_newList ?_
  generalize hs3 : ({ s2 with heap := s2.heap.push { cls := .type "list", data := .seq ([] : List Value).toArray } } : Shared) = s3
  have es3 : ({ s2 with heap := s2.heap.push { cls := .type "list", data := .seq ([] : List Value).toArray }, toks := s2.toks } : Shared) = s3 := hs3
  rw [es3] at I3
  have keep3 : ∀ b o, s2.heap.get? b = some o → s3.heap.get? b = some o := fun b o e => by rw [← hs3]; exact Heap.get?_push_of_some _ e
  have fpo : ∀ b ∈ fp, ∃ o, s2.heap.get? b = some o ∧ ∀ v, o.data ≠ .cell v := T.obj _ _ st2
  have hlt2 : ∀ b ∈ fp, b < s2.heap.objs.size := fun b hb => by obtain ⟨o, e, _⟩ := fpo b hb; exact Heap.lt_size e
  have hlt3 : ∀ b ∈ fp, b < s3.heap.objs.size := fun b hb => by obtain ⟨o, e, _⟩ := fpo b hb; exact Heap.lt_size (keep3 b o e)
  have hf3 : ∀ b ∈ fp, FpOk X pins (upd H2 s2.heap.objs.size (.lst [])) b := fun b hb => ⟨by rw [upd_ne (Nat.ne_of_lt (hlt2 b hb))]; exact (f2 b hb).1, (f2 b hb).2⟩
  refine wpAny_newFunctionEnv B.nocell (by intro y hy; simp at hy) (fun h₁ hns₁ hsb₁ => ?_) B.kind
  try dsimp only at hns₁ hsb₁ ⊢
  have keep4 : ∀ b o, s3.heap.get? b = some o → h₁.get? b = some o := fun b o e => hsb₁.extBut b o (Nat.ne_of_lt (Heap.lt_size e)) (Heap.get?_push_of_some _ e)
  have I4 : ∀ t', Inv (blk X N scope s3.heap.objs.size s3 (upd H2 s2.heap.objs.size (.lst [])) fp xe) [] (capSt caps σ) (upd H2 s2.heap.objs.size (.lst [])) { s3 with heap := h₁, toks := t' } := fun t' => blk_inv B I3 hlt3 hf3 hns₁ keep4
  generalize hY : blk X N scope s3.heap.objs.size s3 (upd H2 s2.heap.objs.size (.lst [])) fp xe = Y at I4
  have Yp : Y.prog = X.prog := by rw [← hY]; rfl
  have Yw : Y.w = X.w := by rw [← hY]; rfl
  have YK : Y.K = X.K := by rw [← hY]; rfl
  have Yc : Y.calm = true := by rw [← hY]; exact hc
  have YA : Y.A = X.A := by rw [← hY]; rfl
  have Yx : Y.xe = xe := by rw [← hY]; rfl
  have Ye : Y.env = compEnvC scope (clOf X.env scope.names []) s3.heap.objs.size X.env := by rw [← hY]; rfl
  have hgY : PG Y tg g := by rw [← hY]; exact hg _ _ _ _
  have htY : PF Y ifs tt := by rw [← hY]; exact ht _ _ _ _
  have heY : PE Y elt te := by rw [← hY]; exact he _ _ _ _
  have stat : ∀ {H' : Hp}, (∀ b ∈ fp, H' b = none) → ∀ b ∈ fp, FpOk Y [] H' b := fun {H'} hn b hb => by
    refine ⟨hn b hb, ?_, ?_, .inl (by rw [← hY]; exact hb), ?_, ?_⟩
    · rw [Ye]; exact Nat.ne_of_lt (hlt3 b hb)
    · intro hm
      rw [← hY] at hm
      rcases List.mem_cons.mp (I3.stkSub b hm) with e | e
      · exact (f2 b hb).2.1 e
      · exact (f2 b hb).2.2.1 e
    · intro x c hcl
      rw [Ye] at hcl
      exact (f2 b hb).2.2.2.2.1 x c (cl_sub (fun _ _ e => by simp at e) x c hcl)
    · intro p hp
      rw [← hY] at hp
      cases hp
  have st4 : tn 0 h₁ := T.keep _ _ _ st2 fun b hb o e => keep4 b o (keep3 b o e)
  have toX : ∀ e s', xe e s' → notedBy (model X.prog X.w) X.A (compEnvC scope (clOf X.env scope.names []) s3.heap.objs.size X.env) (fun e s' => compPost (model X.prog X.w) X.A X.xe use Q (.ref s2.heap.objs.size) s3.heap.objs.size (.error e) s') e s' := fun e s' hxe => hx _ _ e s' hxe
  have loop : ∀ tk, codeAny (model X.prog X.w) X.A (.compLoop (.ListComp elt [⟨tg, iter, ifs, 0⟩] scope pos) 0 (.ref it) (.ref s2.heap.objs.size) (compEnvC scope (clOf X.env scope.names []) s3.heap.objs.size X.env))
      (compPost (model X.prog X.w) X.A X.xe use Q (.ref s2.heap.objs.size) s3.heap.objs.size) { s3 with heap := h₁, toks := tk } := by
    intro tk
    refine comp_loop (fun n s' => ∃ i σ' H', Inv Y [] σ' H' s' ∧ tn i s'.heap ∧ (∀ b ∈ fp, H' b = none) ∧ W i n σ' H') ?_ m0 ⟨0, _, _, I4 tk, st4, fun b hb => (hf3 b hb).1, w0⟩
    rintro n s5 ⟨i, σ5, H5, I5, st5, fr5, w5⟩
    have moX : ∀ {α : Type} {t : Sem α} {Q1 : α → Shared → Prop} {s : Shared}, wpAny (model X.prog X.w) X.A t Q1 xe s → wpAny (model X.prog X.w) X.A t Q1
        (notedBy (model X.prog X.w) X.A (compEnvC scope (clOf X.env scope.names []) s3.heap.objs.size X.env) (fun e s' => compPost (model X.prog X.w) X.A X.xe use Q (.ref s2.heap.objs.size) s3.heap.objs.size (.error e) s')) s :=
      fun h => wpAny_mono h (fun _ _ q => q) toX
    rcases turn i n σ5 H5 w5 with ⟨stop, q⟩ | ⟨go, step⟩
    · have z := T.done Y Yp Yw YK Yc i [] s5 σ5 H5 xe I5 (stat fr5) st5 stop
      rw [YA] at z
      refine moX (thn z fun r s6 ⟨hr, I6⟩ => ?_)
      subst hr
      -- behind the block
      obtain ⟨m, hm, _⟩ := I6.loc
      have hCn : H5 s3.heap.objs.size = none := by have z := I6.free; rw [Ye] at z; exact z
      have un : Un (frs X.stack) fp (upd H2 s2.heap.objs.size (.lst [])) H5 s3.heap s6.heap := by have z := I6.base; rw [← hY] at z; exact z
      have hos : s6.os = s3.os := by have z := I6.os; rw [← hY] at z; exact z
      have hok : HOk X.prog X.w H5 s6.heap := by have z := I6.hok; rw [Yp, Yw] at z; exact z
      have IX : Inv X pins σ H5 s6 := I3.call' (ch := fp) hos un hok I6.bare fun b hb => ⟨(f2 b hb).2.2.2.1, (f2 b hb).2.1, (f2 b hb).2.2.2.2.1, (f2 b hb).2.2.2.2.2⟩
      refine fin _ _ H5 s6 IX ⟨m, by rw [Ye] at hm; exact hm⟩ ⟨hCn, ?_, I3.sz, ?_, ?_⟩ q
      · exact Nat.ne_of_gt I3.lt
      · intro x c hcl
        obtain ⟨v, hv⟩ := I3.cell x c hcl
        exact Nat.ne_of_lt hv.lt
      · intro p hp
        exact Nat.ne_of_lt (Heap.lt_size (I3.pin p hp).1)
    · have z := T.item Y Yp Yw YK Yc i [] s5 σ5 H5 xe I5 (stat fr5) st5 go
      rw [YA] at z
      refine moX (thn z fun r s6 ⟨u, hr, h6⟩ => ?_)
      subst hr
      refine moX (thn h6 fun _ s7 ⟨x, H7, I7, r7, y7, st7, fr7⟩ => ?_)
      have I7' := I7.pinned (stat fr7) (T.obj _ _ st7)
      have hN := step x H7 y7
      have again : ∀ {σ' : St} {H' : Hp} {s' : Shared} {m' : Nat}, m' < n → Inv Y ([] ++ pinsAt fp s7.heap) σ' H' s' → W (i + 1) m' σ' H' → ∃ m, m < n ∧ ∃ i σ'' H'', Inv Y [] σ'' H'' s' ∧ tn i s'.heap ∧ (∀ b ∈ fp, H'' b = none) ∧ W i m σ'' H'' := fun {σ' H' s' m'} hm I' w' => by
        refine ⟨m', hm, i + 1, σ', H', I'.unpinned, T.keep _ _ _ st7 fun b hb o e => (I'.pin (b, o) (List.mem_append_right _ (List.mem_append_right _ (mem_pinsAt hb e)))).1, fun b hb => ?_, w'⟩
        obtain ⟨o, e, d⟩ := T.obj _ _ st7 b hb
        exact (I'.pin (b, o) (List.mem_append_right _ (List.mem_append_right _ (mem_pinsAt hb e)))).2.1
      have z := hgY _ s7 σ5 H7 x u _ I7' r7 hN
      rw [Yp, Yw, YA, Ye, Yx] at z
      refine moX (thn z fun _ s8 ⟨σ8, H8, I8, q8⟩ => ?_)
      have z := htY _ s8 σ8 H8 _ I8 q8
      rw [Yp, Yw, YA, Ye, Yx] at z
      refine moX (thn z fun ok s9 ⟨H9, I9, q9⟩ => ?_)
      cases ok with
      | false =>
        obtain ⟨m', hm, w'⟩ := q9
        exact again hm I9 w'
      | true =>
        have q9' : te σ8 H9 fun v H4 => ∃ xs, H4 s2.heap.objs.size = some (.lst xs) ∧ xs.length < sizeLine ∧ ∃ m', m' < n ∧ W (i + 1) m' σ8 (upd H4 s2.heap.objs.size (.lst (xs ++ [v]))) := q9
        have z := heY _ s9 σ8 H9 _ I9 q9'
        rw [Yp, Yw, YA, Ye, Yx] at z
        refine moX (thn z fun u10 s10 ⟨v10, H10, I10, r10, q10⟩ => ?_)
        obtain ⟨xs, hl, hz, m', hm, w'⟩ := q10
        have ap := mt_append (X := Y) _ s10 σ8 H10 (.ref s2.heap.objs.size) [v10] (.ref s2.heap.objs.size) [u10] (fun _ H' => W (i + 1) m' σ8 H') I10 rfl (.cons r10 .nil) ⟨_, xs, v10, rfl, rfl, hl, hz, w'⟩
        rw [Yp, Yw, YA, Yx] at ap
        refine moX (thn ap fun _ s11 ⟨_, H11, I11, _, w11⟩ => again hm I11 w11)
  exact codeAny_compStart_list (loop _) (T.self _ 0 _ _ _ st4 (loop _))

/-- [elt for tg in iter if ..] as a value; nothing is raised within -/
theorem pe_comp {tg elt iter : Expr} {ifs : List Expr} {scope : Scope} {pos : Pos} (N : List Str) (caps : List (Option Nat)) {wi : TI} {g : TG} {tt : TT} {te : TE} (hc : X.calm = true) (B : Blk X N caps scope) (hi : PI X tg iter wi)
    (hg : ∀ C s₀ H₀ ex, PG (blk X N scope C s₀ H₀ ex fun _ _ => False) tg g) (ht : ∀ C s₀ H₀ ex, PF (blk X N scope C s₀ H₀ ex fun _ _ => False) ifs tt) (he : ∀ C s₀ H₀ ex, PE (blk X N scope C s₀ H₀ ex fun _ _ => False) elt te)
    (hs : ∀ x, foldedSetIterable iter X.env x = pure x := by intro _; rfl) : PE X (.ListComp elt [⟨tg, iter, ifs, 0⟩] scope pos) (tComp caps wi g tt te) := by
  intro pins s σ H Q I h
  rw [eval_ListComp]
  refine comp_core (use := none) (Qv := Q) hc B hi hg ht he I h (fun l C H' s5 I5 ⟨m, hm⟩ lo q => ?_) (fun _ _ _ _ f => f.elim) hs
  refine ⟨m, hm, fun h' hs' => ⟨.ref l, H', ?_, rfl, q⟩⟩
  exact I5.turned (it := C) (t' := s5.toks) (fun b o hb e => hs'.extBut b o hb e) lo.un lo.loc (.inr lo.ab) lo.cel lo.pin
/-- name = [elt for tg in iter if ..] -/
theorem ps_setcomp {i : Nat} {x : Str} {pos' : Pos} {tg elt iter : Expr} {ifs : List Expr} {scope : Scope} {pos spos : Pos} (N : List Str) (caps : List (Option Nat)) {wi : TI} {g : TG} {tt : TT} {te : TE} (hc : X.calm = true)
    (hN : X.N.Nodup) (hi' : X.N[i]? = some x) (hx : Loc X.env.scope x) (B : Blk X N caps scope) (hi : PI X tg iter wi)
    (hg : ∀ C s₀ H₀ ex, PG (blk X N scope C s₀ H₀ ex fun _ _ => False) tg g) (ht : ∀ C s₀ H₀ ex, PF (blk X N scope C s₀ H₀ ex fun _ _ => False) ifs tt) (he : ∀ C s₀ H₀ ex, PE (blk X N scope C s₀ H₀ ex fun _ _ => False) elt te)
    (hsw : swapsWith (.ListComp elt [⟨tg, iter, ifs, 0⟩] scope pos) (some (.Name x pos')) spos.line X.env = pure true := by rfl)
    (hs : ∀ x, foldedSetIterable iter X.env x = pure x := by intro _; rfl) (hf : X.fn x = true ∨ X.env.scope.names.lookup x = some .local := by first | exact .inl rfl | exact .inr rfl | assumption) :
    PS X (.Assign [.Name x pos'] (.ListComp elt [⟨tg, iter, ifs, 0⟩] scope pos) spos) (tAsg (tComp caps wi g tt te) (gName i)) := by
  intro pins s σ H D I h
  rw [exec_Assign_Name_used _ _ _ _ hsw]
  refine wpAny_bind (wpAny_standAt (wpAny_bind ?_))
  show wpAny _ X.A (do let _ ← comprehension (.ListComp elt [⟨tg, iter, ifs, 0⟩] scope pos) scope X.env _ (newList []) false (eval iter X.env) (some (assign (.Name x pos') X.env))) _ _ s
  refine wpAny_bind (wpAny_mono (comp_core (use := some (assign (.Name x pos') X.env)) (Q := fun _ s' => SP X pins D .next s') (Qv := fun v H1 => gName i v σ H1 D.nx) hc B hi hg ht he I h (fun l C H' s5 I5 ⟨m, hm⟩ lo q => ?_) (fun _ _ _ _ f => f.elim) hs)
    (fun _ s' hq => wpAny_pure (wpAny_pure hq)) fun _ _ e => e)
  show wpAny _ X.A (assign (.Name x pos') X.env (.ref l)) _ _ _
  refine wpAny_assign_Name (store_ok2 I5 hN hi' hx (v := .ref l) rfl (fun s6 I6 ⟨a, sb, ha⟩ => ?_) hf)
  have hCa : C ≠ a := by
    rcases ha with e | e
    · rw [e]; exact lo.loc
    · exact Ne.symm (lo.cel x a e)
  refine ⟨m, hm.sameBut sb hCa, fun h' hs' => ⟨_, H', ?_, q⟩⟩
  exact I6.turned (it := C) (t' := s6.toks) (fun b o hb e => hs'.extBut b o hb e) lo.un lo.loc (.inr lo.ab) lo.cel lo.pin
end
end L2

namespace L2
open PySem PySem.Spec PyProof.Rows
section
variable {X : Cx}
/-! ### wider numbers -/
/-- below 2 ^ 4000 either way -/
def Wide (i : Int) : Prop := i.natAbs < 2 ^ 4000
theorem bits_of_wide {i : Int} (h : Wide i) : Builtin.Int.intBits i ≤ 2 ^ 20 := by
  unfold Builtin.Int.intBits
  split
  · exact Nat.zero_le _
  · rename_i h0
    have hne : i.natAbs ≠ 0 := by
      intro e
      have : i = 0 := Int.natAbs_eq_zero.mp e
      rw [this] at h0
      exact h0 rfl
    have hl : i.natAbs.log2 < 4000 := (Nat.log2_lt hne).mpr h
    have e : (2 : Nat) ^ 20 = 1048576 := by decide
    omega
def CMulW (i j : Int) : Prop := Wide i ∧ Wide j
theorem op_mulW : OpR X (binaryOp .Mult) (rI CMulW fun i j => .int (i * j)) := opI fun _ _ _ _ _ _ _ hc q => mul_int q (IntMulOk.of_bits (bits_of_wide hc.1) (bits_of_wide hc.2))
def CDivW (i j : Int) : Prop := 0 < j ∧ Wide j
theorem op_fdivW : OpR X (binaryOp .FloorDiv) (rI CDivW fun i j => .int (i / j)) := opI fun i j _ _ _ _ _ hc q => by
  have h1 : (0 : Int) < j := hc.1
  have h2 : j.natAbs < 2 ^ 4000 := hc.2
  refine floordiv_int (by omega) (by rw [Int.fdiv_eq_ediv_of_nonneg i (by omega)]; exact q) (.inl (PyProof.noPylong_of_log2 ?_))
  have hl : j.natAbs.log2 < 4000 := (Nat.log2_lt (by omega)).mpr h2
  omega
/-! ### == and != of lists of ints -/
def rEqL (K : PySem.W.Frag) (neg : Bool) : R2 := fun x y H Q => ∃ (a b : Addr) (ns ms : List Int), x = .ref a ∧ y = .ref b ∧ SqL K H a (ns.map V.int) ∧ SqL K H b (ms.map V.int) ∧ Q (.bl (if neg then !decide (ns = ms) else decide (ns = ms))) H
theorem isL_of {h : Heap} {a : Addr} {its : Array Value} (p : PlainL h a its) : h.IsList a its := by
  obtain ⟨o, n, e, c, _, d⟩ := p
  exact ⟨o, e, c, n, d⟩
theorem op_eqL (hu : X.A.units + 64 < cLine) : OpR X (compareOp .Eq) (rEqL X.K false) := by
  intro pins s σ H x y v u Q I rx ry h
  obtain ⟨a, b, ns, ms, rfl, rfl, hA, hB, q⟩ := h
  cases rx
  cases ry
  obtain ⟨ia, va, pa, _⟩ := I.list hA
  obtain ⟨ib, vb, pb, _⟩ := I.list hB
  exact PySem.W.ke_eq_ints (isL_of pa) (isL_of pb) (intsAre_of va) (intsAre_of vb) hu ⟨.bl _, H, I, rfl, q⟩
theorem op_neL (hu : X.A.units + 64 < cLine) : OpR X (compareOp .NotEq) (rEqL X.K true) := by
  intro pins s σ H x y v u Q I rx ry h
  obtain ⟨a, b, ns, ms, rfl, rfl, hA, hB, q⟩ := h
  cases rx
  cases ry
  obtain ⟨ia, va, pa, _⟩ := I.list hA
  obtain ⟨ib, vb, pb, _⟩ := I.list hB
  exact PySem.W.ke_ne_ints (isL_of pa) (isL_of pb) (intsAre_of va) (intsAre_of vb) hu ⟨.bl _, H, I, rfl, q⟩
/-! ### isinstance(x, T), T a built-in type or an own class -/
def rIsT (K : PySem.W.Frag) : List V → Hp → VK → Prop := fun xs H Q => ∃ x n t b, xs = [x, .ty n] ∧ TyOf K H x t ∧ PySem.W.kitOne K t (.type n) = some b ∧ Q (.bl b) H
theorem call_isT : CallR X (.builtin "isinstance") (rIsT X.K) := by
  intro pins s σ H xs us Q I r h
  obtain ⟨x, n, t, b, rfl, ty, e, q⟩ := h
  obtain ⟨u, w', rfl, r1, r2⟩ := vals2 r
  cases r2
  exact isinst_ok I r1 ty e fun tk => ⟨.bl b, H, I.tok tk, rfl, q⟩
end

/-! ### a block's facts by computing -/
def blkOk (sc : Scope) (N0 N : List Str) (caps : List (Option Nat)) (scope : Scope) : Bool :=
  decide (scope.kind = .function) && scope.names.all (fun y => decide (y.2 ≠ .cell)) && scope.names.all (fun y => decide (y.2 ≠ .local) || decide (scope.names.lookup y.1 = some .local)) &&
  scope.names.all (fun y => decide (y.2 ≠ .free) || (decide (sc.names.lookup y.1 = some .cell) || decide (sc.names.lookup y.1 = some .free))) && decide (caps.length = N.length) &&
  (List.range caps.length).all fun i => match caps[i]?, N[i]? with
    | some (some j), some x => decide (N0[j]? = some x) && (decide (sc.names.lookup x = some .cell) || decide (sc.names.lookup x = some .free)) && decide (scope.names.lookup x = some .free)
    | _, _ => true
theorem Blk.by {X : Cx} {N : List Str} {caps : List (Option Nat)} {scope : Scope} {sc : Scope} {N0 : List Str} (hsc : X.env.scope = sc) (hN : X.N = N0) (h : blkOk sc N0 N caps scope = true) : Blk X N caps scope := by
  unfold blkOk at h
  simp only [Bool.and_eq_true, decide_eq_true_eq, List.all_eq_true, Bool.or_eq_true] at h
  obtain ⟨⟨⟨⟨⟨h1, h2⟩, h3⟩, h4⟩, h5⟩, h6⟩ := h
  subst hsc
  subst hN
  refine ⟨h1, h2, fun y hy e => (h3 y hy).elim (fun z => absurd e z) id, fun y hy e => (h4 y hy).elim (fun z => absurd e z) id, h5, fun i j x e1 e2 => ?_⟩
  have hi : i < caps.length := (List.getElem?_eq_some_iff.mp e1).1
  have z := h6 i (List.mem_range.mpr hi)
  rw [e1, e2] at z
  simp only [Bool.and_eq_true, decide_eq_true_eq, Bool.or_eq_true] at z
  exact ⟨z.1.1, .inr z.1.2, z.2⟩
/-! ### comprehensions, the forms one uses -/
theorem same_upd {H : Hp} {p : Addr} (h : H p = none) (o : HO) : Same H (upd H p o) := fun b u q => by rw [upd_ne (ne_of_none q h)]; exact q
theorem same_upd2 {H0 H : Hp} {p : Addr} (h : H0 p = none) (s : Same H0 H) (o : HO) : Same H0 (upd H p o) := fun b u q => by rw [upd_ne (ne_of_none q h)]; exact s b u q
theorem comp_any {tt : TT} {te : TE} {σ0 : St} {H1 : Hp} {Q : V → Hp → Prop} {J : It} (n : Nat) (xs : Nat → V) (p : Nat → Bool) (f : Nat → V) (hn : n ≤ sizeLine)
    (hgo : ∀ i H, Same H1 H → i < n → J.go i H) (hstop : ∀ H, Same H1 H → J.stop n H) (hy : ∀ i H x H', Same H1 H → i < n → J.yld i H x H' → H' = H ∧ x = xs i)
    (hT : ∀ i H, i < n → Same H1 H → ∀ R : Bool → Hp → Prop, (∀ H', Same H H' → R (p i) H') → tt (σ0.set 0 (some (xs i))) H R)
    (hE : ∀ i H, i < n → p i = true → Same H1 H → ∀ R : V → Hp → Prop, (∀ H', Same H H' → R (f i) H') → te (σ0.set 0 (some (xs i))) H R)
    (hQ : ∀ l H, Same H1 H → H1 l = none → H l = some (.lst (((List.range n).filter p).map f)) → Q (.ref l) H) : tCompR (gName 0) tt te σ0 J H1 Q := by
  intro l hl
  refine ⟨fun i m σ H => m = n - i ∧ i ≤ n ∧ Same H1 H ∧ H l = some (.lst (((List.range i).filter p).map f)) ∧ ∀ o, σ.set 0 o = σ0.set 0 o, ⟨n, by simp, Nat.zero_le _, same_upd hl _, upd_same, fun _ => rfl⟩, ?_⟩
  rintro i m σ H ⟨rfl, hi, sm, hL, hσ⟩
  by_cases hlt : i < n
  · refine .inr ⟨hgo i H sm hlt, fun x H' y => ?_⟩
    obtain ⟨rfl, rfl⟩ := hy i H x H' sm hlt y
    show tt (σ.set 0 (some (xs i))) H' _
    rw [hσ]
    refine hT i H' hlt sm _ fun H2 s2 => ?_
    have er : (List.range (i + 1)).filter p = (List.range i).filter p ++ (if p i = true then [i] else []) := by
      rw [List.range_succ, List.filter_append]
      by_cases hp : p i = true
      · rw [if_pos hp, List.filter_cons_of_pos hp, List.filter_nil]
      · rw [if_neg hp, List.filter_cons_of_neg hp, List.filter_nil]
    have hσ2 : ∀ o, (σ0.set 0 (some (xs i))).set 0 o = σ0.set 0 o := fun o => List.set_set _
    by_cases hp : p i = true
    · rw [if_pos hp]
      refine hE i H2 hlt hp (sm.trans s2) _ fun H3 s3 => ?_
      refine ⟨_, s3 _ _ (s2 _ _ hL), ?_, n - (i + 1), by omega, rfl, hlt, ?_, ?_, hσ2⟩
      · rw [List.length_map]
        have := List.length_filter_le p (List.range i)
        rw [List.length_range] at this
        omega
      · exact same_upd2 hl (sm.trans (s2.trans s3)) _
      · rw [upd_same, er, if_pos hp, List.map_append]
        rfl
    · rw [if_neg hp]
      refine ⟨n - (i + 1), by omega, rfl, hlt, sm.trans s2, ?_, hσ2⟩
      rw [er, if_neg hp, List.append_nil]
      exact s2 _ _ hL
  · have e : i = n := by omega
    subst e
    exact .inl ⟨hstop H sm, hQ l H sm hl hL⟩
theorem comp_range {tt : TT} {te : TE} {σ0 : St} {H1 : Hp} {Q : V → Hp → Prop} {lo : Int} {n : Nat} (p : Nat → Bool) (f : Nat → V) (hn : n ≤ sizeLine)
    (hT : ∀ i H, i < n → Same H1 H → ∀ R : Bool → Hp → Prop, (∀ H', Same H H' → R (p i) H') → tt (σ0.set 0 (some (.int (lo + (i : Nat))))) H R)
    (hE : ∀ i H, i < n → p i = true → Same H1 H → ∀ R : V → Hp → Prop, (∀ H', Same H H' → R (f i) H') → te (σ0.set 0 (some (.int (lo + (i : Nat))))) H R)
    (hQ : ∀ l H, Same H1 H → H1 l = none → H l = some (.lst (((List.range n).filter p).map f)) → Q (.ref l) H) : tCompR (gName 0) tt te σ0 (Itr lo n) H1 Q :=
  comp_any n (fun i => .int (lo + (i : Nat))) p f hn (fun _ _ _ h => h) (fun _ _ => Nat.le_refl _) (fun _ _ _ _ _ _ y => y) hT hE hQ
theorem filter_map_range {α β : Type} (xs : List α) (p : α → Bool) (f : α → β) (d : α) : ((List.range xs.length).filter fun i => p (xs.getD i d)).map (fun i => f (xs.getD i d)) = (xs.filter p).map f := by
  have e : (List.range xs.length).map (fun i => xs.getD i d) = xs := by
    apply List.ext_getElem
    · simp
    · intro i h1 h2
      simp
      rw [List.getElem?_eq_getElem (by simpa using h2)]
      rfl
  have h : (((List.range xs.length).map (fun i => xs.getD i d)).filter p).map f = ((List.range xs.length).filter fun i => p (xs.getD i d)).map (fun i => f (xs.getD i d)) := by
    rw [List.filter_map, List.map_map]
    rfl
  rw [e] at h
  exact h.symm
theorem comp_list {K : PySem.W.Frag} {tt : TT} {te : TE} {σ0 : St} {H1 : Hp} {Q : V → Hp → Prop} {a : Addr} {xs : List V} (p : V → Bool) (f : V → V) (hS : SqL K H1 a xs) (hn : xs.length ≤ sizeLine)
    (hT : ∀ x H, x ∈ xs → Same H1 H → ∀ R : Bool → Hp → Prop, (∀ H', Same H H' → R (p x) H') → tt (σ0.set 0 (some x)) H R)
    (hE : ∀ x H, x ∈ xs → p x = true → Same H1 H → ∀ R : V → Hp → Prop, (∀ H', Same H H' → R (f x) H') → te (σ0.set 0 (some x)) H R)
    (hQ : ∀ l H, Same H1 H → H1 l = none → H l = some (.lst ((xs.filter p).map f)) → Q (.ref l) H) : tCompR (gName 0) tt te σ0 (Itl K a) H1 Q := by
  have at_ : ∀ i, i < xs.length → xs[i]? = some (xs.getD i .non) := fun i h => by
    rw [List.getD_eq_getElem?_getD, List.getElem?_eq_getElem h]
    rfl
  have mem : ∀ i, i < xs.length → xs.getD i .non ∈ xs := fun i h => by
    have := at_ i h
    exact List.mem_of_getElem? this
  refine comp_any xs.length (fun i => xs.getD i .non) (fun i => p (xs.getD i .non)) (fun i => f (xs.getD i .non)) hn (fun i H sm h => ⟨xs, _, sm.seq hS, at_ i h⟩) (fun H sm => ⟨xs, sm.seq hS, Nat.le_refl _⟩)
    (fun i H x H' sm h y => ⟨y.1, ?_⟩) (fun i H h sm => hT _ H (mem i h) sm) (fun i H h hp sm => hE _ H (mem i h) hp sm) (fun l H sm hl hL => hQ l H sm hl ?_)
  · have e := y.2 xs (sm.seq hS)
    rw [at_ i h] at e
    exact (Option.some.inj e).symm
  · rw [hL, filter_map_range]
end L2

namespace L2
open PySem PySem.Spec PyProof.Rows
section
variable {X : Cx} {e st : Expr} {te : TE} {ts : TO} {pos p2 : Pos}
/-! ### xs[::-1] -/
def tRev (K : PySem.W.Frag) (te : TE) (ts : TO) : TE := fun σ H Q => te σ H fun x H1 => ts σ H1 fun o H2 => o = some (-1) ∧ ∃ a xs, x = .ref a ∧ SqL K H2 a xs ∧ ∀ p, H2 p = none → Q (.ref p) (upd H2 p (.lst xs.reverse))
theorem pe_rev (he : PE X e te) (hst : PO X (some st) ts) : PE X (.Subscript e (.Slice none none (some st) p2) pos) (tRev X.K te ts) := by
  intro pins s σ H Q I h
  refine Subscript_ (thn (he pins s σ H _ I h) fun v s1 ⟨x, H1, I1, r1, q1⟩ => ?_)
  refine wpAny_Slice ?_
  rw [evalPart_none]
  refine wpAny_pure (wpAny_pure (thn (hst pins s1 σ H1 _ I1 q1) fun vs s3 ⟨o, H3, I3, po, q3⟩ => ?_))
  obtain ⟨rfl, a, xs, rfl, hx, q⟩ := q3
  cases r1
  have I4 : Inv X pins σ H3 { s3 with heap := s3.heap.push { cls := .type "slice", data := .fields #[.none, .none, vs] } } := I3.kept (t' := s3.toks) fun b ob q => Heap.get?_push_of_some _ q
  obtain ⟨its, r, ht, hz⟩ := I4.list hx
  have hlen := r.length
  show wpAny (model X.prog X.w) X.A (subscriptTail e (.Slice none none (some st) p2) (.ref a) (.ref s3.heap.objs.size)) (EP X pins σ Q) X.xe { s3 with heap := s3.heap.push { cls := .type "slice", data := .fields #[.none, .none, vs] } }
  refine tail_any (ops := [.ref a, .ref s3.heap.objs.size]) ht.isList.typeIs slot_list_getitem.lookup ?_ (by with_unfolding_all rfl)
  refine wpAny_getItem_list_slice ht.isList (Heap.IsSliceOf.new ..) .none .none po (by decide) ?_ (by rw [List.size_toArray] <;> omega)
  rw [PySem.W.krv_pick]
  refine ⟨.ref _, _, I4.lnew (t' := s3.toks) (ys := xs.reverse) (its := its.reverse) r.reverse (by rw [List.length_reverse]; exact hz), rfl, q _ I4.fresh⟩
/-! ### all(xs) of bools -/
theorem truth_bls {prog : Program} {w : World} {A : Around} {bs : List Bool} {its : List Value} (r : Vals (bs.map V.bl) its) : TruthOf prog w A (fun i v => its.toArray[i]? = some v) fun i => bs.getD i true := by
  intro i v s Q E hP hQ
  have hP' : its[i]? = some v := by simpa using hP
  have hi : i < bs.length := by
    have := (List.getElem?_eq_some_iff.mp hP').1
    have h2 := r.length
    rw [List.length_map] at h2
    omega
  obtain ⟨u, hu, ru⟩ := r.get (i := i) (x := .bl bs[i]) (by rw [List.getElem?_map, List.getElem?_eq_getElem hi]; rfl)
  rw [hP'] at hu
  cases hu
  cases ru
  have e : bs.getD i true = bs[i] := by rw [List.getD_eq_getElem?_getD, List.getElem?_eq_getElem hi]; rfl
  have hQ' : Q (bs.getD i true) s := hQ
  rw [e] at hQ'
  exact wpAny_truthy_bool hQ'
theorem call_allL (hc : X.calm = true) : CallR X (.builtin "all") (fun xs H Q => ∃ (a : Addr) (bs : List Bool), xs = [.ref a] ∧ SqL X.K H a (bs.map V.bl) ∧ Q (.bl (bs.all id)) H) := by
  intro pins s σ H xs us Q I r h
  obtain ⟨a, bs, rfl, hS, q⟩ := h
  obtain ⟨u, rfl, ru⟩ := vals1 r
  cases ru
  obtain ⟨its, ri, pl, hz⟩ := I.list hS
  have hl : s.heap.IsList a its.toArray := isL_of pl
  have ha : a < s.heap.objs.size := by obtain ⟨_, e, _⟩ := hl; exact Heap.lt_size e
  have hh : X.A.in1.handled = none := I.ok.hd hc
  refine call_all_walk (wpAny_pyIter_list hl ?_)
  refine ⟨s.heap.objs.size, [s.heap.objs.size, a], [s.heap.objs.size], its.toArray.size, (fun i v => its.toArray[i]? = some v), (fun i h => h.IsListIter s.heap.objs.size a i ∧ h.IsList a its.toArray), (fun i => bs.getD i true), rfl, Walks.list hh s.heap.objs.size a (Nat.ne_of_lt ha) its.toArray,
    ⟨⟨_, Heap.get?_push_size _ rfl, rfl, rfl⟩, hl.push _⟩, truth_bls ri, fun h' tk hk => ?_⟩
  have e : (List.range its.toArray.size).all (fun i => bs.getD i true) = bs.all id := by
    have h2 := ri.length
    rw [List.length_map] at h2
    have h3 : its.toArray.size = bs.length := by simp [h2]
    rw [h3]
    have e1 : (List.range bs.length).map (fun i => bs.getD i true) = bs := by
      apply List.ext_getElem
      · simp
      · intro i h1 h2
        simp
        rw [List.getElem?_eq_getElem (by simpa using h2)]
        rfl
    conv => rhs; rw [← e1]
    rw [List.all_map]
    rfl
  rw [e]
  refine ⟨.bl _, H, I.kept (t' := tk) fun b o eb => hk b o ?_ (Heap.get?_push_of_some _ eb), rfl, q⟩
  intro hm
  have : b = s.heap.objs.size := by simpa using hm
  rw [this] at eb
  exact absurd (Heap.lt_size eb) (Nat.lt_irrefl _)
end
end L2

namespace L2
open PySem PySem.Spec PyProof.Rows
/-! ### an exception's record with its context: what the frames' notes leave of it -/
/-- the record at e: its class, its context ctx, a traceback's entry at T whose flight is fl -/
def RecAt (base : Heap) (e : Addr) (cls ctx fl : Value) (h : Heap) : Prop :=
  ∃ oe vs T oT ts, (h.get? e = some oe ∧ oe.cls = cls ∧ oe.data = .fields vs ∧ vs[1]? = some (.ref T) ∧ vs[2]? = some ctx) ∧ base.get? T = none ∧ T ≠ e ∧ h.get? T = some oT ∧ oT.data = .fields ts ∧ ts[3]? = some fl
structure FlyC (base : Heap) (l : List Env) (e : Addr) (cls ctx fl : Value) (h : Heap) : Prop where
  stays : base.StaysIn h
  new : base.get? e = none
  frames : h.FunFrames base l
  rcd : RecAt base e cls ctx fl h
theorem FlyC.flying {base h : Heap} {l : List Env} {e : Addr} {cls ctx : Value} (x : FlyC base l e cls ctx .none h) : ∃ a0, Heap.FlyingW base l e cls a0 h := by
  obtain ⟨oe, vs, T, oT, ts, ⟨h1, h2, h3, h4, h5⟩, r⟩ := x.rcd
  have hsz : 0 < vs.size := Nat.lt_trans (by decide) (Array.getElem?_eq_some_iff.mp h5).1
  exact ⟨vs[0], x.stays, x.new, x.frames, oe, vs, T, oT, ts, h1, ⟨h2, Array.getElem?_eq_getElem hsz⟩, h3, h4, r⟩
section
variable {M : Model} {A : Around} {E : Value → Shared → Prop} {s : Shared} {base : Heap} {env : Env} {outer : List Env} {L e : Addr} {cls ctx : Value} {Q : Unit → Shared → Prop}
theorem noFields {h : Heap} {a : Addr} {o : Obj} {vs : Array Value} (ho : h.get? a = some o) (hd : o.data = .fields vs) {b : Addr} {u : Obj} (hb : h.get? b = some u) (hn : ∀ ws, u.data ≠ .fields ws) : b ≠ a := by
  rintro rfl
  have z := hb.symm.trans ho
  cases z
  exact hn vs hd
/-- a field of a record that is not of the base is set: what stays -/
theorem setRec {h : Heap} {a : Addr} {i : Nat} {v : Value} (hk : base.StaysIn h) (ha : base.get? a = none) {l : List Env} (hl : h.FunFrames base l) {o : Obj} {vs : Array Value} (ho : h.get? a = some o) (hd : o.data = .fields vs) :
    let h' := h.update a (Obj.mapFields (·.setIfInBounds i v))
    base.StaysIn h' ∧ h'.FunFrames base l ∧ h.UpToSlots h' ∧ (∀ b, b ≠ a → h'.get? b = h.get? b) ∧ ∃ o', h'.get? a = some o' ∧ o'.cls = o.cls ∧ o'.data = .fields (vs.setIfInBounds i v) := by
  intro h'
  have oth : ∀ b, b ≠ a → h'.get? b = h.get? b := fun b hb => Heap.get?_update_other _ _ (Ne.symm hb)
  have hd' := Obj.data_mapFields hd (·.setIfInBounds i v)
  refine ⟨fun b u hb => ?_, hl.of_keeps fun b u hb hn => ?_, fun b u hb hn => ?_, oth, _, Heap.get?_update_self _ ho (Obj.isFreed_of_fields hd'), Obj.cls_mapFields _ _, hd'⟩
  · rw [oth b (fun z => by rw [z, ha] at hb; cases hb)]
    exact hk b u hb
  · exact ⟨u, (oth b (noFields ho hd hb hn)).trans hb, rfl⟩
  · exact ⟨u.slots, (oth b (noFields ho hd hb hn)).trans hb⟩
/-- a new entry of the traceback -/
theorem entryC {head : Value} {hadNext : Bool} {oe : Obj} {vs : Array Value} (hfr : A.frames = some (env :: outer)) (hl : s.heap.FunFrames base (env :: outer)) (hf : env.frame = some L) (hk : base.StaysIn s.heap) (hn : base.get? e = none)
    (he : s.heap.get? e = some oe) (hc : oe.cls = cls) (hd : oe.data = .fields vs) (h2 : vs[2]? = some ctx)
    (h : ∀ h', FlyC base (env :: outer) e cls ctx (rawInt L) h' → s.heap.UpToSlots h' → Q () { s with heap := h' }) :
    wpAny M A (do let a ← frameOf env; let pl ← entryPlaceOf L hadNext; let b ← EntryCells.newEntry head a .none (rawInt L) .none pl; setField (.ref e) 1 b) Q E s := by
  have hef : e ∉ (env :: outer).filterMap (·.frame) := fun hm => by
    obtain ⟨_, o, ho, hnf⟩ := hl.mem hm
    exact noFields he hd ho hnf rfl
  refine wpAny_bind (wpAny_frameOf_fun hfr hl hf fun g1 so => wpAny_bind (wpAny_entryPlaceOf fun pl hpl => ?_))
  unfold EntryCells.newEntry
  unfold newFields
  refine wpAny_bind (wpAny_newObj_type ?_ (hpl.sizeOk5 _ _ _ _ _))
  generalize hob : ({ cls := .type "traceback", dict := none, data := .fields ([head, Value.ref L, .none, rawInt L, .none] ++ (if pl.isEmpty then List.replicate 6 Value.none else pl)).toArray } : Obj) = ob
  have obd : ∃ ts : Array Value, ob.data = .fields ts ∧ ts[3]? = some (rawInt L) := by
    rw [← hob]
    refine ⟨_, rfl, ?_⟩
    simp
  have e1 : g1.get? e = some oe := (so.2.1 e hef).trans he
  have k1 : base.StaysIn g1 := fun b o hb => (so.2.1 b fun hm => by rw [(hl.mem hm).1] at hb; cases hb).trans (hk b o hb)
  have l1 : g1.FunFrames base (env :: outer) := hl.of_keeps fun b o hb _ => by
    obtain ⟨sl, q⟩ := so.2.2 b o hb
    exact ⟨_, q, rfl⟩
  have up1 : s.heap.UpToSlots g1 := fun b o hb _ => so.2.2 b o hb
  have e2 : (g1.push ob).get? e = some oe := Heap.get?_push_of_some _ e1
  have k2 : base.StaysIn (g1.push ob) := fun b o hb => Heap.get?_push_of_some _ (k1 b o hb)
  have l2 : (g1.push ob).FunFrames base (env :: outer) := l1.of_keeps fun b o hb _ => ⟨o, Heap.get?_push_of_some _ hb, rfl⟩
  have up2 : g1.UpToSlots (g1.push ob) := Heap.UpToSlots.of_keeps fun b o hb => Heap.get?_push_of_some _ hb
  have hT : (g1.push ob).get? g1.objs.size = some ob := Heap.get?_push_size _ (by obtain ⟨ts, z, _⟩ := obd; exact Obj.isFreed_of_fields z)
  have hsz : 1 < vs.size := Nat.lt_trans (by decide) (Array.getElem?_eq_some_iff.mp h2).1
  obtain ⟨k3, l3, up3, oth, oe3, e3, c3, d3⟩ := setRec (i := 1) (v := .ref g1.objs.size) k2 hn l2 e2 hd
  refine wpAny_setField e2 hd hsz (h _ ⟨k3, hn, l3, oe3, vs.setIfInBounds 1 (.ref g1.objs.size), g1.objs.size, ob, ?_⟩ ((up1.trans up2).trans up3))
  obtain ⟨ts, z1, z2⟩ := obd
  have hTe : g1.objs.size ≠ e := Nat.ne_of_gt (Heap.lt_size e1)
  refine ⟨ts, ⟨e3, c3.trans hc, d3, by simp [hsz], ?_⟩, k1.fresh, hTe, (oth _ hTe).trans hT, z1, z2⟩
  rw [Array.getElem?_setIfInBounds_ne (by decide)]
  exact h2
/-- the frame is noted at an exception that has no entry yet -/
theorem noteC0 {oe : Obj} {vs : Array Value} (hfr : A.frames = some (env :: outer)) (hl : s.heap.FunFrames base (env :: outer)) (hf : env.frame = some L) (hk : base.StaysIn s.heap) (hn : base.get? e = none)
    (he : s.heap.get? e = some oe) (hc : oe.cls = cls) (hd : oe.data = .fields vs) (h1 : vs[1]? = some .none) (h2 : vs[2]? = some ctx)
    (h : ∀ h', FlyC base (env :: outer) e cls ctx (rawInt L) h' → s.heap.UpToSlots h' → Q () { s with heap := h' }) : wpAny M A (noteFrame (.ref e) env) Q E s := by
  unfold noteFrame
  simp only [hf]
  refine wpAny_bind (wpAny_field he hd h1 ?_)
  rw [if_neg (by decide)]
  exact entryC hfr hl hf hk hn he hc hd h2 h
/-- .. at one that flies -/
theorem noteC (hfr : A.frames = some (env :: outer)) (hf : env.frame = some L) (x : FlyC base (env :: outer) e cls ctx .none s.heap)
    (h : ∀ h', FlyC base (env :: outer) e cls ctx (rawInt L) h' → s.heap.UpToSlots h' → Q () { s with heap := h' }) : wpAny M A (noteFrame (.ref e) env) Q E s := by
  obtain ⟨oe, vs, T, oT, ts, ⟨he, hc, hd, h1, h2⟩, hT0, hTe, hT, hdT, h3⟩ := x.rcd
  unfold noteFrame
  simp only [hf]
  refine wpAny_bind (wpAny_field he hd h1 ?_)
  rw [if_pos (by simp : (Value.ref T != Value.none) = true)]
  refine wpAny_bind (wpAny_field hT hdT h3 ?_)
  rw [if_neg (by simp [rawInt] : ¬ ((Value.none == rawInt L) = true))]
  obtain ⟨k3, l3, up3, oth, _⟩ := setRec (i := 3) (v := .none) x.stays hT0 x.frames hT hdT
  refine wpAny_bind (wpAny_setField hT hdT (Array.getElem?_eq_some_iff.mp h3).1 ?_)
  exact entryC hfr l3 hf k3 x.new ((oth e (Ne.symm hTe)).trans he) hc hd h2 fun h' y up => h h' y (up3.trans up)
/-- it lands -/
theorem landC {fl : Value} {l : List Env} (x : FlyC base l e cls ctx fl s.heap) (h : ∀ h', FlyC base l e cls ctx .none h' → s.heap.UpToSlots h' → Q () { s with heap := h' }) : wpAny M A (setFlight (.ref e) none) Q E s := by
  obtain ⟨oe, vs, T, oT, ts, ⟨he, hc, hd, h1, h2⟩, hT0, hTe, hT, hdT, h3⟩ := x.rcd
  have hsz := (Array.getElem?_eq_some_iff.mp h3).1
  obtain ⟨k3, l3, up3, oth, oT3, e3, c3, d3⟩ := setRec (i := 3) (v := .none) x.stays hT0 x.frames hT hdT
  unfold setFlight
  refine wpAny_bind (wpAny_field he hd h1 ?_)
  rw [if_pos (by simp : (Value.ref T != Value.none) = true)]
  refine wpAny_setField hT hdT hsz (h _ ⟨k3, x.new, l3, oe, vs, T, oT3, _, ⟨(oth e (Ne.symm hTe)).trans he, hc, hd, h1, h2⟩, hT0, hTe, e3, d3, by simp [hsz]⟩ up3)
theorem FlyC.pop {fl : Value} {h : Heap} (x : FlyC base (env :: outer) e cls ctx fl h) : FlyC base outer e cls ctx fl h := ⟨x.stays, x.new, x.frames.2.2, x.rcd⟩
/-- a frame is left: by a new exception, by one that flies -/
theorem leaveC0 {oe : Obj} {vs : Array Value} (hfr : A.frames = some (env :: outer)) (hl : s.heap.FunFrames base (env :: outer)) (hf : env.frame = some L) (hk : base.StaysIn s.heap) (hn : base.get? e = none)
    (he : s.heap.get? e = some oe) (hc : oe.cls = cls) (hd : oe.data = .fields vs) (h1 : vs[1]? = some .none) (h2 : vs[2]? = some ctx)
    (h : ∀ h', FlyC base outer e cls ctx .none h' → s.heap.UpToSlots h' → Q () { s with heap := h' }) : wpAny M A (leaving env (.ref e)) Q E s := by
  unfold leaving
  exact wpAny_bind (noteC0 hfr hl hf hk hn he hc hd h1 h2 fun g1 x1 u1 => landC (s := { s with heap := g1 }) x1 fun g2 x2 u2 => h g2 x2.pop (u1.trans u2))
theorem leaveC (hfr : A.frames = some (env :: outer)) (hf : env.frame = some L) (x : FlyC base (env :: outer) e cls ctx .none s.heap)
    (h : ∀ h', FlyC base outer e cls ctx .none h' → s.heap.UpToSlots h' → Q () { s with heap := h' }) : wpAny M A (leaving env (.ref e)) Q E s := by
  unfold leaving
  exact wpAny_bind (noteC hfr hf x fun g1 x1 u1 => landC (s := { s with heap := g1 }) x1 fun g2 x2 u2 => h g2 x2.pop (u1.trans u2))
end
end L2

namespace L2
open PySem PySem.Spec PyProof.Rows
/-! ### exceptions: how one lies behind a call -/
section
variable {P : Program} {w : World} {H : Hp} {h h'' B : Heap} {a : Addr} {o : HO}
theorem ObjOk.there (x : ObjOk P w H h a o) : ∃ ob, h.get? a = some ob := by
  cases o with
  | lst xs => obtain ⟨_, _, _, _, e⟩ := x; exact ⟨_, e⟩
  | tup xs => obtain ⟨_, _, _, ob, e, _⟩ := x; exact ⟨ob, e⟩
  | dK kvs => obtain ⟨_, _, _, _, ob, _, _, e, _⟩ := x; exact ⟨ob, e⟩
  | dT kvs => obtain ⟨_, _, _, _, ob, _, _, e, _⟩ := x; exact ⟨ob, e⟩
  | set S n => obtain ⟨ob, _, _, _, e, _⟩ := x; exact ⟨ob, e⟩
  | ins C dx fs => obtain ⟨_, _, _, e, _⟩ := x; exact ⟨_, e⟩
  | own y => exact x
  | xd fs => obtain ⟨_, ⟨_, _, _, e, _⟩, _⟩ := x; exact ⟨_, e⟩
  | rng lo hi => obtain ⟨_, _, _, e⟩ := x; exact ⟨_, e⟩
  | frz ob u => exact ⟨_, x.1⟩
  | tbl ps => exact ⟨_, (show h.get? a = some _ from x)⟩
  | met f y => exact ⟨_, (show h.get? a = some _ from x)⟩
  | ext φ => exact x.2.1
/-- what is tracked lies in B, and B stays -/
theorem HOk.stays (x : HOk P w H h) (trk : ∀ b o, H b = some o → ∃ ob, B.get? b = some ob) (b1 : B.StaysIn h) (b2 : B.StaysIn h'') : HOk P w H h'' := fun a o e =>
  (x a o e).stay (fun b u hb q => by
    have z : ∃ ob, B.get? b = some ob := hb.elim (fun z => z ▸ trk a o e) fun z => trk b _ z
    obtain ⟨ob, e1⟩ := z
    have e2 := (b1 _ _ e1).symm.trans q
    cases e2
    exact b2 _ _ e1) (fun _ q => q) fun _ _ q => q
end
/-- the contexts of an exception, to their end -/
inductive Chn (B : Heap) : Value → Prop where
  | nil : Chn B .none
  | cons {c : Addr} {o : Obj} {vs : Array Value} {ctx : Value} : B.get? c = some o → o.data = .fields vs → vs[2]? = some ctx → Chn B ctx → Chn B (.ref c)
theorem Chn.mono {B B' : Heap} {ctx : Value} (x : Chn B ctx) (k : ∀ b o, B.get? b = some o → B'.get? b = some o) : Chn B' ctx := by
  induction x with
  | nil => exact .nil
  | cons h1 h2 h3 _ ih => exact .cons (k _ _ h1) h2 h3 ih
/-- the exception at e flies over the frames l; B: what stood when it was made, but the frames -/
structure Fly (l : List Env) (H : Hp) (e : Addr) (cls : Value) (B h : Heap) : Prop where
  fly : ∃ ctx, FlyC B l e cls ctx .none h ∧ Chn B ctx
  trk : ∀ b o, H b = some o → ∃ ob, B.get? b = some ob
  noe : H e = none
def CX1 (P : Program) (w : World) : CXT := fun outer H s E e s' => ∃ (ea : Addr) (cls : Value) (H' : Hp) (B : Heap), e = .ref ea ∧ s'.os = s.os ∧ AllBare s'.gens ∧ Un (frs outer) [] H H' s.heap s'.heap ∧ HOk P w H' s'.heap ∧
  Fly outer H' ea cls B s'.heap ∧ (∀ b o, s.heap.get? b = some o → b ∉ frs outer → ∃ ob, B.get? b = some ob) ∧ E cls none H'
section
variable {X : Cx} {pins : List (Addr × Obj)} {σ : St} {H : Hp} {s : Shared} {B h'' : Heap}
theorem Inv.un_fly (J : Inv X pins σ H s) (hex : X.ex = []) (b1 : B.StaysIn s.heap) (b2 : B.StaysIn h'') (up : s.heap.UpToSlots h'') (inB : ∀ b o, X.s₀.heap.get? b = some o → b ∉ X.fs → ∃ ob, B.get? b = some ob) :
    Un X.fs [] X.H₀ H X.s₀.heap h'' where
  keep := fun b o e n hb _ => by
    have e1 := J.base.keep b o e n hb (by rw [hex]; simp)
    obtain ⟨ob, eb⟩ := inB b o e hb
    have e2 := (b1 _ _ eb).symm.trans e1
    cases e2
    exact b2 _ _ eb
  slot := fun b o e n hb _ => by
    obtain ⟨sl, e1⟩ := J.base.slot b o e n hb (by rw [hex]; simp)
    obtain ⟨_, o2, ho2, hd⟩ := J.funs.mem hb
    rw [e1] at ho2
    cases ho2
    obtain ⟨sl2, e2⟩ := up b _ e1 hd
    exact ⟨sl2, e2⟩
  free := fun b o e n _ => J.base.free b o e n (by rw [hex]; simp)
  there := fun b o e _ => by
    by_cases hb : b ∈ X.fs
    · obtain ⟨_, o2, ho2, hd⟩ := J.funs.mem hb
      obtain ⟨sl, e2⟩ := up b o2 ho2 hd
      exact ⟨_, e2⟩
    · obtain ⟨ob, eb⟩ := inB b o e hb
      exact ⟨ob, b2 _ _ eb⟩
  tups := J.base.tups
  frzs := J.base.frzs
  tbls := J.base.tbls
theorem Inv.notFr (J : Inv X pins σ H s) {b : Addr} {o : Obj} (e : X.s₀.heap.get? b = some o) (hb : b ∉ X.fs) : b ∉ frs X.stack := fun z => by
  rcases List.mem_cons.mp (J.stkSub b z) with q | q
  · exact absurd (Nat.lt_of_lt_of_le (Heap.lt_size e) J.ok.above) (by rw [q]; exact Nat.lt_irrefl _)
  · exact hb q
/-- all but the frames that run -/
def under (X : Cx) (s : Shared) : Heap := PySem.W.hideAll s.heap (frs X.stack)
theorem under_in {b : Addr} {o : Obj} (e : s.heap.get? b = some o) (hb : b ∉ frs X.stack) : (under X s).get? b = some o := PySem.W.hideAll_get _ e hb
theorem under_stays : (under X s).StaysIn s.heap := fun b o q => PySem.W.of_hideAll _ q
theorem Inv.under_frames (J : Inv X pins σ H s) : s.heap.FunFrames (under X s) X.stack := PySem.W.funFrames_hide J.stack fun env he a ha => List.mem_filterMap.mpr ⟨env, he, ha⟩
theorem Inv.under_trk (J : Inv X pins σ H s) : ∀ b o, H b = some o → ∃ ob, (under X s).get? b = some ob := fun b o e => by
  obtain ⟨ob, q⟩ := (J.hok b o e).there
  exact ⟨ob, under_in q fun z => by rw [J.stkFree b z] at e; cases e⟩
end
/-- a new exception: all else is kept -/
structure MadeC (h h' : Heap) (e : Addr) (cls ctx : Value) : Prop where
  keeps : ∀ b o, h.get? b = some o → h'.get? b = some o
  new : h.get? e = none
  rcd : ∃ oe vs, h'.get? e = some oe ∧ oe.cls = cls ∧ oe.data = .fields vs ∧ vs[1]? = some .none ∧ vs[2]? = some ctx
theorem MadeC.of {h h' : Heap} {e : Addr} {cls : Value} {args : List Value} (x : Heap.MadeExcOf h h' e cls args) : MadeC h h' e cls .none := by
  obtain ⟨t, he, _⟩ := x.there
  exact ⟨x.keeps, x.new, _, _, he, rfl, rfl, rfl, rfl⟩
/-- the body of a def, whose exceptions leave it -/
structure Thr (X : Cx) (E : XK) : Prop where
  new : ∀ (pins : List (Addr × Obj)) (σ : St) (H : Hp) (s : Shared) (h' : Heap) (e C : Addr) (ctx : Value), Inv X pins σ H s → MadeC s.heap h' e (.ref C) ctx → Chn (under X s) ctx → E (.ref C) none H → X.xe (.ref e) { s with heap := h' }
  on : Passes (CX1 X.prog X.w) X E
  own : PassesOwn (model X.prog X.w) X.A X.env X.xe
  ownAt : ∀ hd, PassesOwnAt (model X.prog X.w) (X.A.mark hd) X.A X.env X.xe
theorem thr_def {P : Program} {w : World} {K : PySem.W.Frag} {mg : Str → Option Value} {base : Heap} {N : List Str} {qual : Str} {scope : Scope} {f : Addr} {cd : Value} {A : Around} {outer : List Env} {s : Shared} {H : Hp} {E : XK} :
    Thr (cxOf (CX1 P w) P w K mg base N qual scope f cd A outer s H E) E where
  own := PassesOwn.leaving
  ownAt := fun _ => PassesOwnAt.leaving
  new := by
    intro pins σ H1 s1 h' e C ctx I hx hch hE
    have fr : (under (cxOf (CX1 P w) P w K mg base N qual scope f cd A outer s H E) s1).StaysIn s1.heap := under_stays
    have hn : (under (cxOf (CX1 P w) P w K mg base N qual scope f cd A outer s H E) s1).get? e = none := by
      cases q : (under (cxOf (CX1 P w) P w K mg base N qual scope f cd A outer s H E) s1).get? e with
      | none => rfl
      | some o =>
        have z := fr _ _ q
        rw [hx.new] at z
        cases z
    obtain ⟨oe, vs, he, hc, hd, h1, h2⟩ := hx.rcd
    refine leaveC0 (outer := outer) I.ok.frames (I.under_frames.of_keeps fun b o hb _ => ⟨o, hx.keeps b o hb, rfl⟩) rfl (fun b o q => hx.keeps b o (fr b o q)) hn he hc hd h1 h2 fun h'' x1 x4 => ?_
    have up : s1.heap.UpToSlots h'' := (Heap.UpToSlots.of_keeps hx.keeps).trans x4
    have inB : ∀ b o, s.heap.get? b = some o → b ∉ frs outer → ∃ ob, (under (cxOf (CX1 P w) P w K mg base N qual scope f cd A outer s H E) s1).get? b = some ob := fun b o eb hb => by
      obtain ⟨o', e'⟩ := I.base.there b o eb (by intro z; cases z)
      exact ⟨o', under_in e' (I.notFr eb hb)⟩
    refine ⟨e, .ref C, H1, _, rfl, I.os, I.bare, I.un_fly rfl fr x1.stays up inB, I.hok.stays I.under_trk fr x1.stays, ⟨⟨ctx, x1, hch⟩, I.under_trk, ?_⟩, inB, hE⟩
    cases q : H1 e with
    | none => rfl
    | some o =>
      obtain ⟨ob, z⟩ := (I.hok e o q).there
      rw [hx.new] at z
      cases z
  on := by
    intro pins σ H1 s1 e s' I hc
    obtain ⟨ea, cls, H', B, rfl, os, bare, un, hok, F, inB, hE⟩ := hc
    have J := I.call' os un hok bare fun b z => absurd z (by simp)
    obtain ⟨ctx, fl, hch⟩ := F.fly
    refine leaveC (outer := outer) I.ok.frames rfl fl fun h'' x1 x2 => ?_
    have inB' : ∀ b o, s.heap.get? b = some o → b ∉ frs outer → ∃ ob, B.get? b = some ob := fun b o eb hb => by
      obtain ⟨o', e'⟩ := I.base.there b o eb (by intro z; cases z)
      exact inB b o' e' (I.notFr eb hb)
    exact ⟨ea, cls, H', B, rfl, J.os, J.bare, J.un_fly rfl fl.stays x1.stays x2 inB', hok.stays F.trk fl.stays x1.stays, ⟨⟨ctx, x1, hch⟩, F.trk, F.noe⟩, inB', hE⟩
/-- THE RULE for a def that may raise -/
theorem Fun.okX {P : Program} {w : World} {K : PySem.W.Frag} {mg : Str → Option Value} {base : Heap} {x qual : Str} {st : Stmt} {f : Addr} {fd : FuncData} {N ps : List Str} {k : Nat} {sp : Sp} (F : Fun K x qual st f fd) (S : FnScope N ps (defScope st)) (len : ∀ vs H Q E, sp vs H Q E → vs.length = ps.length)
    (hbody : ∀ (cdv : Value) (A : Around) (outer : List Env) (s : Shared) (H : Hp) (vs : List V) (Q : VK) (E : XK), Room k (A.deeper (envOfC qual (defScope st) s.heap.objs.size f cdv)) → sp vs H Q E →
      Thr (cxOf (CX1 P w) P w K mg base N qual (defScope st) f cdv A outer s H E) E →
      ∃ t, PSs (cxOf (CX1 P w) P w K mg base N qual (defScope st) f cdv A outer s H E) (defBody st) t ∧ t { nx := fun _ H' => Q .non H', rt := Q } (start N vs) H) : FnOk P w K mg base (CX1 P w) (k + 1) f fd ps sp := by
  obtain ⟨oc, od, kV, doc, pm, an, cdv, ct, osl, rfl, lk, hcd⟩ := F.ex
  exact fn_of lk hcd S len fun A outer s H vs Q E hr hsp => hbody cdv A outer s H vs Q E hr hsp thr_def

/-! ### raise C("..") of an own class under ValueError -/
abbrev veTail : List Value := [.type "ValueError", .type "Exception", .type "BaseException", .type "object"]
theorem exc_obj {K : PySem.W.Frag} {h : Heap} {C : Addr} {bmB : List Value} {newId : String} (X : K.In h) (q : PySem.W.excIn K C bmB newId = true) :
    ∃ bm N nm qn bs hdct sn sub ab col dd k0 k1 k2 k3 k5 mN, h.get? C = some (excClassObj nm qn C N bs bm hdct sn sub ab col dd k0 k1 k2 k3 k5 newId) ∧ h.Ns N mN ∧ mN "__init__" = none ∧ OwnTail h bmB bm := by
  unfold PySem.W.excIn at q
  split at q
  · rename_i ddx cdx slx hlook
    split at q
    · rename_i Cx bmx j0 j1 j2 j3 nx j5 hmro hslots
      simp only [beq_iff_eq, Bool.and_eq_true, Bool.not_eq_true'] at q
      obtain ⟨⟨⟨⟨⟨eC, eN⟩, edel⟩, etl⟩, eok⟩, eni⟩ := q
      subst eC
      subst eN
      obtain ⟨f1, f2, f3, f4, f5, f6, f7, f8, f9, f10, f11⟩ := cdx
      have e1 : f3 = _ := hmro
      have e2 : f11 = false := edel
      subst e1
      subst e2
      obtain ⟨lst⟩ := slx
      have e3 : lst = _ := hslots
      subst e3
      exact ⟨bmx, f4, f1, f5, f2, f6, f7, f8, f9, f10, ddx, j0, j1, j2, j3, j5, _, X _ _ hlook, .of_isNs (PySem.W.isNs_of_in X eok), PySem.W.nsMap_none_of_in X eok eni, PySem.W.tail_of_in X etl⟩
    · cases q
  · cases q
def tRaise (C : Addr) (E : XK) (t : TA) : TS := fun _ σ H => t σ H fun vs H1 => vs.length ≤ sizeLine ∧ E (.ref C) none H1
theorem ps_raise {X : Cx} {x : Str} {np cpos pos : Pos} {e : Expr} {es : List Expr} {t : TA} {C : Addr} {E : XK} (T : Thr X E) (hh : X.A.handled = none) (hg : Gl X x) (hm : X.mg x = some (.ref C)) (hc : PySem.W.excIn X.K C veTail "ValueError.__new__" = true) (ha : PA X (e :: es) t)
    (hdb : (x == ("__debug__" : Str)) = false := by decide) (he : starEach (e :: es) X.env = (false, eval e X.env) :: starEach es X.env := by rfl) (hpl : (backTo cpos (starEach es X.env)).any (·.1) = false := by rfl) :
    PS X (.Raise (some (.Call (.Name x np) (e :: es) [] cpos)) none pos) (tRaise C E t) := by
  intro pins s σ H D I h
  obtain ⟨bm, N, nm, qn, bs, hdct, sn, sub, ab, col, dd, k0, k1, k2, k3, k5, mN, hC, hN, hni, hT⟩ := exc_obj I.mod.kin hc
  have hB : bm.contains (.type "BaseException") = true := hT.hasType PySem.F.excBase_ValueError.hasBase
  refine wpAny_Raise_call_subT (k5 := k5) (k3 := k3) (k2 := k2) (k1 := k1) (k0 := k0) (dd := dd) (col := col) (ab := ab) (sub := sub) (sn := sn) (hdct := hdct) (bs := bs) (N := N) (q := qn) (nm := nm) (bm := bm) (C := C) PySem.F.excBase_ValueError (mN := mN) hB hh (by rw [he]; show (false || (backTo cpos (starEach es X.env)).any (·.1)) = false; rw [hpl]; rfl) hni (ld_glob I hg hm ⟨rfl, ?_⟩ hdb)
  have hA := ha cpos pins s σ H _ I h
  rw [he] at hA ⊢
  refine Calls.evalArgs_plain (thn hA fun us s2 q2 => ?_)
  obtain ⟨vs, H2, I2, r, hz, hE⟩ := q2
  exact ⟨rfl, by rw [← r.length]; exact hz, I2.bk _ _ hC, hN.keeps I2.bk, hT.keeps I2.bk, fun h' e' hx => T.new pins σ H2 s2 h' e' C .none I2 (.of hx) .nil hE⟩
end L2

namespace L2
open PySem PySem.Spec PyProof.Rows
/-! ### what may raise, asked at one state -/
def Held (X : Cx) (pins : List (Addr × Obj)) (B : Heap) : Prop := (∀ b o, X.s₀.heap.get? b = some o → b ∉ X.ex → b ∉ X.fs → ∃ ob, B.get? b = some ob) ∧ ∀ p ∈ X.pn ++ pins, ∃ ob, B.get? p.1 = some ob
def XP (X : Cx) (pins : List (Addr × Obj)) (σ : St) (Ex : XK) (e : Value) (s' : Shared) : Prop :=
  ∃ (ea : Addr) (cls : Value) (H' : Hp) (B : Heap), e = .ref ea ∧ Inv X pins σ H' s' ∧ Fly X.stack H' ea cls B s'.heap ∧ Held X pins B ∧ Ex cls none H'
section
variable {X : Cx} {pins : List (Addr × Obj)} {σ : St} {H : Hp} {s : Shared} {B h'' : Heap}
theorem Inv.held (I : Inv X pins σ H s) (inB : ∀ b o, s.heap.get? b = some o → b ∉ frs X.stack → ∃ ob, B.get? b = some ob) : Held X pins B := by
  refine ⟨fun b o e hx hb => ?_, fun p hp => ?_⟩
  · obtain ⟨o', e'⟩ := I.base.there b o e hx
    exact inB b o' e' (I.notFr e hb)
  · obtain ⟨e, n, ne, nf, d⟩ := I.pin p hp
    exact inB _ _ e fun z => by
      rcases List.mem_cons.mp (I.stkSub _ z) with q | q
      · exact ne q
      · exact nf q
/-- the exception has landed (or was looked at): nothing of ours has changed -/
theorem Inv.landed (J : Inv X pins σ H s) (hB : Held X pins B) (trk : ∀ b o, H b = some o → ∃ ob, B.get? b = some ob) (b1 : B.StaysIn s.heap) (b2 : B.StaysIn h'') (up : s.heap.UpToSlots h'') : Inv X pins σ H { s with heap := h'' } := by
  have exact_ : ∀ b o, s.heap.get? b = some o → (∃ ob, B.get? b = some ob) → h''.get? b = some o := fun b o e z => by
    obtain ⟨ob, eb⟩ := z
    have e2 := (b1 _ _ eb).symm.trans e
    cases e2
    exact b2 _ _ eb
  have cellK : ∀ c v, s.heap.IsCell c v → h''.IsCell c v := fun c v z => by
    obtain ⟨o, ho, hd⟩ := z
    obtain ⟨sl, e⟩ := up c o ho fun ws q => by rw [hd] at q; cases q
    exact ⟨_, e, hd⟩
  refine ⟨J.ok, J.os, J.bare, ⟨fun b o e n hb hx => ?_, fun b o e n hb hx => ?_, J.base.free, fun b o e hx => ?_, J.base.tups, J.base.frzs, J.base.tbls⟩, ?_, fun x c e => ?_, J.free, J.freeC, fun p hp => ?_, J.hok.stays trk b1 b2, J.len⟩
  · exact exact_ b o (J.base.keep b o e n hb hx) (hB.1 b o e hx hb)
  · obtain ⟨sl, e1⟩ := J.base.slot b o e n hb hx
    obtain ⟨_, o2, ho2, hd⟩ := J.funs.mem hb
    rw [e1] at ho2
    cases ho2
    obtain ⟨sl2, e2⟩ := up b _ e1 hd
    exact ⟨sl2, e2⟩
  · by_cases hb : b ∈ X.fs
    · obtain ⟨_, o2, ho2, hd⟩ := J.funs.mem hb
      obtain ⟨sl, e2⟩ := up b o2 ho2 hd
      exact ⟨_, e2⟩
    · obtain ⟨ob, eb⟩ := hB.1 b o e hx hb
      exact ⟨ob, b2 _ _ eb⟩
  · obtain ⟨m, hn, hl⟩ := J.loc
    refine ⟨m, up.ns hn, fun i x v e1 e2 e3 => ?_⟩
    obtain ⟨u, r, l⟩ := hl i x v e1 e2 e3
    refine ⟨u, r, ?_⟩
    rcases l with l | ⟨k, c, e, z⟩
    · exact .inl l
    · exact .inr ⟨k, c, e, cellK c _ z⟩
  · obtain ⟨v, z⟩ := J.cell x c e
    exact ⟨v, cellK c v z⟩
  · obtain ⟨e, n, ne, nf, d⟩ := J.pin p hp
    exact ⟨exact_ _ _ e (hB.2 p hp), n, ne, nf, d⟩
/-- an exception that was caught: its class -/
def excO (a C : Addr) : HO := .ext fun h => ∃ o vs, h.get? a = some o ∧ o.cls = .ref C ∧ o.data = .fields vs
theorem Inv.track {a C : Addr} {ob : Obj} {vs : Array Value} (J : Inv X pins σ H s) (hn : H a = none) (h0 : X.s₀.heap.get? a = none) (ho : s.heap.get? a = some ob) (hc : ob.cls = .ref C) (hd : ob.data = .fields vs) (hp : ∀ p ∈ X.pn ++ pins, p.1 ≠ a) :
    Inv X pins σ (upd H a (excO a C)) s := by
  have other : ∀ b u, H b = some u → upd H a (excO a C) b = some u := fun b u q => by rw [upd_ne (ne_of_none q hn)]; exact q
  have nel : X.env.locals ≠ a := fun z => by
    obtain ⟨m, ⟨o, es, ep, h1, h2, _⟩, _⟩ := J.loc
    rw [z, ho] at h1
    cases h1
    rw [hd] at h2
    cases h2
  have nec : ∀ x c, X.env.cells.lookup x = some c → c ≠ a := fun x c e z => by
    obtain ⟨v, o, h1, h2⟩ := J.cell x c e
    rw [z, ho] at h1
    cases h1
    rw [hd] at h2
    cases h2
  refine ⟨J.ok, J.os, J.bare, ⟨J.base.keep, J.base.slot, fun b o e n hx => ?_, J.base.there, fun b xs q => other _ _ (J.base.tups b xs q), fun b o u q => other _ _ (J.base.frzs b o u q), fun b ps q => ?_⟩, J.loc, J.cell, ?_, fun x c e => ?_, fun p q => ?_, fun b u e => ?_, J.len⟩
  · rw [upd_ne fun z => by rw [z, h0] at e; cases e]
    exact J.base.free b o e n hx
  · obtain ⟨more, e⟩ := J.base.tbls b ps q
    exact ⟨more, other _ _ e⟩
  · rw [upd_ne nel]
    exact J.free
  · rw [upd_ne (nec x c e)]
    exact J.freeC x c e
  · obtain ⟨e, n, r⟩ := J.pin p q
    exact ⟨e, by rw [upd_ne (hp p q)]; exact n, r⟩
  · by_cases hb : b = a
    · subst hb
      rw [upd_same] at e
      cases e
      exact ⟨⟨ob, vs, ho, hc, hd⟩, ⟨ob, ho⟩, fun h1 h2 ⟨o, ws, e1, e2⟩ k => ⟨o, ws, k _ e1, e2⟩⟩
    · rw [upd_ne hb] at e
      exact (J.hok b u e).stay (fun _ _ _ q => q) (fun c q => other _ _ q) fun c xs q => other _ _ q
/-- the context of an except suite from which nothing is raised -/
def hCx (X : Cx) (e : Addr) : Cx := { X with A := X.A.mark (some (.ref e)), calm := false, xe := fun _ _ => False }
theorem Inv.inH {e : Addr} (J : Inv X pins σ H s) : Inv (hCx X e) pins σ H s :=
  ⟨⟨J.ok.mod, J.ok.kind, J.ok.glob, J.ok.blt, J.ok.above, J.ok.inj, J.ok.has, J.ok.cab, fun z => Bool.noConfusion z, J.ok.frames, J.ok.stk, J.ok.exf, J.ok.bs, J.ok.bsz, J.ok.noex, J.ok.exfs, J.ok.funs, J.ok.frf⟩, J.os, J.bare, J.base, J.loc, J.cell, J.free, J.freeC, J.pin, J.hok, J.len⟩
theorem Inv.outH {e : Addr} (ok : X.Ok) (J : Inv (hCx X e) pins σ H s) : Inv X pins σ H s := ⟨ok, J.os, J.bare, J.base, J.loc, J.cell, J.free, J.freeC, J.pin, J.hok, J.len⟩
/-- the name behind 'as' goes -/
theorem name_gone {M : Model} {A : Around} {E : Value → Shared → Prop} {i : Nat} {n : Str} {pos : Pos} {Q : Unit → Shared → Prop} (J : Inv X pins σ H s) (hN : X.N.Nodup) (hi : X.N[i]? = some n) (hlo : X.env.kindOf n = some .local)
    (h : ∀ s', Inv X pins (σ.set i none) H s' → Q () s') : wpAny M A (do bindName X.env n .none; unbindBehindTheSuite X.env n pos) Q E s := by
  obtain ⟨m, hn, hl⟩ := J.loc
  refine wpAny_nameGoes_keeps hlo hn (by rw [J.ok.kind]; rfl) fun h' v hn' hs => h _ ?_
  have hiσ : i < σ.length := by rw [J.len]; exact (List.getElem?_eq_some_iff.mp hi).1
  obtain ⟨oL, esL, epL, hoL, hdL, _⟩ := id hn
  have neB : ∀ b o, X.s₀.heap.get? b = some o → b ≠ X.env.locals := fun b o e => Nat.ne_of_lt (Nat.lt_of_lt_of_le (Heap.lt_size e) J.ok.above)
  refine ⟨J.ok, J.os, J.bare, ⟨fun b o e k hb hx => ?_, fun b o e k hb hx => ?_, J.base.free, fun b o e hx => ?_, J.base.tups, J.base.frzs, J.base.tbls⟩, ⟨_, hn', fun j y v' e1 e2 e3 => ?_⟩, fun y c e => ?_, J.free, J.freeC, fun p hp => ?_, fun b ob e => ?_, by simpa using J.len⟩
  · exact (hs.2 b (neB b o e)).trans (J.base.keep b o e k hb hx)
  · obtain ⟨sl, q⟩ := J.base.slot b o e k hb hx
    exact ⟨sl, (hs.2 b (neB b o e)).trans q⟩
  · obtain ⟨o', q⟩ := J.base.there b o e hx
    exact ⟨o', (hs.2 b (neB b o e)).trans q⟩
  · by_cases hj : j = i
    · subst hj
      rw [List.getElem?_set_self hiσ] at e2
      cases e2
    · rw [List.getElem?_set_ne (Ne.symm hj)] at e2
      obtain ⟨u', r', q⟩ := hl j y v' e1 e2 e3
      refine ⟨u', r', ?_⟩
      have hy : y ≠ n := fun z => hj (nodup_ix hN e1 (z ▸ hi))
      rcases q with ⟨k, e⟩ | ⟨k, c, e, z⟩
      · exact .inl ⟨k, by simp [hy, e]⟩
      · exact .inr ⟨k, c, e, z.sameBut hs (J.cne y c e)⟩
  · obtain ⟨w', z⟩ := J.cell y c e
    exact ⟨w', z.sameBut hs (J.cne y c e)⟩
  · obtain ⟨e, k, ne, nf, d⟩ := J.pin p hp
    exact ⟨(hs.2 p.1 ne).trans e, k, ne, nf, d⟩
  · refine (J.hok b ob e).stay (fun c w' hc q => (hs.2 c ?_).trans q) (fun _ q => q) fun _ _ q => q
    rintro rfl
    have fr := J.free
    rcases hc with hc | hc
    · rw [hc, e] at fr
      cases fr
    · rw [hc] at fr
      cases fr
end
/-! ### the judgements with an exception's wish -/
def PEX (X : Cx) (e : Expr) (t : XK → TE) : Prop :=
  ∀ (pins : List (Addr × Obj)) (s : Shared) (σ : St) (H : Hp) (Q : VK) (Ex : XK), Inv X pins σ H s → t Ex σ H Q → wpAny (model X.prog X.w) X.A (eval e X.env) (EP X pins σ Q) (XP X pins σ Ex) s
def PSX (X : Cx) (st : List Stmt) (t : XK → TS) : Prop :=
  ∀ (pins : List (Addr × Obj)) (s : Shared) (σ : St) (H : Hp) (D : Ends) (Ex : XK), Inv X pins σ H s → t Ex D σ H → wpAny (model X.prog X.w) X.A (execs st X.env) (SP X pins D) (XP X pins σ Ex) s
section
variable {X : Cx} {k : Nat} {f : Addr} {fd : FuncData} {ps : List Str} {sp : Sp} {dvs : List V} {ds : List Value} {x : Str} {p pos : Pos} {e : Expr} {es : List Expr} {t : TA}
theorem run_fnX {pins : List (Addr × Obj)} {σ : St} {H : Hp} {s : Shared} {Q : VK} {Ex : XK} {us : List Value} {vs : List V} (F : FnOk X.prog X.w X.K X.mg X.base (CX1 X.prog X.w) k f fd ps sp) (hr : Room k X.A) (hb : Binds X.K fd ps ds) (hd : Vals dvs ds)
    (I : Inv X pins σ H s) (r : Vals vs us) (h : sp (vs ++ dvs) H Q Ex) : wpAny (model X.prog X.w) X.A (call (.ref f) us) (EP X pins σ Q) (XP X pins σ Ex) s := by
  have r2 : Vals (vs ++ dvs) (us ++ ds) := r.append hd
  have hl : (us ++ ds).length = ps.length := by rw [← r2.length]; exact F.len _ _ _ _ h
  refine wpAny_call (codeAny_mono (F.run X.A X.stack s H ⟨us, []⟩ (us ++ ds) (vs ++ dvs) Q Ex hr I.env0 (hb s us I.kIn hl) r2 h) fun r s' hq => ?_)
  cases r with
  | error e =>
    obtain ⟨ea, cls, H', B, rfl, os, bare, un, hok, F, inB, hE⟩ := hq
    exact ⟨ea, cls, H', B, rfl, I.call' os un hok bare fun b z => absurd z (by simp), F, I.held inB, hE⟩
  | ok fl =>
    cases fl with
    | ret u => exact I.after hq
    | next => exact False.elim hq
    | brk => exact False.elim hq
    | cont => exact False.elim hq
theorem pex_call (F : FnOk X.prog X.w X.K X.mg X.base (CX1 X.prog X.w) k f fd ps sp) (hr : Room k X.A) (hg : Gl X x) (hm : X.mg x = some (.ref f)) (hk : PySem.W.keepIn X.K (.ref f) = true) (hb : Binds X.K fd ps ds) (hd : Vals dvs ds)
    (ha : PA X.nox (e :: es) t) (hdb : (x == ("__debug__" : Str)) = false := by decide) (he : starEach (e :: es) X.env = (false, eval e X.env) :: starEach es X.env := by rfl) (hpl : (backTo pos (starEach es X.env)).any (·.1) = false := by rfl) :
    PEX X (.Call (.Name x p) (e :: es) [] pos) (fun Ex => tCall sp dvs Ex t) := by
  intro pins s σ H Q Ex I h
  refine wpAny_Call_Name_kw (ld_glob I hg hm ?_ hdb)
  refine PySem.W.callWith_K (h₀ := X.base) I.ok.mod.kin hk (wpAny_mono (ha pos pins s σ H _ (I.wish _) h) (fun us s1 ⟨vs, H1, I1, r, q⟩ => ⟨I1.unwish.kIn, ?_⟩) fun _ _ z => False.elim z) he hpl
  exact run_fnX F hr hb hd I1.unwish r q
theorem psx_set {i : Nat} {y : Str} {te : XK → TE} {pos' : Pos} (hN : X.N.Nodup) (hi : X.N[i]? = some y) (hx : Loc X.env.scope y) (he : PEX X e te) (hs : swapsWith e (some (.Name y pos')) pos.line X.env = pure false := by rfl)
    (hf : X.fn y = true ∨ X.env.scope.names.lookup y = some .local := by first | exact .inl rfl | exact .inr rfl | assumption) : PSX X [.Assign [.Name y pos'] e pos] (fun Ex => tAsg (te Ex) (gName i)) := by
  intro pins s σ H D Ex I h
  refine wpAny_execs_cons (wpAny_Assign_Name (thn (he pins s σ H _ Ex I h) fun v s1 ⟨z, H1, I1, r1, q1⟩ => ?_) hs)
  refine store_ok I1 hN hi hx r1 (fun s2 I2 => ?_) hf
  exact wpAny_execs_nil ⟨_, H1, I2, q1⟩
end
theorem FlyC.looks {M : Model} {base h : Heap} {l : List Env} {e : Addr} {cls ctx fl : Value} (x : FlyC base l e cls ctx fl h) : PySem.W.Looks M h (typeOf (.ref e)) cls := by
  obtain ⟨oe, vs, _, _, _, ⟨ho, hc, _⟩, _⟩ := x.rcd
  exact hc ▸ (PySem.W.Looks.ld ho).andThen .now
/-! ### try: .. except T as n: .. -/
def tTryAs (K : PySem.W.Frag) (tb : XK → TS) (i : Nat) (CT : Value) (th : TS) : TS := fun D σ H =>
  tb (fun cls _ H1 => PySem.W.exmOne K cls CT = some true ∧ ∃ C, cls = .ref C ∧ ∀ ea, H1 ea = none →
    th { nx := fun σ' H' => D.nx (σ'.set i none) H', rt := D.rt, bk := fun σ' H' => D.bk (σ'.set i none) H', ct := fun σ' H' => D.ct (σ'.set i none) H' } (σ.set i (some (.ref ea))) (upd H1 ea (excO ea C))) D σ H
theorem ps_tryAs {X : Cx} {body : List Stmt} {T n : Str} {np hpos pos : Pos} {b₀ : Stmt} {suite : List Stmt} {CT : Addr} {tb : XK → TS} {th : TS} {i : Nat} (hst : X.stack = X.env :: X.outer) (hfr : X.env.frame = some X.env.locals) (hex : X.ex = []) (hN : X.N.Nodup) (hi : X.N[i]? = some n)
    (hlo : X.env.kindOf n = some .local) (hb : PSX X body tb) (hg : Gl X T) (hm : X.mg T = some (.ref CT)) (hs : ∀ e, PSs (hCx X e) (b₀ :: suite) th) (hdb : (T == ("__debug__" : Str)) = false := by decide) :
    PS X (.Try body [.ExceptHandler (some (.Name T np)) (some n) (b₀ :: suite) hpos] [] [] pos) (tTryAs X.K tb i (.ref CT) th) := by
  intro pins s σ H D I h
  refine wpAny_Try_except (wpAny_mono (hb pins s σ H D _ I h) (fun f s1 hq => ?_) fun e s1 hx => ?_)
  · cases f with
    | next => exact wpAny_execs_nil hq
    | brk => exact hq
    | cont => exact hq
    | ret u => exact hq
  obtain ⟨ea, cls, H1, B, rfl, J, F, hB, hm1, C, rfl, hth⟩ := hx
  obtain ⟨ctx, fl, hch⟩ := F.fly
  rw [hst] at fl
  refine noteC (by rw [J.ok.frames, hst]) hfr fl fun h4 held4 up4 => landC held4 fun h5 fl5 up5 => ?_
  have J5 : Inv X pins σ H1 { s1 with heap := h5 } := J.landed hB F.trk fl.stays fl5.stays (up4.trans up5)
  have LT : PySem.W.Looks (model X.prog X.w) h5 (typeOf (.ref ea)) (.ref C) := fl5.looks
  refine wpAny_handleBy_cons (codeAny_handlers_test (ld_glob (X := hCx X ea) J5.inH hg hm ?_ hdb)) (by intro q; cases q)
  refine (PySem.W.exm_one J5.kIn LT hm1).here ?_
  show codeAny (model X.prog X.w) (X.A.mark (some (.ref ea))) (.handlers (.ref ea) [.ExceptHandler none (some n) (b₀ :: suite) hpos] X.env) _ _
  refine codeAny_handlers_suite_as (landC fl5 fun h6 fl6 up6 => ?_)
  have J6 : Inv X pins σ H1 { s1 with heap := h6 } := J.landed hB F.trk fl.stays fl6.stays ((up4.trans up5).trans up6)
  obtain ⟨oe, vs, _, _, _, ⟨ho, hc, hd, _, _⟩, _⟩ := fl6.rcd
  have h0 : X.s₀.heap.get? ea = none := by
    cases q : X.s₀.heap.get? ea with
    | none => rfl
    | some o =>
      by_cases hb : ea ∈ X.fs
      · obtain ⟨_, o2, ho2, hd2⟩ := J6.funs.mem hb
        rw [ho] at ho2
        cases ho2
        exact absurd hd (hd2 vs)
      · obtain ⟨ob, z⟩ := hB.1 ea o q (by rw [hex]; simp) hb
        rw [fl6.new] at z
        cases z
  have J7 : Inv X pins σ (upd H1 ea (excO ea C)) { s1 with heap := h6 } := J6.track F.noe h0 ho hc hd fun p hp z => by
    obtain ⟨ob, y⟩ := hB.2 p hp
    rw [z, fl6.new] at y
    cases y
  have J8 : Inv (hCx X ea) pins σ (upd H1 ea (excO ea C)) { s1 with heap := h6 } := J7.inH
  refine store_ok (X := hCx X ea) J8 hN hi (Or.inl hlo) (v := .ref ea) rfl (fun s7 I7 => ?_) (Or.inr hlo)
  refine wpAny_mono (hs ea pins s7 _ _ _ I7 (hth ea F.noe)) (fun fw s8 q8 => ?_) fun _ _ z => False.elim z
  show wpAny (model X.prog X.w) X.A (do bindName X.env n .none; unbindBehindTheSuite X.env n hpos) (fun _ s9 => SP X pins D fw s9) X.xe s8
  cases fw with
  | next =>
    obtain ⟨σ', H', I', q'⟩ := q8
    exact name_gone (I'.outH J.ok) hN hi hlo fun s' K' => ⟨_, H', K', q'⟩
  | brk =>
    obtain ⟨σ', H', I', q'⟩ := q8
    exact name_gone (I'.outH J.ok) hN hi hlo fun s' K' => ⟨_, H', K', q'⟩
  | cont =>
    obtain ⟨σ', H', I', q'⟩ := q8
    exact name_gone (I'.outH J.ok) hN hi hlo fun s' K' => ⟨_, H', K', q'⟩
  | ret u =>
    obtain ⟨v, σ', H', I', r', q'⟩ := q8
    exact name_gone (I'.outH J.ok) hN hi hlo fun s' K' => ⟨v, _, H', K', r', q'⟩
end L2

namespace L2
open PySem PySem.Spec PyProof.Rows Builtin Builtin.ObjectAttr Builtin.Getset_descriptor
/-! ### the class of an exception that was caught -/
structure ExcF (K : PySem.W.Frag) (C : Addr) : Prop where
  cl : (PySem.W.clsIn K C).isSome = true
  ga : PySem.W.findIn K (.ref C) "__getattribute__" = some (some (.builtin "BaseException.__getattribute__"))
  hk : PySem.W.findIn K (.ref C) "__getattr__" = some none
  cs : PySem.W.findIn K (.ref C) "__class__" = some (some (.builtin "object.__class__"))
  gt : PySem.W.specialIn K (.builtin "object.__class__") "__get__" = some (some (.builtin "getset_descriptor.__get__"))
  tk : PySem.W.takesIn K (.builtin "object.__class__") = some true
  mo : PySem.W.mroIn K C (.type "object") = some true
  mb : PySem.W.mroIn K C (.type "BaseException") = some true
def ExcAt (a C : Addr) (h : Heap) : Prop := ∃ o, h.get? a = some o ∧ o.cls = .ref C
theorem excAt_ty {a C : Addr} {M : Model} {h : Heap} (p : ExcAt a C h) : PySem.W.Looks M h (typeOf (.ref a)) (.ref C) := by
  obtain ⟨o, h1, h2⟩ := p
  exact h2 ▸ (PySem.W.Looks.ld h1).andThen .now
section
variable {prog : Program} {w : World} {A : Around} {E : Value → Shared → Prop} {K : PySem.W.Frag} {a C : Addr}
theorem excAt_get {s : Shared} {tp : Value} {R : Result → Shared → Prop} (F : ExcF K C) (X : K.In s.heap) (p : ExcAt a C s.heap) (h : R (.ok (.ret (.ref C))) s) :
    codeAny (model prog w) A (.call (.builtin "getset_descriptor.__get__") ⟨[.builtin "object.__class__", .ref a, tp], []⟩) R s := by
  obtain ⟨hh, g, dr, t, os⟩ := s
  have L0 := excAt_ty (M := model prog w) p
  have L1 := PySem.W.looks_mroIn (M := model prog w) X F.mo
  refine codeAny_call_builtin PySem.W.KF.slot_gs.plain PySem.W.KF.entry_gs (PySem.W.KF.slot_gs.check _ _ _ _ _ _ _ _ PySem.W.KF.type_class (PySem.W.KF.args_gs _ _ _) ?_)
  unfold Builtin.«getset_descriptor.__get__»
  unfold descrGet
  rw [PySem.W.dga_obj]
  refine wpAny_bind (wpAny_pure ?_)
  unfold descrGetter descrCheckInstance
  unfold descrNameAndClass isInstance
  simp only [PySem.W.KF.owner_class]
  repeat lk
  refine ⟨Code.quiet_builtin _ (by decide +kernel), codeAny_builtin PySem.W.KF.entry_class ?_⟩
  unfold Builtin.«object.__class__»
  unfold shownTypeOf
  repeat lk
  exact h
end
end L2

namespace L2
open PySem PySem.Spec PyProof.Rows Builtin Builtin.ObjectAttr Builtin.Getset_descriptor
section
variable {prog : Program} {w : World} {A : Around} {E : Value → Shared → Prop} {K : PySem.W.Frag} {a C : Addr}
theorem excAt_find {M : Model} {h : Heap} (F : ExcF K C) (X : K.In h) : PySem.W.Looks M h (Builtin.ObjectAttr.find (.ref a) (.ref C) "__class__") (.bind (.builtin "getset_descriptor.__get__") (.builtin "object.__class__")) := by
  have L1 := PySem.W.looks_findIn (M := M) X F.cs
  have L2 := PySem.W.looks_specialIn (M := M) X F.gt
  have L3 := PySem.W.looks_takesIn (M := M) X F.tk
  have L4 : PySem.W.Looks M h (Builtin.ObjectAttr.dataDescriptor? (some (.builtin "object.__class__")) (some (.builtin "getset_descriptor.__get__"))) (some (.builtin "getset_descriptor.__get__", .builtin "object.__class__")) := L3.andThen .now
  exact L1.andThen (L2.andThen (L4.andThen (PySem.W.Looks.tag .now)))
theorem excAt_check {M : Model} {s : Shared} {nameV : Value} {Q : Unit → Shared → Prop} (F : ExcF K C) (X : K.In s.heap) (p : ExcAt a C s.heap) (hq : Q () s) : wpAny M A (checkBuiltinCall "BaseException.__getattribute__" ⟨[.ref a, nameV], []⟩) Q E s := by
  have hk : builtinKind "BaseException.__getattribute__" = some .slot := by decide +kernel
  have hsplit : splitId "BaseException.__getattribute__" = some ("BaseException", "__getattribute__") := by decide +kernel
  have ha := PySem.F.args_bexc_ga (.ref a) nameV
  have LI : PySem.W.Looks M s.heap (isInstance (.ref a) (.type "BaseException")) true := (excAt_ty p).andThen (PySem.W.looks_mroIn X F.mb)
  simp only [checkBuiltinCall, hk, hsplit]
  refine wpAny_bind (LI.here ?_)
  obtain ⟨hh, g, d, t, os⟩ := s
  repeat (first | assumption | wp_step)
theorem excAt_entry {s : Shared} {tk : Tok} {Q : Fin → Shared → Prop} (F : ExcF K C) (X : K.In s.heap) (p : ExcAt a C s.heap) (hq : Q (.done (.ret (.ref C))) s) :
    wpAny (model prog w) A (Builtin.«object.__getattribute__» ⟨[.ref a, .str "__class__" tk], []⟩) Q E s := by
  obtain ⟨hh, g, d, t, os⟩ := s
  have L0 := excAt_ty (M := model prog w) p
  have L1 := excAt_find (a := a) (M := model prog w) F X
  unfold Builtin.«object.__getattribute__»
  repeat (first | (with_reducible refine wpAny_call (excAt_get F X p ?_)) | lk | wp_step)
  exact hq
theorem excAt_class {s : Shared} {Q : Option Value → Shared → Prop} (F : ExcF K C) (X : K.In s.heap) (p : ExcAt a C s.heap) (h : Q (some (.ref C)) { s with toks := s.toks + 1 }) : wpAny (model prog w) A (getAttr? (.ref a) "__class__") Q E s := by
  obtain ⟨hh, g, d, t, os⟩ := s
  have L0 := excAt_ty (M := model prog w) p
  have L1 := PySem.W.looks_findIn (M := model prog w) X F.ga
  have L2 := PySem.W.looks_findIn (M := model prog w) X F.hk
  have hb : bindSpecial (.builtin "BaseException.__getattribute__") (.ref a) = pure (.builtin "BaseException.__getattribute__", [.ref a]) := PySem.F.excAttr_ValueError.ga.bind (.ref a)
  unfold getAttr? getAttrBy? getAttrBy
  refine wpAny_bind (wpAny_mkText (wpAny_bind (wpAny_attempt (wpAny_holding (wpAny_bind (L0.at (wpAny_bind (L1.at ?_))))))))
  show wpAny _ _ (getAttrByItsOwn (.ref a) _ (.ref C) (.builtin "BaseException.__getattribute__") false false) _ _ _
  unfold getAttrByItsOwn hookBefore
  refine wpAny_bind ?_
  rw [if_pos (show onTheHeap (Value.ref C) = true from rfl)]
  refine L2.at ?_
  refine wpAny_bind (wpAny_attempt (wpAny_holding ?_))
  show wpAny _ _ (boundAndCalled (.builtin "BaseException.__getattribute__") (.ref a) _) _ _ _
  unfold boundAndCalled
  rw [hb]
  refine wpAny_bind (wpAny_pure ?_)
  refine wpAny_call (codeAny_call_builtin PySem.F.excAttr_ValueError.ga.plain PySem.F.entry_bexc_ga (excAt_check F X p (excAt_entry F X p ?_)))
  show wpAny (model prog w) A (handedOut (.ref C)) _ _ _
  exact PySem.W.handed_on rfl (wpAny_pure h)
theorem kitx_exc (F : ExcF K C) : PySem.W.KitX K (.ref a) (.ref C) (ExcAt a C) where
  ty := fun M h _ p => excAt_ty p
  it := fun M h X _ => by
    have z := F.cl
    unfold PySem.W.clsIn at z
    split at z
    · rename_i c1 d1 cd1 sl1 ho
      intro A1 Q1 E1 s1 k1 q1
      unfold isType loadHead
      exact wpAny_bind (wpAny_loadPart (k1 _ _ (X _ _ ho)) (wpAny_pure q1))
    · cases z
  ne := fun h tp dd its n sl X htp => by
    refine Bool.eq_false_iff.mpr fun q => ?_
    have e : C = tp := Value.ref.inj (beq_iff_eq.mp q)
    subst e
    have z := F.cl
    unfold PySem.W.clsIn at z
    split at z
    · rename_i c1 d1 cd1 sl1 ho
      have y := (X _ _ ho).symm.trans htp
      cases y
    · cases z
  ca := fun X p k => excAt_class F X p k
end
/-! ### isinstance(e, T) of a caught exception -/
def isC : V → Bool | .ref _ => true | .ty _ => true | _ => false
def toC : V → Value | .ref D => .ref D | .ty n => .type n | _ => .none
theorem toC_eq {c : V} {u : Value} (h : isC c = true) (r : RelV c u) : u = toC c := by
  cases c with
  | ref D => exact r
  | ty n => exact r
  | _ => cases h
theorem call_isX {X : Cx} : CallR X (.builtin "isinstance") (fun xs H Q => ∃ a C c b, xs = [.ref a, c] ∧ isC c = true ∧ H a = some (excO a C) ∧ ExcF X.K C ∧ PySem.W.kitOne X.K (.ref C) (toC c) = some b ∧ Q (.bl b) H) := by
  intro pins s σ H xs us Q I r h
  obtain ⟨a, C, c, b, rfl, hc, hH, F, e, q⟩ := h
  obtain ⟨u, w', rfl, r1, r2⟩ := vals2 r
  cases r1
  have e2 := toC_eq hc r2
  subst e2
  obtain ⟨⟨o, vs, e1, e3, e4⟩, _, _⟩ := I.hok a _ hH
  exact PySem.W.kia_one (kitx_exc F) I.kIn ⟨o, e1, e3⟩ e (fun z => nomatch z) fun tk => ⟨.bl b, H, I.tok tk, rfl, q⟩
end L2

namespace L2
open PySem PySem.Spec PyProof.Rows
/-! ### texts -/
section
variable {X : Cx} {pos : Pos}
theorem mt_find : MtR X "str.find" (fun x xs H Q => ∃ i j, x = .str i ∧ xs = [.str j] ∧ Q (.int (Txt.find i j)) H) := by
  intro pins s σ H x xs v us Q I rx rv h
  obtain ⟨i, j, rfl, rfl, q⟩ := h
  obtain ⟨t, rfl⟩ := rx
  obtain ⟨u, rfl, ru⟩ := rv.one
  obtain ⟨t', rfl⟩ := ru
  exact SC.find ⟨.int _, H, I.tok _, ⟨_, rfl⟩, q⟩
theorem mt_upper : MtR X "str.upper" (fun x xs H Q => ∃ i, x = .str i ∧ xs = [] ∧ i.length ≤ 1000 ∧ ∀ j : Str, j.length ≤ 3 * i.length → Q (.str j) H) := by
  intro pins s σ H x xs v us Q I rx rv h
  obtain ⟨i, rfl, rfl, hl, q⟩ := h
  obtain ⟨t, rfl⟩ := rx
  cases rv.zero
  exact SCL.upper (by omega) fun hz => ⟨.str _, H, I.tok _, ⟨_, rfl⟩, q _ hz⟩
/-! ### {} -/
theorem Inv.bigM {pins : List (Addr × Obj)} {σ : St} {H : Hp} {s : Shared} (I : Inv X pins σ H s) : sysModules < s.heap.objs.size := by
  have h : mainGlobals < s.heap.objs.size := (I.mod.glob.keeps I.bk).lt
  exact Nat.lt_trans (by decide) h
theorem dkE {P : Program} {w : World} {H : Hp} (h : Heap) (hb : sysModules < h.objs.size) : ObjOk P w H (h.push { cls := .type "dict", data := .dict #[] }) h.objs.size (.dK []) :=
  ⟨Nat.zero_le _, beq_eq_false_iff_ne.mpr (Ne.symm (Nat.ne_of_lt hb)), [], .nil, Heap.DictOf.new h⟩
def tDNew : TE := fun _ H Q => ∀ p, H p = none → Q (.ref p) (upd H p (.dK []))
theorem pe_dnew : PE X (.Dict [] [] pos) tDNew := fun pins s σ H Q I h =>
  wpAny_Dict_empty ⟨.ref s.heap.objs.size, _, I.laid (a := s.heap.objs.size) (o := .dK []) (t' := s.toks) (fun _ _ q => Heap.get?_push_of_some _ q) (Nat.le_refl _) (dkE s.heap I.bigM), rfl, h _ (I.hok.fresh (Nat.le_refl _))⟩
/-! ### a callee that may raise, asked where it does not -/
theorem pass1 {P : Program} {w : World} : Passes (CX1 P w) X E0 := fun _ _ _ _ _ _ _ h => by
  obtain ⟨_, _, _, _, _, _, _, _, _, _, _, z⟩ := h
  exact z.elim
end
end L2

namespace L2
open PySem PySem.Spec PyProof.Rows
/-! ### lists of texts -/
def vS (ys : List Str) : List V := ys.map V.str
theorem vS_len (ys : List Str) : (vS ys).length = ys.length := List.length_map _
theorem vals_values : ∀ l : List (Str × Tok), Vals (vS (l.map (·.1))) (strValues l)
  | [] => .nil
  | (x, t) :: r => .cons ⟨t, rfl⟩ (vals_values r)
theorem vals_from (tk : Nat) (xs : List Str) : Vals (vS xs) (strsFrom tk xs) := by
  rw [strsFrom_eq]
  have := vals_values (numbered tk xs)
  rwa [numbered_texts] at this
theorem strsAre_of : ∀ {ys : List Str} {us : List Value}, Vals (vS ys) us → StrsAre us ys
  | [], _, .nil => .nil
  | y :: r, _, .cons h t => by
    obtain ⟨tk, rfl⟩ := h
    exact .cons _ _ (strsAre_of t)
section
variable {X : Cx}
/-! ### join, split -/
theorem mt_join : MtR X "str.join" (fun x xs H Q => ∃ sep a ys, x = .str sep ∧ xs = [.ref a] ∧ SqL X.K H a (vS ys) ∧ (ys.map (·.length)).sum + ys.length * sep.length ≤ 16777216 ∧ Q (.str (Txt.join sep ys)) H) := by
  intro pins s σ H x xs v us Q I rx rv h
  obtain ⟨sep, a, ys, rfl, rfl, hS, hok, q⟩ := h
  obtain ⟨t, rfl⟩ := rx
  obtain ⟨u, rfl, ru⟩ := rv.one
  cases ru
  obtain ⟨its, r, pl, hz⟩ := I.list hS
  exact join_list (isL_of pl) (by simpa using strsAre_of r) hok fun t' k => ⟨.str _, H, I.tok k, ⟨_, rfl⟩, q⟩
theorem mt_split : MtR X "str.split" (fun x xs H Q => ∃ i j, x = .str i ∧ xs = [.str j] ∧ (j.length == 0) = false ∧ i.length ≤ 10000 ∧ ∀ l, H l = none → Q (.ref l) (upd H l (.lst (vS (Txt.split i j))))) := by
  intro pins s σ H x xs v us Q I rx rv h
  obtain ⟨i, j, rfl, rfl, hj, hi, q⟩ := h
  obtain ⟨t, rfl⟩ := rx
  obtain ⟨u, rfl, ru⟩ := rv.one
  obtain ⟨t', rfl⟩ := ru
  have sl := sizeLine_eq
  have hsz : i.length ≤ sizeLine := by omega
  have same : Txt.split i j = [i] → (∀ h' tk, h' = s.heap.push { cls := .type "list", data := .seq ([.str i t] : List Value).toArray } → EP X pins σ Q (.ref s.heap.objs.size) { s with heap := h', toks := tk }) := fun e h' tk eh => by
    subst eh
    refine ⟨.ref s.heap.objs.size, _, I.lnew (t' := tk) (ys := vS (Txt.split i j)) (its := [.str i t]) ?_ ?_, rfl, q _ I.fresh⟩
    · rw [e]
      exact .cons ⟨t, rfl⟩ .nil
    · rw [e]
      show 1 ≤ sizeLine
      omega
  by_cases h1 : (decide (i.length < j.length) || decide (Builtin.Str.strKind i < Builtin.Str.strKind j)) = true
  · refine call_meets F.slot_str_split (typeIs_str _ _ _) F.entry_str_split (F.args_str_split_2 _ _) (meets_str_split_cannot_occur i j t t' h1) ?_
    exact same (if_pos h1) _ s.toks rfl
  · have h1' := Bool.eq_false_iff.mpr h1
    by_cases hf : (Builtin.Str.occurrences i j 0 i.length (i.length + 1)).isEmpty = true
    · refine call_meets F.slot_str_split (typeIs_str _ _ _) F.entry_str_split (F.args_str_split_2 _ _) (meets_str_split_not_found i j t t' h1' hj hf) ?_
      exact same ((if_neg h1).trans (if_pos hf)) _ s.toks rfl
    · have hf' := Bool.eq_false_iff.mpr hf
      have hp : Txt.split i j = Builtin.Str.partsBetween i (Builtin.Str.occurrences i j 0 i.length (i.length + 1)) j.length := (if_neg h1).trans (if_neg hf)
      have hn : (Builtin.Str.partsBetween i (Builtin.Str.occurrences i j 0 i.length (i.length + 1)) j.length).length ≤ sizeLine := by
        rw [len_partsBetween]
        have := StrLaws.occ_length_le i j 0 i.length (i.length + 1)
        omega
      refine call_meets F.slot_str_split (typeIs_str _ _ _) F.entry_str_split (F.args_str_split_2 _ _) (meets_str_split_sep i j t t' h1' hj hf' hsz hn) ?_
      refine ⟨.ref s.heap.objs.size, _, I.lnew (ys := vS (Txt.split i j)) (its := strsFrom s.toks (Builtin.Str.partsBetween i (Builtin.Str.occurrences i j 0 i.length (i.length + 1)) j.length)) ?_ ?_, rfl, q _ I.fresh⟩
      · rw [hp]
        exact vals_from _ _
      · rw [vS_len, hp]
        exact hn
/-! ### slices of texts -/
def rSlS : V → Option Int → Option Int → Hp → VK → Prop := fun x lo hi H Q => ∃ z, x = .str z ∧ z.length ≤ 10000 ∧ Q (.str (Txt.slice z lo hi)) H
theorem isPart_of {v : Value} {o : Option Int} (p : IsPart v o) : ∃ l : Option (Int × Tok), partValue l = v ∧ l.map (·.1) = o := by
  cases p with
  | none => exact ⟨none, rfl, rfl⟩
  | int i t => exact ⟨some (i, t), rfl, rfl⟩
theorem sl_str : SlR X rSlS := by
  intro pins s σ H x v vl vu lo hi sl Q I rx hs pl pu h
  obtain ⟨z, rfl, hz, q⟩ := h
  obtain ⟨t, rfl⟩ := rx
  obtain ⟨l, rfl, el⟩ := isPart_of pl
  obtain ⟨u, rfl, eu⟩ := isPart_of pu
  refine ⟨"str", _, F.slot_str_getitem.lookup, typeIs_str _ _ _, ?_⟩
  refine wpAny_getItem_str_slice (l := l) (u := u) (st := none) hs rfl (post_val_or_str ⟨?_, fun t' k => ?_⟩)
  · have e := Txt.slice_le z lo hi
    rw [← el, ← eu] at e
    have sl' := sizeLine_eq
    refine Nat.le_trans e ?_
    omega
  · refine ⟨.str _, H, I.tok k, ⟨_, rfl⟩, ?_⟩
    rw [← el, ← eu] at q
    exact q
/-! ### for c in a text -/
def Its (x : Str) : It := ⟨fun i _ => i < x.cps.size, fun i H v H' => H' = H ∧ ∃ c, x.cps[i]? = some c ∧ v = .str ⟨#[c]⟩, fun i _ => x.cps.size ≤ i⟩
theorem turn_strA {P : Program} {w : World} {K : PySem.W.Frag} {tg : Expr} (x : Str) (t : Tok) (it : Addr) : Turn P w K tg (Its x) [it] it (fun i h => h.IsStrIter it "str_ascii_iterator" x t i) where
  mem := by simp
  obj := fun i h st b hb => by
    have e : b = it := by simpa using hb
    subst e
    obtain ⟨o, e, c, d⟩ := st
    exact ⟨o, e, fun v z => by rw [d] at z; cases z⟩
  keep := fun i h h' st k => by
    obtain ⟨o, e, r⟩ := st
    exact ⟨o, k it (by simp) o e, r⟩
  item := by
    intro X hP hw hK hc i pins s σ H E I hf st hg
    subst hP hw hK
    have hi : i < x.cps.size := hg
    obtain ⟨f0, f1, f2, f3, f4, f5⟩ := hf it (by simp)
    refine wpAny_pyNext_ascii_item st (c := x.cps[i]) (by simp [hi]) fun h' st' sb => ?_
    have I1 : Inv X pins σ H { s with heap := h', toks := s.toks + 1 } := I.turned (t' := s.toks + 1) (fun b o hb e => (sb.2 b hb).trans e) f0 f1 f3 f4 f5
    obtain ⟨o, e, c, d⟩ := id st'
    exact ⟨_, rfl, go_of (s := { s with heap := h', toks := s.toks + 1 }) e c d (by decide) ⟨.str _, H, I1, ⟨_, rfl⟩, ⟨rfl, x.cps[i], by simp [hi], rfl⟩, st', fun b hb => (hf b hb).1⟩⟩
  done := by
    intro X hP hw hK hc i pins s σ H E I hf st hg
    subst hP hw hK
    have hi : x.cps.size ≤ i := hg
    obtain ⟨f0, f1, f2, f3, f4, f5⟩ := hf it (by simp)
    exact wpAny_pyNext_ascii_end (I.ok.hd hc) st (by simp [hi]) fun h' eb => ⟨rfl, I.turned (t' := s.toks) (fun b o hb e => eb b o hb e) f0 f1 f3 f4 f5⟩
  self := fun _ _ _ _ _ st h => wpAny_pyIter_striter_ascii st h
theorem turn_strW {P : Program} {w : World} {K : PySem.W.Frag} {tg : Expr} (x : Str) (t : Tok) (it : Addr) : Turn P w K tg (Its x) [it] it (fun i h => h.IsStrIter it "str_iterator" x t i) where
  mem := by simp
  obj := fun i h st b hb => by
    have e : b = it := by simpa using hb
    subst e
    obtain ⟨o, e, c, d⟩ := st
    exact ⟨o, e, fun v z => by rw [d] at z; cases z⟩
  keep := fun i h h' st k => by
    obtain ⟨o, e, r⟩ := st
    exact ⟨o, k it (by simp) o e, r⟩
  item := by
    intro X hP hw hK hc i pins s σ H E I hf st hg
    subst hP hw hK
    have hi : i < x.cps.size := hg
    obtain ⟨f0, f1, f2, f3, f4, f5⟩ := hf it (by simp)
    refine wpAny_pyNext_wide_item st (c := x.cps[i]) (by simp [hi]) fun h' st' sb => ?_
    have I1 : Inv X pins σ H { s with heap := h', toks := s.toks + 1 } := I.turned (t' := s.toks + 1) (fun b o hb e => (sb.2 b hb).trans e) f0 f1 f3 f4 f5
    obtain ⟨o, e, c, d⟩ := id st'
    exact ⟨_, rfl, go_of (s := { s with heap := h', toks := s.toks + 1 }) e c d (by decide) ⟨.str _, H, I1, ⟨_, rfl⟩, ⟨rfl, x.cps[i], by simp [hi], rfl⟩, st', fun b hb => (hf b hb).1⟩⟩
  done := by
    intro X hP hw hK hc i pins s σ H E I hf st hg
    subst hP hw hK
    have hi : x.cps.size ≤ i := hg
    obtain ⟨f0, f1, f2, f3, f4, f5⟩ := hf it (by simp)
    exact wpAny_pyNext_wide_end (I.ok.hd hc) st (by simp [hi]) fun h' eb => ⟨rfl, I.turned (t' := s.toks) (fun b o hb e => eb b o hb e) f0 f1 f3 f4 f5⟩
  self := fun _ _ _ _ _ st h => wpAny_pyIter_striter_wide st h
def iStr (tl : TE) : TI := fun σ H R => tl σ H fun x H1 => ∃ z, x = .str z ∧ R (Its z) H1
theorem pi_str {tg l : Expr} {tl : TE} (hl : PE X l tl) : PI X tg l (iStr tl) := by
  intro pins s σ H R I h
  refine thn (hl pins s σ H _ I h) fun v s1 ⟨x, H1, I1, r1, q1⟩ => ?_
  obtain ⟨z, rfl, q⟩ := q1
  obtain ⟨t, rfl⟩ := r1
  have fp : ∀ b ∈ [s1.heap.objs.size], FpOk X pins H1 b := fun b hb => by
    have e : b = s1.heap.objs.size := by simpa using hb
    subst e
    exact I1.fpOk (Nat.le_refl _) (I1.hok.fresh (Nat.le_refl _))
  cases ha : z.cps.all (· < 128)
  · exact wpAny_pyIter_wide ha ⟨s1.heap.objs.size, [s1.heap.objs.size], _, _, H1, rfl, I1.kept (t' := s1.toks) fun b o e => Heap.get?_push_of_some _ e, turn_strW z t _, ⟨_, Heap.get?_push_size _ rfl, rfl, rfl⟩, fp, q⟩
  · exact wpAny_pyIter_ascii ha ⟨s1.heap.objs.size, [s1.heap.objs.size], _, _, H1, rfl, I1.kept (t' := s1.toks) fun b o e => Heap.get?_push_of_some _ e, turn_strA z t _, ⟨_, Heap.get?_push_size _ rfl, rfl, rfl⟩, fp, q⟩
end
theorem for_str {x : Str} {g : TG} {tb : TS} {D : Ends} {σ : St} {H : Hp} (Pv : Nat → St → Hp → Prop) (h0 : Pv 0 σ H)
    (hs : ∀ i c σ H, x.cps.toList[i]? = some c → Pv i σ H → g (.str ⟨#[c]⟩) σ H fun σ2 H2 => tb { D with nx := Pv (i + 1), ct := Pv (i + 1), bk := D.nx } σ2 H2) (hd : ∀ σ H, Pv x.cps.toList.length σ H → D.nx σ H) :
    ∃ W : Nat → Nat → St → Hp → Prop, (∃ m, W 0 m σ H) ∧ ∀ i m σ H, W i m σ H →
      ((Its x).stop i H ∧ D.nx σ H) ∨ ((Its x).go i H ∧ ∃ N : St → Hp → Prop, (∀ σ' H', N σ' H' → ∃ m', m' < m ∧ W (i + 1) m' σ' H') ∧ ∀ v H', (Its x).yld i H v H' → g v σ H' fun σ2 H2 => tb { D with nx := N, ct := N, bk := D.nx } σ2 H2) := by
  have el : x.cps.toList.length = x.cps.size := by simp
  rw [el] at hd
  refine ⟨fun i m σ H => m = x.cps.size - i ∧ i ≤ x.cps.size ∧ Pv i σ H, ⟨x.cps.size, by simp, Nat.zero_le _, h0⟩, ?_⟩
  rintro i m σ H ⟨rfl, hi, p⟩
  by_cases hlt : i < x.cps.size
  · refine .inr ⟨hlt, Pv (i + 1), fun σ' H' p' => ⟨x.cps.size - (i + 1), by omega, rfl, hlt, p'⟩, fun v H' y => ?_⟩
    obtain ⟨e, c, hc, rfl⟩ := y
    subst e
    exact hs i c σ _ (by rw [← hc]; simp) p
  · have e : i = x.cps.size := by omega
    subst e
    exact .inl ⟨Nat.le_refl _, hd σ H p⟩
end L2

namespace L2
open PySem PySem.Spec PyProof.Rows
/-! ### raise C("..") from None, in an except suite -/
theorem entry_unchain : entryFor table "proto.unchain" = some Builtin.«proto.unchain» := entryFor_of_tree (by kernel_rfl)
inductive Pth (h : Heap) : Addr → Addr → Prop where
  | here (a : Addr) : Pth h a a
  | step {a b c : Addr} {o : Obj} {vs : Array Value} : h.get? a = some o → o.data = .fields vs → vs[2]? = some (.ref b) → Pth h b c → Pth h a c
theorem Pth.more {h : Heap} {a b c : Addr} {o : Obj} {vs : Array Value} (p : Pth h a b) (h1 : h.get? b = some o) (h2 : o.data = .fields vs) (h3 : vs[2]? = some (.ref c)) : Pth h a c := by
  induction p with
  | here a => exact .step h1 h2 h3 (.here c)
  | step q1 q2 q3 _ ih => exact .step q1 q2 q3 (ih h1)
theorem Pth.next {h : Heap} {a b c : Addr} {o : Obj} {vs : Array Value} (p : Pth h a b) (h1 : h.get? b = some o) (h2 : o.data = .fields vs) (h3 : vs[2]? = some (.ref c)) :
    ∃ a' oa va, h.get? a = some oa ∧ oa.data = .fields va ∧ va[2]? = some (.ref a') ∧ Pth h a' c := by
  cases p with
  | here => exact ⟨c, o, vs, h1, h2, h3, .here c⟩
  | step q1 q2 q3 r => exact ⟨_, _, _, q1, q2, q3, r.more h1 h2 h3⟩
section
variable {prog : Program} {w : World}
theorem unchain {B h : Heap} {g : Array GenState} {d : Drawn} {t : Nat} {os : OsState} {e2 : Addr} {A : Around} {R : Result → Shared → Prop} (hB : B.StaysIn h) (hn : B.get? e2 = none) (hR : R (.ok (.ret .none)) ⟨h, g, d, t, os⟩) :
    ∀ {ctx : Value}, Chn B ctx → ∀ (o slow : Addr) (tog : Bool) (oo : Obj) (vo : Array Value), h.get? o = some oo → oo.data = .fields vo → vo[2]? = some ctx → Pth h slow o →
      codeAny (model prog w) A (.builtin "proto.unchain" ⟨[.ref e2, .ref o, .ref slow, .bool tog], []⟩) R ⟨h, g, d, t, os⟩ := by
  intro ctx x
  induction x with
  | nil =>
    intro o slow tog oo vo ho hd h2 _
    refine codeAny_builtin entry_unchain ?_
    unfold Builtin.«proto.unchain»
    refine wpAny_bind (wpAny_field ho hd h2 ?_)
    rw [if_pos (by rfl)]
    repeat (first | exact hR | wp_step)
  | @cons c oc vc ctx' k1 k2 k3 _ ih =>
    intro o slow tog oo vo ho hd h2 p
    have hc : h.get? c = some oc := hB _ _ k1
    have ne : c ≠ e2 := fun z => by rw [z, hn] at k1; cases k1
    refine codeAny_builtin entry_unchain ?_
    unfold Builtin.«proto.unchain»
    refine wpAny_bind (wpAny_field ho hd h2 ?_)
    rw [if_neg (by simp), if_neg (by simp [ne])]
    by_cases hs : c = slow
    · rw [if_pos (by simp [hs])]
      repeat (first | exact hR | wp_step)
    · rw [if_neg (by simp [hs])]
      cases tog with
      | false =>
        have z : codeAny (model prog w) A (.builtin "proto.unchain" ⟨[.ref e2, .ref c, .ref slow, .bool true], []⟩) R ⟨h, g, d, t, os⟩ := ih c slow true oc vc hc k2 k3 (p.more ho hd h2)
        repeat (first | exact ⟨Code.quiet_builtin _ (by decide +kernel), z⟩ | wp_step)
      | true =>
        obtain ⟨a', oa, va, q1, q2, q3, q4⟩ := p.next ho hd h2
        have z : codeAny (model prog w) A (.builtin "proto.unchain" ⟨[.ref e2, .ref c, .ref a', .bool false], []⟩) R ⟨h, g, d, t, os⟩ := ih c a' false oc vc hc k2 k3 q4
        repeat (first | exact ⟨Code.quiet_builtin _ (by decide +kernel), z⟩ | (with_reducible refine wpAny_field q1 q2 q3 ?_) | wp_step)
end
end L2

namespace L2
open PySem PySem.Spec PyProof.Rows
section
variable {X : Cx} {pins : List (Addr × Obj)} {σ : St} {H : Hp} {s : Shared} {x : Str} {np cp cp2 cpos rpos : Pos} {msg : Str} {j j2 : Nat} {C e1 : Addr}
/-- C("..") of an own class under ValueError, in an except suite -/
theorem exc_made {E' : Value → Shared → Prop} {Q : Value → Shared → Prop} (J : Inv X pins σ H s) (hg : Gl X x) (hm : X.mg x = some (.ref C)) (hc : PySem.W.excIn X.K C veTail "ValueError.__new__" = true)
    (h : ∀ h' e t, Heap.MadeExcOf s.heap h' e (.ref C) [.str msg t] → Q (.ref e) { s with heap := h', toks := s.toks + 1 })
    (hdb : (x == ("__debug__" : Str)) = false := by decide) : wpAny (model X.prog X.w) (X.A.mark (some (.ref e1))) (eval (.Call (.Name x np) [.Constant (.str msg) j cp] [] cpos) X.env) Q E' s := by
  obtain ⟨bm, N, nm, qn, bs, hdct, sn, sub, ab, col, dd, k0, k1, k2, k3, k5, mN, hC0, hN0, hni, hT0⟩ := exc_obj J.mod.kin hc
  have hC := J.bk _ _ hC0
  have hN := hN0.keeps J.bk
  have hT := hT0.keeps J.bk
  refine wpAny_Call_ofName (ld_glob (X := hCx X e1) J.inH hg hm ?_ hdb)
  unfold callWith
  refine wpAny_bind (wpAny_holding ?_)
  show wpAny (model X.prog X.w) (X.A.mark (some (.ref e1))) (evalArgs (.ref C) true [(false, eval (.Constant (.str msg) j cp) X.env)] []) _ _ s
  refine Calls.evalArgs_plain (Calls.spliced_cons (Calls.Constant_str (Calls.spliced_nil ?_)))
  refine wpAny_bind (wpAny_standAt ?_)
  obtain ⟨hh, g, d, t, os⟩ := s
  refine wpAny_bind (wpAny_keeperOf_exc hC ?_)
  refine wpAny_bind (wpAny_call_exc_subT (hrest := by show 1 ≤ sizeLine; decide) PySem.F.excBase_ValueError hT hC hN hni fun h' e hx => ?_)
  refine wpAny_bind (wpAny_holding (wpAny_point (wpAny_pure ?_)))
  exact h h' e _ hx
theorem setI {h : Heap} {a : Addr} {i : Nat} {v : Value} {o : Obj} {vs : Array Value} (ho : h.get? a = some o) (hd : o.data = .fields vs) :
    (∀ b, b ≠ a → (h.update a (Obj.mapFields (·.setIfInBounds i v))).get? b = h.get? b) ∧ ∃ o', (h.update a (Obj.mapFields (·.setIfInBounds i v))).get? a = some o' ∧ o'.cls = o.cls ∧ o'.data = .fields (vs.setIfInBounds i v) := by
  have hd' := Obj.data_mapFields hd (·.setIfInBounds i v)
  exact ⟨fun b hb => Heap.get?_update_other _ _ (Ne.symm hb), _, Heap.get?_update_self _ ho (Obj.isFreed_of_fields hd'), Obj.cls_mapFields _ _, hd'⟩
/-- the end of a raise statement, in an except suite -/
theorem raise_end {h : Heap} {g : Array GenState} {d : Drawn} {t : Nat} {os : OsState} {B : Heap} {e2 : Addr} {o oC o1 : Obj} {vs v1 : Array Value} {ctx : Value} {A : Around} {E' : Value → Shared → Prop} {Q : Flow → Shared → Prop}
    (he : h.get? e2 = some o) (hcl : o.cls = .ref C) (hd : o.data = .fields vs) (h1 : vs[1]? = some .none) (hsz : 2 < vs.size) (hC : h.get? C = some oC) (hCc : oC.cls = .type "type")
    (hh : A.handled = some (.ref e1)) (hne : e1 ≠ e2) (hB : B.StaysIn h) (hB2 : B.get? e2 = none) (ho1 : h.get? e1 = some o1) (hd1 : o1.data = .fields v1) (h12 : v1[2]? = some ctx) (hch : Chn B ctx)
    (hE : E' (.ref e2) ⟨h.update e2 (Obj.mapFields (·.setIfInBounds 2 (.ref e1))), g, d, t, os⟩) :
    wpAny (model X.prog X.w) A (do
      let lift ← isType (.ref e2)
      if lift = true then do
          let e ← holding [.ref e2] (raisedFor (.ref e2) (.ref e2))
          setFlight e none
          raiseNew e
        else do
          let e ← raisedInstance (.ref e2)
          setFlight e none
          raiseNew e) Q E' ⟨h, g, d, t, os⟩ := by
  have LI : wpAny (model X.prog X.w) A (isType (.ref e2)) (fun b s' => b = false ∧ s' = ⟨h, g, d, t, os⟩) E' ⟨h, g, d, t, os⟩ := by
    unfold isType loadHead
    refine wpAny_bind (wpAny_loadPart he ?_)
    rw [hd]
    exact wpAny_pure ⟨rfl, rfl⟩
  refine wpAny_bind (thn LI fun b s' hb => ?_)
  obtain ⟨rfl, rfl⟩ := hb
  rw [if_neg Bool.false_ne_true]
  have LR : wpAny (model X.prog X.w) A (raisedInstance (.ref e2)) (fun v s' => v = .ref e2 ∧ s' = ⟨h, g, d, t, os⟩) E' ⟨h, g, d, t, os⟩ := by
    unfold raisedInstance
    have t1 : PySem.W.Looks (model X.prog X.w) h (typeOf (.ref e2)) (.ref C) := hcl ▸ (PySem.W.Looks.ld he).andThen .now
    have t2 : PySem.W.Looks (model X.prog X.w) h (typeOf (.ref C)) (.type "type") := hCc ▸ (PySem.W.Looks.ld hC).andThen .now
    refine wpAny_bind (t1.at (wpAny_bind (t2.at ?_)))
    rw [if_pos (by rfl)]
    exact wpAny_pure ⟨rfl, rfl⟩
  refine wpAny_bind (thn LR fun v s' hv => ?_)
  obtain ⟨rfl, rfl⟩ := hv
  have LF : wpAny (model X.prog X.w) A (setFlight (.ref e2) none) (fun _ s' => s' = ⟨h, g, d, t, os⟩) E' ⟨h, g, d, t, os⟩ := by
    unfold setFlight
    refine wpAny_bind (wpAny_field he hd h1 ?_)
    rw [if_neg (by decide)]
    exact wpAny_pure rfl
  refine wpAny_bind (thn LF fun _ s' hs => ?_)
  subst hs
  unfold raiseNew
  refine wpAny_bind (wpAny_handled ?_)
  rw [hh]
  dsimp only
  rw [if_pos (by simp [hne])]
  refine wpAny_bind (wpAny_holding (wpAny_runValue (unchain hB hB2 ?_ hch e1 e1 false o1 v1 ho1 hd1 h12 (.here e1))))
  show wpAny (model X.prog X.w) A (setField (.ref e2) 2 (.ref e1) >>= fun _ => throw (.ref e2)) Q E' ⟨h, g, d, t, os⟩
  exact wpAny_bind (wpAny_setField he hd hsz (wpAny_throw hE))
theorem raise_from {E : XK} {B : Heap} {cls ctx : Value} {Q : Flow → Shared → Prop} (T : Thr X E) (J : Inv X pins σ H s) (fl : FlyC B X.stack e1 cls ctx .none s.heap) (hch : Chn B ctx) (hg : Gl X x) (hm : X.mg x = some (.ref C))
    (hc : PySem.W.excIn X.K C veTail "ValueError.__new__" = true) (hE : E (.ref C) none H) (hdb : (x == ("__debug__" : Str)) = false := by decide) :
    wpAny (model X.prog X.w) (X.A.mark (some (.ref e1))) (exec (.Raise (some (.Call (.Name x np) [.Constant (.str msg) j cp] [] cpos)) (some (.Constant .none j2 cp2)) rpos) X.env) Q
      (notedBy (model X.prog X.w) (X.A.mark (some (.ref e1))) X.env (cameBackBy (model X.prog X.w) X.A X.env X.xe)) s := by
  obtain ⟨bm, N, nm, qn, bs, hdct, sn, sub, ab, col, dd, k0, k1, k2, k3, k5, mN, hC0, hN0, hni, hT0⟩ := exc_obj J.mod.kin hc
  have hbm : bm.contains (.type "BaseException") = true := hT0.hasType PySem.F.excBase_ValueError.hasBase
  have hcB : (Value.ref C :: bm).contains (.type "BaseException") = true := by rw [List.contains_cons, hbm, Bool.or_true]
  rw [arm_exec_Raise]
  refine wpAny_bind (wpAny_standAt ?_)
  simp only [evalOpt, Option.map]
  unfold raiseStmt
  refine wpAny_bind (wpAny_bind (exc_made J hg hm hc (fun h' e2 t hx => ?_) hdb))
  refine wpAny_bind (wpAny_standAt (wpAny_pure ?_))
  obtain ⟨tp, he2, htn, ht⟩ := hx.there
  have hC : h'.get? C = some _ := hx.keeps _ _ (J.bk _ _ hC0)
  refine wpAny_bind (wpAny_holding (wpAny_bind (Constant_none (wpAny_bind (wpAny_standAt (wpAny_pure ?_))))))
  refine wpAny_bind (wpAny_pure ?_)
  obtain ⟨hh, g, d, tk, os⟩ := s
  have back : ∀ (Q' : Value → Shared → Prop) (E' : Value → Shared → Prop) (tk' : Nat), Q' (.ref e2) ⟨h', g, d, tk', os⟩ → wpAny (model X.prog X.w) (X.A.mark (some (.ref e1))) (excFromValue (.ref e2) "exceptions must derive from BaseException") Q' E' ⟨h', g, d, tk', os⟩ := fun Q' E' tk' q => by
    unfold excFromValue
    repeat (first | exact q | with_reducible refine wpAny_loadPart_at he2 ?_ | with_reducible refine wpAny_loadPart_at hC ?_ | (with_reducible refine wpAny_isSubtype_exc hC ?_; rw [hcB]) | wp_step)
  refine wpAny_bind (wpAny_holding (back _ _ _ ?_))
  dsimp only
  rw [if_pos (by rfl)]
  refine wpAny_bind (wpAny_pure ?_)
  refine wpAny_bind (wpAny_setField he2 rfl (by simp) ?_)
  obtain ⟨oth3, o3, e3, c3, d3⟩ := setI (i := 3) (v := .none) he2 rfl
  refine wpAny_bind (wpAny_setField e3 d3 (by simp) ?_)
  obtain ⟨oth4, o4, e4, c4, d4⟩ := setI (i := 4) (v := .bool true) e3 d3
  have nC : C ≠ e2 := fun z => by
    rw [z, he2] at hC
    cases hC
  have n1 : e1 ≠ e2 := fun z => by
    obtain ⟨oe, _, _, _, _, ⟨q, _⟩, _⟩ := fl.rcd
    have y : hh.get? e2 = none := hx.new
    rw [← z] at y
    have q' : hh.get? e1 = some oe := q
    rw [y] at q'
    cases q'
  have keep : ∀ b o, hh.get? b = some o → b ≠ e2 → ((h'.update e2 (Obj.mapFields (·.setIfInBounds 3 .none))).update e2 (Obj.mapFields (·.setIfInBounds 4 (.bool true)))).get? b = some o := fun b o q nb => by
    rw [oth4 b nb, oth3 b nb]
    exact hx.keeps b o q
  have new : ∀ b o, hh.get? b = some o → b ≠ e2 := fun b o q z => by
    have y : hh.get? e2 = none := hx.new
    rw [z, y] at q
    cases q
  obtain ⟨oe, vs, _, _, _, ⟨q1, q2, q3, _, q5⟩, _⟩ := fl.rcd
  have hB2 : B.get? e2 = none := by
    cases y : B.get? e2 with
    | none => rfl
    | some o => exact absurd rfl (new e2 o (fl.stays _ _ y))
  obtain ⟨oth2, o2, e2', c2, d2⟩ := setI (i := 2) (v := .ref e1) e4 d4
  refine raise_end (C := C) (B := B) e4 (by rw [c4, c3]) d4 (by simp) (by simp) ((oth4 C nC).trans ((oth3 C nC).trans hC)) rfl rfl n1 (fun b o q => keep b o (fl.stays b o q) (new b o (fl.stays b o q))) hB2 (keep e1 oe q1 n1) q3 q5 hch ?_
  refine T.ownAt _ _ _ ?_
  have J' := J.tok (tk + 1)
  refine T.new pins σ H ⟨hh, g, d, tk + 1, os⟩ _ e2 C (.ref e1) J' ⟨fun b o q => ?_, hx.new, o2, _, e2', by rw [c2, c4, c3], d2, by simp, by simp⟩ ?_ hE
  · rw [oth2 b (new b o q)]
    exact keep b o q (new b o q)
  · have nf : ∀ b o, B.get? b = some o → b ∉ frs X.stack := fun b o q z => by
      rw [(fl.frames.mem z).1] at q
      cases q
    refine .cons (under_in (s := ⟨hh, g, d, tk + 1, os⟩) q1 fun z => ?_) q3 q5 (hch.mono fun b o q => under_in (s := ⟨hh, g, d, tk + 1, os⟩) (fl.stays b o q) (nf b o q))
    obtain ⟨_, o, ho, hnf⟩ := fl.frames.mem z
    exact noFields q1 q3 ho hnf rfl
end
end L2

namespace L2
open PySem PySem.Spec PyProof.Rows
/-! ### try: .. except T: raise C("..") from None -/
def tTryR (K : PySem.W.Frag) (tb : XK → TS) (CT : Value) (C2 : Addr) (E : XK) : TS := fun D σ H => tb (fun cls _ H1 => PySem.W.exmOne K cls CT = some true ∧ E (.ref C2) none H1) D σ H
theorem ps_tryR {X : Cx} {body : List Stmt} {T x : Str} {np np2 cp cp2 cpos rpos hpos pos : Pos} {msg : Str} {j j2 : Nat} {CT C2 : Addr} {tb : XK → TS} {E : XK} (Th : Thr X E) (hst : X.stack = X.env :: X.outer) (hfr : X.env.frame = some X.env.locals) (hb : PSX X body tb)
    (hg : Gl X T) (hm : X.mg T = some (.ref CT)) (hg2 : Gl X x) (hm2 : X.mg x = some (.ref C2)) (hc2 : PySem.W.excIn X.K C2 veTail "ValueError.__new__" = true) (hdb : (T == ("__debug__" : Str)) = false := by decide) (hdb2 : (x == ("__debug__" : Str)) = false := by decide) :
    PS X (.Try body [.ExceptHandler (some (.Name T np)) none [.Raise (some (.Call (.Name x np2) [.Constant (.str msg) j cp] [] cpos)) (some (.Constant .none j2 cp2)) rpos] hpos] [] [] pos) (tTryR X.K tb (.ref CT) C2 E) := by
  intro pins s σ H D I h
  refine wpAny_Try_except (wpAny_mono (hb pins s σ H D _ I h) (fun f s1 hq => ?_) fun e s1 hx => ?_)
  · cases f with
    | next => exact wpAny_execs_nil hq
    | brk => exact hq
    | cont => exact hq
    | ret u => exact hq
  obtain ⟨ea, cls, H1, B, rfl, J, F, hB, hm1, hE⟩ := hx
  obtain ⟨ctx, fl, hch⟩ := F.fly
  rw [hst] at fl
  refine noteC (by rw [J.ok.frames, hst]) hfr fl fun h4 held4 up4 => landC held4 fun h5 fl5 up5 => ?_
  have J5 : Inv X pins σ H1 { s1 with heap := h5 } := J.landed hB F.trk fl.stays fl5.stays (up4.trans up5)
  refine wpAny_handleBy_cons (codeAny_handlers_test (ld_glob (X := hCx X ea) J5.inH hg hm ?_ hdb)) (by intro q; cases q)
  refine (PySem.W.exm_one J5.kIn fl5.looks hm1).here ?_
  show codeAny (model X.prog X.w) (X.A.mark (some (.ref ea))) (.handlers (.ref ea) [.ExceptHandler none none _ hpos] X.env) _ _
  refine codeAny_handlers_suite (landC fl5 fun h6 fl6 up6 => ?_)
  have J6 : Inv X pins σ H1 { s1 with heap := h6 } := J.landed hB F.trk fl.stays fl6.stays ((up4.trans up5).trans up6)
  rw [← hst] at fl6
  refine wpAny_execs_cons (thn (raise_from (Q := fun _ _ => False) Th J6 fl6 hch hg2 hm2 hc2 hE hdb2) fun _ _ z => z.elim)
/-! ### f(a), where a may raise and f not -/
theorem pex_call1 {X : Cx} {k : Nat} {f : Addr} {fd : FuncData} {ps : List Str} {sp : Sp} {x : Str} {p pos : Pos} {a : Expr} {ta : XK → TE} (F : FnOk X.prog X.w X.K X.mg X.base CX0 k f fd ps sp) (hr : Room k X.A) (hg : Gl X x) (hm : X.mg x = some (.ref f)) (hk : PySem.W.keepIn X.K (.ref f) = true) (hb : Binds X.K fd ps [])
    (ha : PEX X a ta) (hdb : (x == ("__debug__" : Str)) = false := by decide) (he : starEach [a] X.env = [(false, eval a X.env)] := by rfl) :
    PEX X (.Call (.Name x p) [a] [] pos) (fun Ex σ H Q => ta Ex σ H fun v H1 => sp [v] H1 Q E0) := by
  intro pins s σ H Q Ex I h
  refine wpAny_Call_Name_kw (ld_glob I hg hm ?_ hdb)
  refine PySem.W.callWith_K (h₀ := X.base) I.ok.mod.kin hk ?_ he rfl
  rw [he]
  refine Calls.spliced_cons (thn (ha pins s σ H _ Ex I h) fun u s1 q1 => ?_)
  obtain ⟨v, H1, I1, r1, q⟩ := q1
  refine Calls.spliced_nil ⟨I1.kIn, ?_⟩
  have z := run_fn (X := X.nox) (pins := pins) (σ := σ) (Q := Q) (dvs := []) (ds := []) F hr hb .nil pass0 (I1.wish _) (.cons r1 .nil) (by simpa using q)
  exact wpAny_mono z (fun _ _ ⟨v', H', I', r', q'⟩ => ⟨v', H', I'.unwish, r', q'⟩) fun _ _ y => False.elim y
/-! ### xs == [] -/
theorem op_eqNil {X : Cx} (hu : X.A.units + 64 < cLine) : OpR X (compareOp .Eq) (fun x y H Q => ∃ (a b : Addr) (xs : List V), x = .ref a ∧ y = .ref b ∧ SqL X.K H a xs ∧ SqL X.K H b [] ∧ Q (.bl xs.isEmpty) H) := by
  intro pins s σ H x y v u Q I rx ry h
  obtain ⟨a, b, xs, rfl, rfl, hA, hB, q⟩ := h
  cases xs with
  | nil => exact op_eqL hu pins s σ H _ _ v u Q I rx ry ⟨a, b, [], [], rfl, rfl, hA, hB, q⟩
  | cons x0 xr =>
    cases rx
    cases ry
    obtain ⟨ia, va, pa, _⟩ := I.list hA
    obtain ⟨ib, vb, pb, _⟩ := I.list hB
    have l1 := va.length
    have l2 := vb.length
    refine PySem.SeqAt.eq_list_lengthsAt (isL_of pa) (isL_of pb) ?_ (by omega) ⟨.bl false, H, I, rfl, q⟩
    simp only [List.size_toArray, ← l1, ← l2, List.length_cons, List.length_nil]
    simp
end L2

namespace L2
open PySem PySem.Spec PyProof.Rows
/-! ### sorted(..): what comes is the same things in some order, whatever the comparisons answer -/
section
variable {P : Program} {w : World} {A : Around} {E : Value → Shared → Prop} {s : Shared} {kd : SortKind} {a0 : Array Keyed}
/-- comparisons of these keys answer, and change nothing -/
def Cmp (P : Program) (w : World) (A : Around) (s : Shared) (kd : SortKind) (ks : List Value) : Prop :=
  ∀ x ∈ ks, ∀ y ∈ ks, ∀ (E : Value → Shared → Prop) (Q : Bool → Shared → Prop), (∀ b, Q b s) → wpAny (model P w) A (keyLt' kd x y) Q E s
structure SB (kd : SortKind) (a0 : Array Keyed) (st : SortSt) : Prop where
  pm : (arrOf st).Perm a0
  kn : kindOf st = kd
  fl : failedOf st = none
  pn : pendingOf st = #[]
theorem SB.sz {st : SortSt} (h : SB kd a0 st) : (arrOf st).size = a0.size := h.pm.size_eq
theorem SB.put {st : SortSt} {xs : Array Keyed} (h : SB kd a0 st) (p : xs.Perm (arrOf st)) : SB kd a0 (setArr st xs) := ⟨p.trans h.pm, h.kn, h.fl, h.pn⟩
theorem SB.get {st : SortSt} {i : Nat} (h : SB kd a0 st) (hi : i < a0.size) : ∃ x p, (arrOf st)[i]? = some (x, p) ∧ x ∈ a0.toList.map (·.1) := by
  have hi2 : i < (arrOf st).size := h.sz ▸ hi
  have m : (arrOf st)[i] ∈ (arrOf st).toList := by simp
  exact ⟨(arrOf st)[i].1, (arrOf st)[i].2, getElem?_pos _ i hi2, List.mem_map.mpr ⟨_, (Array.perm_iff_toList_perm.mp h.pm).mem_iff.mp m, rfl⟩⟩
theorem lt_any {st : SortSt} {i j : Nat} {Q : Option Bool → SortSt → Prop} (hC : Cmp P w A s kd (a0.toList.map (·.1))) (hB : SB kd a0 st) (hi : i < a0.size) (hj : j < a0.size) (h : ∀ b, Q (some b) st) : wpS (model P w) A E s (ltAt' i j) Q st := by
  obtain ⟨x, p, e1, m1⟩ := hB.get hi
  obtain ⟨y, q, e2, m2⟩ := hB.get hj
  rw [ltAt'_eq]
  refine wpS_bind (wpS_get (show wpS _ _ _ _ (do let x ← elem' (arrOf st) i; let y ← elem' (arrOf st) j; lt' x y) Q st from ?_))
  rw [elem'_eq, elem'_eq, e1, e2]
  refine wpS_bind (wpS_pure (wpS_bind (wpS_pure (show wpS _ _ _ _ (lt' (x, p) (y, q)) Q st from ?_))))
  rw [lt'_eq]
  refine wpS_bind (wpS_get (show wpS _ _ _ _ (do let r ← (liftM (keyLt' (kindOf st) x y).attempt : StateT SortSt Sem _); _) Q st from ?_))
  rw [hB.kn]
  exact wpS_bind (wpS_lift (wpAny_attempt (hC x m1 y m2 _ _ fun b => ⟨rfl, wpS_pure (h b)⟩)))
variable (hC : Cmp P w A s kd (a0.toList.map (·.1)))
include hC
theorem asc_any {st : SortSt} {a m : Nat} {Q : AscSt → SortSt → Prop} (hm : m ≤ a0.size) (h1 : 1 ≤ a) (h2 : a ≤ m) (hB : SB kd a0 st) (h : ∀ n, a ≤ n → n ≤ m → Q (none, n) st) : wpS (model P w) A E s (ascLoop a m) Q st := by
  unfold ascLoop
  refine wpS_forRange (I := fun x c t => t = st ∧ c = (none, x)) (fun x c t hx1 hx2 z => ?_) (fun c t z => ?_) ⟨rfl, rfl⟩
  · obtain ⟨rfl, rfl⟩ := z
    refine wpS_bind (lt_any hC hB (by dsimp only; omega) (by dsimp only; omega) fun b => ?_)
    cases b with
    | true => exact wpS_pure (h x hx1 (by omega))
    | false => exact wpS_pure ⟨rfl, rfl⟩
  · obtain ⟨rfl, rfl⟩ := z
    exact h _ (by omega) (by omega)
theorem tail_any {st : SortSt} {n m : Nat} {Q : Option Nat → SortSt → Prop} (hm : m ≤ a0.size) (h1 : 1 ≤ n) (h2 : n ≤ m) (hB : SB kd a0 st) (h : ∀ k t, SB kd a0 t → 1 ≤ k → k ≤ m → Q (some k) t) : wpS (model P w) A E s (tail3 n m) Q st := by
  unfold tail3
  exact wpS_bind (wpS_reverse (wpS_bind (asc_any hC hm h1 h2 (hB.put (mirror_perm _ _ _ _)) fun k k1 k2 => wpS_pure (h k _ (hB.put (mirror_perm _ _ _ _)) (by omega) k2))))
theorem desc_any {st : SortSt} {n m : Nat} {Q : DescSt → SortSt → Prop} (hm : m ≤ a0.size) (h1 : 1 ≤ n) (h2 : n ≤ m) (hB : SB kd a0 st) (h : ∀ k q t, SB kd a0 t → n ≤ k → k ≤ m → Q (none, k, q) t) : wpS (model P w) A E s (descLoop n m) Q st := by
  unfold descLoop
  refine wpS_forRange (I := fun x c t => SB kd a0 t ∧ ∃ q, c = (none, x, q)) (fun x c t hx1 hx2 z => ?_) (fun c t z => ?_) ⟨hB, 0, rfl⟩
  · obtain ⟨hB2, q, rfl⟩ := z
    refine wpS_bind (lt_any hC hB2 (by dsimp only; omega) (by dsimp only; omega) fun b => ?_)
    cases b with
    | true =>
      show wpS _ _ _ _ (if q > 0 then _ else _) _ _
      split
      · exact wpS_bind (wpS_reverse (wpS_pure ⟨hB2.put (mirror_perm _ _ _ _), 0, rfl⟩))
      · exact wpS_pure ⟨hB2, 0, rfl⟩
    | false =>
      refine wpS_bind (lt_any hC hB2 (by dsimp only; omega) (by dsimp only; omega) fun b => ?_)
      cases b with
      | true => exact wpS_pure (h x q t hB2 hx1 (by omega))
      | false => exact wpS_pure ⟨hB2, q + 1, rfl⟩
  · obtain ⟨hB2, q, rfl⟩ := z
    exact h _ q t hB2 (by omega) (by omega)
theorem part_any {st : SortSt} {n m : Nat} {Q : Option Nat → SortSt → Prop} (hm : m ≤ a0.size) (h2 : n + 1 ≤ m) (hB : SB kd a0 st) (h : ∀ k t, SB kd a0 t → 1 ≤ k → k ≤ m → Q (some k) t) : wpS (model P w) A E s (descPart n m) Q st := by
  unfold descPart
  refine wpS_bind (wpS_lift (wpAny_rule ⟨rfl, wpS_bind (desc_any hC hm (by omega) h2 hB fun k q t hB2 k1 k2 => ?_)⟩))
  show wpS _ _ _ _ (if q > 0 then _ else _) _ _
  split
  · exact wpS_bind (wpS_reverse (tail_any hC hm (by dsimp only; omega) (by dsimp only; omega) (hB2.put (mirror_perm _ _ _ _)) h))
  · exact tail_any hC hm (by dsimp only; omega) (by dsimp only; omega) hB2 h
theorem count_any {st : SortSt} {m : Nat} {Q : Option Nat → SortSt → Prop} (hm : m ≤ a0.size) (h1 : 1 ≤ m) (hB : SB kd a0 st) (h : ∀ k t, SB kd a0 t → 1 ≤ k → k ≤ m → Q (some k) t) : wpS (model P w) A E s (countRun' 0 m) Q st := by
  rw [countRun0_eq]
  refine wpS_bind (asc_any hC hm (Nat.le_refl 1) h1 hB fun n n1 n2 => ?_)
  show wpS _ _ _ _ (if (n == m) = true then _ else if n > 1 then _ else _) _ _
  split
  · exact wpS_pure (h n st hB n1 n2)
  · rename_i ne
    have ne2 : n ≠ m := fun z => ne (beq_iff_eq.mpr z)
    split
    · refine wpS_bind (lt_any hC hB (by omega) (by dsimp only; omega) fun b => ?_)
      cases b with
      | true => exact wpS_pure (h n st hB n1 n2)
      | false => exact wpS_bind (wpS_reverse (part_any hC hm (by dsimp only; omega) (hB.put (mirror_perm _ _ _ _)) h))
    · exact part_any hC hm (by dsimp only; omega) hB h
theorem ins_any {st : SortSt} {n ok : Nat} {Q : Bool → SortSt → Prop} (hn : n ≤ a0.size) (hB : SB kd a0 st) (h : ∀ t, SB kd a0 t → Q true t) : wpS (model P w) A E s (binarySort' 0 n ok) Q st := by
  rw [binarySort'_eq]
  refine wpS_bind (wpS_mono (wpS_forRange (I := fun _ c t => c = (none, ()) ∧ SB kd a0 t) (Q := fun c t => c = (none, ()) ∧ SB kd a0 t) (fun k c t hk1 hk2 z => ?_) (fun c t z => z) ⟨rfl, hB⟩) fun c t z => ?_)
  · obtain ⟨rfl, hB2⟩ := z
    refine wpS_bind (wpS_mono (wpS_forRange (I := fun _ c u => u = t ∧ ∃ l r, c = (none, l, r) ∧ r ≤ k) (Q := fun c u => u = t ∧ ∃ l r, c = (none, l, r)) (fun x c u hx1 hx2 y => ?_) (fun c u y => ?_) ⟨rfl, 0, k, rfl, Nat.le_refl k⟩) fun c u y => ?_)
    · obtain ⟨rfl, l, r, rfl, hr⟩ := y
      show wpS _ _ _ _ (if l ≥ r then _ else _) _ _
      split
      · exact wpS_pure ⟨rfl, l, r, rfl⟩
      · refine wpS_bind (lt_any hC hB2 (by omega) (by dsimp only; omega) fun b => ?_)
        cases b with
        | true => exact wpS_pure ⟨rfl, l, (l + r) / 2, rfl, by omega⟩
        | false => exact wpS_pure ⟨rfl, (l + r) / 2 + 1, r, rfl, hr⟩
    · obtain ⟨rfl, l, r, rfl, _⟩ := y
      exact ⟨rfl, l, r, rfl⟩
    · obtain ⟨rfl, l, r, rfl⟩ := y
      show wpS _ _ _ _ (do moveDown' (0 + k) (0 + l); pure (ForInStep.yield (none, ()))) _ _
      rw [moveDown'_eq]
      exact wpS_bind (wpS_modify (wpS_pure ⟨rfl, hB2.put (bubble_perm _ _ _)⟩))
  · obtain ⟨rfl, hB2⟩ := z
    exact wpS_pure (h t hB2)
theorem runs_any {st : SortSt} {Q : Unit → SortSt → Prop} (hB : SB kd a0 st) (h2 : 1 ≤ a0.size) (h64 : a0.size < 64) (h : ∀ t, (arrOf t).Perm a0 → failedOf t = none → Q () t) : wpS (model P w) A E s sortRuns' Q st := by
  have mr : minRun' a0.size a0.size 0 = a0.size := by
    obtain ⟨f, hf⟩ : ∃ f, a0.size = f + 1 := ⟨a0.size - 1, by omega⟩
    rw [hf, minRun'_succ, if_pos (by omega)]
  have dn : ∀ t, SB kd a0 t → (arrOf (setPending t ((pendingOf t).push (0, a0.size, 0)))).Perm a0 ∧ failedOf (setPending t ((pendingOf t).push (0, a0.size, 0))) = none ∧ pendingOf (setPending t ((pendingOf t).push (0, a0.size, 0))) = #[(0, a0.size, 0)] :=
    fun t hB => ⟨hB.pm, hB.fl, by show (pendingOf t).push _ = _; rw [hB.pn]; rfl⟩
  rw [sortRuns'_eq]
  refine wpS_bind (wpS_get ?_)
  dsimp only
  simp only [hB.sz, mr]
  refine wpS_bind (wpS_mono (wpS_forRange (I := fun x c t => (x = 0 ∧ c = (none, 0) ∧ SB kd a0 t) ∨ (c = (none, a0.size) ∧ (arrOf t).Perm a0 ∧ failedOf t = none ∧ pendingOf t = #[(0, a0.size, 0)]))
    (Q := fun c t => c = (none, a0.size) ∧ (arrOf t).Perm a0 ∧ failedOf t = none ∧ pendingOf t = #[(0, a0.size, 0)]) (fun x c t hx1 hx2 z => ?_) (fun c t z => ?_) (.inl ⟨rfl, rfl, hB⟩)) fun c t z => ?_)
  · rcases z with ⟨rfl, rfl, hB2⟩ | ⟨rfl, hD⟩
    · dsimp only
      rw [if_neg (show ¬ 0 ≥ a0.size by omega)]
      simp only [Nat.sub_zero, Nat.min_self, Nat.zero_add]
      refine wpS_bind (count_any hC (Nat.le_refl _) h2 hB2 fun k u hB3 k1 k2 => ?_)
      dsimp only
      have bk : ∀ v, SB kd a0 v → (pendingOf v).back? = none := fun v hv => by rw [hv.pn]; rfl
      by_cases lt : k < a0.size
      · rw [if_pos lt]
        refine wpS_bind (wpS_lift (wpAny_rule ⟨rfl, wpS_bind (ins_any hC (Nat.le_refl _) hB3 fun v hB4 => ?_)⟩))
        rw [if_neg (show ¬ (!true) = true by decide)]
        refine wpS_bind (wpS_get ?_)
        rw [bk v hB4]
        exact wpS_bind (wpS_modify (wpS_pure (.inr ⟨rfl, dn v hB4⟩)))
      · rw [if_neg lt]
        have ek : k = a0.size := by omega
        subst ek
        refine wpS_bind (wpS_get ?_)
        rw [bk u hB3]
        exact wpS_bind (wpS_modify (wpS_pure (.inr ⟨rfl, dn u hB3⟩)))
    · dsimp only
      rw [if_pos (Nat.le_refl _)]
      exact wpS_pure ⟨rfl, hD⟩
  · rcases z with ⟨hx, _, _⟩ | hD
    · omega
    · exact hD
  · obtain ⟨rfl, d1, d2, d3⟩ := z
    refine wpS_bind (wpS_mono (wpS_forRange (I := fun _ c u => u = t ∧ c = (none, ())) (Q := fun c u => u = t ∧ c = (none, ())) (fun x c u _ _ y => ?_) (fun _ _ y => y) ⟨rfl, rfl⟩) fun c u y => ?_)
    · obtain ⟨rfl, rfl⟩ := y
      refine wpS_bind (wpS_get ?_)
      rw [if_pos (by rw [d3]; exact Nat.le_refl 1)]
      exact wpS_pure ⟨rfl, rfl⟩
    · obtain ⟨rfl, rfl⟩ := y
      exact wpS_pure (h _ d1 d2)
end
section
variable {P : Program} {w : World} {A : Around} {E : Value → Shared → Prop} {s : Shared} {kd : SortKind}
/-- what sorting needs to know of the keys, in any state that keeps what is there -/
structure Keys (P : Program) (w : World) (A : Around) (s : Shared) (kd : SortKind) (vs : List Value) : Prop where
  kind : 2 ≤ vs.length → ∀ (E : Value → Shared → Prop) (Q : SortKind → Shared → Prop), Q kd s → wpAny (model P w) A (keyKind' vs.toArray) Q E s
  cmp : Cmp P w A s kd vs
theorem pairs_fst (vs : List Value) : (pairsOf vs).toList.map (·.1) = vs := by
  rw [pairsOf_toList]
  exact List.map_fst_zip (Nat.le_refl _)
theorem pairs_perm {vs : List Value} {xs : Array Keyed} (h : xs.Perm (pairsOf vs)) : (xs.map (·.2)).toList.Perm vs := by
  have z := (Array.perm_iff_toList_perm.mp h).map (·.2)
  rw [pairsOf_toList, List.map_snd_zip (Nat.le_refl _)] at z
  rwa [Array.toList_map]
theorem sort_any {a : Addr} {vs : List Value} {n : Nat} {R : Fin → Shared → Prop} (ho : s.heap.get? a = some (seqObj "list" vs.toArray n)) (h64 : vs.length < 64)
    (hK : ∀ h', (∀ b o, b ≠ a → s.heap.get? b = some o → h'.get? b = some o) → Keys P w A { s with heap := h' } kd vs)
    (h : ∀ out : Array Value, out.toList.Perm vs → R (.done (.ret .none)) { s with heap := sortedHeap s.heap a vs out }) : wpAny (model P w) A (Builtin.«list.sort» ⟨[.ref a], []⟩) R E s := by
  have ha : a < s.heap.objs.size := Heap.lt_size ho
  rw [list_sort_plain]
  refine wpAny_bind (listItems_at ho rfl (wpAny_bind (listUpdate_at ho rfl ?_)))
  obtain ⟨e1, ho1⟩ : ∃ e, (s.heap.update a (Obj.mapSeq fun _ => #[])).get? a = some (seqObj "list" #[] e) := ⟨_, get?_update_seq ho fun _ => #[]⟩
  refine wpAny_bind (seqEpoch_at ho1 rfl (wpAny_bind (wpAny_newTuple (wpAny_bind (wpAny_newList (wpAny_holding ?_))))))
  show wpAny (model P w) A _ R E { s with heap := ((s.heap.update a (Obj.mapSeq fun _ => #[])).push (seqObj "tuple" vs.toArray 0)).push (seqObj "list" #[] 0) }
  have ho6 : (((s.heap.update a (Obj.mapSeq fun _ => #[])).push (seqObj "tuple" vs.toArray 0)).push (seqObj "list" #[] 0)).get? a = some (seqObj "list" #[] e1) := Heap.get?_push_of_some _ (Heap.get?_push_of_some _ ho1)
  have kp := hK (((s.heap.update a (Obj.mapSeq fun _ => #[])).push (seqObj "tuple" vs.toArray 0)).push (seqObj "list" #[] 0)) fun b o hb q =>
    Heap.get?_push_of_some _ (Heap.get?_push_of_some _ (by rw [Heap.get?_update_other _ _ (Ne.symm hb)]; exact q))
  have fin : ∀ t : SortSt, (arrOf t).Perm (pairsOf vs) → R (.done (.ret .none)) { s with heap := sortedHeap s.heap a vs ((arrOf t).map (·.2)) } := fun t hp => h _ (pairs_perm hp)
  have sz : vs.toArray.size = vs.length := List.size_toArray
  dsimp only
  have szp : ∀ t : SortSt, (arrOf t).Perm (pairsOf vs) → ((arrOf t).map (·.2)).size ≤ sizeLine + 1 := fun t hp => by
    rw [Array.size_map, hp.size_eq, pairsOf_size, sizeLine_eq]
    omega
  by_cases c2 : vs.toArray.size < 2
  · rw [if_pos c2, if_pos c2]
    refine wpAny_bind (wpAny_pure ?_)
    rw [StateT.run_pure]
    refine wpAny_bind (wpAny_pure ?_)
    dsimp only
    refine wpAny_bind (seqEpoch_at ho6 rfl (wpAny_bind (listUpdate_at ho6 rfl ?_ (hsz2 := szp (SortSt.mk' general' (vs.toArray.zip vs.toArray) #[] 7 none) (Array.Perm.refl _)))))
    rw [if_neg (by simp)]
    exact wpAny_pure (fin (SortSt.mk' general' (vs.toArray.zip vs.toArray) #[] 7 none) (Array.Perm.refl _))
  · rw [if_neg c2, if_neg c2]
    refine wpAny_bind (kp.kind (by omega) _ _ ?_)
    have cm : Cmp P w A { s with heap := ((s.heap.update a (Obj.mapSeq fun _ => #[])).push (seqObj "tuple" vs.toArray 0)).push (seqObj "list" #[] 0) } kd ((pairsOf vs).toList.map (·.1)) := by
      rw [pairs_fst]
      exact kp.cmp
    have run := runs_any (E := E) (Q := fun _ t => (arrOf t).Perm (pairsOf vs) ∧ failedOf t = none) cm (st := SortSt.mk' kd (vs.toArray.zip vs.toArray) #[] 7 none) ⟨Array.Perm.refl _, rfl, rfl, rfl⟩ (by rw [pairsOf_size]; omega) (by rw [pairsOf_size]; exact h64) fun t p f => ⟨p, f⟩
    refine wpAny_bind (wpAny_mono run (fun r s' z => ?_) fun _ _ e => e)
    obtain ⟨⟨⟩, t⟩ := r
    obtain ⟨rfl, hp, hf⟩ := z
    dsimp only
    refine wpAny_bind (seqEpoch_at ho6 rfl (wpAny_bind (listUpdate_at ho6 rfl ?_ (hsz2 := szp t hp))))
    rw [hf]
    dsimp only
    rw [if_neg (by simp)]
    exact wpAny_pure (fin t hp)
theorem sorted_any {l : Addr} {vs : List Value} {Q : Value → Shared → Prop} (hl : s.heap.IsList l vs.toArray) (h64 : vs.length < 64)
    (hK : ∀ A' h', (∀ b o, s.heap.get? b = some o → h'.get? b = some o) → Keys P w A' { s with heap := h' } kd vs)
    (h : ∀ out : Array Value, out.toList.Perm vs → Q (.ref (s.heap.objs.size + 1)) { s with heap := sortedAll s.heap vs out }) : wpAny (model P w) A (call (.builtin "sorted") [.ref l]) Q E s := by
  refine Calls.call_function_entry kind_sorted plain_sorted entry_sorted (args_sorted1 _) ?_
  unfold Builtin.«sorted»
  refine wpAny_bind (m := checkCount "sorted" 1 1 _) (wpAny_pure (wpAny_bind (collect_list hl ?_ (by rw [sizeLine_eq]; omega))))
  refine wpAny_bind (wpAny_newList ?_)
  have sz : ((s.heap.push (seqObj "list" #[] 0)).update s.heap.objs.size (Obj.mapSeq (· ++ vs.toArray))).objs.size = s.heap.objs.size + 1 := by rw [Heap.size_update, size_push']
  have hoL : (((s.heap.push (seqObj "list" #[] 0)).update s.heap.objs.size (Obj.mapSeq (· ++ vs.toArray))).push (seqObj "list" vs.toArray 0)).get? (s.heap.objs.size + 1) = some (seqObj "list" vs.toArray 0) := sz ▸ Heap.get?_push_size _ rfl
  show wpAny _ _ _ _ _ { s with heap := ((s.heap.push (seqObj "list" #[] 0)).update s.heap.objs.size (Obj.mapSeq (· ++ vs.toArray))).push (seqObj "list" vs.toArray 0) }
  rw [sz]
  refine wpAny_bind (wpAny_holding (wpAny_call_entry slot_list_sort ⟨_, hoL, rfl⟩ entry_list_sort (sort_any (kd := kd) hoL h64 (fun h' k => hK _ h' fun b o q => ?_) fun out p => ⟨_, rfl, wpAny_pure ⟨_, rfl, h out p⟩⟩) (args_list_sort _)))
  have hb : b < s.heap.objs.size := Heap.lt_size q
  refine k b o (Nat.ne_of_lt (Nat.lt_succ_of_lt hb)) (Heap.get?_push_of_some _ ?_)
  rw [Heap.get?_update_other _ _ (Nat.ne_of_lt hb).symm]
  exact Heap.get?_push_of_some _ q
end
end L2

namespace L2
open PySem PySem.Spec PyProof.Rows
/-! ### sorted(..) of pairs of whole numbers -/
theorem first_eq (v : Value) : firstOfTuple' v = (do
    if (← typeOf v) != .type "tuple" then return none
    return (← Builtin.List.listItems v)[0]?) := rfl
theorem keyLt_tup (f : Bool) (x y : Value) : keyLt' (tuples' f) x y = (do
    let xs ← Builtin.List.listItems x; let ys ← Builtin.List.listItems y
    for ((p, q), i) in (xs.toList.zip ys.toList).zipIdx do
      if !(← eqBool p q) then return ← oneLt' (f && i == 0) p q
    return decide (xs.size < ys.size)) := rfl
section
variable {P : Program} {w : World} {A : Around} {E : Value → Shared → Prop} {s : Shared}
theorem wp_mapM {M : Model} {β : Type} {f : Value → Sem β} {g : Value → β} : ∀ {vs : List Value} {Q : List β → Shared → Prop}, (∀ x ∈ vs, ∀ (Q : β → Shared → Prop), Q (g x) s → wpAny M A (f x) Q E s) → Q (vs.map g) s → wpAny M A (vs.mapM f) Q E s
  | [], Q, _, h => by
    rw [List.mapM_nil]
    exact wpAny_pure h
  | x :: r, Q, hx, h => by
    rw [List.mapM_cons]
    exact wpAny_bind (hx x List.mem_cons_self _ (wpAny_bind (wp_mapM (fun y hy => hx y (List.mem_cons_of_mem _ hy)) (wpAny_pure h))))
theorem lt_ints {f : Bool} {a b : Int} {t u : Tok} {Q : Bool → Shared → Prop} (h : ∀ b, Q b s) : wpAny (model P w) A (oneLt' f (.int a t) (.int b u)) Q E s := by
  cases f with
  | true => exact oneLt_int (h _)
  | false =>
    rw [oneLt'_eq]
    rw [if_neg Bool.false_ne_true]
    refine wpAny_bind (wpAny_richCompare_same (T := "int") (typeIs_int s a t) (typeIs_int s b u) slot_int_lt (call_int_lt ⟨nofun, ?_⟩))
    exact wpAny_truthy_bool (h _)
/-- a pair of whole numbers on the heap -/
def PairAt (h : Heap) (v : Value) : Prop := ∃ (a : Addr) (i j : Int) (t u : Tok) (o : Obj) (n : Nat), v = .ref a ∧ h.get? a = some o ∧ o.cls = .type "tuple" ∧ o.data = .seq #[.int i t, .int j u] n
theorem cmp_pairs {vs : List Value} (hp : ∀ v ∈ vs, PairAt s.heap v) (f : Bool) : Cmp P w A s (tuples' f) vs := by
  intro x hx y hy E Q h
  obtain ⟨a, i, j, t, u, o, n, rfl, ho, hc, hd⟩ := hp x hx
  obtain ⟨a2, i2, j2, t2, u2, o2, n2, rfl, ho2, hc2, hd2⟩ := hp y hy
  rw [keyLt_tup]
  refine wpAny_bind (listItems_at ho hd (wpAny_bind (listItems_at ho2 hd2 ?_)))
  show wpAny (model P w) A (do
    let r ← forIn [((Value.int i t, Value.int i2 t2), 0), ((Value.int j u, Value.int j2 u2), 1)] (none, ()) _
    _) Q E s
  rw [List.forIn_cons]
  refine wpAny_bind (wpAny_bind ?_)
  refine wpAny_bind (wpAny_eqBool_int ?_)
  by_cases c : (i == i2) = true
  · rw [c, if_neg (by decide)]
    refine wpAny_pure ?_
    show wpAny (model P w) A (forIn [((Value.int j u, Value.int j2 u2), 1)] ((none, ()) : Option Bool × Unit) _) _ E s
    rw [List.forIn_cons]
    refine wpAny_bind (wpAny_bind (wpAny_eqBool_int ?_))
    by_cases d : (j == j2) = true
    · rw [d, if_neg (by decide)]
      refine wpAny_pure ?_
      show wpAny (model P w) A (forIn [] ((none, ()) : Option Bool × Unit) _) _ E s
      rw [List.forIn_nil]
      exact wpAny_pure (wpAny_pure (h _))
    · rw [Bool.eq_false_iff.mpr d, if_pos (by decide)]
      exact wpAny_bind (lt_ints fun b => wpAny_pure (wpAny_pure (wpAny_pure (h b))))
  · rw [Bool.eq_false_iff.mpr c, if_pos (by decide)]
    exact wpAny_bind (lt_ints fun b => wpAny_pure (wpAny_pure (wpAny_pure (h b))))
theorem kind_pairs {vs : List Value} (hp : ∀ v ∈ vs, PairAt s.heap v) (h2 : 2 ≤ vs.length) {Q : SortKind → Shared → Prop} (h : Q (tuples' true) s) : wpAny (model P w) A (keyKind' vs.toArray) Q E s := by
  rw [keyKind'_eq, List.mapM_toArray]
  -- the first of each
  obtain ⟨g, hg⟩ : ∃ g : Value → Option Value, ∀ v ∈ vs, ∃ (i : Int) (t : Tok), g v = some (.int i t) ∧ ∀ (Q : Option Value → Shared → Prop), Q (g v) s → wpAny (model P w) A (firstOfTuple' v) Q E s := by
    have all : ∀ v ∈ vs, ∃ y : Option Value, ∃ (i : Int) (t : Tok), y = some (.int i t) ∧ ∀ (Q : Option Value → Shared → Prop), Q y s → wpAny (model P w) A (firstOfTuple' v) Q E s := by
      intro v hv
      obtain ⟨a, i, j, t, u, o, n, rfl, ho, hc, hd⟩ := hp v hv
      refine ⟨some (.int i t), i, t, rfl, fun Q q => ?_⟩
      rw [first_eq]
      refine wpAny_bind (wpAny_typeOf (T := "tuple") ⟨o, ho, hc⟩ ?_)
      rw [if_neg (by decide)]
      exact wpAny_bind (listItems_at ho hd (wpAny_pure q))
    refine ⟨fun v => if hv : v ∈ vs then (all v hv).choose else none, fun v hv => ?_⟩
    dsimp only
    rw [dif_pos hv]
    exact (all v hv).choose_spec
  refine wpAny_bind ?_
  rw [map_eq_pure_bind]
  refine wpAny_bind (wp_mapM (g := g) (fun x hx Q q => (hg x hx).choose_spec.choose_spec.2 Q q) (wpAny_pure ?_))
  have e1 : ((vs.map g).toArray.all fun x => x.isSome) = true := by
    rw [List.all_toArray, List.all_map, List.all_eq_true]
    intro v hv
    obtain ⟨i, t, e, _⟩ := hg v hv
    show (g v).isSome = true
    rw [e]
    rfl
  rw [if_pos e1]
  refine wpAny_bind (wpAny_rule (wpAny_bind ?_))
  rw [oneTypeOnly'_eq]
  have allI : ∀ x ∈ (vs.map g).filterMap id, ∃ (i : Int) (t : Tok), x = .int i t := by
    intro x hx
    obtain ⟨y, hy, e⟩ := List.mem_filterMap.mp hx
    obtain ⟨v, hv, rfl⟩ := List.mem_map.mp hy
    obtain ⟨i, t, e2, _⟩ := hg v hv
    have e3 : g v = some x := e
    rw [e2] at e3
    cases e3
    exact ⟨i, t, rfl⟩
  have ne : ∃ x r, (vs.map g).filterMap id = x :: r := by
    cases vs with
    | nil => exact absurd h2 (by decide)
    | cons v r =>
      obtain ⟨i, t, e2, _⟩ := hg v List.mem_cons_self
      refine ⟨.int i t, (r.map g).filterMap id, ?_⟩
      rw [List.map_cons, List.filterMap_cons]
      rw [e2]
      rfl
  have ea : (Array.filterMap id (vs.map g).toArray) = ((vs.map g).filterMap id).toArray := by simp
  rw [ea]
  generalize (vs.map g).filterMap id = zs at allI ne
  obtain ⟨x, r, rfl⟩ := ne
  refine wpAny_bind ?_
  rw [List.mapM_toArray, map_eq_pure_bind]
  refine wpAny_bind (wp_mapM (g := fun _ => Value.type "int") (fun y hy Q q => ?_) (wpAny_pure ?_))
  · obtain ⟨i, t, rfl⟩ := allI y hy
    exact wpAny_typeOf (typeIs_int s i t) q
  · have hall : (((x :: r).map fun _ => Value.type "int").toArray.all fun y => y == Value.type "int") = true := by
      rw [List.all_toArray, List.all_map, List.all_eq_true]
      intro _ _
      rfl
    have h0 : ((x :: r).map fun _ => Value.type "int").toArray[0]? = some (Value.type "int") := rfl
    rw [h0]
    dsimp only
    rw [hall]
    exact wpAny_pure (wpAny_pure h)
theorem keys_pairs {vs : List Value} (hp : ∀ v ∈ vs, PairAt s.heap v) : Keys P w A s (tuples' true) vs := ⟨fun h2 E Q q => kind_pairs hp h2 q, cmp_pairs hp true⟩
end
/-- sorted(xs) of a list of pairs: the pairs, in some order -/
theorem call_sorted2 {X : Cx} : CallR X (.builtin "sorted") (fun xs H Q => ∃ (a : Addr) (ps : List Addr), xs = [.ref a] ∧ SqL X.K H a (ps.map V.ref) ∧ ps.length < 64 ∧ (∀ p ∈ ps, ∃ i j : Int, SqT X.K H p [.int i, .int j]) ∧
    ∀ (l : Addr) (qs : List Addr), H l = none → qs.Perm ps → Q (.ref l) (upd H l (.lst (qs.map V.ref)))) := by
  intro pins s σ H xs us Q I r h
  obtain ⟨a, ps, rfl, hS, h64, hP, q⟩ := h
  obtain ⟨u, rfl, ru⟩ := vals1 r
  cases ru
  obtain ⟨its, vi, pl, hz⟩ := I.list hS
  have ei : ∀ (ps : List Addr) (its : List Value), Vals (ps.map V.ref) its → its = ps.map Value.ref := by
    intro ps
    induction ps with
    | nil => intro its z; cases z; rfl
    | cons p r ih =>
      intro its z
      cases z with
      | cons z1 z2 =>
        have e : _ = Value.ref p := z1
        rw [e, ih _ z2]
        rfl
  have e := ei ps its vi
  subst e
  have pairs : ∀ v ∈ ps.map Value.ref, PairAt s.heap v := by
    intro v hv
    obtain ⟨p, hp, rfl⟩ := List.mem_map.mp hv
    obtain ⟨i, j, hT⟩ := hP p hp
    obtain ⟨its2, v2, ⟨o, ho, hc, n, hd⟩, _⟩ := I.tuple hT
    cases v2 with
    | cons a1 a2 =>
      cases a2 with
      | cons b1 b2 =>
        cases b2
        obtain ⟨t, rfl⟩ := a1
        obtain ⟨u, rfl⟩ := b1
        exact ⟨p, i, j, t, u, o, n, rfl, ho, hc, hd⟩
  refine sorted_any (kd := tuples' true) (isL_of pl) (by rw [List.length_map]; exact h64) (fun A' h' k => keys_pairs fun v hv => ?_) fun out hp => ?_
  · obtain ⟨p, i, j, t, u, o, n, rfl, ho, hc, hd⟩ := pairs v hv
    exact ⟨p, i, j, t, u, o, n, rfl, k _ _ ho, hc, hd⟩
  · obtain ⟨qs, eq, pq⟩ : ∃ qs : List Addr, out.toList = qs.map Value.ref ∧ qs.Perm ps := by
      have un : ∀ l : List Value, (∀ v ∈ l, ∃ p, v = Value.ref p) → ∃ qs : List Addr, l = qs.map Value.ref := by
        intro l
        induction l with
        | nil => intro _; exact ⟨[], rfl⟩
        | cons v r ih =>
          intro hv
          obtain ⟨p, rfl⟩ := hv v List.mem_cons_self
          obtain ⟨qs, rfl⟩ := ih fun y hy => hv y (List.mem_cons_of_mem _ hy)
          exact ⟨p :: qs, rfl⟩
      obtain ⟨qs, e⟩ := un out.toList fun v hv => by
        obtain ⟨p, _, rfl⟩ := List.mem_map.mp (hp.mem_iff.mp hv)
        exact ⟨p, rfl⟩
      refine ⟨qs, e, ?_⟩
      rw [e] at hp
      have z := hp.map fun v => match v with | .ref p => p | _ => 0
      rw [List.map_map, List.map_map] at z
      have c : ((fun v => match v with | .ref p => p | _ => 0) ∘ Value.ref : Addr → Addr) = id := rfl
      rwa [c, List.map_id, List.map_id] at z
    obtain ⟨e, he⟩ := sortedAll_at s.heap (ps.map Value.ref) out
    have hf : H (s.heap.objs.size + 1) = none := I.hok.fresh (Nat.le_succ _)
    have vq : ∀ qs : List Addr, Vals (qs.map V.ref) (qs.map Value.ref) := by
      intro qs
      induction qs with
      | nil => exact .nil
      | cons p r ih => exact .cons rfl ih
    refine ⟨.ref (s.heap.objs.size + 1), upd H (s.heap.objs.size + 1) (.lst (qs.map V.ref)), I.laid (t' := s.toks) (fun b u q => sortedAll_old q) (Nat.le_succ _) ⟨?_, qs.map Value.ref, e, vq qs, ?_⟩, rfl, q _ qs hf pq⟩
    · rw [List.length_map, pq.length_eq, sizeLine_eq]
      omega
    · rw [he, ← eq]
end L2

namespace L2
open PySem PySem.Spec PyProof.Rows
section
variable {X : Cx}
/-! ### sum(xs), xs.count(k) -/
theorem call_sum (hc : X.calm = true) : CallR X (.builtin "sum") (fun xs H Q => ∃ (a : Addr) (ns : List Int), xs = [.ref a] ∧ SqL X.K H a (ns.map V.int) ∧ Q (.int ns.sum) H) := by
  intro pins s σ H xs us Q I r h
  obtain ⟨a, ns, rfl, hS, q⟩ := h
  obtain ⟨u, rfl, ru⟩ := vals1 r
  cases ru
  obtain ⟨its, vi, pl, hz⟩ := I.list hS
  have hi := intsAre_of vi
  obtain ⟨xs, hx⟩ := hi.allInts.items
  have hl : s.heap.IsList a (intItems xs) := hx ▸ isL_of pl
  refine sum_intListG (I.ok.hd hc) hl fun h' tk t' hk => ?_
  have e1 : ns = xs.toList.map (·.1) := by
    rw [← nums_intItems, ← hx]
    exact hi.numsOf.symm
  have e2 : preSum (numAt xs) xs.size = ns.sum := by
    rw [e1, preSum_eq, List.take_of_length_le (by simp)]
  rw [e2]
  exact ⟨.int ns.sum, H, I.kept hk, ⟨_, rfl⟩, q⟩
theorem mt_count : MtR X "list.count" (fun x xs H Q => ∃ (a : Addr) (k : Int) (ns : List Int), x = .ref a ∧ xs = [.int k] ∧ SqL X.K H a (ns.map V.int) ∧ Q (.int (ns.count k : Nat)) H) := by
  intro pins s σ H x xs v us Q I rx rv h
  obtain ⟨a, k, ns, rfl, rfl, hS, q⟩ := h
  cases rx
  obtain ⟨u, rfl, t, rfl⟩ := vals1 rv
  obtain ⟨its, vi, pl, hz⟩ := I.list hS
  exact count_list_ints (isL_of pl) (intsAre_of vi) ⟨.int (ns.count k : Nat), H, I.tok _, ⟨_, rfl⟩, q⟩
/-! ### e as a row of its own, where e may raise -/
theorem psx_expr {e : Expr} {te : XK → TE} {pos : Pos} (he : PEX X e te) (hs : swapsWith e none pos.line X.env = pure false := by rfl) : PSX X [.Expr e pos] (fun Ex => tDrop (te Ex)) := by
  intro pins s σ H D Ex I h
  exact wpAny_execs_cons (wpAny_Expr_any (thn (he pins s σ H _ Ex I h) fun v s1 ⟨x, H1, I1, r1, q1⟩ => wpAny_execs_nil ⟨σ, H1, I1, q1⟩) I.quiet hs)
end
/-! ### for i, x in enumerate(xs) -/
def Ite (K : PySem.W.Frag) (a : Addr) : It :=
  ⟨fun i H => ∃ xs x, SqL K H a xs ∧ xs[i]? = some x, fun i H v H' => ∃ p x, v = .ref p ∧ H p = none ∧ H' = upd H p (.tup [.int (i : Nat), x]) ∧ ∀ xs, SqL K H a xs → xs[i]? = some x, fun i H => ∃ xs, SqL K H a xs ∧ xs.length ≤ i⟩
theorem turn_enum {P : Program} {w : World} {K : PySem.W.Frag} {es : List Expr} {x1} {tp : Pos} (a e it : Addr) (hne : e ≠ it) : Turn P w K (.Tuple es x1 tp) (Ite K a) [e, it] e (fun i h => (∃ old, IsEnum h e it i old) ∧ h.IsListIter it a i) where
  mem := by simp
  obj := fun i h st b hb => by
    obtain ⟨⟨old, he⟩, ⟨o, ho, c, d⟩⟩ := st
    rcases List.mem_cons.mp hb with rfl | hb
    · exact ⟨_, he, fun v z => by cases z⟩
    · have q : b = it := by simpa using hb
      subst q
      exact ⟨o, ho, fun v z => by rw [d] at z; cases z⟩
  keep := fun i h h' st k => by
    obtain ⟨⟨old, he⟩, hi⟩ := st
    exact ⟨⟨old, k e (by simp) _ he⟩, hi.at fun o q => k it (by simp) o q⟩
  item := by
    intro X hP hw hK hc i pins s σ H E I hf st hg
    subst hP hw hK
    obtain ⟨xs, x, hq, hx⟩ := hg
    obtain ⟨⟨old, he⟩, hit⟩ := st
    obtain ⟨its, rv, p, hz⟩ := I.list hq
    obtain ⟨u, hu, ru⟩ := rv.get hx
    obtain ⟨a0, a1, a2, a3, a4, a5⟩ := hf e (by simp)
    obtain ⟨f0, f1, f2, f3, f4, f5⟩ := hf it (by simp)
    refine wpAny_pyNext_enum_item he hit p.isList (x := u) (by simpa using hu) hne fun h' eo hit' ht hsz hk => ⟨_, rfl, ?_⟩
    refine wpAny_letOwnedTupleGo_enum eo fun h2 he2 sb2 => ?_
    have sb2' : Heap.SameBut e h' h2 := sb2
    have hn : H s.heap.objs.size = none := I.fresh
    have le : e < s.heap.objs.size := Heap.lt_size he
    obtain ⟨oi, hoi, ci, di⟩ := id hit
    have li : it < s.heap.objs.size := Heap.lt_size hoi
    -- the pair is laid, then the two iterators move on
    have I1 : Inv X pins σ (upd H s.heap.objs.size (.tup [.int (i : Nat), x])) { s with heap := s.heap.push { cls := .type "tuple", data := .seq #[.int i s.toks, u] }, toks := s.toks + 1 } :=
      I.laid (t' := s.toks + 1) (fun b ob q => Heap.get?_push_of_some _ q) (Nat.le_refl _) ⟨by rw [sizeLine_eq]; show 2 ≤ _; decide, [.int i s.toks, u], .cons ⟨_, rfl⟩ (.cons ru .nil), IsTup.new _ _⟩
    obtain ⟨oi2, hoi2, ci2, di2⟩ := id hit'
    have hoi3 : h2.get? it = some oi2 := (sb2'.2 it (Ne.symm hne)).trans hoi2
    have gi : ((s.heap.push { cls := .type "tuple", data := .seq #[.int i s.toks, u] }).update it (fun _ => oi2)).get? it = some oi2 := by
      refine Heap.get?_update_self _ (Heap.get?_push_of_some _ hoi) ?_
      exact Obj.isFreed_of_fields di2
    have I2 := I1.turned (h' := (s.heap.push { cls := .type "tuple", data := .seq #[.int i s.toks, u] }).update it (fun _ => oi2)) (t' := s.toks + 1) (it := it) (fun b o hb q => (Heap.get?_update_other _ _ (Ne.symm hb)).trans q) (by rw [upd_ne (Nat.ne_of_lt li)]; exact f0) f1 f3 f4 f5
    have I3 := I2.turned (h' := h2) (t' := s.toks + 1) (it := e) (fun b o hb q => by
      by_cases c : b = it
      · subst c
        have q' := gi.symm.trans q
        cases q'
        exact hoi3
      · have q1 : (s.heap.push { cls := .type "tuple", data := .seq #[.int i s.toks, u] }).get? b = some o := (Heap.get?_update_other _ _ (Ne.symm c)).symm.trans q
        by_cases d : b = s.heap.objs.size
        · subst d
          have q2 := (Heap.get?_push_size s.heap (o := { cls := .type "tuple", data := .seq #[.int i s.toks, u] }) rfl).symm.trans q1
          cases q2
          exact (sb2'.2 _ hb).trans ht
        · rw [Heap.get?_push_ne _ _ _ d] at q1
          exact (sb2'.2 b hb).trans (hk b o hb c q1)) (by rw [upd_ne (Nat.ne_of_lt le)]; exact a0) a1 a3 a4 a5
    refine ⟨.ref s.heap.objs.size, _, I3, rfl, ⟨s.heap.objs.size, x, rfl, hn, rfl, fun ys hy => by rw [I.list_inj hy hq]; exact hx⟩, ⟨⟨_, he2⟩, oi2, hoi3, ci2, di2⟩, fun b hb => ?_⟩
    rcases List.mem_cons.mp hb with rfl | hb
    · rw [upd_ne (Nat.ne_of_lt le)]; exact a0
    · have q : b = it := by simpa using hb
      subst q
      rw [upd_ne (Nat.ne_of_lt li)]; exact f0
  done := by
    intro X hP hw hK hc i pins s σ H E I hf st hg
    subst hP hw hK
    obtain ⟨xs, hq, hx⟩ := hg
    obtain ⟨⟨old, he⟩, hit⟩ := st
    obtain ⟨its, rv, p, hz⟩ := I.list hq
    obtain ⟨f0, f1, f2, f3, f4, f5⟩ := hf it (by simp)
    have hl := rv.length
    exact wpAny_pyNext_enum_end (I.ok.hd hc) he hit p.isList (by simp; omega) fun h' eb => ⟨rfl, I.turned (t' := s.toks) (fun b o hb e => eb b o hb e) f0 f1 f3 f4 f5⟩
  self := fun _ _ _ _ _ st h => by
    obtain ⟨⟨old, he⟩, _⟩ := st
    exact wpAny_pyIter_enum he h
section
variable {X : Cx}
def iEnum (K : PySem.W.Frag) (ta : TA) : TI := fun σ H R => ta σ H fun vs H1 => ∃ a xs, vs = [.ref a] ∧ H1 a = some (.lst xs) ∧ R (Ite K a) H1
theorem pi_enum {es : List Expr} {x1} {tp p pos : Pos} {l : Expr} {ta : TA} (hg : Gl X "enumerate") (hm : X.mg "enumerate" = none) (ha : PA X [l] ta) (hs : starEach [l] X.env = [(false, eval l X.env)] := by rfl) : PI X (.Tuple es x1 tp) (.Call (.Name "enumerate" p) [l] [] pos) (iEnum X.K ta) := by
  intro pins s σ H R I h
  refine Call_ (ld_blt I hg hm boot_enumerate (PyProof.Rows.callWith_type1 (thn (ha pos pins s σ H _ I h) fun us s1 ⟨vs, H1, I1, r1, q1⟩ => ?_) hs rfl))
  obtain ⟨a, xs, rfl, hL, q⟩ := q1
  obtain ⟨u, rfl, ru⟩ := vals1 r1
  cases ru
  obtain ⟨z, its, n, r, hl, e⟩ := I1.lstM hL
  refine call_enumerate_1 e fun h' en li sz hk => ?_
  have I2 : Inv X pins σ H1 { s1 with heap := h' } := I1.kept (t' := s1.toks) hk
  refine wpAny_pyIter_enum en ⟨s1.heap.objs.size + 1, [s1.heap.objs.size + 1, s1.heap.objs.size], _, Ite X.K a, H1, rfl, I2, turn_enum a _ _ (Nat.succ_ne_self _), ⟨⟨_, en⟩, li⟩, fun b hb => ?_, q⟩
  have hb' : s1.heap.objs.size ≤ b := by
    rcases List.mem_cons.mp hb with rfl | hb
    · exact Nat.le_succ _
    · have q : b = s1.heap.objs.size := by simpa using hb
      rw [q]
      exact Nat.le_refl _
  have z := I1.fpOk (H' := H1) hb' (I1.hok.fresh hb')
  exact z
end
end L2

namespace L2
open PySem PySem.Spec PyProof.Rows
section
open PySem.SeqAt
open PySem.AutoSeq1 (wpAny_loadPart')
open PySem.MeetsSeq PySem.MeetsSeq2 PySem.MeetsSeq3
/-! ### xs < ys of lists of whole numbers -/
theorem drop_ints {xs : Array Value} {i : Nat} {ns : List Int} (h : IntsAre (xs.toList.drop i) ns) : (ns = [] ∧ xs[((i : Nat) : Int).toNat]? = none ∧ xs.size ≤ i) ∨ ∃ (c : Int) (t : Tok) (r : List Int), ns = c :: r ∧ xs[((i : Nat) : Int).toNat]? = some (.int c t) ∧ i < xs.size ∧ IntsAre (xs.toList.drop (i + 1)) r := by
  by_cases lt : i < xs.size
  · right
    have e : xs.toList.drop i = xs[i] :: xs.toList.drop (i + 1) := by simp [List.drop_eq_getElem_cons, lt]
    rw [e] at h
    generalize xs.toList.drop (i + 1) = tl at h ⊢
    generalize hv : xs[i] = v at h
    cases h with
    | cons c t h2 => exact ⟨c, t, _, rfl, by rw [Int.toNat_natCast, getElem?_pos xs i lt, hv], lt, h2⟩
  · left
    have e : xs.toList.drop i = [] := List.drop_eq_nil_of_le (by simpa using lt)
    rw [e] at h
    cases h
    exact ⟨rfl, by simp; omega, by omega⟩
theorem lt_loop (l b : Addr) (xs ys : Array Value) (n n2 : Nat) (dd dd2 : Option Addr) (sl sl2 : Array (Option Value)) : ∀ (k i : Nat) (ns ms : List Int), ns.length = k → IntsAre (xs.toList.drop i) ns → IntsAre (ys.toList.drop i) ms → i ≤ xs.size → i ≤ ys.size →
    Meets (Builtin.«list.__eq__.loop» ⟨[.ref l, .ref b, rawInt ((i : Nat) : Int), rawInt 0], []⟩) (fun A R s => s.heap.get? l = some { cls := .type "list", dict := dd, data := .seq xs n, slots := sl } ∧
      s.heap.get? b = some { cls := .type "list", dict := dd2, data := .seq ys n2, slots := sl2 } ∧ R (.ok (.ret (.bool (HT.lexLt ns ms)))) s) := by
  intro k
  induction k with
  | zero =>
    intro i ns ms hk hx hy bx bY prog w A R s h
    obtain ⟨hp, g, d, tk, os⟩ := s
    obtain ⟨hl, hb, h⟩ := h
    have e0 : ns = [] := List.eq_nil_of_length_eq_zero hk
    subst e0
    rcases drop_ints hx with ⟨_, i1, lx⟩ | ⟨c, t, r, q, _⟩
    · have h2 : HT.lexLt [] ms = decide (xs.size < ys.size) := by
        rcases drop_ints hy with ⟨rfl, _, ly⟩ | ⟨c, t, r, rfl, _, ly, _⟩
        · exact (decide_eq_false (by omega)).symm
        · exact (decide_eq_true (by omega)).symm
      rw [h2] at h
      wp_walk using wpAny_loadPart' hl, wpAny_loadPart' hb
      rw [i1]
      wp_walk using wpAny_loadPart' hl, wpAny_loadPart' hb
      exact h
    · cases q
  | succ k ih =>
    intro i ns ms hk hx hy bx bY prog w A R s h
    obtain ⟨hp, g, d, tk, os⟩ := s
    obtain ⟨hl, hb, h⟩ := h
    rcases drop_ints hx with ⟨rfl, _, _⟩ | ⟨c, t, r, rfl, i1, lx, hx2⟩
    · cases hk
    rcases drop_ints hy with ⟨rfl, i2, ly⟩ | ⟨c2, t2, r2, rfl, i2, ly, hy2⟩
    · rw [show HT.lexLt (c :: r) [] = decide (xs.size < ys.size) from (decide_eq_false (by omega)).symm] at h
      wp_walk using wpAny_loadPart' hl, wpAny_loadPart' hb
      rw [i1, i2]
      wp_walk using wpAny_loadPart' hl, wpAny_loadPart' hb
      exact h
    · wp_walk using wpAny_loadPart' hl, wpAny_loadPart' hb
      rw [i1, i2]
      refine wpAny_bind (wpAny_eqBool_int ?_)
      have up : ((i : Int) + 1) = ((i + 1 : Nat) : Int) := by omega
      by_cases e : c = c2
      · subst e
        rw [HT.lexLt_cons, if_pos rfl] at h
        rw [beq_self_eq_true]
        wp_walk
        rw [up]
        refine ⟨plainId_quiet plain_eq_loop _, codeAny_builtin entry_eq_loop ?_⟩
        rw [Around.under_plainId plain_eq_loop _]
        exact ih (i + 1) r r2 (by simpa using hk) hx2 hy2 lx ly prog w A R _ ⟨hl, hb, h⟩
      · rw [HT.lexLt_cons, if_neg e] at h
        rw [show (c == c2) = false from beq_eq_false_iff_ne.mpr e]
        wp_walk using wpAny_loadPart' hl, wpAny_loadPart' hb
        rw [i1, i2]
        have hr := HT.rcLt_int A.in1 ⟨hp, g, d, tk, os⟩ c t c2 t2 prog w
        wp_walk using hr
        exact h
theorem list_lt_ints (l b : Addr) (xs ys : Array Value) (n n2 : Nat) (dd dd2 : Option Addr) (sl sl2 : Array (Option Value)) (ns ms : List Int) (hx : IntsAre xs.toList ns) (hy : IntsAre ys.toList ms) :
    Meets (Builtin.«list.__lt__» ⟨[.ref l, .ref b], []⟩) (fun A R s => s.heap.get? l = some { cls := .type "list", dict := dd, data := .seq xs n, slots := sl } ∧
      s.heap.get? b = some { cls := .type "list", dict := dd2, data := .seq ys n2, slots := sl2 } ∧ R (.ok (.ret (.bool (HT.lexLt ns ms)))) s) := by
  intro prog w A R s h
  obtain ⟨hp, g, d, tk, os⟩ := s
  obtain ⟨hl, hb, h⟩ := h
  have f3 := AutoSeq1.sub_list_list
  wp_walk using wpAny_loadPart' hl, wpAny_loadPart' hb
  refine ⟨plainId_quiet plain_eq_loop _, codeAny_builtin entry_eq_loop ?_⟩
  rw [Around.under_plainId plain_eq_loop _]
  exact lt_loop l b xs ys n n2 dd dd2 sl sl2 _ 0 ns ms rfl hx hy (Nat.zero_le _) (Nat.zero_le _) prog w A R _ ⟨hl, hb, h⟩
end
section
variable {X : Cx}
theorem op_ltL (hu : X.A.units < cLine) : OpR X (compareOp .Lt) (fun x y H Q => ∃ (a b : Addr) (ns ms : List Int), x = .ref a ∧ y = .ref b ∧ SqL X.K H a (ns.map V.int) ∧ SqL X.K H b (ms.map V.int) ∧ Q (.bl (HT.lexLt ns ms)) H) := by
  intro pins s σ H x y v u Q I rx ry h
  obtain ⟨a, b, ns, ms, rfl, rfl, hA, hB, q⟩ := h
  cases rx
  cases ry
  obtain ⟨its, vi, pl, _⟩ := I.list hA
  obtain ⟨its2, vi2, pl2, _⟩ := I.list hB
  obtain ⟨⟨cls, dd, data, sl⟩, ho, hc, n, hd⟩ := isL_of pl
  obtain ⟨⟨cls2, dd2, data2, sl2⟩, ho2, hc2, n2, hd2⟩ := isL_of pl2
  simp only at hc hd hc2 hd2
  subst hc hd hc2 hd2
  exact richCompare_meets_room (op := .Lt) ⟨_, ho, rfl⟩ ⟨_, ho2, rfl⟩ PySem.F.slot_list_lt PySem.F.entry_list_lt (PySem.F.args_list_lt_2 _ _) (list_lt_ints a b its.toArray its2.toArray n n2 dd dd2 sl sl2 ns ms (intsAre_of vi) (intsAre_of vi2))
    ⟨ho, ho2, (fun z => nomatch z), .bl (HT.lexLt ns ms), H, I, rfl, q⟩ hu
end
end L2

namespace L2
open PySem PySem.Spec PyProof.Rows
/-! ### [.. for k in range(n)], where of each item only something is known -/
theorem comp_some {te : TE} {σ0 : St} {H1 : Hp} {Q : V → Hp → Prop} {lo : Int} {n : Nat} (G : Nat → V → Hp → Prop) (hn : n ≤ sizeLine) (hG : ∀ i v H H', G i v H → Same H H' → G i v H') (hU : ∀ i v H l xs ys, G i v H → H l = some (.lst xs) → G i v (upd H l (.lst ys)))
    (hE : ∀ i H, i < n → Same H1 H → ∀ R : V → Hp → Prop, (∀ v H', Same H H' → G i v H' → R v H') → te (σ0.set 0 (some (.int (lo + (i : Nat))))) H R)
    (hQ : ∀ l H vs, Same H1 H → H1 l = none → H l = some (.lst vs) → vs.length = n → (∀ i v, vs[i]? = some v → G i v H) → Q (.ref l) H) : tCompR (gName 0) tYes te σ0 (Itr lo n) H1 Q := by
  intro l hl
  refine ⟨fun i m σ H => m = n - i ∧ i ≤ n ∧ Same H1 H ∧ (∃ vs, H l = some (.lst vs) ∧ vs.length = i ∧ ∀ j v, vs[j]? = some v → G j v H) ∧ ∀ o, σ.set 0 o = σ0.set 0 o, ⟨n, by simp, Nat.zero_le _, same_upd hl _, ⟨[], upd_same, rfl, fun j v z => by simp at z⟩, fun _ => rfl⟩, ?_⟩
  rintro i m σ H ⟨rfl, hi, sm, ⟨vs, hL, hvl, hvs⟩, hσ⟩
  by_cases lt : i < n
  · refine .inr ⟨lt, fun x H' y => ?_⟩
    obtain ⟨rfl, rfl⟩ := y
    unfold gName tYes
    dsimp only
    rw [hσ, if_pos rfl]
    refine hE i H' lt sm _ fun v H3 s3 hv => ⟨vs, s3 _ _ hL, by omega, n - (i + 1), by omega, rfl, lt, same_upd2 hl (sm.trans s3) _, ⟨vs ++ [v], upd_same, by rw [List.length_append, hvl]; rfl, fun j u hj => ?_⟩, fun o => List.set_set _⟩
    by_cases c : j < vs.length
    · rw [List.getElem?_append_left c] at hj
      exact hU j u H3 l _ _ (hG j u H' H3 (hvs j u hj) s3) (s3 _ _ hL)
    · rw [List.getElem?_append_right (by omega)] at hj
      have e : j - vs.length = 0 := by
        cases q : j - vs.length with
        | zero => rfl
        | succ k => rw [q] at hj; simp at hj
      rw [e] at hj
      have e2 : v = u := by simpa using hj
      subst e2
      have e3 : j = i := by omega
      subst e3
      exact hU j v H3 l _ _ hv (s3 _ _ hL)
  · have e : i = n := by omega
    subst e
    exact .inl ⟨Nat.le_refl _, hQ l H vs sm hl hL hvl hvs⟩
end L2

namespace L2
open PySem PySem.Spec PyProof.Rows
section
variable {X : Cx} {pins : List (Addr × Obj)} {σ : St} {H : Hp} {s : Shared}
/-- untracked records of ours have turned -/
theorem Inv.turnedAll {h' : Heap} {t' : Nat} {fp : List Addr} (I : Inv X pins σ H s) (k : ∀ b o, b ∉ fp → s.heap.get? b = some o → h'.get? b = some o) (hf : ∀ b ∈ fp, FpOk X pins H b) : Inv X pins σ H { s with heap := h', toks := t' } := by
  have nfp : ∀ b u, H b = some u → b ∉ fp := fun b u e z => by rw [(hf b z).1] at e; cases e
  refine I.step (g' := s.gens) (d' := s.drawn) (ch := fp) (fun b hb => ⟨(hf b hb).2.2.2.1, (hf b hb).2.1, (hf b hb).2.2.2.2.1, (hf b hb).2.2.2.2.2⟩) (fun b o _ _ hc e _ => k b o hc e) (fun b o _ _ hc e _ => ⟨o.slots, k b o hc e⟩) (fun _ _ _ _ n => n)
    (fun b o hc e => ⟨o, k b o hc e⟩) (fun _ _ e => e) (fun _ _ _ e => e) (fun b ps e => ⟨#[], by rw [e]; simp⟩) (fun m hm => ?_) (fun b u e => ?_) I.bare
  · obtain ⟨o, es, ep, ho, r⟩ := hm
    exact ⟨o, es, ep, k _ o (fun z => (hf _ z).2.1 rfl) ho, r⟩
  · refine (I.hok b u e).stay (fun c v hc q => k c v ?_ q) (fun _ q => q) fun _ _ q => q
    rcases hc with z | z
    · rw [z]; exact nfp b u e
    · exact nfp c _ z
end
/-! ### for x, y in zip(xs, ys) -/
def Itz (K : PySem.W.Frag) (a b : Addr) : It :=
  ⟨fun i H => ∃ xs ys x y, SqL K H a xs ∧ SqL K H b ys ∧ xs[i]? = some x ∧ ys[i]? = some y, fun i H v H' => ∃ p x y, v = .ref p ∧ H p = none ∧ H' = upd H p (.tup [x, y]) ∧ (∀ xs, SqL K H a xs → xs[i]? = some x) ∧ ∀ ys, SqL K H b ys → ys[i]? = some y,
    fun i H => ∃ xs ys, SqL K H a xs ∧ SqL K H b ys ∧ (xs.length ≤ i ∨ ys.length ≤ i)⟩
theorem turn_zip {P : Program} {w : World} {K : PySem.W.Frag} {es : List Expr} {x1} {tp : Pos} (a b z TI TO i1 i2 : Addr) (D : ZipApart z TI TO i1 i2 a b) :
    Turn P w K (.Tuple es x1 tp) (Itz K a b) [z, TI, TO, i1, i2] z (fun i h => IsZip h z TI TO .none ∧ IsPair h TI (.ref i1) (.ref i2) ∧ (∃ u v, IsPair h TO u v) ∧ h.IsListIter i1 a i ∧ h.IsListIter i2 b i) where
  mem := by simp
  obj := fun i h st c hc => by
    obtain ⟨hz, h1, ⟨u, v, h2⟩, ⟨o3, e3, c3, d3⟩, ⟨o4, e4, c4, d4⟩⟩ := st
    simp only [List.mem_cons, List.not_mem_nil, or_false] at hc
    rcases hc with rfl | rfl | rfl | rfl | rfl
    · exact ⟨_, hz, fun v z => by cases z⟩
    · exact ⟨_, h1, fun v z => by cases z⟩
    · exact ⟨_, h2, fun v z => by cases z⟩
    · exact ⟨_, e3, fun v z => by rw [d3] at z; cases z⟩
    · exact ⟨_, e4, fun v z => by rw [d4] at z; cases z⟩
  keep := fun i h h' st k => by
    obtain ⟨hz, h1, ⟨u, v, h2⟩, h3, h4⟩ := st
    exact ⟨k z (by simp) _ hz, k TI (by simp) _ h1, ⟨u, v, k TO (by simp) _ h2⟩, h3.at fun o q => k i1 (by simp) o q, h4.at fun o q => k i2 (by simp) o q⟩
  item := by
    intro X hP hw hK hc i pins s σ H E I hf st hg
    subst hP hw hK
    obtain ⟨xs, ys, x, y, hx, hy, ex, ey⟩ := hg
    obtain ⟨hz, h1, ⟨u, v, h2⟩, h3, h4⟩ := st
    obtain ⟨its, rv, p, _⟩ := I.list hx
    obtain ⟨its2, rv2, p2, _⟩ := I.list hy
    obtain ⟨a1, ha, ra⟩ := rv.get ex
    obtain ⟨b1, hb, rb⟩ := rv2.get ey
    refine wpAny_pyNext_zip_item D hz h1 h2 h3 h4 p.isList p2.isList (x := a1) (y := b1) (by simpa using ha) (by simpa using hb) fun h' z1 z2 z3 z4 z5 z6 hk => ⟨_, rfl, ?_⟩
    refine wpAny_letOwnedTupleGo_zip z1 fun h5 z7 sb => ?_
    have sb' : Heap.SameBut z h' h5 := sb
    have lz : z < s.heap.objs.size := Heap.lt_size hz
    have I1 : Inv X pins σ (upd H s.heap.objs.size (.tup [x, y])) { s with heap := s.heap.push { cls := .type "tuple", data := .seq #[a1, b1] }, toks := s.toks } :=
      I.laid (t' := s.toks) (fun c ob q => Heap.get?_push_of_some _ q) (Nat.le_refl _) ⟨by rw [sizeLine_eq]; show 2 ≤ _; decide, [a1, b1], .cons ra (.cons rb .nil), IsTup.new _ _⟩
    have ltf : ∀ c ∈ [z, TI, TO, i1, i2], c < s.heap.objs.size := fun c hc => by
      obtain ⟨_, _, ⟨o3, e3, _⟩, ⟨o4, e4, _⟩⟩ := And.intro h1 (And.intro h2 (And.intro h3 h4))
      simp only [List.mem_cons, List.not_mem_nil, or_false] at hc
      rcases hc with rfl | rfl | rfl | rfl | rfl
      · exact lz
      · exact Heap.lt_size h1
      · exact Heap.lt_size h2
      · exact Heap.lt_size e3
      · exact Heap.lt_size e4
    have fr : ∀ c ∈ [z, TI, TO, i1, i2], upd H s.heap.objs.size (.tup [x, y]) c = none := fun c hc => by rw [upd_ne (Nat.ne_of_lt (ltf c hc))]; exact (hf c hc).1
    have I2 := I1.turnedAll (h' := h5) (t' := s.toks) (fp := [z, TI, TO, i1, i2]) (fun c o hc q => by
      simp only [List.mem_cons, List.not_mem_nil, or_false, not_or] at hc
      obtain ⟨n1, n2, n3, n4, n5⟩ := hc
      by_cases d : c = s.heap.objs.size
      · subst d
        have q2 := (Heap.get?_push_size s.heap (o := { cls := .type "tuple", data := .seq #[a1, b1] }) rfl).symm.trans q
        cases q2
        exact (sb'.2 _ n1).trans z5
      · have q1 : s.heap.get? c = some o := by
          have q0 : (s.heap.push { cls := .type "tuple", data := .seq #[a1, b1] }).get? c = some o := q
          rwa [Heap.get?_push_ne _ _ _ d] at q0
        exact (sb'.2 c n1).trans (hk c o n1 n3 n4 n5 q1)) (fun c hc => ⟨fr c hc, (hf c hc).2⟩)
    refine ⟨.ref s.heap.objs.size, _, I2, rfl, ⟨s.heap.objs.size, x, y, rfl, I.fresh, rfl, fun xs' h' => by rw [I.list_inj h' hx]; exact ex, fun ys' h' => by rw [I.list_inj h' hy]; exact ey⟩,
      ⟨z7, (sb'.2 _ D.TIz).trans (hk TI _ D.TIz D.TITO D.TIi1 D.TIi2 h1), ⟨_, _, (sb'.2 _ D.TOz).trans z2⟩, z3.at fun o q => (sb'.2 _ D.i1z).trans q, z4.at fun o q => (sb'.2 _ D.i2z).trans q⟩, fr⟩
  done := by
    intro X hP hw hK hc i pins s σ H E I hf st hg
    subst hP hw hK
    obtain ⟨xs, ys, hx, hy, hend⟩ := hg
    obtain ⟨hz, h1, ⟨u, v, h2⟩, h3, h4⟩ := st
    obtain ⟨its, rv, p, _⟩ := I.list hx
    obtain ⟨its2, rv2, p2, _⟩ := I.list hy
    have l1 := rv.length
    have l2 := rv2.length
    refine wpAny_pyNext_zip_end (I.ok.hd hc) D hz h1 h2 h3 h4 p.isList p2.isList ?_ fun h' hk => ⟨rfl, I.turnedAll (t' := s.toks) (fun c o hc q => ?_) hf⟩
    · rcases hend with e | e
      · exact .inl (by simp; omega)
      · exact .inr (by simp; omega)
    · simp only [List.mem_cons, List.not_mem_nil, or_false, not_or] at hc
      exact hk c o hc.1 hc.2.2.1 hc.2.2.2.1 hc.2.2.2.2 q
  self := fun _ _ _ _ _ st h => wpAny_pyIter_zip st.1 h
section
variable {X : Cx}
def iZip (K : PySem.W.Frag) (ta : TA) : TI := fun σ H R => ta σ H fun vs H1 => ∃ a b xs ys, vs = [.ref a, .ref b] ∧ SqL K H1 a xs ∧ SqL K H1 b ys ∧ R (Itz K a b) H1
theorem pi_zip {es : List Expr} {x1} {tp p pos : Pos} {l m : Expr} {ta : TA} (hg : Gl X "zip") (hm : X.mg "zip" = none) (ha : PA X [l, m] ta) (hs : starEach [l, m] X.env = [(false, eval l X.env), (false, eval m X.env)] := by rfl) (hs2 : starEach [m] X.env = [(false, eval m X.env)] := by rfl) :
    PI X (.Tuple es x1 tp) (.Call (.Name "zip" p) [l, m] [] pos) (iZip X.K ta) := by
  intro pins s σ H R I h
  refine Call_ (ld_blt I hg hm boot_zip (PyProof.Rows.callWith_type1 (thn (ha pos pins s σ H _ I h) fun us s1 ⟨vs, H1, I1, r1, q1⟩ => ?_) (by rw [hs, hs2]) (by rw [hs2]; rfl)))
  obtain ⟨a, b, xs, ys, rfl, hx, hy, q⟩ := q1
  obtain ⟨u, v, rfl, ru, rv⟩ := vals2 r1
  cases ru
  cases rv
  obtain ⟨its, _, p1, _⟩ := I1.list hx
  obtain ⟨its2, _, p2, _⟩ := I1.list hy
  have la : a < s1.heap.objs.size := by obtain ⟨o, e, _⟩ := isL_of p1; exact Heap.lt_size e
  have lb : b < s1.heap.objs.size := by obtain ⟨o, e, _⟩ := isL_of p2; exact Heap.lt_size e
  refine call_zip_2 (isL_of p1) (isL_of p2) fun h' z1 z2 z3 z4 z5 sz hk => ?_
  have I2 : Inv X pins σ H1 { s1 with heap := h' } := I1.kept (t' := s1.toks) hk
  refine wpAny_pyIter_zip z1 ⟨s1.heap.objs.size + 4, _, _, Itz X.K a b, H1, rfl, I2, turn_zip a b _ _ _ _ _ (zipApart_new la lb), ⟨z1, z2, ⟨_, _, z3⟩, z4, z5⟩, fun c hc => ?_, q⟩
  have hc' : s1.heap.objs.size ≤ c := by
    simp only [List.mem_cons, List.not_mem_nil, or_false] at hc
    rcases hc with rfl | rfl | rfl | rfl | rfl
    · exact Nat.le_add_right _ _
    · exact Nat.le_add_right _ _
    · exact Nat.le_add_right _ _
    · exact Nat.le_refl _
    · exact Nat.le_add_right _ _
  exact I1.fpOk (H' := H1) hc' (I1.hok.fresh hc')
/-! ### max(xs), xs.index(k) -/
theorem call_maxL (hc : X.calm = true) : CallR X (.builtin "max") (fun xs H Q => ∃ (a : Addr) (ns : List Int), xs = [.ref a] ∧ SqL X.K H a (ns.map V.int) ∧ 0 < ns.length ∧ ∀ M, M ∈ ns → (∀ k ∈ ns, k ≤ M) → Q (.int M) H) := by
  intro pins s σ H xs us Q I r h
  obtain ⟨a, ns, rfl, hS, hn, q⟩ := h
  obtain ⟨u, rfl, ru⟩ := vals1 r
  cases ru
  obtain ⟨its, vi, pl, hz⟩ := I.list hS
  have hi := intsAre_of vi
  obtain ⟨xs, hx⟩ := hi.allInts.items
  have hl : s.heap.IsList a (intItems xs) := hx ▸ isL_of pl
  have hns : ns = xs.toList.map (·.1) := by
    rw [← nums_intItems, ← hx]
    exact hi.numsOf.symm
  have hsz : 0 < xs.size := by
    rw [hns, List.length_map, Array.length_toList] at hn
    exact hn
  refine max_intList (I.ok.hd hc) hl hsz fun v h' tk hv hk => ?_
  obtain ⟨t, rfl⟩ := intItems_at hv
  obtain ⟨g1, g2⟩ := argBest_gt (numAt xs) (xs.size - 1)
  refine ⟨.int _, H, I.kept hk, ⟨_, rfl⟩, q _ ?_ fun k hk' => ?_⟩
  · rw [hns, numAt_eq]
    exact getD_mem (by rw [List.length_map, Array.length_toList]; omega)
  · rw [hns] at hk'
    obtain ⟨j, hj, rfl⟩ := mem_getD hk'
    rw [List.length_map, Array.length_toList] at hj
    rw [← numAt_eq]
    exact g2 j (by omega)
theorem mt_index : MtR X "list.index" (fun x xs H Q => ∃ (a : Addr) (k : Int) (ns : List Int) (j : Nat), x = .ref a ∧ xs = [.int k] ∧ SqL X.K H a (ns.map V.int) ∧ ns.length ≤ 1000 ∧ ns[j]? = some k ∧ (∀ m < j, ns[m]? ≠ some k) ∧ Q (.int (j : Nat)) H) := by
  intro pins s σ H x xs v us Q I rx rv h
  obtain ⟨a, k, ns, j, rfl, rfl, hS, hl, hj, hno, q⟩ := h
  cases rx
  obtain ⟨u, rfl, t, rfl⟩ := vals1 rv
  obtain ⟨its, vi, pl, hz⟩ := I.list hS
  have hi := intsAre_of vi
  obtain ⟨⟨cls, dd, data, sl⟩, ho, hc, n, hd⟩ := isL_of pl
  simp only at hc hd
  subst hc hd
  have len : its.length = ns.length := hi.length
  have at_ : ∀ m (hm : m < its.toArray.size), isInt k its.toArray[m] = decide (ns[m]? = some k) := fun m hm => by
    have hm' : m < ns.length := by rw [← len]; simpa using hm
    obtain ⟨t0, e0⟩ := PyProof.Rows.IntsAre.get hi m ns[m] (List.getElem?_eq_getElem hm')
    have e1 : its.toArray[m] = .int ns[m] t0 := by
      have hm2 : m < its.length := by simpa using hm
      have e2 : its[m]? = some its[m] := List.getElem?_eq_getElem hm2
      have e3 : its[m] = .int ns[m] t0 := by
        rw [e0] at e2
        exact (Option.some.inj e2).symm
      simpa using e3
    rw [e1, List.getElem?_eq_getElem hm']
    show (_ == _) = _
    by_cases c : ns[m] = k
    · rw [c]
      simp
    · have c2 : ¬ k = ns[m] := fun z => c z.symm
      simp [c, c2]
  have jl : j < its.toArray.size := by
    have := (List.getElem?_eq_some_iff.mp hj).1
    simp [len, this]
  refine call_meets PySem.F.slot_list_index ⟨_, ho, rfl⟩ PySem.F.entry_list_index (PySem.F.args_list_index_2 _ _) (PySem.SeqAt.list_indexAt a its.toArray n dd sl (.int k t) (isInt k) j jl ?_ ?_ ?_) ⟨ho, fun y hy => (eq_isInt k t hi y (by simpa using hy)).at _ _, ⟨.int (j : Nat), H, I.tok _, ⟨_, rfl⟩, q⟩⟩
  · have : ns.length ≤ 1000 := hl
    have := (List.getElem?_eq_some_iff.mp hj).1
    omega
  · rw [at_ j jl, hj]
    exact decide_eq_true rfl
  · intro m hm hmj
    rw [at_ m hm]
    exact decide_eq_false (hno m hmj)
end
/-! ### [.. for k in range(n) if p(k)], where of each item only something is known -/
theorem comp_someF {tt : TT} {te : TE} {σ0 : St} {H1 : Hp} {Q : V → Hp → Prop} {lo : Int} {n : Nat} (p : Nat → Bool) (G : Addr → Nat → V → Hp → Prop) (hn : n ≤ sizeLine) (hG : ∀ l i v H H', G l i v H → Same H H' → G l i v H') (hU : ∀ l i v H xs ys, G l i v H → H l = some (.lst xs) → G l i v (upd H l (.lst ys)))
    (hT : ∀ i H, i < n → Same H1 H → ∀ R : Bool → Hp → Prop, (∀ H', Same H H' → R (p i) H') → tt (σ0.set 0 (some (.int (lo + (i : Nat))))) H R)
    (hE : ∀ i H l xs, i < n → p i = true → Same H1 H → H l = some (.lst xs) → ∀ R : V → Hp → Prop, (∀ v H', Same H H' → G l i v H' → R v H') → te (σ0.set 0 (some (.int (lo + (i : Nat))))) H R)
    (hQ : ∀ (l : Addr) (H : Hp) (vs : List V), Same H1 H → H1 l = none → H l = some (.lst vs) → vs.length = ((List.range n).filter p).length → (∀ (j : Nat) (v : V) (i : Nat), vs[j]? = some v → ((List.range n).filter p)[j]? = some i → G l i v H) → Q (.ref l) H) : tCompR (gName 0) tt te σ0 (Itr lo n) H1 Q := by
  intro l hl
  refine ⟨fun i m σ H => m = n - i ∧ i ≤ n ∧ Same H1 H ∧ (∃ vs, H l = some (.lst vs) ∧ vs.length = ((List.range i).filter p).length ∧ ∀ (j : Nat) (v : V) (k : Nat), vs[j]? = some v → ((List.range i).filter p)[j]? = some k → G l k v H) ∧ ∀ o, σ.set 0 o = σ0.set 0 o, ⟨n, by simp, Nat.zero_le _, same_upd hl _, ⟨[], upd_same, rfl, fun j v k z => by simp at z⟩, fun _ => rfl⟩, ?_⟩
  rintro i m σ H ⟨rfl, hi, sm, ⟨vs, hL, hvl, hvs⟩, hσ⟩
  by_cases lt : i < n
  · refine .inr ⟨lt, fun x H' y => ?_⟩
    obtain ⟨rfl, rfl⟩ := y
    unfold gName
    dsimp only
    rw [hσ]
    refine hT i H' lt sm _ fun H2 s2 => ?_
    have er : (List.range (i + 1)).filter p = (List.range i).filter p ++ (if p i = true then [i] else []) := by
      rw [List.range_succ, List.filter_append]
      by_cases hp : p i = true
      · rw [if_pos hp, List.filter_cons_of_pos hp, List.filter_nil]
      · rw [if_neg hp, List.filter_cons_of_neg hp, List.filter_nil]
    have short := List.length_filter_le p (List.range i)
    rw [List.length_range] at short
    by_cases hp : p i = true
    · rw [if_pos hp]
      rw [if_pos hp] at er
      refine hE i H2 l vs lt hp (sm.trans s2) (s2 _ _ hL) _ fun v H3 s3 hv => ⟨vs, s3 _ _ (s2 _ _ hL), by omega, n - (i + 1), by omega, rfl, lt, same_upd2 hl (sm.trans (s2.trans s3)) _, ⟨vs ++ [v], upd_same, by rw [er, List.length_append, List.length_append, hvl]; rfl, fun j u k hj hk => ?_⟩, fun o => List.set_set _⟩
      rw [er] at hk
      by_cases c : j < vs.length
      · rw [List.getElem?_append_left c] at hj
        rw [List.getElem?_append_left (by omega)] at hk
        exact hU l k u H3 _ _ (hG l k u H' H3 (hvs j u k hj hk) (s2.trans s3)) (s3 _ _ (s2 _ _ hL))
      · rw [List.getElem?_append_right (by omega)] at hj
        rw [List.getElem?_append_right (by omega)] at hk
        have e : j - vs.length = 0 := by
          cases q : j - vs.length with
          | zero => rfl
          | succ k => rw [q] at hj; simp at hj
        rw [e] at hj
        rw [← hvl, e] at hk
        have e2 : v = u := by simpa using hj
        have e3 : i = k := by simpa using hk
        subst e2 e3
        exact hU l i v H3 _ _ hv (s3 _ _ (s2 _ _ hL))
    · rw [if_neg hp]
      rw [if_neg hp, List.append_nil] at er
      refine ⟨n - (i + 1), by omega, rfl, lt, sm.trans s2, ⟨vs, s2 _ _ hL, by rw [er]; exact hvl, fun j u k hj hk => ?_⟩, fun o => List.set_set _⟩
      rw [er] at hk
      exact hG l k u H' H2 (hvs j u k hj hk) s2
  · have e : i = n := by omega
    subst e
    exact .inl ⟨Nat.le_refl _, hQ l H vs sm hl hL hvl hvs⟩
end L2

namespace L2
open PySem PySem.Spec PyProof.Rows
/-! ### xs != [] -/
theorem op_neNil {X : Cx} (hu : X.A.units + 64 < cLine) : OpR X (compareOp .NotEq) (fun x y H Q => ∃ (a b : Addr) (xs : List V), x = .ref a ∧ y = .ref b ∧ SqL X.K H a xs ∧ SqL X.K H b [] ∧ Q (.bl (!xs.isEmpty)) H) := by
  intro pins s σ H x y v u Q I rx ry h
  obtain ⟨a, b, xs, rfl, rfl, hA, hB, q⟩ := h
  cases xs with
  | nil => exact op_neL hu pins s σ H _ _ v u Q I rx ry ⟨a, b, [], [], rfl, rfl, hA, hB, q⟩
  | cons x0 xr =>
    cases rx
    cases ry
    obtain ⟨ia, va, pa, _⟩ := I.list hA
    obtain ⟨ib, vb, pb, _⟩ := I.list hB
    have l1 := va.length
    have l2 := vb.length
    obtain ⟨⟨cls, dd, data, sl⟩, ho, hc, n, hd⟩ := isL_of pa
    obtain ⟨⟨cls2, dd2, data2, sl2⟩, ho2, hc2, n2, hd2⟩ := isL_of pb
    simp only at hc hd hc2 hd2
    subst hc hd hc2 hd2
    refine richCompare_meets_room (op := .NotEq) ⟨_, ho, rfl⟩ ⟨_, ho2, rfl⟩ PySem.F.slot_list_ne PySem.F.entry_list_ne (PySem.F.args_list_ne_2 _ _) (PySem.SeqAt.list_ne_lengthsAt a b ia.toArray ib.toArray n n2 dd dd2 sl sl2 ?_) ⟨ho, ho2, (fun z => nomatch z), .bl true, H, I, rfl, q⟩ (by omega)
    simp only [List.size_toArray, ← l1, ← l2, List.length_cons, List.length_nil]
    simp
end L2

namespace L2
open PySem PySem.Spec PyProof.Rows
/-! ### t > u of tuples of whole numbers -/
theorem rcGt_int (A : Around) (s : Shared) (a : Int) (t : Tok) (c : Int) (u : Tok) (prog : Program) (w : World) (E : Value → Shared → Prop) (Q : Value → Shared → Prop) (h : Q (.bool (decide (c < a))) s) :
    wpAny (model prog w) A (richCompare .Gt (.int a t) (.int c u)) Q E s :=
  (PyProof.Rows.gt_int h : wpAny (model prog w) A (compareOp .Gt (.int a t) (.int c u)) Q E s)
section
open PySem.SeqAt
open PySem.AutoSeq1 (wpAny_loadPart')
open PySem.MeetsSeq PySem.MeetsSeq2 PySem.MeetsSeq3
theorem tuple_gt_ints (l b : Addr) (items items2 : Array Value) (n n2 : Nat) (dd dd2 : Option Addr) (sl sl2 : Array (Option Value)) (ns ms : List Int) (hi : IntsAre items.toList ns) (hj : IntsAre items2.toList ms) :
    Meets (Builtin.«tuple.__gt__» ⟨[.ref l, .ref b], []⟩)
      (fun _ R s => s.heap.get? l = some { cls := .type "tuple", dict := dd, data := .seq items n, slots := sl } ∧ s.heap.get? b = some { cls := .type "tuple", dict := dd2, data := .seq items2 n2, slots := sl2 } ∧
        R (.ok (.ret (.bool (HT.lexLt ms ns)))) s) :=
  .of_wp fun prog w A R s h => by
    obtain ⟨hp, g, d, tk, os⟩ := s; obtain ⟨hl, hb, h⟩ := h
    have f2 := AutoSeq1.sub_tuple_tuple
    have z1 : items.size = ns.length := by rw [← hi.length]; simp
    have z2 : items2.size = ms.length := by rw [← hj.length]; simp
    wp_walk using wpAny_loadPart' hl, wpAny_loadPart' hb, wpAny_forIn_list _ (fun rest b s' => b.1 = none ∧ s' = ⟨hp, g, d, tk, os⟩ ∧ ∃ (vs ws : List Value) (ns' ms' : List Int), rest = vs.zip ws ∧
      IntsAre vs ns' ∧ IntsAre ws ms' ∧ ns'.length + items2.size = ms'.length + items.size ∧ R (.ok (.ret (.bool (HT.lexLt ms' ns')))) ⟨hp, g, d, tk, os⟩) _
    case turn =>
      rintro ⟨y, x⟩ rest b s' ⟨hb', rfl, vs, ws, ns', ms', hz, hvi, hwi, hlen, hR⟩
      cases hvi with
      | nil => rw [List.zip_nil_left] at hz; cases hz
      | cons a t hvi' =>
        cases hwi with
        | nil => rw [List.zip_nil_right] at hz; cases hz
        | cons c u hwi' =>
          rw [List.zip_cons_cons] at hz
          injection hz with hyx hrest
          injection hyx with hy hx
          subst hy hx
          rw [HT.lexLt_cons] at hR
          simp only [List.length_cons] at hlen
          obtain ⟨e, he, hiff⟩ := HT.eqAt_int A.in1 ⟨hp, g, d, tk, os⟩ a t c u
          refine wpAny_bind (he prog w _ _ ?_)
          cases e with
          | true =>
            rw [if_pos (hiff.mp rfl).symm] at hR
            wp_walk
            exact ⟨rfl, rfl, _, _, _, _, hrest, hvi', hwi', by omega, hR⟩
          | false =>
            rw [if_neg (fun q => absurd (hiff.mpr q.symm) Bool.false_ne_true)] at hR
            have hri := rcGt_int A.in1 ⟨hp, g, d, tk, os⟩ a t c u prog w
            wp_walk using hri
            exact ⟨_, rfl, by simpa using hR⟩
    case fin =>
      rintro ⟨b1, b2⟩ s' ⟨hb', rfl, vs, ws, ns', ms', hz, hvi, hwi, hlen, hR⟩
      simp only at hb'
      subst hb'
      have hv : HT.lexLt ms' ns' = decide (items2.size < items.size) := by
        cases hvi with
        | nil =>
          cases hwi with
          | nil =>
            simp only [List.length_nil] at hlen
            rw [HT.lexLt_nil_nil]
            exact (decide_eq_false (by omega)).symm
          | cons c u hw =>
            simp only [List.length_nil, List.length_cons] at hlen
            rw [HT.lexLt_cons_nil]
            exact (decide_eq_false (by omega)).symm
        | cons a t hv =>
          cases hwi with
          | nil =>
            simp only [List.length_nil, List.length_cons] at hlen
            rw [HT.lexLt_nil_cons]
            exact (decide_eq_true (by omega)).symm
          | cons c u hw =>
            rw [List.zip_cons_cons] at hz
            cases hz
      rw [hv] at hR
      wp_walk
      exact ⟨_, rfl, by simpa [Builtin.Tuple.tupleCompareSizes] using hR⟩
    case h =>
      exact ⟨rfl, rfl, items.toList, items2.toList, ns, ms, rfl, hi, hj, by omega, h⟩
end
section
variable {X : Cx}
theorem op_gtT (hu : X.A.units + 64 < cLine) : OpR X (compareOp .Gt) (fun x y H Q => ∃ (a b : Addr) (ns ms : List Int), x = .ref a ∧ y = .ref b ∧ SqT X.K H a (ns.map V.int) ∧ SqT X.K H b (ms.map V.int) ∧ Q (.bl (HT.lexLt ms ns)) H) := by
  intro pins s σ H x y v u Q I rx ry h
  obtain ⟨a, b, ns, ms, rfl, rfl, ha, hb, q⟩ := h
  cases rx
  cases ry
  obtain ⟨its, r1, p1, _⟩ := I.tuple ha
  obtain ⟨its2, r2, p2, _⟩ := I.tuple hb
  have i1 : IntsAre its.toArray.toList ns := intsAre_of r1
  have i2 : IntsAre its2.toArray.toList ms := intsAre_of r2
  obtain ⟨⟨cls, dd, data, sl⟩, ho, hc, n, hd⟩ := id p1
  obtain ⟨⟨cls2, dd2, data2, sl2⟩, ho2, hc2, n2, hd2⟩ := id p2
  simp only at hc hd hc2 hd2
  subst hc hd hc2 hd2
  exact richCompare_meets_room (op := .Gt) ⟨_, ho, rfl⟩ ⟨_, ho2, rfl⟩ PySem.F.slot_tuple_gt PySem.F.entry_tuple_gt (PySem.F.args_tuple_gt_2 _ _) (tuple_gt_ints a b its.toArray its2.toArray n n2 dd dd2 sl sl2 ns ms i1 i2)
    ⟨ho, ho2, (fun z => nomatch z), .bl (HT.lexLt ms ns), H, I, rfl, q⟩ (by omega)
/-! ### ==, != of lists and of tuples of flat items -/
def eqVs : List V → List V → Bool
  | [], [] => true
  | x :: xs, y :: ys => eqV x y && eqVs xs ys
  | _, _ => false
theorem eqVs_all : ∀ (xs ys : List V), ((List.range (min xs.length ys.length)).all (fun j => eqV (xs.getD j .non) (ys.getD j .non)) && xs.length == ys.length) = eqVs xs ys
  | [], [] => rfl
  | [], _ :: _ => rfl
  | _ :: _, [] => rfl
  | x :: xs, y :: ys => by
    have e : min (x :: xs).length (y :: ys).length = min xs.length ys.length + 1 := by simp only [List.length_cons]; omega
    rw [e, List.range_succ_eq_map, List.all_cons, List.all_map]
    show _ = (eqV x y && eqVs xs ys)
    rw [← eqVs_all xs ys, Bool.and_assoc]
    have e2 : ((x :: xs).length == (y :: ys).length) = (xs.length == ys.length) := by simp
    rw [e2]
    rfl
theorem flat_at {xs : List V} {us : List Value} (r : Vals xs us) (f : xs.all flatV = true) {j : Nat} (h : j < us.toArray.size) : RelV (xs.getD j .non) us.toArray[j] ∧ flatV (xs.getD j .non) = true := by
  have hj : j < us.length := by simpa using h
  have hx : j < xs.length := by rw [r.length]; exact hj
  obtain ⟨u, e, ru⟩ := r.get (List.getElem?_eq_getElem hx)
  rw [List.getElem?_eq_getElem hj] at e
  have g : xs.getD j .non = xs[j] := by rw [List.getD_eq_getElem?_getD, List.getElem?_eq_getElem hx]; rfl
  rw [g]
  have eu : us[j] = u := Option.some.inj e
  refine ⟨?_, List.all_eq_true.mp f _ (List.getElem_mem hx)⟩
  show RelV xs[j] us.toArray[j]
  rw [List.getElem_toArray, eu]
  exact ru
def rEqF (K : PySem.W.Frag) (tup neg : Bool) : R2 := fun x y H Q => ∃ (a b : Addr) (xs ys : List V), x = .ref a ∧ y = .ref b ∧ (if tup then SqT K H a xs ∧ SqT K H b ys else SqL K H a xs ∧ SqL K H b ys) ∧ xs.all flatV = true ∧ ys.all flatV = true ∧ Q (.bl (if neg then !eqVs xs ys else eqVs xs ys)) H
theorem op_eqFT (hu : X.A.units + 64 < cLine) : OpR X (compareOp .Eq) (rEqF X.K true false) := by
  intro pins s σ H x y v u Q I rx ry h
  obtain ⟨a, b, xs, ys, rfl, rfl, ⟨ha, hb⟩, fx, fy, q⟩ := h
  cases rx
  cases ry
  obtain ⟨its, r1, p1, _⟩ := I.tuple ha
  obtain ⟨its2, r2, p2, _⟩ := I.tuple hb
  refine SeqAt.RcAt.tuples (e := fun j => eqV (xs.getD j .non) (ys.getD j .non)) p1 p2 (by omega) (fun j h1 h2 => eqAt_V (flat_at r1 fx h1).1 (flat_at r2 fy h2).1 (flat_at r1 fx h1).2 (flat_at r2 fy h2).2) _ _ _ _ ⟨.bl _, H, I, rfl, ?_⟩
  have z := eqVs_all xs ys
  rw [r1.length, r2.length] at z
  rw [List.size_toArray, List.size_toArray, z]
  exact q
theorem op_neFT (hu : X.A.units + 64 < cLine) : OpR X (compareOp .NotEq) (rEqF X.K true true) := by
  intro pins s σ H x y v u Q I rx ry h
  obtain ⟨a, b, xs, ys, rfl, rfl, ⟨ha, hb⟩, fx, fy, q⟩ := h
  cases rx
  cases ry
  obtain ⟨its, r1, p1, _⟩ := I.tuple ha
  obtain ⟨its2, r2, p2, _⟩ := I.tuple hb
  refine SeqAt.RcNeAt.tuples (e := fun j => eqV (xs.getD j .non) (ys.getD j .non)) p1 p2 (by omega) (fun j h1 h2 => eqAt_V (flat_at r1 fx h1).1 (flat_at r2 fy h2).1 (flat_at r1 fx h1).2 (flat_at r2 fy h2).2) _ _ _ _ ⟨.bl _, H, I, rfl, ?_⟩
  have z := eqVs_all xs ys
  rw [r1.length, r2.length] at z
  rw [List.size_toArray, List.size_toArray, z]
  exact q
theorem eqVs_len : ∀ {xs ys : List V}, xs.length ≠ ys.length → eqVs xs ys = false
  | [], [], h => absurd rfl h
  | [], _ :: _, _ => rfl
  | _ :: _, [], _ => rfl
  | x :: xs, y :: ys, h => by
    show (eqV x y && eqVs xs ys) = false
    rw [eqVs_len (xs := xs) (ys := ys) (fun z => h (by simp [z])), Bool.and_false]
theorem op_eqFL (hu : X.A.units + 64 < cLine) : OpR X (compareOp .Eq) (rEqF X.K false false) := by
  intro pins s σ H x y v u Q I rx ry h
  obtain ⟨a, b, xs, ys, rfl, rfl, ⟨ha, hb⟩, fx, fy, q⟩ := h
  cases rx
  cases ry
  obtain ⟨its, r1, p1, _⟩ := I.list ha
  obtain ⟨its2, r2, p2, _⟩ := I.list hb
  by_cases e : xs.length = ys.length
  · refine SeqAt.RcAt.lists (e := fun j => eqV (xs.getD j .non) (ys.getD j .non)) p1.isList p2.isList (by simp [← r1.length, ← r2.length, e]) (by omega) (fun j h1 h2 => eqAt_V (flat_at r1 fx h1).1 (flat_at r2 fy h2).1 (flat_at r1 fx h1).2 (flat_at r2 fy h2).2) _ _ _ _ ⟨.bl _, H, I, rfl, ?_⟩
    have z := eqVs_all xs ys
    rw [e, Nat.min_self, beq_self_eq_true, Bool.and_true, ← e, r1.length] at z
    rw [List.size_toArray, z]
    exact q
  · refine SeqAt.RcAt.lists_lengths p1.isList p2.isList (by simp [← r1.length, ← r2.length, e]) (by omega) _ _ _ _ ⟨.bl false, H, I, rfl, ?_⟩
    have q' : Q (.bl (eqVs xs ys)) H := q
    rw [eqVs_len e] at q'
    exact q'
theorem op_neFL (hu : X.A.units + 64 < cLine) : OpR X (compareOp .NotEq) (rEqF X.K false true) := by
  intro pins s σ H x y v u Q I rx ry h
  obtain ⟨a, b, xs, ys, rfl, rfl, ⟨ha, hb⟩, fx, fy, q⟩ := h
  cases rx
  cases ry
  obtain ⟨its, r1, p1, _⟩ := I.list ha
  obtain ⟨its2, r2, p2, _⟩ := I.list hb
  by_cases e : xs.length = ys.length
  · refine SeqAt.RcNeAt.lists (e := fun j => eqV (xs.getD j .non) (ys.getD j .non)) p1.isList p2.isList (by simp [← r1.length, ← r2.length, e]) (by omega) (fun j h1 h2 => eqAt_V (flat_at r1 fx h1).1 (flat_at r2 fy h2).1 (flat_at r1 fx h1).2 (flat_at r2 fy h2).2) _ _ _ _ ⟨.bl _, H, I, rfl, ?_⟩
    have z := eqVs_all xs ys
    rw [e, Nat.min_self, beq_self_eq_true, Bool.and_true, ← e, r1.length] at z
    rw [List.size_toArray, z]
    exact q
  · refine SeqAt.RcNeAt.lists_lengths p1.isList p2.isList (by simp [← r1.length, ← r2.length, e]) (by omega) _ _ _ _ ⟨.bl true, H, I, rfl, ?_⟩
    have q' : Q (.bl (!eqVs xs ys)) H := q
    rw [eqVs_len e] at q'
    exact q'
/-! ### list.index of flat items -/
theorem mt_indexF : MtR X "list.index" (fun x xs H Q => ∃ (a : Addr) (k : V) (ys : List V) (j : Nat), x = .ref a ∧ xs = [k] ∧ SqL X.K H a ys ∧ ys.length ≤ 1000 ∧ flatV k = true ∧ ys.all flatV = true ∧ j < ys.length ∧ eqV (ys.getD j .non) k = true ∧ (∀ m < j, eqV (ys.getD m .non) k = false) ∧ Q (.int (j : Nat)) H) := by
  intro pins s σ H x xs v us Q I rx rv h
  obtain ⟨a, k, ys, j, rfl, rfl, hS, hl, fk, fs, hj, hit, hno, q⟩ := h
  cases rx
  obtain ⟨u, rfl, ru⟩ := vals1 rv
  obtain ⟨its, vi, pl, hz⟩ := I.list hS
  obtain ⟨⟨cls, dd, data, sl⟩, ho, hc, n, hd⟩ := isL_of pl
  simp only at hc hd
  subst hc hd
  have len : its.length = ys.length := vi.length.symm
  have at_ : ∀ m (hm : m < its.toArray.size), eqU k its.toArray[m] = eqV (ys.getD m .non) k := fun m hm => eqU_of (flat_at vi fs hm).1 (flat_at vi fs hm).2
  have jl : j < its.toArray.size := by simp [len, hj]
  refine call_meets PySem.F.slot_list_index ⟨_, ho, rfl⟩ PySem.F.entry_list_index (PySem.F.args_list_index_2 _ _) (PySem.SeqAt.list_indexAt a its.toArray n dd sl u (eqU k) j jl (by omega) (by rw [at_ j jl]; exact hit) (fun m hm hmj => by rw [at_ m hm]; exact hno m hmj))
    ⟨ho, fun y hy => mem_eqAt ru fk vi fs y (by simpa using hy), ⟨.int (j : Nat), H, I.tok _, ⟨_, rfl⟩, q⟩⟩
end
/-! ### [.. for x in ..], where of each item only something is known -/
theorem comp_someJ {te : TE} {σ0 : St} {H1 : Hp} {Q : V → Hp → Prop} {J : It} (n : Nat) (xs : Nat → V) (G : Addr → Nat → V → Hp → Prop) (hn : n ≤ sizeLine)
    (hgo : ∀ i H, Same H1 H → i < n → J.go i H) (hstop : ∀ H, Same H1 H → J.stop n H) (hy : ∀ i H x H', Same H1 H → i < n → J.yld i H x H' → H' = H ∧ x = xs i)
    (hG : ∀ l i v H H', G l i v H → Same H H' → G l i v H') (hU : ∀ l i v H xs ys, G l i v H → H l = some (.lst xs) → G l i v (upd H l (.lst ys)))
    (hE : ∀ i H l vs, i < n → Same H1 H → H1 l = none → H l = some (.lst vs) → ∀ R : V → Hp → Prop, (∀ v H', Same H H' → G l i v H' → R v H') → te (σ0.set 0 (some (xs i))) H R)
    (hQ : ∀ l H vs, Same H1 H → H1 l = none → H l = some (.lst vs) → vs.length = n → (∀ i v, vs[i]? = some v → G l i v H) → Q (.ref l) H) : tCompR (gName 0) tYes te σ0 J H1 Q := by
  intro l hl
  refine ⟨fun i m σ H => m = n - i ∧ i ≤ n ∧ Same H1 H ∧ (∃ vs, H l = some (.lst vs) ∧ vs.length = i ∧ ∀ j v, vs[j]? = some v → G l j v H) ∧ ∀ o, σ.set 0 o = σ0.set 0 o, ⟨n, by simp, Nat.zero_le _, same_upd hl _, ⟨[], upd_same, rfl, fun j v z => by simp at z⟩, fun _ => rfl⟩, ?_⟩
  rintro i m σ H ⟨rfl, hi, sm, ⟨vs, hL, hvl, hvs⟩, hσ⟩
  by_cases lt : i < n
  · refine .inr ⟨hgo i H sm lt, fun x H' y => ?_⟩
    obtain ⟨rfl, rfl⟩ := hy i H x H' sm lt y
    unfold gName tYes
    dsimp only
    rw [hσ, if_pos rfl]
    refine hE i H' l vs lt sm hl hL _ fun v H3 s3 hv => ⟨vs, s3 _ _ hL, by omega, n - (i + 1), by omega, rfl, lt, same_upd2 hl (sm.trans s3) _, ⟨vs ++ [v], upd_same, by rw [List.length_append, hvl]; rfl, fun j u hj => ?_⟩, fun o => List.set_set _⟩
    by_cases c : j < vs.length
    · rw [List.getElem?_append_left c] at hj
      exact hU l j u H3 _ _ (hG l j u H' H3 (hvs j u hj) s3) (s3 _ _ hL)
    · rw [List.getElem?_append_right (by omega)] at hj
      have e : j - vs.length = 0 := by
        cases q : j - vs.length with
        | zero => rfl
        | succ k => rw [q] at hj; simp at hj
      rw [e] at hj
      have e2 : v = u := by simpa using hj
      subst e2
      have e3 : j = i := by omega
      subst e3
      exact hU l j v H3 _ _ hv (s3 _ _ hL)
  · have e : i = n := by omega
    subst e
    exact .inl ⟨hstop H sm, hQ l H vs sm hl hL hvl hvs⟩
theorem comp_someL {K : PySem.W.Frag} {te : TE} {σ0 : St} {H1 : Hp} {Q : V → Hp → Prop} {a : Addr} {xs : List V} (G : Addr → Nat → V → Hp → Prop) (hS : SqL K H1 a xs) (hn : xs.length ≤ sizeLine)
    (hG : ∀ l i v H H', G l i v H → Same H H' → G l i v H') (hU : ∀ l i v H xs ys, G l i v H → H l = some (.lst xs) → G l i v (upd H l (.lst ys)))
    (hE : ∀ i x H l vs, xs[i]? = some x → Same H1 H → H1 l = none → H l = some (.lst vs) → ∀ R : V → Hp → Prop, (∀ v H', Same H H' → G l i v H' → R v H') → te (σ0.set 0 (some x)) H R)
    (hQ : ∀ l H vs, Same H1 H → H1 l = none → H l = some (.lst vs) → vs.length = xs.length → (∀ i v, vs[i]? = some v → G l i v H) → Q (.ref l) H) : tCompR (gName 0) tYes te σ0 (Itl K a) H1 Q := by
  have at_ : ∀ i, i < xs.length → xs[i]? = some (xs.getD i .non) := fun i h => by
    rw [List.getD_eq_getElem?_getD, List.getElem?_eq_getElem h]
    rfl
  refine comp_someJ xs.length (fun i => xs.getD i .non) G hn (fun i H sm h => ⟨xs, _, sm.seq hS, at_ i h⟩) (fun H sm => ⟨xs, sm.seq hS, Nat.le_refl _⟩)
    (fun i H x H' sm h y => ⟨y.1, ?_⟩) hG hU (fun i H l vs h sm hl hL => hE i _ H l vs (at_ i h) sm hl hL) hQ
  have e := y.2 xs (sm.seq hS)
  rw [at_ i h] at e
  exact (Option.some.inj e).symm
theorem Same.seqT {K : PySem.W.Frag} {H H' : Hp} {a : Addr} {xs : List V} (e : Same H H') (h : SqT K H a xs) : SqT K H' a xs := by
  rcases h with (h | ⟨o, h⟩) | h
  · exact .inl (.inl (e _ _ h))
  · exact .inl (.inr ⟨o, e _ _ h⟩)
  · exact .inr h
end L2

namespace L2
open PySem PySem.Spec PyProof.Rows
/-! ### isinstance(e, (C1, C2, ..)) of a caught exception -/
theorem toC_all : ∀ {cs : List V} {us : List Value}, cs.all isC = true → Vals cs us → us = cs.map toC
  | _, _, _, .nil => rfl
  | c :: cs, u :: us, f, .cons r t => by
    rw [List.all_cons, Bool.and_eq_true] at f
    rw [List.map_cons, toC_eq f.1 r, toC_all f.2 t]
def rIsX (K : PySem.W.Frag) : List V → Hp → VK → Prop := fun xs H Q => ∃ a C c b, xs = [.ref a, c] ∧ isC c = true ∧ H a = some (excO a C) ∧ ExcF K C ∧ PySem.W.kitOne K (.ref C) (toC c) = some b ∧ Q (.bl b) H
theorem call_isX' {X : Cx} : CallR X (.builtin "isinstance") (rIsX X.K) := call_isX
def rIsXT (K : PySem.W.Frag) : List V → Hp → VK → Prop := fun xs H Q => ∃ a C p cs b, xs = [.ref a, .ref p] ∧ H p = some (.tup cs) ∧ cs.all isC = true ∧ H a = some (excO a C) ∧ ExcF K C ∧ PySem.W.kitAny K (.ref C) (cs.map toC) = some b ∧ Q (.bl b) H
theorem call_isXT {X : Cx} : CallR X (.builtin "isinstance") (rIsXT X.K) := by
  intro pins s σ H xs us Q I r h
  obtain ⟨a, C, p, cs, b, rfl, hp, hc, hH, F, e, q⟩ := h
  obtain ⟨u, w', rfl, r1, r2⟩ := vals2 r
  cases r1
  cases r2
  obtain ⟨⟨o, vs, e1, e3, e4⟩, _, _⟩ := I.hok a _ hH
  obtain ⟨its, ri, pt, _⟩ := I.tuple (SqT.of hp)
  obtain ⟨⟨cls, dd, data, sl⟩, ho, hcl, n, hd⟩ := id pt
  simp only at hcl hd
  subst hcl hd
  have ei := toC_all hc ri
  rw [← ei] at e
  exact PySem.W.kia_tup (kitx_exc F) I.kIn ⟨o, e1, e3⟩ ho e (fun z => nomatch z) fun tk => ⟨.bl b, H, I.tok tk, rfl, q⟩
/-! ### text.index(text), where it is found -/
theorem mt_sindex {X : Cx} : MtR X "str.index" (fun x xs H Q => ∃ i j k, x = .str i ∧ xs = [.str j] ∧ 0 ≤ Txt.find i j ∧ Txt.find i j = k ∧ Q (.int k) H) := by
  intro pins s σ H x xs v us Q I rx rv h
  obtain ⟨i, j, k, rfl, rfl, h0, hk, q⟩ := h
  obtain ⟨t, rfl⟩ := rx
  obtain ⟨u, rfl, ru⟩ := rv.one
  obtain ⟨t', rfl⟩ := ru
  unfold Txt.find at h0 hk
  cases ho : Builtin.Str.occurrences i j 0 i.length 1 with
  | nil =>
    rw [ho] at h0
    exact absurd h0 (by decide)
  | cons m rest =>
    rw [ho] at hk
    have hk' : ((m : Nat) : Int) = k := hk
    subst hk'
    exact SC.index ho ⟨.int _, H, I.tok _, ⟨_, rfl⟩, q⟩
end L2

namespace L2
open PySem PySem.Spec PyProof.Rows
/-! ### C() of a class without an __init__ of its own -/
structure Mk0 (K : PySem.W.Frag) (C : Addr) : Prop where
  makes : PySem.W.makesIn K C = true
  init : PySem.W.findIn K (.ref C) "__init__" = some (some (.builtin "object.__init__"))
  kp : PySem.W.keepIn K (.ref C) = true
def tMake0 (C : Addr) : TE := fun σ H Q => ∀ x dx, H x = none → H dx = none → dx ≠ x → Q (.ref x) (upd (upd H dx (.own x)) x (.ins C dx []))
section
variable {X : Cx} {CX : CXT} {k : Nat} {C : Addr} {E : XK} {x m : Str} {p pos apos : Pos} {e o : Expr} {es : List Expr} {ta : TE} {t : TA}
theorem run_make0 {pins : List (Addr × Obj)} {σ : St} {H : Hp} {s : Shared} {Q : VK} (M : Mk0 X.K C) (I : Inv X pins σ H s)
    (h : ∀ x dx, H x = none → H dx = none → dx ≠ x → Q (.ref x) (upd (upd H dx (.own x)) x (.ins C dx []))) :
    wpAny (model X.prog X.w) X.A (call (.ref C) []) (EP X pins σ Q) X.xe s := by
  have hq := h (s.heap.objs.size + 1) s.heap.objs.size (I.hok.fresh (Nat.le_succ _)) (I.hok.fresh (Nat.le_refl _)) (Nat.ne_of_lt (Nat.lt_succ_self _))
  have I2 := Inv.made (C := C) I
  have Y := PySem.W.makes_of (M := model X.prog X.w) I.kIn M.makes
  refine wpAny_call (make_map0 I.kIn M.makes M.init (fun self => PySem.W.Looks.of_pure (PySem.W.oi_bind self)) ?_)
  obtain ⟨hh, g, d, tk, os⟩ := s
  have hx : ((hh.push PySem.W.emptyDict).push (PySem.W.instObj C hh.objs.size)).get? (hh.objs.size + 1) = some (PySem.W.instObj C hh.objs.size) := by heap_get
  have t1 : PySem.W.Looks (model X.prog X.w) ((hh.push PySem.W.emptyDict).push (PySem.W.instObj C hh.objs.size)) (typeOf (.ref (hh.objs.size + 1))) (.ref C) := (PySem.W.Looks.ld hx).andThen .now
  have t2 : PySem.W.Looks (model X.prog X.w) ((hh.push PySem.W.emptyDict).push (PySem.W.instObj C hh.objs.size)) (isInstance (.ref (hh.objs.size + 1)) (.type "object")) true := t1.andThen (Y.top.keeps fun b o e => Heap.get?_push_of_some _ (Heap.get?_push_of_some _ e))
  refine codeAny_call_builtin PySem.W.oi_plain PySem.W.entry_oi (@PySem.W.check_slot (model X.prog X.w) _ _ _ "object.__init__" "object" "__init__" (.ref (hh.objs.size + 1)) [] [] _ PySem.W.oi_kind PySem.W.oi_split t2 (PySem.W.oi_args (.ref (hh.objs.size + 1))) ?_)
  rw [PySem.W.oi_run]
  exact wpAny_pure (And.intro rfl ⟨.ref (hh.objs.size + 1), _, I2, rfl, hq⟩)
theorem pe_makeO (M : Mk0 X.K C) (hg : Gl X x) (hm : X.mg x = some (.ref C)) (hdb : (x == ("__debug__" : Str)) = false := by decide) : PE X (.Call (.Name x p) [] [] pos) (tMake0 C) := by
  intro pins s σ H Q I h
  refine wpAny_Call_Name_kw (ld_glob I hg hm ?_ hdb)
  exact PySem.W.callWith_K0 I.kIn M.kp (run_make0 M I h)
/-! ### o.m(..) of an instance of one of several classes -/
structure MethF (P : Program) (w : World) (K : PySem.W.Frag) (mg : Str → Option Value) (base : Heap) (CX : CXT) (k : Nat) (ι : Type) (m : Str) (ps : List Str) (sp : ι → Sp) (cs : ι → Addr) (f : ι → Addr) (fd : ι → FuncData) : Prop where
  c : ∀ i, Cls K (cs i)
  hm : ∀ i, Meth K (cs i) m (f i)
  F : ∀ i, FnOk P w K mg base CX k (f i) (fd i) ps (sp i)
  hb : ∀ i, Binds K (fd i) ps []
def tMethF {ι : Type} (m : Str) (sp : ι → Sp) (cs : ι → Addr) (E : XK) (ta : TE) (t : TA) : TE := fun σ H Q => ta σ H fun x H1 => ∃ i a dx fs, x = .ref a ∧ H1 a = some (.ins (cs i) dx fs) ∧ fs.lookup m = none ∧ t σ H1 fun vs H2 => sp i (x :: vs) H2 Q E
theorem pe_methF {ι : Type} {ps : List Str} {sp : ι → Sp} {cs f : ι → Addr} {fd : ι → FuncData} {pl : Sem Bool} (he : PE X o ta) (M : MethF X.prog X.w X.K X.mg X.base CX k ι m ps sp cs f fd) (hr : Room k X.A) (hx : Passes CX X E) (ha : PA X (e :: es) t)
    (hst : starEach (e :: es) X.env = (false, eval e X.env) :: starEach es X.env := by rfl) (hpl : (backTo pos (starEach es X.env)).any (·.1) = false := by rfl)
    (ht : eval (.Call (.Attribute o m apos) (e :: es) [] pos) X.env = (do
      let ov ← eval o X.env
      standAt apos.atName
      let (f, first) ← holding [ov] (getMethod ov m pl)
      callWith pos f first (backTo pos (starEach (e :: es) X.env)) (backToKw pos (keywordEach [] X.env))) := by rfl) :
    PE X (.Call (.Attribute o m apos) (e :: es) [] pos) (tMethF m sp cs E ta t) := by
  intro pins s σ H Q I h
  refine PySem.W.methodCall_KW (pl := pl) (thn (he pins s σ H _ I h) fun u s1 ⟨x, H1, I1, rx, i, a, dx, fs, ex, ea, l, q⟩ => ?_) ht
  subst ex
  obtain rfl : u = Value.ref a := rx
  refine getmeth_ok I1 ea (M.c i) (M.hm i) l ?_
  refine PySem.W.callWith_K (first := [.ref a]) (h₀ := X.base) I.ok.mod.kin (M.hm i).kp (thn (ha pos pins s1 σ H1 _ I1 q) fun us s2 ⟨vs, H2, I2, r, q2⟩ => ⟨I2.kIn, ?_⟩) hst hpl
  exact run_fn (us := .ref a :: us) (vs := .ref a :: vs) (dvs := []) (M.F i) hr (M.hb i) .nil hx I2 (.cons rfl r) (by rw [List.append_nil]; exact q2)
theorem pe_methF0 {ι : Type} {ps : List Str} {sp : ι → Sp} {cs f : ι → Addr} {fd : ι → FuncData} {pl : Sem Bool} (he : PE X o ta) (M : MethF X.prog X.w X.K X.mg X.base CX k ι m ps sp cs f fd) (hr : Room k X.A) (hx : Passes CX X E)
    (ht : eval (.Call (.Attribute o m apos) [] [] pos) X.env = (do
      let ov ← eval o X.env
      standAt apos.atName
      let (f, first) ← holding [ov] (getMethod ov m pl)
      callWith pos f first (backTo pos (starEach [] X.env)) (backToKw pos (keywordEach [] X.env))) := by rfl) :
    PE X (.Call (.Attribute o m apos) [] [] pos) (tMethF m sp cs E ta tNil) := by
  intro pins s σ H Q I h
  refine PySem.W.methodCall_KW (pl := pl) (thn (he pins s σ H _ I h) fun u s1 ⟨x, H1, I1, rx, i, a, dx, fs, ex, ea, l, q⟩ => ?_) ht
  subst ex
  obtain rfl : u = Value.ref a := rx
  refine getmeth_ok I1 ea (M.c i) (M.hm i) l ?_
  exact PySem.W.callWith_K0 (first := [.ref a]) I1.kIn (M.hm i).kp (run_fn (us := [.ref a]) (vs := [.ref a]) (dvs := []) (M.F i) hr (M.hb i) .nil hx I1 (.cons rfl .nil) q)
end
/-! ### isinstance(x, C), C an own class -/
def rIsO (K : PySem.W.Frag) : List V → Hp → VK → Prop := fun xs H Q => ∃ x c t b, xs = [x, c] ∧ isC c = true ∧ TyOf K H x t ∧ PySem.W.kitOne K t (toC c) = some b ∧ Q (.bl b) H
theorem call_isO {X : Cx} : CallR X (.builtin "isinstance") (rIsO X.K) := by
  intro pins s σ H xs us Q I r h
  obtain ⟨x, c, t, b, rfl, hc, ty, e, q⟩ := h
  obtain ⟨u, w', rfl, r1, r2⟩ := vals2 r
  have e2 := toC_eq hc r2
  subst e2
  exact isinst_ok I r1 ty e fun tk => ⟨.bl b, H, I.tok tk, rfl, q⟩
end L2

namespace My
open PySem L2
/-! ### small helpers of the laws -/
theorem cut_if {c : Bool} {t u : TS} {D : Ends} {σ : St} {H : Hp} (Pv : St → Hp → Prop) (h1 : c = true → ∀ D' : Ends, D'.rt = D.rt → (∀ σ H, Pv σ H → D'.nx σ H) → t D' σ H)
    (h2 : c = false → ∀ D' : Ends, D'.rt = D.rt → (∀ σ H, Pv σ H → D'.nx σ H) → u D' σ H) (h3 : ∀ σ H, Pv σ H → D.nx σ H) : if c = true then t D σ H else u D σ H := by
  cases c with
  | true => exact iteT (h1 rfl D rfl h3)
  | false => exact iteF (h2 rfl D rfl h3)
theorem pickA {α : Type} (xs : List α) (m : Int) (hm : m = (xs.length : Int)) (h0 : 0 < xs.length) (z : Int) : ∃ v, v ∈ xs ∧ atI xs (z % m) = some v := by
  subst hm
  have a0 : 0 ≤ z % (xs.length : Int) := Int.emod_nonneg _ (by omega)
  have a1 : z % (xs.length : Int) < xs.length := Int.emod_lt_of_pos _ (by omega)
  obtain ⟨k, hk⟩ := Int.eq_ofNat_of_zero_le a0
  rw [hk] at a1 ⊢
  have hk' : k < xs.length := by omega
  exact ⟨xs[k], List.getElem_mem hk', atI_nat (List.getElem?_eq_getElem hk')⟩
theorem str_app_len (i j : Str) : (i ++ j).length = i.length + j.length := by
  show (i.cps ++ j.cps).size = _
  rw [Array.size_append]
  rfl
theorem app_le {i j : Str} {a b : Nat} (h1 : i.length ≤ a) (h2 : j.length ≤ b) : (i ++ j).length ≤ a + b := by rw [str_app_len]; omega
theorem fitsAB {i j : Str} {a b : Nat} (h1 : i.length ≤ a) (h2 : j.length ≤ b) (h : a + b ≤ 1000) : i.length + j.length ≤ sizeLine := by rw [sizeLine_eq]; omega
theorem fits3 (n : Nat) (h : n ≤ 1000) : n ≤ sizeLine := by rw [sizeLine_eq]; omega
theorem all_nil {α : Type} {p : α → Prop} : ∀ x ∈ ([] : List α), p x := fun _ h => nomatch h
theorem all_cons {α : Type} {p : α → Prop} {a : α} {l : List α} (h : p a) (r : ∀ x ∈ l, p x) : ∀ x ∈ a :: l, p x := fun x hx => by
  rcases List.mem_cons.mp hx with e | e
  · rw [e]; exact h
  · exact r x e
theorem all_app {α : Type} {p : α → Prop} {l r : List α} (h1 : ∀ x ∈ l, p x) (h2 : ∀ x ∈ r, p x) : ∀ x ∈ l ++ r, p x := fun x hx => (List.mem_append.mp hx).elim (h1 x) (h2 x)
theorem item_at {ns : List Int} {k : Int} (h : 0 < ns.length) : ∃ v : Int, atI (ns.map V.int) (k % (((ns.map V.int).length : Nat) : Int)) = some (.int v) := by
  obtain ⟨v, hv, e⟩ := pickA (ns.map V.int) _ rfl (by rw [List.length_map]; exact h) k
  obtain ⟨n, _, rfl⟩ := List.mem_map.mp hv
  exact ⟨n, e⟩
theorem list2 {α : Type} {l : List α} (h : l.length = 2) : ∃ a b, l = [a, b] := match l, h with | [a, b], _ => ⟨a, b, rfl⟩
section
variable {P : Program} {w : World} {K : PySem.W.Frag} {mg : Str → Option Value} {base : Heap}
structure Lib (P : Program) (w : World) (K : PySem.W.Frag) (mg : Str → Option Value) (base : Heap) (k : Nat) (x : Str) (ps : List Str) (sp : Sp) (f : Addr) (fd : FuncData) : Prop where
  ok : FnOk P w K mg base CX0 k f fd ps sp
  bd : Binds K fd ps []
  kp : PySem.W.keepIn K (.ref f) = true
  mg : mg x = some (.ref f)
structure LibX (P : Program) (w : World) (K : PySem.W.Frag) (mg : Str → Option Value) (base : Heap) (k : Nat) (x : Str) (ps : List Str) (sp : Sp) (f : Addr) (fd : FuncData) : Prop where
  ok : FnOk P w K mg base (CX1 P w) k f fd ps sp
  bd : Binds K fd ps []
  kp : PySem.W.keepIn K (.ref f) = true
  mg : mg x = some (.ref f)
end
end My

namespace My
open PySem L2
/-! ### four classes, four words -/
def p4 {α : Type} (a b c d : α) : Fin 4 → α := fun i => match i with | 0 => a | 1 => b | 2 => c | 3 => d
def wd : Fin 4 → Str := p4 "free" "follow" "cut" "beat"
def wds : List Str := ["free", "follow", "cut", "beat"]
theorem wd_at (i : Fin 4) : wds[i.val]? = some (wd i) := match i with | 0 => rfl | 1 => rfl | 2 => rfl | 3 => rfl
theorem wd_mem {t : Str} (h : t ∈ wds) : ∃ i, t = wd i := by
  rcases List.mem_cons.mp h with h | h
  · exact ⟨0, h⟩
  rcases List.mem_cons.mp h with h | h
  · exact ⟨1, h⟩
  rcases List.mem_cons.mp h with h | h
  · exact ⟨2, h⟩
  rcases List.mem_cons.mp h with h | h
  · exact ⟨3, h⟩
  · exact nomatch h
theorem mem_wd (i : Fin 4) : wd i ∈ wds := List.mem_of_getElem? (wd_at i)
theorem wd_inj : ∀ i j : Fin 4, wd i = wd j → i = j := by decide +kernel
theorem wd_len : ∀ i : Fin 4, 3 ≤ (wd i).length ∧ (wd i).length ≤ 6 := by decide +kernel
section
variable {P : Program} {w : World} {K : PySem.W.Frag} {mg : Str → Option Value} {base : Heap} {f g : Addr} {fd gd : FuncData}
/-- what an instance's class must have for isinstance -/
structure ClsI (K : PySem.W.Frag) (C : Addr) : Prop where
  cl : Cls K C
  ha : PySem.W.findIn K (.ref C) "__class__" = some (some (.builtin "object.__class__"))
  hn : PySem.W.specialIn K (.builtin "object.__class__") "__get__" = some (some (.builtin "getset_descriptor.__get__"))
  htk : PySem.W.takesIn K (.builtin "object.__class__") = some true
  hm : PySem.W.mroIn K C (.type "object") = some true
theorem ClsI.ty {H : Hp} {C a dx : Addr} {fs : List (Str × V)} (c : ClsI K C) (h : H a = some (.ins C dx fs)) : TyOf K H (.ref a) (.ref C) := .ins h c.cl c.ha c.hn c.htk c.hm
def spWord (i : Fin 4) : Sp := fun vs H Q _ => ∃ a, vs = [.ref a] ∧ Q (.str (wd i)) H
abbrev WordF (P : Program) (w : World) (K : PySem.W.Frag) (mg : Str → Option Value) (base : Heap) (k : Nat) (cs f : Fin 4 → Addr) (fd : Fin 4 → FuncData) : Prop := MethF P w K mg base CX0 k (Fin 4) "word" ["self"] spWord cs f fd
/-- duty_of: the duty of a word, or refused -/
def spDuty (cs : Fin 4 → Addr) (CN : Addr) : Sp := fun vs H Q E => ∃ t : Str, vs = [.str t] ∧ (∀ i, t = wd i → ∀ x dx H', Same H H' → H x = none → H' x = some (.ins (cs i) dx []) → Q (.ref x) H') ∧ (t ∉ wds → ∀ H', Same H H' → E (.ref CN) none H')
structure DutyC (K : PySem.W.Frag) (mg : Str → Option Value) (cs : Fin 4 → Addr) (CN : Addr) : Prop where
  mF : mg "Free" = some (.ref (cs 0))
  mL : mg "Follow" = some (.ref (cs 1))
  mC : mg "Cut" = some (.ref (cs 2))
  mB : mg "Beat" = some (.ref (cs 3))
  mak : ∀ i, Mk0 K (cs i)
  mN : mg "NoTable" = some (.ref CN)
  hN : PySem.W.excIn K CN veTail "ValueError.__new__" = true
theorem same_make {H : Hp} {x dx : Addr} {o : HO} (hx : H x = none) (hd : H dx = none) (n : dx ≠ x) : Same H (upd (upd H dx (.own x)) x o) := fun b u q => by
  rw [upd_ne (ne_of_none q hx), upd_ne (ne_of_none q hd)]
  exact q
theorem ok_word {st : Stmt} {qual wx : Str} {k : Nat} {sp : Sp} (F : Fun K "word" qual st f fd) (sc : FnScope ["self"] ["self"] (defScope st)) {p1 p2 : Pos} {j : Nat} (hb : defBody st = [.Return (some (.Constant (.str wx) j p1)) p2]) (hs : ∀ vs H Q E, sp vs H Q E → ∃ a, vs = [V.ref a] ∧ Q (.str wx) H) : FnOk P w K mg base CX0 (k + 1) f fd ["self"] sp := by
  refine F.ok sc (fun vs H Q E h => ?_) (fun cdv A outer s H vs Q E hr h => ?_)
  · obtain ⟨a, rfl, _⟩ := hs vs H Q E h
    rfl
  obtain ⟨a, rfl, q⟩ := hs vs H Q E h
  rw [hb]
  exact ⟨_, pss_one (ps_ret pe_str), q⟩
end
end My

namespace My
open PySem L2
/-! ### a card's text -/
def cardL : List Nat → Option Nat
  | [l, f] => if 97 ≤ l ∧ l ≤ 100 ∧ 49 ≤ f ∧ f ≤ 56 then some (8 * (l - 97) + (f - 49)) else none
  | _ => none
def cardOf (t : Str) : Option Nat := cardL t.cps.toList
def cardT (c : Nat) : Str := ⟨#[97 + c / 8, 49 + c % 8]⟩
theorem cardOf_T (c : Nat) (hc : c < 32) : cardOf (cardT c) = some c := by
  unfold cardOf cardT
  show (if 97 ≤ 97 + c / 8 ∧ 97 + c / 8 ≤ 100 ∧ 49 ≤ 49 + c % 8 ∧ 49 + c % 8 ≤ 56 then some (8 * (97 + c / 8 - 97) + (49 + c % 8 - 49)) else none) = some c
  rw [if_pos (by omega)]
  congr 1
  omega
theorem T_of {t : Str} {c : Nat} (h : cardOf t = some c) : t = cardT c ∧ c < 32 := by
  obtain ⟨⟨ll⟩⟩ := t
  have h2 : cardL ll = some c := h
  clear h
  unfold cardL at h2
  split at h2
  · rename_i l f
    split at h2
    · rename_i hc
      cases h2
      refine ⟨?_, by omega⟩
      unfold cardT
      have e1 : 97 + (8 * (l - 97) + (f - 49)) / 8 = l := by omega
      have e2 : 49 + (8 * (l - 97) + (f - 49)) % 8 = f := by omega
      rw [e1, e2]
    · cases h2
  · cases h2
theorem cardT_inj {c d : Nat} (h : cardT c = cardT d) : c = d := by
  unfold cardT at h
  injection h with h
  have h1 : [97 + c / 8, 49 + c % 8] = [97 + d / 8, 49 + d % 8] := congrArg Array.toList h
  injection h1 with h1 h2
  injection h2 with h2 _
  omega
theorem cardT_len (c : Nat) : (cardT c).length = 2 := rfl
abbrev sLet : Str := "abcd"
abbrev sFig : Str := "12345678"
theorem let_at : ∀ n < 4, atI sLet.cps.toList ((n : Nat) : Int) = some (97 + n) := by decide +kernel
theorem fig_at : ∀ n < 8, atI sFig.cps.toList ((n : Nat) : Int) = some (49 + n) := by decide +kernel
theorem let_mem (c : Nat) : c ∈ sLet.cps.toList ↔ 97 ≤ c ∧ c ≤ 100 := by
  have e : sLet.cps.toList = [97, 98, 99, 100] := by decide +kernel
  rw [e]
  simp only [List.mem_cons, List.not_mem_nil, or_false]
  omega
theorem fig_mem (c : Nat) : c ∈ sFig.cps.toList ↔ 49 ≤ c ∧ c ≤ 56 := by
  have e : sFig.cps.toList = [49, 50, 51, 52, 53, 54, 55, 56] := by decide +kernel
  rw [e]
  simp only [List.mem_cons, List.not_mem_nil, or_false]
  omega
theorem find_let (c : Nat) : Txt.find sLet ⟨#[c]⟩ = if 97 ≤ c ∧ c ≤ 100 then ((c - 97 : Nat) : Int) else -1 := by
  by_cases h : 97 ≤ c ∧ c ≤ 100
  · rw [if_pos h]
    have h4 : c = 97 ∨ c = 98 ∨ c = 99 ∨ c = 100 := by omega
    rcases h4 with rfl | rfl | rfl | rfl <;> decide +kernel
  · rw [if_neg h]
    have e := PyProof.Rows.empty_one sLet c
    rw [decide_eq_false (fun z => h ((let_mem c).mp z))] at e
    unfold Txt.find
    cases q : Builtin.Str.occurrences sLet ⟨#[c]⟩ 0 sLet.length 1 with
    | nil => rfl
    | cons a b => rw [q] at e; cases e
theorem find_fig (c : Nat) : Txt.find sFig ⟨#[c]⟩ = if 49 ≤ c ∧ c ≤ 56 then ((c - 49 : Nat) : Int) else -1 := by
  by_cases h : 49 ≤ c ∧ c ≤ 56
  · rw [if_pos h]
    have h4 : c = 49 ∨ c = 50 ∨ c = 51 ∨ c = 52 ∨ c = 53 ∨ c = 54 ∨ c = 55 ∨ c = 56 := by omega
    rcases h4 with rfl | rfl | rfl | rfl | rfl | rfl | rfl | rfl <;> decide +kernel
  · rw [if_neg h]
    have e := PyProof.Rows.empty_one sFig c
    rw [decide_eq_false (fun z => h ((fig_mem c).mp z))] at e
    unfold Txt.find
    cases q : Builtin.Str.occurrences sFig ⟨#[c]⟩ 0 sFig.length 1 with
    | nil => rfl
    | cons a b => rw [q] at e; cases e
theorem two_fit (a b : Nat) : (⟨#[a]⟩ : Str).length + (⟨#[b]⟩ : Str).length ≤ sizeLine := by
  show 1 + 1 ≤ sizeLine
  rw [sizeLine_eq]
  decide
end My

namespace L2
open PySem PySem.Spec PyProof.Rows
section
variable {prog : Program} {w : World} {A : Around} {E : Value → Shared → Prop} {s : Shared}
theorem IsList.ext {h h' : Heap} {l : Addr} {items : Array Value} (x : h.IsList l items) (e : ∀ o, h.get? l = some o → h'.get? l = some o) : h'.IsList l items := let ⟨o, ho, r⟩ := x; ⟨o, e _ ho, r⟩
/-! ### a, b, .. = a list -/
theorem draw_list {it t : Addr} {items : Array Value} (hne : t ≠ it) : ∀ (n i : Nat) (s : Shared) (Q : List Value → Shared → Prop), s.heap.IsListIter it t i → s.heap.IsList t items → i + n ≤ items.size →
    (∀ h', h'.IsListIter it t (i + n) → Heap.SameBut it s.heap h' → Q ((items.toList.drop i).take n) { s with heap := h' }) → wpAny (model prog w) A (draw (.ref it) n) Q E s
  | 0, i, s, Q, hit, _, _, hQ => by
    show wpAny _ _ (pure []) Q E s
    exact wpAny_pure (by simpa using hQ s.heap hit (Heap.SameBut.refl ..))
  | n + 1, i, s, Q, hit, ht, hle, hQ => by
    have hlt : i < items.size := by omega
    show wpAny _ _ (pyNext (.ref it) >>= _) Q E s
    refine wpAny_bind (wpAny_pyNext_list_item hit ht (x := items[i]) (by simp [hlt]) fun h₁ hit₁ hs₁ => ?_)
    refine wpAny_bind (wpAny_holding (draw_list hne n (i + 1) _ _ hit₁ (IsList.ext ht fun o e => hs₁.extBut t o hne e) (by omega) fun h₂ hit₂ hs₂ => wpAny_pure ?_))
    have hd : items.toList.drop i = items[i] :: items.toList.drop (i + 1) := by simp [List.drop_eq_getElem_cons, hlt]
    have := hQ h₂ (by rw [show i + (n + 1) = i + 1 + n by omega]; exact hit₂) (hs₁.trans hs₂)
    rw [hd, List.take_succ_cons] at this
    exact this
theorem unpackItems_list {t : Addr} {items : Array Value} {Q : List Value → Shared → Prop} (hh : A.handled = none) (ht : s.heap.IsList t items)
    (hQ : ∀ h', Heap.ExtBut s.heap.objs.size s.heap h' → Q items.toList { s with heap := h' }) : wpAny (model prog w) A (unpackItems (.ref t) items.size none) Q E s := by
  have hlt : t ≠ s.heap.objs.size := by obtain ⟨o, ho, _⟩ := ht; exact Nat.ne_of_lt (Heap.lt_size ho)
  unfold unpackItems
  refine wpAny_bind ?_
  · unfold notIterableAtAll
    refine wpAny_bind (wpAny_specialOf ht.typeIs slot_list_iter.lookup ?_)
    refine wpAny_pure ?_
    simp only [Bool.false_eq_true, if_false]
    refine wpAny_bind (wpAny_holding (wpAny_pyIter_list ht ?_))
    refine wpAny_bind (wpAny_holding (draw_list hlt items.size 0 _ _ ⟨_, Heap.get?_push_size _ rfl, rfl, rfl⟩ (IsList.ext ht fun o e => Heap.get?_push_of_some _ e) (by omega) fun h₁ hit₁ hs₁ => ?_))
    have hall : List.take items.size (List.drop 0 items.toList) = items.toList := by
      rw [List.drop_zero]; exact List.take_of_length_le (by simp)
    rw [hall]
    rw [if_neg (by simp)]
    have ht₁ : h₁.IsList t items := IsList.ext ht fun o e => hs₁.extBut t o hlt (Heap.get?_push_of_some _ e)
    refine wpAny_bind (wpAny_holding (wpAny_pyNext_list_end hh hit₁ ht₁ (by simp) fun h₂ he₂ => ?_))
    simp only [Option.isSome_none, Bool.false_eq_true, if_false]
    refine wpAny_pure (hQ h₂ fun b o hb e => he₂ b o hb (hs₁.extBut b o hb (Heap.get?_push_of_some _ e)))
theorem assign_Tuple_list {env : Env} {elts : List Expr} {x1} {pos : Pos} {t : Addr} {items : Array Value} {Q : Unit → Shared → Prop} (hh : A.handled = none) (ht : s.heap.IsList t items)
    (hn : (assignEach elts env).length = items.size) (hstar : (assignEach elts env).findIdx? (·.1) = none)
    (h : ∀ h', Heap.ExtBut s.heap.objs.size s.heap h' → wpAny (model prog w) A (assignInOrder ((assignEach elts env).map (·.2)) items.toList) Q E { s with heap := h' }) :
    wpAny (model prog w) A (assign (.Tuple elts x1 pos) env (.ref t)) Q E s := by
  rw [assign_Tuple]
  refine wpAny_bind (wpAny_standAt ?_)
  unfold unpack
  rw [hn, hstar]
  exact wpAny_bind (wpAny_holding (unpackItems_list hh ht h))
end
section
variable {X : Cx} {e st : Expr} {te : TE} {lo : Option Expr} {tl ts : TO} {pos p2 : Pos}
def gLst (K : PySem.W.Frag) (n : Nat) (t : TGs) : TG := fun v σ H Q => ∃ a xs, v = .ref a ∧ SqL K H a xs ∧ xs.length = n ∧ t xs σ H Q
theorem pg_lst {es : List Expr} {k : Nat} {t : TGs} {n : Nat} (hc : X.calm = true) (h : PGs X es t)
    (hn : (assignEach es X.env).length = n := by rfl) (hst : (assignEach es X.env).findIdx? (·.1) = none := by rfl) : PG X (.Tuple es k pos) (gLst X.K n t) := by
  intro pins s σ H v u Q I r hw
  obtain ⟨a, xs, e1, hq, hl, hw⟩ := hw
  subst e1
  cases r
  obtain ⟨its, rv, ht, hz⟩ := I.list hq
  refine assign_Tuple_list (I.ok.hd hc) ht.isList (by simp [hn, ← hl, rv.length]) hst fun h' hx => ?_
  have I1 : Inv X pins σ H { s with heap := h' } := I.kept (t' := s.toks) fun b o e => hx b o (Nat.ne_of_lt (Heap.lt_size e)) e
  exact h pins _ σ H xs _ Q I1 (by simpa using rv) hw
/-! ### xs[lo::2] of a list of ten items -/
def tStep (K : PySem.W.Frag) (te : TE) (tl ts : TO) : TE := fun σ H Q => te σ H fun x H1 => tl σ H1 fun o H2 => ts σ H2 fun o2 H3 => o2 = some 2 ∧ ∃ a x0 x1 x2 x3 x4 x5 x6 x7 x8 x9, x = .ref a ∧ SqL K H3 a [x0, x1, x2, x3, x4, x5, x6, x7, x8, x9] ∧
  ((o = some 0 ∧ ∀ p, H3 p = none → Q (.ref p) (upd H3 p (.lst [x0, x2, x4, x6, x8]))) ∨ (o = some 1 ∧ ∀ p, H3 p = none → Q (.ref p) (upd H3 p (.lst [x1, x3, x5, x7, x9]))))
theorem pick_of {ys zs : List Value} {n : Nat} {lo hi st : Option Int} {ix : List Nat} (hn : ys.length = n) (h : sliceRange (sliceBounds lo hi st n).1 (sliceBounds lo hi st n).2.1 (sliceBounds lo hi st n).2.2 = ix) (hz : ix.filterMap (ys[·]?) = zs) : slicePick ys.toArray lo hi st = zs.toArray := by
  unfold slicePick
  rw [List.size_toArray, hn, h, ← hz]
  congr 2
  funext i
  simp
theorem ten {xs : List Value} (h : xs.length = 10) : ∃ a b c d e f g i j k, xs = [a, b, c, d, e, f, g, i, j, k] := match xs, h with | [a, b, c, d, e, f, g, i, j, k], _ => ⟨a, b, c, d, e, f, g, i, j, k, rfl⟩
theorem pe_step (he : PE X e te) (hl : PO X lo tl) (hst : PO X (some st) ts) : PE X (.Subscript e (.Slice lo none (some st) p2) pos) (tStep X.K te tl ts) := by
  intro pins s σ H Q I h
  refine Subscript_ (thn (he pins s σ H _ I h) fun v s1 ⟨x, H1, I1, r1, q1⟩ => ?_)
  refine wpAny_Slice (thn (hl pins s1 σ H1 _ I1 q1) fun vl s2 ⟨l, H2, I2, pl, q2⟩ => ?_)
  rw [evalPart_none]
  refine wpAny_pure (thn (hst pins s2 σ H2 _ I2 q2) fun vs s3 ⟨o, H3, I3, po, q3⟩ => ?_)
  obtain ⟨rfl, a, x0, x1, x2, x3, x4, x5, x6, x7, x8, x9, rfl, hx, q⟩ := q3
  cases r1
  have I4 : Inv X pins σ H3 { s3 with heap := s3.heap.push { cls := .type "slice", data := .fields #[vl, .none, vs] } } := I3.kept (t' := s3.toks) fun b ob q => Heap.get?_push_of_some _ q
  obtain ⟨its, r, ht, hz⟩ := I4.list hx
  have hlen := r.length
  obtain ⟨y0, y1, y2, y3, y4, y5, y6, y7, y8, y9, rfl⟩ := ten hlen.symm
  cases r with | cons r0 r => cases r with | cons r1 r => cases r with | cons r2 r => cases r with | cons r3 r => cases r with | cons r4 r => cases r with | cons r5 r => cases r with | cons r6 r => cases r with | cons r7 r => cases r with | cons r8 r => cases r with | cons r9 r =>
  show wpAny (model X.prog X.w) X.A (subscriptTail e (.Slice lo none (some st) p2) (.ref a) (.ref s3.heap.objs.size)) (EP X pins σ Q) X.xe { s3 with heap := s3.heap.push { cls := .type "slice", data := .fields #[vl, .none, vs] } }
  refine PyProof.Rows.tail_any (ops := [.ref a, .ref s3.heap.objs.size]) ht.isList.typeIs slot_list_getitem.lookup ?_ (by with_unfolding_all rfl)
  refine wpAny_getItem_list_slice ht.isList (Heap.IsSliceOf.new ..) pl .none po (by decide) ?_ (by rw [List.size_toArray] <;> exact Nat.le_of_lt (small1000 (show 10 ≤ 1000 by decide)))
  rcases q with ⟨rfl, q⟩ | ⟨rfl, q⟩
  · have ep : slicePick [y0, y1, y2, y3, y4, y5, y6, y7, y8, y9].toArray (some 0) none (some 2) = [y0, y2, y4, y6, y8].toArray := pick_of (n := 10) (ix := [0, 2, 4, 6, 8]) rfl (by decide +kernel) rfl
    rw [ep]
    exact ⟨.ref _, _, I4.lnew (t' := s3.toks) (ys := [x0, x2, x4, x6, x8]) (its := [y0, y2, y4, y6, y8]) (.cons r0 (.cons r2 (.cons r4 (.cons r6 (.cons r8 .nil))))) (Nat.le_of_lt (small1000 (show 5 ≤ 1000 by decide))), rfl, q _ I4.fresh⟩
  · have ep : slicePick [y0, y1, y2, y3, y4, y5, y6, y7, y8, y9].toArray (some 1) none (some 2) = [y1, y3, y5, y7, y9].toArray := pick_of (n := 10) (ix := [1, 3, 5, 7, 9]) rfl (by decide +kernel) rfl
    rw [ep]
    exact ⟨.ref _, _, I4.lnew (t' := s3.toks) (ys := [x1, x3, x5, x7, x9]) (its := [y1, y3, y5, y7, y9]) (.cons r1 (.cons r3 (.cons r5 (.cons r7 (.cons r9 .nil))))) (Nat.le_of_lt (small1000 (show 5 ≤ 1000 by decide))), rfl, q _ I4.fresh⟩
/-! ### int(text), list(text), sorted(text) -/
theorem call_int_str : CallR X (.type "int") (fun xs H Q => ∃ x n, xs = [.str x] ∧ PySem.intText? x = some n ∧ x.length ≤ 640 ∧ Q (.int n) H) := by
  intro pins s σ H xs us Q I r h
  obtain ⟨x, n, rfl, hn, hl, q⟩ := h
  obtain ⟨u, rfl, t, rfl⟩ := vals1 r
  exact PySem.W.KIN.call_text hn hl ⟨.int n, H, I.tok _, ⟨_, rfl⟩, q⟩
def chars (t : Str) : List Str := t.cps.toList.map fun c => ⟨#[c]⟩
theorem chars_len (t : Str) : (chars t).length = t.length := by unfold chars; rw [List.length_map]; rfl
theorem vals_chars {t : Str} {acc : Array Value} (h : ItemsOf (SignAt t) acc t.cps.size) : Vals (vS (chars t)) acc.toList := by
  obtain ⟨hs, hi⟩ := h
  have key : ∀ (cs : List Nat) (us : List Value), us.length = cs.length → (∀ (j : Nat) v, us[j]? = some v → ∃ c u, cs[j]? = some c ∧ v = .str ⟨#[c]⟩ u) → Vals ((cs.map fun c => (⟨#[c]⟩ : Str)).map V.str) us := by
    intro cs
    induction cs with
    | nil =>
      intro us hl _
      have e : us = [] := List.eq_nil_of_length_eq_zero hl
      subst e
      exact .nil
    | cons c cs ih =>
      intro us hl hu
      cases us with
      | nil => cases hl
      | cons u us =>
        obtain ⟨c', t', hc, hv⟩ := hu 0 u rfl
        have e : c = c' := Option.some.inj hc
        subst e
        exact .cons ⟨_, hv⟩ (ih us (Nat.succ.inj hl) fun j v hj => hu (j + 1) v hj)
  refine key t.cps.toList acc.toList (by simpa using hs) fun j v hj => ?_
  obtain ⟨c, u, h1, h2⟩ := hi j v (by simpa using hj)
  exact ⟨c, u, by simpa using h1, h2⟩
theorem call_list_strL (hc : X.calm = true) : CallR X (.type "list") (fun xs H Q => ∃ t, xs = [.str t] ∧ t.length ≤ 1000 ∧ ∀ l, H l = none → Q (.ref l) (upd H l (.lst (vS (chars t))))) := by
  intro pins s σ H xs us Q I r h
  obtain ⟨x, rfl, hl, q⟩ := h
  obtain ⟨u, rfl, t, rfl⟩ := vals1 r
  have hz : x.length ≤ sizeLine := Nat.le_of_lt (small1000 hl)
  refine call_list_str (I.ok.hd hc) x t (fun h' tk acc' c' kp e hi => ?_) hz
  have hv := vals_chars hi
  exact ⟨.ref s.heap.objs.size, _, I.laid (t' := tk) kp (Nat.le_refl _) (show ObjOk X.prog X.w _ h' _ (.lst (vS (chars x))) from ⟨by rw [vS_len, chars_len]; exact hz, acc'.toList, c', hv, by simpa using e⟩), rfl, q _ (I.hok.fresh (Nat.le_refl _))⟩
theorem vals_strs : ∀ {us : List Value} {ss : List Str}, StrsAre us ss → Vals (vS ss) us
  | _, _, .nil => .nil
  | _, _, .cons x t h => .cons ⟨t, rfl⟩ (vals_strs h)
theorem call_sorted_str (hc : X.calm = true) : CallR X (.builtin "sorted") (fun xs H Q => ∃ t, xs = [.str t] ∧ t.length < 64 ∧ ∀ l ss, H l = none → ss.Perm (chars t) → sortedS ss = true → Q (.ref l) (upd H l (.lst (vS ss)))) := by
  intro pins s σ H xs us Q I r h
  obtain ⟨x, rfl, hl, q⟩ := h
  obtain ⟨u, rfl, t, rfl⟩ := vals1 r
  have hz : x.length ≤ sizeLine := Nat.le_of_lt (small1000 (by omega))
  refine Calls.call_function_entry kind_sorted plain_sorted entry_sorted (args_sorted1 _) ?_
  unfold Builtin.«sorted»
  refine wpAny_bind (m := checkCount "sorted" 1 1 _) (wpAny_pure ?_)
  refine wpAny_bind (wpAny_collect_str (A := X.A.in1) (show X.A.in1.handled = none from I.ok.hd hc) x t (fun s1 acc kp hg hd ho hi => ?_) hz)
  have hv := vals_chars hi
  have hS : StrsAre acc.toList (chars x) := strsAre_of hv
  have hlen : acc.toList.length < 64 := by rw [← hv.length, vS_len, chars_len]; exact hl
  obtain ⟨hp1, g1, d1, t1, o1⟩ := s1
  simp only at hg hd ho kp
  subst hg hd ho
  have I1 : Inv X pins σ H { s with heap := hp1, toks := t1 } := I.kept (t' := t1) kp
  refine wpAny_bind (wpAny_newList ?_)
  have hoL : (hp1.push (seqObj "list" acc.toList.toArray 0)).get? hp1.objs.size = some (seqObj "list" acc.toList.toArray 0) := Heap.get?_push_size _ rfl
  refine wpAny_bind (wpAny_holding (wpAny_call_entry slot_list_sort ⟨_, hoL, rfl⟩ entry_list_sort (list_sort_treeK (κ := strKind) strKind_oneLt hoL hS.keysOf (fun v₁ v₂ rest e => keyKind_strs (by rw [← e]; exact hS)) hlen fun st' hp hs => ⟨_, rfl, wpAny_pure ⟨_, rfl, ?_⟩⟩) (args_list_sort _)))
  obtain ⟨ss', h1, h2, h3⟩ := sorted_out_str hS hp hs
  obtain ⟨ep, he⟩ := sortedHeap_at (out := (arrOf st').map (·.2)) hoL
  have hl2 : ss'.length = x.length := by rw [h2.length_eq, chars_len]
  refine ⟨.ref hp1.objs.size, _, I1.laid (t' := t1) (a := hp1.objs.size) (o := .lst (vS ss')) (h' := sortedHeap (hp1.push (seqObj "list" acc.toList.toArray 0)) hp1.objs.size acc.toList ((arrOf st').map (·.2))) (fun b u e => ?_) (Nat.le_refl _) ?_, rfl, q _ ss' (I1.hok.fresh (Nat.le_refl _)) h2 h3⟩
  · have hb := Heap.lt_size e
    rw [sortedHeap_old (Nat.ne_of_lt hb) (by rw [size_push']; exact Nat.lt_succ_of_lt hb)]
    exact Heap.get?_push_of_some _ e
  · refine ⟨by rw [vS_len, hl2]; exact hz, ((arrOf st').map (·.2)).toList, ep, vals_strs h1, ?_⟩
    rw [Array.toArray_toList]
    exact he
end
/-! ### text.find(..) within a comprehension's block -/
def rFind : V → List V → Hp → VK → Prop := fun x xs H Q => ∃ i j, x = .str i ∧ xs = [.str j] ∧ Q (.int (Txt.find i j)) H
theorem pe_findK {X : Cx} {K : PySem.W.Frag} {o e : Expr} {to : TE} {t : TA} {apos cpos : Pos} (hK : X.K = K) (ho : PE X o to) (ha : PA X [e] t)
    (hbase : attributeBase o "find" X.env (eval o X.env) = eval o X.env := by rfl)
    (hfew : ((backTo cpos (starEach [e] X.env)).all (fun x => !x.1) && (backToKw cpos (keywordEach [] X.env)).all (fun x => x.1.isSome) && decide ([e].length + ([] : List Keyword).length + (if ([] : List Keyword).isEmpty then 0 else 1) < 30)) = true := by rfl)
    (hline : (apos.endLine == cpos.line) = true := by rfl) (hs : starEach [e] X.env = [(false, eval e X.env)] := by rfl) : PE X (.Call (.Attribute o "find" apos) [e] [] cpos) (tBM K "str" rFind to t) := by
  subst hK
  exact pe_bm PySem.F.plainAttrs_str PySem.F.slot_str_find PySem.F.type_str_find mt_find ho ha hbase hfew hline hs rfl
/-! ### a def with a default -/
structure FunD (K : PySem.W.Frag) (x qual : Str) (st : Stmt) (f : Addr) (fd : FuncData) : Prop where
  ex : ∃ (oc : Value) (od : Option Addr) (dV kV doc pm : Value) (an : Option Addr) (cdv ct : Value) (osl : Array (Option Value)),
    fd = PySem.W.fnOf x qual (defArgs st) (defBody st) (defScope st) dV kV doc pm an cdv ct ∧ K.lookup f = some ⟨oc, od, .func fd, osl⟩ ∧ PySem.W.codeIn K cdv qual = true
  kp : PySem.W.keepIn K (.ref f) = true
theorem FunD.ok {P : Program} {w : World} {K : PySem.W.Frag} {mg : Str → Option Value} {base : Heap} {x qual : Str} {st : Stmt} {f : Addr} {fd : FuncData} {N ps : List Str} {k : Nat} {sp : Sp} (F : FunD K x qual st f fd) (S : FnScope N ps (defScope st)) (len : ∀ vs H Q E, sp vs H Q E → vs.length = ps.length)
    (hbody : ∀ (cdv : Value) (A : Around) (outer : List Env) (s : Shared) (H : Hp) (vs : List V) (Q : VK) (E : XK), Room k (A.deeper (envOfC qual (defScope st) s.heap.objs.size f cdv)) → sp vs H Q E →
      ∃ t, PSs (cxOf CX0 P w K mg base N qual (defScope st) f cdv A outer s H E).nox (defBody st) t ∧ t { nx := fun _ H' => Q .non H', rt := Q } (start N vs) H) : FnOk P w K mg base CX0 (k + 1) f fd ps sp := by
  obtain ⟨oc, od, dV, kV, doc, pm, an, cdv, ct, osl, rfl, lk, hcd⟩ := F.ex
  refine fn_of lk hcd S len fun A outer s H vs Q E hr hsp => ?_
  obtain ⟨t, h, q⟩ := hbody cdv A outer s H vs Q E hr hsp
  exact ⟨t, h.nox, q⟩
theorem funD_mk {K : PySem.W.Frag} {x qual : Str} {st : Stmt} {f : Addr} {oc : Value} {od an : Option Addr} {osl : Array (Option Value)} {dV kV doc pm cdv ct : Value} (l : K.lookup f = some ⟨oc, od, .func (PySem.W.fnOf x qual (defArgs st) (defBody st) (defScope st) dV kV doc pm an cdv ct), osl⟩)
    (c : PySem.W.codeIn K cdv qual = true) (k : PySem.W.keepIn K (.ref f) = true) : FunD K x qual st f (PySem.W.fnOf x qual (defArgs st) (defBody st) (defScope st) dV kV doc pm an cdv ct) := ⟨⟨oc, od, dV, kV, doc, pm, an, cdv, ct, osl, rfl, l, c⟩, k⟩
end L2

namespace My
open PySem L2 PySem.Spec PyProof.Rows
def joinL : List (List Nat) → List Nat
  | [] => []
  | [x] => x
  | x :: y :: r => x ++ 32 :: joinL (y :: r)
theorem cut_eq : ∀ (x y a b : List Nat), 32 ∉ x → 32 ∉ y → x ++ 32 :: a = y ++ 32 :: b → x = y ∧ a = b
  | [], [], a, b, _, _, h => by
    injection h with _ h
    exact ⟨rfl, h⟩
  | [], c :: y, a, b, _, hy, h => by
    injection h with h _
    exact absurd (h ▸ List.mem_cons_self) hy
  | c :: x, [], a, b, hx, _, h => by
    injection h with h _
    exact absurd (h ▸ List.mem_cons_self) hx
  | c :: x, d :: y, a, b, hx, hy, h => by
    injection h with h1 h2
    obtain ⟨e1, e2⟩ := cut_eq x y a b (fun z => hx (List.mem_cons_of_mem _ z)) (fun z => hy (List.mem_cons_of_mem _ z)) h2
    exact ⟨by rw [h1, e1], e2⟩
theorem joinL_inj : ∀ xs ys : List (List Nat), xs ≠ [] → ys ≠ [] → (∀ x ∈ xs, 32 ∉ x) → (∀ y ∈ ys, 32 ∉ y) → joinL xs = joinL ys → xs = ys
  | [], _, h, _, _, _, _ => absurd rfl h
  | _, [], _, h, _, _, _ => absurd rfl h
  | [x], [y], _, _, _, _, h => by
    have e : x = y := h
    rw [e]
  | [x], y :: y2 :: r, _, _, hx, _, h => by
    have e : x = y ++ 32 :: joinL (y2 :: r) := h
    refine absurd ?_ (hx x List.mem_cons_self)
    rw [e]
    exact List.mem_append_right _ List.mem_cons_self
  | x :: x2 :: r, [y], _, _, _, hy, h => by
    have e : x ++ 32 :: joinL (x2 :: r) = y := h
    refine absurd ?_ (hy y List.mem_cons_self)
    rw [← e]
    exact List.mem_append_right _ List.mem_cons_self
  | x :: x2 :: r, y :: y2 :: r2, _, _, hx, hy, h => by
    obtain ⟨e1, e2⟩ := cut_eq x y _ _ (hx x List.mem_cons_self) (hy y List.mem_cons_self) h
    have e3 := joinL_inj (x2 :: r) (y2 :: r2) (List.cons_ne_nil _ _) (List.cons_ne_nil _ _) (fun z hz => hx z (List.mem_cons_of_mem _ hz)) (fun z hz => hy z (List.mem_cons_of_mem _ hz)) e2
    rw [e1, e3]
/-! ### texts -/
abbrev blank : Str := " "
abbrev ofL (l : List Nat) : Str := ⟨l.toArray⟩
theorem blank_cps : blank = ⟨#[32]⟩ := by decide +kernel
theorem join_toList : ∀ ws : List Str, (Txt.join blank ws).cps.toList = joinL (ws.map fun w => w.cps.toList) := by
  intro ws
  unfold Txt.join
  rw [StrLaws.glued_eq_join]
  induction ws with
  | nil => rfl
  | cons x r ih =>
    cases r with
    | nil => rfl
    | cons y r =>
      show (x ++ blank ++ Str.join blank (y :: r)).cps.toList = x.cps.toList ++ 32 :: joinL ((y :: r).map fun w => w.cps.toList)
      rw [← ih, blank_cps]
      show ((x.cps ++ #[32]) ++ (Str.join ⟨#[32]⟩ (y :: r)).cps).toList = _
      rw [Array.toList_append, Array.toList_append, List.append_assoc]
      rfl
theorem str_ext {a b : Str} (h : a.cps.toList = b.cps.toList) : a = b := by
  obtain ⟨⟨a⟩⟩ := a
  obtain ⟨⟨b⟩⟩ := b
  cases h
  rfl
theorem split_ne (x : Str) : Txt.split x blank ≠ [] := by
  unfold Txt.split
  split
  · exact List.cons_ne_nil _ _
  · split
    · exact List.cons_ne_nil _ _
    · intro z
      have l := PyProof.Rows.len_partsBetween x (Builtin.Str.occurrences x blank 0 x.length (x.length + 1)) blank.length
      rw [z] at l
      cases l
theorem split_join (ws : List Str) (h : ws ≠ []) (hf : ∀ w ∈ ws, 32 ∉ w.cps.toList) : Txt.split (Txt.join blank ws) blank = ws := by
  have e1 : Txt.join blank (Txt.split (Txt.join blank ws) blank) = Txt.join blank ws := by
    have z := StrLaws.join_split (Txt.join blank ws) blank
    rw [← StrLaws.glued_eq_join] at z
    exact z
  have e2 := congrArg (fun s : Str => s.cps.toList) e1
  rw [join_toList, join_toList] at e2
  have e3 := joinL_inj _ _ (fun z => split_ne _ (List.map_eq_nil_iff.mp z)) (fun z => h (List.map_eq_nil_iff.mp z)) (fun x hx => ?_) (fun y hy => ?_) e2
  · have inj : ∀ a b : List Str, (a.map fun w => w.cps.toList) = (b.map fun w => w.cps.toList) → a = b := by
      intro a
      induction a with
      | nil => intro b hb; cases b with
        | nil => rfl
        | cons y r => cases hb
      | cons x r ih => intro b hb; cases b with
        | nil => cases hb
        | cons y r2 =>
          injection hb with h1 h2
          rw [str_ext h1, ih r2 h2]
    exact inj _ _ e3
  · obtain ⟨w, hw, rfl⟩ := List.mem_map.mp hx
    rw [blank_cps] at hw
    exact StrLaws.split_free _ 32 w hw
  · obtain ⟨w, hw, rfl⟩ := List.mem_map.mp hy
    exact hf w hw
/-! ### a hand's text -/
theorem join_len (sep : Str) (ws : List Str) : (Txt.join sep ws).length ≤ (ws.map (·.length)).sum + ws.length * sep.length := by
  unfold Txt.join
  rw [StrLaws.glued_eq_join]
  exact StrLaws.join_length_le sep ws
theorem blank_len : blank.length = 1 := by decide +kernel
def vN (ys : List Nat) : List V := ys.map fun c => V.int (c : Nat)
theorem vN_len (ys : List Nat) : (vN ys).length = ys.length := List.length_map _
theorem vN_ints (ys : List Nat) : vN ys = (ys.map fun c => ((c : Nat) : Int)).map V.int := by unfold vN; rw [List.map_map]; rfl
theorem inV_str {t : Str} : ∀ {ys : List Str}, inV (.str t) (vS ys) = decide (t ∈ ys)
  | [] => by
    rw [decide_eq_false (List.not_mem_nil)]
    rfl
  | y :: ys => by
    have e : inV (.str t) (vS (y :: ys)) = ((y == t) || inV (.str t) (vS ys)) := rfl
    rw [e, inV_str (ys := ys)]
    by_cases c : t = y
    · subst c
      simp
    · have c2 : ¬ y = t := fun z => c z.symm
      have b : (y == t) = false := beq_eq_false_iff_ne.mpr c2
      rw [b, Bool.false_or]
      by_cases d : t ∈ ys
      · rw [decide_eq_true d, decide_eq_true (List.mem_cons_of_mem _ d)]
      · rw [decide_eq_false d, decide_eq_false fun z => by
          rcases List.mem_cons.mp z with z | z
          · exact c z
          · exact d z]
theorem vS_flat : ∀ (ys : List Str), (vS ys).all flatV = true
  | [] => rfl
  | _ :: ys => by
    show (true && (vS ys).all flatV) = true
    rw [vS_flat ys]
    rfl
/-! ### orders -/
def sgn (i : Nat) : Str := ⟨#[49 + i]⟩
def figS (l : List Nat) : Str := ⟨(l.map (49 + ·)).toArray⟩
theorem figS_len (l : List Nat) : (figS l).length = l.length := by
  show ((l.map (49 + ·)).toArray).size = _
  rw [List.size_toArray, List.length_map]
theorem chars_fig (l : List Nat) : chars (figS l) = l.map sgn := by
  unfold chars figS
  rw [show (⟨(l.map (49 + ·)).toArray⟩ : Str).cps.toList = l.map (49 + ·) from rfl, List.map_map]
  rfl
theorem perm_sorted : ∀ {xs ys : List Nat}, xs.Perm ys → xs.Pairwise (· ≤ ·) → ys.Pairwise (· ≤ ·) → xs = ys
  | [], ys, p, _, _ => p.nil_eq
  | x :: xs, [], p, _, _ => by have := p.length_eq; cases this
  | x :: xs, y :: ys, p, hx, hy => by
    obtain ⟨hx1, hx2⟩ := List.pairwise_cons.mp hx
    obtain ⟨hy1, hy2⟩ := List.pairwise_cons.mp hy
    have e : x = y := by
      have a : x ∈ y :: ys := p.subset (List.mem_cons_self ..)
      have b : y ∈ x :: xs := p.symm.subset (List.mem_cons_self ..)
      rcases List.mem_cons.mp a with a | a
      · exact a
      · rcases List.mem_cons.mp b with b | b
        · exact b.symm
        · have := hx1 y b
          have := hy1 x a
          omega
    subst e
    rw [perm_sorted p.cons_inv hx2 hy2]
theorem sgn_le {a b : Nat} (h : ltCps (sgn b).cps.toList (sgn a).cps.toList = false) : a ≤ b := by
  rw [PyProof.Rows.ltCps_eq] at h
  have h2 : ¬ ([49 + b] : List Nat) < [49 + a] := of_decide_eq_false h
  rcases Nat.lt_or_ge b a with z | z
  · exact absurd (List.cons_lt_cons_iff.mpr (.inl (by omega))) h2
  · exact z
theorem rising_le : ∀ {a : Nat} {l : List Nat}, risingS (sgn a) (l.map sgn) = true → (a :: l).Pairwise (· ≤ ·)
  | a, [], _ => List.pairwise_singleton ..
  | a, b :: l, h => by
    have h' : (!ltCps (sgn b).cps.toList (sgn a).cps.toList && risingS (sgn b) (l.map sgn)) = true := h
    rw [Bool.and_eq_true] at h'
    have ab : a ≤ b := sgn_le (by simpa using h'.1)
    have r := rising_le (a := b) (l := l) h'.2
    refine List.pairwise_cons.mpr ⟨fun c hc => ?_, r⟩
    rcases List.mem_cons.mp hc with e | hc
    · omega
    · have := (List.pairwise_cons.mp r).1 c hc
      omega
theorem sorted_le : ∀ {l : List Nat}, sortedS (l.map sgn) = true → l.Pairwise (· ≤ ·)
  | [], _ => .nil
  | a :: l, h => rising_le (show risingS (sgn a) (l.map sgn) = true from h)
theorem of_perm_map : ∀ {ss : List Str} {l : List Nat}, ss.Perm (l.map sgn) → ∃ ks : List Nat, ss = ks.map sgn ∧ ks.Perm l := by
  intro ss l p
  have inj : ∀ a b, sgn a = sgn b → a = b := fun a b e => by
    unfold sgn at e
    injection e with e
    have e1 : [49 + a] = [49 + b] := congrArg Array.toList e
    injection e1 with e1
    omega
  refine ⟨ss.map (fun s => s.cps.toList.headD 0 - 49), ?_, ?_⟩
  · rw [List.map_map]
    have : ∀ s ∈ ss, (sgn ∘ fun s : Str => s.cps.toList.headD 0 - 49) s = s := fun s hs => by
      obtain ⟨i, _, rfl⟩ := List.mem_map.mp (p.subset hs)
      show sgn ((49 + i) - 49) = sgn i
      congr 1
      omega
    exact ((List.map_congr_left this).trans (List.map_id' ss)).symm
  · have q := p.map (fun s : Str => s.cps.toList.headD 0 - 49)
    rw [List.map_map] at q
    have : l.map ((fun s : Str => s.cps.toList.headD 0 - 49) ∘ sgn) = l := by
      have : ∀ i ∈ l, ((fun s : Str => s.cps.toList.headD 0 - 49) ∘ sgn) i = i := fun i _ => by
        show (49 + i) - 49 = i
        omega
      exact (List.map_congr_left this).trans (List.map_id' _)
    rw [this] at q
    exact q
theorem range_sorted (h : Nat) : (List.range h).Pairwise (· ≤ ·) := (List.pairwise_lt_range).imp fun h => Nat.le_of_lt h
theorem order_sorted {ss : List Str} {l : List Nat} {h : Nat} (hl : l.Perm (List.range h)) (p : ss.Perm (chars (figS l))) (s : sortedS ss = true) : ss = (List.range h).map sgn := by
  rw [chars_fig] at p
  obtain ⟨ks, rfl, pk⟩ := of_perm_map p
  rw [perm_sorted (pk.trans hl) (sorted_le s) (range_sorted h)]
theorem fig_slice : ∀ h ≤ 8, chars (Txt.slice sFig none (some ((h : Nat) : Int))) = (List.range h).map sgn := by decide +kernel
theorem find_sgn : ∀ i < 8, Txt.find sFig (sgn i) = ((i : Nat) : Int) := by decide +kernel
theorem eqVs_str : ∀ (ys : List Str), eqVs (vS ys) (vS ys) = true
  | [] => rfl
  | y :: ys => by
    show ((y == y) && eqVs (vS ys) (vS ys)) = true
    rw [eqVs_str ys, beq_self_eq_true]
    rfl
theorem perm_erase {α : Type} : ∀ (l : List α) (i : Nat) (x : α), l[i]? = some x → l.Perm (x :: l.eraseIdx i)
  | [], i, x, h => by simp at h
  | y :: l, 0, x, h => by
    have e : y = x := Option.some.inj h
    subst e
    exact List.Perm.refl _
  | y :: l, i + 1, x, h => by
    have r := perm_erase l i x h
    exact (r.cons y).trans (List.Perm.swap ..)
/-! ### a table's facts and text -/
structure Fx where
  s : Nat
  h : Nat
  n : Nat
  d : _root_.Fin 4
  pl : List Nat
  tr : List Nat
structure Fx.Ok (f : Fx) : Prop where
  s1 : 1 ≤ f.s
  s4 : f.s ≤ 4
  h1 : 1 ≤ f.h
  h8 : f.h ≤ 8
  n34 : f.n = 3 ∨ f.n = 4
  pp : f.pl.Perm (List.range f.h)
  pt : f.tr.Perm (List.range f.h)
def sizeT (f : Fx) : Str := ⟨#[48 + f.s, 120, 48 + f.h]⟩
def seatT (f : Fx) : Str := ⟨#[48 + f.n]⟩
def tabW (f : Fx) : List Str := ["pack", sizeT f, "seats", seatT f, "duty", wd f.d, "plain", figS f.pl, "trump", figS f.tr]
def tabT (f : Fx) : Str := Txt.join blank (tabW f)
theorem perm_lt {l : List Nat} {h : Nat} (p : l.Perm (List.range h)) : ∀ i ∈ l, i < h := fun i hi => List.mem_range.mp (p.subset hi)
theorem perm_len {l : List Nat} {h : Nat} (p : l.Perm (List.range h)) : l.length = h := by rw [p.length_eq, List.length_range]
theorem fig_free (l : List Nat) : 32 ∉ (figS l).cps.toList := by
  rw [show (figS l).cps.toList = l.map (49 + ·) from rfl]
  intro z
  obtain ⟨i, _, e⟩ := List.mem_map.mp z
  omega
theorem wd_free : ∀ i : _root_.Fin 4, 32 ∉ (wd i).cps.toList := by decide +kernel
theorem tab_split (f : Fx) : Txt.split (tabT f) blank = tabW f := by
  refine split_join (tabW f) (by unfold tabW; exact List.cons_ne_nil _ _) ?_
  refine all_cons (by decide +kernel) (all_cons ?_ (all_cons (by decide +kernel) (all_cons ?_ (all_cons (by decide +kernel) (all_cons (wd_free _) (all_cons (by decide +kernel) (all_cons (fig_free _) (all_cons (by decide +kernel) (all_cons (fig_free _) all_nil)))))))))
  · show 32 ∉ [48 + f.s, 120, 48 + f.h]
    simp
    omega
  · show 32 ∉ [48 + f.n]
    simp
    omega
theorem tab_len {f : Fx} (ok : f.Ok) : (tabT f).length ≤ 99 := by
  have j := join_len blank (tabW f)
  have e : ((tabW f).map (·.length)).sum ≤ 4 + (3 + (5 + (1 + (4 + (6 + (5 + (8 + (5 + (8 + 0))))))))) := by
    have a := (wd_len f.d).2
    have b : (figS f.pl).length ≤ 8 := by rw [figS_len, perm_len ok.pp]; exact ok.h8
    have c : (figS f.tr).length ≤ 8 := by rw [figS_len, perm_len ok.pt]; exact ok.h8
    show 4 + (3 + (5 + (1 + (4 + ((wd f.d).length + (5 + ((figS f.pl).length + (5 + ((figS f.tr).length + 0))))))))) ≤ _
    omega
  have e2 : (tabW f).length = 10 := rfl
  rw [e2, blank_len] at j
  have : (tabT f).length = (Txt.join blank (tabW f)).length := rfl
  omega
theorem str_num : ∀ i ≤ 8, (toString ((i : Nat) : Int) : Str) = ⟨#[48 + i]⟩ := by decide +kernel
theorem joinE_toList : ∀ ws : List Str, (Txt.join "" ws).cps.toList = (ws.map fun w => w.cps.toList).flatten := by
  intro ws
  unfold Txt.join
  rw [StrLaws.glued_eq_join]
  induction ws with
  | nil => rfl
  | cons x r ih =>
    cases r with
    | nil =>
      show x.cps.toList = x.cps.toList ++ []
      rw [List.append_nil]
    | cons y r =>
      show (x ++ "" ++ Str.join "" (y :: r)).cps.toList = x.cps.toList ++ ((y :: r).map fun w => w.cps.toList).flatten
      rw [← ih]
      show ((x.cps ++ ("" : Str).cps) ++ (Str.join "" (y :: r)).cps).toList = _
      rw [Array.toList_append, Array.toList_append]
      have e : ("" : Str).cps.toList = [] := by decide +kernel
      rw [e, List.append_nil]
theorem join_sgn (l : List Nat) : Txt.join "" (l.map sgn) = figS l := by
  refine str_ext ?_
  rw [joinE_toList, List.map_map]
  show ((l.map fun i => [49 + i]).flatten) = l.map (49 + ·)
  induction l with
  | nil => rfl
  | cons i l ih => rw [List.map_cons, List.flatten_cons, ih]; rfl
def sgV (x : V) : V := match x with | .int i => .str ⟨#[48 + (i + 1).toNat]⟩ | _ => .non
theorem sgV_int (i : Nat) : sgV (.int (i : Nat)) = .str ⟨#[48 + (i + 1)]⟩ := by
  show V.str ⟨#[48 + (((i : Nat) : Int) + 1).toNat]⟩ = _
  have e : (((i : Nat) : Int) + 1).toNat = i + 1 := by omega
  rw [e]
theorem sgV_list (l : List Nat) : ((vN l).filter fun _ => true).map sgV = vS (l.map sgn) := by
  rw [List.filter_eq_self.mpr (fun _ _ => rfl)]
  unfold vN vS
  rw [List.map_map, List.map_map]
  refine List.map_congr_left fun i _ => ?_
  show sgV (.int (i : Nat)) = .str (sgn i)
  rw [sgV_int]
  unfold sgn
  rw [show 48 + (i + 1) = 49 + i by omega]
theorem sgn_sum {l : List Nat} {h : Nat} (p : l.Perm (List.range h)) (h8 : h ≤ 8) : ((l.map sgn).map (·.length)).sum + (l.map sgn).length * ("" : Str).length ≤ 16777216 := by
  have e : ∀ l : List Nat, ((l.map sgn).map (·.length)).sum = l.length := fun l => by
    induction l with
    | nil => rfl
    | cons i l ih =>
      show 1 + ((l.map sgn).map (·.length)).sum = _
      rw [ih, List.length_cons]
      omega
  have z : ("" : Str).length = 0 := by decide +kernel
  rw [e, z, perm_len p]
  omega
theorem text_eq (f : Fx) : (("pack " : Str) ++ ⟨#[48 + f.s]⟩ ++ "x" ++ ⟨#[48 + f.h]⟩ ++ " seats " ++ ⟨#[48 + f.n]⟩ ++ " duty " ++ wd f.d ++ " plain " ++ figS f.pl ++ " trump " ++ figS f.tr) = tabT f := by
  refine str_ext ?_
  unfold tabT
  rw [join_toList]
  have ap : ∀ a b : Str, (a ++ b).cps.toList = a.cps.toList ++ b.cps.toList := fun a b => by
    show (a.cps ++ b.cps).toList = _
    rw [Array.toList_append]
  rw [ap, ap, ap, ap, ap, ap, ap, ap, ap, ap, ap]
  show _ = ("pack" : Str).cps.toList ++ 32 :: ([48 + f.s, 120, 48 + f.h] ++ 32 :: (("seats" : Str).cps.toList ++ 32 :: ([48 + f.n] ++ 32 :: (("duty" : Str).cps.toList ++ 32 :: ((wd f.d).cps.toList ++ 32 :: (("plain" : Str).cps.toList ++ 32 :: ((figS f.pl).cps.toList ++ 32 :: (("trump" : Str).cps.toList ++ 32 :: (figS f.tr).cps.toList))))))))
  have e1 : ("pack " : Str).cps.toList = ("pack" : Str).cps.toList ++ [32] := by decide +kernel
  have e2 : ("x" : Str).cps.toList = [120] := by decide +kernel
  have e3 : (" seats " : Str).cps.toList = 32 :: (("seats" : Str).cps.toList ++ [32]) := by decide +kernel
  have e4 : (" duty " : Str).cps.toList = 32 :: (("duty" : Str).cps.toList ++ [32]) := by decide +kernel
  have e5 : (" plain " : Str).cps.toList = 32 :: (("plain" : Str).cps.toList ++ [32]) := by decide +kernel
  have e6 : (" trump " : Str).cps.toList = 32 :: (("trump" : Str).cps.toList ++ [32]) := by decide +kernel
  rw [e1, e2, e3, e4, e5, e6]
  simp [List.append_assoc]
end My

namespace My
open PySem L2
def top (i : Nat) : Stmt := PySem.Challenge.pw_trickproof_k11_who_wins_a_trick.main.body.getD i (.Pass ⟨0, 0, 0, 0⟩)
abbrev sFreeWord : Stmt := inClass (top 15) 0
abbrev sFollowWord : Stmt := inClass (top 16) 0
abbrev sCutWord : Stmt := inClass (top 17) 0
abbrev sBeatWord : Stmt := inClass (top 18) 0
abbrev sDutyOf : Stmt := top 19
abbrev sMarks : Stmt := top 24
abbrev sReadSize : Stmt := top 25
abbrev sReadSeats : Stmt := top 26
abbrev sReadOrder : Stmt := top 27
section
variable {P : Program} {w : World} {K : PySem.W.Frag} {mg : Str → Option Value} {base : Heap} {f g : Addr} {fd gd : FuncData}
/-! ### the words of the duties -/
theorem scFreeWord : FnScope ["self"] ["self"] (defScope sFreeWord) := ⟨rfl, rfl, rfl, by decide +kernel, rfl, by decide +kernel, by decide +kernel⟩
theorem scFollowWord : FnScope ["self"] ["self"] (defScope sFollowWord) := ⟨rfl, rfl, rfl, by decide +kernel, rfl, by decide +kernel, by decide +kernel⟩
theorem scCutWord : FnScope ["self"] ["self"] (defScope sCutWord) := ⟨rfl, rfl, rfl, by decide +kernel, rfl, by decide +kernel, by decide +kernel⟩
theorem scBeatWord : FnScope ["self"] ["self"] (defScope sBeatWord) := ⟨rfl, rfl, rfl, by decide +kernel, rfl, by decide +kernel, by decide +kernel⟩
theorem ok_freeWord {k : Nat} (F : Fun K "word" "Free.word" sFreeWord f fd) : FnOk P w K mg base CX0 (k + 1) f fd ["self"] (spWord 0) := ok_word F scFreeWord rfl fun _ _ _ _ h => h
theorem ok_followWord {k : Nat} (F : Fun K "word" "Follow.word" sFollowWord f fd) : FnOk P w K mg base CX0 (k + 1) f fd ["self"] (spWord 1) := ok_word F scFollowWord rfl fun _ _ _ _ h => h
theorem ok_cutWord {k : Nat} (F : Fun K "word" "Cut.word" sCutWord f fd) : FnOk P w K mg base CX0 (k + 1) f fd ["self"] (spWord 2) := ok_word F scCutWord rfl fun _ _ _ _ h => h
theorem ok_beatWord {k : Nat} (F : Fun K "word" "Beat.word" sBeatWord f fd) : FnOk P w K mg base CX0 (k + 1) f fd ["self"] (spWord 3) := ok_word F scBeatWord rfl fun _ _ _ _ h => h
/-! ### duty_of -/
theorem scDutyOf : FnScope ["word", "duty"] ["word"] (defScope sDutyOf) := ⟨rfl, rfl, rfl, by decide +kernel, rfl, by decide +kernel, by decide +kernel⟩
theorem ok_dutyOf {k : Nat} {CN : Addr} {cs fw : Fin 4 → Addr} {fdw : Fin 4 → FuncData} (F : Fun K "duty_of" "duty_of" sDutyOf f fd) (D : DutyC K mg cs CN) (W : WordF P w K mg base k cs fw fdw) : FnOk P w K mg base (CX1 P w) (k + 1) f fd ["word"] (spDuty cs CN) := by
  refine F.okX scDutyOf (fun vs H Q E h => ?_) (fun cdv A outer s H vs Q E hr h T => ?_)
  · obtain ⟨x, rfl, _⟩ := h
    rfl
  obtain ⟨t, rfl, q, qn⟩ := h
  refine ⟨_, pss_cons (ps_for T.own rfl (pi_tup (pe_tup (pa_cons (pe_makeO (D.mak 0) rfl D.mF) (pa_cons (pe_makeO (D.mak 1) rfl D.mL) (pa_cons (pe_makeO (D.mak 2) rfl D.mC) (pa_cons (pe_makeO (D.mak 3) rfl D.mB) pa_nil)))))) (pg_name (i := 1) scDutyOf.nd rfl (Or.inl rfl))
      (pss_one (ps_if (pt_cmpR op_eq (pe_methF0 (pv 1) W hr pass0) (pv 0) (nomark _)) (pss_one (ps_ret (pv 1))) pss_nil)))
    (pss_one (ps_raise T hr.hd rfl D.mN D.hN (pa_cons pe_str pa_nil))), ?_⟩
  intro x0 d0 hx0 hd0 n0 x1 d1 hx1 hd1 n1 x2 d2 hx2 hd2 n2 x3 d3 hx3 hd3 n3
  refine ⟨fits3 4 (by decide), fun p hp => ?_⟩
  have s0 := same_make (o := .ins (cs 0) d0 []) hx0 hd0 n0
  have s1 := same_make (o := .ins (cs 1) d1 []) hx1 hd1 n1
  have s2 := same_make (o := .ins (cs 2) d2 []) hx2 hd2 n2
  have s3 := same_make (o := .ins (cs 3) d3 []) hx3 hd3 n3
  have sp := same_upd hp (.tup [.ref x0, .ref x1, .ref x2, .ref x3])
  have sA := s0.trans (s1.trans (s2.trans (s3.trans sp)))
  have g0 := sp _ _ (s3 _ _ (s2 _ _ (s1 _ _ (upd_same (a := x0) (o := .ins (cs 0) d0 [])))))
  have g1 := sp _ _ (s3 _ _ (s2 _ _ (upd_same (a := x1) (o := .ins (cs 1) d1 []))))
  have g2 := sp _ _ (s3 _ _ (upd_same (a := x2) (o := .ins (cs 2) d2 [])))
  have g3 := sp _ _ (upd_same (a := x3) (o := .ins (cs 3) d3 []))
  have gp := upd_same (H := upd (upd (upd (upd (upd (upd (upd (upd H d0 (.own x0)) x0 (.ins (cs 0) d0 [])) d1 (.own x1)) x1 (.ins (cs 1) d1 [])) d2 (.own x2)) x2 (.ins (cs 2) d2 [])) d3 (.own x3)) x3 (.ins (cs 3) d3 [])) (a := p) (o := .tup [.ref x0, .ref x1, .ref x2, .ref x3])
  revert g0 g1 g2 g3 gp sA
  generalize upd _ p (.tup [.ref x0, .ref x1, .ref x2, .ref x3]) = H4
  intro sA g0 g1 g2 g3 gp
  have hx1' := s0.free hx1
  have hx2' := s0.free (s1.free hx2)
  have hx3' := s0.free (s1.free (s2.free hx3))
  have G : ∀ (i : Nat) (x : V), ([V.ref x0, V.ref x1, V.ref x2, V.ref x3] : List V)[i]? = some x → ∃ (j : Fin 4) (y dy : Addr), j.val = i ∧ x = .ref y ∧ H y = none ∧ H4 y = some (.ins (cs j) dy []) := fun i x hx => by
    match i, hx with
    | 0, hx => exact ⟨0, x0, d0, rfl, (Option.some.inj hx).symm, hx0, g0⟩
    | 1, hx => exact ⟨1, x1, d1, rfl, (Option.some.inj hx).symm, hx1', g1⟩
    | 2, hx => exact ⟨2, x2, d2, rfl, (Option.some.inj hx).symm, hx2', g2⟩
    | 3, hx => exact ⟨3, x3, d3, rfl, (Option.some.inj hx).symm, hx3', g3⟩
  refine ⟨p, rfl, ⟨_, SqT.of gp⟩, for_tup (xs := [.ref x0, .ref x1, .ref x2, .ref x3]) (fun i σ H' => H' = H4 ∧ (∃ x, σ = [some (.str t), x]) ∧ ∀ j : Fin 4, j.val < i → t ≠ wd j) ⟨rfl, ⟨_, rfl⟩, fun j hj => absurd hj (Nat.not_lt_zero _)⟩ (fun i σ H' _ z => by obtain ⟨rfl, _⟩ := z; exact SqT.of gp) (fun i x σ H' hx z => ?_) (fun σ H' z => ?_)⟩
  · obtain ⟨rfl, ⟨x', rfl⟩, hno⟩ := z
    obtain ⟨j, y, dy, hj, rfl, hy, gy⟩ := G i x hx
    refine ⟨_, rfl, j, y, dy, [], rfl, gy, rfl, y, rfl, _, rfl, rfl, _, rfl, ite2 (fun c => ?_) (fun c => ?_)⟩
    · have c' := of_decide_eq_true c
      injection c' with c'
      exact ⟨_, rfl, q j c'.symm y dy H' sA hy gy⟩
    · refine ⟨rfl, ⟨_, rfl⟩, fun j' hj' e => ?_⟩
      by_cases lt : j'.val < i
      · exact hno j' lt e
      · have ej : j' = j := Fin.ext (by omega)
        subst ej
        exact c (decide_eq_true (by rw [e]))
  · obtain ⟨rfl, ⟨x', rfl⟩, hno⟩ := z
    refine ⟨fits3 1 (by decide), qn (fun z => ?_) _ sA⟩
    obtain ⟨j, hj⟩ := wd_mem z
    exact hno j j.isLt hj
/-! ### the table's text is cut into words -/
def spMarks : Sp := fun vs H Q _ => ∃ f : Fx, vs = [.str (tabT f)] ∧ f.Ok ∧ ∀ l H', Same H H' → H l = none → H' l = some (.lst (vS [sizeT f, seatT f, wd f.d, figS f.pl, figS f.tr])) → Q (.ref l) H'
theorem scMarks : FnScope ["text", "words"] ["text"] (defScope sMarks) := ⟨rfl, rfl, rfl, by decide +kernel, rfl, by decide +kernel, by decide +kernel⟩
def marks : List Str := ["pack", "seats", "duty", "plain", "trump"]
theorem ok_marks {k : Nat} {CN aM : Addr} (F : Fun K "words_behind_marks" "words_behind_marks" sMarks f fd) (mM : mg "MARKS" = some (.ref aM)) (hM : ∀ H, SqT K H aM (vS marks)) (mC : mg "NoTable" = some (.ref CN)) (hC : PySem.W.excIn K CN veTail "ValueError.__new__" = true)
    (mi : mg "isinstance" = none) (ms : mg "str" = none) (ml : mg "len" = none) (mt : mg "tuple" = none) : FnOk P w K mg base (CX1 P w) (k + 1) f fd ["text"] spMarks := by
  refine F.okX scMarks (fun vs H Q E h => ?_) (fun cdv A outer s H vs Q E hr h T => ?_)
  · obtain ⟨x, rfl, _⟩ := h
    rfl
  obtain ⟨fx, rfl, ok, q⟩ := h
  refine ⟨_, pss_cons (ps_if (pt_not (pt_truth (pe_callB call_isT rfl mi PyProof.Rows.boot_isinstance (pa_cons (pv 0) (pa_cons (pe_bltn (v := .ty "str") rfl ms PyProof.Rows.boot_str rfl) pa_nil))) (fun _ => rfl))) (pss_one (ps_raise T hr.hd rfl mC hC (pa_cons pe_str pa_nil))) pss_nil)
    (pss_cons (ps_set (i := 1) scMarks.nd rfl (Or.inl rfl) (pe_bm PySem.F.plainAttrs_str PySem.F.slot_str_split PySem.F.type_str_split mt_split (pv 0) (pa_cons pe_str pa_nil)))
    (pss_cons (ps_if (PW.pt (pw_or (pt_cmpR op_ne (pe_callB call_len_seq rfl ml PySem.boot_len (pa_cons (pv 1) pa_nil)) (pe_op op_mul pe_int (pe_callB call_len_seq rfl ml PySem.boot_len (pa_cons (pe_glob (v := .ref aM) rfl mM rfl) pa_nil))) (nomark _))
        (pw_or1 (pt_cmpR (op_neFT hr.units) (pe_callTy call_tuple_of rfl mt PyProof.Rows.boot_tuple (pa_cons (pe_step (pv 1) (po_some pe_int) (po_some pe_int)) pa_nil)) (pe_glob (v := .ref aM) rfl mM rfl) (nomark _))))) (pss_one (ps_raise T hr.hd rfl mC hC (pa_cons pe_str pa_nil))) pss_nil)
    (pss_one (ps_ret (pe_step (pv 1) (po_some pe_int) (po_some pe_int)))))), ?_⟩
  have tl := tab_len ok
  refine ⟨_, rfl, _, _, _, true, rfl, .str _, rfl, true, rfl, iteF ?_⟩
  refine ⟨_, rfl, rfl, tabT fx, blank, rfl, rfl, (by decide +kernel), by omega, fun l hl => ?_⟩
  rw [tab_split]
  have s1 := same_upd hl (.lst (vS (tabW fx)))
  refine ⟨_, rfl, l, _, rfl, .inl (SqL.of upd_same), aM, _, rfl, .inr (hM _), _, _, rfl, rfl, .inl ⟨by decide, by decide⟩, rfl, _, rfl, iteF ?_⟩
  refine ⟨_, rfl, _, rfl, _, rfl, rfl, l, .str "pack", .str (sizeT fx), .str "seats", .str (seatT fx), .str "duty", .str (wd fx.d), .str "plain", .str (figS fx.pl), .str "trump", .str (figS fx.tr), rfl, SqL.of upd_same, .inl ⟨rfl, fun p hp => ?_⟩⟩
  have s2 := same_upd hp (.lst (vS marks))
  refine ⟨p, vS marks, rfl, .inl ⟨SqL.of upd_same, fun p2 hp2 => ?_⟩⟩
  have s3 := same_upd hp2 (.tup (vS marks))
  refine ⟨p2, aM, vS marks, vS marks, rfl, rfl, ⟨SqT.of upd_same, hM _⟩, vS_flat _, vS_flat _, _, rfl, ?_⟩
  show if (!eqVs (vS marks) (vS marks)) = true then _ else _
  rw [eqVs_str]
  refine iteF ?_
  have sA := s1.trans (s2.trans s3)
  refine ⟨_, rfl, _, rfl, _, rfl, rfl, l, .str "pack", .str (sizeT fx), .str "seats", .str (seatT fx), .str "duty", .str (wd fx.d), .str "plain", .str (figS fx.pl), .str "trump", .str (figS fx.tr), rfl, SqL.of (s3 _ _ (s2 _ _ upd_same)), .inr ⟨rfl, fun p3 hp3 => ?_⟩⟩
  exact q p3 _ (sA.trans (same_upd hp3 _)) (sA.free hp3) upd_same
/-! ### the size, the seats, an order -/
def spSize : Sp := fun vs H Q _ => ∃ f : Fx, vs = [.str (sizeT f)] ∧ f.Ok ∧ ∀ p H', Same H H' → H p = none → H' p = some (.tup [.int (f.s : Nat), .int (f.h : Nat)]) → Q (.ref p) H'
theorem scSize : FnScope ["word", "suits", "heights"] ["word"] (defScope sReadSize) := ⟨rfl, rfl, rfl, by decide +kernel, rfl, by decide +kernel, by decide +kernel⟩
theorem ok_size {k : Nat} {CN : Addr} {t1 t2 : Tok} (F : Fun K "read_size" "read_size" sReadSize f fd) (mF : mg "FIGURES" = some (.str sFig t1)) (mL : mg "LETTERS" = some (.str sLet t2)) (mC : mg "NoTable" = some (.ref CN)) (hC : PySem.W.excIn K CN veTail "ValueError.__new__" = true) (ml : mg "len" = none) :
    FnOk P w K mg base (CX1 P w) (k + 1) f fd ["word"] spSize := by
  refine F.okX scSize (fun vs H Q E h => ?_) (fun cdv A outer s H vs Q E hr h T => ?_)
  · obtain ⟨x, rfl, _⟩ := h
    rfl
  obtain ⟨fx, rfl, ok, q⟩ := h
  refine ⟨_, pss_cons (ps_if (PW.pt (pw_or (pt_cmpR op_ne (pe_callB call_len_str rfl ml PySem.boot_len (pa_cons (pv 0) pa_nil)) pe_int (nomark _)) (pw_or1 (pt_cmpR op_ne (pe_ix ix_str (pv 0) pe_int (fun _ _ => rfl)) pe_str (nomark _))))) (pss_one (ps_raise T hr.hd rfl mC hC (pa_cons pe_str pa_nil))) pss_nil)
    (pss_cons (ps_set (i := 1) scSize.nd rfl (Or.inl rfl) (pe_op op_add (pe_bm PySem.F.plainAttrs_str PySem.F.slot_str_find PySem.F.type_str_find mt_find (pe_glob (v := .str sFig) rfl mF ⟨_, rfl⟩) (pa_cons (pe_ix ix_str (pv 0) pe_int (fun _ _ => rfl)) pa_nil)) pe_int))
    (pss_cons (ps_set (i := 2) scSize.nd rfl (Or.inl rfl) (pe_op op_add (pe_bm PySem.F.plainAttrs_str PySem.F.slot_str_find PySem.F.type_str_find mt_find (pe_glob (v := .str sFig) rfl mF ⟨_, rfl⟩) (pa_cons (pe_ix ix_str (pv 0) pe_int (fun _ _ => rfl)) pa_nil)) pe_int))
    (pss_cons (ps_if (PW.pt (pw_or (pt_cmpR op_eq (pv 1) pe_int (nomark _)) (pw_or (pt_cmpR op_gt (pv 1) (pe_callB call_len_str rfl ml PySem.boot_len (pa_cons (pe_glob (v := .str sLet) rfl mL ⟨_, rfl⟩) pa_nil)) (nomark _)) (pw_or1 (pt_cmpR op_eq (pv 2) pe_int (nomark _)))))) (pss_one (ps_raise T hr.hd rfl mC hC (pa_cons pe_str pa_nil))) pss_nil)
    (pss_one (ps_ret (pe_tup (pa_cons (pv 1) (pa_cons (pv 2) pa_nil)))))))), ?_⟩
  have hz : (sizeT fx).length ≤ sizeLine := fits3 3 (by decide)
  have at0 : atI (sizeT fx).cps.toList 0 = some (48 + fx.s) := atI_nat (j := 0) rfl
  have at1 : atI (sizeT fx).cps.toList 1 = some 120 := atI_nat (j := 1) rfl
  have at2 : atI (sizeT fx).cps.toList 2 = some (48 + fx.h) := atI_nat (j := 2) rfl
  have s1 := ok.s1
  have s4 := ok.s4
  have h1 := ok.h1
  have h8 := ok.h8
  refine ⟨_, rfl, _, rfl, hz, rfl, _, rfl, iteF ⟨_, rfl, _, _, _, rfl, rfl, hz, at1, rfl, _, rfl, ?_⟩⟩
  rw [decide_eq_true (show V.str ⟨#[120]⟩ = V.str "x" by decide +kernel)]
  refine iteF ?_
  refine ⟨rfl, _, rfl, _, _, _, rfl, rfl, hz, at0, _, _, rfl, rfl, _, _, rfl, rfl, ?_⟩
  refine ⟨rfl, _, rfl, _, _, _, rfl, rfl, hz, at2, _, _, rfl, rfl, _, _, rfl, rfl, ?_⟩
  rw [find_fig, find_fig, if_pos (by omega), if_pos (by omega)]
  have e1 : ((48 + fx.s - 49 : Nat) : Int) + 1 = ((fx.s : Nat) : Int) := by omega
  have e2 : ((48 + fx.h - 49 : Nat) : Int) + 1 = ((fx.h : Nat) : Int) := by omega
  dsimp only
  rw [e1, e2]
  refine ⟨_, rfl, rfl, _, rfl, ?_⟩
  rw [decide_eq_false (fun y => by injection y with y; omega)]
  refine iteF ⟨_, rfl, _, rfl, fits3 4 (by decide), _, _, rfl, rfl, _, rfl, ?_⟩
  have l4 : ((sLet.length : Nat) : Int) = 4 := by decide +kernel
  rw [l4, decide_eq_false (show ¬ (4 : Int) < ((fx.s : Nat) : Int) by omega)]
  refine iteF ⟨_, rfl, rfl, _, rfl, ?_⟩
  rw [decide_eq_false (fun y => by injection y with y; omega)]
  refine iteF ⟨_, rfl, _, rfl, fits3 2 (by decide), fun p hp => q p _ (same_upd hp _) hp upd_same⟩
def spSeats : Sp := fun vs H Q _ => ∃ f : Fx, vs = [.str (seatT f)] ∧ f.Ok ∧ ∀ H', Same H H' → Q (.int (f.n : Nat)) H'
theorem scSeats : FnScope ["word"] ["word"] (defScope sReadSeats) := ⟨rfl, rfl, rfl, by decide +kernel, rfl, by decide +kernel, by decide +kernel⟩
theorem ok_seats {k : Nat} {CN : Addr} (F : Fun K "read_seats" "read_seats" sReadSeats f fd) (mC : mg "NoTable" = some (.ref CN)) (hC : PySem.W.excIn K CN veTail "ValueError.__new__" = true) (mI : mg "int" = none) : FnOk P w K mg base (CX1 P w) (k + 1) f fd ["word"] spSeats := by
  refine F.okX scSeats (fun vs H Q E h => ?_) (fun cdv A outer s H vs Q E hr h T => ?_)
  · obtain ⟨x, rfl, _⟩ := h
    rfl
  obtain ⟨fx, rfl, ok, q⟩ := h
  refine ⟨_, pss_cons (ps_if (pt_cmpR op_notIn_seq (pv 0) (pe_tup (pa_cons pe_str (pa_cons pe_str pa_nil))) rfl) (pss_one (ps_raise T hr.hd rfl mC hC (pa_cons pe_str pa_nil))) pss_nil)
    (pss_one (ps_ret (pe_callTy call_int_str rfl mI PyProof.Rows.boot_int (pa_cons (pv 0) pa_nil)))), ?_⟩
  refine ⟨_, rfl, fits3 2 (by decide), fun p hp => ?_⟩
  have s1 := same_upd hp (.tup (vS ["3", "4"]))
  refine ⟨p, vS ["3", "4"], rfl, .inr (SqT.of upd_same), rfl, rfl, _, rfl, ?_⟩
  show if (!inV (.str (seatT fx)) (vS ["3", "4"])) = true then _ else _
  rcases ok.n34 with e | e
  · have es : seatT fx = "3" := by unfold seatT; rw [e]; decide +kernel
    rw [es, show inV (.str "3") (vS ["3", "4"]) = true by decide +kernel]
    refine iteF ⟨_, rfl, _, 3, rfl, by decide +kernel, by decide +kernel, ?_⟩
    have := q _ s1
    rw [e] at this
    exact this
  · have es : seatT fx = "4" := by unfold seatT; rw [e]; decide +kernel
    rw [es, show inV (.str "4") (vS ["3", "4"]) = true by decide +kernel]
    refine iteF ⟨_, rfl, _, 4, rfl, by decide +kernel, by decide +kernel, ?_⟩
    have := q _ s1
    rw [e] at this
    exact this
def spOrd : Sp := fun vs H Q _ => ∃ (l : List Nat) (h : Nat), vs = [.str (figS l), .int (h : Nat)] ∧ h ≤ 8 ∧ l.Perm (List.range h) ∧ ∀ p H', Same H H' → H p = none → H' p = some (.tup (vN l)) → Q (.ref p) H'
theorem scOrd : FnScope ["word", "heights"] ["word", "heights"] (defScope sReadOrder) := ⟨rfl, rfl, rfl, by decide +kernel, rfl, by decide +kernel, by decide +kernel⟩
theorem ok_ord {k : Nat} {CN : Addr} {t1 : Tok} (F : Fun K "read_order" "read_order" sReadOrder f fd) (mF : mg "FIGURES" = some (.str sFig t1)) (mC : mg "NoTable" = some (.ref CN)) (hC : PySem.W.excIn K CN veTail "ValueError.__new__" = true) (mS : mg "sorted" = none) (mLi : mg "list" = none) (mt : mg "tuple" = none) :
    FnOk P w K mg base (CX1 P w) (k + 1) f fd ["word", "heights"] spOrd := by
  refine F.okX scOrd (fun vs H Q E h => ?_) (fun cdv A outer s H vs Q E hr h T => ?_)
  · obtain ⟨l, h, rfl, _⟩ := h
    rfl
  obtain ⟨l, h, rfl, h8, pm, q⟩ := h
  refine ⟨_, pss_cons (ps_if (pt_cmpR (op_neFL hr.units) (pe_callB (call_sorted_str rfl) rfl mS PyProof.Rows.boot_sorted (pa_cons (pv 0) pa_nil)) (pe_callTy (call_list_strL rfl) rfl mLi PyProof.Rows.boot_list (pa_cons (pe_slice sl_str (pe_glob (v := .str sFig) rfl mF ⟨_, rfl⟩) po_none (po_some (pv 1))) pa_nil)) (nomark _)) (pss_one (ps_raise T hr.hd rfl mC hC (pa_cons pe_str pa_nil))) pss_nil)
    (pss_one (ps_ret (pe_callTy call_tuple_of rfl mt PyProof.Rows.boot_tuple (pa_cons (pe_comp ["figure"] [none] rfl (Blk.by (sc := defScope sReadOrder) (N0 := ["word", "heights"]) rfl rfl (by decide +kernel)) (pi_str (pv 0)) (fun C s₀ H₀ ex => pg_name (i := 0) (show (["figure"] : List Str).Nodup by decide +kernel) rfl (Or.inl rfl))
      (fun C s₀ H₀ ex => pf_nil) (fun C s₀ H₀ ex => pe_findK (K := K) rfl (pe_glob (v := .str sFig) rfl mF ⟨_, rfl⟩) (pa_cons (pv 0) pa_nil))) pa_nil)))), ?_⟩
  have ll : l.length = h := perm_len pm
  refine ⟨_, rfl, figS l, rfl, (by rw [figS_len]; omega), fun l1 ss hl1 hp hs => ?_⟩
  have es := order_sorted pm hp hs
  subst es
  have s1 := same_upd hl1 (.lst (vS ((List.range h).map sgn)))
  refine ⟨_, rfl, _, rfl, sFig, rfl, (by decide +kernel), _, rfl, Nat.le_trans (Txt.slice_le _ _ _) (by decide +kernel), fun l2 hl2 => ?_⟩
  rw [fig_slice h h8]
  have s2 := same_upd hl2 (.lst (vS ((List.range h).map sgn)))
  refine ⟨l1, l2, _, _, rfl, rfl, ⟨SqL.of (s2 _ _ upd_same), SqL.of upd_same⟩, vS_flat _, vS_flat _, _, rfl, ?_⟩
  show if (!eqVs (vS ((List.range h).map sgn)) (vS ((List.range h).map sgn))) = true then _ else _
  rw [eqVs_str]
  refine iteF ⟨_, rfl, figS l, rfl, ?_⟩
  have sA := s1.trans s2
  refine comp_any l.length (fun i => .str (sgn (l.getD i 0))) (fun _ => true) (fun i => .int ((l.getD i 0 : Nat) : Int)) (fits3 _ (by omega)) (fun i H3 s3 hi => ?_) (fun H3 s3 => ?_) (fun i H3 x H4 s3 hi y => ?_) (fun i H3 hi sm R hR => hR H3 (Same.refl H3)) (fun i H3 hi hp sm R hR => ?_) (fun l3 H3 s3 hl3 hL3 => ?_)
  · show i < (figS l).cps.size
    have := figS_len l
    unfold Str.length at this
    omega
  · show (figS l).cps.size ≤ l.length
    have := figS_len l
    unfold Str.length at this
    omega
  · obtain ⟨rfl, c, hc, rfl⟩ := y
    refine ⟨rfl, ?_⟩
    have e : (figS l).cps.toList[i]? = some c := by rw [← hc]; simp
    rw [show (figS l).cps.toList = l.map (49 + ·) from rfl, List.getElem?_map, List.getElem?_eq_getElem hi] at e
    have e2 : 49 + l[i] = c := Option.some.inj e
    rw [List.getD_eq_getElem?_getD, List.getElem?_eq_getElem hi, ← e2]
    rfl
  · have lt : l.getD i 0 < 8 := by
      rw [List.getD_eq_getElem?_getD, List.getElem?_eq_getElem hi]
      have := perm_lt pm l[i] (List.getElem_mem hi)
      show l[i] < 8
      omega
    refine ⟨rfl, _, rfl, _, _, rfl, rfl, ?_⟩
    show R (.int (Txt.find sFig (sgn (l.getD i 0)))) H3
    rw [find_sgn _ lt]
    exact hR H3 (Same.refl H3)
  · have e : ((List.range l.length).filter fun _ => true).map (fun i => V.int ((l.getD i 0 : Nat) : Int)) = vN l := by
      have z := filter_map_range l (fun _ => true) (fun c => V.int ((c : Nat) : Int)) 0
      rw [z, List.filter_eq_self.mpr (fun _ _ => rfl)]
      rfl
    rw [e] at hL3
    refine ⟨l3, _, rfl, .inl ⟨SqL.of hL3, fun p hp => ?_⟩⟩
    have sB := sA.trans s3
    exact q p _ (sB.trans (same_upd hp _)) (sB.free hp) upd_same
end
end My

namespace My
open PySem L2
/-! ### tables and games as objects -/
def Keep (x : Addr) (H H' : Hp) : Prop := ∀ b o, b ≠ x → H b = some o → H' b = some o
theorem Keep.refl (x : Addr) (H : Hp) : Keep x H H := fun _ _ _ h => h
theorem Keep.trans {x : Addr} {H H1 H2 : Hp} (a : Keep x H H1) (b : Keep x H1 H2) : Keep x H H2 := fun c o n h => b c o n (a c o n h)
theorem Keep.of {x : Addr} {H H' : Hp} (s : Same H H') : Keep x H H' := fun b o _ h => s b o h
theorem Keep.upd {x : Addr} {H : Hp} {o : HO} : Keep x H (upd H x o) := fun b u n h => by rw [upd_ne n]; exact h
def tF1 (f : Fx) (po to : Addr) : List (Str × V) := putF "suits" (.int (f.s : Nat)) []
def tF2 (f : Fx) (po to : Addr) : List (Str × V) := putF "heights" (.int (f.h : Nat)) (tF1 f po to)
def tF3 (f : Fx) (po to : Addr) : List (Str × V) := putF "seats" (.int (f.n : Nat)) (tF2 f po to)
def tF4 (f : Fx) (po to : Addr) : List (Str × V) := putF "duty_word" (.str (wd f.d)) (tF3 f po to)
def tF5 (f : Fx) (po to : Addr) : List (Str × V) := putF "plain_order" (.ref po) (tF4 f po to)
def tF6 (f : Fx) (po to : Addr) : List (Str × V) := putF "trump_order" (.ref to) (tF5 f po to)
def tF7 (f : Fx) (po to : Addr) : List (Str × V) := putF "written" (.str (tabT f)) (tF6 f po to)
abbrev tabF := tF7
theorem tF1_len (f : Fx) (po to : Addr) : (tF1 f po to).length ≤ 1 := length_putF _ _ _
theorem tF2_len (f : Fx) (po to : Addr) : (tF2 f po to).length ≤ 2 := Nat.le_trans (length_putF _ _ _) (Nat.succ_le_succ (tF1_len f po to))
theorem tF3_len (f : Fx) (po to : Addr) : (tF3 f po to).length ≤ 3 := Nat.le_trans (length_putF _ _ _) (Nat.succ_le_succ (tF2_len f po to))
theorem tF4_len (f : Fx) (po to : Addr) : (tF4 f po to).length ≤ 4 := Nat.le_trans (length_putF _ _ _) (Nat.succ_le_succ (tF3_len f po to))
theorem tF5_len (f : Fx) (po to : Addr) : (tF5 f po to).length ≤ 5 := Nat.le_trans (length_putF _ _ _) (Nat.succ_le_succ (tF4_len f po to))
theorem tF6_len (f : Fx) (po to : Addr) : (tF6 f po to).length ≤ 6 := Nat.le_trans (length_putF _ _ _) (Nat.succ_le_succ (tF5_len f po to))
theorem tF7_len (f : Fx) (po to : Addr) : (tF7 f po to).length ≤ 7 := Nat.le_trans (length_putF _ _ _) (Nat.succ_le_succ (tF6_len f po to))
theorem look7_suits (f : Fx) (po to : Addr) : (tF7 f po to).lookup ("suits" : Str) = some (V.int (f.s : Nat)) := by
  unfold tF7
  rw [lookup_putF]
  rw [if_neg (by decide +kernel)]
  unfold tF6
  rw [lookup_putF]
  rw [if_neg (by decide +kernel)]
  unfold tF5
  rw [lookup_putF]
  rw [if_neg (by decide +kernel)]
  unfold tF4
  rw [lookup_putF]
  rw [if_neg (by decide +kernel)]
  unfold tF3
  rw [lookup_putF]
  rw [if_neg (by decide +kernel)]
  unfold tF2
  rw [lookup_putF]
  rw [if_neg (by decide +kernel)]
  unfold tF1
  rw [lookup_putF]
  rw [if_pos rfl]
theorem look7_heights (f : Fx) (po to : Addr) : (tF7 f po to).lookup ("heights" : Str) = some (V.int (f.h : Nat)) := by
  unfold tF7
  rw [lookup_putF]
  rw [if_neg (by decide +kernel)]
  unfold tF6
  rw [lookup_putF]
  rw [if_neg (by decide +kernel)]
  unfold tF5
  rw [lookup_putF]
  rw [if_neg (by decide +kernel)]
  unfold tF4
  rw [lookup_putF]
  rw [if_neg (by decide +kernel)]
  unfold tF3
  rw [lookup_putF]
  rw [if_neg (by decide +kernel)]
  unfold tF2
  rw [lookup_putF]
  rw [if_pos rfl]
theorem look7_seats (f : Fx) (po to : Addr) : (tF7 f po to).lookup ("seats" : Str) = some (V.int (f.n : Nat)) := by
  unfold tF7
  rw [lookup_putF]
  rw [if_neg (by decide +kernel)]
  unfold tF6
  rw [lookup_putF]
  rw [if_neg (by decide +kernel)]
  unfold tF5
  rw [lookup_putF]
  rw [if_neg (by decide +kernel)]
  unfold tF4
  rw [lookup_putF]
  rw [if_neg (by decide +kernel)]
  unfold tF3
  rw [lookup_putF]
  rw [if_pos rfl]
theorem look7_duty_word (f : Fx) (po to : Addr) : (tF7 f po to).lookup ("duty_word" : Str) = some (V.str (wd f.d)) := by
  unfold tF7
  rw [lookup_putF]
  rw [if_neg (by decide +kernel)]
  unfold tF6
  rw [lookup_putF]
  rw [if_neg (by decide +kernel)]
  unfold tF5
  rw [lookup_putF]
  rw [if_neg (by decide +kernel)]
  unfold tF4
  rw [lookup_putF]
  rw [if_pos rfl]
theorem look7_plain_order (f : Fx) (po to : Addr) : (tF7 f po to).lookup ("plain_order" : Str) = some (V.ref po) := by
  unfold tF7
  rw [lookup_putF]
  rw [if_neg (by decide +kernel)]
  unfold tF6
  rw [lookup_putF]
  rw [if_neg (by decide +kernel)]
  unfold tF5
  rw [lookup_putF]
  rw [if_pos rfl]
theorem look7_trump_order (f : Fx) (po to : Addr) : (tF7 f po to).lookup ("trump_order" : Str) = some (V.ref to) := by
  unfold tF7
  rw [lookup_putF]
  rw [if_neg (by decide +kernel)]
  unfold tF6
  rw [lookup_putF]
  rw [if_pos rfl]
theorem look7_written (f : Fx) (po to : Addr) : (tF7 f po to).lookup ("written" : Str) = some (V.str (tabT f)) := by
  unfold tF7
  rw [lookup_putF]
  rw [if_pos rfl]
theorem look4_heights (f : Fx) (po to : Addr) : (tF4 f po to).lookup ("heights" : Str) = some (V.int (f.h : Nat)) := by
  unfold tF4
  rw [lookup_putF]
  rw [if_neg (by decide +kernel)]
  unfold tF3
  rw [lookup_putF]
  rw [if_neg (by decide +kernel)]
  unfold tF2
  rw [lookup_putF]
  rw [if_pos rfl]
theorem look5_heights (f : Fx) (po to : Addr) : (tF5 f po to).lookup ("heights" : Str) = some (V.int (f.h : Nat)) := by
  unfold tF5
  rw [lookup_putF]
  rw [if_neg (by decide +kernel)]
  unfold tF4
  rw [lookup_putF]
  rw [if_neg (by decide +kernel)]
  unfold tF3
  rw [lookup_putF]
  rw [if_neg (by decide +kernel)]
  unfold tF2
  rw [lookup_putF]
  rw [if_pos rfl]
theorem look7_text (f : Fx) (po to : Addr) : (tF7 f po to).lookup ("text" : Str) = none := by
  unfold tF7
  rw [lookup_putF]
  rw [if_neg (by decide +kernel)]
  unfold tF6
  rw [lookup_putF]
  rw [if_neg (by decide +kernel)]
  unfold tF5
  rw [lookup_putF]
  rw [if_neg (by decide +kernel)]
  unfold tF4
  rw [lookup_putF]
  rw [if_neg (by decide +kernel)]
  unfold tF3
  rw [lookup_putF]
  rw [if_neg (by decide +kernel)]
  unfold tF2
  rw [lookup_putF]
  rw [if_neg (by decide +kernel)]
  unfold tF1
  rw [lookup_putF]
  rw [if_neg (by decide +kernel)]
  rfl
theorem look7_duty (f : Fx) (po to : Addr) : (tF7 f po to).lookup ("duty" : Str) = none := by
  unfold tF7
  rw [lookup_putF]
  rw [if_neg (by decide +kernel)]
  unfold tF6
  rw [lookup_putF]
  rw [if_neg (by decide +kernel)]
  unfold tF5
  rw [lookup_putF]
  rw [if_neg (by decide +kernel)]
  unfold tF4
  rw [lookup_putF]
  rw [if_neg (by decide +kernel)]
  unfold tF3
  rw [lookup_putF]
  rw [if_neg (by decide +kernel)]
  unfold tF2
  rw [lookup_putF]
  rw [if_neg (by decide +kernel)]
  unfold tF1
  rw [lookup_putF]
  rw [if_neg (by decide +kernel)]
  rfl
theorem look7_order (f : Fx) (po to : Addr) : (tF7 f po to).lookup ("order" : Str) = none := by
  unfold tF7
  rw [lookup_putF]
  rw [if_neg (by decide +kernel)]
  unfold tF6
  rw [lookup_putF]
  rw [if_neg (by decide +kernel)]
  unfold tF5
  rw [lookup_putF]
  rw [if_neg (by decide +kernel)]
  unfold tF4
  rw [lookup_putF]
  rw [if_neg (by decide +kernel)]
  unfold tF3
  rw [lookup_putF]
  rw [if_neg (by decide +kernel)]
  unfold tF2
  rw [lookup_putF]
  rw [if_neg (by decide +kernel)]
  unfold tF1
  rw [lookup_putF]
  rw [if_neg (by decide +kernel)]
  rfl
structure TabC (K : PySem.W.Frag) (mg : Str → Option Value) (CT : Addr) : Prop where
  cl : Cls K CT
  mT : mg "Table" = some (.ref CT)
  nS : NoAttr K CT "suits"
  nH : NoAttr K CT "heights"
  nN : NoAttr K CT "seats"
  nD : NoAttr K CT "duty_word"
  nP : NoAttr K CT "plain_order"
  nT : NoAttr K CT "trump_order"
  nW : NoAttr K CT "written"
/-- a table of these facts stands at x -/
def IsTab (CT : Addr) (f : Fx) (H : Hp) (x : Addr) : Prop := ∃ dx po to, H x = some (.ins CT dx (tabF f po to)) ∧ H po = some (.tup (vN f.pl)) ∧ H to = some (.tup (vN f.tr))
theorem IsTab.same {CT x : Addr} {f : Fx} {H H' : Hp} (h : IsTab CT f H x) (s : Same H H') : IsTab CT f H' x := by
  obtain ⟨dx, po, to, a, b, c⟩ := h
  exact ⟨dx, po, to, s _ _ a, s _ _ b, s _ _ c⟩
def gamF (x : Addr) (tv : V) : List (Str × V) := putF "trump" tv (putF "table" (.ref x) [])
theorem gam_table (x : Addr) (tv : V) : (gamF x tv).lookup ("table" : Str) = some (V.ref x) := by
  unfold gamF
  rw [lookup_putF, if_neg (by decide +kernel), lookup_putF, if_pos rfl]
theorem gam_trump (x : Addr) (tv : V) : (gamF x tv).lookup ("trump" : Str) = some tv := by
  unfold gamF
  rw [lookup_putF, if_pos rfl]
theorem gam_none (x : Addr) (tv : V) (m : Str) (h1 : m ≠ "trump") (h2 : m ≠ "table") : (gamF x tv).lookup m = none := by
  unfold gamF
  rw [lookup_putF, if_neg h1, lookup_putF, if_neg h2]
  rfl
structure GamC (K : PySem.W.Frag) (mg : Str → Option Value) (CG : Addr) : Prop where
  cl : Cls K CG
  mG : mg "Game" = some (.ref CG)
  nT : NoAttr K CG "table"
  nU : NoAttr K CG "trump"
/-- a game of the table at x with the trump tv stands at g -/
def IsGam (CG x : Addr) (tv : V) (H : Hp) (g : Addr) : Prop := ∃ dg, H g = some (.ins CG dg (gamF x tv))
theorem IsGam.same {CG x g : Addr} {tv : V} {H H' : Hp} (h : IsGam CG x tv H g) (s : Same H H') : IsGam CG x tv H' g := by
  obtain ⟨dg, a⟩ := h
  exact ⟨dg, s _ _ a⟩
end My

namespace My
open PySem L2
abbrev sTabInit : Stmt := inClass (top 29) 0
theorem fromH {F : Hp → Prop} {H H' : Hp} (e : H' = H) (h : F H) : F H' := by rw [e]; exact h
section
variable {P : Program} {w : World} {K : PySem.W.Frag} {mg : Str → Option Value} {base : Heap} {f g : Addr} {fd gd : FuncData}
/-! ### Table -/
def spTab (CT : Addr) : Sp := fun vs H Q _ => ∃ (x dx : Addr) (f : Fx), vs = [.ref x, .str (tabT f)] ∧ f.Ok ∧ H x = some (.ins CT dx []) ∧ ∀ po to H', Keep x H H' → H' x = some (.ins CT dx (tabF f po to)) → H' po = some (.tup (vN f.pl)) → H' to = some (.tup (vN f.tr)) → Q .non H'
theorem scTab : FnScope ["self", "text", "words", "size"] ["self", "text"] (defScope sTabInit) := ⟨rfl, rfl, rfl, by decide +kernel, rfl, by decide +kernel, by decide +kernel⟩
theorem ok_tab {k : Nat} {CT CN f1 f2 f3 f4 f5 : Addr} {d1 d2 d3 d4 d5 : FuncData} {cs fw : Fin 4 → Addr} {fdw : Fin 4 → FuncData} (F : Fun K "__init__" "Table.__init__" sTabInit f fd) (C : TabC K mg CT) (LM : LibX P w K mg base k "words_behind_marks" ["text"] spMarks f1 d1) (LZ : LibX P w K mg base k "read_size" ["word"] spSize f2 d2)
    (LS : LibX P w K mg base k "read_seats" ["word"] spSeats f3 d3) (LO : LibX P w K mg base k "read_order" ["word", "heights"] spOrd f4 d4) (LD : LibX P w K mg base k "duty_of" ["word"] (spDuty cs CN) f5 d5) (W : WordF P w K mg base k cs fw fdw) : FnOk P w K mg base CX0 (k + 1) f fd ["self", "text"] (spTab CT) := by
  refine F.ok scTab (fun vs H Q E h => ?_) (fun cdv A outer s H vs Q E hr h => ?_)
  · obtain ⟨x, dx, fx, rfl, _⟩ := h
    rfl
  obtain ⟨x, dx, fx, rfl, ok, hx, q⟩ := h
  refine ⟨_, pss_cons (ps_set (i := 2) scTab.nd rfl (Or.inl rfl) (pe_call LM.ok hr rfl LM.mg LM.kp LM.bd .nil pass1 (pa_cons (pv 1) pa_nil)))
    (pss_cons (ps_set (i := 3) scTab.nd rfl (Or.inl rfl) (pe_call LZ.ok hr rfl LZ.mg LZ.kp LZ.bd .nil pass1 (pa_cons (pe_ix ix_list (pv 2) pe_int (fun _ _ => rfl)) pa_nil)))
    (pss_cons (ps_fld (pv 0) (pe_ix ix_tup (pv 3) pe_int (fun _ _ => rfl)) rfl)
    (pss_cons (ps_fld (pv 0) (pe_ix ix_tup (pv 3) pe_int (fun _ _ => rfl)) rfl)
    (pss_cons (ps_fld (pv 0) (pe_call LS.ok hr rfl LS.mg LS.kp LS.bd .nil pass1 (pa_cons (pe_ix ix_list (pv 2) pe_int (fun _ _ => rfl)) pa_nil)) rfl)
    (pss_cons (ps_fld (pv 0) (pe_methF0 (pe_call LD.ok hr rfl LD.mg LD.kp LD.bd .nil pass1 (pa_cons (pe_ix ix_list (pv 2) pe_int (fun _ _ => rfl)) pa_nil)) W hr pass0) rfl)
    (pss_cons (ps_fld (pv 0) (pe_call LO.ok hr rfl LO.mg LO.kp LO.bd .nil pass1 (pa_cons (pe_ix ix_list (pv 2) pe_int (fun _ _ => rfl)) (pa_cons (pe_fld (pv 0) rfl) pa_nil))) rfl)
    (pss_cons (ps_fld (pv 0) (pe_call LO.ok hr rfl LO.mg LO.kp LO.bd .nil pass1 (pa_cons (pe_ix ix_list (pv 2) pe_int (fun _ _ => rfl)) (pa_cons (pe_fld (pv 0) rfl) pa_nil))) rfl)
    (pss_one (ps_fld (pv 0) (pv 1) rfl))))))))), ?_⟩
  refine ⟨_, rfl, fx, rfl, ok, fun l H1 s1 hl hL => ?_⟩
  have hx1 := s1 _ _ hx
  have nlx : l ≠ x := ne_of hL hx1 (by intro z; cases z)
  refine ⟨_, rfl, l, _, 0, .str (sizeT fx), rfl, rfl, SqL.of hL, rfl, fx, rfl, ok, fun p H2 s2 hp hP => ?_⟩
  have hx2 := s2 _ _ hx1
  have hL2 := s2 _ _ hL
  have npx : p ≠ x := ne_of hP hx2 (by intro z; cases z)
  refine ⟨_, rfl, p, _, 0, .int (fx.s : Nat), rfl, rfl, SqT.of hP, rfl, _, rfl, x, CT, dx, [], rfl, hx2, C.cl, C.nS, by decide, ?_⟩
  refine ⟨_, rfl, p, [.int (fx.s : Nat), .int (fx.h : Nat)], 1, .int (fx.h : Nat), rfl, rfl, SqT.of (by rw [upd_ne npx]; exact hP), rfl, _, rfl, x, CT, dx, tF1 fx 0 0, rfl, upd_same, C.cl, C.nH, Nat.lt_of_le_of_lt (tF1_len _ _ _) (by decide), ?_⟩
  have k2 : Keep x H (upd H2 x (.ins CT dx (tF2 fx 0 0))) := (Keep.of (s1.trans s2)).trans Keep.upd
  have hL3 : (upd H2 x (.ins CT dx (tF2 fx 0 0))) l = some (.lst (vS [sizeT fx, seatT fx, wd fx.d, figS fx.pl, figS fx.tr])) := by rw [upd_ne nlx]; exact hL2
  have hx3 : (upd H2 x (.ins CT dx (tF2 fx 0 0))) x = some (.ins CT dx (tF2 fx 0 0)) := upd_same
  refine fromH (H := upd H2 x (.ins CT dx (tF2 fx 0 0))) ?_ ?_
  · first | rfl | exact upd_upd | (rw [upd_upd]; rfl)
  revert k2 hL3 hx3
  generalize upd H2 x (.ins CT dx (tF2 fx 0 0)) = H3
  intro k2 hL3 hx3
  refine ⟨_, rfl, l, _, 1, .str (seatT fx), rfl, rfl, SqL.of hL3, rfl, fx, rfl, ok, fun H4 s4 => ⟨_, rfl, x, CT, dx, tF2 fx 0 0, rfl, s4 _ _ hx3, C.cl, C.nN, Nat.lt_of_le_of_lt (tF2_len _ _ _) (by decide), ?_⟩⟩
  have k4 : Keep x H (upd H4 x (.ins CT dx (tF3 fx 0 0))) := k2.trans ((Keep.of s4).trans Keep.upd)
  have hL5 : (upd H4 x (.ins CT dx (tF3 fx 0 0))) l = some (.lst (vS [sizeT fx, seatT fx, wd fx.d, figS fx.pl, figS fx.tr])) := by rw [upd_ne nlx]; exact s4 _ _ hL3
  have hx5 : (upd H4 x (.ins CT dx (tF3 fx 0 0))) x = some (.ins CT dx (tF3 fx 0 0)) := upd_same
  refine fromH (H := upd H4 x (.ins CT dx (tF3 fx 0 0))) ?_ ?_
  · first | rfl | exact upd_upd | (rw [upd_upd]; rfl)
  revert k4 hL5 hx5
  generalize upd H4 x (.ins CT dx (tF3 fx 0 0)) = H5
  intro k4 hL5 hx5
  refine ⟨_, rfl, l, _, 2, .str (wd fx.d), rfl, rfl, SqL.of hL5, rfl, wd fx.d, rfl, fun i e y dy H6 s6 hy h6 => ?_, fun z => absurd (mem_wd _) z⟩
  have ei := wd_inj _ _ e
  subst ei
  refine ⟨fx.d, y, dy, [], rfl, h6, rfl, y, rfl, _, rfl, x, CT, dx, tF3 fx 0 0, rfl, s6 _ _ hx5, C.cl, C.nD, Nat.lt_of_le_of_lt (tF3_len _ _ _) (by decide), ?_⟩
  have k6 : Keep x H (upd H6 x (.ins CT dx (tF4 fx 0 0))) := k4.trans ((Keep.of s6).trans Keep.upd)
  have hL7 : (upd H6 x (.ins CT dx (tF4 fx 0 0))) l = some (.lst (vS [sizeT fx, seatT fx, wd fx.d, figS fx.pl, figS fx.tr])) := by rw [upd_ne nlx]; exact s6 _ _ hL5
  have hx7 : (upd H6 x (.ins CT dx (tF4 fx 0 0))) x = some (.ins CT dx (tF4 fx 0 0)) := upd_same
  refine fromH (H := upd H6 x (.ins CT dx (tF4 fx 0 0))) ?_ ?_
  · first | rfl | exact upd_upd | (rw [upd_upd]; rfl)
  revert k6 hL7 hx7
  generalize upd H6 x (.ins CT dx (tF4 fx 0 0)) = H7
  intro k6 hL7 hx7
  refine ⟨_, rfl, l, _, 3, .str (figS fx.pl), rfl, rfl, SqL.of hL7, rfl, _, rfl, x, CT, dx, _, _, rfl, hx7, C.cl, C.nH, look4_heights _ _ _, fx.pl, fx.h, rfl, ok.h8, ok.pp, fun po H8 s8 hpo hP8 => ⟨_, rfl, x, CT, dx, tF4 fx po 0, rfl, s8 _ _ hx7, C.cl, C.nP, Nat.lt_of_le_of_lt (tF4_len _ _ _) (by decide), ?_⟩⟩
  have nox : po ≠ x := fun z => by
    rw [z, hx7] at hpo
    cases hpo
  have k8 : Keep x H (upd H8 x (.ins CT dx (tF5 fx po 0))) := k6.trans ((Keep.of s8).trans Keep.upd)
  have hL9 : (upd H8 x (.ins CT dx (tF5 fx po 0))) l = some (.lst (vS [sizeT fx, seatT fx, wd fx.d, figS fx.pl, figS fx.tr])) := by rw [upd_ne nlx]; exact s8 _ _ hL7
  have hP9 : (upd H8 x (.ins CT dx (tF5 fx po 0))) po = some (.tup (vN fx.pl)) := by rw [upd_ne nox]; exact hP8
  have hx9 : (upd H8 x (.ins CT dx (tF5 fx po 0))) x = some (.ins CT dx (tF5 fx po 0)) := upd_same
  refine fromH (H := upd H8 x (.ins CT dx (tF5 fx po 0))) ?_ ?_
  · first | rfl | exact upd_upd | (rw [upd_upd]; rfl)
  revert k8 hL9 hP9 hx9
  generalize upd H8 x (.ins CT dx (tF5 fx po 0)) = H9
  intro k8 hL9 hP9 hx9
  refine ⟨_, rfl, l, _, 4, .str (figS fx.tr), rfl, rfl, SqL.of hL9, rfl, _, rfl, x, CT, dx, _, _, rfl, hx9, C.cl, C.nH, look5_heights _ _ _, fx.tr, fx.h, rfl, ok.h8, ok.pt, fun to H10 s10 hto hT10 => ⟨_, rfl, x, CT, dx, tF5 fx po to, rfl, s10 _ _ hx9, C.cl, C.nT, Nat.lt_of_le_of_lt (tF5_len _ _ _) (by decide), ?_⟩⟩
  have ntx : to ≠ x := fun z => by
    rw [z, hx9] at hto
    cases hto
  refine ⟨_, rfl, _, rfl, x, CT, dx, tF6 fx po to, rfl, upd_same, C.cl, C.nW, Nat.lt_of_le_of_lt (tF6_len _ _ _) (by decide), ?_⟩
  rw [upd_upd]
  refine q po to _ (k8.trans ((Keep.of s10).trans Keep.upd)) upd_same ?_ ?_
  · rw [upd_ne nox]; exact s10 _ _ hP9
  · rw [upd_ne ntx]; exact hT10
end
end My

namespace My
open PySem L2
abbrev sTabText : Stmt := inClass (top 29) 1
abbrev sTabDuty : Stmt := inClass (top 29) 2
abbrev sTabOrder : Stmt := inClass (top 29) 3
abbrev sGamInit : Stmt := inClass (top 30) 0
abbrev sCell : Stmt := top 32
abbrev sMixed : Stmt := top 33
abbrev sOrder : Stmt := top 34
section
variable {P : Program} {w : World} {K : PySem.W.Frag} {mg : Str → Option Value} {base : Heap} {f g : Addr} {fd gd : FuncData}
/-! ### a table's answers -/
def spTText (CT : Addr) : Sp := fun vs H Q _ => ∃ (x : Addr) (f : Fx), vs = [.ref x] ∧ IsTab CT f H x ∧ Q (.str (tabT f)) H
theorem scTText : FnScope ["self"] ["self"] (defScope sTabText) := ⟨rfl, rfl, rfl, by decide +kernel, rfl, by decide +kernel, by decide +kernel⟩
theorem ok_ttext {k : Nat} {CT : Addr} (F : Fun K "text" "Table.text" sTabText f fd) (C : TabC K mg CT) : FnOk P w K mg base CX0 (k + 1) f fd ["self"] (spTText CT) := by
  refine F.ok scTText (fun vs H Q E h => ?_) (fun cdv A outer s H vs Q E hr h => ?_)
  · obtain ⟨x, fx, rfl, _⟩ := h
    rfl
  obtain ⟨x, fx, rfl, ⟨dx, po, to, hx, _, _⟩, q⟩ := h
  refine ⟨_, pss_one (ps_ret (pe_fld (pv 0) rfl)), ?_⟩
  exact ⟨_, rfl, x, CT, dx, _, _, rfl, hx, C.cl, C.nW, look7_written _ _ _, q⟩
def spTDuty (CT : Addr) : Sp := fun vs H Q _ => ∃ (x : Addr) (f : Fx), vs = [.ref x] ∧ IsTab CT f H x ∧ Q (.str (wd f.d)) H
theorem scTDuty : FnScope ["self"] ["self"] (defScope sTabDuty) := ⟨rfl, rfl, rfl, by decide +kernel, rfl, by decide +kernel, by decide +kernel⟩
theorem ok_tduty {k : Nat} {CT : Addr} (F : Fun K "duty" "Table.duty" sTabDuty f fd) (C : TabC K mg CT) : FnOk P w K mg base CX0 (k + 1) f fd ["self"] (spTDuty CT) := by
  refine F.ok scTDuty (fun vs H Q E h => ?_) (fun cdv A outer s H vs Q E hr h => ?_)
  · obtain ⟨x, fx, rfl, _⟩ := h
    rfl
  obtain ⟨x, fx, rfl, ⟨dx, po, to, hx, _, _⟩, q⟩ := h
  refine ⟨_, pss_one (ps_ret (pe_fld (pv 0) rfl)), ?_⟩
  exact ⟨_, rfl, x, CT, dx, _, _, rfl, hx, C.cl, C.nD, look7_duty_word _ _ _, q⟩
def ordOf (f : Fx) (b : Bool) : List Nat := if b then f.tr else f.pl
def spTOrder (CT : Addr) : Sp := fun vs H Q _ => ∃ (x : Addr) (f : Fx) (b : Bool), vs = [.ref x, .bl b] ∧ IsTab CT f H x ∧ ∀ l H', Same H H' → H l = none → H' l = some (.lst (vN (ordOf f b))) → Q (.ref l) H'
theorem scTOrder : FnScope ["self", "is_trump"] ["self", "is_trump"] (defScope sTabOrder) := ⟨rfl, rfl, rfl, by decide +kernel, rfl, by decide +kernel, by decide +kernel⟩
theorem ok_torder {k : Nat} {CT : Addr} (F : Fun K "order" "Table.order" sTabOrder f fd) (C : TabC K mg CT) (mLi : mg "list" = none) : FnOk P w K mg base CX0 (k + 1) f fd ["self", "is_trump"] (spTOrder CT) := by
  refine F.ok scTOrder (fun vs H Q E h => ?_) (fun cdv A outer s H vs Q E hr h => ?_)
  · obtain ⟨x, fx, b, rfl, _⟩ := h
    rfl
  obtain ⟨x, fx, b, rfl, ⟨dx, po, to, hx, hp, ht⟩, q⟩ := h
  refine ⟨_, pss_one (ps_ret (pe_callTy call_list_of rfl mLi PyProof.Rows.boot_list (pa_cons (pe_ifExp (pt_truth (pv 1) (fun _ => rfl)) (pe_fld (pv 0) rfl) (pe_fld (pv 0) rfl)) pa_nil))), ?_⟩
  refine ⟨_, rfl, b, rfl, ?_⟩
  cases b with
  | true => exact iteT ⟨_, rfl, x, CT, dx, _, _, rfl, hx, C.cl, C.nT, look7_trump_order _ _ _, to, _, rfl, .inr (SqT.of ht), fun l hl => q l _ (same_upd hl _) hl upd_same⟩
  | false => exact iteF ⟨_, rfl, x, CT, dx, _, _, rfl, hx, C.cl, C.nP, look7_plain_order _ _ _, po, _, rfl, .inr (SqT.of hp), fun l hl => q l _ (same_upd hl _) hl upd_same⟩
/-! ### Game -/
def spGam (CG : Addr) : Sp := fun vs H Q _ => ∃ (g dg x : Addr) (tv : V), vs = [.ref g, .ref x, tv] ∧ H g = some (.ins CG dg []) ∧ Q .non (upd H g (.ins CG dg (gamF x tv)))
theorem scGam : FnScope ["self", "table", "trump"] ["self", "table", "trump"] (defScope sGamInit) := ⟨rfl, rfl, rfl, by decide +kernel, rfl, by decide +kernel, by decide +kernel⟩
theorem ok_gam {k : Nat} {CG : Addr} (F : FunD K "__init__" "Game.__init__" sGamInit f fd) (C : GamC K mg CG) : FnOk P w K mg base CX0 (k + 1) f fd ["self", "table", "trump"] (spGam CG) := by
  refine F.ok scGam (fun vs H Q E h => ?_) (fun cdv A outer s H vs Q E hr h => ?_)
  · obtain ⟨g, dg, x, tv, rfl, _⟩ := h
    rfl
  obtain ⟨g, dg, x, tv, rfl, hg, q⟩ := h
  refine ⟨_, pss_cons (ps_fld (pv 0) (pv 1) rfl) (pss_one (ps_fld (pv 0) (pv 2) rfl)), ?_⟩
  refine ⟨_, rfl, _, rfl, g, CG, dg, [], rfl, hg, C.cl, C.nT, by decide, ?_⟩
  refine ⟨_, rfl, _, rfl, g, CG, dg, putF "table" (.ref x) [], rfl, upd_same, C.cl, C.nU, Nat.lt_of_le_of_lt (length_putF _ _ _) (by decide), ?_⟩
  rw [upd_upd]
  exact q
/-! ### the law's own drawings -/
def spCell (K : PySem.W.Frag) : Sp := fun vs H Q _ => ∃ (a : Addr) (ns : List Int) (k : Nat), vs = [.ref a, .int (k : Nat)] ∧ SqL K H a (ns.map V.int) ∧ k ≤ 1000 ∧ ∀ z : Int, Q (.int z) H
abbrev pCell : List Str := ["_law_script", "_law_k"]
theorem scCell : FnScope ["_law_script", "_law_k", "_law_number_here"] pCell (defScope sCell) := ⟨rfl, rfl, rfl, by decide +kernel, rfl, by decide +kernel, by decide +kernel⟩
theorem ok_cell {k : Nat} (F : Fun K "_law_cell" "_law_cell" sCell f fd) (ml : mg "len" = none) : FnOk P w K mg base CX0 (k + 1) f fd pCell (spCell K) := by
  refine F.ok scCell (fun vs H Q E h => ?_) (fun cdv A outer s H vs Q E hr h => ?_)
  · obtain ⟨a, ns, k, rfl, _⟩ := h
    rfl
  obtain ⟨a, ns, j, rfl, hS, h1, q⟩ := h
  refine ⟨_, pss_cons (ps_if (pt_cmpR op_lt (pv 1) (pe_callB call_len_seq rfl ml PySem.boot_len (pa_cons (pv 0) pa_nil)) (nomark _)) (pss_one (ps_ret (pe_ix ix_list (pv 0) (pv 1) (fun _ _ => rfl)))) pss_nil)
    (pss_cons (ps_set (i := 2) scCell.nd rfl (Or.inl rfl) (pe_op op_add (pe_op op_mul (pv 1) pe_int) pe_int))
    (pss_cons (ps_if (pt_cmpR op_gt (pe_callB call_len_seq rfl ml PySem.boot_len (pa_cons (pv 0) pa_nil)) pe_int (nomark _))
      (pss_one (ps_set (i := 2) scCell.nd rfl (Or.inl rfl) (pe_op op_mod (pe_op op_add (pe_op op_mul (pe_ix ix_list (pv 0) (pe_op op_mod (pe_op op_mul (pv 1) pe_int) (pe_callB call_len_seq rfl ml PySem.boot_len (pa_cons (pv 0) pa_nil))) (fun _ _ => rfl)) pe_int) (pe_op op_mul (pv 1) pe_int)) pe_int))) pss_nil)
    (pss_one (ps_ret (pe_op op_mod (pe_op op_mul (pv 2) (pv 2)) pe_int))))), ?_⟩
  have hl : (ns.map V.int).length = ns.length := List.length_map _
  refine ⟨_, rfl, _, rfl, a, _, rfl, .inl hS, _, _, rfl, rfl, _, rfl, ite2 (fun c => ?_) (fun c => ?_)⟩
  · have c' : ((j : Nat) : Int) < (((ns.map V.int).length : Nat) : Int) := of_decide_eq_true c
    have hj : j < ns.length := by rw [hl] at c'; omega
    exact ⟨_, rfl, _, rfl, a, _, _, _, rfl, rfl, hS, atI_nat (by rw [List.getElem?_map, List.getElem?_eq_getElem hj]; rfl), q _⟩
  refine ⟨_, rfl, _, _, rfl, rfl, .inr ⟨by decide, by decide⟩, _, _, rfl, rfl, ?_⟩
  refine ⟨_, rfl, a, _, rfl, .inl hS, _, _, rfl, rfl, _, rfl, ?_⟩
  refine cut_if (fun σ H' => H' = H ∧ ∃ z : Int, 0 ≤ z ∧ z < 4294967296 ∧ σ = [some (.ref a), some (.int (j : Nat)), some (.int z)]) (fun c D' _ nx => ?_) (fun c D' _ nx => ?_) (fun σ H' z => ?_)
  · have c' : (((ns.map V.int).length : Nat) : Int) > 0 := of_decide_eq_true c
    rw [hl] at c'
    obtain ⟨v, hv⟩ := item_at (ns := ns) (k := (j : Int) * 7) (by omega)
    refine ⟨_, rfl, _, rfl, _, _, rfl, rfl, .inr ⟨by decide, by decide⟩, _, rfl, a, _, rfl, .inl hS, _, _, rfl, rfl, (by rw [hl]; omega), a, _, _, _, rfl, rfl, hS, hv, _, _, rfl, rfl, .inr ⟨by decide, by decide⟩, _, rfl, _, _, rfl, rfl, .inr ⟨by decide, by decide⟩, _, _, rfl, rfl, _, _, rfl, rfl, (show (0 : Int) < 2147483647 by decide), ?_⟩
    refine nx _ _ ⟨rfl, _, Int.emod_nonneg _ (by decide), ?_, rfl⟩
    have := Int.emod_lt_of_pos (v * 48271 + (j : Int) * 7919) (show (0 : Int) < 2147483647 by decide)
    omega
  · exact nx _ _ ⟨rfl, (j : Int) * 7919 + 5, by omega, by omega, rfl⟩
  · obtain ⟨rfl, z, z0, z1, rfl⟩ := z
    exact ⟨_, rfl, _, rfl, _, _, rfl, rfl, .inl ⟨by omega, by omega⟩, _, _, rfl, rfl, (show (0 : Int) < 2147483629 by decide), q _⟩
def spMixed : Sp := fun vs H Q _ => ∃ (c : Int) (k : Nat), vs = [.int c, .int (k : Nat)] ∧ k ≤ 1000 ∧ ∀ z : Int, 0 ≤ z → Q (.int z) H
theorem scMixed : FnScope ["_law_cell_here", "_law_k", "_law_number_here"] ["_law_cell_here", "_law_k"] (defScope sMixed) := ⟨rfl, rfl, rfl, by decide +kernel, rfl, by decide +kernel, by decide +kernel⟩
theorem ok_mixed {k : Nat} (F : Fun K "_law_mixed" "_law_mixed" sMixed f fd) : FnOk P w K mg base CX0 (k + 1) f fd ["_law_cell_here", "_law_k"] spMixed := by
  refine F.ok scMixed (fun vs H Q E h => ?_) (fun cdv A outer s H vs Q E hr h => ?_)
  · obtain ⟨c, k, rfl, _⟩ := h
    rfl
  obtain ⟨c, j, rfl, h1, q⟩ := h
  refine ⟨_, pss_cons (ps_set (i := 2) scMixed.nd rfl (Or.inl rfl) (pe_op op_mod (pe_op op_mul (pe_op op_add (pe_op op_mod (pv 0) pe_int) pe_int) (pe_op op_add (pe_op op_mul (pv 1) (pv 1)) pe_int)) pe_int))
    (pss_one (ps_ret (pe_op op_mod (pe_op op_mul (pv 2) (pe_op op_add (pv 2) (pv 1))) pe_int))), ?_⟩
  have a0 := Int.emod_nonneg c (show (2147483647 : Int) ≠ 0 by decide)
  have a1 := Int.emod_lt_of_pos c (show (0 : Int) < 2147483647 by decide)
  refine ⟨_, rfl, _, _, rfl, rfl, (show (0 : Int) < 2147483647 by decide), _, _, rfl, rfl, _, rfl, _, rfl, _, _, rfl, rfl, .inl ⟨by omega, by omega⟩, _, _, rfl, rfl, _, _, rfl, rfl, .inl ⟨by omega, by omega⟩, _, _, rfl, rfl, (show (0 : Int) < 2147483629 by decide), ?_⟩
  have b0 := Int.emod_nonneg ((c % 2147483647 + 1) * ((j : Int) * (j : Int) + 48271)) (show (2147483629 : Int) ≠ 0 by decide)
  have b1 := Int.emod_lt_of_pos ((c % 2147483647 + 1) * ((j : Int) * (j : Int) + 48271)) (show (0 : Int) < 2147483629 by decide)
  exact ⟨_, rfl, _, rfl, _, rfl, _, _, rfl, rfl, _, _, rfl, rfl, .inl ⟨by omega, by omega⟩, _, _, rfl, rfl, (show (0 : Int) < 2147483587 by decide), q _ (Int.emod_nonneg _ (by decide))⟩
def spOrder (K : PySem.W.Frag) : Sp := fun vs H Q _ => ∃ (c : Int) (h : Nat), vs = [.int c, .int (h : Nat)] ∧ 1 ≤ h ∧ h ≤ 8 ∧ ∀ l ls H', Same H H' → H l = none → H' l = some (.lst (vN ls)) → ls.Perm (List.range h) → Q (.ref l) H'
abbrev nOrder : List Str := ["_law_cell_here", "_law_heights", "_law_spare", "_law_order_here", "_law_k"]
theorem scOrder : FnScope nOrder ["_law_cell_here", "_law_heights"] (defScope sOrder) := ⟨rfl, rfl, rfl, by decide +kernel, rfl, by decide +kernel, by decide +kernel⟩
theorem erase_map {α β : Type} (f : α → β) : ∀ (l : List α) (i : Nat), (l.map f).eraseIdx i = (l.eraseIdx i).map f
  | [], i => rfl
  | x :: l, 0 => rfl
  | x :: l, i + 1 => by
    show f x :: (l.map f).eraseIdx i = f x :: (l.eraseIdx i).map f
    rw [erase_map f l i]
theorem range_vN (h : Nat) : ((List.range h).filter fun _ => true).map (fun i => V.int ((0 : Int) + (i : Nat))) = vN (List.range h) := by
  rw [List.filter_eq_self.mpr (fun _ _ => rfl)]
  unfold vN
  refine List.map_congr_left fun i _ => ?_
  rw [Int.zero_add]
theorem ok_order {k : Nat} (F : Fun K "_law_order" "_law_order" sOrder f fd) (mr : mg "range" = none) : FnOk P w K mg base CX0 (k + 1) f fd ["_law_cell_here", "_law_heights"] (spOrder K) := by
  refine F.ok scOrder (fun vs H Q E h => ?_) (fun cdv A outer s H vs Q E hr h => ?_)
  · obtain ⟨c, h, rfl, _⟩ := h
    rfl
  obtain ⟨c, h, rfl, h1, h8, q⟩ := h
  refine ⟨_, pss_cons (ps_setcomp (i := 2) ["_law_height"] [none] rfl scOrder.nd rfl (Or.inl rfl) (Blk.by (sc := defScope sOrder) (N0 := nOrder) rfl rfl (by decide +kernel)) (pi_range1 rfl mr (pa_cons (pv 1) pa_nil)) (fun C s₀ H₀ ex => pg_name (i := 0) (show (["_law_height"] : List Str).Nodup by decide +kernel) rfl (Or.inl rfl)) (fun C s₀ H₀ ex => pf_nil) (fun C s₀ H₀ ex => pv 0))
    (pss_cons (ps_set (i := 3) scOrder.nd rfl (Or.inl rfl) (pe_lst pa_nil))
    (pss_cons (ps_for PassesOwn.never rfl (pi_range1 rfl mr (pa_cons (pv 1) pa_nil)) (pg_name (i := 4) scOrder.nd rfl (Or.inl rfl))
      (pss_cons (ps_expr (pe_bm PySem.F.plainAttrs_list PySem.F.slot_list_append PySem.F.type_list_append mt_append (pv 3) (pa_cons (pe_bm PySem.F.plainAttrs_list PySem.F.slot_list_pop PySem.F.type_list_pop mt_popAt (pv 2) (pa_cons (pe_op op_mod (pv 0) (pe_op op_sub (pv 1) (pv 4))) pa_nil)) pa_nil)))
      (pss_one (ps_set (i := 0) scOrder.nd rfl (Or.inl rfl) (pe_op op_fdiv (pv 0) (pe_op op_sub (pv 1) (pv 4)))))))
    (pss_one (ps_ret (pv 3))))), ?_⟩
  refine ⟨_, rfl, (h : Int), rfl, by omega, by omega, ?_⟩
  refine comp_range (n := h) (lo := 0) (fun _ => true) (fun i => .int ((0 : Int) + (i : Nat))) (fits3 _ (by omega)) (fun i H2 hi sm R hR => hR H2 (Same.refl H2)) (fun i H2 hi hp sm R hR => ⟨_, rfl, hR H2 (Same.refl H2)⟩) (fun l1 H1 s1 hl1 hL1 => ?_)
  rw [range_vN] at hL1
  refine ⟨fits3 0 (by decide), fun l2 hl2 => ?_⟩
  have n12 : l1 ≠ l2 := ne_of_none hL1 hl2
  refine ⟨_, rfl, (h : Int), rfl, by omega, by omega, ?_⟩
  refine for_range (n := h) (fun i σ H' => Same H H' ∧ ∃ (c : Int) (sp od : List Nat) (x4 : Option V), σ = [some (.int c), some (.int (h : Nat)), some (.ref l1), some (.ref l2), x4] ∧ H' l1 = some (.lst (vN sp)) ∧ H' l2 = some (.lst (vN od)) ∧ (od ++ sp).Perm (List.range h) ∧ sp.length + i = h ∧ od.length = i)
    ⟨s1.trans (same_upd hl2 _), c, List.range h, [], _, rfl, same_upd hl2 _ _ _ hL1, upd_same, List.Perm.refl _, List.length_range, rfl⟩ (fun i σ H2 hi z => ?_) (fun σ H2 z => ?_)
  · obtain ⟨s2, c, sp, od, x4, rfl, g1, g2, pm, hsp, hod⟩ := z
    have hd : (0 : Int) < ((h : Nat) : Int) - (0 + (i : Nat)) := by omega
    have m0 := Int.emod_nonneg c (show ((h : Nat) : Int) - (0 + (i : Nat)) ≠ 0 by omega)
    have m1 := Int.emod_lt_of_pos c hd
    obtain ⟨j, hj⟩ := Int.eq_ofNat_of_zero_le m0
    have hj2 : j < sp.length := by omega
    have ex : (vN sp)[j]? = some (.int ((sp[j] : Nat) : Int)) := by
      unfold vN
      rw [List.getElem?_map, List.getElem?_eq_getElem hj2]
      rfl
    refine ⟨_, rfl, .inl ⟨rfl, _, SqL.of g2⟩, _, rfl, .inl ⟨rfl, _, SqL.of g1⟩, _, rfl, _, rfl, _, rfl, _, _, rfl, rfl, _, _, rfl, rfl, hd, l1, vN sp, _, j, _, rfl, rfl, g1, by omega, by omega, (by rw [hj, vN_len, seqIndex_of (by omega) (by omega)]; rfl), ex, ?_⟩
    refine ⟨l2, vN od, _, rfl, rfl, (by rw [upd_ne n12.symm]; exact g2), (by rw [vN_len]; have := fits3 100 (by decide); omega), ?_⟩
    refine ⟨_, rfl, _, rfl, _, rfl, _, _, rfl, rfl, _, _, rfl, rfl, ⟨hd, by omega⟩, ?_⟩
    have e1 : (vN sp).eraseIdx j = vN (sp.eraseIdx j) := by exact erase_map _ _ _
    have e2 : vN od ++ [.int ((sp[j] : Nat) : Int)] = vN (od ++ [sp[j]]) := by unfold vN; rw [List.map_append]; rfl
    refine ⟨?_, _, sp.eraseIdx j, od ++ [sp[j]], _, rfl, ?_, ?_, ?_, ?_, ?_⟩
    · intro b o hb
      have hb1 : b ≠ l1 := fun z => by rw [z, hl1] at hb; cases hb
      have hb2 : b ≠ l2 := fun z => by rw [z, s1.free hl2] at hb; cases hb
      rw [upd_ne hb2, upd_ne hb1]
      exact s2 _ _ hb
    · rw [upd_ne n12, upd_same, e1]
    · rw [upd_same, e2]
    · rw [List.append_assoc]
      exact ((perm_erase sp j sp[j] (List.getElem?_eq_getElem hj2)).append_left od).symm.trans pm
    · rw [List.length_eraseIdx, if_pos hj2]
      omega
    · rw [List.length_append]
      simp [hod]
  · obtain ⟨s2, c, sp, od, x4, rfl, g1, g2, pm, hsp, hod⟩ := z
    have e : sp = [] := List.eq_nil_of_length_eq_zero (by omega)
    subst e
    rw [List.append_nil] at pm
    exact ⟨_, rfl, q l2 od H2 s2 (s1.free hl2) g2 pm⟩
end
end My

namespace My
open PySem L2
abbrev sTable : Stmt := top 35
abbrev sText : Stmt := top 36
section
variable {P : Program} {w : World} {K : PySem.W.Frag} {mg : Str → Option Value} {base : Heap} {f g : Addr} {fd gd : FuncData}
/-! ### a table's facts, drawn, and their text -/
def IsFx (f : Fx) (H : Hp) (l : Addr) : Prop := ∃ pl tr, H l = some (.lst [.int (f.s : Nat), .int (f.h : Nat), .int (f.n : Nat), .str (wd f.d), .ref pl, .ref tr]) ∧ H pl = some (.lst (vN f.pl)) ∧ H tr = some (.lst (vN f.tr))
theorem IsFx.same {f : Fx} {H H' : Hp} {l : Addr} (h : IsFx f H l) (s : Same H H') : IsFx f H' l := by
  obtain ⟨pl, tr, a, b, c⟩ := h
  exact ⟨pl, tr, s _ _ a, s _ _ b, s _ _ c⟩
def spTable (K : PySem.W.Frag) : Sp := fun vs H Q _ => ∃ (a : Addr) (ns : List Int), vs = [.ref a] ∧ SqL K H a (ns.map V.int) ∧ ∀ l f H', f.Ok → Same H H' → H l = none → IsFx f H' l → Q (.ref l) H'
abbrev nTable : List Str := ["_law_script", "_law_cell_here", "_law_heights", "_law_plain", "_law_trump_here", "_law_word"]
theorem scTable : FnScope nTable ["_law_script"] (defScope sTable) := ⟨rfl, rfl, rfl, by decide +kernel, rfl, by decide +kernel, by decide +kernel⟩
theorem ok_table {k : Nat} {f1 f2 f3 : Addr} {d1 d2 d3 : FuncData} (F : Fun K "_law_table" "_law_table" sTable f fd) (LC : Lib P w K mg base k "_law_cell" pCell (spCell K) f1 d1) (LX : Lib P w K mg base k "_law_mixed" ["_law_cell_here", "_law_k"] spMixed f2 d2)
    (LO : Lib P w K mg base k "_law_order" ["_law_cell_here", "_law_heights"] (spOrder K) f3 d3) (mr : mg "range" = none) : FnOk P w K mg base CX0 (k + 1) f fd ["_law_script"] (spTable K) := by
  refine F.ok scTable (fun vs H Q E h => ?_) (fun cdv A outer s H vs Q E hr h => ?_)
  · obtain ⟨a, ns, rfl, _⟩ := h
    rfl
  obtain ⟨a, ns, rfl, hS, q⟩ := h
  refine ⟨_, pss_cons (ps_set (i := 1) scTable.nd rfl (Or.inl rfl) (pe_call LC.ok hr rfl LC.mg LC.kp LC.bd .nil pass0 (pa_cons (pv 0) (pa_cons pe_int pa_nil))))
    (pss_cons (ps_set (i := 2) scTable.nd rfl (Or.inl rfl) (pe_op op_add pe_int (pe_op op_mod (pe_op op_fdiv (pv 1) pe_int) pe_int)))
    (pss_cons (ps_setcomp (i := 3) ["_law_height"] [none] rfl scTable.nd rfl (Or.inl rfl) (Blk.by (sc := defScope sTable) (N0 := nTable) rfl rfl (by decide +kernel)) (pi_range1 rfl mr (pa_cons (pv 2) pa_nil)) (fun C s₀ H₀ ex => pg_name (i := 0) (show (["_law_height"] : List Str).Nodup by decide +kernel) rfl (Or.inl rfl)) (fun C s₀ H₀ ex => pf_nil) (fun C s₀ H₀ ex => pv 0))
    (pss_cons (ps_if (pt_cmpR op_gt (pe_op op_mod (pe_op op_fdiv (pv 1) pe_int) pe_int) pe_int (nomark _)) (pss_one (ps_set (i := 3) scTable.nd rfl (Or.inl rfl) (pe_call LO.ok hr rfl LO.mg LO.kp LO.bd .nil pass0 (pa_cons (pe_call LX.ok hr rfl LX.mg LX.kp LX.bd .nil pass0 (pa_cons (pv 1) (pa_cons pe_int pa_nil))) (pa_cons (pv 2) pa_nil))))) pss_nil)
    (pss_cons (ps_set (i := 4) scTable.nd rfl (Or.inl rfl) (pe_call LO.ok hr rfl LO.mg LO.kp LO.bd .nil pass0 (pa_cons (pe_call LX.ok hr rfl LX.mg LX.kp LX.bd .nil pass0 (pa_cons (pv 1) (pa_cons pe_int pa_nil))) (pa_cons (pv 2) pa_nil))))
    (pss_cons (ps_set (i := 5) scTable.nd rfl (Or.inl rfl) (pe_ix ix_list (pe_lst (pa_cons pe_str (pa_cons pe_str (pa_cons pe_str (pa_cons pe_str pa_nil))))) (pe_op op_mod (pe_op op_fdiv (pv 1) pe_int) pe_int) (fun _ _ => rfl)))
    (pss_one (ps_ret (pe_lst (pa_cons (pe_op op_add pe_int (pe_op op_mod (pv 1) pe_int)) (pa_cons (pv 2) (pa_cons (pe_op op_add pe_int (pe_op op_mod (pe_op op_fdiv (pv 1) pe_int) pe_int)) (pa_cons (pv 5) (pa_cons (pv 3) (pa_cons (pv 4) pa_nil)))))))))))))), ?_⟩
  refine ⟨_, rfl, a, ns, 0, rfl, hS, by decide, fun c => ?_⟩
  refine ⟨_, rfl, _, _, rfl, rfl, ⟨by decide, by decide⟩, _, _, rfl, rfl, (show (0 : Int) < 8 by decide), _, _, rfl, rfl, ?_⟩
  have a0 := Int.emod_nonneg (c / 8) (show (8 : Int) ≠ 0 by decide)
  have a1 := Int.emod_lt_of_pos (c / 8) (show (0 : Int) < 8 by decide)
  obtain ⟨h, eh, h1, h8⟩ : ∃ h : Nat, 1 + c / 8 % 8 = ((h : Nat) : Int) ∧ 1 ≤ h ∧ h ≤ 8 := ⟨(1 + c / 8 % 8).toNat, by omega, by omega, by omega⟩
  dsimp only
  rw [eh]
  refine ⟨_, rfl, (h : Int), rfl, by omega, by omega, ?_⟩
  refine comp_range (n := h) (lo := 0) (fun _ => true) (fun i => .int ((0 : Int) + (i : Nat))) (fits3 _ (by omega)) (fun i H2 hi sm R hR => hR H2 (Same.refl H2)) (fun i H2 hi hp sm R hR => ⟨_, rfl, hR H2 (Same.refl H2)⟩) (fun l1 H1 s1 hl1 hL1 => ?_)
  rw [range_vN] at hL1
  refine ⟨_, rfl, _, _, rfl, rfl, ⟨by decide, by decide⟩, _, _, rfl, rfl, (show (0 : Int) < 4 by decide), _, _, rfl, rfl, _, rfl, ?_⟩
  refine cut_if (fun σ H' => Same H H' ∧ ∃ (l : Addr) (ls : List Nat), ls.Perm (List.range h) ∧ H' l = some (.lst (vN ls)) ∧ σ = [some (.ref a), some (.int c), some (.int (h : Nat)), some (.ref l), none, none]) (fun _ D' _ nx => ?_) (fun _ D' _ nx => nx _ _ ⟨s1, l1, _, List.Perm.refl _, hL1, rfl⟩) (fun σ H2 z => ?_)
  · refine ⟨_, rfl, c, 1, rfl, by decide, fun z hz => ⟨_, rfl, z, h, rfl, h1, h8, fun l ls H2 s2 hl hL pm => nx _ _ ⟨s1.trans s2, l, ls, pm, hL, rfl⟩⟩⟩
  obtain ⟨s2, lp, ls, pp, hP, rfl⟩ := z
  refine ⟨_, rfl, c, 2, rfl, by decide, fun z hz => ⟨_, rfl, z, h, rfl, h1, h8, fun lt lts H3 s3 hlt hT pt => ?_⟩⟩
  refine ⟨fits3 4 (by decide), fun lw hlw => ?_⟩
  have s4 := same_upd hlw (.lst (vS wds))
  obtain ⟨v, hv, ev⟩ := pickA (vS wds) 4 rfl (by decide) (c / 256)
  obtain ⟨t, ht, rfl⟩ := List.mem_map.mp hv
  obtain ⟨d, rfl⟩ := wd_mem ht
  refine ⟨_, rfl, _, _, rfl, rfl, ⟨by decide, by decide⟩, _, _, rfl, rfl, (show (0 : Int) < 4 by decide), lw, _, _, _, rfl, rfl, SqL.of upd_same, ev, ?_⟩
  refine ⟨_, rfl, _, _, rfl, rfl, (show (0 : Int) < 4 by decide), _, _, rfl, rfl, _, rfl, _, rfl, _, _, rfl, rfl, ⟨by decide, by decide⟩, _, _, rfl, rfl, (show (0 : Int) < 2 by decide), _, _, rfl, rfl, _, rfl, _, rfl, _, rfl, fits3 6 (by decide), fun l hl => ?_⟩
  have b0 := Int.emod_nonneg c (show (4 : Int) ≠ 0 by decide)
  have b1 := Int.emod_lt_of_pos c (show (0 : Int) < 4 by decide)
  have d0 := Int.emod_nonneg (c / 4) (show (2 : Int) ≠ 0 by decide)
  have d1 := Int.emod_lt_of_pos (c / 4) (show (0 : Int) < 2 by decide)
  obtain ⟨sN, es, s1', s4'⟩ : ∃ n : Nat, 1 + c % 4 = ((n : Nat) : Int) ∧ 1 ≤ n ∧ n ≤ 4 := ⟨(1 + c % 4).toNat, by omega, by omega, by omega⟩
  obtain ⟨nN, en, n34⟩ : ∃ n : Nat, 3 + c / 4 % 2 = ((n : Nat) : Int) ∧ (n = 3 ∨ n = 4) := ⟨(3 + c / 4 % 2).toNat, by omega, by omega⟩
  have sA := s2.trans (s3.trans s4)
  have s5 := same_upd hl (.lst [.int (1 + c % 4), .int (h : Nat), .int (3 + c / 4 % 2), .str (wd d), .ref lp, .ref lt])
  refine q l ⟨sN, h, nN, d, ls, lts⟩ _ ⟨s1', s4', h1, h8, n34, pp, pt⟩ (sA.trans s5) (sA.free hl) ⟨lp, lt, ?_, s5 _ _ (s4 _ _ (s3 _ _ hP)), s5 _ _ (s4 _ _ hT)⟩
  show (upd _ l (.lst [.int (1 + c % 4), .int (h : Nat), .int (3 + c / 4 % 2), .str (wd d), .ref lp, .ref lt])) l = _
  rw [upd_same, es, en]
def spText (K : PySem.W.Frag) : Sp := fun vs H Q _ => ∃ (l : Addr) (f : Fx), vs = [.ref l] ∧ f.Ok ∧ IsFx f H l ∧ ∀ H', Same H H' → Q (.str (tabT f)) H'
abbrev nText : List Str := ["_law_facts", "_law_suits", "_law_heights", "_law_seats", "_law_word", "_law_plain", "_law_trump_here", "_law_line"]
theorem scText : FnScope nText ["_law_facts"] (defScope sText) := ⟨rfl, rfl, rfl, by decide +kernel, rfl, by decide +kernel, by decide +kernel⟩
theorem ok_text {k : Nat} (F : Fun K "_law_text" "_law_text" sText f fd) (ms : mg "str" = none) : FnOk P w K mg base CX0 (k + 1) f fd ["_law_facts"] (spText K) := by
  refine F.ok scText (fun vs H Q E h => ?_) (fun cdv A outer s H vs Q E hr h => ?_)
  · obtain ⟨l, f, rfl, _⟩ := h
    rfl
  obtain ⟨l, fx, rfl, ok, ⟨pl, tr, hL, hP, hT⟩, q⟩ := h
  refine ⟨_, pss_cons (ps_asg (pv 0) (pg_lst rfl (pgs_cons (pg_name (i := 1) scText.nd rfl (Or.inl rfl)) (pgs_cons (pg_name (i := 2) scText.nd rfl (Or.inl rfl)) (pgs_cons (pg_name (i := 3) scText.nd rfl (Or.inl rfl)) (pgs_cons (pg_name (i := 4) scText.nd rfl (Or.inl rfl)) (pgs_cons (pg_name (i := 5) scText.nd rfl (Or.inl rfl)) (pgs_cons (pg_name (i := 6) scText.nd rfl (Or.inl rfl)) pgs_nil))))))))
    (pss_cons (ps_set (i := 7) scText.nd rfl (Or.inl rfl) (pe_op op_add_str (pe_op op_add_str (pe_op op_add_str (pe_op op_add_str (pe_op op_add_str pe_str (pe_callTy call_str_int rfl ms PyProof.Rows.boot_str (pa_cons (pv 1) pa_nil))) pe_str) (pe_callTy call_str_int rfl ms PyProof.Rows.boot_str (pa_cons (pv 2) pa_nil))) pe_str) (pe_callTy call_str_int rfl ms PyProof.Rows.boot_str (pa_cons (pv 3) pa_nil))))
    (pss_cons (ps_set (i := 7) scText.nd rfl (Or.inl rfl) (pe_op op_add_str (pe_op op_add_str (pe_op op_add_str (pe_op op_add_str (pv 7) pe_str) (pv 4)) pe_str) (pe_bm PySem.F.plainAttrs_str PySem.F.slot_str_join PySem.F.type_str_join mt_join pe_str (pa_cons (pe_comp ["_law_height"] [none] rfl (Blk.by (sc := defScope sText) (N0 := nText) rfl rfl (by decide +kernel)) (pi_list (pv 5)) (fun C s₀ H₀ ex => pg_name (i := 0) (show (["_law_height"] : List Str).Nodup by decide +kernel) rfl (Or.inl rfl)) (fun C s₀ H₀ ex => pf_nil)
        (fun C s₀ H₀ ex => pe_callTy call_str_int rfl ms PyProof.Rows.boot_str (pa_cons (pe_op op_add (pv 0) pe_int) pa_nil))) pa_nil))))
    (pss_one (ps_ret (pe_op op_add_str (pe_op op_add_str (pv 7) pe_str) (pe_bm PySem.F.plainAttrs_str PySem.F.slot_str_join PySem.F.type_str_join mt_join pe_str (pa_cons (pe_comp ["_law_height"] [none] rfl (Blk.by (sc := defScope sText) (N0 := nText) rfl rfl (by decide +kernel)) (pi_list (pv 6)) (fun C s₀ H₀ ex => pg_name (i := 0) (show (["_law_height"] : List Str).Nodup by decide +kernel) rfl (Or.inl rfl)) (fun C s₀ H₀ ex => pf_nil)
        (fun C s₀ H₀ ex => pe_callTy call_str_int rfl ms PyProof.Rows.boot_str (pa_cons (pe_op op_add (pv 0) pe_int) pa_nil))) pa_nil))))))), ?_⟩
  refine ⟨_, rfl, l, _, rfl, SqL.of hL, rfl, _, _, rfl, _, _, rfl, _, _, rfl, _, _, rfl, _, _, rfl, _, _, rfl, rfl, ?_⟩
  have sm : ∀ i : Nat, i ≤ 8 → (((i : Nat) : Int).natAbs).log2 < 1920 := fun i hi => by
    have : ((i : Nat) : Int).natAbs = i := rfl
    rw [this]
    exact Nat.lt_of_le_of_lt (Nat.log2_le_self i) (by omega)
  have s4 := ok.s4
  have h8 := ok.h8
  have n4 : fx.n ≤ 8 := by rcases ok.n34 with e | e <;> omega
  have one : ∀ x : Nat, (⟨#[x]⟩ : Str).length ≤ 1 := fun _ => Nat.le_refl 1
  have w1 : ("pack " : Str).length ≤ 5 := by decide +kernel
  have w2 : ("x" : Str).length ≤ 1 := by decide +kernel
  have w3 : (" seats " : Str).length ≤ 7 := by decide +kernel
  have w4 : (" duty " : Str).length ≤ 6 := by decide +kernel
  have w5 : (" plain " : Str).length ≤ 7 := by decide +kernel
  have w6 : (" trump " : Str).length ≤ 7 := by decide +kernel
  have wl := (wd_len fx.d).2
  refine ⟨_, rfl, _, rfl, sm _ (by omega), ?_⟩
  rw [str_num _ (by omega)]
  refine ⟨_, _, rfl, rfl, fitsAB w1 (one _) (by decide), _, _, rfl, rfl, fitsAB (app_le w1 (one _)) w2 (by decide), _, rfl, _, rfl, sm _ h8, ?_⟩
  rw [str_num _ h8]
  refine ⟨_, _, rfl, rfl, fitsAB (app_le (app_le w1 (one _)) w2) (one _) (by decide), _, _, rfl, rfl, fitsAB (app_le (app_le (app_le w1 (one _)) w2) (one _)) w3 (by decide), _, rfl, _, rfl, sm _ n4, ?_⟩
  rw [str_num _ n4]
  refine ⟨_, _, rfl, rfl, fitsAB (app_le (app_le (app_le (app_le w1 (one _)) w2) (one _)) w3) (one _) (by decide), ?_⟩
  have L1 := app_le (app_le (app_le (app_le (app_le w1 (one (48 + fx.s))) w2) (one (48 + fx.h))) w3) (one (48 + fx.n))
  refine ⟨_, rfl, _, _, rfl, rfl, fitsAB L1 w4 (by decide), _, rfl, _, _, rfl, rfl, fitsAB (app_le L1 w4) wl (by decide), _, _, rfl, rfl, fitsAB (app_le (app_le L1 w4) wl) w5 (by decide), ?_⟩
  have L2 := app_le (app_le (app_le L1 w4) wl) w5
  have num : ∀ (ls : List Nat) (x : V), ls.Perm (List.range fx.h) → x ∈ vN ls → ∃ i : Nat, i + 1 ≤ 8 ∧ x = .int (i : Nat) := fun ls x pm hx => by
    obtain ⟨i, hi, rfl⟩ := List.mem_map.mp hx
    have := perm_lt pm i hi
    exact ⟨i, by omega, rfl⟩
  refine ⟨rfl, _, rfl, pl, rfl, ⟨_, SqL.of hP⟩, comp_list (K := K) (xs := vN fx.pl) (fun _ => true) sgV (SqL.of hP) (by rw [vN_len, perm_len ok.pp]; exact fits3 _ (by omega)) (fun x H3 hx s3 R hR => hR H3 (Same.refl H3)) (fun x H3 hx hp s3 R hR => ?_) (fun l1 H1 s1 hl1 hL1 => ?_)⟩
  · obtain ⟨i, hi, rfl⟩ := num _ x ok.pp hx
    refine ⟨_, rfl, _, _, rfl, rfl, _, rfl, sm (i + 1) hi, ?_⟩
    show R (.str (toString (((i + 1 : Nat) : Nat) : Int))) H3
    rw [str_num _ hi]
    have := hR H3 (Same.refl H3)
    rwa [sgV_int] at this
  rw [sgV_list] at hL1
  have j1 := join_sgn fx.pl
  have jl : (Txt.join "" (fx.pl.map sgn)).length ≤ 8 := by rw [j1, figS_len, perm_len ok.pp]; exact h8
  refine ⟨_, l1, fx.pl.map sgn, rfl, rfl, SqL.of hL1, sgn_sum ok.pp h8, _, _, rfl, rfl, fitsAB L2 jl (by decide), ?_⟩
  refine ⟨_, rfl, _, _, rfl, rfl, fitsAB (app_le L2 jl) w6 (by decide), ?_⟩
  have L3 := app_le (app_le L2 jl) w6
  have hT1 := s1 _ _ hT
  refine ⟨rfl, _, rfl, tr, rfl, ⟨_, SqL.of hT1⟩, comp_list (K := K) (xs := vN fx.tr) (fun _ => true) sgV (SqL.of hT1) (by rw [vN_len, perm_len ok.pt]; exact fits3 _ (by omega)) (fun x H3 hx s3 R hR => hR H3 (Same.refl H3)) (fun x H3 hx hp s3 R hR => ?_) (fun l2 H2 s2 hl2 hL2 => ?_)⟩
  · obtain ⟨i, hi, rfl⟩ := num _ x ok.pt hx
    refine ⟨_, rfl, _, _, rfl, rfl, _, rfl, sm (i + 1) hi, ?_⟩
    show R (.str (toString (((i + 1 : Nat) : Nat) : Int))) H3
    rw [str_num _ hi]
    have := hR H3 (Same.refl H3)
    rwa [sgV_int] at this
  rw [sgV_list] at hL2
  have j2 := join_sgn fx.tr
  have jl2 : (Txt.join "" (fx.tr.map sgn)).length ≤ 8 := by rw [j2, figS_len, perm_len ok.pt]; exact h8
  refine ⟨_, l2, fx.tr.map sgn, rfl, rfl, SqL.of hL2, sgn_sum ok.pt h8, _, _, rfl, rfl, fitsAB L3 jl2 (by decide), ?_⟩
  have et : (("pack " : Str) ++ ⟨#[48 + fx.s]⟩ ++ "x" ++ ⟨#[48 + fx.h]⟩ ++ " seats " ++ ⟨#[48 + fx.n]⟩ ++ " duty " ++ wd fx.d ++ " plain " ++ Txt.join "" (fx.pl.map sgn) ++ " trump " ++ Txt.join "" (fx.tr.map sgn)) = tabT fx := by
    rw [j1, j2]
    exact text_eq fx
  rw [et]
  exact q _ (s1.trans s2)
end
end My

namespace My
open PySem L2
theorem for_zip {K : PySem.W.Frag} {a b : Addr} {xs ys : List V} {g : TG} {tb : TS} {D : Ends} {σ : St} {H : Hp} (hl : xs.length = ys.length) (Pv : Nat → St → Hp → Prop) (h0 : Pv 0 σ H) (hS : ∀ i σ H, Pv i σ H → SqL K H a xs ∧ SqL K H b ys)
    (hs : ∀ i x y p σ H, xs[i]? = some x → ys[i]? = some y → Pv i σ H → H p = none → g (.ref p) σ (upd H p (.tup [x, y])) fun σ2 H2 => tb { D with nx := Pv (i + 1), ct := Pv (i + 1), bk := D.nx } σ2 H2) (hd : ∀ σ H, Pv xs.length σ H → D.nx σ H) :
    ∃ W : Nat → Nat → St → Hp → Prop, (∃ m, W 0 m σ H) ∧ ∀ i m σ H, W i m σ H →
      ((Itz K a b).stop i H ∧ D.nx σ H) ∨ ((Itz K a b).go i H ∧ ∃ N : St → Hp → Prop, (∀ σ' H', N σ' H' → ∃ m', m' < m ∧ W (i + 1) m' σ' H') ∧ ∀ v H', (Itz K a b).yld i H v H' → g v σ H' fun σ2 H2 => tb { D with nx := N, ct := N, bk := D.nx } σ2 H2) := by
  refine ⟨fun i m σ H => m = xs.length - i ∧ i ≤ xs.length ∧ Pv i σ H, ⟨xs.length, by simp, Nat.zero_le _, h0⟩, ?_⟩
  rintro i m σ H ⟨rfl, hi, p⟩
  obtain ⟨sa, sb⟩ := hS i σ H p
  by_cases hlt : i < xs.length
  · have hlt2 : i < ys.length := by omega
    refine .inr ⟨⟨xs, ys, _, _, sa, sb, List.getElem?_eq_getElem hlt, List.getElem?_eq_getElem hlt2⟩, Pv (i + 1), fun σ' H' p' => ⟨xs.length - (i + 1), by omega, rfl, hlt, p'⟩, fun v H' y => ?_⟩
    obtain ⟨q, x, y', rfl, hq, rfl, hx, hy⟩ := y
    exact hs i x y' q σ H (hx xs sa) (hy ys sb) p hq
  · have e : i = xs.length := by omega
    subst e
    exact .inl ⟨⟨xs, ys, sa, sb, .inl (Nat.le_refl _)⟩, hd σ H p⟩
/-! ### the pack -/
def packL (s h : Nat) : List Nat := (List.range s).flatMap fun u => (List.range h).map fun v => 8 * u + v
def packN (s h : Nat) : Nat := ((packL s h).map (2 ^ ·)).sum
end My

namespace L2
open PySem PySem.Spec PyProof.Rows
/-! ### x is True, x is False, of a truth -/
theorem op_isB {X : Cx} : OpR X (compareOp .Is) (fun x y H Q => ∃ a b, x = .bl a ∧ y = .bl b ∧ Q (.bl (a == b)) H) := by
  intro pins s σ H x y v u Q I rx ry h
  obtain ⟨a, b, rfl, rfl, q⟩ := h
  cases rx
  cases ry
  have e : (compareOp .Is (.bool a) (.bool b) : Sem Value) = pure (.bool (a == b)) := by cases a <;> cases b <;> rfl
  rw [e]
  exact wpAny_pure ⟨.bl _, H, I, rfl, q⟩
end L2

namespace My
open PySem L2
/-! ### which card goes over which -/
def pos (x : Nat) : List Nat → Nat
  | [] => 0
  | y :: l => if y = x then 0 else pos x l + 1
theorem pos_at {x : Nat} : ∀ {l : List Nat}, x ∈ l → l[pos x l]? = some x ∧ ∀ m < pos x l, l[m]? ≠ some x
  | [], h => nomatch h
  | y :: l, h => by
    unfold pos
    by_cases c : y = x
    · rw [if_pos c]
      exact ⟨by rw [c]; rfl, fun m hm => absurd hm (Nat.not_lt_zero _)⟩
    · rw [if_neg c]
      have hl : x ∈ l := by
        rcases List.mem_cons.mp h with e | e
        · exact absurd e.symm c
        · exact e
      obtain ⟨a, b⟩ := pos_at hl
      refine ⟨a, fun m hm => ?_⟩
      cases m with
      | zero => exact fun z => c (Option.some.inj z)
      | succ m => exact b m (by omega)
theorem pos_inj {l : List Nat} {x y : Nat} (hx : x ∈ l) (hy : y ∈ l) (e : pos x l = pos y l) : x = y := by
  have a := (pos_at hx).1
  have b := (pos_at hy).1
  rw [e, b] at a
  exact (Option.some.inj a).symm
def tvV : Option Nat → V
  | none => .non
  | some t => .int (t : Nat)
theorem tv_eq (t : Option Nat) (s : Nat) : decide (V.int (s : Nat) = tvV t) = decide (t = some s) := by
  cases t with
  | none =>
    rw [decide_eq_false (fun z => nomatch z), decide_eq_false (fun z => nomatch z)]
  | some u =>
    by_cases c : s = u
    · subst c
      rw [decide_eq_true (show V.int (s : Nat) = tvV (some s) from rfl), decide_eq_true rfl]
    · rw [decide_eq_false (fun z => c (by injection z with z; omega)), decide_eq_false (fun z => c (Option.some.inj z).symm)]
theorem tv_scal (t : Option Nat) (s : Int) : scal (.int s) (tvV t) = true := by cases t <;> rfl
theorem tv_flat (t : Option Nat) : flatV (tvV t) = true := by cases t <;> rfl
def overB (f : Fx) (t : Option Nat) (c o led : Nat) : Bool :=
  if c / 8 = o / 8 then decide (c / 8 = led ∨ t = some (c / 8)) && decide (pos (o % 8) (if t = some (c / 8) then f.tr else f.pl) < pos (c % 8) (if t = some (c / 8) then f.tr else f.pl))
  else if t = some (c / 8) then true else decide (c / 8 = led) && !decide (t = some (o / 8))
theorem ov_same {f : Fx} {t : Option Nat} {c o led : Nat} (h : c / 8 = o / 8) : overB f t c o led = (decide (c / 8 = led ∨ t = some (c / 8)) && decide (pos (o % 8) (if t = some (c / 8) then f.tr else f.pl) < pos (c % 8) (if t = some (c / 8) then f.tr else f.pl))) := if_pos h
theorem ov_diff {f : Fx} {t : Option Nat} {c o led : Nat} (h : ¬ c / 8 = o / 8) : overB f t c o led = (if t = some (c / 8) then true else decide (c / 8 = led) && !decide (t = some (o / 8))) := if_neg h
theorem over_not_both (f : Fx) (t : Option Nat) (c o led : Nat) : overB f t c o led = true → overB f t o c led = true → False := by
  by_cases s : c / 8 = o / 8
  · rw [ov_same s, ov_same s.symm, ← s]
    intro a b
    rw [Bool.and_eq_true, decide_eq_true_eq, decide_eq_true_eq] at a b
    omega
  · rw [ov_diff s, ov_diff (fun z => s z.symm)]
    by_cases c1 : t = some (c / 8)
    · have c2 : ¬ t = some (o / 8) := fun z => s (by rw [c1] at z; exact Option.some.inj z)
      rw [if_neg c2]
      intro _ b
      rw [decide_eq_true c1] at b
      simp at b
    · rw [if_neg c1]
      by_cases c2 : t = some (o / 8)
      · intro a _
        rw [decide_eq_true c2] at a
        simp at a
      · rw [if_neg c2]
        intro a b
        rw [Bool.and_eq_true, decide_eq_true_eq] at a b
        omega
theorem over_self (f : Fx) (t : Option Nat) (c led : Nat) : overB f t c c led = false := by
  cases e : overB f t c c led with
  | false => rfl
  | true => exact (over_not_both f t c c led e e).elim
theorem over_strong {f : Fx} (ok : f.Ok) {t : Option Nat} {c o led : Nat} (hc : c % 8 < f.h) (ho : o % 8 < f.h) (ne : c ≠ o) (s1 : c / 8 = led ∨ t = some (c / 8)) (s2 : o / 8 = led ∨ t = some (o / 8)) : overB f t c o led = true ∨ overB f t o c led = true := by
  by_cases s : c / 8 = o / 8
  · rw [ov_same s, ov_same s.symm, ← s, decide_eq_true s1, Bool.true_and, Bool.true_and, decide_eq_true_eq, decide_eq_true_eq]
    have hmem : ∀ x, x < f.h → x ∈ (if t = some (c / 8) then f.tr else f.pl) := fun x hx => by
      split
      · exact ok.pt.symm.subset (List.mem_range.mpr hx)
      · exact ok.pp.symm.subset (List.mem_range.mpr hx)
    have np : pos (c % 8) (if t = some (c / 8) then f.tr else f.pl) ≠ pos (o % 8) (if t = some (c / 8) then f.tr else f.pl) := fun z => by
      have := pos_inj (hmem _ hc) (hmem _ ho) z
      omega
    omega
  · rw [ov_diff s, ov_diff (fun z => s z.symm)]
    by_cases c1 : t = some (c / 8)
    · exact .inl (if_pos c1)
    · by_cases c2 : t = some (o / 8)
      · exact .inr (if_pos c2)
      · exfalso
        rcases s1 with s1 | s1
        · rcases s2 with s2 | s2
          · omega
          · exact c2 s2
        · exact c1 s1
theorem inV_two (s led : Nat) (t : Option Nat) : inV (.int (s : Nat)) [tvV t, .int (led : Nat)] = decide (s = led ∨ t = some s) := by
  have e : inV (.int (s : Nat)) [tvV t, .int (led : Nat)] = (eqV (tvV t) (.int (s : Nat)) || (eqV (.int (led : Nat)) (.int (s : Nat)) || false)) := rfl
  rw [e]
  have e1 : eqV (tvV t) (.int (s : Nat)) = decide (t = some s) := by
    cases t with
    | none => rw [decide_eq_false (fun z => nomatch z)]; rfl
    | some u =>
      show (((u : Nat) : Int) == (s : Nat)) = _
      by_cases c : u = s
      · subst c; simp
      · rw [decide_eq_false (fun z => c (Option.some.inj z))]
        exact beq_eq_false_iff_ne.mpr (by omega)
  have e2 : eqV (.int (led : Nat)) (.int (s : Nat)) = decide (s = led) := by
    show (((led : Nat) : Int) == (s : Nat)) = _
    by_cases c : s = led
    · subst c; simp
    · rw [decide_eq_false c]
      exact beq_eq_false_iff_ne.mpr (by omega)
  rw [e1, e2]
  by_cases a : s = led <;> by_cases b : t = some s <;> simp [a, b]
theorem inV_two' (s led : Nat) (t : Option Nat) : inV (.int (s : Nat)) [.int (led : Nat), tvV t] = decide (s = led ∨ t = some s) := by
  rw [← inV_two s led t]
  show (eqV (.int (led : Nat)) (.int (s : Nat)) || (eqV (tvV t) (.int (s : Nat)) || false)) = (eqV (tvV t) (.int (s : Nat)) || (eqV (.int (led : Nat)) (.int (s : Nat)) || false))
  rw [Bool.or_false, Bool.or_false, Bool.or_comm]
theorem in_vN (x : Nat) : ∀ (l : List Nat), inV (.int (x : Nat)) (vN l) = decide (x ∈ l)
  | [] => by rw [decide_eq_false (List.not_mem_nil)]; rfl
  | y :: l => by
    have e : inV (.int (x : Nat)) (vN (y :: l)) = ((((y : Nat) : Int) == (x : Nat)) || inV (.int (x : Nat)) (vN l)) := rfl
    rw [e, in_vN x l]
    by_cases c : x = y
    · subst c
      simp
    · have b : (((y : Nat) : Int) == (x : Nat)) = false := beq_eq_false_iff_ne.mpr (by omega)
      rw [b, Bool.false_or]
      by_cases d : x ∈ l
      · rw [decide_eq_true d, decide_eq_true (List.mem_cons_of_mem _ d)]
      · rw [decide_eq_false d, decide_eq_false fun z => by
          rcases List.mem_cons.mp z with z | z
          · exact c z
          · exact d z]
theorem vN_flat : ∀ (l : List Nat), (vN l).all flatV = true
  | [] => rfl
  | _ :: l => by
    show (true && (vN l).all flatV) = true
    rw [vN_flat l]
    rfl
theorem ix_vN {l : List Nat} {x : Nat} (h : x ∈ l) : (l.map fun c => ((c : Nat) : Int))[pos x l]? = some ((x : Nat) : Int) ∧ ∀ m < pos x l, (l.map fun c => ((c : Nat) : Int))[m]? ≠ some ((x : Nat) : Int) := by
  obtain ⟨a, b⟩ := pos_at h
  refine ⟨by rw [List.getElem?_map, a]; rfl, fun m hm z => ?_⟩
  rw [List.getElem?_map] at z
  cases e : l[m]? with
  | none => rw [e] at z; cases z
  | some y =>
    rw [e] at z
    have : ((y : Nat) : Int) = (x : Nat) := Option.some.inj z
    have ey : y = x := by omega
    rw [ey] at e
    exact b m hm e
end My

namespace My
open PySem L2
abbrev sLater : Stmt := top 28
abbrev sStronger : Stmt := inClass (top 30) 2
abbrev sOver : Stmt := inClass (top 30) 3
abbrev sLOver : Stmt := top 37
abbrev sTrump : Stmt := top 38
abbrev sCard : Stmt := top 39
section
variable {P : Program} {w : World} {K : PySem.W.Frag} {mg : Str → Option Value} {base : Heap} {f g : Addr} {fd gd : FuncData}
/-! ### is_later, is_stronger, is_over -/
theorem chg {a b : Bool} {A B : Prop} (e : a = b) (h : if b = true then A else B) : if a = true then A else B := by rw [e]; exact h
theorem chgQ {a b : Bool} {Q : VK} {H : Hp} (e : a = b) (h : Q (.bl b) H) : Q (.bl a) H := by rw [e]; exact h
def spLater (K : PySem.W.Frag) : Sp := fun vs H Q _ => ∃ (l : Addr) (ls : List Nat) (x y : Nat), vs = [.ref l, .int (x : Nat), .int (y : Nat)] ∧ SqL K H l (vN ls) ∧ ls.length ≤ 1000 ∧ x ∈ ls ∧ y ∈ ls ∧ Q (.bl (decide (pos y ls < pos x ls))) H
theorem scLater : FnScope ["order", "height", "other"] ["order", "height", "other"] (defScope sLater) := ⟨rfl, rfl, rfl, by decide +kernel, rfl, by decide +kernel, by decide +kernel⟩
theorem ok_later {k : Nat} (F : Fun K "is_later" "is_later" sLater f fd) : FnOk P w K mg base CX0 (k + 1) f fd ["order", "height", "other"] (spLater K) := by
  refine F.ok scLater (fun vs H Q E h => ?_) (fun cdv A outer s H vs Q E hr h => ?_)
  · obtain ⟨l, ls, x, y, rfl, _⟩ := h
    rfl
  obtain ⟨l, ls, x, y, rfl, hS, hl, hx, hy, q⟩ := h
  refine ⟨_, pss_cons (ps_if (PW.pt (pw_or (pt_cmpR op_notIn_seq (pv 1) (pv 0) rfl) (pw_or1 (pt_cmpR op_notIn_seq (pv 2) (pv 0) rfl)))) (pss_one (ps_ret pe_bl)) pss_nil)
    (pss_one (ps_ret (pe_cmpR op_gt (pe_bm PySem.F.plainAttrs_list PySem.F.slot_list_index PySem.F.type_list_index mt_index (pv 0) (pa_cons (pv 1) pa_nil)) (pe_bm PySem.F.plainAttrs_list PySem.F.slot_list_index PySem.F.type_list_index mt_index (pv 0) (pa_cons (pv 2) pa_nil)) (nomark _)))), ?_⟩
  refine ⟨_, rfl, _, rfl, l, vN ls, rfl, .inl hS, rfl, vN_flat _, _, rfl, ?_⟩
  show (if (!inV (.int (x : Nat)) (vN ls)) = true then _ else _)
  rw [in_vN, decide_eq_true hx]
  refine iteF ⟨_, rfl, _, rfl, l, vN ls, rfl, .inl hS, rfl, vN_flat _, _, rfl, ?_⟩
  show (if (!inV (.int (y : Nat)) (vN ls)) = true then _ else _)
  rw [in_vN, decide_eq_true hy]
  refine iteF ?_
  have hS' : SqL K H l ((ls.map fun c => ((c : Nat) : Int)).map V.int) := by rw [← vN_ints]; exact hS
  have ll : (ls.map fun c => ((c : Nat) : Int)).length ≤ 1000 := by rw [List.length_map]; exact hl
  refine ⟨_, rfl, .inl ⟨rfl, _, hS⟩, _, rfl, l, _, _, pos x ls, rfl, rfl, hS', ll, (ix_vN hx).1, (ix_vN hx).2, ?_⟩
  refine ⟨_, rfl, .inl ⟨rfl, _, hS⟩, _, rfl, l, _, _, pos y ls, rfl, rfl, hS', ll, (ix_vN hy).1, (ix_vN hy).2, _, _, rfl, rfl, ?_⟩
  have e : decide (((pos y ls : Nat) : Int) < ((pos x ls : Nat) : Int)) = decide (pos y ls < pos x ls) := by
    by_cases c : pos y ls < pos x ls
    · rw [decide_eq_true c, decide_eq_true (by omega)]
    · rw [decide_eq_false c, decide_eq_false (by omega)]
  show Q (.bl (decide (((pos y ls : Nat) : Int) < ((pos x ls : Nat) : Int)))) H
  rw [e]
  exact q
def ordT (f : Fx) (t : Option Nat) (c : Nat) : List Nat := if t = some (c / 8) then f.tr else f.pl
theorem ordT_mem {f : Fx} (ok : f.Ok) {t : Option Nat} {c x : Nat} (hx : x < f.h) : x ∈ ordT f t c := by
  unfold ordT
  split
  · exact ok.pt.symm.subset (List.mem_range.mpr hx)
  · exact ok.pp.symm.subset (List.mem_range.mpr hx)
theorem ordT_len {f : Fx} (ok : f.Ok) {t : Option Nat} {c : Nat} : (ordT f t c).length ≤ 1000 := by
  have h8 := ok.h8
  unfold ordT
  split
  · rw [perm_len ok.pt]; omega
  · rw [perm_len ok.pp]; omega
def spStronger (CT CG : Addr) : Sp := fun vs H Q _ => ∃ (gm x : Addr) (t : Option Nat) (f : Fx) (c o : Nat), vs = [.ref gm, .int (c : Nat), .int (o : Nat)] ∧ f.Ok ∧ IsGam CG x (tvV t) H gm ∧ IsTab CT f H x ∧ c % 8 < f.h ∧ o % 8 < f.h ∧ ∀ H', Same H H' → Q (.bl (decide (pos (o % 8) (ordT f t c) < pos (c % 8) (ordT f t c)))) H'
theorem scStronger : FnScope ["self", "card", "other", "order"] ["self", "card", "other"] (defScope sStronger) := ⟨rfl, rfl, rfl, by decide +kernel, rfl, by decide +kernel, by decide +kernel⟩
theorem ok_stronger {k : Nat} {CT CG f1 m3 : Addr} {d1 e3 : FuncData} {t1 : Tok} (F : Fun K "is_stronger" "Game.is_stronger" sStronger f fd) (C : TabC K mg CT) (CGm : GamC K mg CG) (LL : Lib P w K mg base k "is_later" ["order", "height", "other"] (spLater K) f1 d1)
    (MO : Meth K CT "order" m3) (FO : FnOk P w K mg base CX0 k m3 e3 ["self", "is_trump"] (spTOrder CT)) (BO : Binds K e3 ["self", "is_trump"] []) (mH : mg "HEIGHTS" = some (.int 8 t1)) : FnOk P w K mg base CX0 (k + 1) f fd ["self", "card", "other"] (spStronger CT CG) := by
  refine F.ok scStronger (fun vs H Q E h => ?_) (fun cdv A outer s H vs Q E hr h => ?_)
  · obtain ⟨gm, x, t, fx, c, o, rfl, _⟩ := h
    rfl
  obtain ⟨gm, x, t, fx, c, o, rfl, ok, hg, ht, hc, ho, q⟩ := h
  refine ⟨_, pss_cons (ps_set (i := 3) scStronger.nd rfl (Or.inl rfl) (pe_meth (pe_fld (pv 0) rfl) C.cl MO FO hr BO .nil pass0 (pa_cons (pe_cmpR op_eq (pe_op op_fdiv (pv 1) (pe_glob (v := .int 8) rfl mH ⟨_, rfl⟩)) (pe_fld (pv 0) rfl) (nomark _)) pa_nil)))
    (pss_one (ps_ret (pe_call LL.ok hr rfl LL.mg LL.kp LL.bd .nil pass0 (pa_cons (pv 3) (pa_cons (pe_op op_mod (pv 1) (pe_glob (v := .int 8) rfl mH ⟨_, rfl⟩)) (pa_cons (pe_op op_mod (pv 2) (pe_glob (v := .int 8) rfl mH ⟨_, rfl⟩)) pa_nil)))))), ?_⟩
  obtain ⟨dg, hG⟩ := id hg
  obtain ⟨dx, po, to, hX, _, _⟩ := id ht
  have e1 : ((c : Nat) : Int) / 8 = ((c / 8 : Nat) : Int) := by omega
  refine ⟨_, rfl, gm, CG, dg, _, _, rfl, hG, CGm.cl, CGm.nT, gam_table _ _, x, dx, _, rfl, hX, look7_order _ _ _, ?_⟩
  refine ⟨_, rfl, _, _, rfl, rfl, ⟨by decide, by decide⟩, _, rfl, gm, CG, dg, _, _, rfl, hG, CGm.cl, CGm.nU, gam_trump _ _, tv_scal _ _, x, fx, decide (t = some (c / 8)), ?_, ht, fun l H1 s1 hl hL => ?_⟩
  · show V.ref x :: ([V.bl (decide (V.int (((c : Nat) : Int) / 8) = tvV t))] ++ []) = [V.ref x, V.bl (decide (t = some (c / 8)))]
    rw [e1, tv_eq]
    rfl
  have eo : ordOf fx (decide (t = some (c / 8))) = ordT fx t c := by
    unfold ordOf ordT
    by_cases z : t = some (c / 8)
    · rw [if_pos z, if_pos (decide_eq_true z)]
    · rw [if_neg z, if_neg (by rw [decide_eq_false z]; decide)]
  rw [eo] at hL
  have e2 : ((c : Nat) : Int) % 8 = ((c % 8 : Nat) : Int) := by omega
  have e3 : ((o : Nat) : Int) % 8 = ((o % 8 : Nat) : Int) := by omega
  refine ⟨_, rfl, _, rfl, _, _, rfl, rfl, (show (0 : Int) < 8 by decide), _, rfl, _, _, rfl, rfl, (show (0 : Int) < 8 by decide), l, ordT fx t c, c % 8, o % 8, ?_, SqL.of hL, ordT_len ok, ordT_mem ok hc, ordT_mem ok ho, q _ s1⟩
  dsimp only
  rw [e2, e3]
  rfl
def spOver (CT CG : Addr) : Sp := fun vs H Q _ => ∃ (gm x : Addr) (t : Option Nat) (f : Fx) (c o led : Nat), vs = [.ref gm, .int (c : Nat), .int (o : Nat), .int (led : Nat)] ∧ f.Ok ∧ IsGam CG x (tvV t) H gm ∧ IsTab CT f H x ∧ c % 8 < f.h ∧ o % 8 < f.h ∧ ∀ H', Same H H' → Q (.bl (overB f t c o led)) H'
abbrev pOver : List Str := ["self", "card", "other", "led"]
theorem scOver : FnScope ["self", "card", "other", "led", "suit"] pOver (defScope sOver) := ⟨rfl, rfl, rfl, by decide +kernel, rfl, by decide +kernel, by decide +kernel⟩
theorem dec_nat (a b : Nat) : decide (V.int (a : Nat) = V.int (b : Nat)) = decide (a = b) := by
  by_cases c : a = b
  · subst c
    rw [decide_eq_true rfl, decide_eq_true rfl]
  · rw [decide_eq_false c, decide_eq_false (fun z => c (by injection z with z; omega))]
theorem ok_over {k : Nat} {CT CG m3 : Addr} {e3 : FuncData} {t1 : Tok} (F : Fun K "is_over" "Game.is_over" sOver f fd) (CGm : GamC K mg CG) (MS : Meth K CG "is_stronger" m3) (FS : FnOk P w K mg base CX0 k m3 e3 ["self", "card", "other"] (spStronger CT CG)) (BS : Binds K e3 ["self", "card", "other"] []) (mH : mg "HEIGHTS" = some (.int 8 t1)) :
    FnOk P w K mg base CX0 (k + 1) f fd pOver (spOver CT CG) := by
  refine F.ok scOver (fun vs H Q E h => ?_) (fun cdv A outer s H vs Q E hr h => ?_)
  · obtain ⟨gm, x, t, fx, c, o, led, rfl, _⟩ := h
    rfl
  obtain ⟨gm, x, t, fx, c, o, led, rfl, ok, hg, ht, hc, ho, q⟩ := h
  refine ⟨_, pss_cons (ps_set (i := 4) scOver.nd rfl (Or.inl rfl) (pe_op op_fdiv (pv 1) (pe_glob (v := .int 8) rfl mH ⟨_, rfl⟩)))
    (pss_cons (ps_if (pt_cmpR op_eq (pv 4) (pe_op op_fdiv (pv 2) (pe_glob (v := .int 8) rfl mH ⟨_, rfl⟩)) (nomark _)) (pss_one (ps_ret (pe_and (pe_cmpR op_in_seq (pv 4) (pe_tup (pa_cons (pe_fld (pv 0) rfl) (pa_cons (pv 3) pa_nil))) rfl) (pe_one (pe_meth (pv 0) CGm.cl MS FS hr BS .nil pass0 (pa_cons (pv 1) (pa_cons (pv 2) pa_nil))))))) pss_nil)
    (pss_cons (ps_if (pt_cmpR op_eq (pv 4) (pe_fld (pv 0) rfl) (nomark _)) (pss_one (ps_ret pe_bl)) pss_nil)
    (pss_one (ps_ret (pe_and (pe_cmpR op_eq (pv 4) (pv 3) (nomark _)) (pe_one (pe_cmpR op_ne (pe_op op_fdiv (pv 2) (pe_glob (v := .int 8) rfl mH ⟨_, rfl⟩)) (pe_fld (pv 0) rfl) (nomark _)))))))), ?_⟩
  obtain ⟨dg, hG⟩ := id hg
  have e1 : ((c : Nat) : Int) / 8 = ((c / 8 : Nat) : Int) := by omega
  have e2 : ((o : Nat) : Int) / 8 = ((o / 8 : Nat) : Int) := by omega
  refine ⟨_, rfl, _, _, rfl, rfl, ⟨by decide, by decide⟩, ?_⟩
  dsimp only
  rw [e1]
  refine ⟨_, rfl, _, rfl, _, _, rfl, rfl, ⟨by decide, by decide⟩, rfl, _, rfl, ?_⟩
  refine chg (congrArg (fun z => decide (V.int ((c / 8 : Nat) : Int) = V.int z)) e2) ?_
  rw [dec_nat]
  by_cases sm : c / 8 = o / 8
  · rw [decide_eq_true sm]
    refine iteT ⟨_, rfl, _, rfl, gm, CG, dg, _, _, rfl, hG, CGm.cl, CGm.nU, gam_trump _ _, _, rfl, fits3 2 (by decide), fun p hp => ?_⟩
    have s1 := same_upd hp (.tup [tvV t, .int (led : Nat)])
    have fl : [tvV t, V.int (led : Nat)].all flatV = true := by
      show (flatV (tvV t) && (true && true)) = true
      rw [tv_flat]
      rfl
    refine ⟨p, [tvV t, .int (led : Nat)], rfl, .inr (SqT.of upd_same), rfl, fl, ?_⟩
    show ∃ b, V.bl (inV (.int ((c / 8 : Nat) : Int)) [tvV t, .int (led : Nat)]) = _ ∧ _
    rw [inV_two]
    refine ⟨_, rfl, ?_⟩
    by_cases sg : c / 8 = led ∨ t = some (c / 8)
    · rw [decide_eq_true sg]
      refine iteT ⟨_, rfl, gm, dg, _, rfl, s1 _ _ hG, gam_none _ _ _ (by decide +kernel) (by decide +kernel), _, rfl, _, rfl, gm, x, t, fx, c, o, rfl, ok, hg.same s1, ht.same s1, hc, ho, fun H2 s2 => ?_⟩
      have z := q H2 (s1.trans s2)
      rw [ov_same sm, decide_eq_true sg, Bool.true_and] at z
      exact z
    · rw [decide_eq_false sg]
      refine iteF ?_
      have z := q _ s1
      rw [ov_same sm, decide_eq_false sg, Bool.false_and] at z
      exact z
  · rw [decide_eq_false sm]
    refine iteF ⟨_, rfl, _, rfl, gm, CG, dg, _, _, rfl, hG, CGm.cl, CGm.nU, gam_trump _ _, tv_scal _ _, _, rfl, ?_⟩
    have z := q H (Same.refl _)
    rw [ov_diff sm] at z
    rw [tv_eq]
    by_cases c1 : t = some (c / 8)
    · rw [decide_eq_true c1]
      rw [if_pos c1] at z
      exact iteT z
    · rw [decide_eq_false c1]
      rw [if_neg c1] at z
      refine iteF ⟨_, rfl, _, rfl, rfl, _, rfl, ?_⟩
      rw [dec_nat]
      by_cases c2 : c / 8 = led
      · rw [decide_eq_true c2]
        rw [decide_eq_true c2, Bool.true_and] at z
        refine iteT ⟨_, rfl, _, _, rfl, rfl, ⟨by decide, by decide⟩, _, rfl, gm, CG, dg, _, _, rfl, hG, CGm.cl, CGm.nU, gam_trump _ _, tv_scal _ _, ?_⟩
        refine chgQ (congrArg (fun z => (!decide (V.int z = tvV t))) e2) ?_
        rw [tv_eq]
        exact z
      · rw [decide_eq_false c2]
        rw [decide_eq_false c2, Bool.false_and] at z
        exact iteF z
/-! ### the law's own: over, trump, card -/
def spLOver (K : PySem.W.Frag) : Sp := fun vs H Q _ => ∃ (l : Addr) (f : Fx) (t : Option Nat) (c o led : Nat), vs = [.ref l, tvV t, .int (c : Nat), .int (o : Nat), .int (led : Nat)] ∧ f.Ok ∧ IsFx f H l ∧ c % 8 < f.h ∧ o % 8 < f.h ∧ ∀ H', Same H H' → Q (.bl (overB f t c o led)) H'
abbrev pLOver : List Str := ["_law_facts", "_law_trump_here", "_law_card_here", "_law_other", "_law_led"]
theorem scLOver : FnScope ["_law_facts", "_law_trump_here", "_law_card_here", "_law_other", "_law_led", "_law_suit", "_law_order_here"] pLOver (defScope sLOver) := ⟨rfl, rfl, rfl, by decide +kernel, rfl, by decide +kernel, by decide +kernel⟩
theorem ok_lover {k : Nat} (F : Fun K "_law_over" "_law_over" sLOver f fd) : FnOk P w K mg base CX0 (k + 1) f fd pLOver (spLOver K) := by
  refine F.ok scLOver (fun vs H Q E h => ?_) (fun cdv A outer s H vs Q E hr h => ?_)
  · obtain ⟨l, fx, t, c, o, led, rfl, _⟩ := h
    rfl
  obtain ⟨l, fx, t, c, o, led, rfl, ok, hl, hc, ho, q⟩ := h
  refine ⟨_, pss_cons (ps_set (i := 5) scLOver.nd rfl (Or.inl rfl) (pe_op op_fdiv (pv 2) pe_int))
    (pss_cons (ps_if (pt_cmpR op_eq (pv 5) (pe_op op_fdiv (pv 3) pe_int) (nomark _))
      (pss_cons (ps_set (i := 6) scLOver.nd rfl (Or.inl rfl) (pe_ifExp (pt_cmpR op_eq (pv 5) (pv 1) (nomark _)) (pe_ix ix_list (pv 0) pe_int (fun _ _ => rfl)) (pe_ix ix_list (pv 0) pe_int (fun _ _ => rfl))))
      (pss_one (ps_ret (pe_and (pe_cmpR op_in_seq (pv 5) (pe_tup (pa_cons (pv 4) (pa_cons (pv 1) pa_nil))) rfl) (pe_one (pe_cmpR op_gt (pe_bm PySem.F.plainAttrs_list PySem.F.slot_list_index PySem.F.type_list_index mt_index (pv 6) (pa_cons (pe_op op_mod (pv 2) pe_int) pa_nil)) (pe_bm PySem.F.plainAttrs_list PySem.F.slot_list_index PySem.F.type_list_index mt_index (pv 6) (pa_cons (pe_op op_mod (pv 3) pe_int) pa_nil)) (nomark _))))))) pss_nil)
    (pss_cons (ps_if (pt_cmpR op_eq (pv 5) (pv 1) (nomark _)) (pss_one (ps_ret pe_bl)) pss_nil)
    (pss_one (ps_ret (pe_and (pe_cmpR op_eq (pv 5) (pv 4) (nomark _)) (pe_one (pe_cmpR op_ne (pe_op op_fdiv (pv 3) pe_int) (pv 1) (nomark _)))))))), ?_⟩
  obtain ⟨pl, tr, hL, hP, hT⟩ := id hl
  have e1 : ((c : Nat) : Int) / 8 = ((c / 8 : Nat) : Int) := by omega
  have e2 : ((o : Nat) : Int) / 8 = ((o / 8 : Nat) : Int) := by omega
  refine ⟨_, rfl, _, _, rfl, rfl, ⟨by decide, by decide⟩, ?_⟩
  dsimp only
  rw [e1]
  refine ⟨_, rfl, _, rfl, _, _, rfl, rfl, ⟨by decide, by decide⟩, rfl, _, rfl, ?_⟩
  refine chg (congrArg (fun z => decide (V.int ((c / 8 : Nat) : Int) = V.int z)) e2) ?_
  rw [dec_nat]
  by_cases sm : c / 8 = o / 8
  · rw [decide_eq_true sm]
    refine iteT ⟨_, rfl, _, rfl, tv_scal _ _, _, rfl, ?_⟩
    rw [tv_eq]
    have go : ∀ lo : Addr, H lo = some (.lst (vN (ordT fx t c))) → (tRet (tAndV (tOp (rIn K false) (tVar 5) (tTup (tCons (tVar 4) (tCons (tVar 1) tNil)))) (tOp (rI0 fun i j => .bl (decide (j < i))) (tBM K "list" (fun x xs H Q => ∃ (a : Addr) (k : Int) (ns : List Int) (j : Nat), x = .ref a ∧ xs = [.int k] ∧ SqL K H a (ns.map V.int) ∧ ns.length ≤ 1000 ∧ ns[j]? = some k ∧ (∀ m < j, ns[m]? ≠ some k) ∧ Q (.int (j : Nat)) H) (tVar 6) (tCons (tOp (rI (fun _ j => 0 < j) fun i j => .int (i % j)) (tVar 2) (tC (.int 8))) tNil))
        (tBM K "list" (fun x xs H Q => ∃ (a : Addr) (k : Int) (ns : List Int) (j : Nat), x = .ref a ∧ xs = [.int k] ∧ SqL K H a (ns.map V.int) ∧ ns.length ≤ 1000 ∧ ns[j]? = some k ∧ (∀ m < j, ns[m]? ≠ some k) ∧ Q (.int (j : Nat)) H) (tVar 6) (tCons (tOp (rI (fun _ j => 0 < j) fun i j => .int (i % j)) (tVar 3) (tC (.int 8))) tNil)))) : TS)
          { nx := fun _ H' => Q .non H', rt := Q } [some (.ref l), some (tvV t), some (.int (c : Nat)), some (.int (o : Nat)), some (.int (led : Nat)), some (.int ((c / 8 : Nat) : Int)), some (.ref lo)] H := fun lo hlo => by
      refine ⟨_, rfl, _, rfl, _, rfl, fits3 2 (by decide), fun p hp => ?_⟩
      have s1 := same_upd hp (.tup [.int (led : Nat), tvV t])
      have fl : [V.int (led : Nat), tvV t].all flatV = true := by
        show (true && (flatV (tvV t) && true)) = true
        rw [tv_flat]
        rfl
      refine ⟨p, [.int (led : Nat), tvV t], rfl, .inr (SqT.of upd_same), rfl, fl, ?_⟩
      show ∃ b, V.bl (inV (.int ((c / 8 : Nat) : Int)) [.int (led : Nat), tvV t]) = _ ∧ _
      rw [inV_two']
      refine ⟨_, rfl, ?_⟩
      have z := q _ s1
      rw [ov_same sm] at z
      by_cases sg : c / 8 = led ∨ t = some (c / 8)
      · rw [decide_eq_true sg]
        rw [decide_eq_true sg, Bool.true_and] at z
        have e3 : ((c : Nat) : Int) % 8 = ((c % 8 : Nat) : Int) := by omega
        have e4 : ((o : Nat) : Int) % 8 = ((o % 8 : Nat) : Int) := by omega
        have mx := ordT_mem ok (t := t) (c := c) hc
        have my := ordT_mem ok (t := t) (c := c) ho
        have h1 := s1 _ _ hlo
        have hS' : SqL K (upd H p (.tup [.int (led : Nat), tvV t])) lo (((ordT fx t c).map fun c => ((c : Nat) : Int)).map V.int) := by rw [← vN_ints]; exact SqL.of h1
        have ll : ((ordT fx t c).map fun c => ((c : Nat) : Int)).length ≤ 1000 := by rw [List.length_map]; exact ordT_len ok
        refine iteT ⟨_, rfl, .inl ⟨rfl, _, SqL.of h1⟩, _, rfl, _, _, rfl, rfl, (show (0 : Int) < 8 by decide), lo, _, _, pos (c % 8) (ordT fx t c), rfl, rfl, hS', ll, (by rw [e3]; exact (ix_vN mx).1), (by rw [e3]; exact (ix_vN mx).2), ?_⟩
        refine ⟨_, rfl, .inl ⟨rfl, _, SqL.of h1⟩, _, rfl, _, _, rfl, rfl, (show (0 : Int) < 8 by decide), lo, _, _, pos (o % 8) (ordT fx t c), rfl, rfl, hS', ll, (by rw [e4]; exact (ix_vN my).1), (by rw [e4]; exact (ix_vN my).2), _, _, rfl, rfl, ?_⟩
        have e : decide (((pos (o % 8) (ordT fx t c) : Nat) : Int) < ((pos (c % 8) (ordT fx t c) : Nat) : Int)) = decide (pos (o % 8) (ordT fx t c) < pos (c % 8) (ordT fx t c)) := by
          by_cases cc : pos (o % 8) (ordT fx t c) < pos (c % 8) (ordT fx t c)
          · rw [decide_eq_true cc, decide_eq_true (by omega)]
          · rw [decide_eq_false cc, decide_eq_false (by omega)]
        show Q (.bl (decide (((pos (o % 8) (ordT fx t c) : Nat) : Int) < ((pos (c % 8) (ordT fx t c) : Nat) : Int)))) _
        rw [e]
        exact z
      · rw [decide_eq_false sg]
        rw [decide_eq_false sg, Bool.false_and] at z
        exact iteF z
    by_cases c1 : t = some (c / 8)
    · rw [decide_eq_true c1]
      refine iteT ⟨_, rfl, l, _, 5, .ref tr, rfl, rfl, SqL.of hL, rfl, go tr ?_⟩
      unfold ordT
      rw [if_pos c1]
      exact hT
    · rw [decide_eq_false c1]
      refine iteF ⟨_, rfl, l, _, 4, .ref pl, rfl, rfl, SqL.of hL, rfl, go pl ?_⟩
      unfold ordT
      rw [if_neg c1]
      exact hP
  · rw [decide_eq_false sm]
    have z := q H (Same.refl _)
    rw [ov_diff sm] at z
    refine iteF ⟨_, rfl, _, rfl, tv_scal _ _, _, rfl, ?_⟩
    rw [tv_eq]
    by_cases c1 : t = some (c / 8)
    · rw [decide_eq_true c1]
      rw [if_pos c1] at z
      exact iteT z
    · rw [decide_eq_false c1]
      rw [if_neg c1] at z
      refine iteF ⟨_, rfl, _, rfl, rfl, _, rfl, ?_⟩
      rw [dec_nat]
      by_cases c2 : c / 8 = led
      · rw [decide_eq_true c2]
        rw [decide_eq_true c2, Bool.true_and] at z
        refine iteT ⟨_, rfl, _, _, rfl, rfl, ⟨by decide, by decide⟩, _, rfl, tv_scal _ _, ?_⟩
        refine chgQ (congrArg (fun z => (!decide (V.int z = tvV t))) e2) ?_
        rw [tv_eq]
        exact z
      · rw [decide_eq_false c2]
        rw [decide_eq_false c2, Bool.false_and] at z
        exact iteF z
def spTrump (K : PySem.W.Frag) : Sp := fun vs H Q _ => ∃ (a l : Addr) (ns : List Int) (f : Fx), vs = [.ref a, .ref l] ∧ SqL K H a (ns.map V.int) ∧ f.Ok ∧ IsFx f H l ∧ ∀ t : Option Nat, Q (tvV t) H
theorem scTrump : FnScope ["_law_script", "_law_facts", "_law_cell_here"] ["_law_script", "_law_facts"] (defScope sTrump) := ⟨rfl, rfl, rfl, by decide +kernel, rfl, by decide +kernel, by decide +kernel⟩
theorem ok_trump {k : Nat} {f1 : Addr} {d1 : FuncData} (F : Fun K "_law_trump" "_law_trump" sTrump f fd) (LC : Lib P w K mg base k "_law_cell" pCell (spCell K) f1 d1) : FnOk P w K mg base CX0 (k + 1) f fd ["_law_script", "_law_facts"] (spTrump K) := by
  refine F.ok scTrump (fun vs H Q E h => ?_) (fun cdv A outer s H vs Q E hr h => ?_)
  · obtain ⟨a, l, ns, fx, rfl, _⟩ := h
    rfl
  obtain ⟨a, l, ns, fx, rfl, hS, ok, ⟨pl, tr, hL, _, _⟩, q⟩ := h
  refine ⟨_, pss_cons (ps_set (i := 2) scTrump.nd rfl (Or.inl rfl) (pe_call LC.ok hr rfl LC.mg LC.kp LC.bd .nil pass0 (pa_cons (pv 0) (pa_cons pe_int pa_nil))))
    (pss_cons (ps_if (pt_cmpR op_eq (pe_op op_mod (pv 2) pe_int) pe_int (nomark _)) (pss_one (ps_ret pe_non)) pss_nil)
    (pss_cons (ps_if (pt_cmpR op_eq (pe_op op_mod (pv 2) pe_int) pe_int (nomark _)) (pss_one (ps_ret (pe_op op_mod (pe_op op_fdiv (pv 2) pe_int) pe_int))) pss_nil)
    (pss_one (ps_ret (pe_op op_mod (pe_op op_fdiv (pv 2) pe_int) (pe_ix ix_list (pv 1) pe_int (fun _ _ => rfl))))))), ?_⟩
  have s1 := ok.s1
  have qi : ∀ z : Int, 0 ≤ z → Q (.int z) H := fun z hz => by
    have := q (some z.toNat)
    have e : tvV (some z.toNat) = .int z := by
      show V.int ((z.toNat : Nat) : Int) = .int z
      rw [Int.toNat_of_nonneg hz]
    rw [e] at this
    exact this
  refine ⟨_, rfl, a, ns, 1, rfl, hS, by decide, fun c => ?_⟩
  refine ⟨_, rfl, _, _, rfl, rfl, (show (0 : Int) < 5 by decide), rfl, _, rfl, ite2 (fun _ => q none) (fun _ => ?_)⟩
  refine ⟨_, rfl, _, _, rfl, rfl, (show (0 : Int) < 5 by decide), rfl, _, rfl, ite2 (fun _ => ?_) (fun _ => ?_)⟩
  · exact ⟨_, rfl, _, _, rfl, rfl, ⟨by decide, by decide⟩, _, _, rfl, rfl, (show (0 : Int) < 4 by decide), qi _ (Int.emod_nonneg _ (by decide))⟩
  · exact ⟨_, rfl, _, _, rfl, rfl, ⟨by decide, by decide⟩, _, rfl, l, _, 0, .int (fx.s : Nat), rfl, rfl, SqL.of hL, rfl, _, _, rfl, rfl, (by show (0 : Int) < ((fx.s : Nat) : Int); omega), qi _ (Int.emod_nonneg _ (by omega))⟩
def spCard (K : PySem.W.Frag) : Sp := fun vs H Q _ => ∃ (c : Int) (l : Addr) (f : Fx), vs = [.int c, .ref l] ∧ f.Ok ∧ IsFx f H l ∧ ∀ n : Nat, n / 8 < f.s → n % 8 < f.h → Q (.int (n : Nat)) H
theorem scCard : FnScope ["_law_cell_here", "_law_facts"] ["_law_cell_here", "_law_facts"] (defScope sCard) := ⟨rfl, rfl, rfl, by decide +kernel, rfl, by decide +kernel, by decide +kernel⟩
theorem ok_card {k : Nat} (F : Fun K "_law_card" "_law_card" sCard f fd) : FnOk P w K mg base CX0 (k + 1) f fd ["_law_cell_here", "_law_facts"] (spCard K) := by
  refine F.ok scCard (fun vs H Q E h => ?_) (fun cdv A outer s H vs Q E hr h => ?_)
  · obtain ⟨c, l, fx, rfl, _⟩ := h
    rfl
  obtain ⟨c, l, fx, rfl, ok, ⟨pl, tr, hL, _, _⟩, q⟩ := h
  refine ⟨_, pss_one (ps_ret (pe_op op_add (pe_op op_mul pe_int (pe_op op_mod (pv 0) (pe_ix ix_list (pv 1) pe_int (fun _ _ => rfl)))) (pe_op op_mod (pe_op op_fdiv (pv 0) (pe_ix ix_list (pv 1) pe_int (fun _ _ => rfl))) (pe_ix ix_list (pv 1) pe_int (fun _ _ => rfl))))), ?_⟩
  have s1 := ok.s1
  have s4 := ok.s4
  have h1 := ok.h1
  have h8 := ok.h8
  refine ⟨_, rfl, _, rfl, l, _, 0, .int (fx.s : Nat), rfl, rfl, SqL.of hL, rfl, _, _, rfl, rfl, (by show (0 : Int) < ((fx.s : Nat) : Int); omega), _, _, rfl, rfl, .inl ⟨by decide, by decide⟩, ?_⟩
  refine ⟨_, rfl, _, rfl, l, [.int (fx.s : Nat), .int (fx.h : Nat), .int (fx.n : Nat), .str (wd fx.d), .ref pl, .ref tr], 0, .int (fx.s : Nat), rfl, rfl, SqL.of hL, rfl, _, _, rfl, rfl, ⟨by omega, by omega⟩, _, rfl, l, [.int (fx.s : Nat), .int (fx.h : Nat), .int (fx.n : Nat), .str (wd fx.d), .ref pl, .ref tr], 1, .int (fx.h : Nat), rfl, rfl, SqL.of hL, rfl, _, _, rfl, rfl, (by show (0 : Int) < ((fx.h : Nat) : Int); omega), _, _, rfl, rfl, ?_⟩
  have a0 := Int.emod_nonneg c (show ((fx.s : Nat) : Int) ≠ 0 by omega)
  have a1 := Int.emod_lt_of_pos c (show (0 : Int) < ((fx.s : Nat) : Int) by omega)
  have b0 := Int.emod_nonneg (c / ((fx.s : Nat) : Int)) (show ((fx.h : Nat) : Int) ≠ 0 by omega)
  have b1 := Int.emod_lt_of_pos (c / ((fx.s : Nat) : Int)) (show (0 : Int) < ((fx.h : Nat) : Int) by omega)
  dsimp only
  generalize c % ((fx.s : Nat) : Int) = u at *
  generalize c / ((fx.s : Nat) : Int) % ((fx.h : Nat) : Int) = v at *
  have e : (8 : Int) * u + v = (((8 * u + v).toNat : Nat) : Int) := by omega
  rw [e]
  exact q _ (by omega) (by omega)
end
end My

namespace L2
open PySem PySem.Spec PyProof.Rows
open AutoSeq1 (wpAny_loadPart')
/-! ### for i, x in enumerate(t), t a tuple -/
section
variable {prog : Program} {w : World} {A : Around} {E : Value → Shared → Prop} {s : Shared} {it t : Addr} {i : Nat} {items : Array Value}
theorem nextOf_tup {x : Value} {Q : Value → Shared → Prop} (hI : s.heap.IsTupleIter it t i) (hT : s.heap.IsTuple t items) (hx : items[i]? = some x)
    (q : ∀ h', h'.IsTupleIter it t (i + 1) → Heap.SameBut it s.heap h' → Q x { s with heap := h' }) : wpAny (model prog w) A (Builtin.SmallTypes.nextOf (.ref it)) Q E s := by
  obtain ⟨o, g1, g2, g3⟩ := id hI
  obtain ⟨ot, k1, _, _, k2⟩ := hT
  unfold Builtin.SmallTypes.nextOf
  refine wpAny_bind (wpAny_callSpecial?_slot (name := Str.ofString "__next__") hI.typeIs F.slot_tuple_iterator_next (wpAny_call_entry F.slot_tuple_iterator_next hI.typeIs F.entry_tuple_iterator_next ?_ (F.args_tuple_iterator_next_1 _)))
  show wpAny _ _ (field (.ref it) 0 >>= _) _ _ s; refine wpAny_bind (wpAny_field g1 g3 (x := .ref t) rfl ?_)
  show wpAny _ _ (if (Value.ref t == Value.none) = true then _ else _) _ _ s; rw [if_neg (show ¬ ((Value.ref t == Value.none) = true) from Bool.false_ne_true)]
  show wpAny _ _ (field (.ref it) 1 >>= _) _ _ s; refine wpAny_bind (wpAny_field g1 g3 (x := .int i 0) rfl ?_)
  show wpAny _ _ (seqItems? (.ref t) >>= _) _ _ s; refine wpAny_bind (wpAny_seqItems k1 k2 ?_)
  simp only [Int.toNat_natCast, hx]
  exact wpAny_bind (wpAny_setField g1 g3 (by simp) (wpAny_pure ⟨x, rfl, wpAny_pure (q _ ⟨_, Heap.get?_update_self _ g1 (Obj.isFreed_of_fields (Obj.data_mapFields g3 _)), (Obj.cls_mapFields ..).trans g2, by rw [Obj.data_mapFields g3]; simp [rawInt]⟩ (Heap.SameBut.update ..))⟩))
theorem nextOf_tupE {Q : Value → Shared → Prop} (hh : A.handled = none) (hI : s.heap.IsTupleIter it t i) (hT : s.heap.IsTuple t items) (hx : items[i]? = none)
    (q : ∀ h' e, Heap.ExtBut it s.heap h' → (∃ o, h'.get? e = some o ∧ o.cls = .type "StopIteration") → E (.ref e) { s with heap := h' }) : wpAny (model prog w) A (Builtin.SmallTypes.nextOf (.ref it)) Q E s := by
  obtain ⟨o, g1, g2, g3⟩ := id hI
  obtain ⟨ot, k1, _, _, k2⟩ := hT
  unfold Builtin.SmallTypes.nextOf
  refine wpAny_bind (wpAny_callSpecial?_slot (name := Str.ofString "__next__") hI.typeIs F.slot_tuple_iterator_next (wpAny_call_entry F.slot_tuple_iterator_next hI.typeIs F.entry_tuple_iterator_next ?_ (F.args_tuple_iterator_next_1 _)))
  show wpAny _ _ (field (.ref it) 0 >>= _) _ _ s; refine wpAny_bind (wpAny_field g1 g3 (x := .ref t) rfl ?_)
  show wpAny _ _ (if (Value.ref t == Value.none) = true then _ else _) _ _ s; rw [if_neg (show ¬ ((Value.ref t == Value.none) = true) from Bool.false_ne_true)]
  show wpAny _ _ (field (.ref it) 1 >>= _) _ _ s; refine wpAny_bind (wpAny_field g1 g3 (x := .int i 0) rfl ?_)
  show wpAny _ _ (seqItems? (.ref t) >>= _) _ _ s; refine wpAny_bind (wpAny_seqItems k1 k2 ?_)
  simp only [Int.toNat_natCast, hx]
  refine wpAny_bind (wpAny_rule (wpAny_bind (wpAny_setField g1 g3 (by simp) ?_)))
  show wpAny _ _ (newExc (.type "StopIteration") [] >>= _) _ _ _; refine wpAny_bind ?_
  simp only [newExc, newTuple]
  refine wpAny_bind (wpAny_newObj_type (wpAny_bind (m := firstArgMember _ _) (wpAny_of_eq (a := Value.none) (by first | rfl | (simp only [firstArgMember]; rfl)) (wpAny_newObj_type ?_ (by size_fits)))) (by size_fits))
  simp only [raiseNew]
  refine wpAny_bind (wpAny_handled ?_); first | rw [show A.in1.handled = none from hh] | rw [hh]
  exact wpAny_bind (wpAny_pure (wpAny_throw (q _ _ (((Heap.SameBut.update ..).extBut.push _).push _) ⟨_, Heap.get?_push_size _ rfl, rfl⟩)))
end
theorem draws_tup {prog : Program} {w : World} {A : Around} (hh : A.handled = none) (it t : Addr) (hne : t ≠ it) (items : Array Value) :
    Draws prog w A it [it, t] items.size (fun i v => items[i]? = some v) (fun i h => h.IsTupleIter it t i ∧ h.IsTuple t items) where
  live := fun _ _ z => let ⟨o, ho, _⟩ := z.1; ⟨o, ho⟩
  frame := fun _ _ _ z k => ⟨z.1.at fun o e => k it (by simp) o e, let ⟨o, ho, r⟩ := z.2; ⟨o, k t (by simp) o ho, r⟩⟩
  item := fun i s Q E hi z q => by
    refine nextOf_tup z.1 z.2 (x := items[i]) (by simp [hi]) fun h' a b => ?_
    obtain ⟨o, ho, r⟩ := z.2
    exact q _ h' s.toks (by simp [hi]) ⟨a, o, b.extBut t o hne ho, r⟩ b
  done := fun s Q E z q => nextOf_tupE hh z.1 z.2 (by simp) q
theorem meets_enumT (l : Addr) (items : Array Value) (n : Nat) (dct : Option Addr) (sl : Array (Option Value)) :
    Meets (Builtin.«enumerate.__new__» ⟨[.type "enumerate", .ref l], []⟩) (fun _ R s => s.heap.get? l = some { cls := .type "tuple", dict := dct, data := .seq items n, slots := sl } ∧
      R (.ok (.ret (.ref (s.heap.push { cls := .type "tuple_iterator", data := .fields #[.ref l, .int 0 0] }).objs.size)))
        { s with heap := (s.heap.push { cls := .type "tuple_iterator", data := .fields #[.ref l, .int 0 0] }).push { cls := .type "enumerate", data := .fields #[.none, .bool false, .ref s.heap.objs.size, rawInt 0, .none, .none] } }) :=
  .of_wp fun prog w A R s h => by
    obtain ⟨hp, g, d, tk, os⟩ := s
    obtain ⟨hl, h⟩ := h
    have hq := sub_enumerate
    have hT : Heap.IsTuple (Shared.heap ⟨hp, g, d, tk, os⟩) l items := ⟨_, hl, rfl, n, rfl⟩
    wp_walk using wpAny_loadPart' hl
    refine wpAny_stack_any fun _ => wpAny_pure ?_
    split
    · rename_i c _ _ _ _ _
      cases (c == Value.type "enumerate") <;> (wp_walk using wpAny_loadPart' hl, wpAny_pyIter_tuple hT; exact ⟨_, rfl, h⟩)
    · wp_walk using wpAny_loadPart' hl, wpAny_pyIter_tuple hT
      exact ⟨_, rfl, h⟩
theorem call_enumT {prog : Program} {w : World} {A : Around} {E : Value → Shared → Prop} {s : Shared} {l : Addr} {items : Array Value} {Q : Value → Shared → Prop} (hT : s.heap.IsTuple l items)
    (q : ∀ h', IsEnum h' (s.heap.objs.size + 1) s.heap.objs.size 0 .none → h'.IsTupleIter s.heap.objs.size l 0 → h'.objs.size = s.heap.objs.size + 2 → (∀ b o, s.heap.get? b = some o → h'.get? b = some o) → Q (.ref (s.heap.objs.size + 1)) { s with heap := h' }) :
    wpAny (model prog w) A (call (.type "enumerate") [.ref l]) Q E s := by
  obtain ⟨⟨c, dct, dt, sl⟩, hl, hc, n, hd⟩ := hT
  replace hc : c = .type "tuple" := hc
  replace hd : dt = .seq items n := hd
  subst hc hd
  refine callType_new F.called_enumerate (by decide) (F.typeCall_enumerate_1 _) (F.newCall_enumerate_1 _) (fun ob => F.args_object_init_2 ob _) F.entry_enumerate_new (meets_enumT l items n dct sl) ⟨hl, ?_⟩
  have hz : (s.heap.push { cls := .type "tuple_iterator", data := .fields #[.ref l, .int 0 0] }).objs.size = s.heap.objs.size + 1 := Heap.size_push ..
  show _ ∧ _; rw [hz]
  have he : IsEnum ((s.heap.push { cls := .type "tuple_iterator", data := .fields #[.ref l, .int 0 0] }).push { cls := .type "enumerate", data := .fields #[.none, .bool false, .ref s.heap.objs.size, rawInt 0, .none, .none] }) (s.heap.objs.size + 1) s.heap.objs.size 0 .none := by
    have z := Heap.get?_push_size (s.heap.push { cls := .type "tuple_iterator", data := .fields #[.ref l, .int 0 0] }) (o := { cls := .type "enumerate", data := .fields #[.none, .bool false, .ref s.heap.objs.size, rawInt 0, .none, .none] }) rfl
    rw [hz] at z; exact z
  exact ⟨⟨_, he, rfl⟩, q _ he ⟨_, Heap.get?_push_of_some _ (Heap.get?_push_size _ rfl), rfl, rfl⟩ (by rw [Heap.size_push, hz]) fun b o x => Heap.get?_push_of_some _ (Heap.get?_push_of_some _ x)⟩
def IteT (K : PySem.W.Frag) (a : Addr) : It :=
  ⟨fun i H => ∃ xs x, SqT K H a xs ∧ xs[i]? = some x, fun i H v H' => ∃ p x, v = .ref p ∧ H p = none ∧ H' = upd H p (.tup [.int (i : Nat), x]) ∧ ∀ xs, SqT K H a xs → xs[i]? = some x, fun i H => ∃ xs, SqT K H a xs ∧ xs.length ≤ i⟩
theorem turn_enumT {P : Program} {w : World} {K : PySem.W.Frag} {es : List Expr} {x1} {tp : Pos} (a e it : Addr) (hne : e ≠ it) : Turn P w K (.Tuple es x1 tp) (IteT K a) [e, it] e (fun i h => (∃ old, IsEnum h e it i old) ∧ h.IsTupleIter it a i) where
  mem := by simp
  obj := fun i h st b hb => by
    obtain ⟨⟨old, he⟩, ⟨o, ho, c, d⟩⟩ := st
    rcases List.mem_cons.mp hb with rfl | hb
    · exact ⟨_, he, fun v z => by cases z⟩
    · have q : b = it := by simpa using hb
      subst q
      exact ⟨o, ho, fun v z => by rw [d] at z; cases z⟩
  keep := fun i h h' st k => by
    obtain ⟨⟨old, he⟩, hi⟩ := st
    exact ⟨⟨old, k e (by simp) _ he⟩, hi.at fun o q => k it (by simp) o q⟩
  item := by
    intro X hP hw hK hc i pins s σ H E I hf st hg
    subst hP hw hK
    obtain ⟨xs, x, hq, hx⟩ := hg
    obtain ⟨⟨old, he⟩, hit⟩ := st
    obtain ⟨its, rv, p, hz⟩ := I.tuple hq
    obtain ⟨u, hu, ru⟩ := rv.get hx
    obtain ⟨a0, a1, a2, a3, a4, a5⟩ := hf e (by simp)
    obtain ⟨f0, f1, f2, f3, f4, f5⟩ := hf it (by simp)
    have pT : s.heap.IsTuple a its.toArray := p
    obtain ⟨oi, hoi, ci, di⟩ := id hit
    obtain ⟨oa, hoa, ca, _⟩ := id pT
    have n1 : a ≠ it := fun z => by
      rw [z, hoi] at hoa
      cases hoa
      rw [ca] at ci
      exact absurd ci (by decide)
    have n2 : a ≠ e := fun z => by
      rw [z, he] at hoa
      cases hoa
      exact absurd (show Value.type "enumerate" = Value.type "tuple" from ca) (by decide)
    refine wpAny_pyNext_enum_itemD (draws_tup (A := X.A.in1) (I.ok.hd hc) it a n1 its.toArray) he ⟨hit, pT⟩ (by
      have := (List.getElem?_eq_some_iff.mp hu).1
      simpa using this) hne (by
        intro z
        rcases List.mem_cons.mp z with z | z
        · exact hne z
        · exact n2 (List.mem_singleton.mp z).symm) fun x' h' tk hx' eo hst ht hsz hk => ⟨_, rfl, ?_⟩
    have ex : x' = u := by
      have z : its[i]? = some x' := by simpa using hx'
      rw [hu] at z
      exact (Option.some.inj z).symm
    subst ex
    refine wpAny_letOwnedTupleGo_enum eo fun h2 he2 sb2 => ?_
    have sb2' : Heap.SameBut e h' h2 := sb2
    have hn : H s.heap.objs.size = none := I.fresh
    have le : e < s.heap.objs.size := Heap.lt_size he
    have li : it < s.heap.objs.size := Heap.lt_size hoi
    have I1 : Inv X pins σ (upd H s.heap.objs.size (.tup [.int (i : Nat), x])) { s with heap := s.heap.push { cls := .type "tuple", data := .seq #[.int i tk, x'] }, toks := tk + 1 } :=
      I.laid (t' := tk + 1) (fun b ob q => Heap.get?_push_of_some _ q) (Nat.le_refl _) ⟨by rw [sizeLine_eq]; show 2 ≤ _; decide, [.int i tk, x'], .cons ⟨_, rfl⟩ (.cons ru .nil), IsTup.new _ _⟩
    obtain ⟨oi2, hoi2, ci2, di2⟩ := id hst.1
    have hoi3 : h2.get? it = some oi2 := (sb2'.2 it (Ne.symm hne)).trans hoi2
    have gi : ((s.heap.push { cls := .type "tuple", data := .seq #[.int i tk, x'] }).update it (fun _ => oi2)).get? it = some oi2 := Heap.get?_update_self _ (Heap.get?_push_of_some _ hoi) (Obj.isFreed_of_fields di2)
    have I2 := I1.turned (h' := (s.heap.push { cls := .type "tuple", data := .seq #[.int i tk, x'] }).update it (fun _ => oi2)) (t' := tk + 1) (it := it) (fun b o hb q => (Heap.get?_update_other _ _ (Ne.symm hb)).trans q) (by rw [upd_ne (Nat.ne_of_lt li)]; exact f0) f1 f3 f4 f5
    have I3 := I2.turned (h' := h2) (t' := tk + 1) (it := e) (fun b o hb q => by
      by_cases c : b = it
      · subst c
        have q' := gi.symm.trans q
        cases q'
        exact hoi3
      · have q1 : (s.heap.push { cls := .type "tuple", data := .seq #[.int i tk, x'] }).get? b = some o := (Heap.get?_update_other _ _ (Ne.symm c)).symm.trans q
        by_cases d : b = s.heap.objs.size
        · subst d
          have q2 := (Heap.get?_push_size s.heap (o := { cls := .type "tuple", data := .seq #[.int i tk, x'] }) rfl).symm.trans q1
          cases q2
          exact (sb2'.2 _ hb).trans ht
        · rw [Heap.get?_push_ne _ _ _ d] at q1
          exact (sb2'.2 b hb).trans (hk b o hb c q1)) (by rw [upd_ne (Nat.ne_of_lt le)]; exact a0) a1 a3 a4 a5
    refine ⟨.ref s.heap.objs.size, _, I3, rfl, ⟨s.heap.objs.size, x, rfl, hn, rfl, fun ys hy => by rw [I.tuple_inj hy hq]; exact hx⟩, ⟨⟨_, he2⟩, oi2, hoi3, ci2, di2⟩, fun b hb => ?_⟩
    rcases List.mem_cons.mp hb with rfl | hb
    · rw [upd_ne (Nat.ne_of_lt le)]; exact a0
    · have q : b = it := by simpa using hb
      subst q
      rw [upd_ne (Nat.ne_of_lt li)]; exact f0
  done := by
    intro X hP hw hK hc i pins s σ H E I hf st hg
    subst hP hw hK
    obtain ⟨xs, hq, hx⟩ := hg
    obtain ⟨⟨old, he⟩, hit⟩ := st
    obtain ⟨its, rv, p, hz⟩ := I.tuple hq
    have pT : s.heap.IsTuple a its.toArray := p
    obtain ⟨f0, f1, f2, f3, f4, f5⟩ := hf it (by simp)
    have hl := rv.length
    have hT : s.TypeIs (.ref e) "enumerate" := ⟨_, he, rfl⟩
    unfold pyNext
    refine wpAny_bind (wpAny_attempt (wpAny_callSpecial?_slot (name := Str.ofString "__next__") hT F.slot_enumerate_next (wpAny_call_entry F.slot_enumerate_next hT F.entry_enumerate_next ?_ (F.args_enumerate_next_1 _))))
    show wpAny _ _ (field (.ref e) 2 >>= _) _ _ _; refine wpAny_bind (wpAny_field he rfl (x := .ref it) rfl ?_)
    refine wpAny_bind (nextOf_tupE (I.ok.hd hc) hit pT (by simp; omega) fun h' x eb hx' => ?_)
    obtain ⟨o, ho, hc'⟩ := hx'
    exact wpAny_bind (wpAny_isInstance (T := "StopIteration") (b := true) ⟨o, ho, hc'⟩ isSubtype_stop (wpAny_pure ⟨rfl, I.turned (t' := s.toks) (fun b o hb e => eb b o hb e) f0 f1 f3 f4 f5⟩))
  self := fun _ _ _ _ _ st h => by
    obtain ⟨⟨old, he⟩, _⟩ := st
    exact wpAny_pyIter_enum he h
section
variable {X : Cx}
def iEnumT (K : PySem.W.Frag) (ta : TA) : TI := fun σ H R => ta σ H fun vs H1 => ∃ a xs, vs = [.ref a] ∧ SqT K H1 a xs ∧ R (IteT K a) H1
theorem pi_enumT {es : List Expr} {x1} {tp p pos : Pos} {l : Expr} {ta : TA} (hg : Gl X "enumerate") (hm : X.mg "enumerate" = none) (ha : PA X [l] ta) (hs : starEach [l] X.env = [(false, eval l X.env)] := by rfl) : PI X (.Tuple es x1 tp) (.Call (.Name "enumerate" p) [l] [] pos) (iEnumT X.K ta) := by
  intro pins s σ H R I h
  refine Call_ (ld_blt I hg hm boot_enumerate (PyProof.Rows.callWith_type1 (thn (ha pos pins s σ H _ I h) fun us s1 ⟨vs, H1, I1, r1, q1⟩ => ?_) hs rfl))
  obtain ⟨a, xs, rfl, hL, q⟩ := q1
  obtain ⟨u, rfl, ru⟩ := vals1 r1
  cases ru
  obtain ⟨its, rv, pT, hz⟩ := I1.tuple hL
  refine call_enumT (show s1.heap.IsTuple a its.toArray from pT) fun h' en li sz hk => ?_
  have I2 : Inv X pins σ H1 { s1 with heap := h' } := I1.kept (t' := s1.toks) hk
  refine wpAny_pyIter_enum en ⟨s1.heap.objs.size + 1, [s1.heap.objs.size + 1, s1.heap.objs.size], _, IteT X.K a, H1, rfl, I2, turn_enumT a _ _ (Nat.succ_ne_self _), ⟨⟨_, en⟩, li⟩, fun b hb => ?_, q⟩
  have hb' : s1.heap.objs.size ≤ b := by
    rcases List.mem_cons.mp hb with rfl | hb
    · exact Nat.le_succ _
    · have q : b = s1.heap.objs.size := by simpa using hb
      rw [q]
      exact Nat.le_refl _
  exact I1.fpOk (H' := H1) hb' (I1.hok.fresh hb')
end
end L2

namespace My
open PySem L2
/-! ### who wins a trick -/
theorem pos_le (x : Nat) : ∀ l : List Nat, pos x l ≤ l.length
  | [] => Nat.le_refl _
  | y :: l => by
    unfold pos
    have := pos_le x l
    split
    · exact Nat.zero_le _
    · exact Nat.succ_le_succ this
def rk (f : Fx) (t : Option Nat) (led c : Nat) : Nat :=
  if t = some (c / 8) then 20 + pos (c % 8) f.tr else if c / 8 = led then 10 + pos (c % 8) f.pl else 0
theorem over_rk {f : Fx} (ok : f.Ok) (t : Option Nat) (c o led : Nat) : overB f t c o led = decide (rk f t led o < rk f t led c) := by
  have l1 : ∀ x, pos x f.tr ≤ 8 := fun x => Nat.le_trans (pos_le x _) (by rw [perm_len ok.pt]; exact ok.h8)
  have l2 : ∀ x, pos x f.pl ≤ 8 := fun x => Nat.le_trans (pos_le x _) (by rw [perm_len ok.pp]; exact ok.h8)
  have a1 := l1 (c % 8)
  have a2 := l1 (o % 8)
  have a3 := l2 (c % 8)
  have a4 := l2 (o % 8)
  unfold rk
  by_cases s : c / 8 = o / 8
  · rw [ov_same s, ← s]
    by_cases c1 : t = some (c / 8)
    · rw [if_pos c1, if_pos c1, if_pos c1, decide_eq_true (Or.inr c1), Bool.true_and]
      exact decide_eq_decide.mpr ⟨fun h => by omega, fun h => by omega⟩
    · rw [if_neg c1, if_neg c1, if_neg c1]
      by_cases c2 : c / 8 = led
      · rw [if_pos c2, if_pos c2, decide_eq_true (Or.inl c2), Bool.true_and]
        exact decide_eq_decide.mpr ⟨fun h => by omega, fun h => by omega⟩
      · rw [if_neg c2, if_neg c2, decide_eq_false (fun z => z.elim c2 c1), Bool.false_and]
        exact (decide_eq_false (Nat.lt_irrefl 0)).symm
  · rw [ov_diff s]
    by_cases c1 : t = some (c / 8)
    · have c2 : ¬ t = some (o / 8) := fun z => s (by rw [c1] at z; exact Option.some.inj z)
      rw [if_pos c1, if_pos c1, if_neg c2]
      refine (decide_eq_true ?_).symm
      split <;> omega
    · rw [if_neg c1, if_neg c1]
      by_cases c2 : t = some (o / 8)
      · rw [if_pos c2, decide_eq_true c2]
        show (decide (c / 8 = led) && false) = _
        rw [Bool.and_false]
        refine (decide_eq_false ?_).symm
        split <;> omega
      · rw [if_neg c2, decide_eq_false c2]
        show (decide (c / 8 = led) && true) = _
        rw [Bool.and_true]
        by_cases c3 : c / 8 = led
        · rw [if_pos c3, if_neg (fun z => s (c3.trans z.symm)), decide_eq_true c3]
          exact (decide_eq_true (by omega)).symm
        · rw [if_neg c3, decide_eq_false c3]
          exact (decide_eq_false (Nat.not_lt_zero _)).symm
theorem rk_inj {f : Fx} (ok : f.Ok) {t : Option Nat} {led c o : Nat} (hc : c % 8 < f.h) (ho : o % 8 < f.h) (h10 : 10 ≤ rk f t led c) (e : rk f t led c = rk f t led o) : c = o := by
  by_cases ne : c = o
  · exact ne
  · exfalso
    have l1 : ∀ x, pos x f.tr ≤ 8 := fun x => Nat.le_trans (pos_le x _) (by rw [perm_len ok.pt]; exact ok.h8)
    have l2 : ∀ x, pos x f.pl ≤ 8 := fun x => Nat.le_trans (pos_le x _) (by rw [perm_len ok.pp]; exact ok.h8)
    have st : ∀ c, 10 ≤ rk f t led c → c / 8 = led ∨ t = some (c / 8) := fun c h => by
      unfold rk at h
      by_cases c1 : t = some (c / 8)
      · exact .inr c1
      · rw [if_neg c1] at h
        by_cases c2 : c / 8 = led
        · exact .inl c2
        · rw [if_neg c2] at h
          omega
    rcases over_strong ok (t := t) (led := led) hc ho ne (st c h10) (st o (by omega)) with z | z
    · rw [over_rk ok, decide_eq_true_eq] at z
      omega
    · rw [over_rk ok, decide_eq_true_eq] at z
      omega
theorem rk_led (f : Fx) (t : Option Nat) (c : Nat) : 10 ≤ rk f t (c / 8) c := by
  unfold rk
  by_cases c1 : t = some (c / 8)
  · rw [if_pos c1]; omega
  · rw [if_neg c1, if_pos rfl]; omega
/-- the card of that number goes over all others -/
def Win (f : Fx) (t : Option Nat) (led : Nat) (ys : List Nat) (h : Nat) : Prop := ∃ m, ys[h]? = some m ∧ ∀ c ∈ ys, c ≠ m → overB f t m c led = true
structure Trk (f : Fx) (ys : List Nat) : Prop where
  nd : ys.Nodup
  ht : ∀ c ∈ ys, c % 8 < f.h
  ne : 0 < ys.length
def ledOf (ys : List Nat) : Nat := ys.getD 0 0 / 8
theorem win_of {f : Fx} (ok : f.Ok) {t : Option Nat} {ys : List Nat} (T : Trk f ys) {h : Nat} (hh : h < ys.length) (hm : ∀ j, j < ys.length → rk f t (ledOf ys) (ys.getD j 0) ≤ rk f t (ledOf ys) (ys.getD h 0)) : Win f t (ledOf ys) ys h := by
  have at_ : ∀ i, i < ys.length → ys[i]? = some (ys.getD i 0) := fun i hi => by rw [List.getD_eq_getElem?_getD, List.getElem?_eq_getElem hi]; rfl
  refine ⟨_, at_ h hh, fun c hc n => ?_⟩
  obtain ⟨j, hj, e⟩ := List.mem_iff_getElem.mp hc
  have ej : ys.getD j 0 = c := by rw [List.getD_eq_getElem?_getD, List.getElem?_eq_getElem hj, e]; rfl
  have m0 := rk_led f t (ys.getD 0 0)
  have m1 := hm 0 T.ne
  have mj := hm j hj
  rw [ej] at mj
  have hmem : ys.getD h 0 ∈ ys := List.mem_of_getElem? (at_ h hh)
  rw [over_rk ok, decide_eq_true_eq]
  rcases Nat.lt_or_eq_of_le mj with z | z
  · exact z
  · exact absurd (rk_inj ok (T.ht _ hmem) (T.ht c hc) (Nat.le_trans m0 m1) z.symm).symm n
theorem win_card {f : Fx} {t : Option Nat} {led : Nat} {ys zs : List Nat} (hp : ∀ c, c ∈ ys ↔ c ∈ zs) {h k : Nat} (a : Win f t led ys h) (b : Win f t led zs k) : ys[h]? = zs[k]? := by
  obtain ⟨m, hm, am⟩ := a
  obtain ⟨n, hn, bn⟩ := b
  by_cases e : m = n
  · rw [hm, hn, e]
  · exfalso
    have x := am n ((hp n).mpr (List.mem_of_getElem? hn)) (Ne.symm e)
    have y := bn m ((hp m).mp (List.mem_of_getElem? hm)) e
    exact over_not_both f t m n led x y
theorem nd_at {ys : List Nat} (nd : ys.Nodup) {i j : Nat} {c : Nat} (a : ys[i]? = some c) (b : ys[j]? = some c) : i = j := by
  obtain ⟨hi, ei⟩ := List.getElem?_eq_some_iff.mp a
  obtain ⟨hj, ej⟩ := List.getElem?_eq_some_iff.mp b
  have pw := List.pairwise_iff_getElem.mp nd
  rcases Nat.lt_trichotomy i j with z | z | z
  · exact absurd (ei.trans ej.symm) (pw i j hi hj z)
  · exact z
  · exact absurd (ej.trans ei.symm) (pw j i hj hi z)
theorem win_uniq {f : Fx} {t : Option Nat} {led : Nat} {ys : List Nat} (nd : ys.Nodup) {h k : Nat} (a : Win f t led ys h) (b : Win f t led ys k) : h = k := by
  have e := win_card (fun _ => Iff.rfl) a b
  obtain ⟨m, hm, _⟩ := a
  exact nd_at nd hm (e.symm.trans hm)
/-- all but the first turned about -/
def turnA : List Nat → List Nat
  | [] => []
  | y :: l => y :: l.reverse
theorem turnA_perm : ∀ ys : List Nat, (turnA ys).Perm ys
  | [] => .nil
  | _ :: l => (List.reverse_perm l).cons _
theorem turnA_led (ys : List Nat) : ledOf (turnA ys) = ledOf ys := by cases ys <;> rfl
theorem Trk.turn {f : Fx} {ys : List Nat} (T : Trk f ys) : Trk f (turnA ys) :=
  ⟨(turnA_perm ys).nodup_iff.mpr T.nd, fun c hc => T.ht c ((turnA_perm ys).mem_iff.mp hc), by rw [(turnA_perm ys).length_eq]; exact T.ne⟩
/-! ### for i, x in enumerate(t) -/
theorem for_enumT {K : PySem.W.Frag} {a : Addr} {xs : List V} {g : TG} {tb : TS} {D : Ends} {σ : St} {H : Hp} (Pv : Nat → St → Hp → Prop) (h0 : Pv 0 σ H) (hS : ∀ i σ H, Pv i σ H → SqT K H a xs)
    (hs : ∀ i x p σ H, xs[i]? = some x → Pv i σ H → H p = none → g (.ref p) σ (upd H p (.tup [.int (i : Nat), x])) fun σ2 H2 => tb { D with nx := Pv (i + 1), ct := Pv (i + 1), bk := D.nx } σ2 H2) (hd : ∀ σ H, Pv xs.length σ H → D.nx σ H) :
    ∃ W : Nat → Nat → St → Hp → Prop, (∃ m, W 0 m σ H) ∧ ∀ i m σ H, W i m σ H →
      ((IteT K a).stop i H ∧ D.nx σ H) ∨ ((IteT K a).go i H ∧ ∃ N : St → Hp → Prop, (∀ σ' H', N σ' H' → ∃ m', m' < m ∧ W (i + 1) m' σ' H') ∧ ∀ v H', (IteT K a).yld i H v H' → g v σ H' fun σ2 H2 => tb { D with nx := N, ct := N, bk := D.nx } σ2 H2) := by
  refine ⟨fun i m σ H => m = xs.length - i ∧ i ≤ xs.length ∧ Pv i σ H, ⟨xs.length, by simp, Nat.zero_le _, h0⟩, ?_⟩
  rintro i m σ H ⟨rfl, hi, p⟩
  have sa := hS i σ H p
  by_cases hlt : i < xs.length
  · refine .inr ⟨⟨xs, _, sa, List.getElem?_eq_getElem hlt⟩, Pv (i + 1), fun σ' H' p' => ⟨xs.length - (i + 1), by omega, rfl, hlt, p'⟩, fun v H' y => ?_⟩
    obtain ⟨q, x, rfl, hq, rfl, hx⟩ := y
    exact hs i x q σ H (hx xs sa) p hq
  · have e : i = xs.length := by omega
    subst e
    exact .inl ⟨⟨xs, sa, Nat.le_refl _⟩, hd σ H p⟩
end My

namespace My
open PySem L2
abbrev sWinner : Stmt := inClass (top 30) 4
abbrev sTrick : Stmt := top 40
abbrev sDue : Stmt := top 41
abbrev sNumber : Stmt := top 42
abbrev sLaw : Stmt := top 43
theorem vN_get {ys : List Nat} {i : Nat} {x : V} (h : (vN ys)[i]? = some x) : ∃ c, ys[i]? = some c ∧ x = .int (c : Nat) := by
  unfold vN at h
  rw [List.getElem?_map] at h
  cases e : ys[i]? with
  | none => rw [e] at h; cases h
  | some c => rw [e] at h; exact ⟨c, rfl, (Option.some.inj h).symm⟩
theorem at_vN {ys : List Nat} {i : Nat} (h : i < ys.length) : atI (vN ys) (i : Nat) = some (.int ((ys.getD i 0 : Nat) : Int)) := by
  have e : (vN ys)[i]? = some (.int ((ys.getD i 0 : Nat) : Int)) := by
    unfold vN
    rw [List.getElem?_map, List.getElem?_eq_getElem h, List.getD_eq_getElem?_getD, List.getElem?_eq_getElem h]
    rfl
  exact atI_nat e
theorem getD_of {ys : List Nat} {i c : Nat} (h : ys[i]? = some c) : ys.getD i 0 = c := by rw [List.getD_eq_getElem?_getD, h]; rfl
theorem lt_of {ys : List Nat} {i c : Nat} (h : ys[i]? = some c) : i < ys.length := (List.getElem?_eq_some_iff.mp h).1
section
variable {P : Program} {w : World} {K : PySem.W.Frag} {mg : Str → Option Value} {base : Heap} {f g : Addr} {fd gd : FuncData}
/-! ### a number -/
def spNumber : Sp := fun vs H Q _ => ∃ i j : Int, vs = [.int i, .int j] ∧ Q (.bl (decide (V.int i = V.int j))) H
abbrev pNumber : List Str := ["_law_found", "_law_due_here"]
theorem scNumber : FnScope pNumber pNumber (defScope sNumber) := ⟨rfl, rfl, rfl, by decide +kernel, rfl, by decide +kernel, by decide +kernel⟩
theorem ok_number {k : Nat} (F : Fun K "_law_number" "_law_number" sNumber f fd) (mi : mg "isinstance" = none) (mI : mg "int" = none) (mB : mg "bool" = none) : FnOk P w K mg base CX0 (k + 1) f fd pNumber spNumber := by
  refine F.ok scNumber (fun vs H Q E h => ?_) (fun cdv A outer s H vs Q E hr h => ?_)
  · obtain ⟨i, j, rfl, _⟩ := h
    rfl
  obtain ⟨i, j, rfl, q⟩ := h
  refine ⟨_, pss_one (ps_ret (pe_and (pe_callB call_isT rfl mi PyProof.Rows.boot_isinstance (pa_cons (pv 0) (pa_cons (pe_bltn (v := .ty "int") rfl mI PyProof.Rows.boot_int rfl) pa_nil)))
    (pe_and (pe_not (pe_callB call_isT rfl mi PyProof.Rows.boot_isinstance (pa_cons (pv 0) (pa_cons (pe_bltn (v := .ty "bool") rfl mB PyProof.Rows.boot_bool rfl) pa_nil)))) (pe_one (pe_cmpR op_eq (pv 0) (pv 1) (nomark _)))))), ?_⟩
  refine ⟨_, rfl, _, _, _, true, rfl, .int i, rfl, true, rfl, iteT ?_⟩
  refine ⟨_, rfl, _, _, _, false, rfl, .int i, by with_unfolding_all rfl, false, rfl, true, rfl, iteT ?_⟩
  exact ⟨_, rfl, _, rfl, rfl, q⟩
/-! ### the winner -/
def spWinner (K : PySem.W.Frag) (CT CG : Addr) : Sp := fun vs H Q _ => ∃ (gm x p : Addr) (t : Option Nat) (f : Fx) (ys : List Nat), vs = [.ref gm, .ref p] ∧ f.Ok ∧ IsGam CG x (tvV t) H gm ∧ IsTab CT f H x ∧ SqT K H p (vN ys) ∧ Trk f ys ∧ ∀ h H', Same H H' → Win f t (ledOf ys) ys h → Q (.int (h : Nat)) H'
abbrev nWinner : List Str := ["self", "trick", "led", "highest", "number", "card"]
theorem scWinner : FnScope nWinner ["self", "trick"] (defScope sWinner) := ⟨rfl, rfl, rfl, by decide +kernel, rfl, by decide +kernel, by decide +kernel⟩
theorem ok_winner {k : Nat} {CT CG m3 : Addr} {e3 : FuncData} {t1 : Tok} (F : Fun K "winner" "Game.winner" sWinner f fd) (CGm : GamC K mg CG) (MV : Meth K CG "is_over" m3) (FV : FnOk P w K mg base CX0 k m3 e3 pOver (spOver CT CG)) (BV : Binds K e3 pOver []) (mH : mg "HEIGHTS" = some (.int 8 t1)) (me : mg "enumerate" = none) :
    FnOk P w K mg base CX0 (k + 1) f fd ["self", "trick"] (spWinner K CT CG) := by
  refine F.ok scWinner (fun vs H Q E h => ?_) (fun cdv A outer s H vs Q E hr h => ?_)
  · obtain ⟨gm, x, p, t, fx, ys, rfl, _⟩ := h
    rfl
  obtain ⟨gm, x, p, t, fx, ys, rfl, ok, hg, ht, hT, T, q⟩ := h
  refine ⟨_, pss_cons (ps_set (i := 2) scWinner.nd rfl (Or.inl rfl) (pe_op op_fdiv (pe_ix ix_tup (pv 1) pe_int (fun _ _ => rfl)) (pe_glob (v := .int 8) rfl mH ⟨_, rfl⟩)))
    (pss_cons (ps_set (i := 3) scWinner.nd rfl (Or.inl rfl) pe_int)
    (pss_cons (ps_for PassesOwn.never rfl (pi_enumT rfl me (pa_cons (pv 1) pa_nil)) (pg_tup rfl (pgs_cons (pg_name (i := 4) scWinner.nd rfl (Or.inl rfl)) (pgs_cons (pg_name (i := 5) scWinner.nd rfl (Or.inl rfl)) pgs_nil)))
      (pss_one (ps_if (pt_truth (pe_meth (pv 0) CGm.cl MV FV hr BV .nil pass0 (pa_cons (pv 5) (pa_cons (pe_ix ix_tup (pv 1) (pv 3) (fun _ _ => rfl)) (pa_cons (pv 2) pa_nil)))) (fun _ => rfl)) (pss_one (ps_set (i := 3) scWinner.nd rfl (Or.inl rfl) (pv 4))) pss_nil)))
    (pss_one (ps_ret (pv 3))))), ?_⟩
  have e0 : (((ys.getD 0 0 : Nat) : Int) / 8) = ((ledOf ys : Nat) : Int) := by unfold ledOf; omega
  refine ⟨_, rfl, p, _, _, _, rfl, rfl, hT, at_vN (i := 0) T.ne, _, _, rfl, rfl, ⟨by decide, by decide⟩, ?_⟩
  refine ⟨_, rfl, p, _, rfl, hT, ?_⟩
  refine for_enumT (K := K) (a := p) (xs := vN ys) (fun i σ H' => Same H H' ∧ ∃ (h : Nat) (x4 x5 : Option V), σ = [some (.ref gm), some (.ref p), some (.int ((ledOf ys : Nat) : Int)), some (.int (h : Nat)), x4, x5] ∧ h < ys.length ∧ ∀ j < i, rk fx t (ledOf ys) (ys.getD j 0) ≤ rk fx t (ledOf ys) (ys.getD h 0))
    ⟨Same.refl H, 0, none, none, ?_, T.ne, fun j hj => absurd hj (Nat.not_lt_zero _)⟩ (fun i σ H1 z => z.1.seqT hT) (fun i v r σ H1 hv z hr1 => ?_) (fun σ H1 z => ?_)
  · show [_, _, some (V.int (((ys.getD 0 0 : Nat) : Int) / 8)), _, _, _] = _
    rw [e0]
    rfl
  · obtain ⟨s1, h, x4, x5, rfl, hh, hm⟩ := z
    obtain ⟨c, hc, rfl⟩ := vN_get hv
    have s2 := s1.trans (same_upd hr1 (.tup [.int (i : Nat), .int (c : Nat)]))
    refine ⟨r, _, rfl, SqT.of upd_same, rfl, _, _, rfl, _, _, rfl, rfl, ?_⟩
    obtain ⟨dg, hG⟩ := id (hg.same s2)
    have cm : c ∈ ys := List.mem_of_getElem? hc
    have hmem : ys.getD h 0 ∈ ys := by
      rw [List.getD_eq_getElem?_getD, List.getElem?_eq_getElem hh]
      exact List.getElem_mem _
    refine ⟨_, rfl, gm, dg, _, rfl, hG, gam_none _ _ _ (by decide +kernel) (by decide +kernel), _, rfl, _, rfl, _, rfl, p, _, _, _, rfl, rfl, s2.seqT hT, at_vN hh, _, rfl, gm, x, t, fx, c, ys.getD h 0, ledOf ys, rfl, ok, hg.same s2, ht.same s2, T.ht c cm, T.ht _ hmem, fun H3 s3 => ⟨_, rfl, ?_⟩⟩
    rw [over_rk ok]
    have gc := getD_of hc
    refine ite2 (fun y => ?_) fun y => ?_
    · have y := of_decide_eq_true y
      refine ⟨_, rfl, s2.trans s3, i, _, _, rfl, lt_of hc, fun j hj => ?_⟩
      rw [gc]
      rcases Nat.lt_or_eq_of_le (Nat.le_of_lt_succ hj) with z | z
      · exact Nat.le_trans (hm j z) (Nat.le_of_lt y)
      · rw [z, gc]
        exact Nat.le_refl _
    · have y : ¬ rk fx t (ledOf ys) (ys.getD h 0) < rk fx t (ledOf ys) c := fun z => y (decide_eq_true z)
      refine ⟨s2.trans s3, h, _, _, rfl, hh, fun j hj => ?_⟩
      rcases Nat.lt_or_eq_of_le (Nat.le_of_lt_succ hj) with z | z
      · exact hm j z
      · rw [z, gc]
        exact Nat.le_of_not_lt y
  · obtain ⟨s1, h, x4, x5, rfl, hh, hm⟩ := z
    rw [vN_len] at hm
    exact ⟨_, rfl, q h H1 s1 (win_of ok T hh hm)⟩
end
end My

namespace L2
open PySem PySem.Spec PyProof.Rows
theorem pt_truthB {X : Cx} {a : Expr} {ta : TE} (ha : PE X a ta) (he : ∀ whole, isTrue a X.env whole = (do let v ← whole; standAt a.pos; holding [v] (truthy v))) : PT X a (tTest ta) := by
  intro pins s σ H Q I h
  exact isTrue_plain (thn (ha pins s σ H _ I h) fun v s1 ⟨x, H1, I1, r1, k, e, q1⟩ => tru_ok pins s1 σ H1 x v Q I1 r1 ⟨k, by subst e; rfl, q1⟩) (he _)
end L2
namespace My
open PySem L2
theorem nd_snoc {ys : List Nat} {c : Nat} (h : c ∉ ys) (nd : ys.Nodup) : (ys ++ [c]).Nodup := (List.perm_append_singleton c ys).nodup_iff.mpr (List.nodup_cons.mpr ⟨h, nd⟩)
theorem vN_snoc (ys : List Nat) (c : Nat) : vN ys ++ [.int (c : Nat)] = vN (ys ++ [c]) := by unfold vN; rw [List.map_append]; rfl
section
variable {P : Program} {w : World} {K : PySem.W.Frag} {mg : Str → Option Value} {base : Heap} {f g : Addr} {fd gd : FuncData}
/-! ### a trick drawn -/
def spTrick (K : PySem.W.Frag) : Sp := fun vs H Q _ => ∃ (a l : Addr) (ns : List Int) (f : Fx) (at_ most : Nat), vs = [.ref a, .int (at_ : Nat), .ref l, .int (most : Nat)] ∧ SqL K H a (ns.map V.int) ∧ at_ ≤ 100 ∧ f.Ok ∧ IsFx f H l ∧ most ≤ 4 ∧
  ∀ p ys H', Same H H' → H p = none → H' p = some (.lst (vN ys)) → ys.Nodup → (∀ c ∈ ys, c / 8 < f.s ∧ c % 8 < f.h) → ys.length ≤ most → (0 < most → 0 < ys.length) → Q (.ref p) H'
abbrev pTrick : List Str := ["_law_script", "_law_at", "_law_facts", "_law_most"]
abbrev nTrick : List Str := ["_law_script", "_law_at", "_law_facts", "_law_most", "_law_trick_here", "_law_k", "_law_cell_here", "_law_card_here", "_law_turn"]
theorem scTrick : FnScope nTrick pTrick (defScope sTrick) := ⟨rfl, rfl, rfl, by decide +kernel, rfl, by decide +kernel, by decide +kernel⟩
theorem ok_trick {k : Nat} {f1 f2 f3 : Addr} {d1 d2 d3 : FuncData} (F : Fun K "_law_trick" "_law_trick" sTrick f fd) (LC : Lib P w K mg base k "_law_cell" pCell (spCell K) f1 d1) (LX : Lib P w K mg base k "_law_mixed" ["_law_cell_here", "_law_k"] spMixed f2 d2) (LD : Lib P w K mg base k "_law_card" ["_law_cell_here", "_law_facts"] (spCard K) f3 d3) (mr : mg "range" = none) :
    FnOk P w K mg base CX0 (k + 1) f fd pTrick (spTrick K) := by
  refine F.ok scTrick (fun vs H Q E h => ?_) (fun cdv A outer s H vs Q E hr h => ?_)
  · obtain ⟨a, l, ns, fx, at_, most, rfl, _⟩ := h
    rfl
  obtain ⟨a, l, ns, fx, at_, most, rfl, hS, h100, ok, hF, h4, q⟩ := h
  refine ⟨_, pss_cons (ps_set (i := 4) scTrick.nd rfl (Or.inl rfl) (pe_lst pa_nil))
    (pss_cons (ps_for PassesOwn.never rfl (pi_range1 rfl mr (pa_cons (pv 3) pa_nil)) (pg_name (i := 5) scTrick.nd rfl (Or.inl rfl))
      (pss_cons (ps_set (i := 6) scTrick.nd rfl (Or.inl rfl) (pe_call LX.ok hr rfl LX.mg LX.kp LX.bd .nil pass0 (pa_cons (pe_call LC.ok hr rfl LC.mg LC.kp LC.bd .nil pass0 (pa_cons (pv 0) (pa_cons (pe_op op_add (pv 1) (pv 5)) pa_nil))) (pa_cons pe_int pa_nil))))
      (pss_cons (ps_set (i := 7) scTrick.nd rfl (Or.inl rfl) (pe_call LD.ok hr rfl LD.mg LD.kp LD.bd .nil pass0 (pa_cons (pv 6) (pa_cons (pv 2) pa_nil))))
      (pss_cons (ps_for PassesOwn.never rfl (pi_range1 rfl mr (pa_cons (pe_op op_mul (pe_ix ix_list (pv 2) pe_int (fun _ _ => rfl)) (pe_ix ix_list (pv 2) pe_int (fun _ _ => rfl))) pa_nil)) (pg_name (i := 8) scTrick.nd rfl (Or.inl rfl))
        (pss_one (ps_if (pt_cmpR op_in_seq (pv 7) (pv 4) rfl) (pss_one (ps_set (i := 7) scTrick.nd rfl (Or.inl rfl) (pe_call LD.ok hr rfl LD.mg LD.kp LD.bd .nil pass0 (pa_cons (pe_op op_add (pe_op op_add (pv 6) (pv 8)) pe_int) (pa_cons (pv 2) pa_nil))))) pss_nil)))
      (pss_one (ps_if (pt_cmpR op_notIn_seq (pv 7) (pv 4) rfl) (pss_one (ps_expr (pe_bm PySem.F.plainAttrs_list PySem.F.slot_list_append PySem.F.type_list_append mt_append (pv 4) (pa_cons (pv 7) pa_nil)))) pss_nil))))))
    (pss_one (ps_ret (pv 4)))), ?_⟩
  refine ⟨fits3 0 (by decide), fun p hp => ?_⟩
  have s0 := same_upd hp (.lst [])
  refine ⟨_, rfl, ((most : Nat) : Int), rfl, by omega, by omega, ?_⟩
  refine for_range (n := most) (fun i σ H' => Same H H' ∧ ∃ (ys : List Nat) (x5 x6 x7 x8 : Option V), σ = [some (.ref a), some (.int (at_ : Nat)), some (.ref l), some (.int (most : Nat)), some (.ref p), x5, x6, x7, x8] ∧ H' p = some (.lst (vN ys)) ∧ ys.Nodup ∧ (∀ c ∈ ys, c / 8 < fx.s ∧ c % 8 < fx.h) ∧ ys.length ≤ i ∧ (0 < i → 0 < ys.length))
    ⟨s0, [], none, none, none, none, rfl, upd_same, List.nodup_nil, (fun c hc => nomatch hc), Nat.le_refl _, fun z => absurd z (Nat.lt_irrefl _)⟩ (fun i σ H1 hi z => ?_) (fun σ H1 z => ?_)
  · obtain ⟨s1, ys, x5, x6, x7, x8, rfl, g, nd, hb, hl, h0⟩ := z
    have ei : ((at_ : Nat) : Int) + (0 + (i : Nat)) = ((at_ + i : Nat) : Int) := by omega
    refine ⟨_, rfl, _, rfl, _, rfl, _, _, rfl, rfl, a, ns, at_ + i, (show [V.ref a, V.int (((at_ : Nat) : Int) + (0 + (i : Nat)))] = _ by rw [ei]), s1.seq hS, by omega, fun z2 => ⟨z2, 5, rfl, by decide, fun z3 hz3 => ?_⟩⟩
    have hF1 := hF.same s1
    refine ⟨_, rfl, _, rfl, z3, l, fx, rfl, ok, hF1, fun c hc1 hc2 => ?_⟩
    obtain ⟨pl, tr, hL, _, _⟩ := id hF1
    have hsh := Nat.mul_le_mul ok.s4 ok.h8
    have em : ((fx.s : Nat) : Int) * ((fx.h : Nat) : Int) = ((fx.s * fx.h : Nat) : Int) := (Int.natCast_mul _ _).symm
    have s4 := ok.s4
    have h8 := ok.h8
    refine ⟨_, rfl, l, _, 0, .int (fx.s : Nat), rfl, rfl, SqL.of hL, rfl, _, rfl, l, _, 1, .int (fx.h : Nat), rfl, rfl, SqL.of hL, rfl, _, _, rfl, rfl, .inl ⟨by omega, by omega⟩, ((fx.s * fx.h : Nat) : Int), (show [V.int (((fx.s : Nat) : Int) * ((fx.h : Nat) : Int))] = _ by rw [em]), by omega, by omega, ?_⟩
    refine for_range (n := fx.s * fx.h) (fun j σ H' => H' = H1 ∧ ∃ (c : Nat) (x8 : Option V), σ = [some (.ref a), some (.int (at_ : Nat)), some (.ref l), some (.int (most : Nat)), some (.ref p), some (.int (0 + (i : Nat))), some (.int z3), some (.int (c : Nat)), x8] ∧ c / 8 < fx.s ∧ c % 8 < fx.h)
      ⟨rfl, c, _, rfl, hc1, hc2⟩ (fun j σ H2 hj z => ?_) (fun σ H2 z => ?_)
    · obtain ⟨rfl, c, x8, rfl, b1, b2⟩ := z
      refine ⟨_, rfl, _, rfl, p, _, rfl, .inl (SqL.of g), rfl, vN_flat ys, _, rfl, ite2 (fun y => ?_) fun y => ?_⟩
      · exact ⟨_, rfl, _, rfl, _, _, rfl, rfl, _, _, rfl, rfl, _, rfl, _, l, fx, rfl, ok, hF1, fun n n1 n2 => ⟨rfl, n, _, rfl, n1, n2⟩⟩
      · exact ⟨rfl, c, _, rfl, b1, b2⟩
    · obtain ⟨rfl, c, x8, rfl, b1, b2⟩ := z
      refine ⟨_, rfl, _, rfl, p, _, rfl, .inl (SqL.of g), rfl, vN_flat ys, _, rfl, ?_⟩
      show (if (!inV (.int (c : Nat)) (vN ys)) = true then _ else _)
      rw [in_vN]
      by_cases m : c ∈ ys
      · rw [decide_eq_true m]
        exact iteF ⟨s1, ys, _, _, _, _, rfl, g, nd, hb, by omega, fun _ => List.length_pos_of_mem m⟩
      · rw [decide_eq_false m]
        refine iteT ⟨_, rfl, .inl ⟨rfl, _, SqL.of g⟩, _, rfl, p, vN ys, _, rfl, rfl, g, (by rw [vN_len]; have := fits3 100 (by decide); omega), ?_⟩
        rw [vN_snoc]
        refine ⟨fun b o hb' => ?_, ys ++ [c], _, _, _, _, rfl, upd_same, nd_snoc m nd, fun d hd => ?_, ?_, fun _ => ?_⟩
        · rw [upd_ne (fun z => by rw [z, hp] at hb'; cases hb')]
          exact s1 _ _ hb'
        · rcases List.mem_append.mp hd with z | z
          · exact hb d z
          · rw [List.mem_singleton.mp z]
            exact ⟨b1, b2⟩
        · rw [List.length_append]
          show ys.length + 1 ≤ i + 1
          omega
        · rw [List.length_append]
          exact Nat.succ_pos _
  · obtain ⟨s1, ys, x5, x6, x7, x8, rfl, g, nd, hb, hl, h0⟩ := z
    exact ⟨_, rfl, q p ys H1 s1 hp g nd hb hl h0⟩
/-! ### which card is due -/
def spDue (K : PySem.W.Frag) : Sp := fun vs H Q _ => ∃ (l p : Addr) (f : Fx) (t : Option Nat) (ys : List Nat), vs = [.ref l, tvV t, .ref p] ∧ f.Ok ∧ IsFx f H l ∧ SqL K H p (vN ys) ∧ Trk f ys ∧ ys.length ≤ 32 ∧ (∃ h, Win f t (ledOf ys) ys h) ∧ ∀ h H', Same H H' → Win f t (ledOf ys) ys h → Q (.int (h : Nat)) H'
abbrev pDue : List Str := ["_law_facts", "_law_trump_here", "_law_trick_here"]
abbrev nDue : List Str := ["_law_facts", "_law_trump_here", "_law_trick_here", "_law_k", "_law_lost"]
abbrev nLost : List Str := ["_law_other", "_law_trick_here", "_law_k", "_law_facts", "_law_trump_here"]
theorem scDue : FnScope nDue pDue (defScope sDue) := ⟨rfl, rfl, rfl, by decide +kernel, rfl, by decide +kernel, by decide +kernel⟩
def lostB (f : Fx) (t : Option Nat) (led m : Nat) (x : V) : Bool := match x with | .int i => !decide (i.toNat = m) && !overB f t m i.toNat led | _ => false
theorem lost_nil {f : Fx} {t : Option Nat} {led m : Nat} {ys : List Nat} : ((vN ys).filter (lostB f t led m)).map (fun x => x) = [] ↔ ∀ c ∈ ys, c ≠ m → overB f t m c led = true := by
  rw [List.map_id', List.filter_eq_nil_iff]
  constructor
  · intro h c hc n
    have z := h (.int (c : Nat)) (List.mem_map.mpr ⟨c, hc, rfl⟩)
    have z' : ¬ (!decide (((c : Nat) : Int).toNat = m) && !overB f t m (((c : Nat) : Int).toNat) led) = true := z
    rw [Int.toNat_natCast, decide_eq_false n] at z'
    cases e : overB f t m c led with
    | true => rfl
    | false => rw [e] at z'; exact absurd rfl z'
  · intro h x hx
    obtain ⟨c, hc, rfl⟩ := List.mem_map.mp hx
    show ¬ (!decide (((c : Nat) : Int).toNat = m) && !overB f t m (((c : Nat) : Int).toNat) led) = true
    rw [Int.toNat_natCast]
    by_cases n : c = m
    · rw [decide_eq_true n]
      exact Bool.false_ne_true
    · rw [h c hc n, decide_eq_false n]
      exact Bool.false_ne_true
theorem ok_due {k : Nat} {f1 : Addr} {d1 : FuncData} (F : Fun K "_law_due" "_law_due" sDue f fd) (LV : Lib P w K mg base k "_law_over" pLOver (spLOver K) f1 d1) (mr : mg "range" = none) (ml : mg "len" = none) :
    FnOk P w K mg base CX0 (k + 1) f fd pDue (spDue K) := by
  refine F.ok scDue (fun vs H Q E h => ?_) (fun cdv A outer s H vs Q E hr h => ?_)
  · obtain ⟨l, p, fx, t, ys, rfl, _⟩ := h
    rfl
  obtain ⟨l, p, fx, t, ys, rfl, ok, hF, hS, T, h32, ⟨w0, hw⟩, q⟩ := h
  refine ⟨_, pss_cons (ps_for PassesOwn.never rfl (pi_range1 rfl mr (pa_cons (pe_callB call_len_seq rfl ml PySem.boot_len (pa_cons (pv 2) pa_nil)) pa_nil)) (pg_name (i := 3) scDue.nd rfl (Or.inr rfl))
      (pss_cons (ps_setcomp (i := 4) nLost [none, some 2, some 3, some 0, some 1] rfl scDue.nd rfl (Or.inl rfl) (Blk.by (sc := defScope sDue) (N0 := nDue) rfl rfl (by decide +kernel)) (pi_list (pv 2)) (fun C s₀ H₀ ex => pg_name (i := 0) (show nLost.Nodup by decide +kernel) rfl (Or.inl rfl))
          (fun C s₀ H₀ ex => pf_one (PW.pt (pw_and (pt_cmpR op_ne (pv 0) (pe_ix (show IxR _ (rIxL K) from ix_list) (pv 1) (pv 2) (fun _ _ => rfl)) (nomark _))
            (pw_and1 (pt_not (pt_truthB (pe_call LV.ok hr rfl LV.mg LV.kp LV.bd .nil pass0 (pa_cons (pv 3) (pa_cons (pv 4) (pa_cons (pe_ix (show IxR _ (rIxL K) from ix_list) (pv 1) (pv 2) (fun _ _ => rfl)) (pa_cons (pv 0) (pa_cons (pe_op op_fdiv (pe_ix (show IxR _ (rIxL K) from ix_list) (pv 1) pe_int (fun _ _ => rfl)) pe_int) pa_nil)))))) (fun _ => rfl))))))) (fun C s₀ H₀ ex => pv 0))
      (pss_one (ps_if (pt_cmpR (op_eqNil hr.units) (pv 4) (pe_lst pa_nil) (nomark _)) (pss_one (ps_ret (pv 3))) pss_nil))))
    (pss_one (ps_ret (pe_un un_neg pe_int))), ?_⟩
  refine ⟨_, rfl, p, _, rfl, .inl hS, ((ys.length : Nat) : Int), (by rw [vN_len]), by omega, by omega, ?_⟩
  refine for_range (n := ys.length) (fun i σ H' => Same H H' ∧ (∃ (x3 x4 : Option V), σ = [some (.ref l), some (tvV t), some (.ref p), x3, x4]) ∧ ∀ j < i, ¬ Win fx t (ledOf ys) ys j)
    ⟨Same.refl H, ⟨none, none, rfl⟩, fun j hj => absurd hj (Nat.not_lt_zero _)⟩ (fun i σ H1 hi z => ?_) (fun σ H1 z => ?_)
  · obtain ⟨s1, ⟨x3, x4, rfl⟩, hn⟩ := z
    have hS1 := s1.seq hS
    have ai : atI (vN ys) (0 + (i : Nat)) = some (.int ((ys.getD i 0 : Nat) : Int)) := by rw [Int.zero_add]; exact at_vN hi
    have e0 : (((ys.getD 0 0 : Nat) : Int) / 8) = ((ledOf ys : Nat) : Int) := by unfold ledOf; omega
    have mi : ys.getD i 0 ∈ ys := by
      rw [List.getD_eq_getElem?_getD, List.getElem?_eq_getElem hi]
      exact List.getElem_mem _
    refine ⟨_, rfl, p, rfl, ⟨_, hS1⟩, comp_list (K := K) (xs := vN ys) (lostB fx t (ledOf ys) (ys.getD i 0)) (fun x => x) hS1 (fits3 _ (by rw [vN_len]; omega)) (fun x H3 hx sm R hR => ?_) (fun x H3 hx hp sm R hR => ⟨_, rfl, hR H3 (Same.refl H3)⟩) (fun lq H4 s4 hlq hL4 => ?_)⟩
    · obtain ⟨c, hc, rfl⟩ := List.mem_map.mp hx
      have s3 := s1.trans sm
      refine ⟨_, rfl, _, rfl, _, rfl, p, _, _, _, rfl, rfl, s3.seq hS, ai, rfl, _, rfl, ?_⟩
      have ed : decide (V.int (c : Nat) = V.int ((ys.getD i 0 : Nat) : Int)) = decide (c = ys.getD i 0) := dec_nat _ _
      by_cases n : c = ys.getD i 0
      · have e2 : lostB fx t (ledOf ys) (ys.getD i 0) (.int (c : Nat)) = false := by
          show (!decide (((c : Nat) : Int).toNat = ys.getD i 0) && _) = false
          rw [Int.toNat_natCast, decide_eq_true n]
          rfl
        rw [ed, decide_eq_true n]
        have r := hR H3 (Same.refl H3)
        rw [e2] at r
        exact iteF r
      · rw [ed, decide_eq_false n]
        refine iteT ⟨_, rfl, _, rfl, _, rfl, _, rfl, p, _, _, _, rfl, rfl, s3.seq hS, ai, _, rfl, _, rfl, p, _, _, _, rfl, rfl, s3.seq hS, at_vN (i := 0) T.ne, _, _, rfl, rfl, ⟨by decide, by decide⟩, l, fx, t, ys.getD i 0, c, ledOf ys, (show [V.ref l, tvV t, V.int ((ys.getD i 0 : Nat) : Int), V.int (c : Nat), V.int (((ys.getD 0 0 : Nat) : Int) / 8)] = _ by rw [e0]), ok, hF.same s3, T.ht _ mi, T.ht c hc, fun H5 s5 => ⟨_, rfl, ?_⟩⟩
        have r := hR H5 s5
        have e2 : lostB fx t (ledOf ys) (ys.getD i 0) (.int (c : Nat)) = !overB fx t (ys.getD i 0) c (ledOf ys) := by
          show (!decide (((c : Nat) : Int).toNat = ys.getD i 0) && !overB fx t (ys.getD i 0) (((c : Nat) : Int).toNat) (ledOf ys)) = _
          rw [Int.toNat_natCast, decide_eq_false n]
          rfl
        rw [e2] at r
        exact r
    · refine ⟨_, rfl, fits3 0 (by decide), fun ne hne => ?_⟩
      have s5 := s4.trans (same_upd hne (.lst []))
      refine ⟨lq, ne, _, rfl, rfl, SqL.of (same_upd hne _ _ _ hL4), SqL.of upd_same, _, rfl, ?_⟩
      have wi : Win fx t (ledOf ys) ys i ↔ ((vN ys).filter (lostB fx t (ledOf ys) (ys.getD i 0))).map (fun x => x) = [] := by
        rw [lost_nil]
        have gi : ys[i]? = some (ys.getD i 0) := by rw [List.getD_eq_getElem?_getD, List.getElem?_eq_getElem hi]; rfl
        constructor
        · rintro ⟨m, hm, am⟩
          rw [gi] at hm
          cases hm
          exact am
        · exact fun h => ⟨_, gi, h⟩
      refine ite2 (fun y => ?_) fun y => ?_
      · have wn := wi.mpr (List.isEmpty_iff.mp y)
        refine ⟨_, rfl, ?_⟩
        rw [Int.zero_add]
        exact q i _ (s1.trans s5) wn
      · refine ⟨s1.trans s5, ⟨_, _, rfl⟩, fun j hj => ?_⟩
        rcases Nat.lt_or_eq_of_le (Nat.le_of_lt_succ hj) with z | z
        · exact hn j z
        · rw [z]
          exact fun wn => y (List.isEmpty_iff.mpr (wi.mp wn))
  · obtain ⟨s1, _, hn⟩ := z
    obtain ⟨m, hm, _⟩ := id hw
    exact absurd hw (hn w0 (lt_of hm))
end
end My

namespace My
open PySem L2
theorem max_at (r : Nat → Nat) : ∀ n, 0 < n → ∃ h, h < n ∧ ∀ j, j < n → r j ≤ r h
  | 0, h => absurd h (Nat.lt_irrefl _)
  | 1, _ => ⟨0, Nat.one_pos, fun j hj => by rw [show j = 0 by omega]; exact Nat.le_refl _⟩
  | n + 2, _ => by
    obtain ⟨h, hh, hm⟩ := max_at r (n + 1) (Nat.succ_pos _)
    by_cases c : r h < r (n + 1)
    · refine ⟨n + 1, by omega, fun j hj => ?_⟩
      by_cases e : j = n + 1
      · rw [e]; exact Nat.le_refl _
      · have := hm j (by omega)
        omega
    · refine ⟨h, by omega, fun j hj => ?_⟩
      by_cases e : j = n + 1
      · rw [e]; omega
      · exact hm j (by omega)
theorem win_ex {f : Fx} (ok : f.Ok) (t : Option Nat) {ys : List Nat} (T : Trk f ys) : ∃ h, Win f t (ledOf ys) ys h := by
  obtain ⟨h, hh, hm⟩ := max_at (fun j => rk f t (ledOf ys) (ys.getD j 0)) ys.length T.ne
  exact ⟨h, win_of ok T hh hm⟩
theorem eqVs_vN : ∀ (ys : List Nat), eqVs (vN ys) (vN ys) = true
  | [] => rfl
  | y :: ys => by
    show ((((y : Nat) : Int) == (y : Nat)) && eqVs (vN ys) (vN ys)) = true
    rw [eqVs_vN ys, beq_self_eq_true]
    rfl
theorem cut_all (ys : List Nat) (h : 0 < ys.length) : cutV (vN ys) none (some 1) ++ (cutV (vN ys) (some 1) none).reverse = vN (turnA ys) := by
  cases ys with
  | nil => exact absurd h (Nat.lt_irrefl _)
  | cons y l =>
    have e1 : HT.sIx (vN (y :: l)).length (vN (y :: l)).length (some 1) = 1 := by
      rw [show (some (1 : Int)) = some ((1 : Nat) : Int) from rfl, HT.sIx_nat, vN_len]
      show min 1 (l.length + 1) = 1
      omega
    have e2 : HT.sIx (vN (y :: l)).length 0 (some 1) = 1 := by
      rw [show (some (1 : Int)) = some ((1 : Nat) : Int) from rfl, HT.sIx_nat, vN_len]
      show min 1 (l.length + 1) = 1
      omega
    unfold cutV
    rw [e1, e2, HT.sIx_none, HT.sIx_none]
    have e3 : ((vN (y :: l)).drop 1).take ((vN (y :: l)).length - 1) = vN l := by
      show (vN l).take ((vN l).length + 1 - 1) = vN l
      rw [Nat.add_sub_cancel, List.take_length]
    rw [e3]
    show [V.int (y : Nat)] ++ (vN l).reverse = V.int (y : Nat) :: vN l.reverse
    unfold vN
    rw [List.map_reverse]
    rfl
section
variable {P : Program} {w : World} {K : PySem.W.Frag} {mg : Str → Option Value} {base : Heap}
theorem make_same {H1 H' : Hp} {x dx : Addr} {o : HO} (hx : H1 x = none) (hd : H1 dx = none) (n : dx ≠ x) (kp : Keep x (upd (upd H1 dx (.own x)) x o) H') : Same H1 H' := fun b u hb =>
  kp b u (ne_of_none hb hx) (same_make hx hd n b u hb)
def spLaw (K : PySem.W.Frag) : Sp := fun vs H Q _ => ∃ (a : Addr) (ns : List Int), vs = [.ref a] ∧ SqL K H a (ns.map V.int) ∧ ns.length ≤ 63 ∧ ∀ H', Q (.bl true) H'
abbrev nLaw : List Str := ["_law_script", "_law_facts", "_law_trump_here", "_law_game", "_law_k", "_law_trick_here", "_law_handed", "_law_due_here", "_law_other"]
theorem scLaw : FnScope nLaw ["_law_script"] (defScope sLaw) := ⟨rfl, rfl, rfl, by decide +kernel, rfl, by decide +kernel, by decide +kernel⟩
theorem ok_law {e f1 f2 f3 f4 f5 f6 f7 CT CG fI fG fW : Addr} {ed d1 d2 d3 d4 d5 d6 d7 dI dG dW : FuncData} {k : Nat} (F : Fun K "law" "law" sLaw e ed) (C : TabC K mg CT) (CGm : GamC K mg CG) (LTb : Lib P w K mg base (k + 1) "_law_table" ["_law_script"] (spTable K) f1 d1) (LC : Lib P w K mg base (k + 1) "_law_cell" pCell (spCell K) f2 d2)
    (LT : Lib P w K mg base (k + 1) "_law_text" ["_law_facts"] (spText K) f3 d3) (LU : Lib P w K mg base (k + 1) "_law_trump" ["_law_script", "_law_facts"] (spTrump K) f4 d4) (LR : Lib P w K mg base (k + 1) "_law_trick" pTrick (spTrick K) f5 d5) (LE : Lib P w K mg base (k + 1) "_law_due" pDue (spDue K) f6 d6)
    (LN : Lib P w K mg base (k + 1) "_law_number" pNumber spNumber f7 d7)
    (MkT : Mk K CT fI) (FI : FnOk P w K mg base CX0 k fI dI ["self", "text"] (spTab CT)) (BI : Binds K dI ["self", "text"] []) (MkG : Mk K CG fG) (FG : FnOk P w K mg base CX0 k fG dG ["self", "table", "trump"] (spGam CG)) (BG0 : Binds K dG ["self", "table", "trump"] [])
    (MW : Meth K CG "winner" fW) (FW : FnOk P w K mg base CX0 (k + 1) fW dW ["self", "trick"] (spWinner K CT CG)) (BW : Binds K dW ["self", "trick"] []) (mr : mg "range" = none) (mt : mg "tuple" = none) :
    FnOk P w K mg base CX0 (k + 2) e ed ["_law_script"] (spLaw K) := by
  refine F.ok scLaw (fun vs H Q E h => ?_) (fun cdv A outer s H vs Q E hr h => ?_)
  · obtain ⟨a, ns, rfl, _⟩ := h
    rfl
  obtain ⟨a, ns, rfl, hS, h63, q⟩ := h
  refine ⟨_, pss_cons (ps_set (i := 1) scLaw.nd rfl (Or.inl rfl) (pe_call LTb.ok hr rfl LTb.mg LTb.kp LTb.bd .nil pass0 (pa_cons (pv 0) pa_nil)))
    (pss_cons (ps_set (i := 2) scLaw.nd rfl (Or.inl rfl) (pe_call LU.ok hr rfl LU.mg LU.kp LU.bd .nil pass0 (pa_cons (pv 0) (pa_cons (pv 1) pa_nil))))
    (pss_cons (ps_set (i := 3) scLaw.nd rfl (Or.inl rfl) (pe_make MkG FG hr rfl CGm.mG BG0 .nil pass0 (pa_cons (pe_make MkT FI hr rfl C.mT BI .nil pass0 (pa_cons (pe_call LT.ok hr rfl LT.mg LT.kp LT.bd .nil pass0 (pa_cons (pv 1) pa_nil)) pa_nil)) (pa_cons (pv 2) pa_nil))))
    (pss_cons (ps_for PassesOwn.never rfl (pi_range1 rfl mr (pa_cons pe_int pa_nil)) (pg_name (i := 4) scLaw.nd rfl (Or.inl rfl))
      (pss_cons (ps_set (i := 5) scLaw.nd rfl (Or.inl rfl) (pe_call LR.ok hr rfl LR.mg LR.kp LR.bd .nil pass0 (pa_cons (pv 0) (pa_cons (pe_op op_add pe_int (pe_op op_mul pe_int (pv 4))) (pa_cons (pv 1) (pa_cons (pe_op op_add pe_int (pe_op op_mod (pe_call LC.ok hr rfl LC.mg LC.kp LC.bd .nil pass0 (pa_cons (pv 0) (pa_cons (pe_op op_add pe_int (pv 4)) pa_nil))) (pe_ix ix_list (pv 1) pe_int (fun _ _ => rfl)))) pa_nil))))))
      (pss_cons (ps_set (i := 6) scLaw.nd rfl (Or.inl rfl) (pe_callTy call_tuple_of rfl mt PyProof.Rows.boot_tuple (pa_cons (pv 5) pa_nil)))
      (pss_cons (ps_set (i := 7) scLaw.nd rfl (Or.inl rfl) (pe_call LE.ok hr rfl LE.mg LE.kp LE.bd .nil pass0 (pa_cons (pv 1) (pa_cons (pv 2) (pa_cons (pv 5) pa_nil)))))
      (pss_cons (ps_if (PW.pt (pw_or (pt_not (pt_truth (pe_call LN.ok hr rfl LN.mg LN.kp LN.bd .nil pass0 (pa_cons (pe_meth (pv 3) CGm.cl MW FW hr BW .nil pass0 (pa_cons (pv 6) pa_nil)) (pa_cons (pv 7) pa_nil))) (fun _ => rfl))) (pw_or1 (pt_cmpR (op_neFT hr.units) (pv 6) (pe_callTy call_tuple_of rfl mt PyProof.Rows.boot_tuple (pa_cons (pv 5) pa_nil)) (nomark _))))) (pss_one (ps_ret pe_bl)) pss_nil)
      (pss_cons (ps_set (i := 8) scLaw.nd rfl (Or.inl rfl) (pe_op op_cat (pe_slice sl_list (pv 5) po_none (po_some pe_int)) (pe_rev (pe_slice sl_list (pv 5) (po_some pe_int) po_none) (po_some (pe_un un_neg pe_int)))))
      (pss_one (ps_if (pt_not (pt_truth (pe_call LN.ok hr rfl LN.mg LN.kp LN.bd .nil pass0 (pa_cons (pe_meth (pv 3) CGm.cl MW FW hr BW .nil pass0 (pa_cons (pe_callTy call_tuple_of rfl mt PyProof.Rows.boot_tuple (pa_cons (pv 8) pa_nil)) pa_nil)) (pa_cons (pe_bm PySem.F.plainAttrs_list PySem.F.slot_list_index PySem.F.type_list_index mt_index (pv 8) (pa_cons (pe_ix ix_list (pv 5) (pv 7) (fun _ _ => rfl)) pa_nil)) pa_nil))) (fun _ => rfl))) (pss_one (ps_ret pe_bl)) pss_nil))))))))
    (pss_one (ps_ret pe_bl))))), ?_⟩
  refine ⟨_, rfl, a, ns, rfl, hS, fun l fx H1 ok s1 hl hf => ?_⟩
  refine ⟨_, rfl, _, rfl, a, l, ns, fx, rfl, s1.seq hS, ok, hf, fun t => ?_⟩
  refine ⟨_, rfl, l, fx, rfl, ok, hf, fun H4 s4 => ?_⟩
  intro x dx hx hd n
  refine ⟨x, dx, fx, rfl, ok, upd_same, fun po to H5 kp5 g1 g2 g3 => ⟨rfl, ?_⟩⟩
  have s5 := make_same hx hd n kp5
  have T5 : IsTab CT fx H5 x := ⟨dx, po, to, g1, g2, g3⟩
  clear kp5 g1 g2 g3
  refine ⟨_, rfl, ?_⟩
  intro gm dg hgm hdg ng
  refine ⟨gm, dg, x, tvV t, rfl, upd_same, rfl, ?_⟩
  rw [upd_upd]
  have s6 := same_make (o := .ins CG dg (gamF x (tvV t))) hgm hdg ng
  have G6 : IsGam CG x (tvV t) (upd (upd H5 dg (.own gm)) gm (.ins CG dg (gamF x (tvV t)))) gm := ⟨dg, upd_same⟩
  revert s6 G6
  generalize upd (upd H5 dg (.own gm)) gm (.ins CG dg (gamF x (tvV t))) = H6
  intro s6 G6
  have sA := s4.trans (s5.trans s6)
  have T6 := T5.same s6
  have F6 := hf.same sA
  have S6 := (s1.trans sA).seq hS
  refine ⟨10, rfl, by decide, by decide, ?_⟩
  refine for_range (n := 10) (fun i σ H' => Same H6 H' ∧ ∃ x4 x5 x6 x7 x8, σ = [some (.ref a), some (.ref l), some (tvV t), some (.ref gm), x4, x5, x6, x7, x8]) ⟨Same.refl _, _, _, _, _, _, rfl⟩ (fun i σ H7 hi z => ?_) (fun σ H7 z => q _)
  obtain ⟨s7, x4, x5, x6, x7, x8, rfl⟩ := z
  have S7 := s7.seq S6
  have F7 := F6.same s7
  obtain ⟨pl, tr, hL, _, _⟩ := id F7
  have e1 : (2 : Int) + 4 * (0 + (i : Nat)) = ((2 + 4 * i : Nat) : Int) := by omega
  have e2 : (42 : Int) + (0 + (i : Nat)) = ((42 + i : Nat) : Int) := by omega
  have hn0 : (0 : Int) < ((fx.n : Nat) : Int) := by rcases ok.n34 with z | z <;> omega
  have hn4 : fx.n ≤ 4 := by rcases ok.n34 with z | z <;> omega
  refine ⟨_, rfl, _, rfl, _, _, rfl, rfl, .inl ⟨by decide, by decide⟩, _, _, rfl, rfl, _, rfl, _, rfl, _, rfl, _, _, rfl, rfl, a, ns, 42 + i, (show [V.ref a, V.int ((42 : Int) + (0 + (i : Nat)))] = _ by rw [e2]), S7, by omega, fun z2 => ?_⟩
  have b0 := Int.emod_nonneg z2 (show ((fx.n : Nat) : Int) ≠ 0 by omega)
  have b1 := Int.emod_lt_of_pos z2 hn0
  obtain ⟨m, em⟩ := Int.eq_ofNat_of_zero_le b0
  have e3 : (1 : Int) + z2 % ((fx.n : Nat) : Int) = ((1 + m : Nat) : Int) := by omega
  refine ⟨_, rfl, l, _, 2, .int (fx.n : Nat), rfl, rfl, SqL.of hL, rfl, _, _, rfl, rfl, hn0, _, _, rfl, rfl, a, l, ns, fx, 2 + 4 * i, 1 + m, (show [V.ref a, V.int ((2 : Int) + 4 * (0 + (i : Nat))), V.ref l, V.int ((1 : Int) + z2 % ((fx.n : Nat) : Int))] = _ by rw [e1, e3]), S7, by omega, ok, F7, by omega, fun p ys H8 s8 hp hLp nd hb hlen h0 => ?_⟩
  have T : Trk fx ys := ⟨nd, fun c hc => (hb c hc).2, h0 (by omega)⟩
  refine ⟨_, rfl, p, _, rfl, .inl ⟨SqL.of hLp, fun tp htp => ?_⟩⟩
  have s9 := same_upd htp (.tup (vN ys))
  have P9 : upd H8 tp (.tup (vN ys)) tp = some (.tup (vN ys)) := upd_same
  revert s9 P9
  generalize upd H8 tp (.tup (vN ys)) = H9
  intro s9 P9
  have s79 := s7.trans (s8.trans s9)
  have L9 := s9 _ _ hLp
  refine ⟨_, rfl, _, rfl, _, rfl, l, p, fx, t, ys, rfl, ok, F6.same s79, SqL.of L9, T, by omega, win_ex ok t T, fun h H10 s10 wn => ?_⟩
  have s710 := s79.trans s10
  obtain ⟨dg1, hG⟩ := id (G6.same s710)
  refine ⟨_, rfl, gm, dg1, _, rfl, hG, gam_none _ _ _ (by decide +kernel) (by decide +kernel), _, rfl, gm, x, tp, t, fx, ys, rfl, ok, G6.same s710, T6.same s710, SqT.of (s10 _ _ P9), T, fun h2 H11 s11 wn2 => ?_⟩
  have s711 := s710.trans s11
  have L11 := s11 _ _ (s10 _ _ L9)
  refine ⟨_, rfl, _, _, rfl, true, (show true = decide (V.int (h2 : Nat) = V.int (h : Nat)) by rw [win_uniq nd wn2 wn, decide_eq_true rfl]), iteF ?_⟩
  refine ⟨_, rfl, _, rfl, p, _, rfl, .inl ⟨SqL.of L11, fun tq htq => ?_⟩⟩
  have s12 := same_upd htq (.tup (vN ys))
  refine ⟨tp, tq, vN ys, vN ys, rfl, rfl, ⟨SqT.of (s12 _ _ (s11 _ _ (s10 _ _ P9))), SqT.of upd_same⟩, vN_flat ys, vN_flat ys, _, rfl, ?_⟩
  show (if (!eqVs (vN ys) (vN ys)) = true then _ else _)
  rw [eqVs_vN]
  refine iteF ?_
  have s712 := s711.trans s12
  have L12 := s12 _ _ L11
  revert s712 L12
  generalize upd H11 tq (.tup (vN ys)) = H12
  intro s712 L12
  clear s12 htq
  refine ⟨_, rfl, _, rfl, p, _, rfl, SqL.of L12, fun p1 hp1 => ?_⟩
  have m1 := same_upd hp1 (.lst (cutV (vN ys) none (some 1)))
  refine ⟨_, rfl, _, rfl, p, _, rfl, SqL.of (m1 _ _ L12), fun p2 hp2 => ?_⟩
  have m2 := same_upd hp2 (.lst (cutV (vN ys) (some 1) none))
  refine ⟨_, rfl, _, rfl, rfl, p2, _, rfl, SqL.of upd_same, fun p3 hp3 => ?_⟩
  have m3 := same_upd hp3 (.lst (cutV (vN ys) (some 1) none).reverse)
  refine ⟨p1, p3, _, _, rfl, rfl, m3 _ _ (m2 _ _ upd_same), upd_same, ?_, fun p4 hp4 => ?_⟩
  · rw [List.length_reverse]
    have y1 := cutV_length (vN ys) none (some 1)
    have y2 := cutV_length (vN ys) (some 1) none
    rw [vN_len] at y1 y2
    rw [sizeLine_eq]
    omega
  rw [cut_all ys T.ne]
  have m4 := same_upd hp4 (.lst (vN (turnA ys)))
  have s713 := s712.trans (m1.trans (m2.trans (m3.trans m4)))
  have L13 := (m1.trans (m2.trans (m3.trans m4))) _ _ L12
  generalize hH13 : upd (upd (upd (upd H12 p1 (.lst (cutV (vN ys) none (some 1)))) p2 (.lst (cutV (vN ys) (some 1) none))) p3 (.lst (cutV (vN ys) (some 1) none).reverse)) p4 (.lst (vN (turnA ys))) = H13 at s713 L13 ⊢
  have O13 : H13 p4 = some (.lst (vN (turnA ys))) := by rw [← hH13]; exact upd_same
  clear hH13 m1 m2 m3 m4
  obtain ⟨dg2, hG2⟩ := id (G6.same s713)
  refine ⟨_, rfl, gm, dg2, _, rfl, hG2, gam_none _ _ _ (by decide +kernel) (by decide +kernel), _, rfl, p4, _, rfl, .inl ⟨SqL.of O13, fun tz htz => ?_⟩⟩
  have s14 := same_upd htz (.tup (vN (turnA ys)))
  have s714 := s713.trans s14
  refine ⟨gm, x, tz, t, fx, turnA ys, rfl, ok, G6.same s714, T6.same s714, SqT.of upd_same, T.turn, fun h3 H15 s15 wn3 => ?_⟩
  rw [turnA_led] at wn3
  have ec := win_card (fun c => (turnA_perm ys).mem_iff.symm) wn wn3
  obtain ⟨mc, hmc, _⟩ := id wn
  have hm3 : (turnA ys)[h3]? = some mc := ec.symm.trans hmc
  have gm0 := getD_of hmc
  have mem3 : mc ∈ turnA ys := List.mem_of_getElem? hm3
  obtain ⟨ix1, ix2⟩ := ix_vN mem3
  have eh : h3 = pos mc (turnA ys) := nd_at T.turn.nd hm3 (pos_at mem3).1
  have O15 := s15 _ _ (s14 _ _ O13)
  refine ⟨_, rfl, .inl ⟨rfl, _, SqL.of O15⟩, _, rfl, _, rfl, p, _, _, _, rfl, rfl, SqL.of (s15 _ _ (s14 _ _ L13)), at_vN (lt_of hmc), p4, ((mc : Nat) : Int), _, pos mc (turnA ys), rfl, (by rw [gm0]), SqL.of (by rw [← vN_ints]; exact O15), ?_, ix1, ix2, ?_⟩
  · rw [List.length_map, (turnA_perm ys).length_eq]
    omega
  refine ⟨_, _, rfl, true, (show true = decide (V.int (h3 : Nat) = V.int (pos mc (turnA ys) : Nat)) by rw [eh, decide_eq_true rfl]), iteF ?_⟩
  exact ⟨s714.trans s15, _, _, _, _, _, rfl⟩
end
end My

namespace My
open PySem L2
theorem all_mk {wd dtd : Option Addr} {dtc : Value} {tw1 tw2 tw3 tw4 tw5 : Tok} {wn dtn : Nat} {wsl dts : Array (Option Value)} {l : PySem.W.OpenLaw} {w : World} {K : PySem.W.Frag} {h : Heap} {mg : Str → Option Value} {fa f1 f2 f3 f4 f5 f6 f7 f8 f9 f10 f11 f12 f13 f14 f15 f16 f17 f18 f_F f_L f_C f_B f_I f_O f_G f_S f_V f_W CN CF CL CC CB CT CG aM dT : Addr} (X : K.In h) (G : h.Ns mainGlobals mg) (hfa : mg "law" = some (.ref fa))
    {od1 an1 od2 an2 od3 an3 od4 an4 od5 an5 od6 an6 od7 an7 od8 an8 od9 an9 od10 an10 od11 an11 od12 an12 od13 an13 od14 an14 od15 an15 od16 an16 od17 an17 od18 an18 od_F an_F od_L an_L od_C an_C od_B an_B od_I an_I od_O an_O od_G an_G od_S an_S od_V an_V od_W an_W : Option Addr} {sl1 sl2 sl3 sl4 sl5 sl6 sl7 sl8 sl9 sl10 sl11 sl12 sl13 sl14 sl15 sl16 sl17 sl18 sl_F sl_L sl_C sl_B sl_I sl_O sl_G sl_S sl_V sl_W : Array (Option Value)} {oc1 kV1 dc1 pm1 cd1 ct1 oc2 kV2 dc2 pm2 cd2 ct2 oc3 kV3 dc3 pm3 cd3 ct3 oc4 kV4 dc4 pm4 cd4 ct4 oc5 kV5 dc5 pm5 cd5 ct5 oc6 kV6 dc6 pm6 cd6 ct6 oc7 kV7 dc7 pm7 cd7 ct7 oc8 kV8 dc8 pm8 cd8 ct8 oc9 kV9 dc9 pm9 cd9 ct9 oc10 kV10 dc10 pm10 cd10 ct10 oc11 kV11 dc11 pm11 cd11 ct11 oc12 kV12 dc12 pm12 cd12 ct12 oc13 kV13 dc13 pm13 cd13 ct13 oc14 kV14 dc14 pm14 cd14 ct14 oc15 kV15 dc15 pm15 cd15 ct15 oc16 kV16 dc16 pm16 cd16 ct16 oc17 kV17 dc17 pm17 cd17 ct17 oc18 kV18 dc18 pm18 cd18 ct18 oc_F kV_F dc_F pm_F cd_F ct_F oc_L kV_L dc_L pm_L cd_L ct_L oc_C kV_C dc_C pm_C cd_C ct_C oc_B kV_B dc_B pm_B cd_B ct_B oc_I kV_I dc_I pm_I cd_I ct_I oc_O kV_O dc_O pm_O cd_O ct_O oc_G kV_G dc_G pm_G cd_G ct_G oc_S kV_S dc_S pm_S cd_S ct_S oc_V kV_V dc_V pm_V cd_V ct_V oc_W kV_W dc_W pm_W cd_W ct_W : Value} {t1 t2 t3 : Tok}
    (a1 : PySem.W.nsIn K mainGlobals "duty_of" = some (some (.ref f1))) (l1 : K.lookup f1 = some ⟨oc1, od1, .func (PySem.W.fnOf "duty_of" "duty_of" (defArgs sDutyOf) (defBody sDutyOf) (defScope sDutyOf) .none kV1 dc1 pm1 an1 cd1 ct1), sl1⟩) (c1 : PySem.W.codeIn K cd1 "duty_of" = true) (k1 : PySem.W.keepIn K (.ref f1) = true)
    (a2 : PySem.W.nsIn K mainGlobals "words_behind_marks" = some (some (.ref f2))) (l2 : K.lookup f2 = some ⟨oc2, od2, .func (PySem.W.fnOf "words_behind_marks" "words_behind_marks" (defArgs sMarks) (defBody sMarks) (defScope sMarks) .none kV2 dc2 pm2 an2 cd2 ct2), sl2⟩) (c2 : PySem.W.codeIn K cd2 "words_behind_marks" = true) (k2 : PySem.W.keepIn K (.ref f2) = true)
    (a3 : PySem.W.nsIn K mainGlobals "read_size" = some (some (.ref f3))) (l3 : K.lookup f3 = some ⟨oc3, od3, .func (PySem.W.fnOf "read_size" "read_size" (defArgs sReadSize) (defBody sReadSize) (defScope sReadSize) .none kV3 dc3 pm3 an3 cd3 ct3), sl3⟩) (c3 : PySem.W.codeIn K cd3 "read_size" = true) (k3 : PySem.W.keepIn K (.ref f3) = true)
    (a4 : PySem.W.nsIn K mainGlobals "read_seats" = some (some (.ref f4))) (l4 : K.lookup f4 = some ⟨oc4, od4, .func (PySem.W.fnOf "read_seats" "read_seats" (defArgs sReadSeats) (defBody sReadSeats) (defScope sReadSeats) .none kV4 dc4 pm4 an4 cd4 ct4), sl4⟩) (c4 : PySem.W.codeIn K cd4 "read_seats" = true) (k4 : PySem.W.keepIn K (.ref f4) = true)
    (a5 : PySem.W.nsIn K mainGlobals "read_order" = some (some (.ref f5))) (l5 : K.lookup f5 = some ⟨oc5, od5, .func (PySem.W.fnOf "read_order" "read_order" (defArgs sReadOrder) (defBody sReadOrder) (defScope sReadOrder) .none kV5 dc5 pm5 an5 cd5 ct5), sl5⟩) (c5 : PySem.W.codeIn K cd5 "read_order" = true) (k5 : PySem.W.keepIn K (.ref f5) = true)
    (a6 : PySem.W.nsIn K mainGlobals "is_later" = some (some (.ref f6))) (l6 : K.lookup f6 = some ⟨oc6, od6, .func (PySem.W.fnOf "is_later" "is_later" (defArgs sLater) (defBody sLater) (defScope sLater) .none kV6 dc6 pm6 an6 cd6 ct6), sl6⟩) (c6 : PySem.W.codeIn K cd6 "is_later" = true) (k6 : PySem.W.keepIn K (.ref f6) = true)
    (a7 : PySem.W.nsIn K mainGlobals "_law_cell" = some (some (.ref f7))) (l7 : K.lookup f7 = some ⟨oc7, od7, .func (PySem.W.fnOf "_law_cell" "_law_cell" (defArgs sCell) (defBody sCell) (defScope sCell) .none kV7 dc7 pm7 an7 cd7 ct7), sl7⟩) (c7 : PySem.W.codeIn K cd7 "_law_cell" = true) (k7 : PySem.W.keepIn K (.ref f7) = true)
    (a8 : PySem.W.nsIn K mainGlobals "_law_mixed" = some (some (.ref f8))) (l8 : K.lookup f8 = some ⟨oc8, od8, .func (PySem.W.fnOf "_law_mixed" "_law_mixed" (defArgs sMixed) (defBody sMixed) (defScope sMixed) .none kV8 dc8 pm8 an8 cd8 ct8), sl8⟩) (c8 : PySem.W.codeIn K cd8 "_law_mixed" = true) (k8 : PySem.W.keepIn K (.ref f8) = true)
    (a9 : PySem.W.nsIn K mainGlobals "_law_order" = some (some (.ref f9))) (l9 : K.lookup f9 = some ⟨oc9, od9, .func (PySem.W.fnOf "_law_order" "_law_order" (defArgs sOrder) (defBody sOrder) (defScope sOrder) .none kV9 dc9 pm9 an9 cd9 ct9), sl9⟩) (c9 : PySem.W.codeIn K cd9 "_law_order" = true) (k9 : PySem.W.keepIn K (.ref f9) = true)
    (a10 : PySem.W.nsIn K mainGlobals "_law_table" = some (some (.ref f10))) (l10 : K.lookup f10 = some ⟨oc10, od10, .func (PySem.W.fnOf "_law_table" "_law_table" (defArgs sTable) (defBody sTable) (defScope sTable) .none kV10 dc10 pm10 an10 cd10 ct10), sl10⟩) (c10 : PySem.W.codeIn K cd10 "_law_table" = true) (k10 : PySem.W.keepIn K (.ref f10) = true)
    (a11 : PySem.W.nsIn K mainGlobals "_law_text" = some (some (.ref f11))) (l11 : K.lookup f11 = some ⟨oc11, od11, .func (PySem.W.fnOf "_law_text" "_law_text" (defArgs sText) (defBody sText) (defScope sText) .none kV11 dc11 pm11 an11 cd11 ct11), sl11⟩) (c11 : PySem.W.codeIn K cd11 "_law_text" = true) (k11 : PySem.W.keepIn K (.ref f11) = true)
    (a12 : PySem.W.nsIn K mainGlobals "_law_over" = some (some (.ref f12))) (l12 : K.lookup f12 = some ⟨oc12, od12, .func (PySem.W.fnOf "_law_over" "_law_over" (defArgs sLOver) (defBody sLOver) (defScope sLOver) .none kV12 dc12 pm12 an12 cd12 ct12), sl12⟩) (c12 : PySem.W.codeIn K cd12 "_law_over" = true) (k12 : PySem.W.keepIn K (.ref f12) = true)
    (a13 : PySem.W.nsIn K mainGlobals "_law_trump" = some (some (.ref f13))) (l13 : K.lookup f13 = some ⟨oc13, od13, .func (PySem.W.fnOf "_law_trump" "_law_trump" (defArgs sTrump) (defBody sTrump) (defScope sTrump) .none kV13 dc13 pm13 an13 cd13 ct13), sl13⟩) (c13 : PySem.W.codeIn K cd13 "_law_trump" = true) (k13 : PySem.W.keepIn K (.ref f13) = true)
    (a14 : PySem.W.nsIn K mainGlobals "_law_card" = some (some (.ref f14))) (l14 : K.lookup f14 = some ⟨oc14, od14, .func (PySem.W.fnOf "_law_card" "_law_card" (defArgs sCard) (defBody sCard) (defScope sCard) .none kV14 dc14 pm14 an14 cd14 ct14), sl14⟩) (c14 : PySem.W.codeIn K cd14 "_law_card" = true) (k14 : PySem.W.keepIn K (.ref f14) = true)
    (a15 : PySem.W.nsIn K mainGlobals "_law_trick" = some (some (.ref f15))) (l15 : K.lookup f15 = some ⟨oc15, od15, .func (PySem.W.fnOf "_law_trick" "_law_trick" (defArgs sTrick) (defBody sTrick) (defScope sTrick) .none kV15 dc15 pm15 an15 cd15 ct15), sl15⟩) (c15 : PySem.W.codeIn K cd15 "_law_trick" = true) (k15 : PySem.W.keepIn K (.ref f15) = true)
    (a16 : PySem.W.nsIn K mainGlobals "_law_due" = some (some (.ref f16))) (l16 : K.lookup f16 = some ⟨oc16, od16, .func (PySem.W.fnOf "_law_due" "_law_due" (defArgs sDue) (defBody sDue) (defScope sDue) .none kV16 dc16 pm16 an16 cd16 ct16), sl16⟩) (c16 : PySem.W.codeIn K cd16 "_law_due" = true) (k16 : PySem.W.keepIn K (.ref f16) = true)
    (a17 : PySem.W.nsIn K mainGlobals "_law_number" = some (some (.ref f17))) (l17 : K.lookup f17 = some ⟨oc17, od17, .func (PySem.W.fnOf "_law_number" "_law_number" (defArgs sNumber) (defBody sNumber) (defScope sNumber) .none kV17 dc17 pm17 an17 cd17 ct17), sl17⟩) (c17 : PySem.W.codeIn K cd17 "_law_number" = true) (k17 : PySem.W.keepIn K (.ref f17) = true)
    (a18 : PySem.W.nsIn K mainGlobals "law" = some (some (.ref f18))) (l18 : K.lookup f18 = some ⟨oc18, od18, .func (PySem.W.fnOf "law" "law" (defArgs sLaw) (defBody sLaw) (defScope sLaw) .none kV18 dc18 pm18 an18 cd18 ct18), sl18⟩) (c18 : PySem.W.codeIn K cd18 "law" = true) (k18 : PySem.W.keepIn K (.ref f18) = true)
    (a_F : PySem.W.findIn K (.ref CF) "word" = some (some (.ref f_F))) (l_F : K.lookup f_F = some ⟨oc_F, od_F, .func (PySem.W.fnOf "word" "Free.word" (defArgs sFreeWord) (defBody sFreeWord) (defScope sFreeWord) .none kV_F dc_F pm_F an_F cd_F ct_F), sl_F⟩) (c_F : PySem.W.codeIn K cd_F "Free.word" = true) (k_F : PySem.W.keepIn K (.ref f_F) = true)
    (i_F : PySem.W.isFn K (.ref f_F) = true)
    (a_L : PySem.W.findIn K (.ref CL) "word" = some (some (.ref f_L))) (l_L : K.lookup f_L = some ⟨oc_L, od_L, .func (PySem.W.fnOf "word" "Follow.word" (defArgs sFollowWord) (defBody sFollowWord) (defScope sFollowWord) .none kV_L dc_L pm_L an_L cd_L ct_L), sl_L⟩) (c_L : PySem.W.codeIn K cd_L "Follow.word" = true) (k_L : PySem.W.keepIn K (.ref f_L) = true)
    (i_L : PySem.W.isFn K (.ref f_L) = true)
    (a_C : PySem.W.findIn K (.ref CC) "word" = some (some (.ref f_C))) (l_C : K.lookup f_C = some ⟨oc_C, od_C, .func (PySem.W.fnOf "word" "Cut.word" (defArgs sCutWord) (defBody sCutWord) (defScope sCutWord) .none kV_C dc_C pm_C an_C cd_C ct_C), sl_C⟩) (c_C : PySem.W.codeIn K cd_C "Cut.word" = true) (k_C : PySem.W.keepIn K (.ref f_C) = true)
    (i_C : PySem.W.isFn K (.ref f_C) = true)
    (a_B : PySem.W.findIn K (.ref CB) "word" = some (some (.ref f_B))) (l_B : K.lookup f_B = some ⟨oc_B, od_B, .func (PySem.W.fnOf "word" "Beat.word" (defArgs sBeatWord) (defBody sBeatWord) (defScope sBeatWord) .none kV_B dc_B pm_B an_B cd_B ct_B), sl_B⟩) (c_B : PySem.W.codeIn K cd_B "Beat.word" = true) (k_B : PySem.W.keepIn K (.ref f_B) = true)
    (i_B : PySem.W.isFn K (.ref f_B) = true)
    (a_I : PySem.W.findIn K (.ref CT) "__init__" = some (some (.ref f_I))) (l_I : K.lookup f_I = some ⟨oc_I, od_I, .func (PySem.W.fnOf "__init__" "Table.__init__" (defArgs sTabInit) (defBody sTabInit) (defScope sTabInit) .none kV_I dc_I pm_I an_I cd_I ct_I), sl_I⟩) (c_I : PySem.W.codeIn K cd_I "Table.__init__" = true) (k_I : PySem.W.keepIn K (.ref f_I) = true)
    (i_I : PySem.W.isFn K (.ref f_I) = true)
    (a_O : PySem.W.findIn K (.ref CT) "order" = some (some (.ref f_O))) (l_O : K.lookup f_O = some ⟨oc_O, od_O, .func (PySem.W.fnOf "order" "Table.order" (defArgs sTabOrder) (defBody sTabOrder) (defScope sTabOrder) .none kV_O dc_O pm_O an_O cd_O ct_O), sl_O⟩) (c_O : PySem.W.codeIn K cd_O "Table.order" = true) (k_O : PySem.W.keepIn K (.ref f_O) = true)
    (i_O : PySem.W.isFn K (.ref f_O) = true)
    (a_G : PySem.W.findIn K (.ref CG) "__init__" = some (some (.ref f_G))) (l_G : K.lookup f_G = some ⟨oc_G, od_G, .func (PySem.W.fnOf "__init__" "Game.__init__" (defArgs sGamInit) (defBody sGamInit) (defScope sGamInit) (.ref dT) kV_G dc_G pm_G an_G cd_G ct_G), sl_G⟩) (c_G : PySem.W.codeIn K cd_G "Game.__init__" = true) (k_G : PySem.W.keepIn K (.ref f_G) = true)
    (i_G : PySem.W.isFn K (.ref f_G) = true)
    (a_S : PySem.W.findIn K (.ref CG) "is_stronger" = some (some (.ref f_S))) (l_S : K.lookup f_S = some ⟨oc_S, od_S, .func (PySem.W.fnOf "is_stronger" "Game.is_stronger" (defArgs sStronger) (defBody sStronger) (defScope sStronger) .none kV_S dc_S pm_S an_S cd_S ct_S), sl_S⟩) (c_S : PySem.W.codeIn K cd_S "Game.is_stronger" = true) (k_S : PySem.W.keepIn K (.ref f_S) = true)
    (i_S : PySem.W.isFn K (.ref f_S) = true)
    (a_V : PySem.W.findIn K (.ref CG) "is_over" = some (some (.ref f_V))) (l_V : K.lookup f_V = some ⟨oc_V, od_V, .func (PySem.W.fnOf "is_over" "Game.is_over" (defArgs sOver) (defBody sOver) (defScope sOver) .none kV_V dc_V pm_V an_V cd_V ct_V), sl_V⟩) (c_V : PySem.W.codeIn K cd_V "Game.is_over" = true) (k_V : PySem.W.keepIn K (.ref f_V) = true)
    (i_V : PySem.W.isFn K (.ref f_V) = true)
    (a_W : PySem.W.findIn K (.ref CG) "winner" = some (some (.ref f_W))) (l_W : K.lookup f_W = some ⟨oc_W, od_W, .func (PySem.W.fnOf "winner" "Game.winner" (defArgs sWinner) (defBody sWinner) (defScope sWinner) .none kV_W dc_W pm_W an_W cd_W ct_W), sl_W⟩) (c_W : PySem.W.codeIn K cd_W "Game.winner" = true) (k_W : PySem.W.keepIn K (.ref f_W) = true)
    (i_W : PySem.W.isFn K (.ref f_W) = true)
    (g1 : PySem.W.nsIn K mainGlobals "HEIGHTS" = some (some (.int 8 t1)))
    (g2 : PySem.W.nsIn K mainGlobals "LETTERS" = some (some (.str "abcd" t2)))
    (g3 : PySem.W.nsIn K mainGlobals "FIGURES" = some (some (.str "12345678" t3)))
    (z1 : PySem.W.nsIn K mainGlobals "len" = some none)
    (z2 : PySem.W.nsIn K mainGlobals "range" = some none)
    (z3 : PySem.W.nsIn K mainGlobals "isinstance" = some none)
    (z4 : PySem.W.nsIn K mainGlobals "int" = some none)
    (z5 : PySem.W.nsIn K mainGlobals "str" = some none)
    (z6 : PySem.W.nsIn K mainGlobals "list" = some none)
    (z7 : PySem.W.nsIn K mainGlobals "tuple" = some none)
    (z8 : PySem.W.nsIn K mainGlobals "sorted" = some none)
    (z9 : PySem.W.nsIn K mainGlobals "bool" = some none)
    (z10 : PySem.W.nsIn K mainGlobals "enumerate" = some none)
    (hCN : PySem.W.nsIn K mainGlobals "NoTable" = some (some (.ref CN)))
    (hCF : PySem.W.nsIn K mainGlobals "Free" = some (some (.ref CF)))
    (hCL : PySem.W.nsIn K mainGlobals "Follow" = some (some (.ref CL)))
    (hCC : PySem.W.nsIn K mainGlobals "Cut" = some (some (.ref CC)))
    (hCB : PySem.W.nsIn K mainGlobals "Beat" = some (some (.ref CB)))
    (hCT : PySem.W.nsIn K mainGlobals "Table" = some (some (.ref CT)))
    (hCG : PySem.W.nsIn K mainGlobals "Game" = some (some (.ref CG)))
    (x1 : PySem.W.excIn K CN veTail "ValueError.__new__" = true)
    (pgCF : PySem.W.plainGet K CF Str.empty = true)
    (hdCF : PySem.W.hasDictIn K CF = true)
    (poCF : PySem.W.plainOver K CF = true)
    (saCF : PySem.W.findIn K (.ref CF) "__setattr__" = some (some (.builtin "object.__setattr__")))
    (mkCF : PySem.W.makesIn K CF = true)
    (kcCF : PySem.W.keepIn K (.ref CF) = true)
    (oiCF : PySem.W.findIn K (.ref CF) "__init__" = some (some (.builtin "object.__init__")))
    (pgCL : PySem.W.plainGet K CL Str.empty = true)
    (hdCL : PySem.W.hasDictIn K CL = true)
    (poCL : PySem.W.plainOver K CL = true)
    (saCL : PySem.W.findIn K (.ref CL) "__setattr__" = some (some (.builtin "object.__setattr__")))
    (mkCL : PySem.W.makesIn K CL = true)
    (kcCL : PySem.W.keepIn K (.ref CL) = true)
    (oiCL : PySem.W.findIn K (.ref CL) "__init__" = some (some (.builtin "object.__init__")))
    (pgCC : PySem.W.plainGet K CC Str.empty = true)
    (hdCC : PySem.W.hasDictIn K CC = true)
    (poCC : PySem.W.plainOver K CC = true)
    (saCC : PySem.W.findIn K (.ref CC) "__setattr__" = some (some (.builtin "object.__setattr__")))
    (mkCC : PySem.W.makesIn K CC = true)
    (kcCC : PySem.W.keepIn K (.ref CC) = true)
    (oiCC : PySem.W.findIn K (.ref CC) "__init__" = some (some (.builtin "object.__init__")))
    (pgCB : PySem.W.plainGet K CB Str.empty = true)
    (hdCB : PySem.W.hasDictIn K CB = true)
    (poCB : PySem.W.plainOver K CB = true)
    (saCB : PySem.W.findIn K (.ref CB) "__setattr__" = some (some (.builtin "object.__setattr__")))
    (mkCB : PySem.W.makesIn K CB = true)
    (kcCB : PySem.W.keepIn K (.ref CB) = true)
    (oiCB : PySem.W.findIn K (.ref CB) "__init__" = some (some (.builtin "object.__init__")))
    (pgCT : PySem.W.plainGet K CT Str.empty = true)
    (hdCT : PySem.W.hasDictIn K CT = true)
    (poCT : PySem.W.plainOver K CT = true)
    (saCT : PySem.W.findIn K (.ref CT) "__setattr__" = some (some (.builtin "object.__setattr__")))
    (mkCT : PySem.W.makesIn K CT = true)
    (kcCT : PySem.W.keepIn K (.ref CT) = true)
    (pgCG : PySem.W.plainGet K CG Str.empty = true)
    (hdCG : PySem.W.hasDictIn K CG = true)
    (poCG : PySem.W.plainOver K CG = true)
    (saCG : PySem.W.findIn K (.ref CG) "__setattr__" = some (some (.builtin "object.__setattr__")))
    (mkCG : PySem.W.makesIn K CG = true)
    (kcCG : PySem.W.keepIn K (.ref CG) = true)
    (nTS : PySem.W.findIn K (.ref CT) "suits" = some none)
    (nTH : PySem.W.findIn K (.ref CT) "heights" = some none)
    (nTN : PySem.W.findIn K (.ref CT) "seats" = some none)
    (nTD : PySem.W.findIn K (.ref CT) "duty_word" = some none)
    (nTP : PySem.W.findIn K (.ref CT) "plain_order" = some none)
    (nTT : PySem.W.findIn K (.ref CT) "trump_order" = some none)
    (nTW : PySem.W.findIn K (.ref CT) "written" = some none)
    (nGT : PySem.W.findIn K (.ref CG) "table" = some none)
    (nGU : PySem.W.findIn K (.ref CG) "trump" = some none)
    (w1 : PySem.W.nsIn K mainGlobals "MARKS" = some (some (.ref aM)))
    (w2 : K.lookup aM = some ⟨.type "tuple", wd, .seq #[.str "pack" tw1, .str "seats" tw2, .str "duty" tw3, .str "plain" tw4, .str "trump" tw5] wn, wsl⟩)
    (w3 : K.lookup dT = some ⟨dtc, dtd, .seq #[.none] dtn, dts⟩)
    : ∃ fd : FuncData, (∀ (s : Shared) (v : Value), BindsTo s fd ⟨[v], []⟩ [("_law_script", v)]) ∧ ∀ base : Heap, K.In base → base.Ns mainGlobals mg → FnOk l.prog w K mg base CX0 20 fa fd ["_law_script"] (spLaw K) := by
  have e := hfa.symm.trans (PySem.W.mg_of X G a18)
  cases e
  have F1 := fun_mk (st := sDutyOf) l1 c1 k1
  have b1 := F1.binds (ps := ["word"]) fun _ _ _ _ _ _ us hl => match us, hl with | [_], _ => rfl
  have m1 := PySem.W.mg_of X G a1
  have F2 := fun_mk (st := sMarks) l2 c2 k2
  have b2 := F2.binds (ps := ["text"]) fun _ _ _ _ _ _ us hl => match us, hl with | [_], _ => rfl
  have m2 := PySem.W.mg_of X G a2
  have F3 := fun_mk (st := sReadSize) l3 c3 k3
  have b3 := F3.binds (ps := ["word"]) fun _ _ _ _ _ _ us hl => match us, hl with | [_], _ => rfl
  have m3 := PySem.W.mg_of X G a3
  have F4 := fun_mk (st := sReadSeats) l4 c4 k4
  have b4 := F4.binds (ps := ["word"]) fun _ _ _ _ _ _ us hl => match us, hl with | [_], _ => rfl
  have m4 := PySem.W.mg_of X G a4
  have F5 := fun_mk (st := sReadOrder) l5 c5 k5
  have b5 := F5.binds (ps := ["word", "heights"]) fun _ _ _ _ _ _ us hl => match us, hl with | [_, _], _ => rfl
  have m5 := PySem.W.mg_of X G a5
  have F6 := fun_mk (st := sLater) l6 c6 k6
  have b6 := F6.binds (ps := ["order", "height", "other"]) fun _ _ _ _ _ _ us hl => match us, hl with | [_, _, _], _ => rfl
  have m6 := PySem.W.mg_of X G a6
  have F7 := fun_mk (st := sCell) l7 c7 k7
  have b7 := F7.binds (ps := pCell) fun _ _ _ _ _ _ us hl => match us, hl with | [_, _], _ => rfl
  have m7 := PySem.W.mg_of X G a7
  have F8 := fun_mk (st := sMixed) l8 c8 k8
  have b8 := F8.binds (ps := ["_law_cell_here", "_law_k"]) fun _ _ _ _ _ _ us hl => match us, hl with | [_, _], _ => rfl
  have m8 := PySem.W.mg_of X G a8
  have F9 := fun_mk (st := sOrder) l9 c9 k9
  have b9 := F9.binds (ps := ["_law_cell_here", "_law_heights"]) fun _ _ _ _ _ _ us hl => match us, hl with | [_, _], _ => rfl
  have m9 := PySem.W.mg_of X G a9
  have F10 := fun_mk (st := sTable) l10 c10 k10
  have b10 := F10.binds (ps := ["_law_script"]) fun _ _ _ _ _ _ us hl => match us, hl with | [_], _ => rfl
  have m10 := PySem.W.mg_of X G a10
  have F11 := fun_mk (st := sText) l11 c11 k11
  have b11 := F11.binds (ps := ["_law_facts"]) fun _ _ _ _ _ _ us hl => match us, hl with | [_], _ => rfl
  have m11 := PySem.W.mg_of X G a11
  have F12 := fun_mk (st := sLOver) l12 c12 k12
  have b12 := F12.binds (ps := pLOver) fun _ _ _ _ _ _ us hl => match us, hl with | [_, _, _, _, _], _ => rfl
  have m12 := PySem.W.mg_of X G a12
  have F13 := fun_mk (st := sTrump) l13 c13 k13
  have b13 := F13.binds (ps := ["_law_script", "_law_facts"]) fun _ _ _ _ _ _ us hl => match us, hl with | [_, _], _ => rfl
  have m13 := PySem.W.mg_of X G a13
  have F14 := fun_mk (st := sCard) l14 c14 k14
  have b14 := F14.binds (ps := ["_law_cell_here", "_law_facts"]) fun _ _ _ _ _ _ us hl => match us, hl with | [_, _], _ => rfl
  have m14 := PySem.W.mg_of X G a14
  have F15 := fun_mk (st := sTrick) l15 c15 k15
  have b15 := F15.binds (ps := pTrick) fun _ _ _ _ _ _ us hl => match us, hl with | [_, _, _, _], _ => rfl
  have m15 := PySem.W.mg_of X G a15
  have F16 := fun_mk (st := sDue) l16 c16 k16
  have b16 := F16.binds (ps := pDue) fun _ _ _ _ _ _ us hl => match us, hl with | [_, _, _], _ => rfl
  have m16 := PySem.W.mg_of X G a16
  have F17 := fun_mk (st := sNumber) l17 c17 k17
  have b17 := F17.binds (ps := pNumber) fun _ _ _ _ _ _ us hl => match us, hl with | [_, _], _ => rfl
  have m17 := PySem.W.mg_of X G a17
  have F18 := fun_mk (st := sLaw) l18 c18 k18
  have m18 := PySem.W.mg_of X G a18
  have F_F := fun_mk (st := sFreeWord) l_F c_F k_F
  have b_F := F_F.binds (ps := ["self"]) fun _ _ _ _ _ _ us hl => match us, hl with | [_], _ => rfl
  have m_F : Meth K CF "word" f_F := ⟨a_F, i_F, k_F⟩
  have F_L := fun_mk (st := sFollowWord) l_L c_L k_L
  have b_L := F_L.binds (ps := ["self"]) fun _ _ _ _ _ _ us hl => match us, hl with | [_], _ => rfl
  have m_L : Meth K CL "word" f_L := ⟨a_L, i_L, k_L⟩
  have F_C := fun_mk (st := sCutWord) l_C c_C k_C
  have b_C := F_C.binds (ps := ["self"]) fun _ _ _ _ _ _ us hl => match us, hl with | [_], _ => rfl
  have m_C : Meth K CC "word" f_C := ⟨a_C, i_C, k_C⟩
  have F_B := fun_mk (st := sBeatWord) l_B c_B k_B
  have b_B := F_B.binds (ps := ["self"]) fun _ _ _ _ _ _ us hl => match us, hl with | [_], _ => rfl
  have m_B : Meth K CB "word" f_B := ⟨a_B, i_B, k_B⟩
  have F_I := fun_mk (st := sTabInit) l_I c_I k_I
  have b_I := F_I.binds (ps := ["self", "text"]) fun _ _ _ _ _ _ us hl => match us, hl with | [_, _], _ => rfl
  have m_I : Meth K CT "__init__" f_I := ⟨a_I, i_I, k_I⟩
  have F_O := fun_mk (st := sTabOrder) l_O c_O k_O
  have b_O := F_O.binds (ps := ["self", "is_trump"]) fun _ _ _ _ _ _ us hl => match us, hl with | [_, _], _ => rfl
  have m_O : Meth K CT "order" f_O := ⟨a_O, i_O, k_O⟩
  have F_G := funD_mk (st := sGamInit) l_G c_G k_G
  have m_G : Meth K CG "__init__" f_G := ⟨a_G, i_G, k_G⟩
  have F_S := fun_mk (st := sStronger) l_S c_S k_S
  have b_S := F_S.binds (ps := ["self", "card", "other"]) fun _ _ _ _ _ _ us hl => match us, hl with | [_, _, _], _ => rfl
  have m_S : Meth K CG "is_stronger" f_S := ⟨a_S, i_S, k_S⟩
  have F_V := fun_mk (st := sOver) l_V c_V k_V
  have b_V := F_V.binds (ps := pOver) fun _ _ _ _ _ _ us hl => match us, hl with | [_, _, _, _], _ => rfl
  have m_V : Meth K CG "is_over" f_V := ⟨a_V, i_V, k_V⟩
  have F_W := fun_mk (st := sWinner) l_W c_W k_W
  have b_W := F_W.binds (ps := ["self", "trick"]) fun _ _ _ _ _ _ us hl => match us, hl with | [_, _], _ => rfl
  have m_W : Meth K CG "winner" f_W := ⟨a_W, i_W, k_W⟩
  have mg1 := PySem.W.mg_of X G g1
  have mg2 := PySem.W.mg_of X G g2
  have mg3 := PySem.W.mg_of X G g3
  have mn_len := PySem.W.mg_none_of X G z1
  have mn_range := PySem.W.mg_none_of X G z2
  have mn_isinstance := PySem.W.mg_none_of X G z3
  have mn_int := PySem.W.mg_none_of X G z4
  have mn_str := PySem.W.mg_none_of X G z5
  have mn_list := PySem.W.mg_none_of X G z6
  have mn_tuple := PySem.W.mg_none_of X G z7
  have mn_sorted := PySem.W.mg_none_of X G z8
  have mn_bool := PySem.W.mg_none_of X G z9
  have mn_enumerate := PySem.W.mg_none_of X G z10
  refine ⟨PySem.W.fnOf "law" "law" (defArgs sLaw) (defBody sLaw) (defScope sLaw) .none kV18 dc18 pm18 an18 cd18 ct18, fun s v => .of_eq rfl, fun base _ _ => ?_⟩
  let cs : Fin 4 → Addr := p4 CF CL CC CB
  let fw : Fin 4 → Addr := p4 f_F f_L f_C f_B
  have mN := PySem.W.mg_of X G hCN
  have D : DutyC K mg cs CN := ⟨PySem.W.mg_of X G hCF, PySem.W.mg_of X G hCL, PySem.W.mg_of X G hCC, PySem.W.mg_of X G hCB, fun i => match i with | 0 => ⟨mkCF, oiCF, kcCF⟩ | 1 => ⟨mkCL, oiCL, kcCL⟩ | 2 => ⟨mkCC, oiCC, kcCC⟩ | 3 => ⟨mkCB, oiCB, kcCB⟩, mN, x1⟩
  have W : ∀ k, ∃ fdw, WordF l.prog w K mg base (k + 1) cs fw fdw := fun k => ⟨p4 _ _ _ _, fun i => match i with | 0 => ⟨pgCF, hdCF, poCF, saCF⟩ | 1 => ⟨pgCL, hdCL, poCL, saCL⟩ | 2 => ⟨pgCC, hdCC, poCC, saCC⟩ | 3 => ⟨pgCB, hdCB, poCB, saCB⟩, fun i => match i with | 0 => m_F | 1 => m_L | 2 => m_C | 3 => m_B, fun i => match i with | 0 => ok_freeWord F_F | 1 => ok_followWord F_L | 2 => ok_cutWord F_C | 3 => ok_beatWord F_B, fun i => match i with | 0 => b_F | 1 => b_L | 2 => b_C | 3 => b_B⟩
  obtain ⟨_, W15⟩ := W 14
  obtain ⟨_, W16⟩ := W 15
  have C : TabC K mg CT := ⟨⟨pgCT, hdCT, poCT, saCT⟩, PySem.W.mg_of X G hCT, nTS, nTH, nTN, nTD, nTP, nTT, nTW⟩
  have CGm : GamC K mg CG := ⟨⟨pgCG, hdCG, poCG, saCG⟩, PySem.W.mg_of X G hCG, nGT, nGU⟩
  have hM : ∀ H, SqT K H aM (vS marks) := fun H => .inr ⟨_, _, _, w2, rfl, rfl, fits3 5 (by decide), .cons ⟨_, rfl⟩ (.cons ⟨_, rfl⟩ (.cons ⟨_, rfl⟩ (.cons ⟨_, rfl⟩ (.cons ⟨_, rfl⟩ .nil))))⟩
  have FI := ok_tab (k := 16) F_I C ⟨ok_marks (k := 15) F2 (PySem.W.mg_of X G w1) hM mN x1 mn_isinstance mn_str mn_len mn_tuple, b2, k2, m2⟩ ⟨ok_size F3 mg3 mg2 mN x1 mn_len, b3, k3, m3⟩ ⟨ok_seats F4 mN x1 mn_int, b4, k4, m4⟩ ⟨ok_ord F5 mg3 mN x1 mn_sorted mn_list mn_tuple, b5, k5, m5⟩ ⟨ok_dutyOf (k := 15) F1 D W15, b1, k1, m1⟩ W16
  have LC : ∀ k, Lib l.prog w K mg base (k + 1) "_law_cell" pCell (spCell K) f7 _ := fun k => ⟨ok_cell F7 mn_len, b7, k7, m7⟩
  have BG0 : Binds K _ ["self", "table", "trump"] [] := fun s us hX hl => match us, hl with | [_, _, _], _ => by first | exact .of_eq rfl | exact PySem.W.binds_K (fd := PySem.W.fnOf "__init__" "Game.__init__" (defArgs sGamInit) (defBody sGamInit) (defScope sGamInit) (.ref dT) kV_G dc_G pm_G an_G cd_G ct_G) hX rfl w3 rfl rfl rfl
  have FS : FnOk l.prog w K mg base CX0 17 f_S _ ["self", "card", "other"] (spStronger CT CG) := ok_stronger (k := 16) F_S C CGm ⟨ok_later (k := 15) F6, b6, k6, m6⟩ m_O (ok_torder (k := 15) F_O C mn_list) b_O mg1
  have FV : ∀ j, FnOk l.prog w K mg base CX0 (18 + j) f_V _ pOver (spOver CT CG) := fun j => (ok_over (k := 17) F_V CGm m_S FS b_S mg1).mono (by omega)
  have FW : FnOk l.prog w K mg base CX0 19 f_W _ ["self", "trick"] (spWinner K CT CG) := ok_winner (k := 18) F_W CGm m_V (FV 0) b_V mg1 mn_enumerate
  have LD : ∀ k, Lib l.prog w K mg base (k + 1) "_law_card" ["_law_cell_here", "_law_facts"] (spCard K) f14 _ := fun k => ⟨ok_card F14, b14, k14, m14⟩
  exact ok_law (k := 18) F18 C CGm ⟨ok_table (k := 18) F10 (LC 17) ⟨ok_mixed F8, b8, k8, m8⟩ ⟨ok_order F9 mn_range, b9, k9, m9⟩ mn_range, b10, k10, m10⟩ (LC 18) ⟨ok_text F11 mn_str, b11, k11, m11⟩ ⟨ok_trump (k := 18) F13 (LC 17), b13, k13, m13⟩
    ⟨ok_trick (k := 18) F15 (LC 17) ⟨ok_mixed F8, b8, k8, m8⟩ (LD 17) mn_range, b15, k15, m15⟩ ⟨ok_due (k := 18) F16 ⟨ok_lover F12, b12, k12, m12⟩ mn_range mn_len, b16, k16, m16⟩ ⟨ok_number F17 mn_isinstance mn_int mn_bool, b17, k17, m17⟩
    ⟨mkCT, a_I, i_I, kcCT⟩ (FI.mono (by decide)) b_I ⟨mkCG, a_G, i_G, kcCG⟩ (ok_gam (k := 17) F_G CGm) BG0 m_W FW b_W mn_range mn_tuple
theorem walk {l : PySem.W.OpenLaw} {q : Program} {loose : List Str} {XP : (Str → Option Value) → Heap → Prop} {YP : World → Heap → Prop} {d : DefRec} {K : Params → PySem.W.Frag} (hn : l.most = some 63) (hdf : d.params.defaults = [])
    (hY : ∀ (w : World) (h : Heap), YP w h → (K w.params).In h)
    (F : ∀ (w : World) (mg : Str → Option Value) (fa : Addr) (h : Heap), (K w.params).In h → h.Ns mainGlobals mg → mg d.name = some (.ref fa) →
      ∃ fd : FuncData, (∀ (s : Shared) (u : Value), BindsTo s fd ⟨[u], []⟩ [("_law_script", u)]) ∧ ∀ base : Heap, (K w.params).In base → base.Ns mainGlobals mg → FnOk l.prog w (K w.params) mg base CX0 20 fa fd ["_law_script"] (spLaw (K w.params))) :
    PySem.W.WalkO q loose XP YP l.row.toRowW d [] (fun f vs => PySem.call f vs) :=
  L2.walk_of (n := 63) (k := 20) (x := "_law_script") (CX := fun _ => CX0) (sp := fun w => spLaw (K w.params)) hn (by decide) hdf ⟨rfl, by decide, by decide⟩ hY F (fun _ _ a ns hl _ hS => ⟨a, ns, rfl, hS, hl, fun _ => rfl⟩) fun _ _ _ _ _ z => z
end My
namespace PySem.W.Fast
theorem tw7564556618883368102 : True := trivial
theorem tw14713554645181267196 : True := trivial
theorem tw14461794413887625709 : True := trivial
theorem tw166555666953246001 : True := trivial
theorem tw4142135990822433537 : True := trivial
theorem tw15246460134939511589 : True := trivial
theorem tw2547486162155340580 : True := trivial
theorem tw16642176604266562465 : True := trivial
theorem tw265877630575372456 : True := trivial
theorem tw6479586276155108443 : True := trivial
theorem tw13193941893357661284 : True := trivial
theorem tw15561742131969960962 : True := trivial
theorem tw11351065269797523769 : True := trivial
theorem tw10212553814466940953 : True := trivial
theorem tw5576015886870738774 : True := trivial
theorem tw17350677550633755879 : True := trivial
theorem tw11871689732682489466 : True := trivial
theorem tw16221954635348362002 : True := trivial
theorem tw17121019072770379888 : True := trivial
theorem tw5584509134400271738 : True := trivial
theorem tw18396695575423361949 : True := trivial
theorem tw1230973809866873685 : True := trivial
theorem tw16526841439525601298 : True := trivial
theorem tw10386403117202762987 : True := trivial
theorem tw15239650899527523787 : True := trivial
theorem tw14171372759315469500 : True := trivial
theorem tw15269759399482435705 : True := trivial
theorem tw6245120476878430182 : True := trivial
theorem tw14246537508634456178 : True := trivial
theorem tw908275991322799268 : True := trivial
theorem tw18364744530268418064 : True := trivial
theorem tw12150013400950075829 : True := trivial
theorem tw209993061731086913 : True := trivial
theorem tw16118270971219658671 : True := trivial
theorem tw15332699585391268837 : True := trivial
theorem tw10155229464449480648 : True := trivial
theorem tw15130195343396753319 : True := trivial
theorem tw17263182789172389844 : True := trivial
theorem tw16686834155171111691 : True := trivial
theorem tw6940012399423109946 : True := trivial
theorem tw3608104735727024840 : True := trivial
theorem tw824134111989154278 : True := trivial
theorem tw2828875680156396650 : True := trivial
theorem tw2515967488467977915 : True := trivial
theorem tw8504730599932238729 : True := trivial
theorem tw1979684036536971489 : True := trivial
theorem tw15878902346947410580 : True := trivial
theorem tw3543277929978030498 : True := trivial
theorem tw7186970134288496412 : True := trivial
theorem tw11978276644801029821 : True := trivial
theorem tw16270177389534918327 : True := trivial
theorem tw17860253333720619340 : True := trivial
theorem tw4875268089732949688 : True := trivial
theorem tw3233572826369858387 : True := trivial
theorem tw13800645482377061051 : True := trivial
theorem tw12971280497584000440 : True := trivial
theorem tw12498890061310645518 : True := trivial
theorem tw12426976161163955666 : True := trivial
theorem tw12848584380259213429 : True := trivial
theorem tw8726133660539910422 : True := trivial
theorem tw14928400560684848749 : True := trivial
theorem tw8487870329466220763 : True := trivial
theorem tw6840016829388138085 : True := trivial
theorem tw6858019905031072881 : True := trivial
theorem tw1556063048275124484 : True := trivial
theorem tw13127488874098021592 : True := trivial
theorem tw2025266865935525473 : True := trivial
theorem tw4240679455451192081 : True := trivial
theorem tw15054401487347451500 : True := trivial
theorem tw11988879968609318512 : True := trivial
theorem tw5778038640904379250 : True := trivial
theorem tw12765697680895784472 : True := trivial
theorem tw7664253539551138173 : True := trivial
theorem tw11214219279506405658 : True := trivial
theorem tw3783538789926455752 : True := trivial
theorem tw7533627730064704232 : True := trivial
theorem tw556020055111450628 : True := trivial
theorem tw5524180189145942283 : True := trivial
theorem tw17527151630358308413 : True := trivial
theorem tw18249726887263356912 : True := trivial
theorem tw7415275849212020592 : True := trivial
theorem tw9413636597580292922 : True := trivial
theorem tw16010806530468051425 : True := trivial
theorem tw3266620386567946897 : True := trivial
theorem tw7136942250570878676 : True := trivial
theorem tw11438727733499360059 : True := trivial
theorem tw15254512542013791622 : True := trivial
theorem tw10702871805643710733 : True := trivial
theorem tw5851562544462117979 : True := trivial
theorem tw6837233039517730095 : True := trivial
theorem tw7067978788568570130 : True := trivial
theorem tw13781918178240897960 : True := trivial
theorem tw2168285381795257898 : True := trivial
theorem tw4855684254211755656 : True := trivial
theorem tw13794847477827695674 : True := trivial
theorem tw11863221294164771067 : True := trivial
theorem tw5958490948214587040 : True := trivial
theorem tw7069852100120405768 : True := trivial
theorem tw9859436601587030524 : True := trivial
theorem tw1960635983884786494 : True := trivial
theorem tw947027115986000881 : True := trivial
theorem tw8866279480608484261 : True := trivial
theorem tw8456813547173380908 : True := trivial
theorem tw15826775297570662959 : True := trivial
theorem tw17691363151188264970 : True := trivial
theorem tw15895489674448281437 : True := trivial
theorem tw14503336125378373803 : True := trivial
theorem tw13227646265324611491 : True := trivial
theorem tw5434649713675434493 : True := trivial
theorem tw828559808357580623 : True := trivial
theorem tw13281169180411615155 : True := trivial
theorem tw8432983677718983135 : True := trivial
theorem tw10748141637362606125 : True := trivial
theorem tw5935399684924124850 : True := trivial
theorem tw13912174759347310578 : True := trivial
theorem tw10128867793866910902 : True := trivial
theorem tw7505049713637071954 : True := trivial
theorem tw12704731510697333593 : True := trivial
theorem tw5025587265049072793 : True := trivial
theorem tw1294777369538446819 : True := trivial
theorem tw11463699194528951828 : True := trivial
theorem tw12064970016869338223 : True := trivial
theorem tw4413152895410514074 : True := trivial
theorem tw18285788482031162959 : True := trivial
theorem tw12879854360948378252 : True := trivial
theorem tw1809420727583260784 : True := trivial
theorem tw7763235031221498991 : True := trivial
theorem tw11221600614894780371 : True := trivial
theorem tw7419414046090560794 : True := trivial
theorem tw9474541385987863805 : True := trivial
theorem tw15244646103750193475 : True := trivial
theorem tw5778485074271006739 : True := trivial
theorem tw8305039116174439327 : True := trivial
theorem tw13097382780331886833 : True := trivial
theorem tw9618467391787077704 : True := trivial
theorem tw18374911632608713194 : True := trivial
theorem tw240353256611207006 : True := trivial
theorem tw3676865610525027568 : True := trivial
theorem tw4206425120865040896 : True := trivial
theorem tw8001175869974756841 : True := trivial
theorem tw10564081400751203492 : True := trivial
theorem tw7769567434138590513 : True := trivial
theorem tw8365644515172454122 : True := trivial
theorem tw5757982688753590403 : True := trivial
theorem tw3750567524822153263 : True := trivial
theorem tw10081657930276811971 : True := trivial
theorem tw11608247778531736687 : True := trivial
theorem tw16672285981378257097 : True := trivial
theorem tw1915850058756257438 : True := trivial
theorem tw10521275790013242836 : True := trivial
theorem tw16061424329664770871 : True := trivial
theorem tw5923063538030502808 : True := trivial
theorem tw14343851981951966358 : True := trivial
theorem tw13085070955805614452 : True := trivial
theorem tw13329518725738915454 : True := trivial
theorem tw12773500140698232561 : True := trivial
theorem tw485515440558439193 : True := trivial
theorem tw17297151941977713675 : True := trivial
theorem tw17594815982115681956 : True := trivial
theorem tw498508163049722863 : True := trivial
theorem tw5991476781177668521 : True := trivial
theorem tw9730522789341871641 : True := trivial
theorem tw9163974362119385269 : True := trivial
theorem tw9874232979128569287 : True := trivial
theorem tw17469139225548398111 : True := trivial
theorem tw15444977452001174352 : True := trivial
theorem tw2084108396935462280 : True := trivial
theorem tw9580242703078322222 : True := trivial
theorem tw15882062755783228914 : True := trivial
theorem tw2746068009905639941 : True := trivial
theorem tw2900501169301721113 : True := trivial
theorem tw11083767160602839702 : True := trivial
theorem tw5295760618141071368 : True := trivial
theorem tw13692807336299821432 : True := trivial
theorem tw16052743876507633969 : True := trivial
theorem tw8272653670198919267 : True := trivial
theorem tw11605575259236862876 : True := trivial
theorem tw6291633301860050681 : True := trivial
theorem tw10946570006660425523 : True := trivial
theorem tw10275451426059710553 : True := trivial
theorem tw8415817598364835148 : True := trivial
theorem tw5136410026796955348 : True := trivial
theorem tw12104006844156310744 : True := trivial
theorem tw15584243740495507329 : True := trivial
theorem tw13745419180358734178 : True := trivial
theorem tw12232371819698455198 : True := trivial
theorem tw13330500824413228435 : True := trivial
theorem tw15700072770517541389 : True := trivial
theorem tw17571608107808417873 : True := trivial
theorem tw4543255198884322992 : True := trivial
theorem tw14465079513418634736 : True := trivial
theorem tw2217357202130386162 : True := trivial
theorem tw3563522542091891628 : True := trivial
theorem tw14707790638502339362 : True := trivial
theorem tw7030129259860469663 : True := trivial
theorem tw16686743991408927721 : True := trivial
theorem tw6961551112077791170 : True := trivial
theorem tw8554343553694729523 : True := trivial
theorem tw12608626798426513500 : True := trivial
theorem tw14029792427706652917 : True := trivial
theorem tw1522411539122756874 : True := trivial
theorem tw4547685662136130323 : True := trivial
theorem tw4500611589599491621 : True := trivial
theorem tw10979710251933410775 : True := trivial
theorem tw287069282703074983 : True := trivial
theorem tw2073419225511666945 : True := trivial
theorem tw5963746923211751140 : True := trivial
theorem tw1873989484051007307 : True := trivial
theorem tw18339710674186293362 : True := trivial
theorem tw1717070312367951903 : True := trivial
theorem tw15053758654512593844 : True := trivial
theorem tw9745979651120977939 : True := trivial
theorem tw10653700020574223186 : True := trivial
theorem tw14595005578003529218 : True := trivial
theorem tw6770895604968002279 : True := trivial
theorem tw480192542313311638 : True := trivial
theorem tw673624008403746760 : True := trivial
theorem tw7931566292293767002 : True := trivial
theorem tw7045379158671400873 : True := trivial
theorem tw17046768700502295338 : True := trivial
theorem tw5205647742736534038 : True := trivial
theorem tw14421123499525214883 : True := trivial
theorem tw5029762676311640166 : True := trivial
theorem tw12326068553006673678 : True := trivial
theorem tw17654354869117745214 : True := trivial
theorem tw7500740299172378042 : True := trivial
theorem tw17156044171371200495 : True := trivial
theorem tw12462369896354316218 : True := trivial
theorem tw17020868602124496281 : True := trivial
theorem tw15280733675911727741 : True := trivial
theorem tw472427738255455473 : True := trivial
theorem tw4135879708500122395 : True := trivial
theorem tw3105321716668640458 : True := trivial
theorem tw4537181791916407282 : True := trivial
theorem tw5840307515630818934 : True := trivial
theorem tw16013528712279720098 : True := trivial
theorem tw3758491355590017836 : True := trivial
theorem tw7327711639763733792 : True := trivial
theorem tw14566190361876392526 : True := trivial
theorem tw1488361350542965654 : True := trivial
theorem tw13626623088914751264 : True := trivial
theorem tw17872976033917971217 : True := trivial
theorem tw2068559864402364401 : True := trivial
theorem tw10129355175464704777 : True := trivial
theorem tw2372006065361637965 : True := trivial
theorem tw17877071605230617354 : True := trivial
theorem tw18237001308385017980 : True := trivial
theorem tw18374629301932160805 : True := trivial
theorem tw12755991581973200175 : True := trivial
theorem tw13901056524300184515 : True := trivial
theorem tw13311595315981985702 : True := trivial
theorem tw16241630469960055439 : True := trivial
theorem tw13231922959956785666 : True := trivial
theorem tw12336633673027108775 : True := trivial
theorem tw2239257150962923695 : True := trivial
theorem tw6758940633957149057 : True := trivial
theorem tw9342244132539387818 : True := trivial
theorem tw4418737925469759873 : True := trivial
theorem tw18206923343085402787 : True := trivial
theorem tw5768564042065831670 : True := trivial
theorem tw6068394768112087776 : True := trivial
theorem tw510664758829718284 : True := trivial
theorem tw15546724504227568537 : True := trivial
theorem tw17220971975056251720 : True := trivial
theorem tw7488655786078960360 : True := trivial
theorem tw17257958529678623669 : True := trivial
theorem tw17825270458566763073 : True := trivial
theorem tw12472994870461914492 : True := trivial
theorem tw16804280477123918581 : True := trivial
theorem tw13407262034595849001 : True := trivial
theorem tw7664130710727943505 : True := trivial
theorem tw1816957796501646486 : True := trivial
theorem tw11569943237931284001 : True := trivial
theorem tw15317890877769183673 : True := trivial
theorem tw14592978071791038160 : True := trivial
theorem tw16692119805225006525 : True := trivial
theorem tw15032375684189537726 : True := trivial
theorem tw5630535480550623210 : True := trivial
theorem tw9734595341471577843 : True := trivial
theorem tw18045111039987950796 : True := trivial
theorem tw10147978597930403532 : True := trivial
theorem tw3788331834808429579 : True := trivial
theorem tw3246290483478920172 : True := trivial
theorem tw12470095461074105863 : True := trivial
theorem tw984157295965262178 : True := trivial
theorem tw13669144066611927675 : True := trivial
theorem tw12463180275225080170 : True := trivial
theorem tw5356430783869481657 : True := trivial
theorem tw2828120782535707387 : True := trivial
theorem tw9004792568112988137 : True := trivial
theorem tw10889634858271164613 : True := trivial
theorem tw5150654566428257025 : True := trivial
theorem tw4301134141624946180 : True := trivial
theorem tw17153771601601954417 : True := trivial
theorem tw12165794784220495507 : True := trivial
theorem tw4653886589139550684 : True := trivial
theorem tw6342819701989772975 : True := trivial
theorem tw5666020079641460473 : True := trivial
theorem tw2990083673274881518 : True := trivial
theorem tw715045746353693414 : True := trivial
theorem tw13277420690087451632 : True := trivial
theorem tw89795776886610331 : True := trivial
theorem tw15284075056051915111 : True := trivial
theorem tw16072764930115066962 : True := trivial
theorem tw3080281869130546701 : True := trivial
theorem tw4976884448869901916 : True := trivial
theorem tw12510650342156780046 : True := trivial
theorem tw16444730201758635479 : True := trivial
theorem tw13393881180537453323 : True := trivial
theorem tw13276887635649135444 : True := trivial
theorem tw15157537644887540352 : True := trivial
theorem tw3076327446912557341 : True := trivial
theorem tw1594453038945116573 : True := trivial
theorem tw13584378040228730699 : True := trivial
theorem tw8937181127432228982 : True := trivial
theorem tw10511591728516427640 : True := trivial
theorem tw7961299825826014092 : True := trivial
theorem tw18018603725897759850 : True := trivial
theorem tw4887677877369479064 : True := trivial
theorem tw8744085128771205302 : True := trivial
theorem tw1828191801704035977 : True := trivial
theorem tw1234998952660727557 : True := trivial
theorem tw14892867140229974129 : True := trivial
theorem tw1411502751759079402 : True := trivial
theorem tw17966272962534649689 : True := trivial
theorem tw16580756003279662791 : True := trivial
theorem tw14268199067259519895 : True := trivial
theorem tw8879969099659778674 : True := trivial
theorem tw16749572840616412795 : True := trivial
theorem tw3066122429232414197 : True := trivial
theorem tw6826752525964705478 : True := trivial
theorem tw9696666847800748172 : True := trivial
theorem tw3974321393105723256 : True := trivial
theorem tw6870389698779774296 : True := trivial
theorem tw16163209585917439010 : True := trivial
theorem tw90714207133474832 : True := trivial
theorem tw8449841745306979482 : True := trivial
theorem tw14444715681660228479 : True := trivial
theorem tw7757802363575799735 : True := trivial
theorem tw5482040630132807622 : True := trivial
theorem tw11612348208652877656 : True := trivial
theorem tw4256053491067764988 : True := trivial
theorem tw15535221634772963103 : True := trivial
theorem tw9771274622646833343 : True := trivial
theorem tw1328069417423762767 : True := trivial
theorem tw8144897849353949775 : True := trivial
theorem tw9168838215620953881 : True := trivial
theorem tw6254534479726233907 : True := trivial
theorem tw3401332945651923614 : True := trivial
theorem tw2080662966473822759 : True := trivial
theorem tw17579249201507252534 : True := trivial
theorem tw1839439587196039917 : True := trivial
theorem tw11745890072540804327 : True := trivial
theorem tw9468788159780136450 : True := trivial
theorem tw14419319260147402972 : True := trivial
theorem tw4856060329149555710 : True := trivial
theorem tw737630246207623347 : True := trivial
theorem tw4331547585906775551 : True := trivial
theorem tw17001934600489677709 : True := trivial
theorem tw11276230520166741138 : True := trivial
theorem tw5598978113845627478 : True := trivial
theorem tw10374399146107703619 : True := trivial
theorem tw13992822144472388186 : True := trivial
theorem tw8055165431911725388 : True := trivial
theorem tw7103954043119049605 : True := trivial
theorem tw7327720757069014947 : True := trivial
theorem tw10352077714599187595 : True := trivial
theorem tw9043203125401283011 : True := trivial
theorem tw1540548694717533311 : True := trivial
theorem tw13902879128334770061 : True := trivial
theorem tw12141469560156142620 : True := trivial
theorem tw13809591818631043822 : True := trivial
theorem tw15994823117352375207 : True := trivial
theorem tw4590366756976743398 : True := trivial
theorem tw8041892242532135340 : True := trivial
theorem tw9773082154563418259 : True := trivial
theorem tw16069141404027140810 : True := trivial
theorem tw15756033191540012421 : True := trivial
theorem tw15200818029840013483 : True := trivial
theorem tw11247679311363131584 : True := trivial
theorem tw13499879034669477020 : True := trivial
theorem tw6540168896074136590 : True := trivial
theorem tw7258536232075844437 : True := trivial
theorem tw17983200064728214044 : True := trivial
theorem tw18298323673198588662 : True := trivial
theorem tw15534095702806928539 : True := trivial
theorem tw9457333966096086846 : True := trivial
theorem tw14675024308864583298 : True := trivial
theorem tw4506826752273266370 : True := trivial
theorem tw13456684145768566294 : True := trivial
theorem tw7928057645265378727 : True := trivial
theorem tw13343371441652506773 : True := trivial
theorem tw11322598582772741408 : True := trivial
theorem tw3950525792832731532 : True := trivial
theorem tw1400794630507114692 : True := trivial
theorem tw6133649419550873261 : True := trivial
theorem tw13221219541747346634 : True := trivial
theorem tw11201687770396568197 : True := trivial
theorem tw1228697148233830670 : True := trivial
theorem tw11425718188996089477 : True := trivial
theorem tw9631008289910470578 : True := trivial
theorem tw1471170526690784320 : True := trivial
theorem tw13389942509211540418 : True := trivial
theorem tw4258745577955833160 : True := trivial
theorem tw5159556461213921830 : True := trivial
theorem tw1733572844170161060 : True := trivial
theorem tw7303551520418898281 : True := trivial
theorem tw14556399862722864355 : True := trivial
theorem tw6700738860407777213 : True := trivial
theorem tw15799173623477387412 : True := trivial
theorem tw9681849414288114740 : True := trivial
theorem tw7000462173584716816 : True := trivial
theorem tw6252841384137865759 : True := trivial
theorem tw17672296845883003662 : True := trivial
theorem tw8415369208159373254 : True := trivial
theorem tw12380748748001557967 : True := trivial
theorem tw4053306267879906522 : True := trivial
theorem tw12898988547154306209 : True := trivial
theorem tw10937274917720474859 : True := trivial
theorem tw9315978330325687688 : True := trivial
theorem tw10532368257065669684 : True := trivial
theorem tw8799648829404530231 : True := trivial
theorem tw486575395515966727 : True := trivial
theorem tw10186246354653794629 : True := trivial
theorem tw7277155285391457294 : True := trivial
theorem tw13881096898931387833 : True := trivial
theorem tw12638606993555533152 : True := trivial
theorem tw16818564644040561059 : True := trivial
theorem tw2366380186543414707 : True := trivial
theorem tw725146663754537346 : True := trivial
theorem tw15632406488104150538 : True := trivial
theorem tw14733813046192611450 : True := trivial
theorem tw17253446247122158470 : True := trivial
theorem tw8833471003133625330 : True := trivial
theorem tw535028268046119487 : True := trivial
theorem tw2662750207923884556 : True := trivial
theorem tw6364954494206627525 : True := trivial
theorem tw9636220213720567096 : True := trivial
theorem tw16243435976881954146 : True := trivial
theorem tw5320732102566090248 : True := trivial
theorem tw3008684748928407984 : True := trivial
theorem tw15536684074161445113 : True := trivial
theorem tw14907179548436733864 : True := trivial
theorem tw14038171959788827181 : True := trivial
theorem tw2527843188374685968 : True := trivial
theorem tw2114096847671309563 : True := trivial
theorem tw9491097326133898672 : True := trivial
theorem tw1753150066440582983 : True := trivial
theorem tw12333521567613793819 : True := trivial
theorem tw13914529605146013750 : True := trivial
theorem tw224145964250135065 : True := trivial
theorem tw9742193185374228163 : True := trivial
theorem tw15967533705215388567 : True := trivial
theorem tw15416483492754355693 : True := trivial
theorem tw17667459099207168664 : True := trivial
theorem tw16427802536838541365 : True := trivial
theorem tw12096902984767250562 : True := trivial
theorem tw5935177666934292407 : True := trivial
theorem tw16802013770690008657 : True := trivial
theorem tw4624310265729692923 : True := trivial
theorem tw2422047343732661619 : True := trivial
theorem tw4153106753970176363 : True := trivial
theorem tw18281275434547144523 : True := trivial
theorem tw2373019194253404830 : True := trivial
theorem tw9676977859601877954 : True := trivial
theorem tw7921350891882898503 : True := trivial
theorem tw10458467680283590849 : True := trivial
theorem tw6054508254875152784 : True := trivial
theorem tw11829560147862110713 : True := trivial
theorem tw8950765891343779682 : True := trivial
theorem tw12636414727959950505 : True := trivial
theorem tw4059080150031787335 : True := trivial
theorem tw1789203210874323958 : True := trivial
theorem tw9228442011547941589 : True := trivial
theorem tw15447016945333738099 : True := trivial
theorem tw7254170769504041388 : True := trivial
theorem tw14392706693069738827 : True := trivial
theorem tw5373984170764192398 : True := trivial
theorem tw10628934779500614297 : True := trivial
theorem tw2639417788171288117 : True := trivial
theorem tw13862811364193799429 : True := trivial
theorem tw9072214339589719007 : True := trivial
theorem tw4438990482755947487 : True := trivial
theorem tw9593822078294808492 : True := trivial
theorem tw11621845683334733936 : True := trivial
theorem tw7867841012998149212 : True := trivial
theorem tw6198596786355648975 : True := trivial
theorem tw11842679789544296578 : True := trivial
theorem tw15106193747097597708 : True := trivial
theorem tw17444363086202704518 : True := trivial
theorem tw9261198025210389388 : True := trivial
theorem tw1986681350092573536 : True := trivial
theorem tw9631687179313363088 : True := trivial
theorem tw13584534207343960062 : True := trivial
theorem tw9358692525046574799 : True := trivial
theorem tw9261766195167208174 : True := trivial
theorem tw4994362313187226721 : True := trivial
theorem tw11490664056319371870 : True := trivial
theorem tw16375633409236867285 : True := trivial
theorem tw16657177086658206122 : True := trivial
theorem tw11671814748046219963 : True := trivial
theorem tw17779098980311257734 : True := trivial
theorem tw12789276928364601319 : True := trivial
theorem tw1556589172121303560 : True := trivial
theorem tw16694471192177695016 : True := trivial
theorem tw17972310935261069305 : True := trivial
theorem tw14811122591250941682 : True := trivial
theorem tw4157445395420716870 : True := trivial
theorem tw1135854477490626514 : True := trivial
theorem tw15694655821616599960 : True := trivial
theorem tw10457415091211256228 : True := trivial
theorem tw13699219206735674743 : True := trivial
theorem tw13565974320062764186 : True := trivial
theorem tw11283256031540817708 : True := trivial
theorem tw9429626182348816190 : True := trivial
theorem tw8610931972626709060 : True := trivial
theorem tw9270637250058909133 : True := trivial
theorem tw11699740051022312980 : True := trivial
theorem tw3307350875301282106 : True := trivial
theorem tw16079921317177653480 : True := trivial
theorem tw2481304523947190555 : True := trivial
theorem tw11942345199259977671 : True := trivial
theorem tw16240944845040006803 : True := trivial
theorem tw4766367633063328917 : True := trivial
theorem tw10176269804764337191 : True := trivial
theorem tw12196944645216555463 : True := trivial
theorem tw824547086666675130 : True := trivial
theorem tw3409768410736110779 : True := trivial
theorem tw3177814127638996475 : True := trivial
theorem tw15014552680961604733 : True := trivial
theorem tw14707589895792645563 : True := trivial
theorem tw3090298985599273700 : True := trivial
theorem tw5732724590105814551 : True := trivial
theorem tw10011673027317964482 : True := trivial
theorem tw13338646348387128131 : True := trivial
theorem tw7744548953455897070 : True := trivial
theorem tw1368569715285210405 : True := trivial
theorem tw15741690879810083341 : True := trivial
theorem tw10745369979924583723 : True := trivial
theorem tw2110239278394289562 : True := trivial
theorem tw13324982106264971945 : True := trivial
theorem tw5139951560264187052 : True := trivial
theorem tw9294595924792355150 : True := trivial
theorem tw622175770593841931 : True := trivial
theorem tw645646617444966380 : True := trivial
theorem tw8225716093225366227 : True := trivial
theorem tw12497391704293622232 : True := trivial
theorem tw12989369056452087243 : True := trivial
theorem tw6091475774529454171 : True := trivial
theorem tw2925515282240660444 : True := trivial
theorem tw7981965436281659599 : True := trivial
theorem tw14839478219956847586 : True := trivial
theorem tw319079066776825223 : True := trivial
theorem tw15178329438059721877 : True := trivial
theorem tw1418252217921493086 : True := trivial
theorem tw18108857570510054314 : True := trivial
theorem tw10078858695464900389 : True := trivial
theorem tw1774893710472470548 : True := trivial
theorem tw18135558642956351387 : True := trivial
theorem tw4216653326541308421 : True := trivial
theorem tw6942595247627698995 : True := trivial
theorem tw3927062097699480754 : True := trivial
theorem tw12905694940944773138 : True := trivial
theorem tw10887885831636917180 : True := trivial
theorem tw6766453162295563377 : True := trivial
theorem tw3215787327469741359 : True := trivial
theorem tw1150370518409093985 : True := trivial
theorem tw14895440053798134399 : True := trivial
theorem tw159335573238492066 : True := trivial
theorem tw14952219218489552425 : True := trivial
theorem tw2063620236531189603 : True := trivial
theorem tw3045912924910912182 : True := trivial
theorem tw18356352079853296289 : True := trivial
theorem tw1058387296933521236 : True := trivial
theorem tw11170491569730430818 : True := trivial
theorem tw8760905654177594159 : True := trivial
theorem tw8504211797299981933 : True := trivial
theorem tw17106815822323128596 : True := trivial
theorem tw4641838083941291177 : True := trivial
theorem tw10359407644718152513 : True := trivial
theorem tw6904443051701356582 : True := trivial
theorem tw9429690918877614035 : True := trivial
theorem tw5450868155476305400 : True := trivial
theorem tw17317553605738556887 : True := trivial
theorem tw6050117044303648682 : True := trivial
theorem tw2817235424730121183 : True := trivial
theorem tw843270171932253010 : True := trivial
theorem tw10075077116513517557 : True := trivial
theorem tw16624305575999275327 : True := trivial
theorem tw12750477226066733440 : True := trivial
theorem tw12950734987152711805 : True := trivial
theorem tw6459048542537405934 : True := trivial
theorem tw14448756822244848463 : True := trivial
theorem tw7615881985694567478 : True := trivial
theorem tw561607470137294700 : True := trivial
theorem tw1062586751542665630 : True := trivial
theorem tw666626011723485212 : True := trivial
theorem tw6170336019967293761 : True := trivial
theorem tw15234137610457853770 : True := trivial
theorem tw9486418751268596444 : True := trivial
theorem tw18404944697929212380 : True := trivial
theorem tw10246153743741894661 : True := trivial
theorem tw10803422624245558941 : True := trivial
theorem tw6378761627294760748 : True := trivial
theorem tw12670441694748411777 : True := trivial
theorem tw17510720125709789839 : True := trivial
theorem tw11233723247903356615 : True := trivial
theorem tw15822579445840036838 : True := trivial
theorem tw16579314069169958436 : True := trivial
theorem tw14005181099386956655 : True := trivial
theorem tw10627695799068938044 : True := trivial
theorem tw4192920917751432933 : True := trivial
theorem tw8950320847194967765 : True := trivial
theorem tw3288183220987935237 : True := trivial
theorem tw1287983956959605474 : True := trivial
theorem tw2096462914056742608 : True := trivial
theorem tw9069938649123261966 : True := trivial
theorem tw14540480683474081150 : True := trivial
theorem tw12709334955437199640 : True := trivial
theorem tw3641968447962773410 : True := trivial
theorem tw15362489924192288044 : True := trivial
theorem tw6729275983251128444 : True := trivial
theorem tw1135992700957097483 : True := trivial
theorem tw13324830618935124289 : True := trivial
theorem tw10543073514127432323 : True := trivial
theorem tw7127931787399189540 : True := trivial
theorem tw16619415382464348846 : True := trivial
theorem tw776081037074326742 : True := trivial
theorem tw11094053021668696467 : True := trivial
theorem tw14329933958212569725 : True := trivial
theorem tw9234116898185491793 : True := trivial
theorem tw9577641147686095571 : True := trivial
theorem tw9243170575409967868 : True := trivial
theorem tw2814583702027201554 : True := trivial
theorem tw13795873110289724400 : True := trivial
theorem tw5465622029290862464 : True := trivial
theorem tw8402715298419028025 : True := trivial
theorem tw14645622220624083456 : True := trivial
theorem tw5930227071208560465 : True := trivial
theorem tw17299448522109538077 : True := trivial
theorem tw5036331394034023076 : True := trivial
theorem tw2669785993728667078 : True := trivial
theorem tw10329950115588463181 : True := trivial
theorem tw5846776185873652136 : True := trivial
theorem tw9427448779711016594 : True := trivial
theorem tw16777222439063855344 : True := trivial
theorem tw8574431486378308680 : True := trivial
theorem tw11093529764298799670 : True := trivial
theorem tw15334215718811876665 : True := trivial
theorem tw10218293235408931261 : True := trivial
theorem tw10621971620360070975 : True := trivial
theorem tw3705261031507782574 : True := trivial
theorem tw15955933336973340876 : True := trivial
theorem tw5704105856130897260 : True := trivial
theorem tw8191814153653720 : True := trivial
theorem tw12792928124508637918 : True := trivial
theorem tw15985407535748628343 : True := trivial
theorem tw1246598278439185707 : True := trivial
theorem tw12844707548855918961 : True := trivial
theorem tw7732134662677965684 : True := trivial
theorem tw1832860781144422122 : True := trivial
theorem tw11204583692451973082 : True := trivial
theorem tw1221887399966183946 : True := trivial
theorem tw10873773902650500566 : True := trivial
theorem tw1977939384476724284 : True := trivial
theorem tw4051019878349790846 : True := trivial
theorem tw11784250513089753807 : True := trivial
theorem tw16843506232519804986 : True := trivial
theorem tw631203946035403106 : True := trivial
theorem tw11827855256163916479 : True := trivial
theorem tw397008929073628646 : True := trivial
theorem tw10056314396012995355 : True := trivial
theorem tw3196650488689444524 : True := trivial
theorem tw13424371921447519145 : True := trivial
theorem tw18067946961040553634 : True := trivial
theorem tw7122271651809739487 : True := trivial
theorem tw10171724778162881953 : True := trivial
theorem tw11244791516141928137 : True := trivial
theorem tw4549273640078294947 : True := trivial
theorem tw610484169170877121 : True := trivial
theorem tw15972280979654062787 : True := trivial
theorem tw6101272169650906763 : True := trivial
theorem tw4704831885924169908 : True := trivial
theorem tw1860392948384337063 : True := trivial
theorem tw7568535274218068545 : True := trivial
theorem tw6551877362187042616 : True := trivial
theorem tw4852585920693068165 : True := trivial
theorem tw949055089940710593 : True := trivial
theorem tw4825204008316401772 : True := trivial
theorem tw916223482843514987 : True := trivial
theorem tw2577013620746809050 : True := trivial
theorem tw17586888663564428806 : True := trivial
theorem tw2276553524031191226 : True := trivial
theorem tw1980094988639808474 : True := trivial
theorem tw10010849701665552680 : True := trivial
theorem tw15991362676509111388 : True := trivial
theorem tw14575597557596589994 : True := trivial
theorem tw5049949943475951998 : True := trivial
theorem tw8935303156509542087 : True := trivial
theorem tw16290736175418888535 : True := trivial
theorem tw13295339070905678808 : True := trivial
theorem tw226016521865732994 : True := trivial
theorem tw16601823014630994317 : True := trivial
theorem tw8660072480574546047 : True := trivial
theorem tw6728985259143892513 : True := trivial
theorem tw2575981425971712759 : True := trivial
theorem tw16118715149559070037 : True := trivial
theorem tw11515334219734773490 : True := trivial
theorem tw13191614906961271055 : True := trivial
theorem tw15654554505107020088 : True := trivial
theorem tw15614130499722624076 : True := trivial
theorem tw1336923347380899369 : True := trivial
theorem tw18127990562077640475 : True := trivial
theorem tw15217666691656567734 : True := trivial
theorem tw9217026951868916195 : True := trivial
theorem tw17442239818535130323 : True := trivial
theorem tw18335941007647837126 : True := trivial
theorem tw1245401298291340015 : True := trivial
theorem tw17941780945721191416 : True := trivial
theorem tw7521468634070016249 : True := trivial
theorem tw10304921480896608544 : True := trivial
theorem tw10497383383964191152 : True := trivial
theorem tw13989213930574632031 : True := trivial
theorem tw15324353278470922065 : True := trivial
theorem tw10704282780724240797 : True := trivial
theorem tw3817715741205948011 : True := trivial
theorem tw13957971798630900692 : True := trivial
theorem tw6656892378749748409 : True := trivial
theorem tw13622346704633566935 : True := trivial
theorem tw1697732622207915508 : True := trivial
theorem tw16707394936701859415 : True := trivial
theorem tw3408859396032906565 : True := trivial
theorem tw8580152040202497160 : True := trivial
theorem tw11034115122281626354 : True := trivial
theorem tw3808382332450340007 : True := trivial
theorem tw11127984407992334262 : True := trivial
theorem tw4975626542939217005 : True := trivial
theorem tw661544677750447242 : True := trivial
theorem tw17898857809993338844 : True := trivial
theorem tw11673138011603189422 : True := trivial
theorem tw5337383007478550955 : True := trivial
theorem tw5324161884245232553 : True := trivial
theorem tw1515460154015140120 : True := trivial
theorem tw1367139373059873232 : True := trivial
theorem tw18179647257091618240 : True := trivial
theorem tw1864131104386453716 : True := trivial
theorem tw18068239810635566112 : True := trivial
theorem tw13142927488760932950 : True := trivial
theorem tw182844954664108372 : True := trivial
theorem tw11407613080924960572 : True := trivial
theorem tw16759172154612650115 : True := trivial
theorem tw2225788404937058015 : True := trivial
theorem tw8193667303410281189 : True := trivial
theorem tw5570979105788373660 : True := trivial
theorem tw7778251680956287065 : True := trivial
theorem tw10163347562264307762 : True := trivial
theorem tw9018536426432670172 : True := trivial
theorem tw16507818670531644539 : True := trivial
theorem tw13912159025989893440 : True := trivial
theorem tw17065047377434530977 : True := trivial
theorem tw8610661147918353140 : True := trivial
theorem tw17024684842855776017 : True := trivial
theorem tw17389367015124190868 : True := trivial
theorem tw6683083653758828169 : True := trivial
theorem tw13880601707807377845 : True := trivial
theorem tw2638728573630771942 : True := trivial
theorem tw14447390917099703609 : True := trivial
theorem tw2278549358868686065 : True := trivial
theorem tw1328310225824685381 : True := trivial
theorem tw7404886502542942104 : True := trivial
theorem tw15684733451703698071 : True := trivial
theorem tw5834247616902643134 : True := trivial
theorem tw274300561908960225 : True := trivial
theorem tw17331397604529478468 : True := trivial
theorem tw2928179391183577572 : True := trivial
theorem tw781451830562025912 : True := trivial
theorem tw12056248263656749067 : True := trivial
theorem tw4783927564588330272 : True := trivial
theorem tw4384626646996632278 : True := trivial
theorem tw14991119513797612168 : True := trivial
theorem tw15928429177598586763 : True := trivial
theorem tw866684567326285809 : True := trivial
theorem tw11009330863913649194 : True := trivial
theorem tw16108455196808849030 : True := trivial
theorem tw8550902641121195557 : True := trivial
theorem tw16525182913857667415 : True := trivial
theorem tw3794529647759575345 : True := trivial
theorem tw3679348959883523996 : True := trivial
theorem tw17884038093623936671 : True := trivial
theorem tw16280960079694982543 : True := trivial
theorem tw14655239542575297740 : True := trivial
theorem tw13129194506495511016 : True := trivial
theorem tw3688493615254925953 : True := trivial
theorem tw17396620550029053035 : True := trivial
theorem tw14204747299610989700 : True := trivial
theorem tw1349062458315595243 : True := trivial
theorem tw14367218059419231831 : True := trivial
theorem tw17013809348679510005 : True := trivial
theorem tw7135966343366715124 : True := trivial
theorem tw9957051739053534559 : True := trivial
theorem tw3218087323095783021 : True := trivial
theorem tw18048955783478678622 : True := trivial
theorem tw687926049453702932 : True := trivial
theorem tw16683146848340565502 : True := trivial
theorem tw10927133461834350279 : True := trivial
theorem tw555769038693786068 : True := trivial
theorem tw12242714256241864286 : True := trivial
theorem tw1740517218874337270 : True := trivial
theorem tw2510314470778334329 : True := trivial
theorem tw12915584463899698472 : True := trivial
theorem tw2265757551441972924 : True := trivial
theorem tw11321996528739674340 : True := trivial
theorem tw18005126219747122995 : True := trivial
theorem tw11305882349975380164 : True := trivial
theorem tw1409005336881169717 : True := trivial
theorem tw9177871146046595508 : True := trivial
theorem tw18184566401968114681 : True := trivial
theorem tw7467932074389351366 : True := trivial
theorem tw10526126076780145861 : True := trivial
theorem tw14696729108941022783 : True := trivial
theorem tw15394019010870011557 : True := trivial
theorem tw11076931912421013270 : True := trivial
theorem tw13658804347677679748 : True := trivial
theorem tw3669849165000959992 : True := trivial
theorem tw1155419511120690150 : True := trivial
theorem tw4048014204678522777 : True := trivial
theorem tw17731105467202230195 : True := trivial
theorem tw11832158844225043089 : True := trivial
theorem tw6382185433905753316 : True := trivial
theorem tw2170696221554476296 : True := trivial
theorem tw559902096706351175 : True := trivial
theorem tw9642002842961991184 : True := trivial
theorem tw6499012060732769422 : True := trivial
theorem tw12349604283270289579 : True := trivial
theorem tw8824709046099378539 : True := trivial
theorem tw12510376905887926740 : True := trivial
theorem tw18428753823449958133 : True := trivial
theorem tw6830892594658776331 : True := trivial
theorem tw15922515236748708301 : True := trivial
theorem tw2802732604916414486 : True := trivial
theorem tw6328317654252221163 : True := trivial
theorem tw73390457094492380 : True := trivial
theorem tw6041077367255252005 : True := trivial
theorem tw14586362831842529480 : True := trivial
theorem tw9118675750560562252 : True := trivial
theorem tw2748794123937792392 : True := trivial
theorem tw8801235331422687932 : True := trivial
theorem tw2558069243399191103 : True := trivial
theorem tw12320211134672510345 : True := trivial
theorem tw13620126752591539150 : True := trivial
theorem tw4848678649045551630 : True := trivial
theorem tw7477665717984706635 : True := trivial
theorem tw5927570068574766319 : True := trivial
theorem tw3881411391350452528 : True := trivial
theorem tw17616071915413361812 : True := trivial
theorem tw15489670534458124809 : True := trivial
theorem tw7924286600101943553 : True := trivial
theorem tw17827739454410317790 : True := trivial
theorem tw14671460836108427987 : True := trivial
theorem tw15554716140178910011 : True := trivial
theorem tw12119173760298395564 : True := trivial
theorem tw18438908084832374615 : True := trivial
theorem tw11857653924427390734 : True := trivial
theorem tw586039915154490030 : True := trivial
theorem tw16496976720365061130 : True := trivial
theorem tw1170117269099229507 : True := trivial
theorem tw10395469494109178354 : True := trivial
theorem tw11225418538780091826 : True := trivial
theorem tw9843044196161851983 : True := trivial
theorem tw8283278552110642255 : True := trivial
theorem tw5954159386186556831 : True := trivial
theorem tw2614216469048108896 : True := trivial
theorem tw12528131618492826984 : True := trivial
theorem tw5675642931972039363 : True := trivial
theorem tw10135464218029714094 : True := trivial
theorem tw1722722732228390980 : True := trivial
theorem tw3369336374557715228 : True := trivial
theorem tw16579748972735339473 : True := trivial
theorem tw7722795707323362390 : True := trivial
theorem tw10827492114420857279 : True := trivial
theorem tw8276622034171513638 : True := trivial
theorem tw9124468212752639598 : True := trivial
theorem tw16878793217805472567 : True := trivial
theorem tw7450439742950436982 : True := trivial
theorem tw17754408880663605882 : True := trivial
theorem tw14752686310014701336 : True := trivial
theorem tw3634993160145934093 : True := trivial
theorem tw1382016654314676805 : True := trivial
theorem tw13412069154783957843 : True := trivial
theorem tw15406204623410696836 : True := trivial
theorem tw789223867554244594 : True := trivial
theorem tw6846466908375824570 : True := trivial
theorem tw14501739295996436912 : True := trivial
theorem tw13469880686850024563 : True := trivial
theorem tw424610538900525273 : True := trivial
theorem tw1066831933555762143 : True := trivial
theorem tw16348981674417214595 : True := trivial
theorem tw2132305765695369093 : True := trivial
theorem tw14736306109448404028 : True := trivial
theorem tw12576802637984496168 : True := trivial
theorem tw8910817339562414122 : True := trivial
theorem tw11860734604801137840 : True := trivial
theorem tw10742222448367608025 : True := trivial
theorem tw6958432995093708499 : True := trivial
theorem tw15264146132615604902 : True := trivial
theorem tw3612755126180151804 : True := trivial
theorem tw968359906664335237 : True := trivial
theorem tw11871549367159126503 : True := trivial
theorem tw13441617885071792113 : True := trivial
theorem tw6453932516384482160 : True := trivial
theorem tw18161320405289018991 : True := trivial
theorem tw4532748421249356183 : True := trivial
theorem tw3927808429712652970 : True := trivial
theorem tw7600168636479002273 : True := trivial
theorem tw18219593780229678197 : True := trivial
theorem tw13156629716620212326 : True := trivial
theorem tw15068437989872034404 : True := trivial
theorem tw8122953696347955442 : True := trivial
theorem tw3048287727037097012 : True := trivial
theorem tw14135604078502538223 : True := trivial
theorem tw5922766616970134190 : True := trivial
theorem tw599475047401054022 : True := trivial
theorem tw17680478560281212548 : True := trivial
theorem tw12419692911696947077 : True := trivial
theorem tw13711521987255405886 : True := trivial
theorem tw297773910539511015 : True := trivial
theorem tw5538368054502762670 : True := trivial
theorem tw4876382735185047397 : True := trivial
theorem tw18277245105153068313 : True := trivial
theorem tw495372348575910153 : True := trivial
theorem tw5432883473700923676 : True := trivial
theorem tw16024195366062568591 : True := trivial
theorem tw11436564068161077460 : True := trivial
theorem tw17654384742260778341 : True := trivial
theorem tw1406861792956813218 : True := trivial
theorem tw13189774350693881647 : True := trivial
theorem tw7399480428093004595 : True := trivial
theorem tw9402765893187227805 : True := trivial
theorem tw5320050247749098975 : True := trivial
theorem tw15680987297430340500 : True := trivial
theorem tw10375640370374501238 : True := trivial
theorem tw7744481431272230623 : True := trivial
theorem tw3468981274785398143 : True := trivial
theorem tw13452088281112772724 : True := trivial
theorem tw8913439806083675231 : True := trivial
theorem tw10793190838960466120 : True := trivial
theorem tw8908439036701478661 : True := trivial
theorem tw2871823185052746889 : True := trivial
theorem tw9666386985290042015 : True := trivial
theorem tw16093081223954493463 : True := trivial
theorem tw16894384132829416977 : True := trivial
theorem tw2671136444854929457 : True := trivial
theorem tw1337725151290956801 : True := trivial
theorem tw7736985864538835746 : True := trivial
theorem tw14277935046700499720 : True := trivial
theorem tw12997711522947406266 : True := trivial
theorem tw10444855291074871690 : True := trivial
theorem tw6568440694918038988 : True := trivial
theorem tw1325050133617973421 : True := trivial
theorem tw12074349415089475691 : True := trivial
theorem tw14089459581300747971 : True := trivial
theorem tw16434936239001663645 : True := trivial
theorem tw4034148580105315038 : True := trivial
theorem tw8496580238304721212 : True := trivial
theorem tw13934015862194478532 : True := trivial
theorem tw6200396704794607805 : True := trivial
theorem tw16689344484809704546 : True := trivial
theorem tw9084065106525777331 : True := trivial
theorem tw8731148002132584189 : True := trivial
theorem tw17152157146994167609 : True := trivial
theorem tw5783765052255467958 : True := trivial
theorem tw14099666109925628903 : True := trivial
theorem tw15930886429160002192 : True := trivial
theorem tw2503408442671197695 : True := trivial
theorem tw17845830417172660505 : True := trivial
theorem tw11858597927867064082 : True := trivial
theorem tw185066985570375689 : True := trivial
theorem tw8751471438245692974 : True := trivial
theorem tw4954396322564367973 : True := trivial
theorem tw5211991342773671929 : True := trivial
theorem tw2193893273257004604 : True := trivial
theorem tw15781672563637854438 : True := trivial
theorem tw6451912643779760637 : True := trivial
theorem tw8796469645398256456 : True := trivial
theorem tw13526181346698528136 : True := trivial
theorem tw878407936718008994 : True := trivial
theorem tw11938565412962266056 : True := trivial
theorem tw15569028944629477228 : True := trivial
theorem tw15270885709259506330 : True := trivial
theorem tw17567008517119134854 : True := trivial
theorem tw12717382805504804529 : True := trivial
theorem tw10385311490099342444 : True := trivial
theorem tw9973931011056538575 : True := trivial
theorem tw3796762060531173067 : True := trivial
theorem tw9722986235292557375 : True := trivial
theorem tw2316260837005341479 : True := trivial
theorem tw11416659178945129264 : True := trivial
theorem tw17274092424402320433 : True := trivial
theorem tw16567423651458608158 : True := trivial
theorem tw13077976116435645836 : True := trivial
theorem tw5211027012636208152 : True := trivial
theorem tw5006194757051805547 : True := trivial
theorem tw6191525213100160367 : True := trivial
theorem tw7275509657261612985 : True := trivial
theorem tw12155407526875934970 : True := trivial
theorem tw5916413411455812303 : True := trivial
theorem tw16221376998432607331 : True := trivial
theorem tw8522355004104374803 : True := trivial
theorem tw7161422613708160888 : True := trivial
theorem tw12250761945543500592 : True := trivial
theorem tw8897420580641725356 : True := trivial
theorem tw9506935928429737566 : True := trivial
theorem tw17866226710998121278 : True := trivial
theorem tw10784289463166556126 : True := trivial
theorem tw1663560972765078409 : True := trivial
theorem tw8833660828561547570 : True := trivial
theorem tw40396442516539328 : True := trivial
theorem tw14079634131567913888 : True := trivial
theorem tw9242147784565171022 : True := trivial
theorem tw14140216582725354462 : True := trivial
theorem tw16584304317080519013 : True := trivial
theorem tw5310736639261517489 : True := trivial
theorem tw15257018446698636788 : True := trivial
theorem tw10819203310526657183 : True := trivial
theorem tw18430383756894254296 : True := trivial
theorem tw1066210707847190692 : True := trivial
theorem tw9467354527070302476 : True := trivial
theorem tw4217082336697269215 : True := trivial
theorem tw15557916716041462813 : True := trivial
theorem tw3245754241733914193 : True := trivial
theorem tw15189416053738999205 : True := trivial
theorem tw11377284640383423816 : True := trivial
theorem tw3056008419543351646 : True := trivial
theorem tw7034337863448896884 : True := trivial
theorem tw10664512824006211 : True := trivial
theorem tw6857442477288056106 : True := trivial
theorem tw3595159597172523565 : True := trivial
theorem tw15363481964744963843 : True := trivial
theorem tw10025667633903611124 : True := trivial
theorem tw4840927275624410322 : True := trivial
theorem tw12744263441598004698 : True := trivial
theorem tw539756718914093755 : True := trivial
theorem tw15645377320998287900 : True := trivial
theorem tw4164261814081553820 : True := trivial
theorem tw14952798247918783472 : True := trivial
theorem tw3978559200777981976 : True := trivial
theorem tw13357831620413287449 : True := trivial
theorem tw8047425417950450658 : True := trivial
theorem tw11394243207594719432 : True := trivial
theorem tw5649996449158668671 : True := trivial
theorem tw8861175133151053105 : True := trivial
theorem tw11808527504163033461 : True := trivial
theorem tw13161164595089010319 : True := trivial
theorem tw1695089375769124096 : True := trivial
theorem tw15069865182948556678 : True := trivial
theorem tw13418199100443125474 : True := trivial
theorem tw65506326078517589 : True := trivial
theorem tw12971133541635214337 : True := trivial
theorem tw13034710638020740004 : True := trivial
theorem tw8937846782092357593 : True := trivial
theorem tw1231297992896557215 : True := trivial
theorem tw9097792075667621121 : True := trivial
theorem tw4712016936003928670 : True := trivial
theorem tw10633697665972094020 : True := trivial
theorem tw1039255533376052065 : True := trivial
theorem tw11915613821411225565 : True := trivial
theorem tw12386821166198267054 : True := trivial
theorem tw16158733948337869453 : True := trivial
theorem tw9249233228972138425 : True := trivial
theorem tw12622733204046296213 : True := trivial
theorem tw11917131795396949585 : True := trivial
theorem tw362326963053292435 : True := trivial
theorem tw7240339152332508305 : True := trivial
theorem tw669297631745527819 : True := trivial
theorem tw2146420843010271267 : True := trivial
theorem tw802596002850874034 : True := trivial
theorem tw8868849238910558701 : True := trivial
theorem tw18260299559091403367 : True := trivial
theorem tw6543000543305682766 : True := trivial
theorem tw2635789417212537666 : True := trivial
theorem tw1087000841296439397 : True := trivial
theorem tw12076116773297194005 : True := trivial
theorem tw4638308686284453902 : True := trivial
theorem tw6001177804403900612 : True := trivial
theorem tw11128251615921257277 : True := trivial
theorem tw3588337152315092890 : True := trivial
theorem tw8765361620424210523 : True := trivial
theorem tw8530563252928658372 : True := trivial
theorem tw12371589208047384670 : True := trivial
theorem tw8089785744780542995 : True := trivial
theorem tw428538457154727548 : True := trivial
theorem tw13827308434158992195 : True := trivial
theorem tw13486382861295313894 : True := trivial
theorem tw6310295334362108976 : True := trivial
theorem tw10938451093561173860 : True := trivial
theorem tw9562586845261845421 : True := trivial
theorem tw13404354574933229439 : True := trivial
theorem tw848238686225063432 : True := trivial
theorem tw1755649948653259756 : True := trivial
theorem tw15201353498933727226 : True := trivial
theorem tw1746781756129178762 : True := trivial
theorem tw13358159044534674863 : True := trivial
theorem tw2254264654366002229 : True := trivial
theorem tw9618304450173042175 : True := trivial
theorem tw15457668662245894107 : True := trivial
theorem tw310474107295098175 : True := trivial
theorem tw2087797082210044796 : True := trivial
theorem tw12346508109646307107 : True := trivial
theorem tw3960863557195910427 : True := trivial
theorem tw13375182148374969297 : True := trivial
theorem tw8329331682371324742 : True := trivial
theorem tw8983147809207545907 : True := trivial
theorem tw3214142655824140749 : True := trivial
theorem tw7644685773472552084 : True := trivial
theorem tw15598952809227560823 : True := trivial
theorem tw7952253120688750994 : True := trivial
theorem tw1651534083830532590 : True := trivial
theorem tw4499027581904776586 : True := trivial
theorem tw16070315360340995713 : True := trivial
theorem tw3797528497656131186 : True := trivial
theorem tw15602359415675066871 : True := trivial
theorem tw10926749055651792435 : True := trivial
theorem tw9053959904680535868 : True := trivial
theorem tw11651529482777491680 : True := trivial
theorem tw15761415775256048828 : True := trivial
theorem tw17822605065989401065 : True := trivial
theorem tw13505473547694867570 : True := trivial
theorem tw9272028767697895111 : True := trivial
theorem tw7084530019195476257 : True := trivial
theorem tw11086626799868999372 : True := trivial
theorem tw8268495532796033469 : True := trivial
theorem tw15134889170715267069 : True := trivial
theorem tw9186813439095241565 : True := trivial
theorem tw2221892388943185647 : True := trivial
theorem tw12511314365165722884 : True := trivial
theorem tw12871626656613206898 : True := trivial
theorem tw195005982610679621 : True := trivial
theorem tw3127045630079538789 : True := trivial
theorem tw4179305900952854989 : True := trivial
theorem tw9665939999288382330 : True := trivial
theorem tw11420413118284601876 : True := trivial
theorem tw17941779728863999417 : True := trivial
theorem tw3151776512227750656 : True := trivial
theorem tw1623586669606427675 : True := trivial
theorem tw1244606336842313003 : True := trivial
theorem tw1937096822499982572 : True := trivial
theorem tw17627144503656352527 : True := trivial
theorem tw3970183894089296766 : True := trivial
theorem tw9221137470495425238 : True := trivial
theorem tw6529321186302108082 : True := trivial
theorem tw5254558277966820492 : True := trivial
theorem tw6744480710976024299 : True := trivial
theorem tw4772062770226889231 : True := trivial
theorem tw8666644722387444917 : True := trivial
theorem tw9821725270136361488 : True := trivial
theorem tw13840039621782800420 : True := trivial
theorem tw13660115031896973003 : True := trivial
theorem tw5683085327320267248 : True := trivial
theorem tw9584172850616759267 : True := trivial
theorem tw3660589245178740900 : True := trivial
theorem tw4180155904995165717 : True := trivial
theorem tw13709430883444538959 : True := trivial
theorem tw4346903575783717026 : True := trivial
theorem tw12767679096124269373 : True := trivial
theorem tw8655006869047721124 : True := trivial
theorem tw4182509733427119378 : True := trivial
theorem tw10152356631836029491 : True := trivial
theorem tw10454446756457531268 : True := trivial
theorem tw2274714334536304751 : True := trivial
theorem tw7680047324539012420 : True := trivial
theorem tw15115738871438103870 : True := trivial
theorem tw1070157681796084202 : True := trivial
theorem tw11481592024375245400 : True := trivial
theorem tw14379975391901233935 : True := trivial
theorem tw2443555206354434165 : True := trivial
theorem tw8957188223869523454 : True := trivial
theorem tw14506699918857693907 : True := trivial
theorem tw12762483185146622321 : True := trivial
theorem tw13357303820275018311 : True := trivial
theorem tw11340013798844268640 : True := trivial
theorem tw1080497624964763726 : True := trivial
theorem tw1960723460507211521 : True := trivial
theorem tw16691793447973930214 : True := trivial
theorem tw7782917007952165485 : True := trivial
theorem tw16723338051185801623 : True := trivial
theorem tw14460204580038624350 : True := trivial
theorem tw18344942998383433897 : True := trivial
theorem tw2400147369094598511 : True := trivial
theorem tw9097071494615792966 : True := trivial
theorem tw14664066218318487503 : True := trivial
theorem tw6055312680812716360 : True := trivial
theorem tw13150114019435693746 : True := trivial
theorem tw12299530560803700971 : True := trivial
theorem tw11876754873446782147 : True := trivial
theorem tw9036618651770185330 : True := trivial
theorem tw5913059913902351223 : True := trivial
theorem tw9939795087591124683 : True := trivial
theorem tw4560949871270173283 : True := trivial
theorem tw8683650943050740542 : True := trivial
theorem tw12387188536065439531 : True := trivial
theorem tw7162124376224241783 : True := trivial
theorem tw6182976024360767582 : True := trivial
theorem tw8607410930969640335 : True := trivial
theorem tw14433866449076846907 : True := trivial
theorem tw2164777657786817314 : True := trivial
theorem tw10488173922187425235 : True := trivial
theorem tw7034866429159338403 : True := trivial
theorem tw10402933431789001685 : True := trivial
theorem tw9141555309107716428 : True := trivial
theorem tw16066946311743179241 : True := trivial
theorem tw4026308756250563687 : True := trivial
theorem tw4700870453149979221 : True := trivial
theorem tw6594343591706101075 : True := trivial
theorem tw585037191783566796 : True := trivial
theorem tw13210579751480512258 : True := trivial
theorem tw1633184801954709424 : True := trivial
theorem tw18021670325000935172 : True := trivial
theorem tw3351323071874096289 : True := trivial
theorem tw13834199517375837620 : True := trivial
theorem tw4911555657223337998 : True := trivial
theorem tw7773062621294329162 : True := trivial
theorem tw1793493398813331190 : True := trivial
theorem tw11189813187204075351 : True := trivial
theorem tw18370639863236266783 : True := trivial
theorem tw9539736108359764291 : True := trivial
theorem tw7098474345919888545 : True := trivial
theorem tw13979270999850270336 : True := trivial
theorem tw2566991360261962071 : True := trivial
theorem tw14698568021526981268 : True := trivial
theorem tw6363073249989482257 : True := trivial
theorem tw1291290219789412294 : True := trivial
theorem tw3409957743935687016 : True := trivial
theorem tw17654469791909915253 : True := trivial
theorem tw4058355082003115029 : True := trivial
theorem tw5983147594899835801 : True := trivial
theorem tw2828972846688011757 : True := trivial
theorem tw13114693655375420097 : True := trivial
theorem tw7092974472348323374 : True := trivial
theorem tw10885229986923970411 : True := trivial
theorem tw10026836188872698459 : True := trivial
theorem tw3618479391445647970 : True := trivial
theorem tw17973933206480907194 : True := trivial
theorem tw2239278010576447322 : True := trivial
theorem tw17299651342734627314 : True := trivial
theorem tw12907010425983506660 : True := trivial
theorem tw7646314707092223081 : True := trivial
theorem tw1073509046371297306 : True := trivial
theorem tw18154969301814531400 : True := trivial
theorem tw14938826904047921374 : True := trivial
theorem tw17259345318612172588 : True := trivial
theorem tw4727710369159818544 : True := trivial
theorem tw11999398549049512085 : True := trivial
theorem tw5587602266746203081 : True := trivial
theorem tw16946464882699539777 : True := trivial
theorem tw7967987967367107798 : True := trivial
theorem tw15977737711089538014 : True := trivial
theorem tw9905524150227731276 : True := trivial
theorem tw2399099619298636819 : True := trivial
theorem tw10643664357976836159 : True := trivial
theorem tw1648178048229731005 : True := trivial
theorem tw16448207914763598516 : True := trivial
theorem tw3404887794121644317 : True := trivial
theorem tw14181839259368834857 : True := trivial
theorem tw6593414512544705747 : True := trivial
theorem tw13062666805930733419 : True := trivial
theorem tw4970461538207085354 : True := trivial
theorem tw3146240420586384125 : True := trivial
theorem tw5524127853686780758 : True := trivial
theorem tw12024397108080662625 : True := trivial
theorem tw12089496160708943020 : True := trivial
theorem tw15018954169104755704 : True := trivial
theorem tw16351140704168524836 : True := trivial
theorem tw17844130686893840377 : True := trivial
theorem tw8307893064482660633 : True := trivial
theorem tw17122052272620207015 : True := trivial
theorem tw8813009906242818484 : True := trivial
theorem tw10253700363164631698 : True := trivial
theorem tw3542648279700888877 : True := trivial
theorem tw5725911339544504347 : True := trivial
theorem tw8787415111335561031 : True := trivial
theorem tw12995989613821897095 : True := trivial
theorem tw6049361290216605612 : True := trivial
theorem tw8731100333796652176 : True := trivial
theorem tw18170593103177274956 : True := trivial
theorem tw7410170072071511470 : True := trivial
theorem tw3622141376172914534 : True := trivial
theorem tw17861060957071888741 : True := trivial
theorem tw11795159774502870798 : True := trivial
theorem tw4591521148528816741 : True := trivial
theorem tw16412972532611878677 : True := trivial
theorem tw7248431928695774827 : True := trivial
theorem tw11467289164374601745 : True := trivial
theorem tw13302075572087344858 : True := trivial
theorem tw14055946921403253480 : True := trivial
theorem tw11809230312040853755 : True := trivial
theorem tw8104790705771886392 : True := trivial
theorem tw18070909124185608935 : True := trivial
theorem tw15840178899350634259 : True := trivial
theorem tw16653663664393419190 : True := trivial
theorem tw12511361293991080020 : True := trivial
theorem tw2824639695938457068 : True := trivial
theorem tw11109760052504725258 : True := trivial
theorem tw467945688092684131 : True := trivial
theorem tw3643433249057347972 : True := trivial
theorem tw11859494144450082683 : True := trivial
theorem tw8538800316846933662 : True := trivial
theorem tw12124498246024756585 : True := trivial
theorem tw17075153445859741113 : True := trivial
theorem tw1921699509064115049 : True := trivial
theorem tw6089650950198992515 : True := trivial
theorem tw17030361121224474347 : True := trivial
theorem tw9645633632222768251 : True := trivial
theorem tw11143554996279376345 : True := trivial
theorem tw4631411013426848839 : True := trivial
theorem tw11031880974758581440 : True := trivial
theorem tw7220607978648971226 : True := trivial
theorem tw3174503529689179535 : True := trivial
theorem tw6413712783682785223 : True := trivial
theorem tw12178838215814574948 : True := trivial
theorem tw4647102002594679236 : True := trivial
theorem tw13742606941831442184 : True := trivial
theorem tw2252847650628373882 : True := trivial
theorem tw11143561563228768132 : True := trivial
theorem tw1933024523285064476 : True := trivial
theorem tw16189478947401403295 : True := trivial
theorem tw3477735582623106671 : True := trivial
theorem tw15932456430372266840 : True := trivial
theorem tw9851652874796041149 : True := trivial
theorem tw1997396708024812931 : True := trivial
theorem tw4474942178591193810 : True := trivial
theorem tw17507088005950031792 : True := trivial
theorem tw17867570520674647413 : True := trivial
theorem tw6730664933783425486 : True := trivial
theorem tw11858825068202217664 : True := trivial
theorem tw11600196601301518639 : True := trivial
theorem tw17662855134159992305 : True := trivial
theorem tw10534652337782281765 : True := trivial
theorem tw4622643406820558612 : True := trivial
theorem tw8603098512573852574 : True := trivial
theorem tw4546801923705587809 : True := trivial
theorem tw1000546725963026939 : True := trivial
theorem tw15361753028123427660 : True := trivial
theorem tw13887553106921429055 : True := trivial
theorem tw15076057579889922468 : True := trivial
theorem tw1201154294338509131 : True := trivial
theorem tw11920005329205959689 : True := trivial
theorem tw15233469198631443656 : True := trivial
theorem tw12200665078145074292 : True := trivial
theorem tw6011604923624378946 : True := trivial
theorem tw5612481049766629667 : True := trivial
theorem tw17985946151649286271 : True := trivial
theorem tw9031576334190879849 : True := trivial
theorem tw5062058794031201350 : True := trivial
theorem tw18115232128039304541 : True := trivial
theorem tw12212088799387359356 : True := trivial
theorem tw7535878720272278585 : True := trivial
theorem tw18106978908616084106 : True := trivial
theorem tw6279615250035707438 : True := trivial
theorem tw10032130674313205259 : True := trivial
theorem tw10681253793997502610 : True := trivial
theorem tw16406995415216709203 : True := trivial
theorem tw16267575668108744371 : True := trivial
theorem tw3173953088627677245 : True := trivial
theorem tw1790213300450637626 : True := trivial
theorem tw9029488308857484350 : True := trivial
theorem tw12268293734498510407 : True := trivial
theorem tw3119913154941664847 : True := trivial
theorem tw13053792073913610901 : True := trivial
theorem tw335266108624238656 : True := trivial
theorem tw10840615429059768652 : True := trivial
theorem tw9493279076803983851 : True := trivial
theorem tw3006013928409550285 : True := trivial
theorem tw8240764522873605600 : True := trivial
theorem tw11066504534583300435 : True := trivial
theorem tw4116248120596431703 : True := trivial
theorem tw5105690386545487180 : True := trivial
theorem tw12677934541848127030 : True := trivial
theorem tw10739290663901865482 : True := trivial
theorem tw5530201683959223440 : True := trivial
theorem tw18335154026893237149 : True := trivial
theorem tw11641327563482597493 : True := trivial
theorem tw17606231495112190268 : True := trivial
theorem tw368784574266411208 : True := trivial
theorem tw17297524034371710932 : True := trivial
theorem tw10533368490185199109 : True := trivial
theorem tw4459390676834687403 : True := trivial
theorem tw1717508190028938705 : True := trivial
theorem tw12138543300390118290 : True := trivial
theorem tw8077277068866058653 : True := trivial
theorem tw4668794946651927132 : True := trivial
theorem tw2434334952753860412 : True := trivial
theorem tw4787920999983790414 : True := trivial
theorem tw1834514506393842851 : True := trivial
theorem tw7292760130207483209 : True := trivial
theorem tw16695418261885228465 : True := trivial
theorem tw14299643221362988533 : True := trivial
theorem tw955431115655837104 : True := trivial
theorem tw8475470828841281514 : True := trivial
theorem tw278293942877664941 : True := trivial
theorem tw9248043577524764072 : True := trivial
theorem tw3152574747666009939 : True := trivial
theorem tw12908326030499661061 : True := trivial
theorem tw11159407369417821344 : True := trivial
theorem tw18370687808360895843 : True := trivial
theorem tw15726671734826440954 : True := trivial
theorem tw8048252898781637334 : True := trivial
theorem tw12769780812797109669 : True := trivial
theorem tw7327807063892266783 : True := trivial
theorem tw4119618823765420760 : True := trivial
theorem tw7214889390197688413 : True := trivial
theorem tw4024858314204082166 : True := trivial
theorem tw2088859563306730253 : True := trivial
theorem tw11191584479095726551 : True := trivial
theorem tw14151745513944569283 : True := trivial
theorem tw9744811549866924995 : True := trivial
theorem tw12516420814781098853 : True := trivial
theorem tw5766078590395997586 : True := trivial
theorem tw16053957761338022069 : True := trivial
theorem tw7291209757565911795 : True := trivial
theorem tw12884568057525945101 : True := trivial
theorem tw10499014874383866865 : True := trivial
theorem tw8999560103197855909 : True := trivial
theorem tw7689440665483772468 : True := trivial
theorem tw4639765605827344417 : True := trivial
theorem tw12365751964303794279 : True := trivial
theorem tw6630463504045306541 : True := trivial
theorem tw2824495088663990274 : True := trivial
theorem tw837235151638137336 : True := trivial
theorem tw11250708409537495124 : True := trivial
theorem tw10622859264392892183 : True := trivial
theorem tw11609257509295443111 : True := trivial
theorem tw4918677476660721266 : True := trivial
theorem tw215438333612269709 : True := trivial
theorem tw11825596871467550875 : True := trivial
theorem tw10947643772981652061 : True := trivial
theorem tw13813973961550860 : True := trivial
theorem tw4701562491944688347 : True := trivial
theorem tw6714515179809032470 : True := trivial
theorem tw296080037984780320 : True := trivial
theorem tw17739453999396973939 : True := trivial
theorem tw10855406530270721980 : True := trivial
theorem tw7972571532352077255 : True := trivial
theorem tw3458273351141732553 : True := trivial
theorem tw4722490690390105790 : True := trivial
theorem tw16648295221253399824 : True := trivial
theorem tw16636567521013010352 : True := trivial
theorem tw6794994657408106864 : True := trivial
theorem tw8700472695385683176 : True := trivial
theorem tw1908704585775528612 : True := trivial
theorem tw5287222757637507751 : True := trivial
theorem tw1340344454200635710 : True := trivial
theorem tw5552950465010323599 : True := trivial
theorem tw17068744204380758564 : True := trivial
theorem tw6317112102739401967 : True := trivial
theorem tw8030561719162193406 : True := trivial
theorem tw11345257030815883443 : True := trivial
theorem tw15193821134827999764 : True := trivial
theorem tw18013951846436550339 : True := trivial
theorem tw7231517447945668057 : True := trivial
theorem tw10431765810641878508 : True := trivial
theorem tw10127888933639668404 : True := trivial
theorem tw11878148995909544879 : True := trivial
theorem tw10647718844045621359 : True := trivial
theorem tw13266252194045946973 : True := trivial
theorem tw5987335387312434316 : True := trivial
theorem tw291380951095215169 : True := trivial
theorem tw3762592514298174749 : True := trivial
theorem tw3934662817008768089 : True := trivial
theorem tw2213502062015395346 : True := trivial
theorem tw5267722734469373713 : True := trivial
theorem tw14776529656195870179 : True := trivial
theorem tw15692580487921210975 : True := trivial
theorem tw13312208775702575692 : True := trivial
theorem tw7641690308145624934 : True := trivial
theorem tw14965455494902600724 : True := trivial
theorem tw12724117368630179713 : True := trivial
theorem tw13092090482878521265 : True := trivial
theorem tw15813511093538684470 : True := trivial
theorem tw4198220271954996634 : True := trivial
theorem tw17551340956375898943 : True := trivial
theorem tw13712461873284930059 : True := trivial
theorem tw3493595506449634213 : True := trivial
theorem tw18201485700044893299 : True := trivial
theorem tw17451039232917340158 : True := trivial
theorem tw11300049854028717124 : True := trivial
theorem tw6647213144616480149 : True := trivial
theorem tw16562060783051007397 : True := trivial
theorem tw13312076389088015852 : True := trivial
theorem tw1435567353902618755 : True := trivial
theorem tw10417959886507355590 : True := trivial
theorem tw2738410929140599042 : True := trivial
theorem tw7735212240007067178 : True := trivial
theorem tw15836234218767792064 : True := trivial
theorem tw4710161490524543406 : True := trivial
theorem tw11544234331320910388 : True := trivial
theorem tw669611233612043697 : True := trivial
theorem tw9752506883737537230 : True := trivial
theorem tw17532673168786613416 : True := trivial
theorem tw5985990276809921925 : True := trivial
theorem tw11663076018021061317 : True := trivial
theorem tw7883463110940194762 : True := trivial
theorem tw11427176151942784695 : True := trivial
theorem tw8419577136267034208 : True := trivial
theorem tw11807522364891815780 : True := trivial
theorem tw13943751444256406567 : True := trivial
theorem tw8088757729245971888 : True := trivial
theorem tw5090265021333003954 : True := trivial
theorem tw13504227932496957458 : True := trivial
theorem tw5604333970249927632 : True := trivial
theorem tw8065621087800625046 : True := trivial
theorem tw7998714978030493773 : True := trivial
theorem tw5324047859270768518 : True := trivial
theorem tw9266198352714408547 : True := trivial
theorem tw18418210958388742422 : True := trivial
theorem tw10640575489726839125 : True := trivial
theorem tw2314218143128474647 : True := trivial
theorem tw15342282706141843744 : True := trivial
theorem tw73352917454638192 : True := trivial
theorem tw13969527608668219899 : True := trivial
theorem tw2085216354542394183 : True := trivial
theorem tw16692418233489150735 : True := trivial
theorem tw9818321913910788941 : True := trivial
theorem tw14986244240379498055 : True := trivial
theorem tw6159187323942541474 : True := trivial
theorem tw16832193183369199067 : True := trivial
theorem tw18120066804940606393 : True := trivial
theorem tw11512499393186375422 : True := trivial
theorem tw1896966852899478318 : True := trivial
theorem tw8892267937720778170 : True := trivial
theorem tw12363305727272202270 : True := trivial
theorem tw1092487013928878094 : True := trivial
theorem tw4065004112907734169 : True := trivial
theorem tw3891554007534564078 : True := trivial
theorem tw10228427978267484864 : True := trivial
theorem tw14106778283188798761 : True := trivial
theorem tw4313013363874920580 : True := trivial
theorem tw13406769625238178768 : True := trivial
theorem tw2196710352201665629 : True := trivial
theorem tw13533113677165185631 : True := trivial
theorem tw3057915751869627771 : True := trivial
theorem tw3534659269251160435 : True := trivial
theorem tw11079208100655511466 : True := trivial
theorem tw2082095163047194911 : True := trivial
theorem tw12658491299636460497 : True := trivial
theorem tw4764274831943733093 : True := trivial
theorem tw6252551106961879335 : True := trivial
theorem tw12102509470533887415 : True := trivial
theorem tw839997787648635073 : True := trivial
theorem tw5318577880569312686 : True := trivial
theorem tw8440072331520156172 : True := trivial
theorem tw11159173499020944758 : True := trivial
theorem tw5880057962670752939 : True := trivial
theorem tw13173966580722723113 : True := trivial
theorem tw16207301752044843956 : True := trivial
theorem tw4673189785966227268 : True := trivial
theorem tw5013579511435706805 : True := trivial
theorem tw5292649576388536978 : True := trivial
theorem tw6440032697392559193 : True := trivial
theorem tw11960925665465237423 : True := trivial
theorem tw7776880815970825350 : True := trivial
theorem tw1860345589689955310 : True := trivial
theorem tw15288692861684655609 : True := trivial
theorem tw2772721727458373393 : True := trivial
theorem tw5028643517467156920 : True := trivial
theorem tw1307483642203503332 : True := trivial
theorem tw7146838850582396247 : True := trivial
theorem tw12333274469338294984 : True := trivial
theorem tw5140773250161068553 : True := trivial
theorem tw17596677744674662170 : True := trivial
theorem tw7398861933314633063 : True := trivial
theorem tw4384066690008185314 : True := trivial
theorem tw7194357380827011504 : True := trivial
theorem tw4775087208271924414 : True := trivial
theorem tw2260750977676403035 : True := trivial
theorem tw14886228086331079952 : True := trivial
theorem tw4989014233510742699 : True := trivial
theorem tw18300754389180359356 : True := trivial
theorem tw9621001353718199393 : True := trivial
theorem tw11769259322313975390 : True := trivial
theorem tw8563047034863639200 : True := trivial
theorem tw12431678433677578029 : True := trivial
theorem tw11803451173528431612 : True := trivial
theorem tw17317231458142083325 : True := trivial
theorem tw4677138090293341233 : True := trivial
theorem tw11475649504438510439 : True := trivial
theorem tw16259229472486664790 : True := trivial
theorem tw3832373565536989929 : True := trivial
theorem tw13802191824382053829 : True := trivial
theorem tw10299557991474351608 : True := trivial
theorem tw10755981497738452010 : True := trivial
theorem tw5950962184631446427 : True := trivial
theorem tw1921404697741114566 : True := trivial
theorem tw13963492100155150098 : True := trivial
theorem tw9005691687330574687 : True := trivial
theorem tw14292593994980604639 : True := trivial
theorem tw9653578859724935171 : True := trivial
theorem tw12678382163596080816 : True := trivial
theorem tw5308681178762814167 : True := trivial
theorem tw7101917104534579248 : True := trivial
theorem tw11334354746494145766 : True := trivial
theorem tw6363269854663232956 : True := trivial
theorem tw2820189784712767245 : True := trivial
theorem tw2022482133824026757 : True := trivial
theorem tw5089243840378782999 : True := trivial
theorem tw5241505773346129164 : True := trivial
theorem tw2075148056680812378 : True := trivial
theorem tw3997378166952602719 : True := trivial
theorem tw1252378965322067378 : True := trivial
theorem tw4191842546005498107 : True := trivial
theorem tw765476490299627829 : True := trivial
theorem tw1919948541045451433 : True := trivial
theorem tw15201105895364674099 : True := trivial
theorem tw7897194597347851432 : True := trivial
theorem tw13459334831608950871 : True := trivial
theorem tw4265747925467581544 : True := trivial
theorem tw7140964286064854354 : True := trivial
theorem tw12140547090809597586 : True := trivial
theorem tw10128938716918292748 : True := trivial
theorem tw313809542486085193 : True := trivial
theorem tw11337991352841617756 : True := trivial
theorem tw9497311246087024643 : True := trivial
theorem tw11290520061777182602 : True := trivial
theorem tw16808020035447735727 : True := trivial
theorem tw8121324777877700771 : True := trivial
theorem tw17560259688759042349 : True := trivial
theorem tw1474057468806287043 : True := trivial
theorem tw8258068609362546520 : True := trivial
theorem tw16865554202189421920 : True := trivial
theorem tw17922880540423718072 : True := trivial
theorem tw14462772662498493734 : True := trivial
theorem tw5195313582115497138 : True := trivial
theorem tw15172691853334427831 : True := trivial
theorem tw7466524301555560257 : True := trivial
theorem tw1699994471404592679 : True := trivial
theorem tw6729097822476323864 : True := trivial
theorem tw17730504539443079085 : True := trivial
theorem tw15935380299193741758 : True := trivial
theorem tw6338628689669378541 : True := trivial
theorem tw4140526362843673036 : True := trivial
theorem tw14129088143670804188 : True := trivial
theorem tw12333502283254862461 : True := trivial
theorem tw5571486452407514645 : True := trivial
theorem tw4780633587230386282 : True := trivial
theorem tw14843549314148914924 : True := trivial
theorem tw7061747480053021268 : True := trivial
theorem tw355244809512556825 : True := trivial
theorem tw13017044187255663250 : True := trivial
theorem tw9933359786374226032 : True := trivial
theorem tw2748673804917447484 : True := trivial
theorem tw15790758718057461873 : True := trivial
theorem tw10950590038811222675 : True := trivial
theorem tw11650701924232790127 : True := trivial
theorem tw13279923937234008993 : True := trivial
theorem tw15345528868923268048 : True := trivial
theorem tw8899997426583092307 : True := trivial
theorem tw8583967853337126001 : True := trivial
theorem tw12827523011721250040 : True := trivial
theorem tw7340454558237672553 : True := trivial
theorem tw13410284342584798998 : True := trivial
theorem tw14203045518948779518 : True := trivial
theorem tw15242378745076851203 : True := trivial
theorem tw18037582416655944330 : True := trivial
theorem tw16818230296590970657 : True := trivial
theorem tw8015506587114363674 : True := trivial
theorem tw18113368478810998092 : True := trivial
theorem tw7581909431682286034 : True := trivial
theorem tw17266932053262605604 : True := trivial
theorem tw721841683629626407 : True := trivial
theorem tw2422997186116196213 : True := trivial
theorem tw6610325900835220980 : True := trivial
theorem tw3795346845465784131 : True := trivial
theorem tw3619929858099140186 : True := trivial
theorem tw4431135362878489116 : True := trivial
theorem tw14918908088090209566 : True := trivial
theorem tw15999717932879844044 : True := trivial
theorem tw9211152412078741830 : True := trivial
theorem tw2074725063422778027 : True := trivial
theorem tw14466022285481469295 : True := trivial
theorem tw17717018748237753289 : True := trivial
theorem tw11728551202782989620 : True := trivial
theorem tw10476459901616355195 : True := trivial
theorem tw7645502671351236813 : True := trivial
theorem tw10871735286714312803 : True := trivial
theorem tw1052107547575429584 : True := trivial
theorem tw4196144340159185601 : True := trivial
theorem tw18442954579850489991 : True := trivial
theorem tw10616477383959024736 : True := trivial
theorem tw9006429609728046875 : True := trivial
theorem tw10710908341871595036 : True := trivial
theorem tw3097558040450796336 : True := trivial
theorem tw8421184269697155139 : True := trivial
theorem tw9611370388563623874 : True := trivial
theorem tw1637799746792591760 : True := trivial
theorem tw10489386845117355255 : True := trivial
theorem tw5156349345993364472 : True := trivial
theorem tw6436671823815041345 : True := trivial
theorem tw17833378621471941975 : True := trivial
theorem tw18220479543485444692 : True := trivial
theorem tw16327476133160378137 : True := trivial
theorem tw13328615385862373516 : True := trivial
theorem tw13409459586927032777 : True := trivial
theorem tw16466817441401308274 : True := trivial
theorem tw11577607759373348825 : True := trivial
theorem tw3133417002267350408 : True := trivial
theorem tw7834345008556848955 : True := trivial
theorem tw12598580413288401405 : True := trivial
theorem tw10708409105116765732 : True := trivial
theorem tw12515077671563703498 : True := trivial
theorem tw11284560804000217337 : True := trivial
theorem tw9868355984610441366 : True := trivial
theorem tw14163332931833106151 : True := trivial
theorem tw17925252244963511049 : True := trivial
theorem tw14816923885453928859 : True := trivial
theorem tw2698426175817945459 : True := trivial
theorem tw10285484422738506648 : True := trivial
theorem tw5867179854881178014 : True := trivial
theorem tw6430997183158116169 : True := trivial
theorem tw17283811376612679479 : True := trivial
theorem tw12413686631421659743 : True := trivial
theorem tw12675425836441448796 : True := trivial
theorem tw12240067694262243482 : True := trivial
theorem tw13826150616473338802 : True := trivial
theorem tw14360857117505419128 : True := trivial
theorem tw7447298531240350487 : True := trivial
theorem tw15384609679100317569 : True := trivial
theorem tw16685189443627187035 : True := trivial
theorem tw6974069924274197040 : True := trivial
theorem tw16996014076155867859 : True := trivial
theorem tw17813300047875555979 : True := trivial
theorem tw4799450187156214713 : True := trivial
theorem tw15314179274765014880 : True := trivial
theorem tw17830410326756494738 : True := trivial
theorem tw10090462429506178139 : True := trivial
theorem tw16999588956893999709 : True := trivial
theorem tw12453106825689009876 : True := trivial
theorem tw4705101119279800180 : True := trivial
theorem tw10726750856231045857 : True := trivial
theorem tw17077903726789237743 : True := trivial
theorem tw5736116446348652666 : True := trivial
theorem tw6424663625587203560 : True := trivial
theorem tw17106460844956862344 : True := trivial
theorem tw6192795338100323276 : True := trivial
theorem tw16772127582294150736 : True := trivial
theorem tw16791768884496730447 : True := trivial
theorem tw4484626006233394757 : True := trivial
theorem tw2814991694806718926 : True := trivial
theorem tw11271124018237284393 : True := trivial
theorem tw17638006205118170619 : True := trivial
theorem tw2758141412149965415 : True := trivial
theorem tw5511951731028404366 : True := trivial
theorem tw17053598286300067043 : True := trivial
theorem tw16532252498382599251 : True := trivial
theorem tw13998156726604209779 : True := trivial
theorem tw16872035766813054771 : True := trivial
theorem tw3601389887750095114 : True := trivial
theorem tw127258932277313135 : True := trivial
theorem tw4333427541434221956 : True := trivial
theorem tw16101751818469045608 : True := trivial
theorem tw16719846884171863617 : True := trivial
theorem tw16123077626998389885 : True := trivial
theorem tw2675695491057793275 : True := trivial
theorem tw955458159818897702 : True := trivial
theorem tw9337917063216581259 : True := trivial
theorem tw7777830113351774378 : True := trivial
theorem tw10776058897429819612 : True := trivial
theorem tw23064840070726326 : True := trivial
theorem tw17121432524973483257 : True := trivial
theorem tw13983810930401718790 : True := trivial
theorem tw1175783331798856483 : True := trivial
theorem tw11422136159077650299 : True := trivial
theorem tw17830442471208201495 : True := trivial
theorem tw9467452174710598293 : True := trivial
theorem tw3339495766747958755 : True := trivial
theorem tw379521475725880157 : True := trivial
theorem tw8719995177702052877 : True := trivial
theorem tw2588181080801851850 : True := trivial
theorem tw9263639912535503826 : True := trivial
theorem tw15368986879425193749 : True := trivial
theorem tw2130889709303023381 : True := trivial
theorem tw13000312037302645081 : True := trivial
theorem tw15009050426580114463 : True := trivial
theorem tw13409061906563498135 : True := trivial
theorem tw13167618351789671182 : True := trivial
theorem tw13837956550369309655 : True := trivial
theorem tw6755817877534758973 : True := trivial
theorem tw15948683791211618455 : True := trivial
theorem tw18351618986624744315 : True := trivial
theorem tw16478155065693411396 : True := trivial
theorem tw16930944889929855217 : True := trivial
theorem tw8552086267306832899 : True := trivial
theorem tw1344962920863576043 : True := trivial
theorem tw5572124656192991305 : True := trivial
theorem tw1952885018392253261 : True := trivial
theorem tw6377724203848172670 : True := trivial
theorem tw118093216076651002 : True := trivial
theorem tw17242919099709320015 : True := trivial
theorem tw17781933711014304557 : True := trivial
theorem tw9197940411809212729 : True := trivial
theorem tw11755789839827496282 : True := trivial
theorem tw6035935939083586908 : True := trivial
end PySem.W.Fast
open PySem PySem.W PyProof.Rows
set_option maxRecDepth 100000 in
set_option maxHeartbeats 0 in
theorem PySem.Challenge.cw_trickproof_k11_who_wins_a_trick_holds : PySem.Challenge.rw_trickproof_k11_who_wins_a_trick.Holds := by
  w_on; o_law; k_head; (case hw => w_witness2)
  k_fill
  refine My.walk (l := PySem.Challenge.rw_trickproof_k11_who_wins_a_trick) rfl rfl (fun w h Y => PySem.W.kIn_of Y) ?F
  case F =>
    intro w mg fa h KX G hmg
    refine' My.all_mk KX G hmg ?a1 ?l1 ?c1 ?k1 ?a2 ?l2 ?c2 ?k2 ?a3 ?l3 ?c3 ?k3 ?a4 ?l4 ?c4 ?k4 ?a5 ?l5 ?c5 ?k5 ?a6 ?l6 ?c6 ?k6 ?a7 ?l7 ?c7 ?k7 ?a8 ?l8 ?c8 ?k8 ?a9 ?l9 ?c9 ?k9 ?a10 ?l10 ?c10 ?k10 ?a11 ?l11 ?c11 ?k11 ?a12 ?l12 ?c12 ?k12 ?a13 ?l13 ?c13 ?k13 ?a14 ?l14 ?c14 ?k14 ?a15 ?l15 ?c15 ?k15 ?a16 ?l16 ?c16 ?k16 ?a17 ?l17 ?c17 ?k17 ?a18 ?l18 ?c18 ?k18 ?a_F ?l_F ?c_F ?k_F ?i_F ?a_L ?l_L ?c_L ?k_L ?i_L ?a_C ?l_C ?c_C ?k_C ?i_C ?a_B ?l_B ?c_B ?k_B ?i_B ?a_I ?l_I ?c_I ?k_I ?i_I ?a_O ?l_O ?c_O ?k_O ?i_O ?a_G ?l_G ?c_G ?k_G ?i_G ?a_S ?l_S ?c_S ?k_S ?i_S ?a_V ?l_V ?c_V ?k_V ?i_V ?a_W ?l_W ?c_W ?k_W ?i_W ?g1 ?g2 ?g3 ?z1 ?z2 ?z3 ?z4 ?z5 ?z6 ?z7 ?z8 ?z9 ?z10 ?hCN ?hCF ?hCL ?hCC ?hCB ?hCT ?hCG ?x1 ?pgCF ?hdCF ?poCF ?saCF ?mkCF ?kcCF ?oiCF ?pgCL ?hdCL ?poCL ?saCL ?mkCL ?kcCL ?oiCL ?pgCC ?hdCC ?poCC ?saCC ?mkCC ?kcCC ?oiCC ?pgCB ?hdCB ?poCB ?saCB ?mkCB ?kcCB ?oiCB ?pgCT ?hdCT ?poCT ?saCT ?mkCT ?kcCT ?pgCG ?hdCG ?poCG ?saCG ?mkCG ?kcCG ?nTS ?nTH ?nTN ?nTD ?nTP ?nTT ?nTW ?nGT ?nGU ?w1 ?w2 ?w3
    (case hCN => k_is)
    (case hCF => k_is)
    (case hCL => k_is)
    (case hCC => k_is)
    (case hCB => k_is)
    (case hCT => k_is)
    (case hCG => k_is)
    (case w1 => k_is)
    (case a1 => k_is)
    (case l1 => k_is)
    (case c1 => k_is)
    (case k1 => k_is)
    (case a2 => k_is)
    (case l2 => k_is)
    (case c2 => k_is)
    (case k2 => k_is)
    (case a3 => k_is)
    (case l3 => k_is)
    (case c3 => k_is)
    (case k3 => k_is)
    (case a4 => k_is)
    (case l4 => k_is)
    (case c4 => k_is)
    (case k4 => k_is)
    (case a5 => k_is)
    (case l5 => k_is)
    (case c5 => k_is)
    (case k5 => k_is)
    (case a6 => k_is)
    (case l6 => k_is)
    (case c6 => k_is)
    (case k6 => k_is)
    (case a7 => k_is)
    (case l7 => k_is)
    (case c7 => k_is)
    (case k7 => k_is)
    (case a8 => k_is)
    (case l8 => k_is)
    (case c8 => k_is)
    (case k8 => k_is)
    (case a9 => k_is)
    (case l9 => k_is)
    (case c9 => k_is)
    (case k9 => k_is)
    (case a10 => k_is)
    (case l10 => k_is)
    (case c10 => k_is)
    (case k10 => k_is)
    (case a11 => k_is)
    (case l11 => k_is)
    (case c11 => k_is)
    (case k11 => k_is)
    (case a12 => k_is)
    (case l12 => k_is)
    (case c12 => k_is)
    (case k12 => k_is)
    (case a13 => k_is)
    (case l13 => k_is)
    (case c13 => k_is)
    (case k13 => k_is)
    (case a14 => k_is)
    (case l14 => k_is)
    (case c14 => k_is)
    (case k14 => k_is)
    (case a15 => k_is)
    (case l15 => k_is)
    (case c15 => k_is)
    (case k15 => k_is)
    (case a16 => k_is)
    (case l16 => k_is)
    (case c16 => k_is)
    (case k16 => k_is)
    (case a17 => k_is)
    (case l17 => k_is)
    (case c17 => k_is)
    (case k17 => k_is)
    (case a18 => k_is)
    (case l18 => k_is)
    (case c18 => k_is)
    (case k18 => k_is)
    (case a_F => k_is)
    (case l_F => k_is)
    (case c_F => k_is)
    (case k_F => k_is)
    (case i_F => k_is)
    (case a_L => k_is)
    (case l_L => k_is)
    (case c_L => k_is)
    (case k_L => k_is)
    (case i_L => k_is)
    (case a_C => k_is)
    (case l_C => k_is)
    (case c_C => k_is)
    (case k_C => k_is)
    (case i_C => k_is)
    (case a_B => k_is)
    (case l_B => k_is)
    (case c_B => k_is)
    (case k_B => k_is)
    (case i_B => k_is)
    (case a_I => k_is)
    (case l_I => k_is)
    (case c_I => k_is)
    (case k_I => k_is)
    (case i_I => k_is)
    (case a_O => k_is)
    (case l_O => k_is)
    (case c_O => k_is)
    (case k_O => k_is)
    (case i_O => k_is)
    (case a_G => k_is)
    (case l_G => k_is)
    (case c_G => k_is)
    (case k_G => k_is)
    (case i_G => k_is)
    (case a_S => k_is)
    (case l_S => k_is)
    (case c_S => k_is)
    (case k_S => k_is)
    (case i_S => k_is)
    (case a_V => k_is)
    (case l_V => k_is)
    (case c_V => k_is)
    (case k_V => k_is)
    (case i_V => k_is)
    (case a_W => k_is)
    (case l_W => k_is)
    (case c_W => k_is)
    (case k_W => k_is)
    (case i_W => k_is)
    (case g1 => k_is)
    (case g2 => k_is)
    (case g3 => k_is)
    (case z1 => k_is)
    (case z2 => k_is)
    (case z3 => k_is)
    (case z4 => k_is)
    (case z5 => k_is)
    (case z6 => k_is)
    (case z7 => k_is)
    (case z8 => k_is)
    (case z9 => k_is)
    (case z10 => k_is)
    (case x1 => k_exc)
    (case pgCF => k_is)
    (case hdCF => k_is)
    (case poCF => k_is)
    (case saCF => k_is)
    (case mkCF => k_is)
    (case kcCF => k_is)
    (case oiCF => k_is)
    (case pgCL => k_is)
    (case hdCL => k_is)
    (case poCL => k_is)
    (case saCL => k_is)
    (case mkCL => k_is)
    (case kcCL => k_is)
    (case oiCL => k_is)
    (case pgCC => k_is)
    (case hdCC => k_is)
    (case poCC => k_is)
    (case saCC => k_is)
    (case mkCC => k_is)
    (case kcCC => k_is)
    (case oiCC => k_is)
    (case pgCB => k_is)
    (case hdCB => k_is)
    (case poCB => k_is)
    (case saCB => k_is)
    (case mkCB => k_is)
    (case kcCB => k_is)
    (case oiCB => k_is)
    (case pgCT => k_is)
    (case hdCT => k_is)
    (case poCT => k_is)
    (case saCT => k_is)
    (case mkCT => k_is)
    (case kcCT => k_is)
    (case pgCG => k_is)
    (case hdCG => k_is)
    (case poCG => k_is)
    (case saCG => k_is)
    (case mkCG => k_is)
    (case kcCG => k_is)
    (case nTS => k_is)
    (case nTH => k_is)
    (case nTN => k_is)
    (case nTD => k_is)
    (case nTP => k_is)
    (case nTT => k_is)
    (case nTW => k_is)
    (case nGT => k_is)
    (case nGU => k_is)
    (case w2 => k_is)
    (case w3 => k_is)
#print axioms PySem.Challenge.cw_trickproof_k11_who_wins_a_trick_holds

