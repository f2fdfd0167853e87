import PyProof.Rows.All
import Wide.All
import OpenK.AllK
import Wide.FinOn
import Lean
import PyProof.EqAt
import PyProof.EqKinds
import PyProof.TupleCall
import PyProof.NeKinds
import PyProof.ListStr
import PyProof.Rows.SortStr
import KE.KIntText
import PySem.Challenge.RW_trickproof_k09_no_table
set_option Elab.async false
set_option linter.all false
set_option maxRecDepth 100000
/-! THE HAND LAYER, for ints, bools, texts, own classes, LISTS and tuples (index, slices, in, append, pop ..), calls, loops. Paste it whole ahead of your own text; what your proof does not reach may be deleted. -/
namespace L2
open PySem PySem.Spec PyProof.Rows

/-- a key: an int or a str -/
abbrev Key := Sum Int Str
def keyIs : Key → Value → Bool
  | .inl k, v => Value.isInt k v
  | .inr x, v => Value.isStrOf x v
def keyH (w : World) : Key → Int
  | .inl k => hashInt k
  | .inr x => hashStr w x
theorem keyIs_shape : ∀ {k : Key} {v : Value}, keyIs k v = true → (∃ i t, k = Sum.inl i ∧ v = Value.int i t) ∨ (∃ x t, k = Sum.inr x ∧ v = Value.str x t)
  | .inl i, v, h => by
    obtain ⟨t, e⟩ := Value.isInt_shape (k := i) (v := v) h
    exact .inl ⟨i, t, rfl, e⟩
  | .inr x, v, h => by
    obtain ⟨t, e⟩ := Value.isStrOf_shape (x := x) (v := v) h
    exact .inr ⟨x, t, rfl, e⟩
theorem key_ll (a b : Int) : decide ((Sum.inl a : Key) = Sum.inl b) = (a == b) := by
  by_cases e : a = b
  · subst e; simp
  · have h : ¬ (Sum.inl a : Key) = Sum.inl b := fun q => e (Sum.inl.inj q)
    rw [decide_eq_false h]
    exact (beq_eq_false_iff_ne.mpr e).symm
theorem key_rr (a b : Str) : decide ((Sum.inr a : Key) = Sum.inr b) = decide (a = b) := by
  by_cases e : a = b
  · subst e; simp
  · have h : ¬ (Sum.inr a : Key) = Sum.inr b := fun q => e (Sum.inr.inj q)
    rw [decide_eq_false h, decide_eq_false e]
theorem key_lr (a : Int) (b : Str) : decide ((Sum.inl a : Key) = Sum.inr b) = false := decide_eq_false (fun q => nomatch q)
theorem key_rl (a : Str) (b : Int) : decide ((Sum.inr a : Key) = Sum.inl b) = false := decide_eq_false (fun q => nomatch q)

def mixKind (prog : Program) (w : World) : PySem.KeyKind prog w Key where
  is := keyIs
  hash := keyH w
  inj := fun v a b ha hb => by
    rcases keyIs_shape ha with ⟨i, t, rfl, rfl⟩ | ⟨x, t, rfl, rfl⟩
    · rcases keyIs_shape hb with ⟨j, u, rfl, e⟩ | ⟨y, u, rfl, e⟩
      · injection e with e1 _; rw [e1]
      · exact nomatch e
    · rcases keyIs_shape hb with ⟨j, u, rfl, e⟩ | ⟨y, u, rfl, e⟩
      · exact nomatch e
      · injection e with e1 _; rw [e1]
  byValue := fun k v h => by
    rcases keyIs_shape h with ⟨i, t, rfl, rfl⟩ | ⟨x, t, rfl, rfl⟩ <;> rfl
  pyHash := fun hv h => by
    rcases keyIs_shape hv with ⟨i, t, rfl, rfl⟩ | ⟨x, t, rfl, rfl⟩
    · exact wpAny_pyHash_int h
    · exact wpAny_pyHash_str h
  eqBool := fun hu hv h => by
    rcases keyIs_shape hu with ⟨i, t, rfl, rfl⟩ | ⟨x, t, rfl, rfl⟩
    · rcases keyIs_shape hv with ⟨j, u, rfl, rfl⟩ | ⟨y, u, rfl, rfl⟩
      · rw [key_ll] at h; exact wpAny_eqBool_int h
      · rw [key_lr] at h; exact SeqAt.EqAt.int_str i t y u _ _ _ _ h
    · rcases keyIs_shape hv with ⟨j, u, rfl, rfl⟩ | ⟨y, u, rfl, rfl⟩
      · rw [key_rl] at h; exact SeqAt.EqAt.str_int x t j u _ _ _ _ h
      · rw [key_rr] at h; exact wpAny_eqBool_str h
  «strs» := fun k x t v h => by
    rcases keyIs_shape h with ⟨i, u, rfl, e⟩ | ⟨y, u, rfl, e⟩
    · exact nomatch e
    · injection e with e1 _
      subst e1
      cases v <;> rfl

end L2

namespace L2
open PySem PySem.Spec PyProof.Rows

/-- a value, without the heap -/
inductive V where
  | non | bl (b : Bool) | int (i : Int) | str (x : Str) | byt (b : Array UInt8) | flt (b : UInt64) | ref (a : Addr) | ty (n : String)
  deriving DecidableEq

def RelV : V → Value → Prop
  | .non, u => u = Value.none
  | .bl b, u => u = Value.bool b
  | .int i, u => ∃ t, u = Value.int i t
  | .str x, u => ∃ t, u = Value.str x t
  | .byt b, u => ∃ t, u = Value.bytes b t
  | .flt b, u => ∃ t, u = Value.float b t
  | .ref a, u => u = Value.ref a
  | .ty n, u => u = Value.type n

abbrev Vals : List V → List Value → Prop := Paired RelV
theorem Vals.length {xs : List V} {us : List Value} (r : Vals xs us) : xs.length = us.length := Paired.length r
theorem Vals.get : ∀ {xs : List V} {us : List Value} {i : Nat} {x : V}, Vals xs us → xs[i]? = some x → ∃ u, us[i]? = some u ∧ RelV x u
  | _, _, _, _, .nil, e => by simp at e
  | _, _, 0, _, .cons r _, e => by simp at e; subst e; exact ⟨_, rfl, r⟩
  | _, _, i + 1, x, .cons _ t, e => by
    obtain ⟨u, h1, h2⟩ := Vals.get (i := i) (x := x) t (by simpa using e)
    exact ⟨u, by simpa using h1, h2⟩
theorem Vals.set {x : V} {u : Value} (r : RelV x u) : ∀ {xs : List V} {us : List Value} (i : Nat), Vals xs us → Vals (xs.set i x) (us.set i u)
  | _, _, _, .nil => .nil
  | _, _, 0, .cons _ t => .cons r t
  | _, _, i + 1, .cons q t => .cons q (Vals.set r i t)
theorem Vals.append : ∀ {xs ys : List V} {us ws : List Value}, Vals xs us → Vals ys ws → Vals (xs ++ ys) (us ++ ws)
  | _, _, _, _, .nil, s => s
  | _, _, _, _, .cons r t, s => .cons r (Vals.append t s)
theorem Vals.take : ∀ {xs : List V} {us : List Value} (n : Nat), Vals xs us → Vals (xs.take n) (us.take n)
  | _, _, 0, _ => .nil
  | _, _, _ + 1, .nil => .nil
  | _, _, n + 1, .cons r t => .cons r (Vals.take n t)
theorem Vals.drop : ∀ {xs : List V} {us : List Value} (n : Nat), Vals xs us → Vals (xs.drop n) (us.drop n)
  | _, _, 0, r => r
  | _, _, _ + 1, .nil => .nil
  | _, _, n + 1, .cons _ t => Vals.drop n t
def RelO : Option V → Option Value → Prop
  | some v, some u => RelV v u
  | none, none => True
  | _, _ => False
def KV {κ : Type} : List (κ × V) → List (κ × Value) → Prop := Paired fun (p : κ × V) (q : κ × Value) => p.1 = q.1 ∧ RelV p.2 q.2

/-- a key of a dict (00_mix): an int or a text -/
def kV : Key → V
  | .inl i => .int i
  | .inr x => .str x

/-- what stands at a tracked address -/
inductive HO where
  /-- a list -/
  | lst (xs : List V)
  /-- a tuple (never changes) -/
  | tup (xs : List V)
  /-- a dict whose keys are ints and texts; one whose keys are tuples of ints and texts (the empty one is both) -/
  | dK (kvs : List (Key × V)) | dT (kvs : List (List Key × V))
  /-- a set of ints: its members, its size -/
  | set (S : Int → Bool) (n : Nat)
  /-- an instance of the class at C, its dict at dx, its attributes -/
  | ins (C dx : Addr) (fs : List (Str × V))
  /-- the dict of the instance at x -/
  | own (x : Addr)
  /-- the dict of an exception -/
  | xd (fs : List (Str × V))
  /-- a bound method, f of x -/
  | met (f x : Addr)
  /-- a range object lo, lo + 1, .. below hi -/
  | rng (lo hi : Int)
  /-- a thing that is known to the object (the script; a dict while a loop walks it): read, never written while it is so -/
  | frz (o : Obj) (u : HO)
  /-- a code object's table -/
  | tbl (ps : Array Value)
  /-- any other thing, by what is true of its one object (a def of one's own: SetO a S n := HO.ext fun h => ..) -/
  | ext (φ : Heap → Prop)

abbrev Hp := Addr → Option HO
def upd (H : Hp) (a : Addr) (o : HO) : Hp := fun b => if b = a then some o else H b
theorem upd_same {H : Hp} {a : Addr} {o : HO} : upd H a o a = some o := by unfold upd; rw [if_pos rfl]
theorem upd_ne {H : Hp} {a b : Addr} {o : HO} (h : b ≠ a) : upd H a o b = H b := by unfold upd; rw [if_neg h]
theorem upd_upd {H : Hp} {a : Addr} {o u : HO} : upd (upd H a o) a u = upd H a u := by
  funext b; unfold upd; split <;> rfl
/-- two objects of different content stand apart -/
theorem ne_of {H : Hp} {a b : Addr} {o u : HO} (h : H a = some o) (h' : H b = some u) (d : o ≠ u) : a ≠ b := by
  intro e; subst e; rw [h] at h'; exact d (Option.some.inj h')
theorem ne_of_none {H : Hp} {a b : Addr} {o : HO} (h : H a = some o) (h' : H b = none) : a ≠ b := by
  intro e; subst e; rw [h] at h'; cases h'

section
variable (P : Program) (w : World)
def ObjOk (H : Hp) (h : Heap) (a : Addr) : HO → Prop
  | .lst xs => xs.length ≤ sizeLine ∧ ∃ (its : List Value) (n : Nat), Vals xs its ∧ h.get? a = some { cls := .type "list", data := .seq its.toArray n }
  | .tup xs => xs.length ≤ sizeLine ∧ ∃ its : List Value, Vals xs its ∧ IsTup h a its.toArray
  | .dK kvs => kvs.length ≤ sizeLine ∧ (a == sysModules) = false ∧ ∃ vs, KV kvs vs ∧ h.DictOf (mixKind P w) a vs
  | .dT kvs => kvs.length ≤ sizeLine ∧ (a == sysModules) = false ∧ ∃ xs : List (List Key × Addr × Value),
      Paired (fun (p : List Key × V) (q : List Key × Addr × Value) => p.1 = q.1 ∧ H q.2.1 = some (.tup (p.1.map kV)) ∧ RelV p.2 q.2.2) kvs xs ∧
      ∃ o es ep, h.get? a = some o ∧ o.ExactDict ∧ o.data = .dict es ep ∧ es.toList = xs.map (entryOfKey (tupleKind (mixKind P w))) ∧ (xs.map (·.1)).Nodup
  | .set S n => h.SetOf (intKind P w) a S n
  | .ins C dx fs => H dx = some (.own a) ∧ fs.length ≤ 1000 ∧ dx ≠ a ∧ h.get? a = some (PySem.W.instObj C dx) ∧
      ∃ mA, h.Ns1 dx mA ∧ (∀ f, RelO (fs.lookup f) (mA f)) ∧ PySem.Within mA (fs.map (·.1))
  | .own _ => ∃ o, h.get? a = some o
  | .xd fs => ∃ mA, h.Ns1 a mA ∧ ∀ f, RelO (fs.lookup f) (mA f)
  | .rng lo hi => ∃ t u v, h.get? a = some { cls := .type "range", data := .fields #[.int lo t, .int hi u, .int 1 v] }
  | .frz o u => h.get? a = some o ∧ ObjOk H h a u
  | .tbl ps => h.get? a = some { cls := .none, data := .fields ps }
  | .met f x => h.get? a = some (PySem.W.methodObj (.ref f) (.ref x))
  | .ext φ => φ h ∧ (∃ o, h.get? a = some o) ∧ ∀ h1 h2 : Heap, φ h1 → (∀ o, h1.get? a = some o → h2.get? a = some o) → φ h2
/-- the abstract heap is held -/
def HOk (H : Hp) (h : Heap) : Prop := ∀ a o, H a = some o → ObjOk P w H h a o
end

section
variable {P : Program} {w : World} {H H' : Hp} {h h' : Heap} {a : Addr} {o : HO}
theorem ObjOk.lt (x : ObjOk P w H h a o) : a < h.objs.size := by
  cases o with
  | lst xs => obtain ⟨_, _, _, _, e⟩ := x; exact Heap.lt_size e
  | tup xs => obtain ⟨_, _, _, p⟩ := x; exact p.lt
  | dK kvs => obtain ⟨_, _, _, _, o, _, _, e, _⟩ := x; exact Heap.lt_size e
  | dT kvs => obtain ⟨_, _, _, _, o, _, _, e, _⟩ := x; exact Heap.lt_size e
  | set S n => obtain ⟨o, _, _, _, e, _⟩ := x; exact Heap.lt_size e
  | ins C dx fs => obtain ⟨_, _, _, e, _⟩ := x; exact Heap.lt_size e
  | own y => obtain ⟨_, e⟩ := x; exact Heap.lt_size e
  | xd fs => obtain ⟨_, ⟨_, _, _, e, _⟩, _⟩ := x; exact Heap.lt_size e
  | rng lo hi => obtain ⟨_, _, _, e⟩ := x; exact Heap.lt_size e
  | frz ob u => obtain ⟨e, _⟩ := x; exact Heap.lt_size e
  | tbl ps => exact Heap.lt_size (show h.get? a = some _ from x)
  | met f y => exact Heap.lt_size (show h.get? a = some _ from x)
  | ext φ => obtain ⟨_, ⟨_, e⟩, _⟩ := x; exact Heap.lt_size e
theorem Paired.mapP {α β : Type} {F G : α → β → Prop} : ∀ {l₁ : List α} {l₂ : List β}, Paired F l₁ l₂ → (∀ a b, F a b → G a b) → Paired G l₁ l₂
  | _, _, .nil, _ => .nil
  | _, _, .cons r t, f => .cons (f _ _ r) (Paired.mapP t f)
/-- what an object's description leans on: its own object, its own dict, the tuples -/
theorem ObjOk.stay (x : ObjOk P w H h a o) (k : ∀ b u, (b = a ∨ H b = some (.own a)) → h.get? b = some u → h'.get? b = some u)
    (ho : ∀ b, H b = some (.own a) → H' b = some (.own a)) (ht : ∀ b xs, H b = some (.tup xs) → H' b = some (.tup xs)) : ObjOk P w H' h' a o := by
  induction o with
  | lst xs => obtain ⟨z, its, n, r, e⟩ := x; exact ⟨z, its, n, r, k _ _ (.inl rfl) e⟩
  | tup xs => obtain ⟨z, its, r, ob, e, c⟩ := x; exact ⟨z, its, r, ob, k _ _ (.inl rfl) e, c⟩
  | dK kvs => obtain ⟨z, y, vs, r, ob, es, ep, e, c⟩ := x; exact ⟨z, y, vs, r, ob, es, ep, k _ _ (.inl rfl) e, c⟩
  | dT kvs =>
    obtain ⟨z, y, xs, r, ob, es, ep, e, c⟩ := x
    exact ⟨z, y, xs, Paired.mapP r fun p q z => ⟨z.1, ht _ _ z.2.1, z.2.2⟩, ob, es, ep, k _ _ (.inl rfl) e, c⟩
  | set S n => obtain ⟨ob, es, ep, t, e, c⟩ := x; exact ⟨ob, es, ep, t, k _ _ (.inl rfl) e, c⟩
  | ins C dx fs =>
    obtain ⟨d, z, ne, e, mA, ⟨od, es, ep, e2, c⟩, r⟩ := x
    exact ⟨ho _ d, z, ne, k _ _ (.inl rfl) e, mA, ⟨od, es, ep, k _ _ (.inr d) e2, c⟩, r⟩
  | own y => obtain ⟨ob, e⟩ := x; exact ⟨ob, k _ _ (.inl rfl) e⟩
  | xd fs => obtain ⟨mA, ⟨od, es, ep, e, c⟩, r⟩ := x; exact ⟨mA, ⟨od, es, ep, k _ _ (.inl rfl) e, c⟩, r⟩
  | rng lo hi => obtain ⟨t, u, v, e⟩ := x; exact ⟨t, u, v, k _ _ (.inl rfl) e⟩
  | frz ob u ih => obtain ⟨e, q⟩ := x; exact ⟨k _ _ (.inl rfl) e, ih q⟩
  | tbl ps =>
    have e : h.get? a = some { cls := .none, data := .fields ps } := x
    show h'.get? a = some { cls := .none, data := .fields ps }
    exact k a _ (.inl rfl) e
  | met f y =>
    have e : h.get? a = some (PySem.W.methodObj (.ref f) (.ref y)) := x
    show h'.get? a = some (PySem.W.methodObj (.ref f) (.ref y))
    exact k a _ (.inl rfl) e
  | ext φ => obtain ⟨p, ⟨o, e⟩, st⟩ := x; exact ⟨st _ _ p fun o q => k _ _ (.inl rfl) q, ⟨o, k _ _ (.inl rfl) e⟩, st⟩
theorem HOk.lt (x : HOk P w H h) (e : H a = some o) : a < h.objs.size := (x a o e).lt
theorem HOk.fresh (x : HOk P w H h) (e : h.objs.size ≤ a) : H a = none := by
  cases q : H a with
  | none => rfl
  | some u => exact absurd (Nat.lt_of_lt_of_le (x.lt q) e) (Nat.lt_irrefl _)
/-- every object of the heap is kept -/
theorem HOk.kept (x : HOk P w H h) (k : ∀ b u, h.get? b = some u → h'.get? b = some u) : HOk P w H h' := fun a o e =>
  (x a o e).stay (fun b u _ q => k b u q) (fun _ q => q) fun _ _ q => q
/-- a new object is laid and tracked -/
theorem HOk.laid (x : HOk P w H h) (k : ∀ b u, h.get? b = some u → h'.get? b = some u) (hp : h.objs.size ≤ a) (new : ObjOk P w (upd H a o) h' a o) : HOk P w (upd H a o) h' := fun b u e => by
  have hn := x.fresh hp
  by_cases hb : b = a
  · subst hb; rw [upd_same] at e; cases e; exact new
  · rw [upd_ne hb] at e
    exact (x b u e).stay (fun c v _ q => k c v q) (fun c q => by rw [upd_ne (ne_of_none q hn)]; exact q) fun c xs q => by rw [upd_ne (ne_of_none q hn)]; exact q
end

/-- what may be read as u: it is u, or a known u -/
def Rd (H : Hp) (a : Addr) (u : HO) : Prop := H a = some u ∨ ∃ o, H a = some (.frz o u)
theorem Rd.ok {P : Program} {w : World} {H : Hp} {h : Heap} {a : Addr} {u : HO} (r : Rd H a u) (x : HOk P w H h) : ObjOk P w H h a u := by
  rcases r with r | ⟨o, r⟩
  · exact x a u r
  · obtain ⟨_, q⟩ := x a _ r
    exact q
/-- what may be written -/
def Mut : Option HO → Prop
  | some (.lst _) => True
  | some (.dK _) => True
  | some (.dT _) => True
  | some (.set _ _) => True
  | some (.ins _ _ _) => True
  | some (.ext _) => True
  | _ => False
section
variable {P : Program} {w : World} {H : Hp} {h h' : Heap} {x e : Addr} {o' : HO}
/-- the object at e is changed: x itself, or the dict of the instance x -/
theorem HOk.write (ok : HOk P w H h) (mu : Mut (H x)) (he : e = x ∨ H e = some (.own x)) (k : ∀ b u, b ≠ e → h.get? b = some u → h'.get? b = some u) (heo : ∃ u, h'.get? e = some u)
    (new : ObjOk P w (upd H x o') h' x o') : HOk P w (upd H x o') h' := fun b u q => by
  have nown : ∀ c y, H c = some (.own y) → c ≠ x := fun c y r z => by subst z; rw [r] at mu; exact mu
  have ntup : ∀ c xs, H c = some (.tup xs) → c ≠ x := fun c xs r z => by subst z; rw [r] at mu; exact mu
  by_cases hb : b = x
  · subst hb; rw [upd_same] at q; cases q; exact new
  · rw [upd_ne hb] at q
    by_cases hbe : b = e
    · have q' : H b = some (.own x) := by
        rcases he with z | z
        · exact absurd (hbe.trans z) hb
        · rw [hbe]; exact z
      rw [q] at q'; cases q'
      obtain ⟨v, hv⟩ := heo
      exact ⟨v, by rw [hbe]; exact hv⟩
    · refine (ok b u q).stay (fun c v hc r => k c v ?_ r) (fun c r => by rw [upd_ne (nown c b r)]; exact r) fun c xs r => by rw [upd_ne (ntup c xs r)]; exact r
      rcases hc with rfl | hc
      · exact hbe
      · rintro rfl
        rcases he with z | z
        · exact nown c b hc z
        · rw [hc] at z; cases z; exact hb rfl
end

/-! ### kept unless tracked; of the frames at fs (the callers') the slots may change (an exception that passes writes there); of the records at ex (iterators) nothing is said -/
structure Un (fs ex : List Addr) (H H' : Hp) (h h' : Heap) : Prop where
  keep : ∀ b o, h.get? b = some o → H b = none → b ∉ fs → b ∉ ex → h'.get? b = some o
  slot : ∀ b o, h.get? b = some o → H b = none → b ∈ fs → b ∉ ex → ∃ sl, h'.get? b = some { o with slots := sl }
  free : ∀ b o, h.get? b = some o → H b = none → b ∉ ex → H' b = none
  there : ∀ b o, h.get? b = some o → b ∉ ex → ∃ o', h'.get? b = some o'
  tups : ∀ b xs, H b = some (.tup xs) → H' b = some (.tup xs)
  frzs : ∀ b o u, H b = some (.frz o u) → H' b = some (.frz o u)
  tbls : ∀ b ps, H b = some (.tbl ps) → ∃ more, H' b = some (.tbl (ps ++ more))
section
variable {fs fs' ex ex' : List Addr} {H H1 H2 : Hp} {h h1 h2 h' : Heap} {a x e : Addr} {o : HO}
theorem Un.any (u : Un fs ex H H1 h h1) {b : Addr} {ob : Obj} (q : h.get? b = some ob) (n : H b = none) (hx : b ∉ ex) : ∃ sl, h1.get? b = some { ob with slots := sl } := by
  by_cases hb : b ∈ fs
  · exact u.slot b ob q n hb hx
  · exact ⟨ob.slots, u.keep b ob q n hb hx⟩
theorem Un.kept (k : ∀ b u, h.get? b = some u → h'.get? b = some u) : Un fs ex H H h h' :=
  ⟨fun b ob q _ _ _ => k b ob q, fun b ob q _ _ _ => ⟨ob.slots, k b ob q⟩, fun _ _ _ n _ => n, fun b ob q _ => ⟨ob, k b ob q⟩, fun _ _ q => q, fun _ _ _ q => q, fun _ ps q => ⟨#[], by rw [q]; simp⟩⟩
theorem Un.refl : Un fs ex H H h h := Un.kept fun _ _ q => q
theorem Un.laid (k : ∀ b u, h.get? b = some u → h'.get? b = some u) (hp : h.objs.size ≤ a) (hn : H a = none) : Un fs ex H (upd H a o) h h' where
  keep := fun b u q _ _ _ => k b u q
  slot := fun b u q _ _ _ => ⟨u.slots, k b u q⟩
  free := fun b u q n _ => by rw [upd_ne (Nat.ne_of_lt (Nat.lt_of_lt_of_le (Heap.lt_size q) hp))]; exact n
  there := fun b u q _ => ⟨u, k b u q⟩
  tups := fun b xs q => by rw [upd_ne (ne_of_none q hn)]; exact q
  frzs := fun b u xs q => by rw [upd_ne (ne_of_none q hn)]; exact q
  tbls := fun b ps q => ⟨#[], by rw [upd_ne (ne_of_none q hn), q]; simp⟩
theorem Un.write (mu : Mut (H x)) (he : e = x ∨ H e = some (.own x)) (k : ∀ b u, b ≠ e → h.get? b = some u → h'.get? b = some u) (heo : ∃ u, h'.get? e = some u) : Un fs ex H (upd H x o) h h' := by
  have hx : ∀ b, H b = none → b ≠ x := fun b n z => by subst z; rw [n] at mu; exact mu
  have hb : ∀ b, H b = none → b ≠ e := fun b n z => by
    subst z
    rcases he with r | r
    · exact hx b n r
    · rw [n] at r; cases r
  have hm : ∀ b u, H b = some u → ¬ Mut (some u) → b ≠ x := fun b u q nm z => by subst z; rw [q] at mu; exact nm mu
  refine ⟨fun b u q n _ _ => k b u (hb b n) q, fun b u q n _ _ => ⟨u.slots, k b u (hb b n) q⟩, fun b u q n _ => by rw [upd_ne (hx b n)]; exact n, fun b u q _ => ?_,
    fun b xs q => by rw [upd_ne (hm b _ q fun z => z)]; exact q, fun b u xs q => by rw [upd_ne (hm b _ q fun z => z)]; exact q, fun b ps q => ⟨#[], by rw [upd_ne (hm b _ q fun z => z), q]; simp⟩⟩
  by_cases hbe : b = e
  · subst hbe; exact heo
  · exact ⟨u, k b u hbe q⟩
end

/-! ### the heap without what is tracked -/
def trk (h : Heap) (H : Hp) : List Addr := (List.range h.objs.size).filter fun a => (H a).isSome
def hidT (h : Heap) (H : Hp) : Heap := PySem.W.hideAll h (trk h H)
theorem hidT_size (h : Heap) (H : Hp) : (hidT h H).objs.size = h.objs.size := PySem.W.hideAll_size _ _
theorem hidT_get {h : Heap} {H : Hp} {b : Addr} {o : Obj} (e : h.get? b = some o) (n : H b = none) : (hidT h H).get? b = some o :=
  PySem.W.hideAll_get _ e fun hm => by
    have q : (H b).isSome = true := (List.mem_filter.mp hm).2
    rw [n] at q; simp at q
theorem of_hidT {h : Heap} {H : Hp} {b : Addr} {o : Obj} (e : (hidT h H).get? b = some o) : h.get? b = some o ∧ H b = none := by
  have e' : h.get? b = some o := PySem.W.of_hideAll (trk h H) e
  refine ⟨e', ?_⟩
  cases q : H b with
  | none => rfl
  | some x =>
    have hm : b ∈ trk h H := List.mem_filter.mpr ⟨List.mem_range.mpr (Heap.lt_size e'), by simp [q]⟩
    have z : (hidT h H).get? b = none := PySem.W.hideAll_none (trk h H) hm
    rw [z] at e; cases e

/-! ### OpenK's ledger, filled with every new object but one -/
def allNews (g h : Heap) (L : Addr) : List (Addr × Obj) := (List.range h.objs.size).filterMap fun a => if a = L ∨ (g.get? a).isSome = true then none else (h.get? a).map fun o => (a, o)
def rest (g h : Heap) (L d : Addr) : List (Addr × Obj) := (allNews g h L).filter fun p => decide (p.1 ≠ d)
end L2

namespace L2
open PySem PySem.Spec PyProof.Rows

/-- the module's facts, over the base: the heap at the law's entry without what is tracked there -/
structure Mod (K : PySem.W.Frag) (mg : Str → Option Value) (base : Heap) : Prop where
  kin : K.In base
  glob : base.Ns mainGlobals mg
  blt : ∃ mb, base.Ns builtinsNs mb ∧ ∀ x : Str, x ≠ "__name__" → mb x = bootBuiltins x
  nolimit : base.NoLimit

/-- the context: a def's body (or a comprehension's block) running. base: fixed through the whole law; s₀, H₀: the entry; outer: the frames whose slots others may change (a def's callers); stack: all frames that run;
   ex: iterators that were made ahead of the entry and are walked here (a comprehension's); fn: the names whose cells were made at the entry (a def: all; a comprehension's block: its own); calm: not within an except suite; pn: pins that every state bears; xe: what is wanted of an exception that leaves the code -/
structure Cx where
  prog : Program
  w : World
  K : PySem.W.Frag
  mg : Str → Option Value
  base : Heap
  A : Around
  N : List Str
  s₀ : Shared
  H₀ : Hp
  env : Env
  outer : List Env
  stack : List Env
  ex : List Addr
  fn : Str → Bool
  calm : Bool
  pn : List (Addr × Obj)
  xe : Value → Shared → Prop
/-- the callers' frames -/
def frs (l : List Env) : List Addr := l.filterMap (·.frame)
abbrev Cx.fs (X : Cx) : List Addr := frs X.outer

def Vis (sc : Scope) (x : Str) : Prop := sc.names.lookup x = some .local ∨ sc.names.lookup x = some .cell ∨ sc.names.lookup x = some .free
def Loc (sc : Scope) (x : Str) : Prop := sc.names.lookup x = some .local ∨ sc.names.lookup x = some .cell
def Look (env : Env) (h : Heap) (m : Str → Option Value) (x : Str) (u : Value) : Prop :=
  (env.kindOf x = some .local ∧ m x = some u) ∨ ((env.kindOf x = some .cell ∨ env.kindOf x = some .free) ∧ ∃ c, env.cells.lookup x = some c ∧ h.IsCell c (some u))

structure Cx.Ok (X : Cx) : Prop where
  mod : Mod X.K X.mg X.base
  kind : X.env.scope.kind = .function
  glob : X.env.globals = mainGlobals
  blt : X.env.builtins = builtinsNs
  above : X.s₀.heap.objs.size ≤ X.env.locals
  inj : ∀ x y c, X.env.cells.lookup x = some c → X.env.cells.lookup y = some c → x = y
  has : ∀ x, (X.env.kindOf x = some .cell ∨ X.env.kindOf x = some .free) → ∃ c, X.env.cells.lookup x = some c
  cab : ∀ x c, X.fn x = true → X.env.cells.lookup x = some c → X.s₀.heap.objs.size ≤ c
  hd : X.calm = true → X.A.handled = none
  frames : X.A.frames = some X.stack
  stk : X.stack = X.outer ∨ (X.stack = X.env :: X.outer ∧ X.env.frame = some X.env.locals)
  exf : ∀ b ∈ X.ex, b ≠ X.env.locals ∧ ∀ x c, X.env.cells.lookup x = some c → c ≠ b
  bs : ∀ b o, X.base.get? b = some o → X.s₀.heap.get? b = some o ∧ X.H₀ b = none
  bsz : X.base.objs.size ≤ X.s₀.heap.objs.size
  noex : ∀ b o, X.base.get? b = some o → b ∉ X.ex
  exfs : ∀ b ∈ X.ex, b ∉ X.fs
  funs : X.s₀.heap.FunFrames X.base X.outer
  frf : ∀ b ∈ X.fs, X.H₀ b = none

structure Inv (X : Cx) (pins : List (Addr × Obj)) (σ : List (Option V)) (H : Hp) (s : Shared) : Prop where
  ok : X.Ok
  os : s.os = X.s₀.os
  bare : AllBare s.gens
  base : Un X.fs X.ex X.H₀ H X.s₀.heap s.heap
  loc : ∃ m, s.heap.Ns X.env.locals m ∧ ∀ (i : Nat) (x : Str) (v : V), X.N[i]? = some x → σ[i]? = some (some v) → Vis X.env.scope x → ∃ u, RelV v u ∧ Look X.env s.heap m x u
  cell : ∀ x c, X.env.cells.lookup x = some c → ∃ v, s.heap.IsCell c v
  free : H X.env.locals = none
  freeC : ∀ x c, X.env.cells.lookup x = some c → H c = none
  pin : ∀ p ∈ X.pn ++ pins, s.heap.get? p.1 = some p.2 ∧ H p.1 = none ∧ p.1 ≠ X.env.locals ∧ p.1 ∉ X.fs ∧ ∀ v, p.2.data ≠ .cell v
  hok : HOk X.prog X.w H s.heap
  len : σ.length = X.N.length

section
variable {X : Cx} {pins : List (Addr × Obj)} {σ : List (Option V)} {H H' : Hp} {s : Shared} {h' : Heap}

theorem Cx.Ok.nofr (ok : X.Ok) {b : Addr} {o : Obj} (e : X.base.get? b = some o) : b ∉ X.fs := fun hb => by
  have := (ok.funs.mem hb).1
  rw [e] at this; cases this
theorem Inv.bs (I : Inv X pins σ H s) : ∀ b o, X.base.get? b = some o → s.heap.get? b = some o ∧ H b = none := fun b o e =>
  ⟨I.base.keep b o (I.ok.bs b o e).1 (I.ok.bs b o e).2 (I.ok.nofr e) (I.ok.noex b o e), I.base.free b o (I.ok.bs b o e).1 (I.ok.bs b o e).2 (I.ok.noex b o e)⟩
theorem Inv.bk (I : Inv X pins σ H s) : ∀ b o, X.base.get? b = some o → s.heap.get? b = some o := fun b o e => (I.bs b o e).1
theorem Inv.mod (I : Inv X pins σ H s) : Mod X.K X.mg X.base := I.ok.mod
theorem Inv.kIn (I : Inv X pins σ H s) : X.K.In s.heap := I.ok.mod.kin.keeps I.bk
theorem Inv.lt (I : Inv X pins σ H s) : X.env.locals < s.heap.objs.size := let ⟨_, hn, _⟩ := I.loc; hn.lt
theorem Inv.sz (I : Inv X pins σ H s) : X.s₀.heap.objs.size ≤ s.heap.objs.size := Nat.le_trans I.ok.above (Nat.le_of_lt I.lt)
theorem Inv.nofs (I : Inv X pins σ H s) {a : Addr} (h : s.heap.objs.size ≤ a) : a ∉ X.fs := fun hb => by
  obtain ⟨_, o, ho, _⟩ := I.ok.funs.mem hb
  exact absurd (Nat.lt_of_lt_of_le (Heap.lt_size ho) (Nat.le_trans I.sz h)) (Nat.lt_irrefl _)
theorem Inv.cne (I : Inv X pins σ H s) : ∀ x c, X.env.cells.lookup x = some c → c ≠ X.env.locals := fun x c e z => by
  obtain ⟨v, o, ho, hd⟩ := I.cell x c e
  obtain ⟨m, ⟨o', es, ep, ho', hd', _⟩, _⟩ := I.loc
  rw [z, ho'] at ho; cases ho; rw [hd'] at hd; cases hd
theorem Inv.funs (I : Inv X pins σ H s) : s.heap.FunFrames X.base X.outer := by
  have all : ∀ (l : List Env), (∀ b ∈ frs l, b ∈ X.fs) → X.s₀.heap.FunFrames X.base l → s.heap.FunFrames X.base l := by
    intro l
    induction l with
    | nil => intro _ _; trivial
    | cons env r ih =>
      intro hs hl
      obtain ⟨hk, ⟨L, o, hf, hn, ho, hd⟩, hr⟩ := hl
      have hL : L ∈ X.fs := hs L (by unfold frs; rw [List.filterMap_cons, hf]; exact List.mem_cons_self)
      obtain ⟨sl, e⟩ := I.base.slot L o ho (I.ok.frf L hL) hL fun z => I.ok.exfs L z hL
      exact ⟨hk, ⟨L, _, hf, hn, e, hd⟩, ih (fun b hb => hs b (by unfold frs; rw [List.filterMap_cons, hf]; exact List.mem_cons_of_mem _ hb)) hr⟩
  exact all X.outer (fun _ hb => hb) I.ok.funs

/-- the frames that run, for a call -/
theorem Inv.stack (I : Inv X pins σ H s) : s.heap.FunFrames X.base X.stack := by
  rcases I.ok.stk with e | ⟨e, hf⟩
  · rw [e]; exact I.funs
  · rw [e]
    obtain ⟨m, hn, _⟩ := I.loc
    refine .cons (by rw [I.ok.kind]; decide) hf hn ?_ I.funs
    exact Heap.get?_none_of_le (Nat.le_trans I.ok.bsz I.ok.above)
theorem Inv.stkSub (I : Inv X pins σ H s) : ∀ b ∈ frs X.stack, b ∈ X.env.locals :: X.fs := fun b hb => by
  rcases I.ok.stk with e | ⟨e, hf⟩
  · rw [e] at hb; exact List.mem_cons_of_mem _ hb
  · rw [e] at hb
    unfold frs at hb
    rw [List.filterMap_cons, hf] at hb
    exact hb
theorem Inv.stkFree (I : Inv X pins σ H s) : ∀ b ∈ frs X.stack, H b = none := fun b hb => by
  rcases List.mem_cons.mp (I.stkSub b hb) with e | hb
  · rw [e]; exact I.free
  · obtain ⟨_, o, ho, _⟩ := I.ok.funs.mem hb
    exact I.base.free b o ho (I.ok.frf b hb) fun z => I.ok.exfs b z hb

/-- THE STEP: the untracked objects but the frame and the records at ch are kept (the callers' frames up to slots), the frame's map is kept, the new abstract heap is held -/
theorem Inv.step {g' : Array GenState} {t' : Nat} {d' : Drawn} {ch : List Addr} (I : Inv X pins σ H s)
    (hch : ∀ b ∈ ch, (b ∈ X.ex ∨ X.s₀.heap.objs.size ≤ b) ∧ b ≠ X.env.locals ∧ (∀ x c, X.env.cells.lookup x = some c → c ≠ b) ∧ ∀ p ∈ X.pn ++ pins, p.1 ≠ b)
    (keep : ∀ b o, b ≠ X.env.locals → b ∉ X.fs → b ∉ ch → s.heap.get? b = some o → H b = none → h'.get? b = some o)
    (slot : ∀ b o, b ≠ X.env.locals → b ∈ X.fs → b ∉ ch → s.heap.get? b = some o → H b = none → ∃ sl, h'.get? b = some { o with slots := sl }) (free : ∀ b o, b ∉ ch → s.heap.get? b = some o → H b = none → H' b = none)
    (there : ∀ b o, b ∉ ch → s.heap.get? b = some o → ∃ o', h'.get? b = some o')
    (tups : ∀ b xs, H b = some (.tup xs) → H' b = some (.tup xs)) (frzs : ∀ b o u, H b = some (.frz o u) → H' b = some (.frz o u)) (tbls : ∀ b ps, H b = some (.tbl ps) → ∃ more, H' b = some (.tbl (ps ++ more)))
    (ns : ∀ m, s.heap.Ns X.env.locals m → h'.Ns X.env.locals m) (hok : HOk X.prog X.w H' h') (hg : AllBare g') :
    Inv X pins σ H' { s with heap := h', gens := g', drawn := d', toks := t' } := by
  have neL : ∀ b o, X.s₀.heap.get? b = some o → b ≠ X.env.locals := fun b o e => Nat.ne_of_lt (Nat.lt_of_lt_of_le (Heap.lt_size e) I.ok.above)
  have neC : ∀ b o, X.s₀.heap.get? b = some o → b ∉ X.ex → b ∉ ch := fun b o e hx hb => by
    rcases (hch b hb).1 with z | z
    · exact hx z
    · exact absurd (Nat.lt_of_lt_of_le (Heap.lt_size e) z) (Nat.lt_irrefl _)
  have cellK : ∀ x c, X.env.cells.lookup x = some c → ∀ v, s.heap.IsCell c v → h'.IsCell c v := fun x c e v ⟨o, ho, hd⟩ => by
    have nch : c ∉ ch := fun z => (hch c z).2.2.1 x c e rfl
    by_cases hc : c ∈ X.fs
    · obtain ⟨sl, q⟩ := slot c o (I.cne x c e) hc nch ho (I.freeC x c e)
      exact ⟨_, q, hd⟩
    · exact ⟨o, keep c o (I.cne x c e) hc nch ho (I.freeC x c e), hd⟩
  refine ⟨I.ok, I.os, hg, ⟨fun b o e n hb hx => ?_, fun b o e n hb hx => ?_, fun b o e n hx => ?_, fun b o e hx => ?_, fun b xs e => tups b xs (I.base.tups b xs e), fun b o xs e => frzs b o xs (I.base.frzs b o xs e), fun b ps e => ?_⟩, ?_, fun x c e => ?_, ?_, fun x c e => ?_, fun p hp => ?_, hok, I.len⟩
  · exact keep b o (neL b o e) hb (neC b o e hx) (I.base.keep b o e n hb hx) (I.base.free b o e n hx)
  · obtain ⟨sl, e1⟩ := I.base.slot b o e n hb hx
    obtain ⟨sl', e2⟩ := slot b _ (neL b o e) hb (neC b o e hx) e1 (I.base.free b o e n hx)
    exact ⟨sl', e2⟩
  · obtain ⟨o', e1⟩ := I.base.there b o e hx
    exact free b o' (neC b o e hx) e1 (I.base.free b o e n hx)
  · obtain ⟨o', e1⟩ := I.base.there b o e hx
    exact there b o' (neC b o e hx) e1
  · obtain ⟨m1, e1⟩ := I.base.tbls b ps e
    obtain ⟨m2, e2⟩ := tbls b _ e1
    exact ⟨m1 ++ m2, by rw [e2, Array.append_assoc]⟩
  · obtain ⟨m, hn, hl⟩ := I.loc
    refine ⟨m, ns m hn, fun i x v e1 e2 e3 => ?_⟩
    obtain ⟨u, r, l⟩ := hl i x v e1 e2 e3
    refine ⟨u, r, ?_⟩
    rcases l with l | ⟨k, c, e, z⟩
    · exact .inl l
    · exact .inr ⟨k, c, e, cellK x c e _ z⟩
  · obtain ⟨v, z⟩ := I.cell x c e
    exact ⟨v, cellK x c e v z⟩
  · obtain ⟨m, ⟨o, _, _, ho, _⟩, _⟩ := I.loc
    exact free _ o (fun z => (hch _ z).2.1 rfl) ho I.free
  · obtain ⟨v, o, ho, hd⟩ := I.cell x c e
    exact free c o (fun z => (hch c z).2.2.1 x c e rfl) ho (I.freeC x c e)
  · obtain ⟨e, n, ne, nf, d⟩ := I.pin p hp
    have nch : p.1 ∉ ch := fun z => (hch p.1 z).2.2.2 p hp rfl
    exact ⟨keep p.1 p.2 ne nf nch e n, free p.1 p.2 nch e n, ne, nf, d⟩
/-- .. where the frame's own object is kept too -/
theorem Inv.un {t' : Nat} (I : Inv X pins σ H s) (u : Un X.fs [] H H' s.heap h') (hok : HOk X.prog X.w H' h') : Inv X pins σ H' { s with heap := h', toks := t' } := by
  obtain ⟨m, ⟨o, es, ep, ho, r⟩, _⟩ := id I.loc
  obtain ⟨sl, hL⟩ := u.any ho I.free (by simp)
  exact I.step (g' := s.gens) (d' := s.drawn) (ch := []) (fun _ z => nomatch z) (fun b o _ hb _ e n => u.keep b o e n hb (by simp)) (fun b o _ hb _ e n => u.slot b o e n hb (by simp)) (fun b o _ e n => u.free b o e n (by simp)) (fun b o _ e => u.there b o e (by simp)) u.tups u.frzs u.tbls (fun m' hm => by
    obtain ⟨o', es', ep', ho', r'⟩ := hm
    rw [ho] at ho'; cases ho'
    exact ⟨_, es', ep', hL, r'⟩) hok I.bare
/-- behind a call (or a comprehension's block): the slots of this frame may have changed too, the records at ch may have turned -/
theorem Inv.call {g' : Array GenState} {t' : Nat} {d' : Drawn} {ch : List Addr} (I : Inv X pins σ H s) (u : Un (frs X.stack) ch H H' s.heap h') (hok : HOk X.prog X.w H' h') (hg : AllBare g')
    (hch : ∀ b ∈ ch, (b ∈ X.ex ∨ X.s₀.heap.objs.size ≤ b) ∧ b ≠ X.env.locals ∧ (∀ x c, X.env.cells.lookup x = some c → c ≠ b) ∧ ∀ p ∈ X.pn ++ pins, p.1 ≠ b) :
    Inv X pins σ H' { s with heap := h', gens := g', drawn := d', toks := t' } := by
  obtain ⟨m, ⟨o, es, ep, ho, r⟩, _⟩ := id I.loc
  obtain ⟨sl, hL⟩ := u.any ho I.free fun z => (hch _ z).2.1 rfl
  exact I.step (ch := ch) hch (fun b o hL hb hc e n => u.keep b o e n (fun z => (List.mem_cons.mp (I.stkSub b z)).elim hL hb) hc) (fun b o _ _ hc e n => u.any e n hc) (fun b o hc e n => u.free b o e n hc) (fun b o hc e => u.there b o e hc) u.tups u.frzs u.tbls (fun m' hm => by
    obtain ⟨o', es', ep', ho', r'⟩ := hm
    rw [ho] at ho'; cases ho'
    exact ⟨_, es', ep', hL, r'⟩) hok hg
/-- an untracked record of ours (an iterator) has turned -/
theorem Inv.turned {t' : Nat} {it : Addr} (I : Inv X pins σ H s) (k : ∀ b o, b ≠ it → s.heap.get? b = some o → h'.get? b = some o) (hn : H it = none) (hL : it ≠ X.env.locals)
    (h1 : it ∈ X.ex ∨ X.s₀.heap.objs.size ≤ it) (h2 : ∀ x c, X.env.cells.lookup x = some c → c ≠ it) (h3 : ∀ p ∈ X.pn ++ pins, p.1 ≠ it) : Inv X pins σ H { s with heap := h', toks := t' } := by
  have nit : ∀ b u, H b = some u → b ≠ it := fun b u e z => by rw [z, hn] at e; cases e
  refine I.step (g' := s.gens) (d' := s.drawn) (ch := [it]) (fun b hb => ?_) (fun b o _ _ hc e _ => k b o (fun z => hc (by simp [z])) e) (fun b o _ _ hc e _ => ⟨o.slots, k b o (fun z => hc (by simp [z])) e⟩) (fun _ _ _ _ n => n)
    (fun b o hc e => ⟨o, k b o (fun z => hc (by simp [z])) e⟩) (fun _ _ e => e) (fun _ _ _ e => e) (fun b ps e => ⟨#[], by rw [e]; simp⟩) (fun m hm => ?_) (fun b u e => ?_) I.bare
  · have e : b = it := by simpa using hb
    subst e
    exact ⟨h1, hL, h2, h3⟩
  · obtain ⟨o, es, ep, ho, r⟩ := hm
    exact ⟨o, es, ep, k _ o (Ne.symm hL) ho, r⟩
  · refine (I.hok b u e).stay (fun c v hc q => k c v ?_ q) (fun _ q => q) fun _ _ q => q
    rcases hc with z | z
    · rw [z]; exact nit b u e
    · exact nit c _ z
theorem Inv.tok (I : Inv X pins σ H s) (t : Nat) : Inv X pins σ H { s with toks := t } := I.un (h' := s.heap) (t' := t) Un.refl I.hok
/-- all objects kept -/
theorem Inv.kept {t' : Nat} (I : Inv X pins σ H s) (k : ∀ b u, s.heap.get? b = some u → h'.get? b = some u) : Inv X pins σ H { s with heap := h', toks := t' } := I.un (Un.kept k) (I.hok.kept k)
/-- a new object laid and tracked -/
theorem Inv.laid {a : Addr} {o : HO} {t' : Nat} (I : Inv X pins σ H s) (k : ∀ b u, s.heap.get? b = some u → h'.get? b = some u) (hp : s.heap.objs.size ≤ a) (new : ObjOk X.prog X.w (upd H a o) h' a o) :
    Inv X pins σ (upd H a o) { s with heap := h', toks := t' } := I.un (Un.laid k hp (I.hok.fresh hp)) (I.hok.laid k hp new)
/-- an object written -/
theorem Inv.write {x e : Addr} {o : HO} {t' : Nat} (I : Inv X pins σ H s) (mu : Mut (H x)) (he : e = x ∨ H e = some (.own x)) (k : ∀ b u, b ≠ e → s.heap.get? b = some u → h'.get? b = some u) (heo : ∃ u, h'.get? e = some u)
    (new : ObjOk X.prog X.w (upd H x o) h' x o) : Inv X pins σ (upd H x o) { s with heap := h', toks := t' } := I.un (Un.write mu he k heo) (I.hok.write mu he k heo new)
theorem Inv.pins_of {pins' : List (Addr × Obj)} (I : Inv X pins σ H s) (h : ∀ p ∈ pins', s.heap.get? p.1 = some p.2 ∧ H p.1 = none ∧ p.1 ≠ X.env.locals ∧ p.1 ∉ X.fs ∧ ∀ v, p.2.data ≠ .cell v) : Inv X pins' σ H s :=
  ⟨I.ok, I.os, I.bare, I.base, I.loc, I.cell, I.free, I.freeC, fun p hp => (List.mem_append.mp hp).elim (fun z => I.pin p (List.mem_append_left _ z)) (h p), I.hok, I.len⟩

theorem nodup_ix {N : List Str} (hN : N.Nodup) {i j : Nat} {x : Str} (a : N[i]? = some x) (b : N[j]? = some x) : i = j := by
  obtain ⟨h1, e1⟩ := List.getElem?_eq_some_iff.mp a
  obtain ⟨h2, e2⟩ := List.getElem?_eq_some_iff.mp b
  exact (List.getElem_inj hN).mp (e1.trans e2.symm)

/-- a name is stored; what changed -/
theorem store_ok2 {M : Model} {A : Around} {E : Value → Shared → Prop} {i : Nat} {x : Str} {v : V} {u : Value} {Q : Unit → Shared → Prop} (I : Inv X pins σ H s) (hN : X.N.Nodup) (hi : X.N[i]? = some x) (hx : Loc X.env.scope x) (r : RelV v u)
    (h : ∀ s', Inv X pins (σ.set i (some v)) H s' → (∃ a, Heap.SameBut a s.heap s'.heap ∧ (a = X.env.locals ∨ X.env.cells.lookup x = some a)) → Q () s') (hf : X.fn x = true ∨ X.env.scope.names.lookup x = some .local := by first | exact .inl rfl | exact .inr rfl | assumption) : wpAny M A (storeName X.env x u) Q E s := by
  obtain ⟨m, hn, hl⟩ := id I.loc
  have hcls : (X.env.scope.kind == .class || (X.env.scope.kind == .module && X.env.locals != X.env.globals)) = false := by rw [I.ok.kind]; rfl
  have hiσ : i < σ.length := by rw [I.len]; exact (List.getElem?_eq_some_iff.mp hi).1
  have cne := I.cne
  have tracked : ∀ {a : Addr} {h' : Heap}, (∃ o, s.heap.get? a = some o ∧ H a = none) → Heap.SameBut a s.heap h' → HOk X.prog X.w H h' := fun {a h'} ha hs b ob e => by
    obtain ⟨_, _, hfree⟩ := ha
    refine (I.hok b ob e).stay (fun c w' hc q => (hs.2 c ?_).trans q) (fun _ q => q) fun _ _ q => q
    rintro rfl
    rcases hc with rfl | hc
    · rw [hfree] at e; cases e
    · rw [hfree] at hc; cases hc
  rcases hx with hk | hk
  · refine wpAny_storeName_local hk hn (fun h' hn' hs => ?_) hcls
    obtain ⟨oL, _, _, hoL, _⟩ := id hn
    refine h _ ⟨I.ok, I.os, I.bare, ⟨fun b o e n hb hx => ?_, fun b o e n hb hx => ?_, I.base.free, fun b o e hx => ?_, I.base.tups, I.base.frzs, I.base.tbls⟩, ⟨_, hn', fun j y v' e1 e2 e3 => ?_⟩, fun y c e => ?_, I.free, I.freeC, fun p hp => ?_, tracked ⟨oL, hoL, I.free⟩ hs, by simpa using I.len⟩ ⟨_, hs, .inl rfl⟩
    · exact (hs.2 b (Nat.ne_of_lt (Nat.lt_of_lt_of_le (Heap.lt_size e) I.ok.above))).trans (I.base.keep b o e n hb hx)
    · obtain ⟨sl, e1⟩ := I.base.slot b o e n hb hx
      exact ⟨sl, (hs.2 b (Nat.ne_of_lt (Nat.lt_of_lt_of_le (Heap.lt_size e) I.ok.above))).trans e1⟩
    · obtain ⟨o', e1⟩ := I.base.there b o e hx
      exact ⟨o', (hs.2 b (Nat.ne_of_lt (Nat.lt_of_lt_of_le (Heap.lt_size e) I.ok.above))).trans e1⟩
    · by_cases hj : j = i
      · subst hj
        rw [hi] at e1; cases e1
        rw [List.getElem?_set_self hiσ] at e2
        cases e2
        exact ⟨u, r, .inl ⟨hk, by simp⟩⟩
      · rw [List.getElem?_set_ne (Ne.symm hj)] at e2
        obtain ⟨u', r', q⟩ := hl j y v' e1 e2 e3
        refine ⟨u', r', ?_⟩
        rcases q with ⟨k, e⟩ | ⟨k, c, e, z⟩
        · refine .inl ⟨k, ?_⟩
          have : y ≠ x := fun e => hj (nodup_ix hN e1 (e ▸ hi))
          simp [this, e]
        · exact .inr ⟨k, c, e, z.sameBut hs (cne y c e)⟩
    · obtain ⟨w', z⟩ := I.cell y c e
      exact ⟨w', z.sameBut hs (cne y c e)⟩
    · obtain ⟨e, n, ne, nf, d⟩ := I.pin p hp
      exact ⟨(hs.2 p.1 ne).trans e, n, ne, nf, d⟩
  · have hfn : X.fn x = true := by
      rcases hf with z | z
      · exact z
      · rw [z] at hk; cases hk
    obtain ⟨c, hc⟩ := I.ok.has x (.inl hk)
    obtain ⟨w', z⟩ := I.cell x c hc
    refine wpAny_storeName_cell I.ok.kind hk hc z (fun h' hc' hs => ?_)
    obtain ⟨oc, hoc, hocd⟩ := id z
    refine h { s with heap := h' } ⟨I.ok, I.os, I.bare, ⟨fun b o e n hb hx => ?_, fun b o e n hb hx => ?_, I.base.free, fun b o e hx => ?_, I.base.tups, I.base.frzs, I.base.tbls⟩, ⟨m, hn.sameBut hs (Ne.symm (cne x c hc)), fun j y v' e1 e2 e3 => ?_⟩, fun y c' e => ?_, I.free, I.freeC, fun p hp => ?_, tracked ⟨oc, hoc, I.freeC x c hc⟩ hs, by simpa using I.len⟩ ⟨c, hs, .inr hc⟩
    · exact (hs.2 b (Nat.ne_of_lt (Nat.lt_of_lt_of_le (Heap.lt_size e) (I.ok.cab x c hfn hc)))).trans (I.base.keep b o e n hb hx)
    · obtain ⟨sl, e1⟩ := I.base.slot b o e n hb hx
      exact ⟨sl, (hs.2 b (Nat.ne_of_lt (Nat.lt_of_lt_of_le (Heap.lt_size e) (I.ok.cab x c hfn hc)))).trans e1⟩
    · obtain ⟨o', e1⟩ := I.base.there b o e hx
      exact ⟨o', (hs.2 b (Nat.ne_of_lt (Nat.lt_of_lt_of_le (Heap.lt_size e) (I.ok.cab x c hfn hc)))).trans e1⟩
    · by_cases hj : j = i
      · subst hj
        rw [hi] at e1; cases e1
        rw [List.getElem?_set_self hiσ] at e2
        cases e2
        exact ⟨u, r, .inr ⟨.inl hk, c, hc, hc'⟩⟩
      · rw [List.getElem?_set_ne (Ne.symm hj)] at e2
        obtain ⟨u', r', q⟩ := hl j y v' e1 e2 e3
        refine ⟨u', r', ?_⟩
        rcases q with q | ⟨k, c', e, z'⟩
        · exact .inl q
        · refine .inr ⟨k, c', e, z'.sameBut hs ?_⟩
          rintro rfl
          exact hj (nodup_ix hN e1 (I.ok.inj _ _ _ e hc ▸ hi))
    · by_cases hcc : c' = c
      · subst hcc; exact ⟨_, hc'⟩
      · obtain ⟨w2, z2⟩ := I.cell y c' e
        exact ⟨w2, z2.sameBut hs hcc⟩
    · obtain ⟨e, n, ne, nf, d⟩ := I.pin p hp
      refine ⟨(hs.2 p.1 ?_).trans e, n, ne, nf, d⟩
      intro q
      rw [q, hoc] at e
      have q' : oc = p.2 := Option.some.inj e
      exact d w' (by rw [← q']; exact hocd)
theorem store_ok {M : Model} {A : Around} {E : Value → Shared → Prop} {i : Nat} {x : Str} {v : V} {u : Value} {Q : Unit → Shared → Prop} (I : Inv X pins σ H s) (hN : X.N.Nodup) (hi : X.N[i]? = some x) (hx : Loc X.env.scope x) (r : RelV v u)
    (h : ∀ s', Inv X pins (σ.set i (some v)) H s' → Q () s') (hf : X.fn x = true ∨ X.env.scope.names.lookup x = some .local := by first | exact .inl rfl | exact .inr rfl | assumption) : wpAny M A (storeName X.env x u) Q E s :=
  store_ok2 I hN hi hx r (fun s' I' _ => h s' I') hf
/-- behind a call or a block, the state as it is -/
theorem Inv.call' {s' : Shared} {ch : List Addr} (I : Inv X pins σ H s) (ho : s'.os = s.os) (u : Un (frs X.stack) ch H H' s.heap s'.heap) (hok : HOk X.prog X.w H' s'.heap) (hg : AllBare s'.gens)
    (hch : ∀ b ∈ ch, (b ∈ X.ex ∨ X.s₀.heap.objs.size ≤ b) ∧ b ≠ X.env.locals ∧ (∀ x c, X.env.cells.lookup x = some c → c ≠ b) ∧ ∀ p ∈ X.pn ++ pins, p.1 ≠ b) : Inv X pins σ H' s' := by
  obtain ⟨h', g', d', t', o'⟩ := s'
  have e : o' = s.os := ho
  subst e
  exact I.call (g' := g') (t' := t') (d' := d') u hok hg hch
end

/-! ### the judgements -/
/-- an exception: its class, its own dict's address (where it has one), the abstract heap behind it -/
abbrev XK := Value → Option Addr → Hp → Prop
abbrev St := List (Option V)
abbrev VK := V → Hp → Prop
/-- an expression's reading; a test's; an argument list's -/
abbrev TE := St → Hp → VK → Prop
abbrev TT := St → Hp → (Bool → Hp → Prop) → Prop
abbrev TA := St → Hp → (List V → Hp → Prop) → Prop
/-- what is wanted behind a statement -/
structure Ends where
  nx : St → Hp → Prop
  rt : VK
  bk : St → Hp → Prop := fun _ _ => False
  ct : St → Hp → Prop := fun _ _ => False
abbrev TS := Ends → St → Hp → Prop

def EP (X : Cx) (pins : List (Addr × Obj)) (σ : St) (Q : VK) (u : Value) (s' : Shared) : Prop := ∃ v H', Inv X pins σ H' s' ∧ RelV v u ∧ Q v H'
def TP (X : Cx) (pins : List (Addr × Obj)) (σ : St) (Q : Bool → Hp → Prop) (b : Bool) (s' : Shared) : Prop := ∃ H', Inv X pins σ H' s' ∧ Q b H'
def AP (X : Cx) (pins : List (Addr × Obj)) (σ : St) (Q : List V → Hp → Prop) (us : List Value) (s' : Shared) : Prop := ∃ vs H', Inv X pins σ H' s' ∧ Vals vs us ∧ Q vs H'
def SP (X : Cx) (pins : List (Addr × Obj)) (D : Ends) (f : Flow) (s' : Shared) : Prop :=
  match f with
  | .next => ∃ σ' H', Inv X pins σ' H' s' ∧ D.nx σ' H'
  | .brk => ∃ σ' H', Inv X pins σ' H' s' ∧ D.bk σ' H'
  | .cont => ∃ σ' H', Inv X pins σ' H' s' ∧ D.ct σ' H'
  | .ret u => ∃ v σ' H', Inv X pins σ' H' s' ∧ RelV v u ∧ D.rt v H'

def PE (X : Cx) (e : Expr) (t : TE) : Prop :=
  ∀ (pins : List (Addr × Obj)) (s : Shared) (σ : St) (H : Hp) (Q : VK), Inv X pins σ H s → t σ H Q → wpAny (model X.prog X.w) X.A (eval e X.env) (EP X pins σ Q) X.xe s
def PT (X : Cx) (e : Expr) (t : TT) : Prop :=
  ∀ (pins : List (Addr × Obj)) (s : Shared) (σ : St) (H : Hp) (Q : Bool → Hp → Prop), Inv X pins σ H s → t σ H Q → wpAny (model X.prog X.w) X.A (isTrue e X.env (eval e X.env)) (TP X pins σ Q) X.xe s
/-- a test whatever its 'whole' is (and, or) -/
def PW (X : Cx) (e : Expr) (t : TT) : Prop :=
  ∀ (whole : Sem Value) (pins : List (Addr × Obj)) (s : Shared) (σ : St) (H : Hp) (Q : Bool → Hp → Prop), Inv X pins σ H s → t σ H Q → wpAny (model X.prog X.w) X.A (isTrue e X.env whole) (TP X pins σ Q) X.xe s
theorem PW.pt {X : Cx} {e : Expr} {t : TT} (h : PW X e t) : PT X e t := h _
/-- an argument list (no star), from the left -/
def PA (X : Cx) (es : List Expr) (t : TA) : Prop :=
  ∀ (pos : Pos) (pins : List (Addr × Obj)) (s : Shared) (σ : St) (H : Hp) (Q : List V → Hp → Prop), Inv X pins σ H s → t σ H Q → wpAny (model X.prog X.w) X.A (spliced (backTo pos (starEach es X.env))) (AP X pins σ Q) X.xe s
def PS (X : Cx) (st : Stmt) (t : TS) : Prop :=
  ∀ (pins : List (Addr × Obj)) (s : Shared) (σ : St) (H : Hp) (D : Ends), Inv X pins σ H s → t D σ H → wpAny (model X.prog X.w) X.A (exec st X.env) (SP X pins D) X.xe s
def PSs (X : Cx) (st : List Stmt) (t : TS) : Prop :=
  ∀ (pins : List (Addr × Obj)) (s : Shared) (σ : St) (H : Hp) (D : Ends), Inv X pins σ H s → t D σ H → wpAny (model X.prog X.w) X.A (execs st X.env) (SP X pins D) X.xe s
/-- weaken the end -/
theorem thn {α : Type} {t : Sem α} {Q Q' : α → Shared → Prop} {M : Model} {A : Around} {E : Value → Shared → Prop} {s : Shared} (h : wpAny M A t Q E s) (hQ : ∀ a s, Q a s → Q' a s) : wpAny M A t Q' E s := wpAny_mono h hQ fun _ _ x => x
end L2

namespace L2
open PySem PySem.Spec PyProof.Rows
section
variable {X : Cx}

/-! ### names and constants -/
def tVar (i : Nat) : TE := fun σ H Q => ∃ v, σ[i]? = some (some v) ∧ Q v H
def tC (v : V) : TE := fun _ H Q => Q v H
theorem pe_var {i : Nat} {x : Str} {pos : Pos} (hN : X.N[i]? = some x) (hv : Vis X.env.scope x) (hd : (x == ("__debug__" : Str)) = false := by decide) (hcd : (x == ("__classdict__" : Str)) = false := by decide) : PE X (.Name x pos) (tVar i) := by
  intro pins s σ H Q I h
  obtain ⟨v, e, h⟩ := h
  obtain ⟨m, hn, hl⟩ := I.loc
  obtain ⟨u, r, l⟩ := hl i x v hN e hv
  have fin : EP X pins σ Q u s := ⟨v, H, I, r, h⟩
  rcases l with ⟨hk, hm⟩ | ⟨hk, c, hc, hcell⟩
  · exact wpAny_Name (wpAny_loadName_local I.ok.kind hk hn hm fin) hd
  · rcases hk with hk | hk
    · exact wpAny_Name (wpAny_loadName_cell I.ok.kind hk hc hcell fin) hd
    · exact wpAny_Name (wpAny_loadName_free I.ok.kind hk hc hcell fin hcd) hd
theorem pe_int {i j pos} : PE X (.Constant (.int i) j pos) (tC (.int i)) := fun _ _ _ H _ I h => wpAny_Constant_int ⟨.int i, H, I.tok _, ⟨_, rfl⟩, h⟩
theorem pe_bl {b j pos} : PE X (.Constant (.bool b) j pos) (tC (.bl b)) := fun _ _ _ H _ I h => Constant_bool ⟨.bl b, H, I, rfl, h⟩
theorem pe_non {j pos} : PE X (.Constant .none j pos) (tC .non) := fun _ _ _ H _ I h => Constant_none ⟨.non, H, I, rfl, h⟩
theorem pe_str {x j pos} : PE X (.Constant (.str x) j pos) (tC (.str x)) := fun _ _ _ H _ I h => Calls.Constant_str ⟨.str x, H, I.tok _, ⟨_, rfl⟩, h⟩

/-- a global name of the def -/
def Gl (X : Cx) (x : Str) : Prop := X.env.kindOf x = some .globalImplicit
theorem ld_glob {E : Value → Shared → Prop} {pins : List (Addr × Obj)} {s : Shared} {σ : St} {H : Hp} {x : Str} {u : Value} {pos : Pos} {Q : Value → Shared → Prop} (I : Inv X pins σ H s) (hg : Gl X x) (hm : X.mg x = some u) (h : Q u s)
    (hd : (x == ("__debug__" : Str)) = false := by decide) : wpAny (model X.prog X.w) X.A (eval (.Name x pos) X.env) Q E s :=
  Calls.Name_function_global I.ok.kind hg (Calls.loadGlobal_global (by rw [I.ok.glob]; exact I.mod.glob.keeps I.bk) hm h) hd
theorem ld_blt {E : Value → Shared → Prop} {pins : List (Addr × Obj)} {s : Shared} {σ : St} {H : Hp} {x : Str} {u : Value} {pos : Pos} {Q : Value → Shared → Prop} (I : Inv X pins σ H s) (hg : Gl X x) (hm : X.mg x = none) (hv : bootBuiltins x = some u) (h : Q u s)
    (hn : x ≠ "__name__" := by decide) (hd : (x == ("__debug__" : Str)) = false := by decide) : wpAny (model X.prog X.w) X.A (eval (.Name x pos) X.env) Q E s := by
  obtain ⟨mb, h1, h2⟩ := I.mod.blt
  exact Calls.Name_function_global I.ok.kind hg (Calls.loadGlobal_builtin (by rw [I.ok.glob]; exact I.mod.glob.keeps I.bk) hm (by rw [I.ok.blt]; exact h1.keeps I.bk) ((h2 x hn).trans hv) h) hd
/-- a module's constant, a class, a function, as a value -/
theorem pe_glob {x : Str} {v : V} {u : Value} {pos : Pos} (hg : Gl X x) (hm : X.mg x = some u) (r : RelV v u) (hd : (x == ("__debug__" : Str)) = false := by decide) : PE X (.Name x pos) (tC v) :=
  fun _ _ _ H _ I h => ld_glob I hg hm ⟨v, H, I, r, h⟩ hd
theorem pe_bltn {x : Str} {v : V} {u : Value} {pos : Pos} (hg : Gl X x) (hm : X.mg x = none) (hv : bootBuiltins x = some u) (r : RelV v u) (hn : x ≠ "__name__" := by decide) (hd : (x == ("__debug__" : Str)) = false := by decide) : PE X (.Name x pos) (tC v) :=
  fun _ _ _ H _ I h => ld_blt I hg hm hv ⟨v, H, I, r, h⟩ hn hd

/-! ### arithmetic -/
/-- two ints -/
def t2I (ta tb : TE) (k : Int → Int → Hp → Prop) : St → Hp → Prop := fun σ H => ta σ H fun x H1 => tb σ H1 fun y H2 => ∃ i j, x = .int i ∧ y = .int j ∧ k i j H2
def tAdd (ta tb : TE) : TE := fun σ H Q => t2I ta tb (fun i j H2 => Q (.int (i + j)) H2) σ H
def tSub (ta tb : TE) : TE := fun σ H Q => t2I ta tb (fun i j H2 => Q (.int (i - j)) H2) σ H
/-- the left factor below 2^64 -/
def tMul (ta tb : TE) : TE := fun σ H Q => t2I ta tb (fun i j H2 => (-(2 ^ 64) < i ∧ i < 2 ^ 64) ∧ Q (.int (i * j)) H2) σ H
variable {a b : Expr} {ta tb : TE} {pos : Pos}
/-! ### comparisons -/
def PC (X : Cx) (op : CmpOp) (a b : Expr) (t : TE) : Prop :=
  ∀ (pins : List (Addr × Obj)) (s : Shared) (σ : St) (H : Hp) (Q : VK), Inv X pins σ H s → t σ H Q →
    wpAny (model X.prog X.w) X.A (eval a X.env) (fun v s₁ => wpAny (model X.prog X.w) X.A (eval b X.env) (fun u s₂ => wpAny (model X.prog X.w) X.A (compareOp op v u) (EP X pins σ Q) X.xe s₂) X.xe s₁) X.xe s
def tCmp (p : Int → Int → Bool) (ta tb : TE) : TE := fun σ H Q => t2I ta tb (fun i j H2 => Q (.bl (p i j)) H2) σ H
abbrev tLt : TE → TE → TE := tCmp fun i j => decide (i < j)
abbrev tLe : TE → TE → TE := tCmp fun i j => decide (i ≤ j)
abbrev tGt : TE → TE → TE := tCmp fun i j => decide (j < i)
abbrev tGe : TE → TE → TE := tCmp fun i j => decide (j ≤ i)
abbrev tEqI : TE → TE → TE := tCmp fun i j => decide (i = j)
abbrev tNeI : TE → TE → TE := tCmp fun i j => !decide (i = j)
/-- is None -/
def tIsN (ta : TE) : TE := fun σ H Q => ta σ H fun x H1 => Q (.bl (decide (x = .non))) H1
def tNotN (ta : TE) : TE := fun σ H Q => ta σ H fun x H1 => Q (.bl (!decide (x = .non))) H1
/-- a comparison as a value, as a test -/
def tB (t : TE) : TT := fun σ H Q => t σ H fun x H1 => ∃ c, x = .bl c ∧ Q c H1
/-! ### and, or, not -/
variable {tA tB' : TT} {rest : List Expr}
def tAnd (t u : TT) : TT := fun σ H Q => t σ H fun c H1 => if c = true then u σ H1 Q else Q false H1
def tOr (t u : TT) : TT := fun σ H Q => t σ H fun c H1 => if c = true then Q true H1 else u σ H1 Q
def tNot (t : TT) : TT := fun σ H Q => t σ H fun c H1 => Q (!c) H1
theorem pw_and1 (ha : PT X a tA) : PW X (.BoolOp .And [a] pos) tA := by
  intro wh pins s σ H Q I h
  refine isTrue_and (thn (ha pins s σ H Q I h) fun c s1 e => ?_)
  cases c with
  | true => exact isTrue_and_nil e
  | false => exact e
theorem pw_or1 (ha : PT X a tA) : PW X (.BoolOp .Or [a] pos) tA := by
  intro wh pins s σ H Q I h
  refine isTrue_or (thn (ha pins s σ H Q I h) fun c s1 e => ?_)
  cases c with
  | false => exact isTrue_or_nil e
  | true => exact e
theorem pw_and (ha : PT X a tA) (hb : PW X (.BoolOp .And (b :: rest) pos) tB') : PW X (.BoolOp .And (a :: b :: rest) pos) (tAnd tA tB') := by
  intro wh pins s σ H Q I h
  refine isTrue_and (thn (ha pins s σ H _ I h) fun c s1 ⟨H1, I1, q1⟩ => ?_)
  cases c with
  | true => exact hb wh pins s1 σ H1 Q I1 q1
  | false => exact ⟨H1, I1, q1⟩
theorem pw_or (ha : PT X a tA) (hb : PW X (.BoolOp .Or (b :: rest) pos) tB') : PW X (.BoolOp .Or (a :: b :: rest) pos) (tOr tA tB') := by
  intro wh pins s σ H Q I h
  refine isTrue_or (thn (ha pins s σ H _ I h) fun c s1 ⟨H1, I1, q1⟩ => ?_)
  cases c with
  | true => exact ⟨H1, I1, q1⟩
  | false => exact hb wh pins s1 σ H1 Q I1 q1
theorem pt_not (ha : PT X a tA) : PT X (.UnaryOp .Not a pos) (tNot tA) := by
  intro pins s σ H Q I h
  exact isTrue_not (ha pins s σ H (fun c H1 => Q (!c) H1) I h)
/-- .. as values (bools) -/
def tAndV (ta tb : TE) : TE := fun σ H Q => ta σ H fun x H1 => ∃ c, x = .bl c ∧ if c = true then tb σ H1 Q else Q (.bl false) H1
def tOrV (ta tb : TE) : TE := fun σ H Q => ta σ H fun x H1 => ∃ c, x = .bl c ∧ if c = true then Q (.bl true) H1 else tb σ H1 Q
def tNotV (ta : TE) : TE := fun σ H Q => ta σ H fun x H1 => ∃ c, x = .bl c ∧ Q (.bl (!c)) H1
theorem pe_one {op} {t : TE} (h : PE X a t) : PE X (.BoolOp op [a] pos) t := fun pins s σ H Q I hw => BoolOp_one (h pins s σ H Q I hw)
theorem pe_and (ha : PE X a ta) (hb : PE X (.BoolOp .And (b :: rest) pos) tb) : PE X (.BoolOp .And (a :: b :: rest) pos) (tAndV ta tb) := by
  intro pins s σ H Q I h
  refine BoolOp_and (thn (ha pins s σ H _ I h) fun v s1 ⟨x, H1, I1, r1, q1⟩ => ?_)
  obtain ⟨c, rfl, q1⟩ := q1
  cases r1
  refine wpAny_truthy_bool ?_
  cases c with
  | true => exact hb pins s1 σ H1 Q I1 q1
  | false => exact ⟨.bl false, H1, I1, rfl, q1⟩
theorem pe_or (ha : PE X a ta) (hb : PE X (.BoolOp .Or (b :: rest) pos) tb) : PE X (.BoolOp .Or (a :: b :: rest) pos) (tOrV ta tb) := by
  intro pins s σ H Q I h
  refine BoolOp_or (thn (ha pins s σ H _ I h) fun v s1 ⟨x, H1, I1, r1, q1⟩ => ?_)
  obtain ⟨c, rfl, q1⟩ := q1
  cases r1
  refine wpAny_truthy_bool ?_
  cases c with
  | false => exact hb pins s1 σ H1 Q I1 q1
  | true => exact ⟨.bl true, H1, I1, rfl, q1⟩
theorem pe_not (ha : PE X a ta) : PE X (.UnaryOp .Not a pos) (tNotV ta) := by
  intro pins s σ H Q I h
  refine UnaryOp_ (thn (ha pins s σ H _ I h) fun v s1 ⟨x, H1, I1, r1, q1⟩ => ?_)
  obtain ⟨c, rfl, q1⟩ := q1
  cases r1
  exact not_of (wpAny_truthy_bool ⟨.bl (!c), H1, I1, rfl, q1⟩)
/-- a if t else b -/
def tIf (t : TT) (ta tb : TE) : TE := fun σ H Q => t σ H fun c H1 => if c = true then ta σ H1 Q else tb σ H1 Q
end
end L2

namespace L2
open PySem PySem.Spec PyProof.Rows

/-! ### a list, a tuple that is read: tracked, frozen, or an object of the module -/
def SqL (K : PySem.W.Frag) (H : Hp) (a : Addr) (xs : List V) : Prop :=
  Rd H a (.lst xs) ∨
    ∃ (o : Obj) (its : Array Value) (n : Nat), K.lookup a = some o ∧ o.cls = .type "list" ∧ o.dict = none ∧ o.data = .seq its n ∧ its.size ≤ sizeLine ∧ Vals xs its.toList
def SqT (K : PySem.W.Frag) (H : Hp) (a : Addr) (xs : List V) : Prop :=
  Rd H a (.tup xs) ∨
    ∃ (o : Obj) (its : Array Value) (n : Nat), K.lookup a = some o ∧ o.cls = .type "tuple" ∧ o.data = .seq its n ∧ its.size ≤ sizeLine ∧ Vals xs its.toList
def absV : Value → Option V
  | .none => some .non
  | .bool b => some (.bl b)
  | .int i _ => some (.int i)
  | .str x _ => some (.str x)
  | .bytes b _ => some (.byt b)
  | .float b _ => some (.flt b)
  | .ref a => some (.ref a)
  | .type n => some (.ty n)
  | _ => none
theorem RelV.abs {x : V} {u : Value} (r : RelV x u) : absV u = some x := by
  cases x with
  | non => cases r; rfl
  | bl _ => cases r; rfl
  | int _ => obtain ⟨t, rfl⟩ := r; rfl
  | str _ => obtain ⟨t, rfl⟩ := r; rfl
  | byt _ => obtain ⟨t, rfl⟩ := r; rfl
  | flt _ => obtain ⟨t, rfl⟩ := r; rfl
  | ref _ => cases r; rfl
  | ty _ => cases r; rfl
theorem RelV.inj {x y : V} {u : Value} (r : RelV x u) (q : RelV y u) : x = y := Option.some.inj (r.abs.symm.trans q.abs)
theorem Vals.inj : ∀ {xs ys : List V} {us : List Value}, Vals xs us → Vals ys us → xs = ys
  | _, _, _, .nil, .nil => rfl
  | _, _, _, .cons r t, .cons r' t' => by rw [r.inj r', Vals.inj t t']
section
variable {X : Cx} {pins : List (Addr × Obj)} {σ : St} {H : Hp} {s : Shared} {a : Addr} {xs ys : List V}
theorem SqL.of {K : PySem.W.Frag} (h : H a = some (.lst xs)) : SqL K H a xs := .inl (.inl h)
theorem SqT.of {K : PySem.W.Frag} (h : H a = some (.tup xs)) : SqT K H a xs := .inl (.inl h)
theorem Inv.list (I : Inv X pins σ H s) (h : SqL X.K H a xs) : ∃ its : List Value, Vals xs its ∧ PlainL s.heap a its.toArray ∧ xs.length ≤ sizeLine := by
  rcases h with h | ⟨o, its, n, hk, hc, hd, hs, hz, r⟩
  · obtain ⟨z, its, n, r, e⟩ := h.ok I.hok
    exact ⟨its, r, ⟨_, n, e, rfl, rfl, rfl⟩, z⟩
  · refine ⟨its.toList, r, ⟨o, n, I.kIn a o hk, hc, hd, by simpa using hs⟩, ?_⟩
    have e := r.length
    simp only [Array.length_toList] at e
    omega
theorem Inv.tuple (I : Inv X pins σ H s) (h : SqT X.K H a xs) : ∃ its : List Value, Vals xs its ∧ IsTup s.heap a its.toArray ∧ xs.length ≤ sizeLine := by
  rcases h with h | ⟨o, its, n, hk, hc, hs, hz, r⟩
  · obtain ⟨z, its, r, p⟩ := h.ok I.hok
    exact ⟨its, r, p, z⟩
  · refine ⟨its.toList, r, ⟨o, I.kIn a o hk, hc, n, by simpa using hs⟩, ?_⟩
    have e := r.length
    simp only [Array.length_toList] at e
    omega
theorem Inv.list_inj (I : Inv X pins σ H s) (h : SqL X.K H a xs) (h' : SqL X.K H a ys) : xs = ys := by
  obtain ⟨its, r, ⟨o, n, e, _, _, d⟩, _⟩ := I.list h
  obtain ⟨its', r', ⟨o', n', e', _, _, d'⟩, _⟩ := I.list h'
  rw [e] at e'; cases e'
  rw [d] at d'
  injection d' with d1 _
  have : its = its' := by simpa using congrArg Array.toList d1
  subst this
  exact r.inj r'
theorem Inv.tuple_inj (I : Inv X pins σ H s) (h : SqT X.K H a xs) (h' : SqT X.K H a ys) : xs = ys := by
  obtain ⟨its, r, ⟨o, e, _, n, d⟩, _⟩ := I.tuple h
  obtain ⟨its', r', ⟨o', e', _, n', d'⟩, _⟩ := I.tuple h'
  rw [e] at e'; cases e'
  rw [d] at d'
  injection d' with d1 _
  have : its = its' := by simpa using congrArg Array.toList d1
  subst this
  exact r.inj r'
end

/-! ### another wish about exceptions -/
abbrev Cx.wish (X : Cx) (E : Value → Shared → Prop) : Cx := { X with xe := E }
/-- no exception leaves -/
abbrev Cx.nox (X : Cx) : Cx := X.wish fun _ _ => False
theorem Cx.Ok.wish {X : Cx} (ok : X.Ok) (E : Value → Shared → Prop) : (X.wish E).Ok :=
  ⟨ok.mod, ok.kind, ok.glob, ok.blt, ok.above, ok.inj, ok.has, ok.cab, ok.hd, ok.frames, ok.stk, ok.exf, ok.bs, ok.bsz, ok.noex, ok.exfs, ok.funs, ok.frf⟩
theorem Cx.Ok.unwish {X : Cx} {E : Value → Shared → Prop} (ok : (X.wish E).Ok) : X.Ok :=
  ⟨ok.mod, ok.kind, ok.glob, ok.blt, ok.above, ok.inj, ok.has, ok.cab, ok.hd, ok.frames, ok.stk, ok.exf, ok.bs, ok.bsz, ok.noex, ok.exfs, ok.funs, ok.frf⟩
section
variable {X : Cx} {pins : List (Addr × Obj)} {σ : St} {H : Hp} {s : Shared} {E : Value → Shared → Prop}
theorem Inv.wish (I : Inv X pins σ H s) (E : Value → Shared → Prop) : Inv (X.wish E) pins σ H s := ⟨I.ok.wish E, I.os, I.bare, I.base, I.loc, I.cell, I.free, I.freeC, I.pin, I.hok, I.len⟩
theorem Inv.unwish (I : Inv (X.wish E) pins σ H s) : Inv X pins σ H s := ⟨I.ok.unwish, I.os, I.bare, I.base, I.loc, I.cell, I.free, I.freeC, I.pin, I.hok, I.len⟩
theorem SP.unwish {D : Ends} {f : Flow} {s' : Shared} (h : SP (X.wish E) pins D f s') : SP X pins D f s' := by
  cases f with
  | next => obtain ⟨σ', H', I, q⟩ := h; exact ⟨σ', H', I.unwish, q⟩
  | brk => obtain ⟨σ', H', I, q⟩ := h; exact ⟨σ', H', I.unwish, q⟩
  | cont => obtain ⟨σ', H', I, q⟩ := h; exact ⟨σ', H', I.unwish, q⟩
  | ret u => obtain ⟨v, σ', H', I, r, q⟩ := h; exact ⟨v, σ', H', I.unwish, r, q⟩
theorem PSs.nox {st : List Stmt} {t : TS} (h : PSs X.nox st t) : PSs X st t := fun pins s σ H D I hw =>
  wpAny_mono (h pins s σ H D (I.wish _) hw) (fun _ _ q => q.unwish) fun _ _ z => False.elim z
end

/-! ### blocks and small statements -/
section
variable {X : Cx} {st : Stmt} {rest : List Stmt} {t u : TS} {e : Expr} {te : TE} {pos : Pos}
def tNext : TS := fun D σ H => D.nx σ H
def tSeq (t u : TS) : TS := fun D σ H => t { D with nx := u D } σ H
theorem pss_nil : PSs X [] tNext := fun _ _ σ H _ I h => wpAny_execs_nil ⟨σ, H, I, h⟩
theorem pss_cons (h1 : PS X st t) (h2 : PSs X rest u) : PSs X (st :: rest) (tSeq t u) := by
  intro pins s σ H D I h
  refine wpAny_execs_cons (thn (h1 pins s σ H { D with nx := u D } I h) fun f s1 q => ?_)
  cases f with
  | next =>
    obtain ⟨σ', H', I', q⟩ := q
    exact h2 pins s1 σ' H' D I' q
  | ret v => exact q
  | brk => exact q
  | cont => exact q
theorem pss_one (h1 : PS X st t) : PSs X [st] t := by
  intro pins s σ H D I h
  refine wpAny_execs_cons (thn (h1 pins s σ H D I h) fun f s1 q => ?_)
  cases f with
  | next => exact wpAny_execs_nil q
  | ret v => exact q
  | brk => exact q
  | cont => exact q
def tBreak : TS := fun D σ H => D.bk σ H
def tCont : TS := fun D σ H => D.ct σ H
/-- in a def's body nothing is shown -/
theorem Inv.quiet {pins : List (Addr × Obj)} {σ : St} {H : Hp} {s : Shared} (I : Inv X pins σ H s) : interactive X.env = false := by simp [interactive, I.ok.kind]
/-- an expression whose value is dropped -/
def tDrop (te : TE) : TS := fun D σ H => te σ H fun _ H1 => D.nx σ H1
theorem ps_expr (he : PE X e te) (hs : swapsWith e none pos.line X.env = pure false := by rfl) : PS X (.Expr e pos) (tDrop te) := by
  intro pins s σ H D I h
  exact wpAny_Expr_any (thn (he pins s σ H _ I h) fun v s1 ⟨x, H1, I1, r1, q1⟩ => ⟨σ, H1, I1, q1⟩) I.quiet hs
def tRet (te : TE) : TS := fun D σ H => te σ H D.rt
theorem ps_ret (he : PE X e te) : PS X (.Return (some e) pos) (tRet te) := by
  intro pins s σ H D I h
  exact wpAny_Return_some (thn (he pins s σ H _ I h) fun v s1 ⟨x, H1, I1, r1, q1⟩ => ⟨x, σ, H1, I1, r1, q1⟩)
def tRetN : TS := fun D _ H => D.rt .non H
def tIfS (c : TT) (t u : TS) : TS := fun D σ H => c σ H fun b H1 => if b = true then t D σ H1 else u D σ H1
theorem ps_if {c : Expr} {a b : List Stmt} {tc : TT} (hc : PT X c tc) (ha : PSs X a t) (hb : PSs X b u) : PS X (.If c a b pos) (tIfS tc t u) := by
  intro pins s σ H D I h
  refine wpAny_If (thn (hc pins s σ H _ I h) fun d s1 ⟨H1, I1, q1⟩ => ?_)
  cases d with
  | true => exact ha pins s1 σ H1 D I1 q1
  | false => exact hb pins s1 σ H1 D I1 q1
/-- code that the proof never comes to -/
def tNever : TS := fun _ _ _ => False
end

/-! ### targets -/
abbrev TG := V → St → Hp → (St → Hp → Prop) → Prop
abbrev TGs := List V → St → Hp → (St → Hp → Prop) → Prop
def PG (X : Cx) (target : Expr) (t : TG) : Prop :=
  ∀ (pins : List (Addr × Obj)) (s : Shared) (σ : St) (H : Hp) (v : V) (u : Value) (Q : St → Hp → Prop), Inv X pins σ H s → RelV v u → t v σ H Q →
    wpAny (model X.prog X.w) X.A (assign target X.env u) (fun _ s' => ∃ σ' H', Inv X pins σ' H' s' ∧ Q σ' H') X.xe s
/-- several targets, one after another -/
def PGs (X : Cx) (ts : List Expr) (t : TGs) : Prop :=
  ∀ (pins : List (Addr × Obj)) (s : Shared) (σ : St) (H : Hp) (vs : List V) (us : List Value) (Q : St → Hp → Prop), Inv X pins σ H s → Vals vs us → t vs σ H Q →
    wpAny (model X.prog X.w) X.A (assignInOrder ((assignEach ts X.env).map (·.2)) us) (fun _ s' => ∃ σ' H', Inv X pins σ' H' s' ∧ Q σ' H') X.xe s
/-- o[i] = v, by values -/
abbrev TSet := V → V → V → Hp → (Hp → Prop) → Prop
def PSet (X : Cx) (t : TSet) : Prop :=
  ∀ (pins : List (Addr × Obj)) (s : Shared) (σ : St) (H : Hp) (o i v : V) (ov iv u : Value) (Q : Hp → Prop), Inv X pins σ H s → RelV o ov → RelV i iv → RelV v u → t o i v H Q →
    wpAny (model X.prog X.w) X.A (setItem ov iv u) (fun _ s' => ∃ H', Inv X pins σ H' s' ∧ Q H') X.xe s
/-- a op= b, by values -/
abbrev TIp := V → V → Hp → VK → Prop
def PIp (X : Cx) (op : Operator) (t : TIp) : Prop :=
  ∀ (pins : List (Addr × Obj)) (s : Shared) (σ : St) (H : Hp) (x y : V) (v u : Value) (Q : VK), Inv X pins σ H s → RelV x v → RelV y u → t x y H Q →
    wpAny (model X.prog X.w) X.A (inplaceOp op v u) (EP X pins σ Q) X.xe s
section
variable {X : Cx} {pos : Pos}
def gName (i : Nat) : TG := fun v σ H Q => Q (σ.set i (some v)) H
theorem pg_name {i : Nat} {x : Str} (hN : X.N.Nodup) (hi : X.N[i]? = some x) (hx : Loc X.env.scope x) (hf : X.fn x = true ∨ X.env.scope.names.lookup x = some .local := by first | exact .inl rfl | exact .inr rfl | assumption) : PG X (.Name x pos) (gName i) := by
  intro pins s σ H v u Q I r h
  exact wpAny_assign_Name (store_ok I hN hi hx r (fun s' I' => ⟨_, H, I', h⟩) hf)
def gNil : TGs := fun vs σ H Q => vs = [] ∧ Q σ H
def gCons (t : TG) (u : TGs) : TGs := fun vs σ H Q => ∃ v r, vs = v :: r ∧ t v σ H fun σ' H' => u r σ' H' Q
theorem pgs_nil : PGs X [] gNil := by
  intro pins s σ H vs us Q I r h
  obtain ⟨e, h⟩ := h
  subst e
  cases r
  exact assignInOrder_nil ⟨σ, H, I, h⟩
theorem pgs_cons {e : Expr} {es : List Expr} {t : TG} {u : TGs} (h1 : PG X e t) (h2 : PGs X es u)
    (hs : (assignEach (e :: es) X.env).map (·.2) = assign e X.env :: (assignEach es X.env).map (·.2) := by rfl) : PGs X (e :: es) (gCons t u) := by
  intro pins s σ H vs us Q I r h
  obtain ⟨v, vr, e1, h⟩ := h
  subst e1
  cases r with
  | cons r rr =>
    rw [hs]
    refine assignInOrder_cons (thn (h1 pins s σ H _ _ _ I r h) fun _ s1 ⟨σ1, H1, I1, q1⟩ => ?_)
    exact h2 pins s1 σ1 H1 _ _ Q I1 rr q1
/-- (a, b, ..) = a tuple of that length -/
def gTup (K : PySem.W.Frag) (n : Nat) (t : TGs) : TG := fun v σ H Q => ∃ a xs, v = .ref a ∧ SqT K H a xs ∧ xs.length = n ∧ t xs σ H Q
/-- o[i] = .. -/
def gSub (to ti : TE) (t : TSet) : TG := fun v σ H Q => to σ H fun o H1 => ti σ H1 fun i H2 => t o i v H2 fun H3 => Q σ H3
theorem pg_sub {o i : Expr} {to ti : TE} {t : TSet} (ho : PE X o to) (hi : PE X i ti) (hs : PSet X t)
    (ha : ∀ v, assign (.Subscript o i pos) X.env v = (do
      let ov ← holding [v] (eval o X.env)
      let iv ← holding [v, ov] (eval i X.env)
      standAt pos
      holding [v, ov, iv] (setItem ov iv v)
      release [v, ov, iv] []) := by intro _; rfl) : PG X (.Subscript o i pos) (gSub to ti t) := by
  intro pins s σ H v u Q I r h
  rw [ha]
  refine wpAny_bind (wpAny_holding (thn (ho pins s σ H _ I h) fun ov s1 ⟨x, H1, I1, r1, q1⟩ => ?_))
  refine wpAny_bind (wpAny_holding (thn (hi pins s1 σ H1 _ I1 q1) fun iv s2 ⟨y, H2, I2, r2, q2⟩ => ?_))
  refine wpAny_bind (wpAny_standAt (wpAny_bind (wpAny_holding (thn (hs pins s2 σ H2 x y v ov iv u _ I2 r1 r2 r q2) fun _ s3 ⟨H3, I3, q3⟩ => ?_))))
  exact wpAny_release ⟨σ, H3, I3, q3⟩
/-- target = value -/
def tAsg (te : TE) (g : TG) : TS := fun D σ H => te σ H fun x H1 => g x σ H1 D.nx
theorem ps_asg {tg e : Expr} {te : TE} {g : TG} (he : PE X e te) (hg : PG X tg g) (hs : swapsWithSole [tg] e pos.line X.env = pure false := by rfl) (hw : swappedStores [tg] e X.env = pure none := by rfl)
    (h1 : (assignEach [tg] X.env).map (·.2) = [assign tg X.env] := by rfl) : PS X (.Assign [tg] e pos) (tAsg te g) := by
  intro pins s σ H D I h
  refine wpAny_Assign_stores (thn (he pins s σ H _ I h) fun v s1 ⟨x, H1, I1, r1, q1⟩ => ?_) hs hw
  rw [h1]
  exact thn (hg pins s1 σ H1 x v _ I1 r1 q1) fun _ s2 q => q
/-- name = value -/
theorem ps_set {i : Nat} {x : Str} {e : Expr} {te : TE} {pos' : Pos} (hN : X.N.Nodup) (hi : X.N[i]? = some x) (hx : Loc X.env.scope x) (he : PE X e te) (hs : swapsWith e (some (.Name x pos')) pos.line X.env = pure false := by rfl) (hf : X.fn x = true ∨ X.env.scope.names.lookup x = some .local := by first | exact .inl rfl | exact .inr rfl | assumption) :
    PS X (.Assign [.Name x pos'] e pos) (tAsg te (gName i)) := by
  intro pins s σ H D I h
  refine wpAny_Assign_Name (thn (he pins s σ H _ I h) fun v s1 ⟨y, H1, I1, r1, q1⟩ => ?_) hs
  exact store_ok I1 hN hi hx r1 (fun s2 I2 => ⟨_, H1, I2, q1⟩) hf
/-- a, b = x, y with plain local names: stored from the right; the pair itself is not tracked (the opening rows as in PyProof/Rows/TupAssign.lean:23) -/
def tPar (i j : Nat) (ta : TA) : TS := fun D σ H => ta σ H fun vs H1 => ∃ v w, vs = [v, w] ∧ D.nx ((σ.set i (some v)).set j (some w)) H1
/-- name op= e -/
def tAug (i : Nat) (te : TE) (ti : TIp) : TS := fun D σ H => ∃ x, σ[i]? = some (some x) ∧ te σ H fun y H1 => ti x y H1 fun z H2 => D.nx (σ.set i (some z)) H2
/-- o[i] op= e -/
def tAugS (to ti te : TE) (tget : V → V → Hp → VK → Prop) (tip : TIp) (tset : TSet) : TS := fun D σ H => to σ H fun o H1 => ti σ H1 fun i H2 => tget o i H2 fun x H3 => te σ H3 fun y H4 => tip x y H4 fun z H5 => tset o i z H5 fun H6 => D.nx σ H6
/-- o[i], by values -/
def PGet (X : Cx) (t : V → V → Hp → VK → Prop) : Prop :=
  ∀ (pins : List (Addr × Obj)) (s : Shared) (σ : St) (H : Hp) (o i : V) (ov iv : Value) (Q : VK), Inv X pins σ H s → RelV o ov → RelV i iv → t o i H Q →
    wpAny (model X.prog X.w) X.A (getItem ov iv) (EP X pins σ Q) X.xe s
/-- ints -/
def ipI (f : Int → Int → Int) : TIp := fun x y H Q => ∃ i j, x = .int i ∧ y = .int j ∧ Q (.int (f i j)) H
end

/-! ### while -/
section
variable {X : Cx} {pos : Pos}
/-- the invariant W with its measure -/
def tWhile (c : TT) (tb : TS) : TS := fun D σ H => ∃ W : Nat → St → Hp → Prop, (∃ m, W m σ H) ∧ ∀ m σ H, W m σ H →
  c σ H fun b H1 => if b = true then ∃ N : St → Hp → Prop, (∀ σ' H', N σ' H' → ∃ m', m' < m ∧ W m' σ' H') ∧ tb { D with nx := N, ct := N, bk := D.nx } σ H1 else D.nx σ H1
end

/-! ### what a loop or a comprehension walks -/
/-- at turn i: it yields x (the heap may grow), or it stops -/
structure It where
  go : Nat → Hp → Prop
  yld : Nat → Hp → V → Hp → Prop
  stop : Nat → Hp → Prop
/-- the iterator's own objects may turn: they are not the frame's, not pinned, younger than the entry (or a comprehension's own) -/
def FpOk (X : Cx) (pins : List (Addr × Obj)) (H : Hp) (b : Addr) : Prop :=
  H b = none ∧ b ≠ X.env.locals ∧ b ∉ X.fs ∧ (b ∈ X.ex ∨ X.s₀.heap.objs.size ≤ b) ∧ (∀ x c, X.env.cells.lookup x = some c → c ≠ b) ∧ ∀ p ∈ X.pn ++ pins, p.1 ≠ b
theorem Inv.fpOk {X : Cx} {pins : List (Addr × Obj)} {σ : St} {H H' : Hp} {s : Shared} {b : Addr} (I : Inv X pins σ H s) (hb : s.heap.objs.size ≤ b) (hn : H' b = none) : FpOk X pins H' b := by
  refine ⟨hn, Nat.ne_of_gt (Nat.lt_of_lt_of_le I.lt hb), I.nofs hb, .inr (Nat.le_trans I.sz hb), fun x c e z => ?_, fun p hp z => ?_⟩
  · obtain ⟨v, q⟩ := I.cell x c e
    exact absurd (Nat.lt_of_lt_of_le q.lt (by rw [z]; exact hb)) (Nat.lt_irrefl _)
  · exact absurd (Nat.lt_of_lt_of_le (Heap.lt_size (I.pin p hp).1) (by rw [z]; exact hb)) (Nat.lt_irrefl _)
structure Turn (P : Program) (w : World) (K : PySem.W.Frag) (tg : Expr) (J : It) (fp : List Addr) (it : Addr) (tn : Nat → Heap → Prop) : Prop where
  mem : it ∈ fp
  obj : ∀ i h, tn i h → ∀ b ∈ fp, ∃ o, h.get? b = some o ∧ ∀ v, o.data ≠ .cell v
  keep : ∀ i h h', tn i h → (∀ b ∈ fp, ∀ o, h.get? b = some o → h'.get? b = some o) → tn i h'
  item : ∀ (X : Cx), X.prog = P → X.w = w → X.K = K → X.calm = true → ∀ (i : Nat) (pins : List (Addr × Obj)) (s : Shared) (σ : St) (H : Hp) (E : Value → Shared → Prop), Inv X pins σ H s → (∀ b ∈ fp, FpOk X pins H b) → tn i s.heap → J.go i H →
    wpAny (model P w) X.A (pyNext (.ref it)) (fun r s1 => ∃ u, r = some u ∧
      wpAny (model P w) X.A (letOwnedTupleGo tg (.ref it) u) (fun _ s2 => ∃ x H', Inv X pins σ H' s2 ∧ RelV x u ∧ J.yld i H x H' ∧ tn (i + 1) s2.heap ∧ ∀ b ∈ fp, H' b = none) E s1) E s
  done : ∀ (X : Cx), X.prog = P → X.w = w → X.K = K → X.calm = true → ∀ (i : Nat) (pins : List (Addr × Obj)) (s : Shared) (σ : St) (H : Hp) (E : Value → Shared → Prop), Inv X pins σ H s → (∀ b ∈ fp, FpOk X pins H b) → tn i s.heap → J.stop i H →
    wpAny (model P w) X.A (pyNext (.ref it)) (fun r s1 => r = none ∧ Inv X pins σ H s1) E s
  self : ∀ (A : Around) (i : Nat) (s : Shared) (Q : Value → Shared → Prop) (E : Value → Shared → Prop), tn i s.heap → Q (.ref it) s → wpAny (model P w) A (pyIter (.ref it)) Q E s
abbrev TI := St → Hp → (It → Hp → Prop) → Prop
/-- an iterator has come -/
def PIE (X : Cx) (pins : List (Addr × Obj)) (σ : St) (tg : Expr) (R : It → Hp → Prop) (itv : Value) (s2 : Shared) : Prop :=
  ∃ (it : Addr) (fp : List Addr) (tn : Nat → Heap → Prop) (J : It) (H' : Hp), itv = .ref it ∧ Inv X pins σ H' s2 ∧ Turn X.prog X.w X.K tg J fp it tn ∧ tn 0 s2.heap ∧ (∀ b ∈ fp, FpOk X pins H' b) ∧ R J H'
def PI (X : Cx) (tg iter : Expr) (wi : TI) : Prop :=
  ∀ (pins : List (Addr × Obj)) (s : Shared) (σ : St) (H : Hp) (R : It → Hp → Prop), Inv X pins σ H s → wi σ H R →
    wpAny (model X.prog X.w) X.A (eval iter X.env) (fun v s1 => wpAny (model X.prog X.w) X.A (pyIter v) (PIE X pins σ tg R) X.xe s1) X.xe s

/-- the step ahead of the store is nothing for an iterator that keeps no tuple -/
theorem go_of {M : Model} {A : Around} {E : Value → Shared → Prop} {s : Shared} {tg : Expr} {it : Addr} {u : Value} {o : Obj} {n : String} {vs : Array Value} {Q : Unit → Shared → Prop} (ho : s.heap.get? it = some o) (hc : o.cls = .type n) (hd : o.data = .fields vs)
    (hn : ["enumerate", "zip", "dict_itemiterator", "dict_reverseitemiterator", "odict_iterator", "itertools.zip_longest", "itertools.pairwise"].contains n = false) (hQ : Q () s) : wpAny M A (letOwnedTupleGo tg (.ref it) u) Q E s := by
  unfold letOwnedTupleGo
  cases tg <;> first
    | exact wpAny_pure hQ
    | (cases u <;> first
        | exact wpAny_pure hQ
        | (refine wpAny_bind (wpAny_load ho ?_)
           rw [hc, hd]
           show wpAny M A (if (["enumerate", "zip", "dict_itemiterator", "dict_reverseitemiterator", "odict_iterator", "itertools.zip_longest", "itertools.pairwise"].contains n && vs[0]? == some (rawInt _)) = true then _ else _) Q E s
           rw [if_neg (by intro h; rw [hn, Bool.false_and] at h; cases h)]
           exact wpAny_pure hQ))

/-- the list at a, as it stands at each turn (a loop may append to it) -/
def Itl (K : PySem.W.Frag) (a : Addr) : It :=
  ⟨fun i H => ∃ xs x, SqL K H a xs ∧ xs[i]? = some x, fun i H x H' => H' = H ∧ ∀ xs, SqL K H a xs → xs[i]? = some x, fun i H => ∃ xs, SqL K H a xs ∧ xs.length ≤ i⟩
def Itt (K : PySem.W.Frag) (a : Addr) : It :=
  ⟨fun i H => ∃ xs x, SqT K H a xs ∧ xs[i]? = some x, fun i H x H' => H' = H ∧ ∀ xs, SqT K H a xs → xs[i]? = some x, fun i H => ∃ xs, SqT K H a xs ∧ xs.length ≤ i⟩
/-- lo, lo + 1, .. (n of them) -/
def Itr (lo : Int) (n : Nat) : It := ⟨fun i _ => i < n, fun i H x H' => H' = H ∧ x = .int (lo + i), fun i _ => n ≤ i⟩
theorem turn_list {P : Program} {w : World} {K : PySem.W.Frag} {tg : Expr} (a it : Addr) : Turn P w K tg (Itl K a) [it] it (fun i h => h.IsListIter it a i) where
  mem := by simp
  obj := fun i h st b hb => by
    have e : b = it := by simpa using hb
    subst e
    obtain ⟨o, e, c, d⟩ := st
    exact ⟨o, e, fun v z => by rw [d] at z; cases z⟩
  keep := fun i h h' st k => st.at fun o e => k it (by simp) o e
  item := by
    intro X hP hw hK hc i pins s σ H E I hf st hg
    subst hP hw hK
    obtain ⟨xs, x, hq, hx⟩ := hg
    obtain ⟨its, rv, p, hz⟩ := I.list hq
    obtain ⟨u, hu, ru⟩ := rv.get hx
    obtain ⟨f0, f1, f2, f3, f4, f5⟩ := hf it (by simp)
    refine wpAny_pyNext_list_item st p.isList (x := u) (by simpa using hu) fun h' st' sb => ?_
    have I1 : Inv X pins σ H { s with heap := h' } := I.turned (t' := s.toks) (fun b o hb e => (sb.2 b hb).trans e) f0 f1 f3 f4 f5
    obtain ⟨o, e, c, d⟩ := id st'
    exact ⟨u, rfl, go_of (s := { s with heap := h' }) e c d (by decide) ⟨x, H, I1, ru, ⟨rfl, fun ys hy => by rw [I.list_inj hy hq]; exact hx⟩, st', fun b hb => (hf b hb).1⟩⟩
  done := by
    intro X hP hw hK hc i pins s σ H E I hf st hg
    subst hP hw hK
    obtain ⟨xs, hq, hx⟩ := hg
    obtain ⟨its, rv, p, hz⟩ := I.list hq
    obtain ⟨f0, f1, f2, f3, f4, f5⟩ := hf it (by simp)
    have hl := rv.length
    exact wpAny_pyNext_list_end (I.ok.hd hc) st p.isList (by simp; omega) fun h' eb => ⟨rfl, I.turned (t' := s.toks) (fun b o hb e => eb b o hb e) f0 f1 f3 f4 f5⟩
  self := fun _ _ _ _ _ st h => wpAny_pyIter_listiter st h
theorem turn_tuple {P : Program} {w : World} {K : PySem.W.Frag} {tg : Expr} (a it : Addr) : Turn P w K tg (Itt K a) [it] it (fun i h => h.IsTupleIter it a i) where
  mem := by simp
  obj := fun i h st b hb => by
    have e : b = it := by simpa using hb
    subst e
    obtain ⟨o, e, c, d⟩ := st
    exact ⟨o, e, fun v z => by rw [d] at z; cases z⟩
  keep := fun i h h' st k => st.at fun o e => k it (by simp) o e
  item := by
    intro X hP hw hK hc i pins s σ H E I hf st hg
    subst hP hw hK
    obtain ⟨xs, x, hq, hx⟩ := hg
    obtain ⟨its, rv, p, hz⟩ := I.tuple hq
    obtain ⟨u, hu, ru⟩ := rv.get hx
    obtain ⟨f0, f1, f2, f3, f4, f5⟩ := hf it (by simp)
    refine wpAny_pyNext_tuple_item st (show s.heap.IsTuple a its.toArray from p) (x := u) (by simpa using hu) fun h' st' sb => ?_
    have I1 : Inv X pins σ H { s with heap := h' } := I.turned (t' := s.toks) (fun b o hb e => (sb.2 b hb).trans e) f0 f1 f3 f4 f5
    obtain ⟨o, e, c, d⟩ := id st'
    exact ⟨u, rfl, go_of (s := { s with heap := h' }) e c d (by decide) ⟨x, H, I1, ru, ⟨rfl, fun ys hy => by rw [I.tuple_inj hy hq]; exact hx⟩, st', fun b hb => (hf b hb).1⟩⟩
  done := by
    intro X hP hw hK hc i pins s σ H E I hf st hg
    subst hP hw hK
    obtain ⟨xs, hq, hx⟩ := hg
    obtain ⟨its, rv, p, hz⟩ := I.tuple hq
    obtain ⟨f0, f1, f2, f3, f4, f5⟩ := hf it (by simp)
    have hl := rv.length
    exact wpAny_pyNext_tuple_end (I.ok.hd hc) st (show s.heap.IsTuple a its.toArray from p) (by simp; omega) fun h' eb => ⟨rfl, I.turned (t' := s.toks) (fun b o hb e => eb b o hb e) f0 f1 f3 f4 f5⟩
  self := fun _ _ _ _ _ st h => wpAny_pyIter_tupleiter st h
theorem turn_range {P : Program} {w : World} {K : PySem.W.Frag} {tg : Expr} (it : Addr) (lo : Int) (n : Nat) : Turn P w K tg (Itr lo n) [it] it (fun i h => IsRangeIter h it (lo + (i : Nat) * 1) ((n : Int) - (i : Nat)) 1) where
  mem := by simp
  obj := fun i h st b hb => by
    have e : b = it := by simpa using hb
    subst e
    exact ⟨_, st, fun v z => by
      have z' : Data.fields _ = Data.cell v := z
      cases z'⟩
  keep := fun i h h' st k => k it (by simp) _ st
  item := by
    intro X hP hw hK hc i pins s σ H E I hf st hg
    subst hP hw hK
    obtain ⟨f0, f1, f2, f3, f4, f5⟩ := hf it (by simp)
    have W := Walks.range (prog := X.prog) (w := X.w) (I.ok.hd hc) it lo 1 n
    refine W.item i s _ _ hg st fun v h' tk hv st' kk => ?_
    obtain ⟨t, rfl⟩ := hv
    have I1 : Inv X pins σ H { s with heap := h', toks := tk } := I.turned (fun b o hb e => kk b o (by simpa using hb) e) f0 f1 f3 f4 f5
    refine ⟨_, rfl, go_of (s := { s with heap := h', toks := tk }) (n := "range_iterator") st' rfl rfl (by decide) ⟨.int (lo + i), H, I1, ⟨t, ?_⟩, ⟨rfl, rfl⟩, st', fun b hb => (hf b hb).1⟩⟩
    rw [Int.mul_one]
  done := by
    intro X hP hw hK hc i pins s σ H E I hf st hg
    subst hP hw hK
    obtain ⟨f0, f1, f2, f3, f4, f5⟩ := hf it (by simp)
    exact wpAny_pyNext_range_end (I.ok.hd hc) st (by have : n ≤ i := hg; omega) fun h' eb => ⟨rfl, I.turned (t' := s.toks) (fun b o hb e => eb b o hb e) f0 f1 f3 f4 f5⟩
  self := fun _ _ _ _ _ st h => wpAny_pyIter_rangeiter st h
end L2

namespace L2
open PySem PySem.Spec PyProof.Rows
section
variable {X : Cx} {tg : Expr}
def iList (K : PySem.W.Frag) (tl : TE) : TI := fun σ H R => tl σ H fun x H1 => ∃ a, x = .ref a ∧ (∃ xs, SqL K H1 a xs) ∧ R (Itl K a) H1
def iTup (K : PySem.W.Frag) (tl : TE) : TI := fun σ H R => tl σ H fun x H1 => ∃ a, x = .ref a ∧ (∃ xs, SqT K H1 a xs) ∧ R (Itt K a) H1
theorem pi_list {l : Expr} {tl : TE} (hl : PE X l tl) : PI X tg l (iList X.K tl) := by
  intro pins s σ H R I h
  refine thn (hl pins s σ H _ I h) fun v s1 ⟨x, H1, I1, r1, q1⟩ => ?_
  obtain ⟨a, e, ⟨xs, hq⟩, q⟩ := q1
  subst e
  cases r1
  obtain ⟨its, rv, p, hz⟩ := I1.list hq
  refine wpAny_pyIter_list p.isList ?_
  refine ⟨s1.heap.objs.size, [s1.heap.objs.size], _, _, H1, rfl, I1.kept (t' := s1.toks) fun b o e => Heap.get?_push_of_some _ e, turn_list a _, ⟨_, Heap.get?_push_size _ rfl, rfl, rfl⟩, fun b hb => ?_, q⟩
  have e : b = s1.heap.objs.size := by simpa using hb
  subst e
  exact I1.fpOk (Nat.le_refl _) (I1.hok.fresh (Nat.le_refl _))
theorem pi_tup {l : Expr} {tl : TE} (hl : PE X l tl) : PI X tg l (iTup X.K tl) := by
  intro pins s σ H R I h
  refine thn (hl pins s σ H _ I h) fun v s1 ⟨x, H1, I1, r1, q1⟩ => ?_
  obtain ⟨a, e, ⟨xs, hq⟩, q⟩ := q1
  subst e
  cases r1
  obtain ⟨its, rv, p, hz⟩ := I1.tuple hq
  refine wpAny_pyIter_tuple (show s1.heap.IsTuple a its.toArray from p) ?_
  refine ⟨s1.heap.objs.size, [s1.heap.objs.size], _, _, H1, rfl, I1.kept (t' := s1.toks) fun b o e => Heap.get?_push_of_some _ e, turn_tuple a _, ⟨_, Heap.get?_push_size _ rfl, rfl, rfl⟩, fun b hb => ?_, q⟩
  have e : b = s1.heap.objs.size := by simpa using hb
  subst e
  exact I1.fpOk (Nat.le_refl _) (I1.hok.fresh (Nat.le_refl _))
/-- a range object just made, walked -/
theorem range_it {pins : List (Addr × Obj)} {σ : St} {H : Hp} {s : Shared} {R : It → Hp → Prop} {E : Value → Shared → Prop} {lo hi : Int} {t u v : Tok} {tk : Nat} (I : Inv X pins σ H s) (h1 : -(2 ^ 62) ≤ lo) (h2 : lo < 2 ^ 62) (h3 : -(2 ^ 62) ≤ hi) (h4 : hi < 2 ^ 62)
    (q : R (Itr lo (hi - lo).toNat) H) : wpAny (model X.prog X.w) X.A (pyIter (.ref s.heap.objs.size)) (PIE X pins σ tg R) E { s with heap := s.heap.push { cls := .type "range", data := .fields #[.int lo t, .int hi u, .int 1 v] }, toks := tk } := by
  refine wpAny_pyIter_range (IsRange.new ..) (small_one h1 h2 h3 h4) ?_
  have I1 : Inv X pins σ H { s with heap := s.heap.push { cls := .type "range", data := .fields #[.int lo t, .int hi u, .int 1 v] }, toks := tk } := I.kept fun b o e => Heap.get?_push_of_some _ e
  refine ⟨(s.heap.push { cls := .type "range", data := .fields #[.int lo t, .int hi u, .int 1 v] }).objs.size, [(s.heap.push { cls := .type "range", data := .fields #[.int lo t, .int hi u, .int 1 v] }).objs.size], _, _, H, rfl,
    I1.kept (t' := tk) fun b o e => Heap.get?_push_of_some _ e, turn_range _ lo (hi - lo).toNat, ?_, fun b hb => ?_, q⟩
  · have e1 : lo + ((0 : Nat) : Int) * 1 = lo := by simp
    have e2 : (((hi - lo).toNat : Nat) : Int) - ((0 : Nat) : Int) = Builtin.Range.rangeSize lo hi 1 := by rw [rangeSize_one]; split <;> omega
    show IsRangeIter _ _ (lo + ((0 : Nat) : Int) * 1) ((((hi - lo).toNat : Nat) : Int) - ((0 : Nat) : Int)) 1
    rw [e1, e2]
    exact Heap.get?_push_size _ rfl
  · have e : b = (s.heap.push { cls := .type "range", data := .fields #[.int lo t, .int hi u, .int 1 v] }).objs.size := by simpa using hb
    subst e
    exact I1.fpOk (Nat.le_refl _) (I1.hok.fresh (Nat.le_refl _))
def iRng1 (ta : TA) : TI := fun σ H R => ta σ H fun vs H1 => ∃ j : Int, vs = [.int j] ∧ -(2 ^ 62) ≤ j ∧ j < 2 ^ 62 ∧ R (Itr 0 j.toNat) H1
def iRng2 (ta : TA) : TI := fun σ H R => ta σ H fun vs H1 => ∃ i j : Int, vs = [.int i, .int j] ∧ (-(2 ^ 62) ≤ i ∧ i < 2 ^ 62 ∧ -(2 ^ 62) ≤ j ∧ j < 2 ^ 62) ∧ R (Itr i (j - i).toNat) H1
theorem pi_range1 {a : Expr} {ta : TA} {p pos : Pos} (hg : Gl X "range") (hm : X.mg "range" = none) (ha : PA X [a] ta) (hs : starEach [a] X.env = [(false, eval a X.env)] := by rfl) : PI X tg (.Call (.Name "range" p) [a] [] pos) (iRng1 ta) := by
  intro pins s σ H R I h
  refine Call_ (ld_blt I hg hm boot_range (PyProof.Rows.callWith_type1 (thn (ha pos pins s σ H _ I h) fun us s1 ⟨vs, H1, I1, r1, q1⟩ => ?_) hs rfl))
  obtain ⟨j, e, q1, q2, q⟩ := q1
  subst e
  cases r1 with
  | cons r rr =>
    cases rr
    obtain ⟨t, rfl⟩ := r
    exact call_range_1 (range_it I1 (by omega) (by omega) q1 q2 (by simpa using q))
/-! ### for -/
/-- W: the invariant by the turn and a measure; N: what the body is to reach -/
def tFor (wi : TI) (g : TG) (tb : TS) : TS := fun D σ H => wi σ H fun J H1 => ∃ W : Nat → Nat → St → Hp → Prop, (∃ m, W 0 m σ H1) ∧ ∀ i m σ H, W i m σ H →
  (J.stop i H ∧ D.nx σ H) ∨ (J.go i H ∧ ∃ N : St → Hp → Prop, (∀ σ' H', N σ' H' → ∃ m', m' < m ∧ W (i + 1) m' σ' H') ∧ ∀ x H', J.yld i H x H' → g x σ H' fun σ2 H2 => tb { D with nx := N, ct := N, bk := D.nx } σ2 H2)
/-- the records at fp as they stand -/
def pinsAt (fp : List Addr) (h : Heap) : List (Addr × Obj) := fp.filterMap fun b => (h.get? b).map fun o => (b, o)
theorem mem_pinsAt {fp : List Addr} {h : Heap} {b : Addr} {o : Obj} (hb : b ∈ fp) (e : h.get? b = some o) : (b, o) ∈ pinsAt fp h := List.mem_filterMap.mpr ⟨b, hb, by rw [e]; rfl⟩
theorem of_pinsAt {fp : List Addr} {h : Heap} {p : Addr × Obj} (hp : p ∈ pinsAt fp h) : p.1 ∈ fp ∧ h.get? p.1 = some p.2 := by
  obtain ⟨b, hb, e⟩ := List.mem_filterMap.mp hp
  cases q : h.get? b with
  | none => rw [q] at e; cases e
  | some o =>
    rw [q] at e
    have e' : (b, o) = p := Option.some.inj e
    subst e'
    exact ⟨hb, q⟩
theorem Inv.pinned {pins : List (Addr × Obj)} {σ : St} {H : Hp} {s : Shared} {fp : List Addr} (I : Inv X pins σ H s) (hf : ∀ b ∈ fp, FpOk X pins H b) (ho : ∀ b ∈ fp, ∃ o, s.heap.get? b = some o ∧ ∀ v, o.data ≠ .cell v) : Inv X (pins ++ pinsAt fp s.heap) σ H s :=
  I.pins_of fun p hp => (List.mem_append.mp hp).elim (fun z => I.pin p (List.mem_append_right _ z)) fun z => by
    obtain ⟨hb, e⟩ := of_pinsAt z
    obtain ⟨f0, f1, f2, _⟩ := hf p.1 hb
    obtain ⟨o, e', d⟩ := ho p.1 hb
    rw [e] at e'; cases e'
    exact ⟨e, f0, f1, f2, d⟩
theorem Inv.unpinned {pins pl : List (Addr × Obj)} {σ : St} {H : Hp} {s : Shared} (I : Inv X (pins ++ pl) σ H s) : Inv X pins σ H s := I.pins_of fun p hp => I.pin p (List.mem_append_right _ (List.mem_append_left _ hp))
theorem ps_for {iter : Expr} {body : List Stmt} {wi : TI} {g : TG} {tb : TS} {pos : Pos} (hp : PassesOwn (model X.prog X.w) X.A X.env X.xe) (hc : X.calm = true) (hi : PI X tg iter wi) (hg : PG X tg g) (hb : PSs X body tb)
    (hs : ∀ x, foldedSetIterable iter X.env x = pure x := by intro _; rfl) : PS X (.For tg iter body [] pos) (tFor wi g tb) := by
  intro pins s σ H D I h
  refine wpAny_For (thn (hi pins s σ H _ I h) fun v s1 h1 => thn h1 fun itv s2 h2 => ?_) hs
  obtain ⟨it, fp, tn, J, H2, e, I2, T, st2, f2, W, ⟨m0, w0⟩, turn⟩ := h2
  subst e
  -- what stays true of the iterator's objects through the loop
  have stat : ∀ {H' : Hp}, (∀ b ∈ fp, H' b = none) → ∀ b ∈ fp, FpOk X pins H' b := fun hn b hb => ⟨hn b hb, (f2 b hb).2⟩
  refine codeAny_forLoop_any (fun n s' => ∃ i σ' H', Inv X pins σ' H' s' ∧ tn i s'.heap ∧ (∀ b ∈ fp, H' b = none) ∧ W i n σ' H') ?_ m0 ⟨0, σ, H2, I2, st2, fun b hb => (f2 b hb).1, w0⟩
  rintro n s3 ⟨i, σ3, H3, I3, st3, fr3, w3⟩
  rcases turn i n σ3 H3 w3 with ⟨stop, qn⟩ | ⟨go, N, hN, step⟩
  · refine wpAny_passesOwn hp (thn (T.done X rfl rfl rfl hc i pins s3 σ3 H3 X.xe I3 (stat fr3) st3 stop) fun r s4 ⟨hr, I4⟩ => ?_)
    subst hr
    exact wpAny_execs_nil ⟨σ3, H3, I4, qn⟩
  · refine wpAny_passesOwn hp (thn (T.item X rfl rfl rfl hc i pins s3 σ3 H3 X.xe I3 (stat fr3) st3 go) fun r s4 ⟨u, hr, h4⟩ => ?_)
    subst hr
    refine wpAny_passesOwn hp (thn h4 fun _ s5 ⟨x, H5, I5, r5, y5, st5, fr5⟩ => ?_)
    have I5' := I5.pinned (stat fr5) (T.obj _ _ st5)
    refine wpAny_passesOwn hp (thn (hg _ s5 σ3 H5 x u _ I5' r5 (step x H5 y5)) fun _ s6 ⟨σ6, H6, I6, q6⟩ => ?_)
    refine wpAny_passesOwn hp (thn (hb _ s6 σ6 H6 _ I6 q6) fun f s7 q7 => ?_)
    have again : ∀ {σ7 : St} {H7 : Hp}, Inv X (pins ++ pinsAt fp s5.heap) σ7 H7 s7 → N σ7 H7 → ∃ m, m < n ∧ ∃ i σ' H', Inv X pins σ' H' s7 ∧ tn i s7.heap ∧ (∀ b ∈ fp, H' b = none) ∧ W i m σ' H' := fun {σ7 H7} I7 n7 => by
      obtain ⟨m', hm, w7⟩ := hN σ7 H7 n7
      refine ⟨m', hm, i + 1, σ7, H7, I7.unpinned, T.keep _ _ _ st5 fun b hb o e => (I7.pin (b, o) (List.mem_append_right _ (List.mem_append_right _ (mem_pinsAt hb e)))).1, fun b hb => ?_, w7⟩
      obtain ⟨o, e, d⟩ := T.obj _ _ st5 b hb
      exact (I7.pin (b, o) (List.mem_append_right _ (List.mem_append_right _ (mem_pinsAt hb e)))).2.1
    cases f with
    | next => obtain ⟨σ7, H7, I7, n7⟩ := q7; exact again I7 n7
    | cont => obtain ⟨σ7, H7, I7, n7⟩ := q7; exact again I7 n7
    | brk => obtain ⟨σ7, H7, I7, q7⟩ := q7; exact ⟨σ7, H7, I7.unpinned, q7⟩
    | ret v => obtain ⟨x7, σ7, H7, I7, r7, q7⟩ := q7; exact ⟨x7, σ7, H7, I7.unpinned, r7, q7⟩
end

/-! ### the forms one uses -/
theorem for_tup {K : PySem.W.Frag} {a : Addr} {xs : List V} {g : TG} {tb : TS} {D : Ends} {σ : St} {H : Hp} (Pv : Nat → St → Hp → Prop) (h0 : Pv 0 σ H) (hl : ∀ i σ H, i ≤ xs.length → Pv i σ H → SqT K H a xs)
    (hs : ∀ i x σ H, xs[i]? = some x → Pv i σ H → g x σ H fun σ2 H2 => tb { D with nx := Pv (i + 1), ct := Pv (i + 1), bk := D.nx } σ2 H2) (hd : ∀ σ H, Pv xs.length σ H → D.nx σ H) :
    ∃ W : Nat → Nat → St → Hp → Prop, (∃ m, W 0 m σ H) ∧ ∀ i m σ H, W i m σ H →
      ((Itt K a).stop i H ∧ D.nx σ H) ∨ ((Itt K a).go i H ∧ ∃ N : St → Hp → Prop, (∀ σ' H', N σ' H' → ∃ m', m' < m ∧ W (i + 1) m' σ' H') ∧ ∀ x H', (Itt K a).yld i H x H' → g x σ H' fun σ2 H2 => tb { D with nx := N, ct := N, bk := D.nx } σ2 H2) := by
  refine ⟨fun i m σ H => m = xs.length - i ∧ i ≤ xs.length ∧ Pv i σ H, ⟨xs.length, by simp, Nat.zero_le _, h0⟩, ?_⟩
  rintro i m σ H ⟨rfl, hi, p⟩
  have q := hl i σ H hi p
  by_cases hlt : i < xs.length
  · refine .inr ⟨⟨xs, xs[i], q, by simp [hlt]⟩, Pv (i + 1), fun σ' H' p' => ⟨xs.length - (i + 1), by omega, rfl, hlt, p'⟩, fun x H' y => ?_⟩
    obtain ⟨e, y⟩ := y
    subst e
    exact hs i x σ _ (y xs q) p
  · have e : i = xs.length := by omega
    subst e
    exact .inl ⟨⟨xs, q, Nat.le_refl _⟩, hd σ H p⟩
theorem for_range {lo : Int} {n : Nat} {g : TG} {tb : TS} {D : Ends} {σ : St} {H : Hp} (Pv : Nat → St → Hp → Prop) (h0 : Pv 0 σ H)
    (hs : ∀ i σ H, i < n → Pv i σ H → g (.int (lo + i)) σ H fun σ2 H2 => tb { D with nx := Pv (i + 1), ct := Pv (i + 1), bk := D.nx } σ2 H2) (hd : ∀ σ H, Pv n σ H → D.nx σ H) :
    ∃ W : Nat → Nat → St → Hp → Prop, (∃ m, W 0 m σ H) ∧ ∀ i m σ H, W i m σ H →
      ((Itr lo n).stop i H ∧ D.nx σ H) ∨ ((Itr lo n).go i H ∧ ∃ N : St → Hp → Prop, (∀ σ' H', N σ' H' → ∃ m', m' < m ∧ W (i + 1) m' σ' H') ∧ ∀ x H', (Itr lo n).yld i H x H' → g x σ H' fun σ2 H2 => tb { D with nx := N, ct := N, bk := D.nx } σ2 H2) := by
  refine ⟨fun i m σ H => m = n - i ∧ i ≤ n ∧ Pv i σ H, ⟨n, by simp, Nat.zero_le _, h0⟩, ?_⟩
  rintro i m σ H ⟨rfl, hi, p⟩
  by_cases hlt : i < n
  · refine .inr ⟨hlt, Pv (i + 1), fun σ' H' p' => ⟨n - (i + 1), by omega, rfl, hlt, p'⟩, fun x H' y => ?_⟩
    obtain ⟨e, y⟩ := y
    subst e y
    exact hs i σ _ hlt p
  · have e : i = n := by omega
    subst e
    exact .inl ⟨Nat.le_refl _, hd σ H p⟩
end L2

namespace L2
open PySem PySem.Spec PyProof.Rows

abbrev R2 := V → V → Hp → VK → Prop
/-- a two-place operation on values: f is binaryOp op, inplaceOp op or compareOp op -/
def OpR (X : Cx) (f : Value → Value → Sem Value) (r : R2) : Prop :=
  ∀ (pins : List (Addr × Obj)) (s : Shared) (σ : St) (H : Hp) (x y : V) (v u : Value) (Q : VK), Inv X pins σ H s → RelV x v → RelV y u → r x y H Q →
    wpAny (model X.prog X.w) X.A (f v u) (EP X pins σ Q) X.xe s
/-- a one-place operation -/
def UnR (X : Cx) (f : Value → Sem Value) (r : V → Hp → VK → Prop) : Prop :=
  ∀ (pins : List (Addr × Obj)) (s : Shared) (σ : St) (H : Hp) (x : V) (v : Value) (Q : VK), Inv X pins σ H s → RelV x v → r x H Q →
    wpAny (model X.prog X.w) X.A (f v) (EP X pins σ Q) X.xe s
/-- a call of a value that is known (a builtin, a type) with values -/
def CallR (X : Cx) (f : Value) (r : List V → Hp → VK → Prop) : Prop :=
  ∀ (pins : List (Addr × Obj)) (s : Shared) (σ : St) (H : Hp) (xs : List V) (us : List Value) (Q : VK), Inv X pins σ H s → Vals xs us → r xs H Q →
    wpAny (model X.prog X.w) X.A (call f us) (EP X pins σ Q) X.xe s
/-- a value's truth -/
def TruR (X : Cx) (r : V → Hp → (Bool → Hp → Prop) → Prop) : Prop :=
  ∀ (pins : List (Addr × Obj)) (s : Shared) (σ : St) (H : Hp) (x : V) (v : Value) (Q : Bool → Hp → Prop), Inv X pins σ H s → RelV x v → r x H Q →
    wpAny (model X.prog X.w) X.A (truthy v) (TP X pins σ Q) X.xe s

def tOp (r : R2) (ta tb : TE) : TE := fun σ H Q => ta σ H fun x H1 => tb σ H1 fun y H2 => r x y H2 Q
def tUn (r : V → Hp → VK → Prop) (ta : TE) : TE := fun σ H Q => ta σ H fun x H1 => r x H1 Q
/-- ints in, under C, and a value out -/
def rI (C : Int → Int → Prop) (g : Int → Int → V) : R2 := fun x y H Q => ∃ i j, x = .int i ∧ y = .int j ∧ C i j ∧ Q (g i j) H
def rI0 (g : Int → Int → V) : R2 := fun x y H Q => ∃ i j, x = .int i ∧ y = .int j ∧ Q (g i j) H
def rU (g : Int → V) : V → Hp → VK → Prop := fun x H Q => ∃ i, x = .int i ∧ Q (g i) H

section
variable {X : Cx} {a b c : Expr} {ta tb tc : TE} {pos : Pos}

theorem binT (ha : PE X a ta) (hb : PE X b tb) {pins : List (Addr × Obj)} {s : Shared} {σ : St} {H : Hp} {R : V → V → Hp → Prop} (I : Inv X pins σ H s)
    (h : ta σ H fun x H1 => tb σ H1 fun y H2 => R x y H2) {Q : Value → Shared → Prop} {f : Value → Value → Sem Value}
    (hf : ∀ v u s2 x y H2, Inv X pins σ H2 s2 → RelV x v → RelV y u → R x y H2 → wpAny (model X.prog X.w) X.A (f v u) Q X.xe s2) :
    wpAny (model X.prog X.w) X.A (eval a X.env) (fun v s₁ => wpAny (model X.prog X.w) X.A (eval b X.env) (fun u s₂ => wpAny (model X.prog X.w) X.A (f v u) Q X.xe s₂) X.xe s₁) X.xe s := by
  refine thn (ha pins s σ H _ I h) fun v s1 ⟨x, H1, I1, r1, q1⟩ => ?_
  refine thn (hb pins s1 σ H1 _ I1 q1) fun u s2 ⟨y, H2, I2, r2, q2⟩ => ?_
  exact hf v u s2 x y H2 I2 r1 r2 q2

theorem pe_op {op : Operator} {r : R2} (ho : OpR X (binaryOp op) r) (ha : PE X a ta) (hb : PE X b tb) : PE X (.BinOp a op b pos) (tOp r ta tb) := by
  intro pins s σ H Q I h
  exact wpAny_BinOp (binT ha hb I h fun v u s2 x y H2 I2 rx ry q => ho pins s2 σ H2 x y v u Q I2 rx ry q)
/-! ### ints -/
theorem opI {f : Value → Value → Sem Value} {C : Int → Int → Prop} {g : Int → Int → Int}
    (rule : ∀ (i j : Int) (t u : Tok) (s : Shared) (Q : Value → Shared → Prop) (E : Value → Shared → Prop), C i j → Q (.int (g i j) s.toks) { s with toks := s.toks + 1 } → wpAny (model X.prog X.w) X.A (f (.int i t) (.int j u)) Q E s) :
    OpR X f (rI C fun i j => .int (g i j)) := by
  intro pins s σ H x y v u Q I rx ry h
  obtain ⟨i, j, rfl, rfl, hc, q⟩ := h
  obtain ⟨t, rfl⟩ := rx
  obtain ⟨t', rfl⟩ := ry
  exact rule i j t t' s _ _ hc ⟨.int (g i j), H, I.tok _, ⟨_, rfl⟩, q⟩
theorem opI0 {f : Value → Value → Sem Value} {g : Int → Int → Int}
    (rule : ∀ (i j : Int) (t u : Tok) (s : Shared) (Q : Value → Shared → Prop) (E : Value → Shared → Prop), Q (.int (g i j) s.toks) { s with toks := s.toks + 1 } → wpAny (model X.prog X.w) X.A (f (.int i t) (.int j u)) Q E s) :
    OpR X f (rI0 fun i j => .int (g i j)) := by
  intro pins s σ H x y v u Q I rx ry h
  obtain ⟨i, j, rfl, rfl, q⟩ := h
  obtain ⟨t, rfl⟩ := rx
  obtain ⟨t', rfl⟩ := ry
  exact rule i j t t' s _ _ ⟨.int (g i j), H, I.tok _, ⟨_, rfl⟩, q⟩
theorem opB0 {f : Value → Value → Sem Value} {g : Int → Int → Bool}
    (rule : ∀ (i j : Int) (t u : Tok) (s : Shared) (Q : Value → Shared → Prop) (E : Value → Shared → Prop), Q (.bool (g i j)) s → wpAny (model X.prog X.w) X.A (f (.int i t) (.int j u)) Q E s) :
    OpR X f (rI0 fun i j => .bl (g i j)) := by
  intro pins s σ H x y v u Q I rx ry h
  obtain ⟨i, j, rfl, rfl, q⟩ := h
  obtain ⟨t, rfl⟩ := rx
  obtain ⟨t', rfl⟩ := ry
  exact rule i j t t' s _ _ ⟨.bl (g i j), H, I, rfl, q⟩

def CDiv (i j : Int) : Prop := 0 < j ∧ j < 1073741824
def CDivN (i j : Int) : Prop := j ≠ 0 ∧ j.natAbs < 1073741824
def CPow (i j : Int) : Prop := 0 ≤ j ∧ j ≤ 1000000 ∧ i.natAbs < 2 ^ 64
def CMul (i j : Int) : Prop := (-(2 ^ 64) < i ∧ i < 2 ^ 64) ∨ (-(2 ^ 64) < j ∧ j < 2 ^ 64)
theorem CMul.ok {i j : Int} (h : CMul i j) : IntMulOk i j := by
  rcases h with ⟨h1, h2⟩ | ⟨h1, h2⟩
  · exact .of_left (intBits_le_64 h1 h2)
  · exact .of_right (intBits_le_64 h1 h2)
theorem op_add : OpR X (binaryOp .Add) (rI0 fun i j => .int (i + j)) := opI0 fun _ _ _ _ _ _ _ q => add_int q
theorem op_sub : OpR X (binaryOp .Sub) (rI0 fun i j => .int (i - j)) := opI0 fun _ _ _ _ _ _ _ q => sub_int q
theorem op_mul : OpR X (binaryOp .Mult) (rI CMul fun i j => .int (i * j)) := opI fun _ _ _ _ _ _ _ hc q => mul_int q hc.ok
/-- // by a positive divisor -/
theorem op_fdiv : OpR X (binaryOp .FloorDiv) (rI CDiv fun i j => .int (i / j)) := opI fun i j _ _ _ _ _ hc q => by
  have h1 : (0 : Int) < j := hc.1
  have h2 : j < 1073741824 := hc.2
  exact floordiv_int (by omega) (by rw [Int.fdiv_eq_ediv_of_nonneg i (by omega)]; exact q) (.inl (PyProof.noPylong_small (by omega)))
/-- % by a positive divisor of any size -/
theorem op_mod : OpR X (binaryOp .Mod) (rI (fun _ j => 0 < j) fun i j => .int (i % j)) := opI fun i j _ _ _ _ _ hc q => by
  have h1 : (0 : Int) < j := hc
  exact mod_int' (by omega) (by rw [Int.fmod_eq_emod_of_nonneg i (by omega)]; exact q)
/-! ### bools among ints: n += (a < b) -/
end

/-! ### comparisons -/
/-- the scalars that == tells apart as data does -/
def scal : V → V → Bool
  | .non, .non => true | .non, .int _ => true | .int _, .non => true | .non, .bl _ => true | .bl _, .non => true | .non, .str _ => true | .str _, .non => true
  | .int _, .int _ => true | .bl _, .bl _ => true | .str _, .str _ => true | .byt _, .byt _ => true
  | .int _, .str _ => true | .str _, .int _ => true | .bl _, .str _ => true | .str _, .bl _ => true
  | _, _ => false
def rEq : R2 := fun x y H Q => scal x y = true ∧ Q (.bl (decide (x = y))) H
def rNe : R2 := fun x y H Q => scal x y = true ∧ Q (.bl (!decide (x = y))) H

theorem dec_int {i j : Int} : decide (V.int i = V.int j) = (i == j) := by
  rw [Bool.eq_iff_iff]
  simp
theorem dec_bl {i j : Bool} : decide (V.bl i = V.bl j) = (i == j) := by
  rw [Bool.eq_iff_iff]
  simp
theorem dec_str {i j : Str} : decide (V.str i = V.str j) = (i == j) := by
  rw [Bool.eq_iff_iff]
  simp
theorem dec_byt {i j : Array UInt8} : decide (V.byt i = V.byt j) = (i.toList == j.toList) := by
  rw [Bool.eq_iff_iff]
  cases i
  cases j
  simp

section
variable {X : Cx} {a b c : Expr} {ta tb tc : TE} {pos : Pos}
theorem fin_bl {pins : List (Addr × Obj)} {σ : St} {H : Hp} {s : Shared} {Q : VK} {k k' : Bool} (I : Inv X pins σ H s) (q : Q (.bl k) H) (e : k = k') : EP X pins σ Q (.bool k') s := by
  subst e
  exact ⟨.bl k, H, I, rfl, q⟩
theorem op_eq : OpR X (compareOp .Eq) rEq := by
  intro pins s σ H x y v u Q I rx ry h
  obtain ⟨hs, q⟩ := h
  cases x with
  | non =>
    cases rx
    cases y with
    | non => cases ry; exact PySem.EqNone.eq_none_none (fin_bl I q (by simp))
    | bl j => cases ry; exact PySem.EqNone.eq_none_bool (fin_bl I q (by simp))
    | int j => obtain ⟨t', rfl⟩ := ry; exact PySem.EqNone.eq_none_int (fin_bl I q (by simp))
    | str j => obtain ⟨t', rfl⟩ := ry; exact PySem.EqNone.eq_none_str (fin_bl I q (by simp))
    | _ => exact absurd (show false = true from hs) Bool.false_ne_true
  | bl i =>
    cases rx
    cases y with
    | non => cases ry; exact PySem.EqNone.eq_bool_none (fin_bl I q (by simp))
    | bl j => cases ry; exact eq_bool (fin_bl I q dec_bl)
    | str j => obtain ⟨t', rfl⟩ := ry; exact PySem.EqMixed.eq_bool_str (fin_bl I q (by simp))
    | _ => exact absurd (show false = true from hs) Bool.false_ne_true
  | int i =>
    obtain ⟨t, rfl⟩ := rx
    cases y with
    | non => cases ry; exact PySem.EqNone.eq_int_none (fin_bl I q (by simp))
    | int j => obtain ⟨t', rfl⟩ := ry; exact eq_int (fin_bl I q dec_int)
    | str j => obtain ⟨t', rfl⟩ := ry; exact PySem.EqMixed.eq_int_str (fin_bl I q (by simp))
    | _ => exact absurd (show false = true from hs) Bool.false_ne_true
  | str i =>
    obtain ⟨t, rfl⟩ := rx
    cases y with
    | non => cases ry; exact PySem.EqNone.eq_str_none (fin_bl I q (by simp))
    | bl j => cases ry; exact PySem.EqMixed.eq_str_bool (fin_bl I q (by simp))
    | int j => obtain ⟨t', rfl⟩ := ry; exact PySem.EqMixed.eq_str_int (fin_bl I q (by simp))
    | str j => obtain ⟨t', rfl⟩ := ry; exact eq_str (fin_bl I q dec_str)
    | _ => exact absurd (show false = true from hs) Bool.false_ne_true
  | byt i =>
    obtain ⟨t, rfl⟩ := rx
    cases y with
    | byt j => obtain ⟨t', rfl⟩ := ry; exact PySem.W.eq_bytes (fin_bl I q dec_byt)
    | _ => exact absurd (show false = true from hs) Bool.false_ne_true
  | _ => cases y <;> exact absurd (show false = true from hs) Bool.false_ne_true
theorem op_ne : OpR X (compareOp .NotEq) rNe := by
  intro pins s σ H x y v u Q I rx ry h
  obtain ⟨hs, q⟩ := h
  cases x with
  | non =>
    cases rx
    cases y with
    | non => cases ry; exact PySem.EqNone.ne_none_none (fin_bl I q (by simp))
    | bl j => cases ry; exact PySem.EqNone.ne_none_bool (fin_bl I q (by simp))
    | int j => obtain ⟨t', rfl⟩ := ry; exact PySem.EqNone.ne_none_int (fin_bl I q (by simp))
    | str j => obtain ⟨t', rfl⟩ := ry; exact PySem.EqNone.ne_none_str (fin_bl I q (by simp))
    | _ => exact absurd (show false = true from hs) Bool.false_ne_true
  | bl i =>
    cases rx
    cases y with
    | non => cases ry; exact PySem.EqNone.ne_bool_none (fin_bl I q (by simp))
    | bl j => cases ry; exact ne_bool (fin_bl I q (congrArg not dec_bl))
    | str j => obtain ⟨t', rfl⟩ := ry; exact PySem.EqMixed.ne_bool_str (fin_bl I q (by simp))
    | _ => exact absurd (show false = true from hs) Bool.false_ne_true
  | int i =>
    obtain ⟨t, rfl⟩ := rx
    cases y with
    | non => cases ry; exact PySem.EqNone.ne_int_none (fin_bl I q (by simp))
    | int j => obtain ⟨t', rfl⟩ := ry; exact ne_int (fin_bl I q (congrArg not dec_int))
    | str j => obtain ⟨t', rfl⟩ := ry; exact PySem.EqMixed.ne_int_str (fin_bl I q (by simp))
    | _ => exact absurd (show false = true from hs) Bool.false_ne_true
  | str i =>
    obtain ⟨t, rfl⟩ := rx
    cases y with
    | non => cases ry; exact PySem.EqNone.ne_str_none (fin_bl I q (by simp))
    | bl j => cases ry; exact PySem.EqMixed.ne_str_bool (fin_bl I q (by simp))
    | int j => obtain ⟨t', rfl⟩ := ry; exact PySem.EqMixed.ne_str_int (fin_bl I q (by simp))
    | str j => obtain ⟨t', rfl⟩ := ry; exact ne_str (fin_bl I q (congrArg not dec_str))
    | _ => exact absurd (show false = true from hs) Bool.false_ne_true
  | byt i =>
    obtain ⟨t, rfl⟩ := rx
    cases y with
    | byt j => obtain ⟨t', rfl⟩ := ry; exact PySem.W.ne_bytes (fin_bl I q (congrArg not dec_byt))
    | _ => exact absurd (show false = true from hs) Bool.false_ne_true
  | _ => cases y <;> exact absurd (show false = true from hs) Bool.false_ne_true

theorem op_lt : OpR X (compareOp .Lt) (rI0 fun i j => .bl (decide (i < j))) := opB0 fun _ _ _ _ _ _ _ q => lt_int q
theorem op_gt : OpR X (compareOp .Gt) (rI0 fun i j => .bl (decide (j < i))) := opB0 fun _ _ _ _ _ _ _ q => gt_int q
/-- is, is not of two objects that are tracked lists or instances -/
def isObj : HO → Bool
  | .lst _ => true
  | .ins _ _ _ => true
  | _ => false
theorem nomark (b : Expr) {op : CmpOp} (h : op ≠ .In := by decide) (h2 : op ≠ .NotIn := by decide) : behindInMarks op b = false := by
  have e1 : (op == CmpOp.In) = false := by cases op <;> first | rfl | exact absurd rfl h
  have e2 : (op == CmpOp.NotIn) = false := by cases op <;> first | rfl | exact absurd rfl h2
  cases b <;> simp [behindInMarks, e1, e2]
/-- a comparison as a value; hm: nomark b, or (for in, not in) by with_unfolding_all rfl -/
theorem pe_cmpR {op : CmpOp} {r : R2} (ho : OpR X (compareOp op) r) (ha : PE X a ta) (hb : PE X b tb) (hm : behindInMarks op b = false) : PE X (.Compare a [op] [b] pos) (tOp r ta tb) := by
  intro pins s σ H Q I h
  exact wpAny_Compare1 (binT ha hb I h fun v u s2 x y H2 I2 rx ry q => ho pins s2 σ H2 x y v u Q I2 rx ry q) hm
/-- a reading of a value as a test -/
def tTest (t : TE) : TT := fun σ H Q => t σ H fun x H' => ∃ k, x = .bl k ∧ Q k H'
theorem pt_cmpR {op : CmpOp} {r : R2} (ho : OpR X (compareOp op) r) (ha : PE X a ta) (hb : PE X b tb) (hm : behindInMarks op b = false) : PT X (.Compare a [op] [b] pos) (tTest (tOp r ta tb)) := by
  intro pins s σ H Q I h
  refine wpAny_isTrue_Compare1 (thn (ha pins s σ H _ I h) fun v s1 ⟨x, H1, I1, r1, q1⟩ => thn (hb pins s1 σ H1 _ I1 q1) fun u s2 ⟨y, H2, I2, r2, q2⟩ =>
    thn (ho pins s2 σ H2 x y v u _ I2 r1 r2 q2) fun c s3 ⟨z, H3, I3, r3, k, e, q3⟩ => ?_) hm
  subst e
  cases r3
  exact wpAny_truthy_bool ⟨H3, I3, q3⟩
/-- a op1 b op2 c -/
def tChain (r r' : R2) (ta tb tc : TE) : TE := fun σ H Q => ta σ H fun x H1 => tb σ H1 fun y H2 => r x y H2 fun z H3 => ∃ k, z = .bl k ∧
  (if k = true then tc σ H3 fun w' H4 => r' y w' H4 Q else Q (.bl false) H3)
/-! ### truth -/
/-- a value's truth by the abstract heap -/
def TruV (K : PySem.W.Frag) (x : V) (H : Hp) (k : Bool) : Prop :=
  match x with
  | .non => k = false
  | .bl b => k = b
  | .int i => k = (i != 0)
  | .str y => y.length ≤ sizeLine ∧ k = ((y.length : Int) != 0)
  | .byt y => y.size ≤ sizeLine ∧ k = ((y.size : Int) != 0)
  | .ref p => (∃ xs, SqL K H p xs ∧ k = !xs.isEmpty) ∨ (∃ xs, SqT K H p xs ∧ k = !xs.isEmpty) ∨ ∃ kvs, H p = some (.dK kvs) ∧ k = !kvs.isEmpty
  | _ => False
theorem isEmpty_kv {κ : Type} {kvs : List (κ × V)} {vs : List (κ × Value)} (r : KV kvs vs) : (!vs.isEmpty) = !kvs.isEmpty := by
  cases r <;> rfl
theorem isEmpty_of {xs : List V} {its : List Value} (r : Vals xs its) : (!its.toArray.isEmpty) = !xs.isEmpty := by
  cases r <;> simp
theorem line63 : (sizeLine : Nat) < 2 ^ 63 := by rw [sizeLine_eq]; decide
theorem tru_ok : TruR X (fun x H Q => ∃ k, TruV X.K x H k ∧ Q k H) := by
  intro pins s σ H x v Q I rx h
  obtain ⟨k, e, q⟩ := h
  have hl := line63
  have hs : sizeLine = 16777216 := sizeLine_eq
  cases x with
  | non =>
    cases rx
    have e' : k = false := e
    subst e'
    exact truthy_none ⟨H, I, q⟩
  | bl b =>
    cases rx
    have e' : k = b := e
    subst e'
    exact wpAny_truthy_bool ⟨H, I, q⟩
  | int i =>
    obtain ⟨t, rfl⟩ := rx
    have e' : k = (i != 0) := e
    subst e'
    exact PySem.P.truthy_int ⟨H, I, q⟩
  | str y =>
    obtain ⟨t, rfl⟩ := rx
    obtain ⟨hy, e'⟩ : y.length ≤ sizeLine ∧ k = ((y.length : Int) != 0) := e
    subst e'
    exact PySem.P.truthy_str (by omega) ⟨H, I.tok _, q⟩
  | byt y =>
    obtain ⟨t, rfl⟩ := rx
    obtain ⟨hy, e'⟩ : y.size ≤ sizeLine ∧ k = ((y.size : Int) != 0) := e
    subst e'
    exact PySem.W.truthy_bytes (by omega) ⟨H, I.tok _, q⟩
  | ref p =>
    cases rx
    have e' : (∃ xs, SqL X.K H p xs ∧ k = !xs.isEmpty) ∨ (∃ xs, SqT X.K H p xs ∧ k = !xs.isEmpty) ∨ ∃ kvs, H p = some (.dK kvs) ∧ k = !kvs.isEmpty := e
    rcases e' with ⟨xs, hx, e'⟩ | ⟨xs, hx, e'⟩ | ⟨kvs, hx, e'⟩
    · subst e'
      obtain ⟨its, r, pl, hz⟩ := I.list hx
      have hlen := r.length
      exact wpAny_truthy_list pl.isList (by simp only [List.size_toArray]; omega) ⟨H, I.tok _, by rw [isEmpty_of r]; exact q⟩
    · subst e'
      obtain ⟨its, r, pl, hz⟩ := I.tuple hx
      have hlen := r.length
      exact truthy_tuple pl (by simp only [List.size_toArray]; omega) ⟨H, I.tok _, by rw [isEmpty_of r]; exact q⟩
    · subst e'
      obtain ⟨hz, hS, vs, r, m⟩ : kvs.length ≤ sizeLine ∧ (p == sysModules) = false ∧ ∃ vs, KV kvs vs ∧ s.heap.DictOf (mixKind X.prog X.w) p vs := I.hok p _ hx
      have hlen : kvs.length = vs.length := Paired.length r
      exact wpAny_truthy_dict hS m (by omega) ⟨H, I.tok _, by rw [isEmpty_kv r]; exact q⟩
  | _ => exact (show False from e).elim
/-- any expression whose test is its value's truth (a name, a call, a subscript, a field ..: he by fun _ => rfl) -/
theorem pt_truth (ha : PE X a ta) (he : ∀ whole, isTrue a X.env whole = (do let v ← whole; standAt a.pos; holding [v] (truthy v))) :
    PT X a (fun σ H Q => ta σ H fun x H' => ∃ k, TruV X.K x H' k ∧ Q k H') := by
  intro pins s σ H Q I h
  exact isTrue_plain (thn (ha pins s σ H _ I h) fun v s1 ⟨x, H1, I1, r1, q1⟩ => tru_ok pins s1 σ H1 x v Q I1 r1 q1) (he _)

/-! ### strs and bytes -/
theorem op_add_str : OpR X (binaryOp .Add) (fun x y H Q => ∃ i j, x = .str i ∧ y = .str j ∧ i.length + j.length ≤ sizeLine ∧ Q (.str (i ++ j)) H) := by
  intro pins s σ H x y v u Q I rx ry h
  obtain ⟨i, j, rfl, rfl, hz, q⟩ := h
  obtain ⟨t, rfl⟩ := rx
  obtain ⟨t', rfl⟩ := ry
  exact add_str (fun t' tk => ⟨.str (i ++ j), H, I.tok _, ⟨_, rfl⟩, q⟩) hz
def PlainIxT (b : Expr) : Prop := ∀ o i, subscripted b false o i = operate [o, i] (getItem o i)
/-! ### scalar builtins, by CallR -/
theorem vals1 {x : V} {us : List Value} (r : Vals [x] us) : ∃ u, us = [u] ∧ RelV x u := by
  cases r with
  | cons r1 r2 => cases r2; exact ⟨_, rfl, r1⟩
theorem vals2 {x y : V} {us : List Value} (r : Vals [x, y] us) : ∃ u w', us = [u, w'] ∧ RelV x u ∧ RelV y w' := by
  cases r with
  | cons r1 r2 =>
    cases r2 with
    | cons r3 r4 => cases r4; exact ⟨_, _, rfl, r1, r3⟩
theorem call_str_int : CallR X (.type "str") (fun xs H Q => ∃ i, xs = [.int i] ∧ i.natAbs.log2 < 1920 ∧ Q (.str (toString i)) H) := by
  intro pins s σ H xs us Q I r h
  obtain ⟨i, rfl, hz, q⟩ := h
  obtain ⟨u, rfl, t, rfl⟩ := vals1 r
  exact PySem.P.str_of_int hz ⟨.str _, H, I.tok _, ⟨_, rfl⟩, q⟩
/-- len of a str, a bytes, a list, a tuple -/
def LenV (K : PySem.W.Frag) (x : V) (H : Hp) (n : Nat) : Prop :=
  match x with
  | .str y => y.length ≤ sizeLine ∧ n = y.length
  | .byt y => y.size ≤ sizeLine ∧ n = y.size
  | .ref p => (∃ xs, SqL K H p xs ∧ n = xs.length) ∨ ∃ xs, SqT K H p xs ∧ n = xs.length
  | _ => False
end
end L2

namespace L2
open PySem PySem.Spec PyProof.Rows

/-! ### an instance, its attributes a map -/
structure ObjM (h : Heap) (x dx C : Addr) (mA : Str → Option Value) : Prop where
  obj : h.get? x = some (PySem.W.instObj C dx)
  ns : h.Ns1 dx mA
  ne : dx ≠ x

theorem lookIn_ns {h : Heap} {dx : Addr} {mA : Str → Option Value} (n : h.Ns1 dx mA) : ∃ od, h.get? dx = some od ∧ ∀ name, PySem.W.lookIn name od = some (mA name) := by
  obtain ⟨o, es, ep, ho, hd, hk, _, hm⟩ := n
  refine ⟨o, ho, fun name => ?_⟩
  have e := hm name
  unfold nsFind findBy at e
  rw [← Array.find?_toList] at e
  unfold PySem.W.lookIn
  rw [hd]
  dsimp only
  split
  · rename_i y q
    rw [q] at e
    exact congrArg some e
  · rename_i q
    rw [q] at e
    have a : es.toList.any (·.refKey) = false := by
      rw [List.any_eq_false]
      intro y hy
      obtain ⟨z, t, hkey⟩ := hk y (Array.mem_toList_iff.mp hy)
      simp [DictEntry.refKey, hkey]
    have a' : ¬ es.toList.any (·.refKey) = true := by rw [a]; exact Bool.false_ne_true
    rw [if_neg a']
    exact congrArg some e

theorem ObjM.look {h : Heap} {x dx C : Addr} {mA : Str → Option Value} (I : ObjM h x dx C mA) : ∃ od, PySem.W.InstAt h x (PySem.W.instObj C dx) C (some od) ∧ ∀ name, PySem.W.lookIn name od = some (mA name) :=
  let ⟨od, ho, hl⟩ := lookIn_ns I.ns
  ⟨od, ⟨I.obj, rfl, rfl, ho⟩, hl⟩

section
variable {prog : Program} {w : World} {A : Around} {E : Value → Shared → Prop} {s : Shared} {K : PySem.W.Frag} {x dx C f : Addr} {mA : Str → Option Value} {name : Str} {v : Value}

theorem get_map {expr : Bool} {Q : Value → Shared → Prop} (X : K.In s.heap) (I : ObjM s.heap x dx C mA) (hg : PySem.W.plainGet K C name = true) (hh : PySem.W.hasDictIn K C = true)
    (ha : PySem.W.findIn K (.ref C) name = some none) (hv : mA name = some v) (hv' : PySem.W.handedIn v = true) (h : Q v { s with toks := s.toks + 1 }) :
    wpAny (model prog w) A (getAttr (.ref x) name expr) Q E s := by
  obtain ⟨od, J, hl⟩ := I.look
  exact PySem.W.get_value X J (PySem.W.plainGet_of hg).1 (PySem.W.findObj_own hh ha rfl (by rw [hl, hv])) hv' h

theorem get_meth {pl : Sem Bool} {Q : Value × List Value → Shared → Prop} (X : K.In s.heap) (I : ObjM s.heap x dx C mA) (hg : PySem.W.plainGet K C name = true)
    (hf : PySem.W.findIn K (.ref C) name = some (some (.ref f))) (ht : PySem.W.isFn K (.ref f) = true) (hv : mA name = none) (h : Q (.ref f, [.ref x]) s) :
    wpAny (model prog w) A (getMethod (.ref x) name pl) Q E s := by
  obtain ⟨od, J, hl⟩ := I.look
  exact PySem.W.method_fn X J (PySem.W.plainGet_of hg).1 (PySem.W.plainGet_of hg).2 hf (beq_iff_eq.mp ht) (by show (PySem.W.lookIn name od).map (·.isSome) = some false; rw [hl, hv]; rfl) h

theorem set_map {ns : List Str} {Q : Unit → Shared → Prop} (X : K.In s.heap) (I : ObjM s.heap x dx C mA)
    (hs : PySem.W.findIn K (.ref C) "__setattr__" = some (some (.builtin "object.__setattr__"))) (hp : PySem.W.plainOver K C = true) (ht : PySem.W.takerIn K C name = some none) (hh : PySem.W.hasDictIn K C = true)
    (hw : PySem.Within mA ns) (hsz : ns.length ≤ sizeLine)
    (h : ∀ h', ObjM h' x dx C (fun y => if y = name then some v else mA y) → Heap.SameBut dx s.heap h' → Q () { s with heap := h', toks := s.toks + 2 }) :
    wpAny (model prog w) A (setAttr (.ref x) name v) Q E s := by
  obtain ⟨od, J, hl⟩ := I.look
  refine PySem.W.set_plain X J hs (PySem.W.osa_open (s := { s with toks := s.toks + 1 }) (r := none) X J hp ht fun b => ?_)
  obtain ⟨cd, hc, hd'⟩ := PySem.W.any_some hh
  have hx : s.heap.get? x = some ⟨.ref C, some dx, .plain, #[]⟩ := I.obj
  refine wpAny_bind (wpAny_pure (wpAny_bind (wpAny_bind (wpAny_loadPart hx (wpAny_bind (PySem.W.Looks.here (s := { s with toks := s.toks + 1 }) (PySem.W.looks_clsIn X hc) ?_))))))
  rw [hd']
  refine wpAny_pure (a := some dx) (wpAny_bind (wpAny_pure (wpAny_bind ?_)))
  refine wpAny_nsSet1 (s := { s with toks := s.toks + 1 }) I.ns fun h' hn2 hs2 => ?_
  obtain ⟨oD, esD, epD, hoD, hdD, hcD⟩ := hn2.count (PySem.Within.cons name v hw)
  refine wpAny_bind (wpAny_lookBehind hoD (by rw [hdD]; exact pastItsLine_dict (Nat.le_trans hcD (by rw [List.length_cons]; omega))) ?_)
  exact wpAny_pure (h _ ⟨(hs2.2 _ (Ne.symm I.ne)).trans I.obj, hn2, I.ne⟩ hs2)

/-- C(..): the dict at the heap's end, the instance behind it; then its __init__ -/
theorem make_map {R : Result → Shared → Prop} {vs : List Value} {kw : List (Str × Value)} (X : K.In s.heap) (hm : PySem.W.makesIn K C = true)
    (hi : PySem.W.findIn K (.ref C) "__init__" = some (some (.ref f))) (hf : PySem.W.typeIn K (.ref f) = some (.type "function"))
    (h : codeAny (model prog w) (A.under (.builtin "type.__call__" ⟨.ref C :: vs, kw⟩)) (.call (.ref f) ⟨.ref (s.heap.objs.size + 1) :: vs, kw⟩) (PySem.W.InitBack (s.heap.objs.size + 1) R)
      { s with heap := (s.heap.push PySem.W.emptyDict).push (PySem.W.instObj C s.heap.objs.size) }) :
    codeAny (model prog w) A (.call (.ref C) ⟨vs, kw⟩) R s := by
  obtain ⟨hh, g, d, t, os⟩ := s
  exact PySem.W.make_core (PySem.W.makes_of X hm) (PySem.W.looks_findIn X hi) (fun self => PySem.W.bind_fn X self hf) (.inl rfl) h
/-- C() where there is no __init__ but object's -/
theorem make_map0 {R : Result → Shared → Prop} (X : K.In s.heap) (hm : PySem.W.makesIn K C = true)
    (hi : PySem.W.findIn K (.ref C) "__init__" = some (some (.builtin "object.__init__")))
    (hb : ∀ self, PySem.W.Looks (model prog w) s.heap (bindSpecial (.builtin "object.__init__") self) (.builtin "object.__init__", [self]))
    (h : codeAny (model prog w) (A.under (.builtin "type.__call__" ⟨[.ref C], []⟩)) (.call (.builtin "object.__init__") ⟨[.ref (s.heap.objs.size + 1)], []⟩) (PySem.W.InitBack (s.heap.objs.size + 1) R)
      { s with heap := (s.heap.push PySem.W.emptyDict).push (PySem.W.instObj C s.heap.objs.size) }) :
    codeAny (model prog w) A (.call (.ref C) ⟨[], []⟩) R s := by
  obtain ⟨hh, g, d, t, os⟩ := s
  exact PySem.W.make_core (PySem.W.makes_of X hm) (PySem.W.looks_findIn X hi) hb (.inr ⟨rfl, rfl⟩) h
end

/-! ### the attributes as a list of pairs -/
def putF (f : Str) (v : V) : List (Str × V) → List (Str × V)
  | [] => [(f, v)]
  | (g, x) :: r => if g = f then (g, v) :: r else (g, x) :: putF f v r
theorem lookup_putF (f g : Str) (v : V) : ∀ fs : List (Str × V), (putF f v fs).lookup g = if g = f then some v else fs.lookup g
  | [] => by
    show List.lookup g [(f, v)] = _
    by_cases h : g = f
    · have hb : (g == f) = true := beq_iff_eq.mpr h
      simp only [List.lookup, hb, if_pos h]
    · have hb : (g == f) = false := beq_eq_false_iff_ne.mpr h
      simp only [List.lookup, hb, if_neg h]
  | (k, x) :: r => by
    have ih := lookup_putF f g v r
    rw [show putF f v ((k, x) :: r) = (if k = f then (k, v) :: r else (k, x) :: putF f v r) from rfl]
    by_cases hk : k = f
    · rw [if_pos hk]
      by_cases h : g = k
      · have hb : (g == k) = true := beq_iff_eq.mpr h
        simp only [List.lookup, hb, if_pos (h.trans hk)]
      · have hb : (g == k) = false := beq_eq_false_iff_ne.mpr h
        simp only [List.lookup, hb, if_neg (fun e : g = f => h (e.trans hk.symm))]
    · rw [if_neg hk]
      by_cases h : g = k
      · have hb : (g == k) = true := beq_iff_eq.mpr h
        simp only [List.lookup, hb, if_neg (fun e : g = f => hk (h.symm.trans e))]
      · have hb : (g == k) = false := beq_eq_false_iff_ne.mpr h
        simp only [List.lookup, hb]
        exact ih
theorem keys_putF (f : Str) (v : V) : ∀ fs : List (Str × V), f ∈ (putF f v fs).map (·.1) ∧ ∀ g, g ∈ fs.map (·.1) → g ∈ (putF f v fs).map (·.1)
  | [] => ⟨by simp [putF], fun g h => by simp at h⟩
  | (k, x) :: r => by
    obtain ⟨i1, i2⟩ := keys_putF f v r
    rw [show putF f v ((k, x) :: r) = (if k = f then (k, v) :: r else (k, x) :: putF f v r) from rfl]
    by_cases hk : k = f
    · rw [if_pos hk]
      subst hk
      exact ⟨by simp, fun g h => by simpa using h⟩
    · rw [if_neg hk]
      refine ⟨?_, fun g h => ?_⟩
      · rw [List.map_cons]
        exact List.mem_cons_of_mem _ i1
      · rw [List.map_cons] at h ⊢
        rcases List.mem_cons.mp h with e | e
        · exact List.mem_cons.mpr (.inl e)
        · exact List.mem_cons_of_mem _ (i2 g e)
theorem length_putF (f : Str) (v : V) : ∀ fs : List (Str × V), (putF f v fs).length ≤ fs.length + 1
  | [] => by simp [putF]
  | (k, x) :: r => by
    have ih := length_putF f v r
    rw [show putF f v ((k, x) :: r) = (if k = f then (k, v) :: r else (k, x) :: putF f v r) from rfl]
    by_cases hk : k = f
    · rw [if_pos hk, List.length_cons, List.length_cons]; omega
    · rw [if_neg hk, List.length_cons, List.length_cons]; omega

theorem RelO.some_of {v : V} {o : Option Value} (r : RelO (some v) o) : ∃ u, o = some u ∧ RelV v u := by
  cases o with
  | none => exact (show False from r).elim
  | some u => exact ⟨u, rfl, r⟩
theorem RelO.none_of {o : Option Value} (r : RelO none o) : o = none := by
  cases o with
  | none => rfl
  | some u => exact (show False from r).elim
theorem handed_of {v : V} {u : Value} (r : RelV v u) : PySem.W.handedIn u = true := by
  cases v with
  | non => cases (show u = Value.none from r); rfl
  | bl b => cases (show u = Value.bool b from r); rfl
  | int i => obtain ⟨t, e⟩ := (show ∃ t, u = Value.int i t from r); cases e; rfl
  | str x => obtain ⟨t, e⟩ := (show ∃ t, u = Value.str x t from r); cases e; rfl
  | byt b => obtain ⟨t, e⟩ := (show ∃ t, u = Value.bytes b t from r); cases e; rfl
  | flt b => obtain ⟨t, e⟩ := (show ∃ t, u = Value.float b t from r); cases e; rfl
  | ref a => cases (show u = Value.ref a from r); rfl
  | ty n => cases (show u = Value.type n from r); rfl

section
variable {P : Program} {w : World} {H H' : Hp} {h h' : Heap} {a C dx : Addr} {fs fs' : List (Str × V)}
theorem ins_get (hok : HOk P w H h) (e : H a = some (.ins C dx fs)) : ∃ mA, ObjM h a dx C mA ∧ (∀ f, RelO (fs.lookup f) (mA f)) ∧ PySem.Within mA (fs.map (·.1)) ∧ fs.length ≤ 1000 ∧ H dx = some (.own a) := by
  obtain ⟨d, z, ne, ob, mA, n, r, q⟩ := (show ObjOk P w H h a (.ins C dx fs) from hok a _ e)
  exact ⟨mA, ⟨ob, n, ne⟩, r, q, z, d⟩
end

/-! ### what of the text a class must have -/
structure Cls (K : PySem.W.Frag) (C : Addr) : Prop where
  pg : PySem.W.plainGet K C Str.empty = true
  hd : PySem.W.hasDictIn K C = true
  po : PySem.W.plainOver K C = true
  sa : PySem.W.findIn K (.ref C) "__setattr__" = some (some (.builtin "object.__setattr__"))
theorem Cls.get {K : PySem.W.Frag} {C : Addr} (c : Cls K C) (f : Str) : PySem.W.plainGet K C f = true := c.pg
/-- no class of it has the name -/
def NoAttr (K : PySem.W.Frag) (C : Addr) (f : Str) : Prop := PySem.W.findIn K (.ref C) f = some none
theorem NoAttr.taker {K : PySem.W.Frag} {C : Addr} {f : Str} (n : NoAttr K C f) : PySem.W.takerIn K C f = some none := by
  unfold PySem.W.takerIn
  rw [show PySem.W.findIn K (.ref C) f = some none from n]
  rfl
/-- a constant of the class -/
structure Con (K : PySem.W.Frag) (C : Addr) (f : Str) (v : V) (u : Value) : Prop where
  at_ : PySem.W.findIn K (.ref C) f = some (some u)
  rel : RelV v u
  get : PySem.W.specialIn K u "__get__" = some none
  cp : PySem.W.copiedNames.contains f = false
/-- a method: a plain def of the class or of one above it -/
structure Meth (K : PySem.W.Frag) (C : Addr) (m : Str) (f : Addr) : Prop where
  at_ : PySem.W.findIn K (.ref C) m = some (some (.ref f))
  fn : PySem.W.isFn K (.ref f) = true
  kp : PySem.W.keepIn K (.ref f) = true

section
variable {X : Cx} {pins : List (Addr × Obj)} {σ : St} {H : Hp} {s : Shared} {a C dx : Addr} {fs : List (Str × V)} {f : Str} {v : V} {A : Around} {E : Value → Shared → Prop}

theorem getattr_ok {b : Bool} {Q : Value → Shared → Prop} (I : Inv X pins σ H s) (e : H a = some (.ins C dx fs)) (c : Cls X.K C) (n : NoAttr X.K C f) (l : fs.lookup f = some v)
    (h : ∀ u s', Inv X pins σ H s' → RelV v u → Q u s') : wpAny (model X.prog X.w) A (getAttr (.ref a) f b) Q E s := by
  obtain ⟨mA, O, r, _, _, _⟩ := ins_get I.hok e
  obtain ⟨u, hu, ru⟩ := RelO.some_of (v := v) (o := mA f) (by rw [← l]; exact r f)
  exact get_map I.kIn O (c.get f) c.hd n hu (handed_of ru) (h u _ (I.tok _) ru)

theorem getmeth_ok {m : Str} {g : Addr} {pl : Sem Bool} {Q : Value × List Value → Shared → Prop} (I : Inv X pins σ H s) (e : H a = some (.ins C dx fs)) (c : Cls X.K C) (k : Meth X.K C m g) (l : fs.lookup m = none)
    (h : Q (.ref g, [.ref a]) s) : wpAny (model X.prog X.w) A (getMethod (.ref a) m pl) Q E s := by
  obtain ⟨mA, O, r, _, _, _⟩ := ins_get I.hok e
  have hn : mA m = none := RelO.none_of (by rw [← l]; exact r m)
  exact get_meth I.kIn O (c.get m) k.at_ k.fn hn h

theorem setattr_ok {y : V} {u : Value} {Q : Unit → Shared → Prop} (I : Inv X pins σ H s) (e : H a = some (.ins C dx fs)) (c : Cls X.K C) (n : NoAttr X.K C f) (hl : fs.length < 1000) (ry : RelV y u)
    (h : ∀ s', Inv X pins σ (upd H a (.ins C dx (putF f y fs))) s' → Q () s') : wpAny (model X.prog X.w) A (setAttr (.ref a) f u) Q E s := by
  obtain ⟨mA, O, r, wi, _, ho⟩ := ins_get I.hok e
  have hz : (fs.map (·.1)).length ≤ sizeLine := by rw [List.length_map, sizeLine_eq]; omega
  refine set_map I.kIn O c.sa c.po n.taker c.hd wi hz fun h' O' sb => h _ ?_
  have hd : ∃ o, h'.get? dx = some o := let ⟨o, _, _, e', _⟩ := O'.ns; ⟨o, e'⟩
  refine I.write (x := a) (e := dx) (by rw [e]; exact True.intro) (.inr ho) (fun b q hb z => (sb.2 b hb).trans z) hd ?_
  refine ⟨by rw [upd_ne O.ne]; exact ho, ?_, O.ne, O'.obj, _, O'.ns, fun g => ?_, fun g hg => ?_⟩
  · have := length_putF f y fs; omega
  · show RelO ((putF f y fs).lookup g) (if g = f then some u else mA g)
    rw [lookup_putF]
    by_cases q : g = f
    · rw [if_pos q, if_pos q]; exact ry
    · rw [if_neg q, if_neg q]; exact r g
  · by_cases q : g = f
    · rw [q]; exact (keys_putF f y fs).1
    · refine (keys_putF f y fs).2 g (wi g fun z => hg ?_)
      show (if g = f then some u else mA g) = none
      rw [if_neg q]; exact z

/-- a new instance, tracked, without attributes -/
theorem Inv.made (I : Inv X pins σ H s) : Inv X pins σ (upd (upd H s.heap.objs.size (.own (s.heap.objs.size + 1))) (s.heap.objs.size + 1) (.ins C s.heap.objs.size []))
    { s with heap := (s.heap.push PySem.W.emptyDict).push (PySem.W.instObj C s.heap.objs.size) } := by
  have e1 : (s.heap.push PySem.W.emptyDict).get? s.heap.objs.size = some PySem.W.emptyDict := Heap.get?_push_size s.heap rfl
  have e2 : ((s.heap.push PySem.W.emptyDict).push (PySem.W.instObj C s.heap.objs.size)).get? (s.heap.objs.size + 1) = some (PySem.W.instObj C s.heap.objs.size) := by
    have := Heap.get?_push_size (s.heap.push PySem.W.emptyDict) (o := PySem.W.instObj C s.heap.objs.size) rfl
    rwa [Heap.size_push] at this
  have e3 : (s.heap.push PySem.W.emptyDict).Ns s.heap.objs.size (fun _ => none) := ⟨PySem.W.emptyDict, #[], _, e1, rfl, (fun e he => absurd he (by simp)), fun _ => rfl⟩
  have I1 := I.laid (a := s.heap.objs.size) (o := .own (s.heap.objs.size + 1)) (h' := s.heap.push PySem.W.emptyDict) (t' := s.toks) (fun b u q => Heap.get?_push_of_some _ q) (Nat.le_refl _) ⟨_, e1⟩
  refine I1.laid (a := s.heap.objs.size + 1) (o := .ins C s.heap.objs.size []) (t' := s.toks) (fun b u q => Heap.get?_push_of_some _ q) (Nat.le_of_eq (Heap.size_push _ _)) ?_
  have ne : s.heap.objs.size ≠ s.heap.objs.size + 1 := Nat.ne_of_lt (Nat.lt_succ_self _)
  refine ⟨by rw [upd_ne ne, upd_same], Nat.zero_le _, ne, e2, fun _ => none, (Heap.Ns1.of_empty e3).at fun o q => Heap.get?_push_of_some _ q, fun _ => True.intro, fun y hy => absurd rfl hy⟩

/-- e.f where nothing but the object is asked: through attributeBase (super) and the last hold -/
theorem attr_of {prog : Program} {w : World} {env : Env} {e : Expr} {f : Str} {pos : Pos} {s : Shared} {Q : Value → Shared → Prop} (hb : attributeBase e f env (eval e env) = eval e env)
    (h : wpAny (model prog w) A (eval e env) (fun o s₁ => wpAny (model prog w) A (getAttr o f true) Q E s₁) E s) : wpAny (model prog w) A (eval (.Attribute e f pos) env) Q E s :=
  Attribute_any_ h (by rw [arm_eval_Attribute, hb])
end

/-! ### readings and rules -/
/-- e.f, an attribute of the instance -/
def tFld (K : PySem.W.Frag) (ta : TE) (f : Str) : TE := fun σ H Q => ta σ H fun x H1 => ∃ a C dx fs v, x = .ref a ∧ H1 a = some (.ins C dx fs) ∧ Cls K C ∧ NoAttr K C f ∧ fs.lookup f = some v ∧ Q v H1
/-- e.f, a constant of the class -/
def tCon (K : PySem.W.Frag) (ta : TE) (f : Str) : TE := fun σ H Q => ta σ H fun x H1 => ∃ a C dx fs v u, x = .ref a ∧ H1 a = some (.ins C dx fs) ∧ Cls K C ∧ Con K C f v u ∧ fs.lookup f = none ∧ Q v H1
/-- e.f = value -/
def sFld (K : PySem.W.Frag) (ta tv : TE) (f : Str) : TS := fun D σ H => tv σ H fun y H1 => ta σ H1 fun x H2 => ∃ a C dx fs, x = .ref a ∧ H2 a = some (.ins C dx fs) ∧ Cls K C ∧ NoAttr K C f ∧ fs.length < 1000 ∧
  D.nx σ (upd H2 a (.ins C dx (putF f y fs)))
/-- an augmented operator on two values -/
def InOp (X : Cx) (op : Operator) (rd : V → V → Hp → VK → Prop) : Prop :=
  ∀ (pins : List (Addr × Obj)) (s : Shared) (σ : St) (H : Hp) (x y : V) (u v : Value) (Q : VK), Inv X pins σ H s → RelV x u → RelV y v → rd x y H Q → wpAny (model X.prog X.w) X.A (inplaceOp op u v) (EP X pins σ Q) X.xe s
/-- e.f op= value -/
def sFldAug (K : PySem.W.Frag) (ta tv : TE) (rd : V → V → Hp → VK → Prop) (f : Str) : TS := fun D σ H => ta σ H fun x H1 => ∃ a C dx fs v, x = .ref a ∧ H1 a = some (.ins C dx fs) ∧ Cls K C ∧ NoAttr K C f ∧ fs.lookup f = some v ∧
  tv σ H1 fun y H2 => rd v y H2 fun z H3 => ∃ dx' fs', H3 a = some (.ins C dx' fs') ∧ fs'.length < 1000 ∧ D.nx σ (upd H3 a (.ins C dx' (putF f z fs')))

section
variable {X : Cx} {o e value : Expr} {f : Str} {pos pos' tpos : Pos} {ta tv : TE}
theorem pe_fld (he : PE X e ta) (hb : attributeBase e f X.env (eval e X.env) = eval e X.env) : PE X (.Attribute e f pos) (tFld X.K ta f) := by
  intro pins s σ H Q I h
  refine attr_of hb (thn (he pins s σ H _ I h) fun u s1 ⟨x, H1, I1, rx, a, C, dx, fs, v, ex, ea, c, n, l, q⟩ => ?_)
  subst ex
  obtain rfl : u = Value.ref a := rx
  exact getattr_ok I1 ea c n l fun u' s2 I2 ru => ⟨v, H1, I2, ru, q⟩
theorem ps_fld (ha : PE X o ta) (hv : PE X value tv) (hs : swapsWith value (some (.Attribute o f pos')) pos.line X.env = pure false) : PS X (.Assign [.Attribute o f pos'] value pos) (sFld X.K ta tv f) := by
  intro pins s σ H D I h
  refine plainObj_wpAny_Assign_Attribute (thn (hv pins s σ H _ I h) fun u s1 ⟨y, H1, I1, ry, q⟩ => thn (ha pins s1 σ H1 _ I1 q) fun ov s2 ⟨x, H2, I2, rx, a, C, dx, fs, ex, ea, c, n, l, q2⟩ => ?_) hs
  subst ex
  obtain rfl : ov = Value.ref a := rx
  exact setattr_ok I2 ea c n l ry fun s3 I3 => ⟨σ, _, I3, q2⟩
def rAdd : V → V → Hp → VK → Prop := fun x y H Q => ∃ i j, x = .int i ∧ y = .int j ∧ Q (.int (i + j)) H
def rSub : V → V → Hp → VK → Prop := fun x y H Q => ∃ i j, x = .int i ∧ y = .int j ∧ Q (.int (i - j)) H
end

/-! ### isinstance -/
section
variable {X : Cx} {pins : List (Addr × Obj)} {σ : St} {H : Hp} {s : Shared} {A : Around} {E : Value → Shared → Prop} {Q : Value → Shared → Prop} {c : Value} {b : Bool}
/-- the type of a value, as the fragment's deciders take it; for an instance its class -/
inductive TyOf (K : PySem.W.Frag) (H : Hp) : V → Value → Prop where
  | non : TyOf K H .non (.type "NoneType")
  | bl (x : Bool) : TyOf K H (.bl x) (.type "bool")
  | int (i : Int) : TyOf K H (.int i) (.type "int")
  | str (x : Str) : TyOf K H (.str x) (.type "str")
  | flt (x : UInt64) : TyOf K H (.flt x) (.type "float")
  | lst {a : Addr} {xs : List V} (e : H a = some (.lst xs)) : TyOf K H (.ref a) (.type "list")
  | frz {a : Addr} {o : Obj} {xs : List V} (e : H a = some (.frz o (.lst xs))) : TyOf K H (.ref a) (.type "list")
  | tup {a : Addr} {xs : List V} (e : H a = some (.tup xs)) : TyOf K H (.ref a) (.type "tuple")
  | dK {a : Addr} {kvs : List (Key × V)} (e : H a = some (.dK kvs)) : TyOf K H (.ref a) (.type "dict")
  | dT {a : Addr} {kvs : List (List Key × V)} (e : H a = some (.dT kvs)) : TyOf K H (.ref a) (.type "dict")
  | ins {a C dx : Addr} {fs : List (Str × V)} (e : H a = some (.ins C dx fs)) (cl : Cls K C) (ha : PySem.W.findIn K (.ref C) "__class__" = some (some (.builtin "object.__class__")))
      (hn : PySem.W.specialIn K (.builtin "object.__class__") "__get__" = some (some (.builtin "getset_descriptor.__get__"))) (htk : PySem.W.takesIn K (.builtin "object.__class__") = some true)
      (hm : PySem.W.mroIn K C (.type "object") = some true) : TyOf K H (.ref a) (.ref C)
/-- isinstance(x, c) for one class c, a built-in or an own one: kitOne's answer -/
theorem isinst_ok {x : V} {u t : Value} (I : Inv X pins σ H s) (rx : RelV x u) (ty : TyOf X.K H x t) (e : PySem.W.kitOne X.K t c = some b) (h : ∀ tk, Q (.bool b) { s with toks := tk }) :
    wpAny (model X.prog X.w) A (call (.builtin "isinstance") [u, c]) Q E s := by
  cases ty with
  | non => cases (show u = Value.none from rx); exact PySem.W.kia_one PySem.W.kitx_none I.kIn True.intro e (fun z => nomatch z) h
  | bl y => cases (show u = Value.bool y from rx); exact PySem.W.kia_one PySem.W.kitx_bool I.kIn True.intro e (fun z => nomatch z) h
  | int i => obtain ⟨t, q⟩ := (show ∃ t, u = Value.int i t from rx); cases q; exact PySem.W.kia_one PySem.W.kitx_int I.kIn True.intro e (fun z => nomatch z) h
  | str y => obtain ⟨t, q⟩ := (show ∃ t, u = Value.str y t from rx); cases q; exact PySem.W.kia_one PySem.W.kitx_str I.kIn True.intro e (fun z => nomatch z) h
  | flt y => obtain ⟨t, q⟩ := (show ∃ t, u = Value.float y t from rx); cases q; exact PySem.W.kia_one PySem.W.kitx_float I.kIn True.intro e (fun z => nomatch z) h
  | @lst a xs ea =>
    cases (show u = Value.ref a from rx)
    obtain ⟨_, _, n, _, h1⟩ := (show ObjOk X.prog X.w H s.heap a (.lst xs) from I.hok a _ ea)
    exact PySem.W.kia_one PySem.W.kitx_list I.kIn ⟨_, h1, rfl⟩ e (fun z => nomatch z) h
  | @frz a ob xs ea =>
    cases (show u = Value.ref a from rx)
    obtain ⟨_, _, _, n, _, h1⟩ := (show ObjOk X.prog X.w H s.heap a (.frz ob (.lst xs)) from I.hok a _ ea)
    exact PySem.W.kia_one PySem.W.kitx_list I.kIn ⟨_, h1, rfl⟩ e (fun z => nomatch z) h
  | @tup a xs ea =>
    cases (show u = Value.ref a from rx)
    obtain ⟨_, _, _, p⟩ := (show ObjOk X.prog X.w H s.heap a (.tup xs) from I.hok a _ ea)
    obtain ⟨o, h1, h2, _⟩ := p
    exact PySem.W.kia_one PySem.W.kitx_tuple I.kIn ⟨o, h1, h2⟩ e (fun z => nomatch z) h
  | @dK a kvs ea =>
    cases (show u = Value.ref a from rx)
    obtain ⟨_, _, vs, _, p⟩ := (show ObjOk X.prog X.w H s.heap a (.dK kvs) from I.hok a _ ea)
    obtain ⟨o, es, ep, h1, h2, _⟩ := p
    exact PySem.W.kia_one PySem.W.kitx_dict I.kIn ⟨o, h1, h2.1⟩ e (fun z => nomatch z) h
  | @dT a kvs ea =>
    cases (show u = Value.ref a from rx)
    obtain ⟨_, _, xs, _, o, es, ep, h1, h2, _⟩ := (show ObjOk X.prog X.w H s.heap a (.dT kvs) from I.hok a _ ea)
    exact PySem.W.kia_one PySem.W.kitx_dict I.kIn ⟨o, h1, h2.1⟩ e (fun z => nomatch z) h
  | @ins a C dx fs ea cl ha hn htk hm =>
    cases (show u = Value.ref a from rx)
    obtain ⟨mA, O, _⟩ := ins_get I.hok ea
    obtain ⟨od, J, _⟩ := O.look
    exact PySem.W.kia_one (PySem.W.kitx_own (cl.get _) cl.hd ha hn htk hm) I.kIn J e (fun z => nomatch z) h
end
end L2

namespace L2
open PySem PySem.Spec PyProof.Rows

/-! ### room -/
structure Room (k : Nat) (A : Around) : Prop where
  hd : A.handled = none
  dp : A.depth + 3 * k + 5 < recursionLimit
  un : A.units + 16 * k + 200 < cLine
theorem Room.mono {j k : Nat} {A : Around} (r : Room k A) (h : j ≤ k) : Room j A := ⟨r.hd, by have := r.dp; omega, by have := r.un; omega⟩
theorem Room.deeper {k : Nat} {A : Around} (r : Room (k + 1) A) (env : Env) : Room k (A.deeper env) :=
  ⟨r.hd, by have := r.dp; show A.depth + 1 + 3 * k + 5 < _; omega, by have := r.un; show A.units + 3 + 16 * k + 200 < _; omega⟩
theorem make_depth {A : Around} {C : Addr} {us : List Value} {kw : List (Str × Value)} : (A.under (.builtin "type.__call__" ⟨.ref C :: us, kw⟩)).depth = A.depth + 1 := by
  first | rfl | simp [Around.under, Code.weight, Code.isCreation, Code.isGuard, Code.isCaller, Code.frames, Code.isFrame, guardIds]
theorem make_units {A : Around} {C : Addr} {us : List Value} {kw : List (Str × Value)} : (A.under (.builtin "type.__call__" ⟨.ref C :: us, kw⟩)).units = A.units + 1 := by
  first | rfl | simp [Around.under, Code.cUnits, Code.frames, Code.isFrame]
theorem Room.make {k : Nat} {A : Around} (r : Room (k + 1) A) (C : Addr) (us : List Value) (kw : List (Str × Value)) : Room k (A.under (.builtin "type.__call__" ⟨.ref C :: us, kw⟩)) :=
  ⟨r.hd, by have := r.dp; rw [make_depth]; omega, by have := r.un; rw [make_units]; omega⟩
theorem Room.depth {k : Nat} {A : Around} (r : Room k A) : A.depth < recursionLimit := by have := r.dp; omega
theorem Room.units {k : Nat} {A : Around} (r : Room k A) : A.units + 64 < cLine := by have := r.un; omega
/-! ### argument lists and displays -/
def tNil : TA := fun _ H Q => Q [] H
def tCons (ta : TE) (tr : TA) : TA := fun σ H Q => ta σ H fun x H1 => tr σ H1 fun xs H2 => Q (x :: xs) H2
section
variable {X : Cx} {e : Expr} {es : List Expr} {te : TE} {t : TA} {pos : Pos}
theorem pa_nil : PA X [] tNil := fun _ _ _ _ H Q I h => Calls.spliced_nil ⟨[], H, I, .nil, h⟩
theorem pa_cons (ha : PE X e te) (hr : PA X es t) (hs : starEach (e :: es) X.env = (false, eval e X.env) :: starEach es X.env := by rfl) : PA X (e :: es) (tCons te t) := by
  intro pos pins s σ H Q I h
  rw [hs]
  show wpAny _ _ (spliced ((false, eval e X.env) :: backTo pos (starEach es X.env))) _ _ s
  refine Calls.spliced_cons (thn (ha pins s σ H _ I h) fun u s1 ⟨x, H1, I1, r1, q1⟩ => ?_)
  exact thn (hr pos pins s1 σ H1 _ I1 q1) fun us s2 ⟨xs, H2, I2, r2, q2⟩ => ⟨x :: xs, H2, I2, .cons r1 r2, q2⟩

/-- a tuple, a list of written items -/
def tTup (t : TA) : TE := fun σ H Q => t σ H fun xs H1 => xs.length ≤ sizeLine ∧ ∀ p, H1 p = none → Q (.ref p) (upd H1 p (.tup xs))
def tLst (t : TA) : TE := fun σ H Q => t σ H fun xs H1 => xs.length ≤ sizeLine ∧ ∀ p, H1 p = none → Q (.ref p) (upd H1 p (.lst xs))
theorem pe_tup {x1} (h : PA X es t) : PE X (.Tuple es x1 pos) (tTup t) := by
  intro pins s σ H Q I hq
  refine wpAny_Tuple_spliced (thn (h pos pins s σ H _ I hq) fun us s1 ⟨xs, H1, I1, r, z, q⟩ => ⟨by rw [← r.length]; exact z, ?_⟩)
  have hf : H1 s1.heap.objs.size = none := I1.hok.fresh (Nat.le_refl _)
  refine ⟨.ref s1.heap.objs.size, upd H1 s1.heap.objs.size (.tup xs), I1.laid (t' := s1.toks) (fun b u e => Heap.get?_push_of_some _ e) (Nat.le_refl _) ?_, rfl, q _ hf⟩
  exact ⟨z, us, r, ⟨_, Heap.get?_push_size _ rfl, rfl, _, rfl⟩⟩
theorem pe_lst (h : PA X es t) : PE X (.List es pos) (tLst t) := by
  intro pins s σ H Q I hq
  refine wpAny_List_spliced (thn (h pos pins s σ H _ I hq) fun us s1 ⟨xs, H1, I1, r, z, q⟩ => ⟨by rw [← r.length]; exact z, ?_⟩)
  have hf : H1 s1.heap.objs.size = none := I1.hok.fresh (Nat.le_refl _)
  refine ⟨.ref s1.heap.objs.size, upd H1 s1.heap.objs.size (.lst xs), I1.laid (t' := s1.toks) (fun b u e => Heap.get?_push_of_some _ e) (Nat.le_refl _) ?_, rfl, q _ hf⟩
  exact ⟨z, us, 0, r, Heap.get?_push_size _ rfl⟩
end

/-! ### what a def promises -/
/-- a def's promise: the bound arguments in the parameters' order, the heap, the wanted end, the wanted exception -/
abbrev Sp := List V → Hp → VK → XK → Prop
/-- how an exception lies behind a call (file 08 gives it): the callers' frames, abstract heap and state ahead of the call, the wish, the exception, the state -/
abbrev CXT := List Env → Hp → Shared → XK → Value → Shared → Prop

/-- the state at a call -/
structure Env0 (P : Program) (w : World) (K : PySem.W.Frag) (mg : Str → Option Value) (base : Heap) (A : Around) (outer : List Env) (s : Shared) (H : Hp) : Prop where
  frames : A.frames = some outer
  mod : Mod K mg base
  bs : ∀ b o, base.get? b = some o → s.heap.get? b = some o ∧ H b = none
  bsz : base.objs.size ≤ s.heap.objs.size
  funs : s.heap.FunFrames base outer
  frf : ∀ b ∈ frs outer, H b = none
  hok : HOk P w H s.heap
  bare : AllBare s.gens
/-- a call's end -/
def CE (outer : List Env) (P : Program) (w : World) (H : Hp) (s : Shared) (Q : VK) (u : Value) (s' : Shared) : Prop :=
  ∃ v H', s'.os = s.os ∧ AllBare s'.gens ∧ Un (frs outer) [] H H' s.heap s'.heap ∧ HOk P w H' s'.heap ∧ RelV v u ∧ Q v H'
def CR (CX : CXT) (outer : List Env) (P : Program) (w : World) (H : Hp) (s : Shared) (Q : VK) (E : XK) (r : Result) (s' : Shared) : Prop :=
  match r with
  | .ok (.ret u) => CE outer P w H s Q u s'
  | .ok _ => False
  | .error e => CX outer H s E e s'
structure FnOk (P : Program) (w : World) (K : PySem.W.Frag) (mg : Str → Option Value) (base : Heap) (CX : CXT) (k : Nat) (f : Addr) (fd : FuncData) (ps : List Str) (sp : Sp) : Prop where
  len : ∀ vs H Q E, sp vs H Q E → vs.length = ps.length
  run : ∀ (A : Around) (outer : List Env) (s : Shared) (H : Hp) (args : Args) (us : List Value) (vs : List V) (Q : VK) (E : XK), Room k A → Env0 P w K mg base A outer s H → BindsTo s fd args (ps.zip us) → Vals vs us → sp vs H Q E →
    codeAny (model P w) A (.call (.ref f) args) (CR CX outer P w H s Q E) s
theorem Env0.make {P : Program} {w : World} {K : PySem.W.Frag} {mg : Str → Option Value} {base : Heap} {A : Around} {outer : List Env} {s : Shared} {H : Hp} (e : Env0 P w K mg base A outer s H) (C : Addr) (us : List Value) (kw : List (Str × Value)) :
    Env0 P w K mg base (A.under (.builtin "type.__call__" ⟨.ref C :: us, kw⟩)) outer s H := ⟨by first | exact e.frames | (simpa [Around.under, Code.envs, Code.isFrame, pushEnvs] using e.frames), e.mod, e.bs, e.bsz, e.funs, e.frf, e.hok, e.bare⟩
section
variable {X : Cx} {pins : List (Addr × Obj)} {σ : St} {H : Hp} {s s' : Shared}
/-- from a body: what a callee wants -/
theorem Inv.env0 (I : Inv X pins σ H s) : Env0 X.prog X.w X.K X.mg X.base X.A X.stack s H :=
  ⟨I.ok.frames, I.ok.mod, I.bs, Nat.le_trans I.ok.bsz I.sz, I.stack, I.stkFree, I.hok, I.bare⟩
/-- behind a call -/
theorem Inv.after {Q : VK} {u : Value} (I : Inv X pins σ H s) (h : CE X.stack X.prog X.w H s Q u s') : EP X pins σ Q u s' := by
  obtain ⟨v, H', os, bare, un, hok, r, q⟩ := h
  obtain ⟨hh, g, d, t, os'⟩ := s'
  obtain rfl : os' = s.os := os
  exact ⟨v, H', I.call (h' := hh) (g' := g) (d' := d) (t' := t) (ch := []) un hok bare (fun b z => absurd z (by simp)), r, q⟩
end

/-! ### calls -/
/-- f(..): the written arguments, then the defaults dvs; E: what is wanted of an exception -/
def tCall (sp : Sp) (dvs : List V) (E : XK) (t : TA) : TE := fun σ H Q => t σ H fun vs H1 => sp (vs ++ dvs) H1 Q E
/-- o.m(..) of an instance of the class at C -/
def tMeth (C : Addr) (m : Str) (sp : Sp) (dvs : List V) (E : XK) (ta : TE) (t : TA) : TE := fun σ H Q => ta σ H fun x H1 => ∃ a dx fs, x = .ref a ∧ H1 a = some (.ins C dx fs) ∧ fs.lookup m = none ∧
  t σ H1 fun vs H2 => sp (x :: (vs ++ dvs)) H2 Q E
/-- C(..): a new instance and its dict, then __init__ -/
def tMake (C : Addr) (sp : Sp) (dvs : List V) (E : XK) (t : TA) : TE := fun σ H Q => t σ H fun vs H1 => ∀ x dx, H1 x = none → H1 dx = none → dx ≠ x →
  sp (.ref x :: (vs ++ dvs)) (upd (upd H1 dx (.own x)) x (.ins C dx [])) (fun v H2 => v = .non ∧ Q (.ref x) H2) E

/-- how the parameters are bound: us the positional arguments, kw the keywords' values by name, ds the defaults that fill up -/
def Binds (K : PySem.W.Frag) (fd : FuncData) (ps : List Str) (ds : List Value) : Prop :=
  ∀ (s : Shared) (us : List Value), K.In s.heap → (us ++ ds).length = ps.length → BindsTo s fd ⟨us, []⟩ (ps.zip (us ++ ds))
/-- every parameter is given -/
theorem Binds.all {K : PySem.W.Frag} {fd : FuncData} {ps : List Str} (h : ∀ us : List Value, us.length = ps.length → bindArgs fd ⟨us, []⟩ = pure (ps.zip us)) : Binds K fd ps [] := fun s us _ hl => by
  rw [List.append_nil] at hl ⊢
  exact .of_eq (h us hl)

/-- an exception of a callee reaches what this body wants of exceptions -/
def Passes (CX : CXT) (X : Cx) (E : XK) : Prop := ∀ (pins : List (Addr × Obj)) (σ : St) (H : Hp) (s : Shared) (e : Value) (s' : Shared), Inv X pins σ H s → CX X.stack H s E e s' → X.xe e s'

section
variable {X : Cx} {CX : CXT} {k : Nat} {f C : Addr} {fd : FuncData} {ps : List Str} {sp : Sp} {dvs : List V} {ds : List Value} {E : XK} {x m : Str} {p pos apos : Pos} {e o : Expr} {es : List Expr} {ta : TE} {t : TA}

/-- the callee runs -/
theorem run_fn {pins : List (Addr × Obj)} {σ : St} {H : Hp} {s : Shared} {Q : VK} {us : List Value} {vs : List V} (F : FnOk X.prog X.w X.K X.mg X.base CX k f fd ps sp) (hr : Room k X.A) (hb : Binds X.K fd ps ds) (hd : Vals dvs ds) (hx : Passes CX X E)
    (I : Inv X pins σ H s) (r : Vals vs us) (h : sp (vs ++ dvs) H Q E) : wpAny (model X.prog X.w) X.A (call (.ref f) us) (EP X pins σ Q) X.xe s := by
  have r2 : Vals (vs ++ dvs) (us ++ ds) := r.append hd
  have hl : (us ++ ds).length = ps.length := by rw [← r2.length]; exact F.len _ _ _ _ h
  refine wpAny_call (codeAny_mono (F.run X.A X.stack s H ⟨us, []⟩ (us ++ ds) (vs ++ dvs) Q E hr I.env0 (hb s us I.kIn hl) r2 h) fun r s' hq => ?_)
  cases r with
  | error e => exact hx pins σ H s e s' I hq
  | ok fl =>
    cases fl with
    | ret u => exact I.after hq
    | next => exact False.elim hq
    | brk => exact False.elim hq
    | cont => exact False.elim hq

theorem pe_call (F : FnOk X.prog X.w X.K X.mg X.base CX k f fd ps sp) (hr : Room k X.A) (hg : Gl X x) (hm : X.mg x = some (.ref f)) (hk : PySem.W.keepIn X.K (.ref f) = true) (hb : Binds X.K fd ps ds) (hd : Vals dvs ds) (hx : Passes CX X E)
    (ha : PA X (e :: es) t) (hdb : (x == ("__debug__" : Str)) = false := by decide) (he : starEach (e :: es) X.env = (false, eval e X.env) :: starEach es X.env := by rfl) (hpl : (backTo pos (starEach es X.env)).any (·.1) = false := by rfl) :
    PE X (.Call (.Name x p) (e :: es) [] pos) (tCall sp dvs E t) := by
  intro pins s σ H Q I h
  refine wpAny_Call_Name_kw (ld_glob I hg hm ?_ hdb)
  refine PySem.W.callWith_K (h₀ := X.base) I.ok.mod.kin hk (thn (ha pos pins s σ H _ I h) fun us s1 ⟨vs, H1, I1, r, q⟩ => ⟨I1.kIn, ?_⟩) he hpl
  exact run_fn F hr hb hd hx I1 r q
/-- o.m() -/
theorem pe_meth0 {pl : Sem Bool} (he : PE X o ta) (c : Cls X.K C) (hm : Meth X.K C m f) (F : FnOk X.prog X.w X.K X.mg X.base CX k f fd ps sp) (hr : Room k X.A) (hb : Binds X.K fd ps ds) (hd : Vals dvs ds) (hx : Passes CX X E)
    (ht : eval (.Call (.Attribute o m apos) [] [] pos) X.env = (do
      let ov ← eval o X.env
      standAt apos.atName
      let (f, first) ← holding [ov] (getMethod ov m pl)
      callWith pos f first (backTo pos (starEach [] X.env)) (backToKw pos (keywordEach [] X.env))) := by rfl) :
    PE X (.Call (.Attribute o m apos) [] [] pos) (tMeth C m sp dvs E ta tNil) := by
  intro pins s σ H Q I h
  refine PySem.W.methodCall_KW (pl := pl) (thn (he pins s σ H _ I h) fun u s1 ⟨x, H1, I1, rx, a, dx, fs, ex, ea, l, q⟩ => ?_) ht
  subst ex
  obtain rfl : u = Value.ref a := rx
  refine getmeth_ok I1 ea c hm l ?_
  exact PySem.W.callWith_K0 (first := [.ref a]) I1.kIn hm.kp (run_fn (us := [.ref a]) (vs := [.ref a]) F hr hb hd hx I1 (.cons rfl .nil) q)

/-- what a class must have to be made -/
structure Mk (K : PySem.W.Frag) (C f : Addr) : Prop where
  makes : PySem.W.makesIn K C = true
  init : PySem.W.findIn K (.ref C) "__init__" = some (some (.ref f))
  fn : PySem.W.isFn K (.ref f) = true
  kp : PySem.W.keepIn K (.ref C) = true

theorem run_make {pins : List (Addr × Obj)} {σ : St} {H : Hp} {s : Shared} {Q : VK} {us : List Value} {vs : List V} (M : Mk X.K C f) (F : FnOk X.prog X.w X.K X.mg X.base CX k f fd ps sp) (hr : Room (k + 1) X.A) (hb : Binds X.K fd ps ds) (hd : Vals dvs ds)
    (hx : Passes CX X E) (I : Inv X pins σ H s) (r : Vals vs us)
    (h : ∀ x dx, H x = none → H dx = none → dx ≠ x → sp (.ref x :: (vs ++ dvs)) (upd (upd H dx (.own x)) x (.ins C dx [])) (fun v H2 => v = .non ∧ Q (.ref x) H2) E) :
    wpAny (model X.prog X.w) X.A (call (.ref C) us) (EP X pins σ Q) X.xe s := by
  have hq := h (s.heap.objs.size + 1) s.heap.objs.size (I.hok.fresh (Nat.le_succ _)) (I.hok.fresh (Nat.le_refl _)) (Nat.ne_of_lt (Nat.lt_succ_self _))
  have I2 := Inv.made (C := C) I
  have r2 : Vals (V.ref (s.heap.objs.size + 1) :: (vs ++ dvs)) (Value.ref (s.heap.objs.size + 1) :: (us ++ ds)) := .cons rfl (r.append hd)
  have hl : (Value.ref (s.heap.objs.size + 1) :: us ++ ds).length = ps.length := by
    have e := r2.length
    rw [F.len _ _ _ _ hq] at e
    exact e.symm
  refine wpAny_call (make_map (f := f) I.kIn M.makes M.init (beq_iff_eq.mp M.fn) (codeAny_mono (F.run _ X.stack _ _ ⟨Value.ref (s.heap.objs.size + 1) :: us, []⟩ (Value.ref (s.heap.objs.size + 1) :: (us ++ ds)) _ _ E (hr.make C us [])
    (I2.env0.make C us []) (hb _ (Value.ref (s.heap.objs.size + 1) :: us) I2.kIn hl) r2 hq) fun r s' hq' => ?_))
  cases r with
  | error e => exact hx pins σ _ _ e s' I2 hq'
  | ok fl =>
    cases fl with
    | ret u =>
      obtain ⟨v, H', I3, rv, ev, q3⟩ := I2.after hq'
      subst ev
      exact ⟨rv, ⟨V.ref (s.heap.objs.size + 1), H', I3, rfl, q3⟩⟩
    | next => exact False.elim hq'
    | brk => exact False.elim hq'
    | cont => exact False.elim hq'
theorem pe_make (M : Mk X.K C f) (F : FnOk X.prog X.w X.K X.mg X.base CX k f fd ps sp) (hr : Room (k + 1) X.A) (hg : Gl X x) (hm : X.mg x = some (.ref C)) (hb : Binds X.K fd ps ds) (hd : Vals dvs ds) (hx : Passes CX X E)
    (ha : PA X (e :: es) t) (hdb : (x == ("__debug__" : Str)) = false := by decide) (he : starEach (e :: es) X.env = (false, eval e X.env) :: starEach es X.env := by rfl) (hpl : (backTo pos (starEach es X.env)).any (·.1) = false := by rfl) :
    PE X (.Call (.Name x p) (e :: es) [] pos) (tMake C sp dvs E t) := by
  intro pins s σ H Q I h
  refine wpAny_Call_Name_kw (ld_glob I hg hm ?_ hdb)
  refine PySem.W.callWith_K (h₀ := X.base) I.ok.mod.kin M.kp (thn (ha pos pins s σ H _ I h) fun us s1 ⟨vs, H1, I1, r, q⟩ => ⟨I1.kIn, ?_⟩) he hpl
  exact run_make M F hr hb hd hx I1 r q
end

/-! ### keywords -/
/-- the values of the keywords, from the left -/
def PK (X : Cx) (kws : List Keyword) (t : TA) : Prop :=
  ∀ (pos : Pos) (pins : List (Addr × Obj)) (s : Shared) (σ : St) (H : Hp) (Q : List V → Hp → Prop), Inv X pins σ H s → t σ H Q → wpAny (model X.prog X.w) X.A (evalAll ((backToKw pos (keywordEach kws X.env)).map (·.2))) (AP X pins σ Q) X.xe s
section
variable {X : Cx} {CX : CXT} {k : Nat} {f C : Addr} {fd : FuncData} {ps ks : List Str} {sp : Sp} {E : XK} {x m : Str} {p pos apos kpos : Pos} {e o : Expr} {es : List Expr} {kws : List Keyword} {te ta : TE} {t tk : TA} {nm : Option Str}
/-- how a call with keywords binds: g puts the positional values us and the keywords' values ws (names ks) in the parameters' order, defaults among them -/
structure KBinds (K : PySem.W.Frag) (fd : FuncData) (ps ks : List Str) (g : List Value → List Value → List Value) (gV : List V → List V → List V) : Prop where
  to : ∀ (s : Shared) (us ws : List Value), K.In s.heap → (g us ws).length = ps.length → BindsTo s fd ⟨us, ks.zip ws⟩ (ps.zip (g us ws))
  rel : ∀ {vs : List V} {us : List Value} {zs : List V} {ws : List Value}, Vals vs us → Vals zs ws → Vals (gV vs zs) (g us ws)
def tCallK (sp : Sp) (gV : List V → List V → List V) (E : XK) (t tk : TA) : TE := fun σ H Q => t σ H fun vs H1 => tk σ H1 fun zs H2 => sp (gV vs zs) H2 Q E
variable {g : List Value → List Value → List Value} {gV : List V → List V → List V}
end

/-! ### a def's body keeps its promise -/
/-- names: the parameters first -/
structure FnScope (N P : List Str) (sc : Scope) : Prop where
  kind : sc.kind = .function
  co : sc.isCoroutine = false
  gen : sc.isGenerator = false
  nd : N.Nodup
  pre : N.take P.length = P
  par : ∀ x ∈ P, sc.names.lookup x = some .local ∨ sc.names.lookup x = some .cell
  nofree : ∀ y ∈ sc.names, y.2 ≠ .free

theorem bindL_out {kindOf : Str → Option NameKind} {x : Str} : ∀ {binds : List (Str × Value)} {m : Str → Option Value}, (∀ v, (x, v) ∉ binds) → bindL kindOf binds m x = m x
  | [], _, _ => rfl
  | (n, v) :: r, m, h => by
    unfold bindL
    rw [bindL_out fun w hw => h w (List.mem_cons_of_mem _ hw)]
    split
    · have : x ≠ n := by rintro rfl; exact h v List.mem_cons_self
      simp [this]
    · rfl
theorem bindC_out {kindOf : Str → Option NameKind} {x : Str} : ∀ {binds : List (Str × Value)} {m : Str → Option Value}, (∀ v, (x, v) ∉ binds) → bindC kindOf binds m x = m x
  | [], _, _ => rfl
  | (n, v) :: r, m, h => by
    unfold bindC
    rw [bindC_out fun w hw => h w (List.mem_cons_of_mem _ hw)]
    split
    · rfl
    · have : x ≠ n := by rintro rfl; exact h v List.mem_cons_self
      simp [this]
theorem bindL_get {kindOf : Str → Option NameKind} {x : Str} {v : Value} : ∀ {P : List Str} {vs : List Value} {i : Nat} {m : Str → Option Value}, P.Nodup → P[i]? = some x → vs[i]? = some v → kindOf x = some .local →
    bindL kindOf (P.zip vs) m x = some v
  | [], _, _, _, _, h, _, _ => by simp at h
  | _ :: _, [], _, _, _, _, h, _ => by simp at h
  | p :: P, w :: vs, 0, m, nd, h1, h2, hk => by
    simp at h1 h2; subst h1; subst h2
    show bindL kindOf ((p, w) :: P.zip vs) m p = _
    unfold bindL
    rw [bindL_out fun v hv => (List.nodup_cons.mp nd).1 (List.of_mem_zip hv).1, if_pos hk]
    simp
  | p :: P, w :: vs, i + 1, m, nd, h1, h2, hk => by
    show bindL kindOf ((p, w) :: P.zip vs) m x = _
    unfold bindL
    exact bindL_get (i := i) (List.nodup_cons.mp nd).2 (by simpa using h1) (by simpa using h2) hk
theorem bindC_get {kindOf : Str → Option NameKind} {x : Str} {v : Value} : ∀ {P : List Str} {vs : List Value} {i : Nat} {m : Str → Option Value}, P.Nodup → P[i]? = some x → vs[i]? = some v → kindOf x ≠ some .local →
    bindC kindOf (P.zip vs) m x = some v
  | [], _, _, _, _, h, _, _ => by simp at h
  | _ :: _, [], _, _, _, _, h, _ => by simp at h
  | p :: P, w :: vs, 0, m, nd, h1, h2, hk => by
    simp at h1 h2; subst h1; subst h2
    show bindC kindOf ((p, w) :: P.zip vs) m p = _
    unfold bindC
    rw [bindC_out fun v hv => (List.nodup_cons.mp nd).1 (List.of_mem_zip hv).1, if_neg hk]
    simp
  | p :: P, w :: vs, i + 1, m, nd, h1, h2, hk => by
    show bindC kindOf ((p, w) :: P.zip vs) m x = _
    unfold bindC
    exact bindC_get (i := i) (List.nodup_cons.mp nd).2 (by simpa using h1) (by simpa using h2) hk

/-- the names' values at the entry -/
def start (N : List Str) (vs : List V) : St := vs.map some ++ List.replicate (N.length - vs.length) none

/-- the context of a def's body, at its entry; an exception leaves the frame, then lies as CX says -/
def cxOf (CX : CXT) (P : Program) (w : World) (K : PySem.W.Frag) (mg : Str → Option Value) (base : Heap) (N : List Str) (qual : Str) (scope : Scope) (f : Addr) (cd : Value) (A : Around) (outer : List Env) (s : Shared) (H : Hp) (E : XK) : Cx where
  prog := P
  w := w
  K := K
  mg := mg
  base := base
  A := A.deeper (envOfC qual scope s.heap.objs.size f cd)
  N := N
  s₀ := s
  H₀ := H
  env := envOfC qual scope s.heap.objs.size f cd
  outer := outer
  stack := envOfC qual scope s.heap.objs.size f cd :: outer
  ex := []
  calm := true
  fn := fun _ => true
  pn := []
  xe := fun e s' => wpAny (model P w) (A.deeper (envOfC qual scope s.heap.objs.size f cd)) (leaving (envOfC qual scope s.heap.objs.size f cd) e) (fun _ s'' => CX outer H s E e s'') (fun e' s'' => CX outer H s E e' s'') s'

theorem cell_has {sc : Scope} {n : Nat} {x : Str} (h : sc.names.lookup x = some .cell) : ∃ c, (cellsFrom n sc.names []).lookup x = some c := by
  have q := PySem.W.cellsFrom_some sc.names n [] (.inl h)
  exact Option.isSome_iff_exists.mp q

theorem inv_start {CX : CXT} {P : Program} {w : World} {K : PySem.W.Frag} {mg : Str → Option Value} {base : Heap} {N ps : List Str} {qual : Str} {scope : Scope} {f : Addr} {cd : Value} {A : Around} {outer : List Env} {s s1 : Shared} {H : Hp} {E : XK} {us : List Value} {vs : List V}
    (S : FnScope N ps scope) (hd : A.handled = none) (e0 : Env0 P w K mg base A outer s H) (hl : vs.length = ps.length) (r : Vals vs us)
    (x : InCallC s s.heap.objs.size (bindL (envOfC qual scope s.heap.objs.size f cd).kindOf (ps.zip us) fun _ => none) (cellsFrom (s.heap.objs.size + 1) scope.names []) (bindC (envOfC qual scope s.heap.objs.size f cd).kindOf (ps.zip us) fun _ => none) s1) :
    Inv (cxOf CX P w K mg base N qual scope f cd A outer s H E) [] (start N vs) H s1 := by
  have hpl : ps.length ≤ N.length := by have := congrArg List.length S.pre; rw [List.length_take] at this; omega
  obtain ⟨h1, tk, rfl, hk⟩ := x.done
  have noA : ∀ b : Addr, b ∉ (cxOf CX P w K mg base N qual scope f cd A outer s H E).ex := fun b z => absurd (show b ∈ ([] : List Addr) from z) (by simp)
  refine ⟨⟨e0.mod, S.kind, rfl, rfl, Nat.le_refl _, fun y z c h1 h2 => ?_, fun y hy => ?_, fun y c _ h => ?_, fun _ => hd, Around.frames_deeper e0.frames, .inr ⟨rfl, rfl⟩, fun b z => absurd z (noA b), e0.bs, e0.bsz, fun b _ _ => noA b, fun b z => absurd z (noA b), e0.funs, e0.frf⟩,
    rfl, e0.bare, Un.kept hk, ⟨_, x.toInCall.ns, fun i y v h1 h2 h3 => ?_⟩, fun y c h => ⟨_, x.cell y c h⟩, e0.hok.fresh (Nat.le_refl _), fun y c h => ?_, fun p hp => absurd (show p ∈ ([] : List (Addr × Obj)) from hp) (by simp), e0.hok.kept hk, ?_⟩
  · exact name_of_addr x.apart (PySem.mem_of_lookup h1) (PySem.mem_of_lookup h2)
  · have hy : scope.names.lookup y = some .cell ∨ scope.names.lookup y = some .free := hy
    rcases hy with hy | hy
    · exact cell_has hy
    · exact absurd rfl (S.nofree _ (PySem.mem_of_lookup hy))
  · exact Nat.le_of_lt (x.above y c (PySem.mem_of_lookup h))
  · have hi : i < vs.length := by
      unfold start at h2
      by_cases hi : i < vs.length
      · exact hi
      · rw [List.getElem?_append_right (by simpa using hi)] at h2
        rw [List.getElem?_replicate] at h2
        split at h2 <;> cases h2
    have ha : vs[i]? = some v := by
      unfold start at h2
      rw [List.getElem?_append_left (by simpa using hi), List.getElem?_map] at h2
      cases e : vs[i]? with
      | none => rw [e] at h2; cases h2
      | some a => rw [e] at h2; cases h2; rfl
    obtain ⟨u, hu, rv⟩ := r.get ha
    have hp : ps[i]? = some y := by
      rw [← S.pre, List.getElem?_take_of_lt (by omega)]; exact h1
    have ndP : ps.Nodup := by rw [← S.pre]; exact S.nd.sublist (List.take_sublist _ _)
    refine ⟨u, rv, ?_⟩
    rcases S.par y (List.mem_of_getElem? hp) with k | k
    · exact .inl ⟨k, bindL_get ndP hp hu k⟩
    · obtain ⟨c, e⟩ := cell_has (n := s.heap.objs.size + 1) k
      refine .inr ⟨.inl k, c, e, ?_⟩
      have q := x.cell y c e
      rw [bindC_get ndP hp hu (by show scope.names.lookup y ≠ _; rw [k]; decide)] at q
      exact q
  · exact e0.hok.fresh (Nat.le_of_lt (x.above y c (PySem.mem_of_lookup h)))
  · unfold start
    show _ = N.length
    rw [List.length_append, List.length_map, List.length_replicate]
    omega

/-- THE RULE: a def (or a method) of the text, by its body. The body's reading t is chosen for each entry; it is run at the parameters' values -/
theorem fn_of {CX : CXT} {P : Program} {w : World} {K : PySem.W.Frag} {mg : Str → Option Value} {base : Heap} {k : Nat} {f : Addr} {name qual : Str} {params : Arguments} {body : List Stmt} {scope : Scope} {dV kV doc pm cdv ct oc : Value} {an od : Option Addr}
    {osl : Array (Option Value)} {N ps : List Str} {sp : Sp} (lk : K.lookup f = some ⟨oc, od, .func (PySem.W.fnOf name qual params body scope dV kV doc pm an cdv ct), osl⟩) (hcd : PySem.W.codeIn K cdv qual = true) (S : FnScope N ps scope)
    (len : ∀ vs H Q E, sp vs H Q E → vs.length = ps.length)
    (hbody : ∀ (A : Around) (outer : List Env) (s : Shared) (H : Hp) (vs : List V) (Q : VK) (E : XK), Room k (A.deeper (envOfC qual scope s.heap.objs.size f cdv)) → sp vs H Q E →
      ∃ t, PSs (cxOf CX P w K mg base N qual scope f cdv A outer s H E) body t ∧ t { nx := fun _ H' => Q .non H', rt := Q } (start N vs) H) :
    FnOk P w K mg base CX (k + 1) f (PySem.W.fnOf name qual params body scope dV kV doc pm an cdv ct) ps sp := by
  refine ⟨len, fun A outer s H args us vs Q E hr e0 hb r hsp => ?_⟩
  have hl := len _ _ _ _ hsp
  have KX : K.In s.heap := e0.mod.kin.keeps fun b o e => (e0.bs b o e).1
  have lim : s.heap.NoLimit := e0.mod.nolimit.keeps fun b o e => (e0.bs b o e).1
  have hkind : ∀ y ∈ ps.zip us, scope.names.lookup y.1 = some .local ∨ (scope.names.lookup y.1 = some .cell ∧ ((cellsFrom (s.heap.objs.size + 1) scope.names []).lookup y.1).isSome = true) := fun ⟨n, v⟩ hy => by
    rcases S.par n (List.of_mem_zip hy).1 with q | q
    · exact .inl q
    · exact .inr ⟨q, PySem.W.cellsFrom_some _ _ _ (.inl q)⟩
  refine codeAny_call_function hr.depth (KX _ _ lk) rfl S.co S.gen rfl (PySem.W.codeRec_of KX hcd) (hb _ _ _ _ ?_)
  refine wpAny_newFunctionEnv_cells S.kind hkind fun env he s1 x => ?_
  subst he
  refine ⟨lim.keeps x.toInCall.keep, codeAny_func ?_⟩
  obtain ⟨t, ht, hq⟩ := hbody A outer s H vs Q E (hr.deeper _) hsp
  have I : Inv (cxOf CX P w K mg base N qual scope f cdv A outer s H E) [] (start N vs) H s1 := inv_start S hr.hd e0 hl r x
  refine wpAny_mono (ht [] s1 (start N vs) H _ I hq) (fun fl s' hs => ?_) fun e s' hs => hs
  have fin : ∀ {σ' : St} {H' : Hp} {v : V} {u : Value}, Inv (cxOf CX P w K mg base N qual scope f cdv A outer s H E) [] σ' H' s' → RelV v u → Q v H' → CE outer P w H s Q u s' :=
    fun {σ' H' v u} J rv q => ⟨v, H', J.os, J.bare, J.base, J.hok, rv, q⟩
  cases fl with
  | ret u =>
    obtain ⟨v, σ', H', J, rv, q⟩ := hs
    exact fin J rv q
  | next =>
    obtain ⟨σ', H', J, q⟩ := hs
    exact fin (v := V.non) (u := Value.none) J rfl q
  | brk =>
    obtain ⟨_, _, _, q⟩ := hs
    exact False.elim q
  | cont =>
    obtain ⟨_, _, _, q⟩ := hs
    exact False.elim q
end L2

namespace L2
open PySem PySem.Spec PyProof.Rows
section
variable {X : Cx} {x : Str} {p pos : Pos} {e : Expr} {es : List Expr} {t : TA} {id T : String} {r : List V → Hp → VK → Prop}

def tCB (r : List V → Hp → VK → Prop) (t : TA) : TE := fun σ H Q => t σ H fun vs H1 => r vs H1 Q
/-- f(e, ..), f a built-in function -/
theorem pe_callB (hc : CallR X (.builtin id) r) (hg : Gl X x) (hm : X.mg x = none) (hv : bootBuiltins x = some (.builtin id)) (ha : PA X (e :: es) t) (hn : x ≠ "__name__" := by decide) (hdb : (x == ("__debug__" : Str)) = false := by decide)
    (he : starEach (e :: es) X.env = (false, eval e X.env) :: starEach es X.env := by rfl) (hpl : (backTo pos (starEach es X.env)).any (·.1) = false := by rfl) : PE X (.Call (.Name x p) (e :: es) [] pos) (tCB r t) := by
  intro pins s σ H Q I h
  refine wpAny_Call_Name_kw (ld_blt I hg hm hv ?_ hn hdb)
  exact PyProof.Rows.callWith_builtin1 (thn (ha pos pins s σ H _ I h) fun us s1 ⟨vs, H1, I1, r1, q1⟩ => hc pins s1 σ H1 vs us Q I1 r1 q1) he hpl
/-- T(e, ..), T a built-in type -/
theorem pe_callTy (hc : CallR X (.type T) r) (hg : Gl X x) (hm : X.mg x = none) (hv : bootBuiltins x = some (.type T)) (ha : PA X (e :: es) t) (hn : x ≠ "__name__" := by decide) (hdb : (x == ("__debug__" : Str)) = false := by decide)
    (he : starEach (e :: es) X.env = (false, eval e X.env) :: starEach es X.env := by rfl) (hpl : (backTo pos (starEach es X.env)).any (·.1) = false := by rfl) : PE X (.Call (.Name x p) (e :: es) [] pos) (tCB r t) := by
  intro pins s σ H Q I h
  refine wpAny_Call_Name_kw (ld_blt I hg hm hv ?_ hn hdb)
  exact PyProof.Rows.callWith_type1 (thn (ha pos pins s σ H _ I h) fun us s1 ⟨vs, H1, I1, r1, q1⟩ => hc pins s1 σ H1 vs us Q I1 r1 q1) he hpl
end
end L2

namespace HT
open PySem PyProof.Rows

/-- t < u of tuples of ints -/
def lexLt : List Int → List Int → Bool
  | [], [] => false
  | [], _ :: _ => true
  | _ :: _, [] => false
  | x :: xs, y :: ys => if x = y then lexLt xs ys else decide (x < y)
section
open PySem.SeqAt
open PySem.AutoSeq1 (wpAny_loadPart')
open PySem.MeetsSeq PySem.MeetsSeq2 PySem.MeetsSeq3

end

section
variable {prog : Program} {w : World} {A : Around} {E : Value → Shared → Prop} {s : Shared}

/-! ### t[a:b], not the whole -/
/-- a slice's bound as a place among n (d where it is left out) -/
def sIx (n d : Nat) : Option Int → Nat
  | none => d
  | some v => if v < 0 then (v + (n : Int)).toNat else min v.toNat n
theorem sIx_none (n d : Nat) : sIx n d none = d := rfl
theorem sIx_nat (n d k : Nat) : sIx n d (some (k : Int)) = min k n := by
  show (if (k : Int) < 0 then ((k : Int) + (n : Int)).toNat else min (k : Int).toNat n) = min k n
  rw [if_neg (by omega), Int.toNat_natCast]
end
end HT

namespace L2
open PySem PySem.Spec PyProof.Rows

/-! ### the parts of a slice -/
abbrev TO := St → Hp → (Option Int → Hp → Prop) → Prop
/-- a slice's part (left out, or an int) -/
def PO (X : Cx) (e : Option Expr) (t : TO) : Prop :=
  ∀ (pins : List (Addr × Obj)) (s : Shared) (σ : St) (H : Hp) (Q : Option Int → Hp → Prop), Inv X pins σ H s → t σ H Q →
    wpAny (model X.prog X.w) X.A (evalPart e X.env) (fun u s' => ∃ o H', Inv X pins σ H' s' ∧ IsPart u o ∧ Q o H') X.xe s
def tNoPart : TO := fun _ H Q => Q none H
def tPart (t : TE) : TO := fun σ H Q => t σ H fun x H1 => ∃ i, x = .int i ∧ Q (some i) H1

section
variable {X : Cx} {e : Expr} {te : TE} {lo hi : Option Expr} {tl th : TO} {pos p2 : Pos}

theorem po_none : PO X none tNoPart := by
  intro pins s σ H Q I h
  rw [evalPart_none]
  exact wpAny_pure ⟨none, H, I, .none, h⟩
theorem po_some (h : PE X e te) : PO X (some e) (tPart te) := by
  intro pins s σ H Q I hw
  rw [evalPart_some]
  refine thn (h pins s σ H _ I hw) fun u s1 ⟨x, H1, I1, r1, q1⟩ => ?_
  obtain ⟨i, rfl, q⟩ := q1
  obtain ⟨t, rfl⟩ := r1
  exact ⟨some i, H1, I1, .int i t, q⟩

/-- what a slice of a value is, by values: the slice object stands at sl -/
def SlR (X : Cx) (r : V → Option Int → Option Int → Hp → VK → Prop) : Prop :=
  ∀ (pins : List (Addr × Obj)) (s : Shared) (σ : St) (H : Hp) (x : V) (v vl vu : Value) (lo hi : Option Int) (sl : Addr) (Q : VK), Inv X pins σ H s → RelV x v → s.heap.IsSliceOf sl vl vu .none → IsPart vl lo → IsPart vu hi → r x lo hi H Q →
    ∃ T id, typeLookup (.type T) "__getitem__" = pure (some (.builtin id)) ∧ s.TypeIs v T ∧ wpAny (model X.prog X.w) X.A (getItem v (.ref sl)) (EP X pins σ Q) X.xe s
def tSl (r : V → Option Int → Option Int → Hp → VK → Prop) (te : TE) (tl th : TO) : TE := fun σ H Q => te σ H fun x H1 => tl σ H1 fun l H2 => th σ H2 fun u H3 => r x l u H3 Q
/-- a[lo:hi], any a -/
theorem pe_slice {r : V → Option Int → Option Int → Hp → VK → Prop} (hr : SlR X r) (he : PE X e te) (hl : PO X lo tl) (hu : PO X hi th) : PE X (.Subscript e (.Slice lo hi none p2) pos) (tSl r te tl th) := by
  intro pins s σ H Q I h
  refine Subscript_ (thn (he pins s σ H _ I h) fun v s1 ⟨x, H1, I1, r1, q1⟩ => ?_)
  refine wpAny_Slice (thn (hl pins s1 σ H1 _ I1 q1) fun vl s2 ⟨l, H2, I2, pl, q2⟩ => thn (hu pins s2 σ H2 _ I2 q2) fun vu s3 ⟨u, H3, I3, pu, q3⟩ => ?_)
  rw [evalPart_none]
  refine wpAny_pure ?_
  have I4 : Inv X pins σ H3 { s3 with heap := s3.heap.push { cls := .type "slice", data := .fields #[vl, vu, .none] } } := I3.kept (t' := s3.toks) fun b ob q => Heap.get?_push_of_some _ q
  obtain ⟨T, id, hT, ht, hg⟩ := hr pins { s3 with heap := s3.heap.push { cls := .type "slice", data := .fields #[vl, vu, .none] } } σ H3 x v vl vu l u s3.heap.objs.size Q I4 r1 (Heap.IsSliceOf.new ..) pl pu q3
  show wpAny (model X.prog X.w) X.A (subscriptTail e (.Slice lo hi none p2) v (.ref s3.heap.objs.size)) (EP X pins σ Q) X.xe { s3 with heap := s3.heap.push { cls := .type "slice", data := .fields #[vl, vu, .none] } }
  exact tail_any (ops := [.ref s3.heap.objs.size, v]) ht hT hg (by with_unfolding_all rfl)

/-- the items of xs[lo:hi] -/
def cutV (xs : List V) (lo hi : Option Int) : List V := (xs.drop (HT.sIx xs.length 0 lo)).take (HT.sIx xs.length xs.length hi - HT.sIx xs.length 0 lo)
theorem cutV_length (xs : List V) (lo hi : Option Int) : (cutV xs lo hi).length ≤ xs.length := by
  unfold cutV
  rw [List.length_take, List.length_drop]
  omega
/-- t[lo:hi], not the whole of it (the whole would be t itself) -/
def rSlT (K : PySem.W.Frag) : V → Option Int → Option Int → Hp → VK → Prop := fun x lo hi H Q => ∃ a xs, x = .ref a ∧ SqT K H a xs ∧
  ¬ (HT.sIx xs.length 0 lo = 0 ∧ HT.sIx xs.length xs.length hi = xs.length) ∧ ∀ p, H p = none → Q (.ref p) (upd H p (.tup (cutV xs lo hi)))
/-! ### t < u, t + u -/
def rLtT (K : PySem.W.Frag) : R2 := fun x y H Q => ∃ a b ns ms, x = .ref a ∧ y = .ref b ∧ SqT K H a (ns.map V.int) ∧ SqT K H b (ms.map V.int) ∧ Q (.bl (HT.lexLt ns ms)) H
/-- t + u, t not empty: u empty gives t itself -/
def rCatT (K : PySem.W.Frag) : R2 := fun x y H Q => ∃ a b xs ys, x = .ref a ∧ y = .ref b ∧ SqT K H a xs ∧ SqT K H b ys ∧ xs ≠ [] ∧ xs.length + ys.length ≤ sizeLine ∧
  (ys = [] → Q (.ref a) H) ∧ (ys ≠ [] → ∀ p, H p = none → Q (.ref p) (upd H p (.tup (xs ++ ys))))
end
end L2

namespace L2
open PySem PySem.Spec PyProof.Rows

/-! ### places -/
/-- the place that an index of any sign means -/
def ixN (n : Nat) (i : Int) : Option Nat := if 0 ≤ i then (if i < n then some i.toNat else none) else if -(n : Int) ≤ i then some (i + n).toNat else none
def atI {α : Type} (xs : List α) (i : Int) : Option α := (ixN xs.length i).bind fun j => xs[j]?
theorem ixN_seq {n : Nat} {i : Int} {j : Nat} (h : ixN n i = some j) : seqIndex? i n = some j ∧ j < n ∧ -(n : Int) ≤ i ∧ i < n := by
  unfold ixN at h
  by_cases h0 : 0 ≤ i
  · rw [if_pos h0] at h
    by_cases h1 : i < n
    · rw [if_pos h1] at h
      have e : i.toNat = j := Option.some.inj h
      exact ⟨by rw [seqIndex_of h0 h1, e], by omega, by omega, h1⟩
    · rw [if_neg h1] at h; cases h
  · rw [if_neg h0] at h
    by_cases h1 : -(n : Int) ≤ i
    · rw [if_pos h1] at h
      have e : (i + n).toNat = j := Option.some.inj h
      exact ⟨by rw [seqIndex_neg (by omega) h1, e], by omega, h1, by omega⟩
    · rw [if_neg h1] at h; cases h
theorem atI_get {α : Type} {xs : List α} {i : Int} {v : α} (h : atI xs i = some v) : ∃ j, seqIndex? i xs.length = some j ∧ xs[j]? = some v ∧ j < xs.length ∧ -(xs.length : Int) ≤ i ∧ i < xs.length := by
  unfold atI at h
  cases e : ixN xs.length i with
  | none => rw [e] at h; cases h
  | some j =>
    rw [e] at h
    obtain ⟨h1, h2, h3, h4⟩ := ixN_seq e
    exact ⟨j, h1, h, h2, h3, h4⟩
theorem atI_nat {α : Type} {xs : List α} {j : Nat} {v : α} (h : xs[j]? = some v) : atI xs (j : Int) = some v := by
  have hj : j < xs.length := (List.getElem?_eq_some_iff.mp h).1
  have e : ixN xs.length (j : Int) = some j := by
    unfold ixN
    rw [if_pos (by omega), if_pos (by omega)]; simp
  unfold atI; rw [e]; exact h
/-! ### what may be subscripted -/
/-- what stands as an index of a plain subscript -/
def PlainIx (b : Expr) : Prop := ∀ o i, subscripted b false o i = operate [o, i] (getItem o i)
/-- a subscript by values -/
def IxR (X : Cx) (r : R2) : Prop :=
  ∀ (value slice : Expr) (pins : List (Addr × Obj)) (s : Shared) (σ : St) (H : Hp) (x y : V) (v u : Value) (Q : VK), Inv X pins σ H s → RelV x v → RelV y u → r x y H Q →
    subscripted slice false v u = operate [v, u] (getItem v u) → wpAny (model X.prog X.w) X.A (subscriptTail value slice v u) (EP X pins σ Q) X.xe s
/-- a call of a builtin's method by values: the receiver, the arguments -/
def MtR (X : Cx) (id : String) (r : V → List V → Hp → VK → Prop) : Prop :=
  ∀ (pins : List (Addr × Obj)) (s : Shared) (σ : St) (H : Hp) (x : V) (xs : List V) (v : Value) (us : List Value) (Q : VK), Inv X pins σ H s → RelV x v → Vals xs us → r x xs H Q →
    wpAny (model X.prog X.w) X.A (call (.builtin id) (v :: us)) (EP X pins σ Q) X.xe s
section
variable {X : Cx} {a b : Expr} {ta tb : TE} {pos : Pos}
/-- a[b] -/
theorem pe_ix {r : R2} (hr : IxR X r) (ha : PE X a ta) (hb : PE X b tb) (hs : PlainIx b) : PE X (.Subscript a b pos) (tOp r ta tb) := by
  intro pins s σ H Q I h
  exact Subscript_ (binT ha hb I h fun v u s2 x y H2 I2 rx ry q => hr a b pins s2 σ H2 x y v u Q I2 rx ry q (hs _ _))

def rIxL (K : PySem.W.Frag) : R2 := fun x y H Q => ∃ p xs i v, x = .ref p ∧ y = .int i ∧ SqL K H p xs ∧ atI xs i = some v ∧ Q v H
def rIxT (K : PySem.W.Frag) : R2 := fun x y H Q => ∃ p xs i v, x = .ref p ∧ y = .int i ∧ SqT K H p xs ∧ atI xs i = some v ∧ Q v H
def rIxS : R2 := fun x y H Q => ∃ z i c, x = .str z ∧ y = .int i ∧ z.length ≤ sizeLine ∧ atI z.cps.toList i = some c ∧ Q (.str ⟨#[c]⟩) H
theorem ix_list : IxR X (rIxL X.K) := by
  intro value slice pins s σ H x y v u Q I rx ry h hs
  obtain ⟨p, xs, i, z, rfl, rfl, hq, he, q⟩ := h
  cases rx
  obtain ⟨t, rfl⟩ := ry
  obtain ⟨its, r, pl, hz⟩ := I.list hq
  obtain ⟨j, h1, h2, h3, h4, h5⟩ := atI_get he
  obtain ⟨w, ew, rw'⟩ := r.get h2
  have hl := r.length
  have hn := line63
  have fin : EP X pins σ Q w s := ⟨z, H, I, rw', q⟩
  by_cases h0 : 0 ≤ i
  · have hj : i.toNat = j := by
      rw [seqIndex_of h0 h5] at h1
      exact Option.some.inj h1
    exact item_listR pl.isList h0 (by omega) (by rw [hj]; simpa using ew) fin hs
  · have hj : (i + (its.toArray.size : Int)).toNat = j := by
      rw [seqIndex_neg (by omega) h4] at h1
      rw [List.size_toArray, ← hl]
      exact Option.some.inj h1
    exact subscriptTail_builtinR (x := w) pl.isList.typeIs slot_list_getitem.lookup
      (wpAny_getItem_list_neg (Q := fun r s' => r = w ∧ EP X pins σ Q r s') pl.isList (by omega) (by rw [List.size_toArray] <;> omega) (by omega) (by rw [hj]; simpa using ew) ⟨rfl, fin⟩) hs
theorem ix_tup : IxR X (rIxT X.K) := by
  intro value slice pins s σ H x y v u Q I rx ry h hs
  obtain ⟨p, xs, i, z, rfl, rfl, hq, he, q⟩ := h
  cases rx
  obtain ⟨t, rfl⟩ := ry
  obtain ⟨its, r, pl, hz⟩ := I.tuple hq
  obtain ⟨j, h1, h2, h3, h4, h5⟩ := atI_get he
  obtain ⟨w, ew, rw'⟩ := r.get h2
  have hl := r.length
  have hn := line63
  have fin : EP X pins σ Q w s := ⟨z, H, I, rw', q⟩
  exact subscriptTail_builtinR (x := w) pl.typeIs slot_tuple_getitem.lookup
    (getItem_tuple (j := j) (Q := fun r s' => r = w ∧ EP X pins σ Q r s') pl (by omega) (by omega) (by rw [List.size_toArray, ← hl]; exact h1) (by simpa using ew) ⟨rfl, fin⟩) hs
theorem ix_str : IxR X rIxS := by
  intro value slice pins s σ H x y v u Q I rx ry h hs
  obtain ⟨z, i, c, rfl, rfl, hz, he, q⟩ := h
  obtain ⟨t, rfl⟩ := rx
  obtain ⟨t', rfl⟩ := ry
  obtain ⟨j, h1, h2, h3, h4, h5⟩ := atI_get he
  have hl : z.cps.toList.length = z.length := by simp [Str.length]
  rw [hl] at h1 h4 h5
  have hn := line63
  exact tail_any (typeIs_str s z t) slot_str_getitem.lookup (getItem_str (c := c) (by
    have e1 : decide (i < -(2 ^ 63 : Int)) = false := decide_eq_false (by omega)
    have e2 : decide (i ≥ 2 ^ 63) = false := decide_eq_false (by omega)
    rw [e1, e2, Bool.or_false]) (by rw [h1]; simpa using h2) ⟨.str ⟨#[c]⟩, H, I.tok _, ⟨_, rfl⟩, q⟩) hs
/-- list, tuple or str -/
def rIx (K : PySem.W.Frag) : R2 := fun x y H Q => rIxL K x y H Q ∨ rIxT K x y H Q ∨ rIxS x y H Q
/-! ### xs[i] = v, any sign -/
/-- the list's object behind a store -/
theorem mapSeq_set (its : List Value) (n j : Nat) (u : Value) : Obj.mapSeq (·.setIfInBounds j u) { cls := .type "list", data := .seq its.toArray n } = { cls := .type "list", data := .seq (its.set j u).toArray n } := by
  simp [Obj.mapSeq]
theorem Inv.lst {pins : List (Addr × Obj)} {σ : St} {H : Hp} {s : Shared} {p : Addr} {xs : List V} (I : Inv X pins σ H s) (h : H p = some (.lst xs)) :
    ∃ (its : List Value) (n : Nat), Vals xs its ∧ s.heap.get? p = some { cls := .type "list", data := .seq its.toArray n } ∧ xs.length ≤ sizeLine := by
  obtain ⟨z, its, n, r, e⟩ := I.hok p _ h
  exact ⟨its, n, r, e, z⟩
/-- the list at p is written by an update of its object -/
theorem Inv.lstUpd {pins : List (Addr × Obj)} {σ : St} {H : Hp} {s : Shared} {p : Addr} {xs ys : List V} {its its' : List Value} {n n' : Nat} {f : Obj → Obj} (I : Inv X pins σ H s) (h : H p = some (.lst xs))
    (ho : s.heap.get? p = some { cls := .type "list", data := .seq its.toArray n }) (hf : f { cls := .type "list", data := .seq its.toArray n } = { cls := .type "list", data := .seq its'.toArray n' }) (r : Vals ys its') (hz : ys.length ≤ sizeLine) (t : Nat) :
    Inv X pins σ (upd H p (.lst ys)) { s with heap := s.heap.update p f, toks := t } := by
  have e : (s.heap.update p f).get? p = some { cls := .type "list", data := .seq its'.toArray n' } := by
    rw [Heap.get?_update_self f ho (by rw [hf] <;> rfl), hf]
  refine I.write (x := p) (e := p) (by rw [h]; trivial) (.inl rfl) (fun b u hb q => (Heap.get?_update_other _ _ (Ne.symm hb)).trans q) ⟨_, e⟩ ?_
  exact ⟨hz, its', n', r, e⟩
def rSetL : V → V → V → Hp → (Hp → Prop) → Prop := fun o i v H Q => ∃ p xs k j, o = .ref p ∧ i = .int k ∧ H p = some (.lst xs) ∧ ixN xs.length k = some j ∧ Q (upd H p (.lst (xs.set j v)))
theorem set_list : PSet X rSetL := by
  intro pins s σ H o i v ov iv u Q I ro ri rv h
  obtain ⟨p, xs, k, j, rfl, rfl, hp, hj, q⟩ := h
  cases ro
  obtain ⟨t, rfl⟩ := ri
  obtain ⟨its, n, r, ho, hz⟩ := I.lst hp
  obtain ⟨h1, h2, h3, h4⟩ := ixN_seq hj
  have hl := r.length
  have hn := line63
  have I' : Inv X pins σ (upd H p (.lst (xs.set j v))) { s with heap := s.heap.update p (Obj.mapSeq (·.setIfInBounds j u)) } :=
    I.lstUpd hp ho (mapSeq_set its n j u) (r.set rv j) (by rw [List.length_set]; exact hz) s.toks
  by_cases h0 : 0 ≤ k
  · have hk : k.toNat = j := by
      rw [seqIndex_of h0 h4] at h1
      exact Option.some.inj h1
    exact PySem.W.ki_setAt ho h0 (by omega) (by rw [List.size_toArray, ← hl]; exact h4) (by rw [hk]; exact ⟨_, I', q⟩)
  · have hk : (k + (its.toArray.size : Int)).toNat = j := by
      rw [seqIndex_neg (by omega) h3] at h1
      rw [List.size_toArray, ← hl]
      exact Option.some.inj h1
    exact PySem.W.ki_setBack ho (by omega) (by rw [List.size_toArray, ← hl]; exact h3) (by omega) (by rw [hk]; exact ⟨_, I', q⟩)

/-! ### slices -/
theorem slice_bounds (lo hi : Option Int) (n : Nat) : (sliceBounds lo hi none n).1 = ((HT.sIx n 0 lo : Nat) : Int) ∧ (sliceBounds lo hi none n).2.1 = ((HT.sIx n n hi : Nat) : Int) ∧ (sliceBounds lo hi none n).2.2 = 1 := by
  refine ⟨?_, ?_, rfl⟩
  · cases lo with
    | none => simp [sliceBounds, HT.sIx]
    | some i =>
      simp only [sliceBounds, HT.sIx, Option.getD_none, show (1 : Int) > 0 by decide, if_true]
      by_cases h : i < 0
      · simp only [h, if_true] <;> omega
      · simp only [h, if_false] <;> omega
  · cases hi with
    | none => simp [sliceBounds, HT.sIx]
    | some i =>
      simp only [sliceBounds, HT.sIx, Option.getD_none, show (1 : Int) > 0 by decide, if_true]
      by_cases h : i < 0
      · simp only [h, if_true] <;> omega
      · simp only [h, if_false] <;> omega
theorem slicePick_cut (its : List Value) (lo hi : Option Int) : slicePick its.toArray lo hi none = ((its.drop (HT.sIx its.length 0 lo)).take (HT.sIx its.length its.length hi - HT.sIx its.length 0 lo)).toArray := by
  obtain ⟨h1, h2, h3⟩ := slice_bounds lo hi its.toArray.size
  unfold slicePick
  rw [h1, h2, h3]
  simp only [sliceRange_one, pick_run, List.size_toArray] <;> rfl
/-- xs[lo:hi] of a list: a new list -/
def rSlL (K : PySem.W.Frag) : V → Option Int → Option Int → Hp → VK → Prop := fun x lo hi H Q => ∃ a xs, x = .ref a ∧ SqL K H a xs ∧ ∀ p, H p = none → Q (.ref p) (upd H p (.lst (cutV xs lo hi)))
theorem sl_list : SlR X (rSlL X.K) := by
  intro pins s σ H x v vl vu lo hi sl Q I rx hs pl pu h
  obtain ⟨a, xs, rfl, hx, q⟩ := h
  cases rx
  obtain ⟨its, r, ht, hz⟩ := I.list hx
  have hlen := r.length
  refine ⟨"list", _, slot_list_getitem.lookup, ht.isList.typeIs, ?_⟩
  refine wpAny_getItem_list_slice ht.isList hs pl pu .none (by simp) ?_ (by rw [List.size_toArray] <;> omega)
  rw [slicePick_cut, ← hlen]
  refine ⟨.ref s.heap.objs.size, _, I.laid (t' := s.toks) (o := .lst (cutV xs lo hi)) (fun b ob q => Heap.get?_push_of_some _ q) (Nat.le_refl _) ?_, rfl, q _ (I.hok.fresh (Nat.le_refl _))⟩
  exact ⟨Nat.le_trans (cutV_length xs lo hi) hz, _, 0, (r.drop (HT.sIx xs.length 0 lo)).take (HT.sIx xs.length xs.length hi - HT.sIx xs.length 0 lo), Heap.get?_push_size _ rfl⟩

/-! ### in, not in: flat items -/
def flatV : V → Bool
  | .non => true
  | .bl _ => true
  | .int _ => true
  | .str _ => true
  | _ => false
/-- == of flat values -/
def eqV : V → V → Bool
  | .non, .non => true
  | .bl a, .bl b => a == b
  | .bl a, .int b => (if a then 1 else 0) == b
  | .int a, .bl b => a == (if b then 1 else 0)
  | .int a, .int b => a == b
  | .str a, .str b => a == b
  | _, _ => false
theorem eqAt_V {A : Around} {s : Shared} {y x : V} {u v : Value} (ry : RelV y u) (rx : RelV x v) (fy : flatV y = true) (fx : flatV x = true) : SeqAt.EqAt A s u v (eqV y x) := by
  cases y with
  | non =>
    cases ry
    cases x with
    | non => cases rx; exact SeqAt.EqAt.same _
    | bl b => cases rx; exact SeqAt.EqAt.none_bool b
    | int b => obtain ⟨t, rfl⟩ := rx; exact SeqAt.EqAt.none_int b t
    | str b => obtain ⟨t, rfl⟩ := rx; exact SeqAt.EqAt.none_str b t
    | _ => exact absurd (show false = true from fx) Bool.false_ne_true
  | bl a =>
    cases ry
    cases x with
    | non => cases rx; exact SeqAt.EqAt.bool_none a
    | bl b => cases rx; exact SeqAt.EqAt.bool_bool a b
    | int b => obtain ⟨t, rfl⟩ := rx; exact SeqAt.EqAt.bool_int a b t
    | str b => obtain ⟨t, rfl⟩ := rx; exact SeqAt.EqAt.bool_str a b t
    | _ => exact absurd (show false = true from fx) Bool.false_ne_true
  | int a =>
    obtain ⟨t', rfl⟩ := ry
    cases x with
    | non => cases rx; exact SeqAt.EqAt.int_none a t'
    | bl b => cases rx; exact SeqAt.EqAt.int_bool a t' b
    | int b => obtain ⟨t, rfl⟩ := rx; exact SeqAt.EqAt.int_int a t' b t
    | str b => obtain ⟨t, rfl⟩ := rx; exact SeqAt.EqAt.int_str a t' b t
    | _ => exact absurd (show false = true from fx) Bool.false_ne_true
  | str a =>
    obtain ⟨t', rfl⟩ := ry
    cases x with
    | non => cases rx; exact SeqAt.EqAt.str_none a t'
    | bl b => cases rx; exact SeqAt.EqAt.str_bool a t' b
    | int b => obtain ⟨t, rfl⟩ := rx; exact SeqAt.EqAt.str_int a t' b t
    | str b => obtain ⟨t, rfl⟩ := rx; exact SeqAt.EqAt.str_str a t' b t
    | _ => exact absurd (show false = true from fx) Bool.false_ne_true
  | _ => exact absurd (show false = true from fy) Bool.false_ne_true
/-- the items' answers, read off the values (a value's own answer does not lean on its token) -/
def eqU (x : V) (u : Value) : Bool := match u with
  | .none => eqV .non x
  | .bool b => eqV (.bl b) x
  | .int i _ => eqV (.int i) x
  | .str z _ => eqV (.str z) x
  | _ => false
theorem eqU_of {x y : V} {u : Value} (r : RelV y u) (f : flatV y = true) : eqU x u = eqV y x := by
  cases y with
  | non => cases r; rfl
  | bl b => cases r; rfl
  | int i => obtain ⟨t, rfl⟩ := r; rfl
  | str z => obtain ⟨t, rfl⟩ := r; rfl
  | _ => exact absurd (show false = true from f) Bool.false_ne_true
theorem any_eqU {x : V} : ∀ {xs : List V} {us : List Value}, Vals xs us → xs.all flatV = true → us.any (eqU x) = xs.any fun y => eqV y x
  | _, _, .nil, _ => rfl
  | y :: xs, u :: us, .cons r t, f => by
    rw [List.all_cons, Bool.and_eq_true] at f
    rw [List.any_cons, List.any_cons, eqU_of r f.1, any_eqU t f.2]
theorem mem_eqAt {A : Around} {s : Shared} {x : V} {v : Value} (rx : RelV x v) (fx : flatV x = true) : ∀ {xs : List V} {us : List Value}, Vals xs us → xs.all flatV = true → ∀ u ∈ us, SeqAt.EqAt A s u v (eqU x u)
  | _, _, .nil, _ => fun u hu => by cases hu
  | y :: xs, u :: us, .cons r t, f => fun u' hu => by
    rw [List.all_cons, Bool.and_eq_true] at f
    rcases List.mem_cons.mp hu with rfl | hu
    · rw [eqU_of r f.1]; exact eqAt_V r rx f.1 fx
    · exact mem_eqAt rx fx t f.2 u' hu
def inV (x : V) (xs : List V) : Bool := xs.any fun y => eqV y x
/-- x in a list or tuple of flat items -/
def rIn (K : PySem.W.Frag) (neg : Bool) : R2 := fun x y H Q => ∃ p xs, y = .ref p ∧ (SqL K H p xs ∨ SqT K H p xs) ∧ flatV x = true ∧ xs.all flatV = true ∧ Q (.bl (if neg then !inV x xs else inV x xs)) H
theorem op_notIn_seq : OpR X (compareOp .NotIn) (rIn X.K true) := by
  intro pins s σ H x y v u Q I rx ry h
  obtain ⟨p, xs, rfl, hq, fx, fs, q⟩ := h
  cases ry
  rcases hq with hq | hq
  · obtain ⟨its, r, pl, hz⟩ := I.list hq
    refine SeqAt.notIn_listAt (eqU x) pl.isList (fun w hw => mem_eqAt rx fx r fs w (by simpa using hw)) ⟨.bl _, H, I, rfl, ?_⟩
    rw [show its.toArray.any (eqU x) = its.any (eqU x) by simp, any_eqU r fs]
    exact q
  · obtain ⟨its, r, pl, hz⟩ := I.tuple hq
    refine SeqAt.notIn_tupleAt (eqU x) pl (fun w hw => mem_eqAt rx fx r fs w (by simpa using hw)) ⟨.bl _, H, I, rfl, ?_⟩
    rw [show its.toArray.any (eqU x) = its.any (eqU x) by simp, any_eqU r fs]
    exact q
/-! ### len, list(x), tuple(x) of any list or tuple that is read -/
theorem call_len_seq : CallR X (.builtin "len") (fun xs H Q => ∃ p ys, xs = [.ref p] ∧ (SqL X.K H p ys ∨ SqT X.K H p ys) ∧ Q (.int ys.length) H) := by
  intro pins s σ H xs us Q I r h
  obtain ⟨p, ys, rfl, hq, q⟩ := h
  obtain ⟨u, rfl, rx⟩ := vals1 r
  cases rx
  have hn := line63
  rcases hq with hq | hq
  · obtain ⟨its, r', pl, hz⟩ := I.list hq
    have hlen := r'.length
    exact Calls.call_len_list pl.isList (by simp only [List.size_toArray] <;> omega) ⟨.int ys.length, H, I.tok _, ⟨s.toks + 1, by rw [List.size_toArray, hlen]⟩, q⟩
  · obtain ⟨its, r', pl, hz⟩ := I.tuple hq
    have hlen := r'.length
    exact len_tuple pl (by simp only [List.size_toArray] <;> omega) ⟨.int ys.length, H, I.tok _, ⟨s.toks + 1, by rw [List.size_toArray, hlen]⟩, q⟩
theorem call_len_str : CallR X (.builtin "len") (fun xs H Q => ∃ z, xs = [.str z] ∧ z.length ≤ sizeLine ∧ Q (.int z.length) H) := by
  intro pins s σ H xs us Q I r h
  obtain ⟨z, rfl, hz, q⟩ := h
  obtain ⟨u, rfl, t, rfl⟩ := vals1 r
  have hn := line63
  exact len_str (by omega) ⟨.int z.length, H, I.tok _, ⟨_, rfl⟩, q⟩
theorem call_list_of : CallR X (.type "list") (fun xs H Q => ∃ p ys, xs = [.ref p] ∧ (SqL X.K H p ys ∨ SqT X.K H p ys) ∧ ∀ l, H l = none → Q (.ref l) (upd H l (.lst ys))) := by
  intro pins s σ H xs us Q I r h
  obtain ⟨p, ys, rfl, hq, q⟩ := h
  obtain ⟨u, rfl, rx⟩ := vals1 r
  cases rx
  have fin : ∀ (its : List Value), Vals ys its → ys.length ≤ sizeLine → ∀ (h' : Heap) (c' : Nat), (∀ b o', s.heap.get? b = some o' → h'.get? b = some o') →
      h'.get? s.heap.objs.size = some { cls := .type "list", dict := none, data := .seq its.toArray c', slots := #[] } → EP X pins σ Q (.ref s.heap.objs.size) { s with heap := h' } := fun its r' hz h' c' kp e =>
    ⟨.ref s.heap.objs.size, _, I.laid (t' := s.toks) kp (Nat.le_refl _) (show ObjOk X.prog X.w _ h' _ (.lst ys) from ⟨hz, its, c', r', e⟩), rfl, q _ (I.hok.fresh (Nat.le_refl _))⟩
  rcases hq with hq | hq
  · obtain ⟨its, r', pl, hz⟩ := I.list hq
    have hlen := r'.length
    obtain ⟨o, ho, hc, n, hd⟩ := pl.isList
    exact call_list_seq p (.inl rfl) ho hc hd (fun h' c' kp e => fin its r' hz h' c' kp e) (by simp only [List.size_toArray] <;> omega)
  · obtain ⟨its, r', pl, hz⟩ := I.tuple hq
    have hlen := r'.length
    obtain ⟨o, ho, hc, n, hd⟩ := pl
    exact call_list_seq p (.inr rfl) ho hc hd (fun h' c' kp e => fin its r' hz h' c' kp e) (by simp only [List.size_toArray] <;> omega)
theorem call_tuple_of : CallR X (.type "tuple") (fun xs H Q => ∃ p ys, xs = [.ref p] ∧ ((SqL X.K H p ys ∧ ∀ l, H l = none → Q (.ref l) (upd H l (.tup ys))) ∨ (SqT X.K H p ys ∧ Q (.ref p) H))) := by
  intro pins s σ H xs us Q I r h
  obtain ⟨p, ys, rfl, h⟩ := h
  obtain ⟨u, rfl, rx⟩ := vals1 r
  cases rx
  rcases h with ⟨hq, q⟩ | ⟨hq, q⟩
  · obtain ⟨its, r', pl, hz⟩ := I.list hq
    have hlen := r'.length
    refine call_tuple_list pl.isList (fun h' kp => ?_) (by simp only [List.size_toArray] <;> omega)
    have I1 : Inv X pins σ H { s with heap := h' } := I.kept (t' := s.toks) kp
    have I2 : Inv X pins σ (upd H h'.objs.size (.tup ys)) { s with heap := h'.push { cls := .type "tuple", data := .seq its.toArray } } :=
      I1.laid (t' := s.toks) (fun b o e => Heap.get?_push_of_some _ e) (Nat.le_refl _) (show ObjOk X.prog X.w _ _ _ (.tup ys) from ⟨hz, its, r', IsTup.new _ _⟩)
    exact ⟨.ref h'.objs.size, _, I2, rfl, q _ (I1.hok.fresh (Nat.le_refl _))⟩
  · obtain ⟨its, r', pl, hz⟩ := I.tuple hq
    exact call_tuple_same pl ⟨.ref p, H, I, rfl, q⟩

/-! ### the call of a builtin's method: o.m(..) -/
/-- the value is of that builtin type -/
def tyV (K : PySem.W.Frag) (T : String) (x : V) (H : Hp) : Prop := match x with
  | .str _ => T = "str"
  | .int _ => T = "int"
  | .ref p => (T = "list" ∧ ∃ xs, SqL K H p xs) ∨ (T = "tuple" ∧ ∃ o, K.lookup p = some o ∧ o.cls = .type "tuple" ∧ o.dict = none) ∨
      (T = "dict" ∧ ((∃ kvs, H p = some (.dK kvs)) ∨ ∃ kvs, H p = some (.dT kvs))) ∨ (T = "set" ∧ ∃ S n, H p = some (.set S n))
  | _ => False
theorem tyV_is {pins : List (Addr × Obj)} {σ : St} {H : Hp} {s : Shared} {T : String} {x : V} {v : Value} (I : Inv X pins σ H s) (r : RelV x v) (ty : tyV X.K T x H) :
    s.TypeIs v T ∧ ∀ a, v = .ref a → ∃ ob, s.heap.get? a = some ob ∧ ob.dict = none := by
  cases x with
  | str z =>
    obtain ⟨t, rfl⟩ := r
    cases (show T = "str" from ty)
    exact ⟨typeIs_str s z t, fun _ e => nomatch e⟩
  | int i =>
    obtain ⟨t, rfl⟩ := r
    cases (show T = "int" from ty)
    exact ⟨typeIs_int s i t, fun _ e => nomatch e⟩
  | ref p =>
    cases r
    rcases ty with ⟨rfl, xs, hq⟩ | ⟨rfl, o, hk, hc, hd⟩ | ⟨rfl, hk⟩ | ⟨rfl, S, n, hk⟩
    · obtain ⟨its, _, pl, _⟩ := I.list hq
      refine ⟨pl.isList.typeIs, fun a e => ?_⟩
      cases e
      obtain ⟨o, n, e, c, hd, _⟩ := pl
      exact ⟨o, e, hd⟩
    · refine ⟨⟨o, I.kIn p o hk, hc⟩, fun a e => ?_⟩
      cases e
      exact ⟨o, I.kIn _ o hk, hd⟩
    · have z : ∃ o, s.heap.get? p = some o ∧ o.ExactDict := by
        rcases hk with ⟨kvs, hk⟩ | ⟨kvs, hk⟩
        · obtain ⟨_, _, _, _, o, _, _, e, ex, _⟩ := I.hok p _ hk
          exact ⟨o, e, ex⟩
        · obtain ⟨_, _, _, _, o, _, _, e, ex, _⟩ := I.hok p _ hk
          exact ⟨o, e, ex⟩
      obtain ⟨o, e, ex⟩ := z
      refine ⟨⟨o, e, ex.1⟩, fun a e2 => ?_⟩
      cases e2
      exact ⟨o, e, ex.2.1⟩
    · obtain ⟨o, _, _, _, e, ex, _⟩ := I.hok p _ hk
      refine ⟨⟨o, e, ex.1⟩, fun a e2 => ?_⟩
      cases e2
      exact ⟨o, e, ex.2.1⟩
  | _ => exact False.elim ty
def tBM0 (K : PySem.W.Frag) (T : String) (r : V → List V → Hp → VK → Prop) (to : TE) : TE := fun σ H Q => to σ H fun x H1 => tyV K T x H1 ∧ r x [] H1 Q
def tBM (K : PySem.W.Frag) (T : String) (r : V → List V → Hp → VK → Prop) (to : TE) (t : TA) : TE := fun σ H Q => to σ H fun x H1 => tyV K T x H1 ∧ t σ H1 fun xs H2 => r x xs H2 Q
variable {o e : Expr} {es : List Expr} {to : TE} {t : TA} {name : Str} {apos cpos : Pos} {T id : String} {r : V → List V → Hp → VK → Prop}
theorem pe_bm0 (pa : PlainAttrs T) (slot : Slot T name id) (hty : typeOf (.builtin id) = pure (.type "method_descriptor")) (hm : MtR X id r) (ho : PE X o to)
    (hbase : attributeBase o name X.env (eval o X.env) = eval o X.env := by rfl) (hline : (apos.endLine == cpos.line) = true := by rfl) : PE X (.Call (.Attribute o name apos) [] [] cpos) (tBM0 X.K T r to) := by
  intro pins s σ H Q I h
  refine wpAny_Call_method0_late hbase hline (thn (ho pins s σ H _ I h) fun v s1 ⟨x, H1, I1, r1, ty, q1⟩ => ?_)
  obtain ⟨h1, h2⟩ := tyV_is I1 r1 ty
  exact ⟨T, id, pa, slot, hty, h1, h2, Calls.callWith_builtin rfl (PySem.evalArgs_none (hm pins s1 σ H1 x [] v [] Q I1 r1 .nil q1))⟩
theorem pe_bm (pa : PlainAttrs T) (slot : Slot T name id) (hty : typeOf (.builtin id) = pure (.type "method_descriptor")) (hm : MtR X id r) (ho : PE X o to) (ha : PA X (e :: es) t)
    (hbase : attributeBase o name X.env (eval o X.env) = eval o X.env := by rfl)
    (hfew : ((backTo cpos (starEach (e :: es) X.env)).all (fun x => !x.1) && (backToKw cpos (keywordEach [] X.env)).all (fun x => x.1.isSome)
      && decide ((e :: es).length + ([] : List Keyword).length + (if ([] : List Keyword).isEmpty then 0 else 1) < 30)) = true := by rfl)
    (hline : (apos.endLine == cpos.line) = true := by rfl) (hs : starEach (e :: es) X.env = (false, eval e X.env) :: starEach es X.env := by rfl) (hplain : (backTo cpos (starEach es X.env)).any (·.1) = false := by rfl) :
    PE X (.Call (.Attribute o name apos) (e :: es) [] cpos) (tBM X.K T r to t) := by
  intro pins s σ H Q I h
  refine wpAny_Call_method_late hbase hfew hline rfl (thn (ho pins s σ H _ I h) fun v s1 ⟨x, H1, I1, r1, ty, q1⟩ => ?_)
  obtain ⟨h1, h2⟩ := tyV_is I1 r1 ty
  refine ⟨T, id, pa, slot, hty, h1, h2, ?_⟩
  have hA := ha cpos pins s1 σ H1 _ I1 q1
  rw [hs] at hA ⊢
  refine Calls.callWith_builtin (by show (false || (backTo cpos (starEach es X.env)).any (·.1)) = false; rw [hplain] <;> rfl) (Calls.evalArgs_plain ?_)
  exact thn hA fun us s2 ⟨vs, H2, I2, r2, q2⟩ => hm pins s2 σ H2 x vs v us Q I2 r1 r2 q2
/- xs.append(e), list.index on a module's tuple .. are MtR facts of 06m -/
end
end L2

namespace L2
open PySem PySem.Spec PyProof.Rows

def MtM (X : Cx) (id : String) (r : V → List V → Hp → VK → Prop) : Prop :=
  ∀ (pins : List (Addr × Obj)) (s : Shared) (σ : St) (H : Hp) (x : V) (xs : List V) (v : Value) (us : List Value) (Q : VK), Inv X pins σ H s → RelV x v → Vals xs us → r x xs H Q →
    wpAny (model X.prog X.w) X.A (call (.builtin id) (v :: us)) (EP X pins σ Q) X.xe s

/-! ### lists of values -/
theorem Vals.one : ∀ {x : V} {us : List Value}, Vals [x] us → ∃ u, us = [u] ∧ RelV x u
  | _, _, .cons r .nil => ⟨_, rfl, r⟩
theorem Vals.two : ∀ {x y : V} {us : List Value}, Vals [x, y] us → ∃ u v, us = [u, v] ∧ RelV x u ∧ RelV y v
  | _, _, _, .cons r (.cons q .nil) => ⟨_, _, rfl, r, q⟩
theorem Vals.zero : ∀ {us : List Value}, Vals [] us → us = []
  | _, .nil => rfl
theorem Vals.eraseIdx : ∀ {xs : List V} {us : List Value} (i : Nat), Vals xs us → Vals (xs.eraseIdx i) (us.eraseIdx i)
  | _, _, _, .nil => .nil
  | _, _, 0, .cons _ t => t
  | _, _, i + 1, .cons r t => .cons r (Vals.eraseIdx i t)
theorem len_erase {α : Type} : ∀ (l : List α) (i : Nat), (l.eraseIdx i).length ≤ l.length
  | [], _ => Nat.le_refl _
  | _ :: _, 0 => Nat.le_succ _
  | _ :: r, i + 1 => Nat.succ_le_succ (len_erase r i)
section
variable {X : Cx} {pins : List (Addr × Obj)} {σ : St} {H : Hp} {s : Shared} {l b : Addr} {xs ys zs : List V}

/-! ### the two steps: a tracked list is rewritten, a new list is laid -/
theorem Inv.lset {its its' : List Value} {n : Nat} {f : Array Value → Array Value} {t' : Nat} (I : Inv X pins σ H s) (hH : H l = some (.lst xs))
    (e : s.heap.get? l = some { cls := .type "list", data := .seq its.toArray n }) (hf : f its.toArray = its'.toArray) (hv : Vals ys its') (hz : ys.length ≤ sizeLine) :
    Inv X pins σ (upd H l (.lst ys)) { s with heap := s.heap.update l (Obj.mapSeq f), toks := t' } := by
  have q := PySem.IsL.update e f
  rw [hf] at q
  refine I.write (x := l) (e := l) (by rw [hH]; exact trivial) (.inl rfl) (fun b' u hb hu => (Heap.get?_update_other s.heap (Obj.mapSeq f) (Ne.symm hb)).trans hu) ⟨_, q⟩ ?_
  exact ⟨hz, its', _, hv, q⟩
theorem Inv.lnew {its : List Value} {t' : Nat} (I : Inv X pins σ H s) (hv : Vals ys its) (hz : ys.length ≤ sizeLine) :
    Inv X pins σ (upd H s.heap.objs.size (.lst ys)) { s with heap := s.heap.push { cls := .type "list", data := .seq its.toArray }, toks := t' } :=
  I.laid (fun _ _ q => Heap.get?_push_of_some _ q) (Nat.le_refl _) ⟨hz, its, 0, hv, Heap.get?_push_size _ rfl⟩
theorem Inv.fresh (I : Inv X pins σ H s) : H s.heap.objs.size = none := I.hok.fresh (Nat.le_refl _)
theorem Inv.lstM (I : Inv X pins σ H s) (hH : H l = some (.lst xs)) : xs.length ≤ sizeLine ∧ ∃ (its : List Value) (n : Nat), Vals xs its ∧ xs.length = its.length ∧ s.heap.get? l = some { cls := .type "list", data := .seq its.toArray n } := by
  obtain ⟨z, its, n, r, e⟩ := I.hok l _ hH
  exact ⟨z, its, n, r, r.length, e⟩

end

section
variable {X : Cx}

/-! ### methods -/
def rAppend : V → List V → Hp → VK → Prop := fun x vs H Q => ∃ l xs y, x = .ref l ∧ vs = [y] ∧ H l = some (.lst xs) ∧ xs.length < sizeLine ∧ Q .non (upd H l (.lst (xs ++ [y])))
theorem mt_append : MtM X "list.append" rAppend := by
  intro pins s σ H x vs v us Q I rx rv h
  obtain ⟨l, xs, y, rfl, rfl, hH, hz, q⟩ := h
  cases rx
  obtain ⟨u, rfl, ru⟩ := rv.one
  obtain ⟨z, its, n, r, hl, e⟩ := I.lstM hH
  refine call_meets F.slot_list_append ⟨_, e, rfl⟩ F.entry_list_append (F.args_list_append_2 _ _) (PySem.list_append l its.toArray n u (by rw [List.size_toArray]; omega)) ⟨e, ?_⟩
  refine ⟨.non, _, I.lset (its' := its ++ [u]) hH e (by simp) (r.append (.cons ru .nil)) ?_, rfl, q⟩
  rw [List.length_append, List.length_singleton]
  omega

def rExtend : V → List V → Hp → VK → Prop := fun x vs H Q => ∃ l b xs zs, x = .ref l ∧ vs = [.ref b] ∧ H l = some (.lst xs) ∧ H b = some (.lst zs) ∧ xs.length + zs.length ≤ sizeLine ∧ Q .non (upd H l (.lst (xs ++ zs)))
def rPop : V → List V → Hp → VK → Prop := fun x vs H Q => ∃ l xs y, x = .ref l ∧ vs = [] ∧ H l = some (.lst xs) ∧ xs[xs.length - 1]? = some y ∧ Q y (upd H l (.lst xs.dropLast))
def rPopAt : V → List V → Hp → VK → Prop := fun x vs H Q => ∃ l xs i k y, x = .ref l ∧ vs = [.int i] ∧ H l = some (.lst xs) ∧ -(2 ^ 63) ≤ i ∧ i < 2 ^ 63 ∧ seqIndex? i xs.length = some k ∧ xs[k]? = some y ∧ Q y (upd H l (.lst (xs.eraseIdx k)))
theorem mt_popAt : MtM X "list.pop" rPopAt := by
  intro pins s σ H x vs v us Q I rx rv h
  obtain ⟨l, xs, i, k, y, rfl, rfl, hH, h1, h2, hk, hy, q⟩ := h
  cases rx
  obtain ⟨u, rfl, ru⟩ := rv.one
  obtain ⟨t, rfl⟩ := ru
  obtain ⟨z, its, n, r, hl, e⟩ := I.lstM hH
  obtain ⟨w, hw, rw'⟩ := r.get hy
  refine call_meets F.slot_list_pop ⟨_, e, rfl⟩ F.entry_list_pop (F.args_list_pop_2 _ _)
    (MeetsSeq.list_pop_at l its.toArray n i t k w (fitsIndex_both h1 h2) (by rw [List.size_toArray, ← hl]; exact hk) (by rw [← Array.getElem?_toList]; exact hw) (by rw [List.size_toArray]; omega)) ⟨e, ?_⟩
  refine ⟨y, _, I.lset (its' := its.eraseIdx k) hH e ?_ (r.eraseIdx k) ?_, rw', q⟩
  · show its.toArray.eraseIdxIfInBounds k = (its.eraseIdx k).toArray
    rw [List.eraseIdxIfInBounds_toArray]
  · have := len_erase xs k
    omega

def rReverse : V → List V → Hp → VK → Prop := fun x vs H Q => ∃ l xs, x = .ref l ∧ vs = [] ∧ H l = some (.lst xs) ∧ Q .non (upd H l (.lst xs.reverse))
def rClear : V → List V → Hp → VK → Prop := fun x vs H Q => ∃ l xs, x = .ref l ∧ vs = [] ∧ H l = some (.lst xs) ∧ Q .non (upd H l (.lst []))
/-! ### list + list, list += list, list * int -/
def rCat : R2 := fun x y H Q => ∃ l b xs zs, x = .ref l ∧ y = .ref b ∧ H l = some (.lst xs) ∧ H b = some (.lst zs) ∧ xs.length + zs.length ≤ sizeLine ∧ ∀ p, H p = none → Q (.ref p) (upd H p (.lst (xs ++ zs)))
theorem op_cat : OpR X (binaryOp .Add) rCat := by
  intro pins s σ H x y v u Q I rx ry h
  obtain ⟨l, b, xs, zs, rfl, rfl, hH, hB, hz, q⟩ := h
  cases rx
  cases ry
  obtain ⟨z, its, n, r, hl, e⟩ := I.lstM hH
  obtain ⟨z2, its2, n2, r2, hl2, e2⟩ := I.lstM hB
  refine PySem.P.add_list e e2 ?_ (by rw [List.size_toArray, List.size_toArray]; omega)
  have ea : its.toArray ++ its2.toArray = (its ++ its2).toArray := by simp
  rw [ea]
  exact ⟨.ref _, _, I.lnew (t' := s.toks) (r.append r2) (by rw [List.length_append]; omega), rfl, q _ I.fresh⟩
/-- a list times an int (a negative one is nothing) -/
def rRep : R2 := fun x y H Q => ∃ l k xs, x = .ref l ∧ y = .int k ∧ H l = some (.lst xs) ∧ -(2 ^ 63) ≤ k ∧ k < 2 ^ 63 ∧ xs.length * k.toNat ≤ sizeLine ∧
  ∀ p, H p = none → Q (.ref p) (upd H p (.lst (List.replicate k.toNat xs).flatten))
/-! ### del xs[i] -/
end

/-! ### xs[a:b] = ys -/
section
variable {prog : Program} {w : World} {A : Around} {E : Value → Shared → Prop} {s : Shared}
end

section
variable {X : Cx}
end
end L2

namespace Att
open PySem PySem.W PySem.Calls PyProof.Rows

/-! ### the script -/
theorem ints_of_wellAll {P : Params} {h : Heap} : ∀ (ns : List Int) (vs : List Value), WellAll P h vs (ns.map WData.int) → IntsAre vs ns := by
  intro ns
  induction ns with
  | nil =>
    intro vs w
    rw [List.map_nil] at w
    cases w
    exact .nil
  | cons n ns ih =>
    intro vs w
    rw [List.map_cons] at w
    cases w with
    | cons a b =>
      cases a
      exact .cons _ _ (ih _ b)

theorem script_of {l : OpenLaw} {n : Nat} (hn : l.most = some n) {P : Params} {h : Heap} {args : List WData} {vals : List Value}
    (hpre : l.row.toRowW.claim.pre args = true) (hwl : WellAll P h vals args) :
    ∃ a vs ns, vals = [Value.ref a] ∧ args = [WData.list (ns.map WData.int)] ∧ h.get? a = some { cls := .type "list", data := .seq vs.toArray } ∧ IntsAre vs ns ∧ ns.length ≤ n := by
  have hsh : WShape.hasAll [] args [.list .int] = true := (pre_splitW hpre).1
  have hc : l.pre.holds [] { args := args } = true := (pre_splitW hpre).2
  obtain ⟨d, r, rfl, h1, h2⟩ := hasAllW_cons hsh
  obtain rfl := hasAllW_nil h2
  obtain ⟨xs, rfl, h3⟩ := hasW_list h1
  obtain ⟨ns, rfl⟩ := items_int h3
  have hlen : ns.length ≤ n := by
    unfold OpenLaw.pre at hc
    have h4 : (WTm.not (.lt (.lit (.int (n : Int))) (.len (.arg 0)))).holds [] { args := [.list (ns.map .int)] } = true := by
      have h4 := (holds_andW hc).1
      rw [hn] at h4
      exact h4
    have h5 := condW_of h4 (w_not (w_lt w_lit (w_len_list (w_arg rfl))))
    rw [List.length_map] at h5
    refine Nat.le_of_not_lt fun q => ?_
    have q' : (n : Int) < ((ns.length : Nat) : Int) := by omega
    first
      | (rw [decide_eq_true q'] at h5; exact absurd h5 (by decide))
      | (simp at h5; omega)
  cases hwl with
  | cons w1 w2 =>
    cases w2
    cases w1 with
    | list ho hall => exact ⟨_, _, ns, rfl, rfl, ho, ints_of_wellAll ns _ hall, hlen⟩

theorem post_true (l : OpenLaw) (args : List WData) : l.row.toRowW.claim.post args (.bool true) args = true :=
  postW_of (r := l.row.toRowW) (X := (true == true))
    (show WShape.has [] (.bool true) .bool = true by first | rfl | decide | simp [WShape.has, WShape.arms, WShape.armsAll])
    (show (WTm.eq .res (.lit (.bool true))).value [] { args := args, res := some (.bool true), after := args } = some (.bool (true == true)) from w_eq_bool (w_res rfl) w_lit) rfl

/-! ### the attachment: holds_open's last premise (the goal 'hc' behind k_head) from a wpAny of the law's body -/
/-- the same from a codeAny of the CALL (for a layer whose function contracts speak of calls) -/
theorem attach_call {l : OpenLaw} {n : Nat} {q : Program} {loose : List Str} {XP : (Str → Option Value) → Heap → Prop} {YP : World → Heap → Prop} {d : DefRec}
    (hn : l.most = some n) (hdf : d.params.defaults = [])
    (call : ∀ (w : World) (s₀ s₁ : Shared) (mg mb : Str → Option Value) (fa : Addr) (o : Obj) (pm cd doc : Value) (a : Addr) (vs : List Value) (ns : List Int),
      Ground q loose [] XP w s₀ mg mb s₁.heap → YP w s₁.heap →
      s₁.heap.get? fa = some o → o.data = .func (docDef d.name d.params d.body d.scope pm cd doc) → s₁.heap.CodeRec cd d.name → mg d.name = some (.ref fa) →
      s₁.heap.get? a = some { cls := .type "list", data := .seq vs.toArray } → IntsAre vs ns → ns.length ≤ n → s₁.gens = #[] →
      codeAny (model l.prog w) callerA (.call (.ref fa) ⟨[.ref a], []⟩) (fun r s' => r = .ok (.ret (.bool true)) ∧ OldK s₁.heap s'.heap ∧ s'.os = s₁.os ∧ AllBare s'.gens) s₁) :
    WalkO q loose XP YP l.row.toRowW d [] (fun f vs => PySem.call f vs) := by
  intro w s₀ s₁ mg mb G Y fa o pm cd doc dV kV ho hd hcd hD hmg hg args vals as hpre hlay hrd hwl hlo
  obtain rfl : dV = .none := Dflts.none hD hdf
  obtain rfl : kV = .none := Dflts.noKw hD
  obtain ⟨a, vs, ns, rfl, rfl, hobj, hints, hlen⟩ := script_of hn hpre hwl
  refine enter_call (codeAny_mono (call w s₀ s₁ mg mb fa o pm cd doc a vs ns G Y ho (fd_plain hd) hcd hmg hobj hints hlen hg) fun r s' hq => ?_)
  obtain ⟨rfl, h2, h3, h4⟩ := hq
  exact ⟨.inl ⟨.bool true, .bool true, [], rfl, fun _ => rfl, .bool true, post_true l _, fun _ => ⟨List.Pairwise.nil, fun _ hm => (nomatch hm)⟩⟩, h2, h3, h4⟩

/-! ### rules over ANY heap (no ledger) from facts about the written part K: the library's own take a ledger (News) for what they write -/
section
variable {prog : Program} {w : World} {A : Around} {E : Value → Shared → Prop} {s : Shared} {K : Frag}

/-! the whole heap as the ledger: makes every rule that writes through a ledger a rule over any heap -/
def noObjs (h : Heap) : Heap := { h with objs := #[] }
def ledger (h : Heap) (L d : Addr) : List (Addr × Obj) := (List.range h.objs.size).filterMap fun a => if a = L ∨ a = d then none else (h.get? a).map fun o => (a, o)
end
end Att

namespace L2
open PySem PySem.Spec PyProof.Rows

theorem vals_ints : ∀ {vs : List Value} {ns : List Int}, IntsAre vs ns → Vals (ns.map V.int) vs
  | _, _, .nil => .nil
  | _, _, .cons n t h => .cons ⟨t, rfl⟩ (vals_ints h)

/-- nothing is tracked but the script, known to the object (or it is an object of the module) -/
def Only (H : Hp) : Prop := ∀ b, H b = none ∨ ∃ o xs, H b = some (.frz o (.lst xs))

/-- THE HEAD: the law's promise, at the heap behind the top. F, the promise of the law's def, may use that base is part of the heap (so K.In base, base.Ns mainGlobals mg stand in Mod) -/
theorem law_call {P : Program} {w : World} {K : PySem.W.Frag} {mg mb : Str → Option Value} {CX : CXT} {k : Nat} {fa a : Addr} {fd : FuncData} {x : Str} {sp : Sp} {s₁ : Shared} {vs : List Value} {ns : List Int}
    (KX : K.In s₁.heap) (hns : s₁.heap.Ns mainGlobals mg) (hb : s₁.heap.Ns builtinsNs mb) (hbb : ∀ x : Str, x ≠ "__name__" → mb x = bootBuiltins x) (hlim : s₁.heap.NoLimit) (hg : s₁.gens = #[])
    (ha : s₁.heap.get? a = some { cls := .type "list", data := .seq vs.toArray }) (hi : IntsAre vs ns) (hl : ns.length ≤ sizeLine) (hr : Room k callerA)
    (F : ∀ base : Heap, K.In base → base.Ns mainGlobals mg → FnOk P w K mg base CX k fa fd [x] sp) (hbind : ∀ (s : Shared) (u : Value), BindsTo s fd ⟨[u], []⟩ [(x, u)])
    (hsp : ∀ H : Hp, Only H → SqL K H a (ns.map V.int) → sp [.ref a] H (fun v _ => v = .bl true) fun _ _ _ => False)
    (hCX : ∀ H e s', CX [] H s₁ (fun _ _ _ => False) e s' → False) :
    codeAny (model P w) callerA (.call (.ref fa) ⟨[.ref a], []⟩) (fun r s' => r = .ok (.ret (.bool true)) ∧ OldK s₁.heap s'.heap ∧ s'.os = s₁.os ∧ AllBare s'.gens) s₁ := by
  have rv := vals_ints hi
  have lenV := hi.length
  -- from an abstract heap in which nothing but the script may be tracked
  have core : ∀ H : Hp, Only H → SqL K H a (ns.map V.int) → HOk P w H s₁.heap → (∀ b, H b ≠ none → b = a) → (H a ≠ none → K.lookup a = none) →
      codeAny (model P w) callerA (.call (.ref fa) ⟨[.ref a], []⟩) (fun r s' => r = .ok (.ret (.bool true)) ∧ OldK s₁.heap s'.heap ∧ s'.os = s₁.os ∧ AllBare s'.gens) s₁ := by
    intro H hO hS hok hA hK
    have base_of : ∀ {b : Addr} {o : Obj}, s₁.heap.get? b = some o → H b = none → (hidT s₁.heap H).get? b = some o := fun e n => hidT_get e n
    have noA : ∀ {b : Addr} {o : Obj} {es : Array DictEntry} {ep : Nat}, s₁.heap.get? b = some o → o.data = .dict es ep → H b = none := fun {b o es ep} e d => by
      cases q : H b with
      | none => rfl
      | some u =>
        have e' : b = a := hA b (by rw [q]; simp)
        subst e'
        rw [ha] at e; cases e
        have d' : Data.seq vs.toArray _ = Data.dict es ep := d
        cases d'
    have nsK : ∀ {b : Addr} {m : Str → Option Value}, s₁.heap.Ns b m → (hidT s₁.heap H).Ns b m := fun {b m} ⟨o, es, ep, e, d, r⟩ => ⟨o, es, ep, base_of e (noA e d), d, r⟩
    have hKb : K.In (hidT s₁.heap H) := fun b o e => base_of (KX b o e) (by
      cases q : H b with
      | none => rfl
      | some u =>
        have e' : b = a := hA b (by rw [q]; simp)
        subst e'
        rw [hK (by rw [q]; simp)] at e; cases e)
    have hM : Mod K mg (hidT s₁.heap H) := ⟨hKb, nsK hns, ⟨mb, nsK hb, hbb⟩, let ⟨mc, h1, h2⟩ := hlim; ⟨mc, nsK h1, h2⟩⟩
    have e0 : Env0 P w K mg (hidT s₁.heap H) callerA [] s₁ H := ⟨rfl, hM, fun b o e => of_hidT e, Nat.le_of_eq (hidT_size _ _), trivial, fun b hb => absurd (show b ∈ ([] : List Addr) from hb) (by simp), hok, .of_eq hg⟩
    refine codeAny_mono ((F _ hKb (nsK hns)).run callerA [] s₁ H ⟨[.ref a], []⟩ [.ref a] [.ref a] _ _ hr e0 (hbind s₁ (.ref a)) (.cons rfl .nil) (hsp H hO hS)) fun r s' h => ?_
    cases r with
    | error e => exact (hCX H e s' h).elim
    | ok fl =>
      cases fl with
      | next => exact False.elim h
      | brk => exact False.elim h
      | cont => exact False.elim h
      | ret u =>
        obtain ⟨v, H', os, bare, un, hok', r', q⟩ := h
        have q' : v = .bl true := q
        subst q'
        obtain rfl : u = Value.bool true := r'
        refine ⟨rfl, OldK.of_keep fun b o e => ?_, os, bare⟩
        cases q : H b with
        | none => exact un.keep b o e q (by intro z; exact absurd (show b ∈ ([] : List Addr) from z) (by simp)) (by simp)
        | some u =>
          rcases hO b with z | ⟨ob, xs, z⟩
          · rw [q] at z; cases z
          · have z2 := un.frzs b ob _ z
            obtain ⟨e1, _⟩ := hok b _ z
            obtain ⟨e2, _⟩ := hok' b _ z2
            rw [e] at e1; cases e1
            exact e2
  cases hk : K.lookup a with
  | some o =>
    -- the script is one of the module's own objects
    have e := KX a o hk
    rw [ha] at e
    cases e
    refine core (fun _ => none) (fun _ => .inl rfl) (.inr ⟨_, vs.toArray, _, hk, rfl, rfl, rfl, by rw [List.size_toArray, lenV]; exact hl, by simpa using rv⟩) (fun b u z => by have z' : (none : Option HO) = some u := z; cases z') (fun b z => absurd rfl z) fun z => absurd rfl z
  | none =>
    refine core (fun b => if b = a then some (.frz { cls := .type "list", data := .seq vs.toArray } (.lst (ns.map V.int))) else none) (fun b => ?_) (.inl (.inr ⟨{ cls := .type "list", data := .seq vs.toArray }, if_pos rfl⟩)) (fun b u z => ?_) (fun b z => ?_) fun _ => hk
    · by_cases hb : b = a
      · exact .inr ⟨_, _, if_pos hb⟩
      · exact .inl (if_neg hb)
    · by_cases hb : b = a
      · have z' := (if_pos hb).symm.trans z
        cases z'
        subst hb
        exact ⟨ha, by rw [List.length_map]; exact hl, vs, _, rv, ha⟩
      · have z' := (if_neg hb).symm.trans z
        cases z'
    · by_cases hb : b = a
      · exact hb
      · exact absurd (if_neg hb) z
end L2

namespace L2
open PySem PySem.Spec PyProof.Rows

abbrev KOf {K : PySem.W.Frag} {h : Heap} (_ : K.In h) : PySem.W.Frag := K

/-- the goal that k_head leaves (case hc), from the law's promise. F gives the function object fd (K's own) once, then the promise over every base -/
theorem walk_of {l : PySem.W.OpenLaw} {n k : Nat} {q : Program} {loose : List Str} {XP : (Str → Option Value) → Heap → Prop} {YP : World → Heap → Prop} {d : DefRec} {K : Params → PySem.W.Frag} {CX : World → CXT} {sp : World → Sp} {x : Str}
    (hn : l.most = some n) (hn2 : n ≤ sizeLine) (hdf : d.params.defaults = []) (hr : Room k callerA)
    (hY : ∀ (w : World) (h : Heap), YP w h → (K w.params).In h)
    (F : ∀ (w : World) (mg : Str → Option Value) (fa : Addr) (h : Heap), (K w.params).In h → h.Ns mainGlobals mg → mg d.name = some (.ref fa) →
      ∃ fd : FuncData, (∀ (s : Shared) (u : Value), BindsTo s fd ⟨[u], []⟩ [(x, u)]) ∧
        ∀ base : Heap, (K w.params).In base → base.Ns mainGlobals mg → FnOk l.prog w (K w.params) mg base (CX w) k fa fd [x] (sp w))
    (hsp : ∀ (w : World) (H : Hp) (a : Addr) (ns : List Int), ns.length ≤ n → Only H → SqL (K w.params) H a (ns.map V.int) → sp w [.ref a] H (fun v _ => v = .bl true) fun _ _ _ => False)
    (hCX : ∀ (w : World) (H : Hp) (s : Shared) (e : Value) (s' : Shared), CX w [] H s (fun _ _ _ => False) e s' → False) :
    PySem.W.WalkO q loose XP YP l.row.toRowW d [] (fun f vs => PySem.call f vs) := by
  refine Att.attach_call hn hdf fun w s₀ s₁ mg mb fa o pm cd doc a vs ns G Y ho hd hcd hmg hobj hints hlen hg => ?_
  have KX := hY w _ Y
  obtain ⟨fd, hb, hF⟩ := F w mg fa _ KX G.T.g hmg
  exact law_call KX G.T.g G.T.b G.T.builtins G.T.nolimit hg hobj hints (Nat.le_trans hlen hn2) hr hF hb (fun H hO hS => hsp w H a ns hlen hO hS) fun H e s' => hCX w H s₁ e s'
end L2

/- THE LAST THEOREM (shape; LID, My.* are yours):
   My.Adr: a structure of the addresses that your layer names (classes, functions); My.Txt K t: a structure (Prop) of the equations over K;
   My.txt_mk : {K} {implicit addresses ..} (e1 : nsIn K mainGlobals "law" = some (some (.ref f))) (e2 : K.lookup f = some ⟨oc, od, .func (fnOf "law" "law" params body scope dV kV doc pm an cdv ct), sl⟩) (e3 : codeIn K cdv "law" = true) .. : ∃ t, My.Txt K t

set_option maxRecDepth 100000 in
set_option maxHeartbeats 0 in
theorem PySem.Challenge.cw_LID_holds : PySem.Challenge.rw_LID.Holds := by
  w_on; o_law; k_head; (case hw => w_witness2)
  k_fill
  refine L2.walk_of (l := PySem.Challenge.rw_LID) (n := 63) (k := 40) (x := "script") (CX := fun w => ..) (sp := fun _ => My.sp_law) rfl (by decide) rfl ⟨rfl, by decide, by decide⟩ (fun w h Y => PySem.W.kIn_of Y) ?F ?S ?C
  case F =>
    intro w mg fa h KX G hmg
    have T : ∃ t, My.Txt (L2.KOf KX) t := by
      dsimp only [L2.KOf]                          -- K must stand as «<heap const> w.params» for k_is
      refine' My.txt_mk ?e1 ?e2 ?e3 ..
      (case e1 => PySem.W.k_is)                    -- in the order: a name -> its address -> its object -> its parts
      (case e2 => PySem.W.k_is)
      ..
    obtain ⟨t, T⟩ := T
    have e0 := hmg.symm.trans (PySem.W.mg_of KX G T.law)
    cases e0                                       -- fa is the law's own address
    exact ⟨_, fun s u => .of_eq rfl, fun base kb nb => My.law_fn T kb nb⟩     -- if «.of_eq rfl» comes too early: refine' ⟨_, ?b, fun base kb nb => My.law_fn T kb nb⟩; exact fun s u => .of_eq rfl
  case S => exact fun w H a ns hl hO hS => ..
  case C => exact ..
(the tactic k_is has no namespace: write k_is) -/

/-! SHORT WORDS over the layer: a def of the text, its body, what a loop and a test want. -/
namespace L2
open PySem PySem.Spec PyProof.Rows

/-! ### the text by places -/
/-- the j-th statement of a class's body -/
def inClass (s : Stmt) (j : Nat) : Stmt := match s with
  | .ClassDef _ _ _ body _ _ _ _ _ _ _ => body.getD j (.Pass ⟨0, 0, 0, 0⟩)
  | _ => .Pass ⟨0, 0, 0, 0⟩
def defArgs (s : Stmt) : Arguments := match s with
  | .FunctionDef _ a _ _ _ _ _ _ _ _ => a
  | _ => { posonlyargs := [], args := [], vararg := none, kwonlyargs := [], kw_defaults := [], kwarg := none, defaults := [] }
def defBody (s : Stmt) : List Stmt := match s with
  | .FunctionDef _ _ b _ _ _ _ _ _ _ => b
  | _ => []
def defScope (s : Stmt) : Scope := match s with
  | .FunctionDef _ _ _ _ _ _ sc _ _ _ => sc
  | _ => { kind := .function, names := [], isGenerator := false, isCoroutine := false }

/-! ### no exception leaves a def -/
abbrev CX0 : CXT := fun _ _ _ _ _ _ => False
abbrev E0 : XK := fun _ _ _ => False
theorem pass0 {X : Cx} : Passes CX0 X E0 := fun _ _ _ _ _ _ _ h => h.elim

/-! ### a def (or method) of the text as it stands behind the top -/
structure Fun (K : PySem.W.Frag) (x qual : Str) (st : Stmt) (f : Addr) (fd : FuncData) : Prop where
  ex : ∃ (oc : Value) (od : Option Addr) (kV doc pm : Value) (an : Option Addr) (cdv ct : Value) (osl : Array (Option Value)),
    fd = PySem.W.fnOf x qual (defArgs st) (defBody st) (defScope st) .none kV doc pm an cdv ct ∧ K.lookup f = some ⟨oc, od, .func fd, osl⟩ ∧ PySem.W.codeIn K cdv qual = true
  kp : PySem.W.keepIn K (.ref f) = true
section
variable {P : Program} {w : World} {K : PySem.W.Frag} {mg : Str → Option Value} {base : Heap}
/-- THE RULE for a def: its body as a term of rules, and the reading of that term -/
theorem Fun.ok {x qual : Str} {st : Stmt} {f : Addr} {fd : FuncData} {N ps : List Str} {k : Nat} {sp : Sp} (F : Fun K x qual st f fd) (S : FnScope N ps (defScope st)) (len : ∀ vs H Q E, sp vs H Q E → vs.length = ps.length)
    (hbody : ∀ (cdv : Value) (A : Around) (outer : List Env) (s : Shared) (H : Hp) (vs : List V) (Q : VK) (E : XK), Room k (A.deeper (envOfC qual (defScope st) s.heap.objs.size f cdv)) → sp vs H Q E →
      ∃ t, PSs (cxOf CX0 P w K mg base N qual (defScope st) f cdv A outer s H E).nox (defBody st) t ∧ t { nx := fun _ H' => Q .non H', rt := Q } (start N vs) H) : FnOk P w K mg base CX0 (k + 1) f fd ps sp := by
  obtain ⟨oc, od, kV, doc, pm, an, cdv, ct, osl, rfl, lk, hcd⟩ := F.ex
  refine fn_of lk hcd S len fun A outer s H vs Q E hr hsp => ?_
  obtain ⟨t, h, q⟩ := hbody cdv A outer s H vs Q E hr hsp
  exact ⟨t, h.nox, q⟩
/-- how its arguments bind (no defaults): h is «fun _ _ _ _ _ _ us hl => match us, hl with | [_, _], _ => rfl», one _ a parameter -/
theorem Fun.binds {x qual : Str} {st : Stmt} {f : Addr} {fd : FuncData} {ps : List Str} (F : Fun K x qual st f fd)
    (h : ∀ (kV doc pm : Value) (an : Option Addr) (cdv ct : Value) (us : List Value), us.length = ps.length → bindArgs (PySem.W.fnOf x qual (defArgs st) (defBody st) (defScope st) .none kV doc pm an cdv ct) ⟨us, []⟩ = pure (ps.zip us)) : Binds K fd ps [] := by
  obtain ⟨oc, od, kV, doc, pm, an, cdv, ct, osl, rfl, lk, hcd⟩ := F.ex
  exact .all (h kV doc pm an cdv ct)
theorem fun_mk {x qual : Str} {st : Stmt} {f : Addr} {oc : Value} {od an : Option Addr} {osl : Array (Option Value)} {kV doc pm cdv ct : Value} (l : K.lookup f = some ⟨oc, od, .func (PySem.W.fnOf x qual (defArgs st) (defBody st) (defScope st) .none kV doc pm an cdv ct), osl⟩)
    (c : PySem.W.codeIn K cdv qual = true) (k : PySem.W.keepIn K (.ref f) = true) : Fun K x qual st f (PySem.W.fnOf x qual (defArgs st) (defBody st) (defScope st) .none kV doc pm an cdv ct) := ⟨⟨oc, od, kV, doc, pm, an, cdv, ct, osl, rfl, l, c⟩, k⟩
end
theorem small1000 {n : Nat} (h : n ≤ 1000) : n < sizeLine := Nat.lt_of_le_of_lt h (by decide)

/-! ### expressions in short: the name that stands in the i-th slot -/
section
variable {X : Cx}
theorem pv (i : Nat) {x : Str} {pos : Pos} (hN : X.N[i]? = some x := by rfl) (hv : Vis X.env.scope x := by first | exact Or.inl rfl | exact Or.inr (Or.inl rfl) | exact Or.inr (Or.inr rfl)) (hd : (x == ("__debug__" : Str)) = false := by decide)
    (hcd : (x == ("__classdict__" : Str)) = false := by decide) : PE X (.Name x pos) (tVar i) := pe_var hN hv hd hcd
end

/-! ### tests -/
theorem iteF {A B : Prop} (h : B) : if false = true then A else B := by
  rw [if_neg Bool.false_ne_true]
  exact h
theorem iteT {A B : Prop} (h : A) : if true = true then A else B := by
  rw [if_pos rfl]
  exact h
theorem ite2 {c A B : Prop} [Decidable c] (h1 : c → A) (h2 : ¬ c → B) : if c then A else B := by
  by_cases h : c
  · rw [if_pos h]
    exact h1 h
  · rw [if_neg h]
    exact h2 h
/-! ### heaps -/
/-- all that was tracked is as it was -/
def Same (H H' : Hp) : Prop := ∀ b o, H b = some o → H' b = some o
theorem Same.refl (H : Hp) : Same H H := fun _ _ h => h
theorem Same.trans {H H1 H2 : Hp} (a : Same H H1) (b : Same H1 H2) : Same H H2 := fun c o h => b c o (a c o h)
theorem Same.free {H H' : Hp} (e : Same H H') {l : Addr} (h : H' l = Option.none) : H l = Option.none := by
  cases q : H l with
  | none => rfl
  | some o =>
    rw [e l o q] at h
    cases h
theorem Same.seq {K : PySem.W.Frag} {H H' : Hp} {a : Addr} {xs : List V} (e : Same H H') (h : SqL K H a xs) : SqL K H' a xs := by
  rcases h with (h | ⟨o, h⟩) | h
  · exact .inl (.inl (e _ _ h))
  · exact .inl (.inr ⟨o, e _ _ h⟩)
  · exact .inr h

end L2

set_option maxHeartbeats 4000000
namespace L2
open PySem PySem.Spec PyProof.Rows

/-! ### a comprehension's block -/
def clOf (env : Env) : List (Str × NameKind) → List (Str × Addr) → List (Str × Addr)
  | [], acc => acc
  | (n, k) :: r, acc => clOf env r (if k == NameKind.free then (match env.cells.lookup n with | some c => (n, c) :: acc | none => acc) else acc)

theorem clo_fold {env : Env} {f : Str × NameKind → List (Str × Addr) → Sem (ForInStep (List (Str × Addr)))}
    (hf : ∀ n k acc, f (n, k) acc = if (k == NameKind.free) = true then (do let c ← cellOf env n; pure (ForInStep.yield ((n, c) :: acc))) else pure (ForInStep.yield acc)) :
    ∀ (l : List (Str × NameKind)) (acc : List (Str × Addr)), (∀ y ∈ l, y.2 = .free → ∃ c, env.cells.lookup y.1 = some c) → forIn l acc f = (pure (clOf env l acc) : Sem _)
  | [], acc, _ => rfl
  | (n, k) :: r, acc, h => by
    rw [List.forIn_cons, hf]
    have ih := clo_fold hf r
    by_cases hk : (k == NameKind.free) = true
    · have hk' : k = .free := by simpa using hk
      obtain ⟨c, hc⟩ := h (n, k) List.mem_cons_self hk'
      have e : cellOf env n = (pure c : Sem _) := by unfold cellOf; rw [hc]
      rw [if_pos hk, e, pure_bind, pure_bind]
      show forIn r ((n, c) :: acc) f = _
      rw [ih _ fun y hy => h y (List.mem_cons_of_mem _ hy)]
      unfold clOf
      rw [if_pos hk]
      have hc2 : List.lookup n env.cells = some c := hc
      simp only [hc2]
      cases r <;> rfl
    · rw [if_neg hk, pure_bind]
      show forIn r acc f = _
      rw [ih _ fun y hy => h y (List.mem_cons_of_mem _ hy)]
      conv => rhs; unfold clOf
      rw [if_neg hk]
theorem clo_eq {scope : Scope} {env : Env} (h : ∀ y ∈ scope.names, y.2 = .free → ∃ c, env.cells.lookup y.1 = some c) : closureFor scope env = (pure (clOf env scope.names []) : Sem _) := by
  have e : closureFor scope env = (forIn scope.names ([] : List (Str × Addr)) (fun x cs => match x with
      | (name, kind) => if (kind == NameKind.free) = true then (do let c ← cellOf env name; pure (ForInStep.yield ((name, c) :: cs))) else pure (ForInStep.yield cs)) >>= fun cs => pure cs) := rfl
  rw [e, clo_fold (env := env) (fun n k acc => rfl) scope.names [] h]
  rfl
theorem cl_sub {env : Env} : ∀ {l : List (Str × NameKind)} {acc : List (Str × Addr)}, (∀ x c, acc.lookup x = some c → env.cells.lookup x = some c) → ∀ x c, (clOf env l acc).lookup x = some c → env.cells.lookup x = some c
  | [], acc, h, x, c, e => h x c e
  | (n, k) :: r, acc, h, x, c, e => by
    unfold clOf at e
    refine cl_sub (l := r) (fun y d hd => ?_) x c e
    by_cases hk : (k == NameKind.free) = true
    · rw [if_pos hk] at hd
      cases hc : env.cells.lookup n with
      | none => rw [hc] at hd; exact h y d hd
      | some c' =>
        rw [hc] at hd
        simp only [List.lookup_cons] at hd
        by_cases hy : (y == n) = true
        · rw [hy] at hd
          have e1 : y = n := by simpa using hy
          cases hd
          rw [e1]; exact hc
        · have hy' : (y == n) = false := by simpa using hy
          rw [hy'] at hd
          exact h y d hd
    · rw [if_neg hk] at hd; exact h y d hd
theorem cl_mono {env : Env} : ∀ {l : List (Str × NameKind)} {acc : List (Str × Addr)} {x : Str}, (acc.lookup x).isSome = true → ((clOf env l acc).lookup x).isSome = true
  | [], acc, x, h => h
  | (n, k) :: r, acc, x, h => by
    unfold clOf
    refine cl_mono (l := r) ?_
    by_cases hk : (k == NameKind.free) = true
    · rw [if_pos hk]
      cases hc : env.cells.lookup n with
      | none => exact h
      | some c' =>
        simp only [List.lookup_cons]
        by_cases hy : (x == n) = true
        · rw [hy]; rfl
        · have hy' : (x == n) = false := by simpa using hy
          rw [hy']; exact h
    · rw [if_neg hk]; exact h
theorem cl_has {env : Env} : ∀ {l : List (Str × NameKind)} {acc : List (Str × Addr)} {x : Str} {c : Addr}, (x, NameKind.free) ∈ l → env.cells.lookup x = some c → ((clOf env l acc).lookup x).isSome = true
  | (n, k) :: r, acc, x, c, hm, hc => by
    unfold clOf
    rcases List.mem_cons.mp hm with e | hm
    · cases e
      rw [if_pos (by rfl)]
      rw [hc]
      refine cl_mono ?_
      simp
    · exact cl_has hm hc

/-- the names of a block as its scope has them behind the relabelling -/
theorem relabel_of {env : Env} : ∀ {names : List (Str × NameKind)} {x : Str} {k : NameKind}, (∀ y ∈ names, y.2 ≠ .cell) →
    (names.map fun (n, k) => if (k == NameKind.free && env.scope.kind == .function && env.kindOf n == some .cell) then (n, NameKind.cell) else (n, k)).lookup x = some k → (k = .cell ∨ k = .free) → (x, NameKind.free) ∈ names
  | [], _, _, _, h, _ => by simp at h
  | (n, j) :: r, x, k, hn, h, hk => by
    rw [List.map_cons] at h
    cases hx : x == n with
    | true =>
      have hxe : x = n := by simpa using hx
      subst hxe
      by_cases hc : (j == NameKind.free && env.scope.kind == .function && env.kindOf x == some .cell) = true
      · have hj : j = .free := by
          simp only [Bool.and_eq_true] at hc
          simpa using hc.1.1
        subst hj
        exact List.mem_cons_self
      · rw [show (match ((x, j) : Str × NameKind) with | (n, k) => if (k == NameKind.free && env.scope.kind == .function && env.kindOf n == some .cell) = true then (n, NameKind.cell) else (n, k)) = (x, j) from if_neg hc] at h
        simp only [List.lookup_cons, beq_self_eq_true] at h
        cases h
        rcases hk with e | e
        · exact absurd e (hn (x, j) List.mem_cons_self)
        · rw [e]; exact List.mem_cons_self
    | false =>
      refine List.mem_cons_of_mem _ (relabel_of (env := env) (fun y hy => hn y (List.mem_cons_of_mem _ hy)) ?_ hk)
      by_cases hc : (j == NameKind.free && env.scope.kind == .function && env.kindOf n == some .cell) = true
      · rw [show (match ((n, j) : Str × NameKind) with | (n, k) => if (k == NameKind.free && env.scope.kind == .function && env.kindOf n == some .cell) = true then (n, NameKind.cell) else (n, k)) = (n, NameKind.cell) from if_pos hc] at h
        simp only [List.lookup_cons, hx] at h
        exact h
      · rw [show (match ((n, j) : Str × NameKind) with | (n, k) => if (k == NameKind.free && env.scope.kind == .function && env.kindOf n == some .cell) = true then (n, NameKind.cell) else (n, k)) = (n, j) from if_neg hc] at h
        simp only [List.lookup_cons, hx] at h
        exact h

theorem relabel_free {env : Env} : ∀ {names : List (Str × NameKind)} {x : Str}, names.lookup x = some .free →
    (names.map fun (n, k) => if (k == NameKind.free && env.scope.kind == .function && env.kindOf n == some .cell) then (n, NameKind.cell) else (n, k)).lookup x = some .cell ∨
    (names.map fun (n, k) => if (k == NameKind.free && env.scope.kind == .function && env.kindOf n == some .cell) then (n, NameKind.cell) else (n, k)).lookup x = some .free
  | [], _, h => by simp at h
  | (n, j) :: r, x, h => by
    rw [List.map_cons]
    cases hx : x == n with
    | true =>
      simp only [List.lookup_cons, hx] at h
      cases h
      by_cases hc : (NameKind.free == NameKind.free && env.scope.kind == .function && env.kindOf n == some .cell) = true
      · refine .inl ?_
        rw [show (match ((n, NameKind.free) : Str × NameKind) with | (n, k) => if (k == NameKind.free && env.scope.kind == .function && env.kindOf n == some .cell) = true then (n, NameKind.cell) else (n, k)) = (n, NameKind.cell) from if_pos hc]
        simp only [List.lookup_cons, hx]
      · refine .inr ?_
        rw [show (match ((n, NameKind.free) : Str × NameKind) with | (n, k) => if (k == NameKind.free && env.scope.kind == .function && env.kindOf n == some .cell) = true then (n, NameKind.cell) else (n, k)) = (n, NameKind.free) from if_neg hc]
        simp only [List.lookup_cons, hx]
    | false =>
      simp only [List.lookup_cons, hx] at h
      have ih := relabel_free (env := env) h
      by_cases hc : (j == NameKind.free && env.scope.kind == .function && env.kindOf n == some .cell) = true
      · rw [show (match ((n, j) : Str × NameKind) with | (n, k) => if (k == NameKind.free && env.scope.kind == .function && env.kindOf n == some .cell) = true then (n, NameKind.cell) else (n, k)) = (n, NameKind.cell) from if_pos hc]
        simp only [List.lookup_cons, hx]
        exact ih
      · rw [show (match ((n, j) : Str × NameKind) with | (n, k) => if (k == NameKind.free && env.scope.kind == .function && env.kindOf n == some .cell) = true then (n, NameKind.cell) else (n, k)) = (n, j) from if_neg hc]
        simp only [List.lookup_cons, hx]
        exact ih
theorem lookup_mem {x : Str} {k : NameKind} : ∀ {l : List (Str × NameKind)}, l.lookup x = some k → (x, k) ∈ l
  | [], h => by simp at h
  | (n, j) :: r, h => by
    cases hx : x == n with
    | true =>
      simp only [List.lookup_cons, hx] at h
      cases h
      have e : x = n := by simpa using hx
      rw [e]; exact List.mem_cons_self
    | false =>
      simp only [List.lookup_cons, hx] at h
      exact List.mem_cons_of_mem _ (lookup_mem h)
/-- the block's context -/
def blk (X : Cx) (N : List Str) (scope : Scope) (C : Addr) (s₀ : Shared) (H₀ : Hp) (ex : List Addr) (xe : Value → Shared → Prop) : Cx :=
  { X with N := N, s₀ := s₀, H₀ := H₀, env := compEnvC scope (clOf X.env scope.names []) C X.env, outer := X.stack, stack := X.stack, ex := ex, fn := fun _ => false, pn := [], xe := xe }
/-- what of the text a block must have: N its names, those at caps.. taken from the outer names -/
structure Blk (X : Cx) (N : List Str) (caps : List (Option Nat)) (scope : Scope) : Prop where
  kind : scope.kind = .function
  nocell : ∀ y ∈ scope.names, y.2 ≠ .cell
  names : ∀ y ∈ scope.names, y.2 = .local → scope.names.lookup y.1 = some .local
  free : ∀ y ∈ scope.names, y.2 = .free → X.env.kindOf y.1 = some .cell ∨ X.env.kindOf y.1 = some .free
  len : caps.length = N.length
  cap : ∀ (i j : Nat) (x : Str), caps[i]? = some (some j) → N[i]? = some x → X.N[j]? = some x ∧ Vis X.env.scope x ∧ scope.names.lookup x = some .free
/-- the block's names' values at its start -/
def capSt (caps : List (Option Nat)) (σ : St) : St := caps.map fun c => match c with | some j => (σ[j]?).join | none => none

section
variable {X : Cx} {pins : List (Addr × Obj)} {σ : St} {H : Hp} {s : Shared}
theorem blk_ok {N : List Str} {caps : List (Option Nat)} {scope : Scope} {fp : List Addr} {xe : Value → Shared → Prop} (B : Blk X N caps scope) (I : Inv X pins σ H s) (hlt : ∀ b ∈ fp, b < s.heap.objs.size) (hf : ∀ b ∈ fp, FpOk X pins H b) :
    (blk X N scope s.heap.objs.size s H fp xe).Ok where
  mod := I.ok.mod
  kind := B.kind
  glob := I.ok.glob
  blt := I.ok.blt
  above := Nat.le_refl _
  inj := fun x y c hx hy => I.ok.inj x y c (cl_sub (fun _ _ e => by simp at e) x c hx) (cl_sub (fun _ _ e => by simp at e) y c hy)
  has := fun x hk => by
    have hm : (x, NameKind.free) ∈ scope.names := hk.elim (fun e => relabel_of B.nocell e (.inl rfl)) fun e => relabel_of B.nocell e (.inr rfl)
    obtain ⟨c, hc⟩ := I.ok.has x (B.free _ hm rfl)
    exact Option.isSome_iff_exists.mp (cl_has hm hc)
  cab := fun x c h _ => by cases h
  hd := I.ok.hd
  frames := I.ok.frames
  stk := .inl rfl
  exf := fun b hb => ⟨Nat.ne_of_lt (hlt b hb), fun x c hc => (hf b hb).2.2.2.2.1 x c (cl_sub (fun _ _ e => by simp at e) x c hc)⟩
  bs := I.bs
  bsz := Nat.le_trans I.ok.bsz I.sz
  noex := fun b o e hb => by
    rcases (hf b hb).2.2.2.1 with h | h
    · exact I.ok.noex b o e h
    · exact absurd (Heap.lt_size (I.ok.bs b o e).1) (Nat.not_lt.mpr h)
  exfs := fun b hb hs => by
    rcases List.mem_cons.mp (I.stkSub b hs) with e | e
    · exact (hf b hb).2.1 e
    · exact (hf b hb).2.2.1 e
  funs := I.stack
  frf := I.stkFree

theorem blk_inv {N : List Str} {caps : List (Option Nat)} {scope : Scope} {fp : List Addr} {xe : Value → Shared → Prop} {h₁ : Heap} {t' : Nat} (B : Blk X N caps scope) (I : Inv X pins σ H s) (hlt : ∀ b ∈ fp, b < s.heap.objs.size) (hf : ∀ b ∈ fp, FpOk X pins H b)
    {m : Str → Option Value} (hn : h₁.Ns s.heap.objs.size m) (hk : ∀ b o, s.heap.get? b = some o → h₁.get? b = some o) :
    Inv (blk X N scope s.heap.objs.size s H fp xe) [] (capSt caps σ) H { s with heap := h₁, toks := t' } where
  ok := blk_ok B I hlt hf
  os := rfl
  bare := I.bare
  base := Un.kept hk
  loc := by
    refine ⟨m, hn, fun i x v hN hσ hv => ?_⟩
    unfold capSt at hσ
    rw [List.getElem?_map] at hσ
    cases hc : caps[i]? with
    | none => rw [hc] at hσ; cases hσ
    | some oj =>
      rw [hc] at hσ
      cases oj with
      | none => cases hσ
      | some j =>
        have hσ' : (σ[j]?).join = some v := Option.some.inj hσ
        have hj : σ[j]? = some (some v) := by
          cases q : σ[j]? with
          | none => rw [q] at hσ'; cases hσ'
          | some o => rw [q] at hσ'; have : o = some v := hσ'; rw [this]
        obtain ⟨hNj, hVis, hfr⟩ := B.cap i j x hc hN
        obtain ⟨m', _, hl⟩ := I.loc
        obtain ⟨u, ru, lk⟩ := hl j x v hNj hj hVis
        have hm := lookup_mem hfr
        have hkX := B.free _ hm rfl
        refine ⟨u, ru, .inr ⟨relabel_free hfr, ?_⟩⟩
        rcases lk with ⟨e, _⟩ | ⟨_, c, hc1, hc2⟩
        · rcases hkX with e' | e'
          · rw [e] at e'; cases e'
          · rw [e] at e'; cases e'
        · obtain ⟨c', hc'⟩ := Option.isSome_iff_exists.mp (cl_has (env := X.env) (acc := []) hm hc1)
          have h2 := cl_sub (fun _ _ e => by simp at e) x c' hc'
          rw [hc1] at h2
          cases h2
          exact ⟨c, hc', hc2.keeps hk⟩
  cell := fun x c hc => by
    obtain ⟨v, hv⟩ := I.cell x c (cl_sub (fun _ _ e => by simp at e) x c hc)
    exact ⟨v, hv.keeps hk⟩
  free := I.hok.fresh (Nat.le_refl _)
  freeC := fun x c hc => I.freeC x c (cl_sub (fun _ _ e => by simp at e) x c hc)
  pin := fun p hp => by cases hp
  hok := I.hok.kept hk
  len := by unfold capSt; rw [List.length_map]; exact B.len
end
end L2

namespace L2
open PySem PySem.Spec PyProof.Rows
section
variable {prog : Program} {w : World} {A : Around} {R : Result → Shared → Prop} {s : Shared}
abbrev testsOf (ifs : List Expr) (env : Env) : Sem Bool := forIn ifs true fun c r => if r = true then do let ok ← isTrue c env (eval c env); pure (ForInStep.yield ok) else pure (ForInStep.yield r)
theorem comp_loop {elt target iter : Expr} {ifs : List Expr} {scope : Scope} {pos : Pos} {it acc : Value} {env : Env} (I : Nat → Shared → Prop)
    (turn : ∀ n s, I n s → wpAny (model prog w) A (pyNext it) (fun r s₁ => match r with
      | none => R (.ok .next) s₁
      | some v => wpAny (model prog w) A (letOwnedTupleGo target it v) (fun _ s₁' => wpAny (model prog w) A (assign target env v) (fun _ s₂ =>
          wpAny (model prog w) A (testsOf ifs env) (fun ok s₃ =>
            if ok = true then wpAny (model prog w) A (eval elt env) (fun x s₄ =>
              wpAny (model prog w) A (call (.builtin "list.append") [acc, x]) (fun _ s₅ => ∃ m, m < n ∧ I m s₅) (notedBy (model prog w) A env fun e s' => R (.error e) s') s₄) (notedBy (model prog w) A env fun e s' => R (.error e) s') s₃
            else ∃ m, m < n ∧ I m s₃) (notedBy (model prog w) A env fun e s' => R (.error e) s') s₂) (notedBy (model prog w) A env fun e s' => R (.error e) s') s₁') (notedBy (model prog w) A env fun e s' => R (.error e) s') s₁) (notedBy (model prog w) A env fun e s' => R (.error e) s') s)
    (n : Nat) (h : I n s) : codeAny (model prog w) A (.compLoop (.ListComp elt [⟨target, iter, ifs, 0⟩] scope pos) 0 it acc env) R s := by
  refine codeAny_loop rfl I (fun n s hI => ?_) n h
  show wpAny _ A ((compTurn (.ListComp elt [⟨target, iter, ifs, 0⟩] scope pos) 0 it acc env).onRaise (fun x => do noteFrame x env; theTreesLotGoes x)) _ _ s
  refine wpAny_noted ?_
  rw [compTurn_list]
  refine wpAny_bind (wpAny_standAt (wpAny_bind (wpAny_mono (turn n s hI) (fun r s₁ h₁ => ?_) fun _ _ h' => h')))
  cases r with
  | none => exact wpAny_pure h₁
  | some v =>
    refine wpAny_bind (wpAny_mono h₁ (fun _ s₁' h₁' => ?_) fun _ _ h' => h')
    refine wpAny_bind (wpAny_mono h₁' (fun _ s₂ h₂ => wpAny_bind (wpAny_mono h₂ (fun ok s₃ h₃ => ?_) fun _ _ h' => h')) fun _ _ h' => h')
    cases ok with
    | false => exact wpAny_pure ⟨rfl, h₃⟩
    | true =>
      exact wpAny_bind (wpAny_bind (wpAny_mono h₃ (fun x s₄ h₄ => wpAny_bind (wpAny_mono h₄ (fun _ s₅ h₅ => wpAny_pure (wpAny_pure ⟨rfl, h₅⟩)) fun _ _ h' => h')) fun _ _ h' => h'))
end

/-! ### the tests of a clause -/
def PF (X : Cx) (ifs : List Expr) (t : TT) : Prop :=
  ∀ (pins : List (Addr × Obj)) (s : Shared) (σ : St) (H : Hp) (Q : Bool → Hp → Prop), Inv X pins σ H s → t σ H Q → wpAny (model X.prog X.w) X.A (testsOf ifs X.env) (TP X pins σ Q) X.xe s
def tYes : TT := fun _ H Q => Q true H
theorem pf_nil {X : Cx} : PF X [] tYes := fun pins s σ H Q I h => wpAny_tests_nil ⟨H, I, h⟩
/-- what a comprehension reads as: l is the new list -/
def tCompR (g : TG) (tt : TT) (te : TE) (σ0 : St) (J : It) (H1 : Hp) (Q : V → Hp → Prop) : Prop :=
  ∀ l, H1 l = none → ∃ W : Nat → Nat → St → Hp → Prop, (∃ m, W 0 m σ0 (upd H1 l (.lst []))) ∧ ∀ i m σ H, W i m σ H →
    (J.stop i H ∧ Q (.ref l) H) ∨ (J.go i H ∧ ∀ x H', J.yld i H x H' → g x σ H' fun σ2 H2 => tt σ2 H2 fun c H3 =>
      if c = true then te σ2 H3 fun v H4 => ∃ xs, H4 l = some (.lst xs) ∧ xs.length < sizeLine ∧ ∃ m', m' < m ∧ W (i + 1) m' σ2 (upd H4 l (.lst (xs ++ [v])))
      else ∃ m', m' < m ∧ W (i + 1) m' σ2 H3)
def tComp (caps : List (Option Nat)) (wi : TI) (g : TG) (tt : TT) (te : TE) : TE := fun σ H Q => wi σ H fun J H1 => tCompR g tt te (capSt caps σ) J H1 Q

/-- the block's own frame, behind the block: nobody's -/
structure Loose (X : Cx) (pins : List (Addr × Obj)) (H : Hp) (C : Addr) : Prop where
  un : H C = none
  loc : C ≠ X.env.locals
  ab : X.s₀.heap.objs.size ≤ C
  cel : ∀ x c, X.env.cells.lookup x = some c → c ≠ C
  pin : ∀ p ∈ X.pn ++ pins, p.1 ≠ C
section
variable {X : Cx} {pins : List (Addr × Obj)} {σ : St} {H : Hp} {s : Shared}
/-- what the block's exceptions are to reach -/
def blkX (X : Cx) (N : List Str) (scope : Scope) (use : Option (Value → Sem Unit)) (Q : Value → Shared → Prop) (acc : Value) (C : Addr) : Value → Shared → Prop :=
  notedBy (model X.prog X.w) X.A (compEnvC scope (clOf X.env scope.names []) C X.env) fun e s' => compPost (model X.prog X.w) X.A X.xe use Q acc C (.error e) s'

theorem comp_core {tg elt iter : Expr} {ifs : List Expr} {scope : Scope} {pos pos' : Pos} {N : List Str} {caps : List (Option Nat)} {wi : TI} {g : TG} {tt : TT} {te : TE} {use : Option (Value → Sem Unit)} {Q : Value → Shared → Prop} {Qv : V → Hp → Prop}
    {xe : Value → Shared → Prop} (hc : X.calm = true) (B : Blk X N caps scope) (hi : PI X tg iter wi)
    (hg : ∀ C s₀ H₀ ex, PG (blk X N scope C s₀ H₀ ex xe) tg g) (ht : ∀ C s₀ H₀ ex, PF (blk X N scope C s₀ H₀ ex xe) ifs tt) (he : ∀ C s₀ H₀ ex, PE (blk X N scope C s₀ H₀ ex xe) elt te)
    (I : Inv X pins σ H s) (h : wi σ H fun J H1 => tCompR g tt te (capSt caps σ) J H1 Qv)
    (fin : ∀ l C H' s5, Inv X pins σ H' s5 → (∃ m, s5.heap.Ns C m) → Loose X pins H' C → Qv (.ref l) H' → compPost (model X.prog X.w) X.A X.xe use Q (.ref l) C (.ok .next) s5)
    (hx : ∀ acc C e s', xe e s' → blkX X N scope use Q acc C e s')
    (hs : ∀ x, foldedSetIterable iter X.env x = pure x := by intro _; rfl) :
    wpAny (model X.prog X.w) X.A (comprehension (.ListComp elt [⟨tg, iter, ifs, 0⟩] scope pos) scope X.env pos' (newList []) false (eval iter X.env) use) Q X.xe s := by
  have hclos : closureFor scope X.env = (pure (clOf X.env scope.names []) : Sem _) := clo_eq fun y hy hf => I.ok.has y.1 (B.free y hy hf)
  refine wpAny_comprehension_free rfl hs hclos B.kind B.names (thn (hi pins s σ H _ I h) fun v s1 h1 => thn h1 fun itv s2 h2 => ?_)
  obtain ⟨it, fp, tn, J, H2, e, I2, T, st2, f2, hJ⟩ := h2
  subst e
  -- the list
  have I3 : Inv X pins σ (upd H2 s2.heap.objs.size (.lst [])) { s2 with heap := s2.heap.push { cls := .type "list", data := .seq ([] : List Value).toArray }, toks := s2.toks } := I2.lnew (ys := []) (its := []) .nil (Nat.zero_le _)
  have hfr2 : H2 s2.heap.objs.size = none := I2.fresh
  obtain ⟨W, ⟨m0, w0⟩, turn⟩ := hJ s2.heap.objs.size hfr2
  refine wpAny_newList ?_
  generalize hs3 : ({ s2 with heap := s2.heap.push { cls := .type "list", data := .seq ([] : List Value).toArray } } : Shared) = s3
  have es3 : ({ s2 with heap := s2.heap.push { cls := .type "list", data := .seq ([] : List Value).toArray }, toks := s2.toks } : Shared) = s3 := hs3
  rw [es3] at I3
  have keep3 : ∀ b o, s2.heap.get? b = some o → s3.heap.get? b = some o := fun b o e => by rw [← hs3]; exact Heap.get?_push_of_some _ e
  have fpo : ∀ b ∈ fp, ∃ o, s2.heap.get? b = some o ∧ ∀ v, o.data ≠ .cell v := T.obj _ _ st2
  have hlt2 : ∀ b ∈ fp, b < s2.heap.objs.size := fun b hb => by obtain ⟨o, e, _⟩ := fpo b hb; exact Heap.lt_size e
  have hlt3 : ∀ b ∈ fp, b < s3.heap.objs.size := fun b hb => by obtain ⟨o, e, _⟩ := fpo b hb; exact Heap.lt_size (keep3 b o e)
  have hf3 : ∀ b ∈ fp, FpOk X pins (upd H2 s2.heap.objs.size (.lst [])) b := fun b hb => ⟨by rw [upd_ne (Nat.ne_of_lt (hlt2 b hb))]; exact (f2 b hb).1, (f2 b hb).2⟩
  refine wpAny_newFunctionEnv B.nocell (by intro y hy; simp at hy) (fun h₁ hns₁ hsb₁ => ?_) B.kind
  try dsimp only at hns₁ hsb₁ ⊢
  have keep4 : ∀ b o, s3.heap.get? b = some o → h₁.get? b = some o := fun b o e => hsb₁.extBut b o (Nat.ne_of_lt (Heap.lt_size e)) (Heap.get?_push_of_some _ e)
  have I4 : ∀ t', Inv (blk X N scope s3.heap.objs.size s3 (upd H2 s2.heap.objs.size (.lst [])) fp xe) [] (capSt caps σ) (upd H2 s2.heap.objs.size (.lst [])) { s3 with heap := h₁, toks := t' } := fun t' => blk_inv B I3 hlt3 hf3 hns₁ keep4
  generalize hY : blk X N scope s3.heap.objs.size s3 (upd H2 s2.heap.objs.size (.lst [])) fp xe = Y at I4
  have Yp : Y.prog = X.prog := by rw [← hY]; rfl
  have Yw : Y.w = X.w := by rw [← hY]; rfl
  have YK : Y.K = X.K := by rw [← hY]; rfl
  have Yc : Y.calm = true := by rw [← hY]; exact hc
  have YA : Y.A = X.A := by rw [← hY]; rfl
  have Yx : Y.xe = xe := by rw [← hY]; rfl
  have Ye : Y.env = compEnvC scope (clOf X.env scope.names []) s3.heap.objs.size X.env := by rw [← hY]; rfl
  have hgY : PG Y tg g := by rw [← hY]; exact hg _ _ _ _
  have htY : PF Y ifs tt := by rw [← hY]; exact ht _ _ _ _
  have heY : PE Y elt te := by rw [← hY]; exact he _ _ _ _
  have stat : ∀ {H' : Hp}, (∀ b ∈ fp, H' b = none) → ∀ b ∈ fp, FpOk Y [] H' b := fun {H'} hn b hb => by
    refine ⟨hn b hb, ?_, ?_, .inl (by rw [← hY]; exact hb), ?_, ?_⟩
    · rw [Ye]; exact Nat.ne_of_lt (hlt3 b hb)
    · intro hm
      rw [← hY] at hm
      rcases List.mem_cons.mp (I3.stkSub b hm) with e | e
      · exact (f2 b hb).2.1 e
      · exact (f2 b hb).2.2.1 e
    · intro x c hcl
      rw [Ye] at hcl
      exact (f2 b hb).2.2.2.2.1 x c (cl_sub (fun _ _ e => by simp at e) x c hcl)
    · intro p hp
      rw [← hY] at hp
      cases hp
  have st4 : tn 0 h₁ := T.keep _ _ _ st2 fun b hb o e => keep4 b o (keep3 b o e)
  have toX : ∀ e s', xe e s' → notedBy (model X.prog X.w) X.A (compEnvC scope (clOf X.env scope.names []) s3.heap.objs.size X.env) (fun e s' => compPost (model X.prog X.w) X.A X.xe use Q (.ref s2.heap.objs.size) s3.heap.objs.size (.error e) s') e s' := fun e s' hxe => hx _ _ e s' hxe
  have loop : ∀ tk, codeAny (model X.prog X.w) X.A (.compLoop (.ListComp elt [⟨tg, iter, ifs, 0⟩] scope pos) 0 (.ref it) (.ref s2.heap.objs.size) (compEnvC scope (clOf X.env scope.names []) s3.heap.objs.size X.env))
      (compPost (model X.prog X.w) X.A X.xe use Q (.ref s2.heap.objs.size) s3.heap.objs.size) { s3 with heap := h₁, toks := tk } := by
    intro tk
    refine comp_loop (fun n s' => ∃ i σ' H', Inv Y [] σ' H' s' ∧ tn i s'.heap ∧ (∀ b ∈ fp, H' b = none) ∧ W i n σ' H') ?_ m0 ⟨0, _, _, I4 tk, st4, fun b hb => (hf3 b hb).1, w0⟩
    rintro n s5 ⟨i, σ5, H5, I5, st5, fr5, w5⟩
    have moX : ∀ {α : Type} {t : Sem α} {Q1 : α → Shared → Prop} {s : Shared}, wpAny (model X.prog X.w) X.A t Q1 xe s → wpAny (model X.prog X.w) X.A t Q1
        (notedBy (model X.prog X.w) X.A (compEnvC scope (clOf X.env scope.names []) s3.heap.objs.size X.env) (fun e s' => compPost (model X.prog X.w) X.A X.xe use Q (.ref s2.heap.objs.size) s3.heap.objs.size (.error e) s')) s :=
      fun h => wpAny_mono h (fun _ _ q => q) toX
    rcases turn i n σ5 H5 w5 with ⟨stop, q⟩ | ⟨go, step⟩
    · have z := T.done Y Yp Yw YK Yc i [] s5 σ5 H5 xe I5 (stat fr5) st5 stop
      rw [YA] at z
      refine moX (thn z fun r s6 ⟨hr, I6⟩ => ?_)
      subst hr
      -- behind the block
      obtain ⟨m, hm, _⟩ := I6.loc
      have hCn : H5 s3.heap.objs.size = none := by have z := I6.free; rw [Ye] at z; exact z
      have un : Un (frs X.stack) fp (upd H2 s2.heap.objs.size (.lst [])) H5 s3.heap s6.heap := by have z := I6.base; rw [← hY] at z; exact z
      have hos : s6.os = s3.os := by have z := I6.os; rw [← hY] at z; exact z
      have hok : HOk X.prog X.w H5 s6.heap := by have z := I6.hok; rw [Yp, Yw] at z; exact z
      have IX : Inv X pins σ H5 s6 := I3.call' (ch := fp) hos un hok I6.bare fun b hb => ⟨(f2 b hb).2.2.2.1, (f2 b hb).2.1, (f2 b hb).2.2.2.2.1, (f2 b hb).2.2.2.2.2⟩
      refine fin _ _ H5 s6 IX ⟨m, by rw [Ye] at hm; exact hm⟩ ⟨hCn, ?_, I3.sz, ?_, ?_⟩ q
      · exact Nat.ne_of_gt I3.lt
      · intro x c hcl
        obtain ⟨v, hv⟩ := I3.cell x c hcl
        exact Nat.ne_of_lt hv.lt
      · intro p hp
        exact Nat.ne_of_lt (Heap.lt_size (I3.pin p hp).1)
    · have z := T.item Y Yp Yw YK Yc i [] s5 σ5 H5 xe I5 (stat fr5) st5 go
      rw [YA] at z
      refine moX (thn z fun r s6 ⟨u, hr, h6⟩ => ?_)
      subst hr
      refine moX (thn h6 fun _ s7 ⟨x, H7, I7, r7, y7, st7, fr7⟩ => ?_)
      have I7' := I7.pinned (stat fr7) (T.obj _ _ st7)
      have hN := step x H7 y7
      have again : ∀ {σ' : St} {H' : Hp} {s' : Shared} {m' : Nat}, m' < n → Inv Y ([] ++ pinsAt fp s7.heap) σ' H' s' → W (i + 1) m' σ' H' → ∃ m, m < n ∧ ∃ i σ'' H'', Inv Y [] σ'' H'' s' ∧ tn i s'.heap ∧ (∀ b ∈ fp, H'' b = none) ∧ W i m σ'' H'' := fun {σ' H' s' m'} hm I' w' => by
        refine ⟨m', hm, i + 1, σ', H', I'.unpinned, T.keep _ _ _ st7 fun b hb o e => (I'.pin (b, o) (List.mem_append_right _ (List.mem_append_right _ (mem_pinsAt hb e)))).1, fun b hb => ?_, w'⟩
        obtain ⟨o, e, d⟩ := T.obj _ _ st7 b hb
        exact (I'.pin (b, o) (List.mem_append_right _ (List.mem_append_right _ (mem_pinsAt hb e)))).2.1
      have z := hgY _ s7 σ5 H7 x u _ I7' r7 hN
      rw [Yp, Yw, YA, Ye, Yx] at z
      refine moX (thn z fun _ s8 ⟨σ8, H8, I8, q8⟩ => ?_)
      have z := htY _ s8 σ8 H8 _ I8 q8
      rw [Yp, Yw, YA, Ye, Yx] at z
      refine moX (thn z fun ok s9 ⟨H9, I9, q9⟩ => ?_)
      cases ok with
      | false =>
        obtain ⟨m', hm, w'⟩ := q9
        exact again hm I9 w'
      | true =>
        have q9' : te σ8 H9 fun v H4 => ∃ xs, H4 s2.heap.objs.size = some (.lst xs) ∧ xs.length < sizeLine ∧ ∃ m', m' < n ∧ W (i + 1) m' σ8 (upd H4 s2.heap.objs.size (.lst (xs ++ [v]))) := q9
        have z := heY _ s9 σ8 H9 _ I9 q9'
        rw [Yp, Yw, YA, Ye, Yx] at z
        refine moX (thn z fun u10 s10 ⟨v10, H10, I10, r10, q10⟩ => ?_)
        obtain ⟨xs, hl, hz, m', hm, w'⟩ := q10
        have ap := mt_append (X := Y) _ s10 σ8 H10 (.ref s2.heap.objs.size) [v10] (.ref s2.heap.objs.size) [u10] (fun _ H' => W (i + 1) m' σ8 H') I10 rfl (.cons r10 .nil) ⟨_, xs, v10, rfl, rfl, hl, hz, w'⟩
        rw [Yp, Yw, YA, Yx] at ap
        refine moX (thn ap fun _ s11 ⟨_, H11, I11, _, w11⟩ => again hm I11 w11)
  exact codeAny_compStart_list (loop _) (T.self _ 0 _ _ _ st4 (loop _))

/-- [elt for tg in iter if ..] as a value; nothing is raised within -/
theorem pe_comp {tg elt iter : Expr} {ifs : List Expr} {scope : Scope} {pos : Pos} (N : List Str) (caps : List (Option Nat)) {wi : TI} {g : TG} {tt : TT} {te : TE} (hc : X.calm = true) (B : Blk X N caps scope) (hi : PI X tg iter wi)
    (hg : ∀ C s₀ H₀ ex, PG (blk X N scope C s₀ H₀ ex fun _ _ => False) tg g) (ht : ∀ C s₀ H₀ ex, PF (blk X N scope C s₀ H₀ ex fun _ _ => False) ifs tt) (he : ∀ C s₀ H₀ ex, PE (blk X N scope C s₀ H₀ ex fun _ _ => False) elt te)
    (hs : ∀ x, foldedSetIterable iter X.env x = pure x := by intro _; rfl) : PE X (.ListComp elt [⟨tg, iter, ifs, 0⟩] scope pos) (tComp caps wi g tt te) := by
  intro pins s σ H Q I h
  rw [eval_ListComp]
  refine comp_core (use := none) (Qv := Q) hc B hi hg ht he I h (fun l C H' s5 I5 ⟨m, hm⟩ lo q => ?_) (fun _ _ _ _ f => f.elim) hs
  refine ⟨m, hm, fun h' hs' => ⟨.ref l, H', ?_, rfl, q⟩⟩
  exact I5.turned (it := C) (t' := s5.toks) (fun b o hb e => hs'.extBut b o hb e) lo.un lo.loc (.inr lo.ab) lo.cel lo.pin
/-- name = [elt for tg in iter if ..] -/
theorem ps_setcomp {i : Nat} {x : Str} {pos' : Pos} {tg elt iter : Expr} {ifs : List Expr} {scope : Scope} {pos spos : Pos} (N : List Str) (caps : List (Option Nat)) {wi : TI} {g : TG} {tt : TT} {te : TE} (hc : X.calm = true)
    (hN : X.N.Nodup) (hi' : X.N[i]? = some x) (hx : Loc X.env.scope x) (B : Blk X N caps scope) (hi : PI X tg iter wi)
    (hg : ∀ C s₀ H₀ ex, PG (blk X N scope C s₀ H₀ ex fun _ _ => False) tg g) (ht : ∀ C s₀ H₀ ex, PF (blk X N scope C s₀ H₀ ex fun _ _ => False) ifs tt) (he : ∀ C s₀ H₀ ex, PE (blk X N scope C s₀ H₀ ex fun _ _ => False) elt te)
    (hsw : swapsWith (.ListComp elt [⟨tg, iter, ifs, 0⟩] scope pos) (some (.Name x pos')) spos.line X.env = pure true := by rfl)
    (hs : ∀ x, foldedSetIterable iter X.env x = pure x := by intro _; rfl) (hf : X.fn x = true ∨ X.env.scope.names.lookup x = some .local := by first | exact .inl rfl | exact .inr rfl | assumption) :
    PS X (.Assign [.Name x pos'] (.ListComp elt [⟨tg, iter, ifs, 0⟩] scope pos) spos) (tAsg (tComp caps wi g tt te) (gName i)) := by
  intro pins s σ H D I h
  rw [exec_Assign_Name_used _ _ _ _ hsw]
  refine wpAny_bind (wpAny_standAt (wpAny_bind ?_))
  show wpAny _ X.A (do let _ ← comprehension (.ListComp elt [⟨tg, iter, ifs, 0⟩] scope pos) scope X.env _ (newList []) false (eval iter X.env) (some (assign (.Name x pos') X.env))) _ _ s
  refine wpAny_bind (wpAny_mono (comp_core (use := some (assign (.Name x pos') X.env)) (Q := fun _ s' => SP X pins D .next s') (Qv := fun v H1 => gName i v σ H1 D.nx) hc B hi hg ht he I h (fun l C H' s5 I5 ⟨m, hm⟩ lo q => ?_) (fun _ _ _ _ f => f.elim) hs)
    (fun _ s' hq => wpAny_pure (wpAny_pure hq)) fun _ _ e => e)
  show wpAny _ X.A (assign (.Name x pos') X.env (.ref l)) _ _ _
  refine wpAny_assign_Name (store_ok2 I5 hN hi' hx (v := .ref l) rfl (fun s6 I6 ⟨a, sb, ha⟩ => ?_) hf)
  have hCa : C ≠ a := by
    rcases ha with e | e
    · rw [e]; exact lo.loc
    · exact Ne.symm (lo.cel x a e)
  refine ⟨m, hm.sameBut sb hCa, fun h' hs' => ⟨_, H', ?_, q⟩⟩
  exact I6.turned (it := C) (t' := s6.toks) (fun b o hb e => hs'.extBut b o hb e) lo.un lo.loc (.inr lo.ab) lo.cel lo.pin
end
end L2

namespace L2
open PySem PySem.Spec PyProof.Rows
section
variable {X : Cx}
/-! ### wider numbers -/
/-- below 2 ^ 4000 either way -/
def Wide (i : Int) : Prop := i.natAbs < 2 ^ 4000
def CMulW (i j : Int) : Prop := Wide i ∧ Wide j
def CDivW (i j : Int) : Prop := 0 < j ∧ Wide j
/-! ### == and != of lists of ints -/
def rEqL (K : PySem.W.Frag) (neg : Bool) : R2 := fun x y H Q => ∃ (a b : Addr) (ns ms : List Int), x = .ref a ∧ y = .ref b ∧ SqL K H a (ns.map V.int) ∧ SqL K H b (ms.map V.int) ∧ Q (.bl (if neg then !decide (ns = ms) else decide (ns = ms))) H
theorem isL_of {h : Heap} {a : Addr} {its : Array Value} (p : PlainL h a its) : h.IsList a its := by
  obtain ⟨o, n, e, c, _, d⟩ := p
  exact ⟨o, e, c, n, d⟩
/-! ### isinstance(x, T), T a built-in type or an own class -/
def rIsT (K : PySem.W.Frag) : List V → Hp → VK → Prop := fun xs H Q => ∃ x n t b, xs = [x, .ty n] ∧ TyOf K H x t ∧ PySem.W.kitOne K t (.type n) = some b ∧ Q (.bl b) H
theorem call_isT : CallR X (.builtin "isinstance") (rIsT X.K) := by
  intro pins s σ H xs us Q I r h
  obtain ⟨x, n, t, b, rfl, ty, e, q⟩ := h
  obtain ⟨u, w', rfl, r1, r2⟩ := vals2 r
  cases r2
  exact isinst_ok I r1 ty e fun tk => ⟨.bl b, H, I.tok tk, rfl, q⟩
end

/-! ### a block's facts by computing -/
def blkOk (sc : Scope) (N0 N : List Str) (caps : List (Option Nat)) (scope : Scope) : Bool :=
  decide (scope.kind = .function) && scope.names.all (fun y => decide (y.2 ≠ .cell)) && scope.names.all (fun y => decide (y.2 ≠ .local) || decide (scope.names.lookup y.1 = some .local)) &&
  scope.names.all (fun y => decide (y.2 ≠ .free) || (decide (sc.names.lookup y.1 = some .cell) || decide (sc.names.lookup y.1 = some .free))) && decide (caps.length = N.length) &&
  (List.range caps.length).all fun i => match caps[i]?, N[i]? with
    | some (some j), some x => decide (N0[j]? = some x) && (decide (sc.names.lookup x = some .cell) || decide (sc.names.lookup x = some .free)) && decide (scope.names.lookup x = some .free)
    | _, _ => true
theorem Blk.by {X : Cx} {N : List Str} {caps : List (Option Nat)} {scope : Scope} {sc : Scope} {N0 : List Str} (hsc : X.env.scope = sc) (hN : X.N = N0) (h : blkOk sc N0 N caps scope = true) : Blk X N caps scope := by
  unfold blkOk at h
  simp only [Bool.and_eq_true, decide_eq_true_eq, List.all_eq_true, Bool.or_eq_true] at h
  obtain ⟨⟨⟨⟨⟨h1, h2⟩, h3⟩, h4⟩, h5⟩, h6⟩ := h
  subst hsc
  subst hN
  refine ⟨h1, h2, fun y hy e => (h3 y hy).elim (fun z => absurd e z) id, fun y hy e => (h4 y hy).elim (fun z => absurd e z) id, h5, fun i j x e1 e2 => ?_⟩
  have hi : i < caps.length := (List.getElem?_eq_some_iff.mp e1).1
  have z := h6 i (List.mem_range.mpr hi)
  rw [e1, e2] at z
  simp only [Bool.and_eq_true, decide_eq_true_eq, Bool.or_eq_true] at z
  exact ⟨z.1.1, .inr z.1.2, z.2⟩
/-! ### comprehensions, the forms one uses -/
theorem same_upd {H : Hp} {p : Addr} (h : H p = none) (o : HO) : Same H (upd H p o) := fun b u q => by rw [upd_ne (ne_of_none q h)]; exact q
theorem same_upd2 {H0 H : Hp} {p : Addr} (h : H0 p = none) (s : Same H0 H) (o : HO) : Same H0 (upd H p o) := fun b u q => by rw [upd_ne (ne_of_none q h)]; exact s b u q
theorem comp_any {tt : TT} {te : TE} {σ0 : St} {H1 : Hp} {Q : V → Hp → Prop} {J : It} (n : Nat) (xs : Nat → V) (p : Nat → Bool) (f : Nat → V) (hn : n ≤ sizeLine)
    (hgo : ∀ i H, Same H1 H → i < n → J.go i H) (hstop : ∀ H, Same H1 H → J.stop n H) (hy : ∀ i H x H', Same H1 H → i < n → J.yld i H x H' → H' = H ∧ x = xs i)
    (hT : ∀ i H, i < n → Same H1 H → ∀ R : Bool → Hp → Prop, (∀ H', Same H H' → R (p i) H') → tt (σ0.set 0 (some (xs i))) H R)
    (hE : ∀ i H, i < n → p i = true → Same H1 H → ∀ R : V → Hp → Prop, (∀ H', Same H H' → R (f i) H') → te (σ0.set 0 (some (xs i))) H R)
    (hQ : ∀ l H, Same H1 H → H1 l = none → H l = some (.lst (((List.range n).filter p).map f)) → Q (.ref l) H) : tCompR (gName 0) tt te σ0 J H1 Q := by
  intro l hl
  refine ⟨fun i m σ H => m = n - i ∧ i ≤ n ∧ Same H1 H ∧ H l = some (.lst (((List.range i).filter p).map f)) ∧ ∀ o, σ.set 0 o = σ0.set 0 o, ⟨n, by simp, Nat.zero_le _, same_upd hl _, upd_same, fun _ => rfl⟩, ?_⟩
  rintro i m σ H ⟨rfl, hi, sm, hL, hσ⟩
  by_cases hlt : i < n
  · refine .inr ⟨hgo i H sm hlt, fun x H' y => ?_⟩
    obtain ⟨rfl, rfl⟩ := hy i H x H' sm hlt y
    show tt (σ.set 0 (some (xs i))) H' _
    rw [hσ]
    refine hT i H' hlt sm _ fun H2 s2 => ?_
    have er : (List.range (i + 1)).filter p = (List.range i).filter p ++ (if p i = true then [i] else []) := by
      rw [List.range_succ, List.filter_append]
      by_cases hp : p i = true
      · rw [if_pos hp, List.filter_cons_of_pos hp, List.filter_nil]
      · rw [if_neg hp, List.filter_cons_of_neg hp, List.filter_nil]
    have hσ2 : ∀ o, (σ0.set 0 (some (xs i))).set 0 o = σ0.set 0 o := fun o => List.set_set _
    by_cases hp : p i = true
    · rw [if_pos hp]
      refine hE i H2 hlt hp (sm.trans s2) _ fun H3 s3 => ?_
      refine ⟨_, s3 _ _ (s2 _ _ hL), ?_, n - (i + 1), by omega, rfl, hlt, ?_, ?_, hσ2⟩
      · rw [List.length_map]
        have := List.length_filter_le p (List.range i)
        rw [List.length_range] at this
        omega
      · exact same_upd2 hl (sm.trans (s2.trans s3)) _
      · rw [upd_same, er, if_pos hp, List.map_append]
        rfl
    · rw [if_neg hp]
      refine ⟨n - (i + 1), by omega, rfl, hlt, sm.trans s2, ?_, hσ2⟩
      rw [er, if_neg hp, List.append_nil]
      exact s2 _ _ hL
  · have e : i = n := by omega
    subst e
    exact .inl ⟨hstop H sm, hQ l H sm hl hL⟩
theorem comp_range {tt : TT} {te : TE} {σ0 : St} {H1 : Hp} {Q : V → Hp → Prop} {lo : Int} {n : Nat} (p : Nat → Bool) (f : Nat → V) (hn : n ≤ sizeLine)
    (hT : ∀ i H, i < n → Same H1 H → ∀ R : Bool → Hp → Prop, (∀ H', Same H H' → R (p i) H') → tt (σ0.set 0 (some (.int (lo + (i : Nat))))) H R)
    (hE : ∀ i H, i < n → p i = true → Same H1 H → ∀ R : V → Hp → Prop, (∀ H', Same H H' → R (f i) H') → te (σ0.set 0 (some (.int (lo + (i : Nat))))) H R)
    (hQ : ∀ l H, Same H1 H → H1 l = none → H l = some (.lst (((List.range n).filter p).map f)) → Q (.ref l) H) : tCompR (gName 0) tt te σ0 (Itr lo n) H1 Q :=
  comp_any n (fun i => .int (lo + (i : Nat))) p f hn (fun _ _ _ h => h) (fun _ _ => Nat.le_refl _) (fun _ _ _ _ _ _ y => y) hT hE hQ
theorem filter_map_range {α β : Type} (xs : List α) (p : α → Bool) (f : α → β) (d : α) : ((List.range xs.length).filter fun i => p (xs.getD i d)).map (fun i => f (xs.getD i d)) = (xs.filter p).map f := by
  have e : (List.range xs.length).map (fun i => xs.getD i d) = xs := by
    apply List.ext_getElem
    · simp
    · intro i h1 h2
      simp
      rw [List.getElem?_eq_getElem (by simpa using h2)]
      rfl
  have h : (((List.range xs.length).map (fun i => xs.getD i d)).filter p).map f = ((List.range xs.length).filter fun i => p (xs.getD i d)).map (fun i => f (xs.getD i d)) := by
    rw [List.filter_map, List.map_map]
    rfl
  rw [e] at h
  exact h.symm
theorem comp_list {K : PySem.W.Frag} {tt : TT} {te : TE} {σ0 : St} {H1 : Hp} {Q : V → Hp → Prop} {a : Addr} {xs : List V} (p : V → Bool) (f : V → V) (hS : SqL K H1 a xs) (hn : xs.length ≤ sizeLine)
    (hT : ∀ x H, x ∈ xs → Same H1 H → ∀ R : Bool → Hp → Prop, (∀ H', Same H H' → R (p x) H') → tt (σ0.set 0 (some x)) H R)
    (hE : ∀ x H, x ∈ xs → p x = true → Same H1 H → ∀ R : V → Hp → Prop, (∀ H', Same H H' → R (f x) H') → te (σ0.set 0 (some x)) H R)
    (hQ : ∀ l H, Same H1 H → H1 l = none → H l = some (.lst ((xs.filter p).map f)) → Q (.ref l) H) : tCompR (gName 0) tt te σ0 (Itl K a) H1 Q := by
  have at_ : ∀ i, i < xs.length → xs[i]? = some (xs.getD i .non) := fun i h => by
    rw [List.getD_eq_getElem?_getD, List.getElem?_eq_getElem h]
    rfl
  have mem : ∀ i, i < xs.length → xs.getD i .non ∈ xs := fun i h => by
    have := at_ i h
    exact List.mem_of_getElem? this
  refine comp_any xs.length (fun i => xs.getD i .non) (fun i => p (xs.getD i .non)) (fun i => f (xs.getD i .non)) hn (fun i H sm h => ⟨xs, _, sm.seq hS, at_ i h⟩) (fun H sm => ⟨xs, sm.seq hS, Nat.le_refl _⟩)
    (fun i H x H' sm h y => ⟨y.1, ?_⟩) (fun i H h sm => hT _ H (mem i h) sm) (fun i H h hp sm => hE _ H (mem i h) hp sm) (fun l H sm hl hL => hQ l H sm hl ?_)
  · have e := y.2 xs (sm.seq hS)
    rw [at_ i h] at e
    exact (Option.some.inj e).symm
  · rw [hL, filter_map_range]
end L2

namespace L2
open PySem PySem.Spec PyProof.Rows
section
variable {X : Cx} {e st : Expr} {te : TE} {ts : TO} {pos p2 : Pos}
/-! ### xs[::-1] -/
def tRev (K : PySem.W.Frag) (te : TE) (ts : TO) : TE := fun σ H Q => te σ H fun x H1 => ts σ H1 fun o H2 => o = some (-1) ∧ ∃ a xs, x = .ref a ∧ SqL K H2 a xs ∧ ∀ p, H2 p = none → Q (.ref p) (upd H2 p (.lst xs.reverse))
/-! ### all(xs) of bools -/
end
end L2

namespace L2
open PySem PySem.Spec PyProof.Rows
/-! ### an exception's record with its context: what the frames' notes leave of it -/
/-- the record at e: its class, its context ctx, a traceback's entry at T whose flight is fl -/
def RecAt (base : Heap) (e : Addr) (cls : Value) (od : Option Addr) (ctx fl : Value) (h : Heap) : Prop :=
  ∃ oe vs T oT ts, (h.get? e = some oe ∧ (oe.cls = cls ∧ oe.dict = od) ∧ oe.data = .fields vs ∧ vs[1]? = some (.ref T) ∧ vs[2]? = some ctx) ∧ base.get? T = none ∧ T ≠ e ∧ h.get? T = some oT ∧ oT.data = .fields ts ∧ ts[3]? = some fl
structure FlyC (base : Heap) (l : List Env) (e : Addr) (cls : Value) (od : Option Addr) (ctx fl : Value) (h : Heap) : Prop where
  stays : base.StaysIn h
  new : base.get? e = none
  frames : h.FunFrames base l
  rcd : RecAt base e cls od ctx fl h
section
variable {M : Model} {A : Around} {E : Value → Shared → Prop} {s : Shared} {base : Heap} {env : Env} {outer : List Env} {L e : Addr} {cls ctx : Value} {od : Option Addr} {Q : Unit → Shared → Prop}
theorem dict_mapFields (o : Obj) (f : Array Value → Array Value) : (o.mapFields f).dict = o.dict := by
  unfold Obj.mapFields
  split <;> rfl
theorem noFields {h : Heap} {a : Addr} {o : Obj} {vs : Array Value} (ho : h.get? a = some o) (hd : o.data = .fields vs) {b : Addr} {u : Obj} (hb : h.get? b = some u) (hn : ∀ ws, u.data ≠ .fields ws) : b ≠ a := by
  rintro rfl
  have z := hb.symm.trans ho
  cases z
  exact hn vs hd
/-- a field of a record that is not of the base is set: what stays -/
theorem setRec {h : Heap} {a : Addr} {i : Nat} {v : Value} (hk : base.StaysIn h) (ha : base.get? a = none) {l : List Env} (hl : h.FunFrames base l) {o : Obj} {vs : Array Value} (ho : h.get? a = some o) (hd : o.data = .fields vs) :
    let h' := h.update a (Obj.mapFields (·.setIfInBounds i v))
    base.StaysIn h' ∧ h'.FunFrames base l ∧ h.UpToSlots h' ∧ (∀ b, b ≠ a → h'.get? b = h.get? b) ∧ ∃ o', h'.get? a = some o' ∧ (o'.cls = o.cls ∧ o'.dict = o.dict) ∧ o'.data = .fields (vs.setIfInBounds i v) := by
  intro h'
  have oth : ∀ b, b ≠ a → h'.get? b = h.get? b := fun b hb => Heap.get?_update_other _ _ (Ne.symm hb)
  have hd' := Obj.data_mapFields hd (·.setIfInBounds i v)
  refine ⟨fun b u hb => ?_, hl.of_keeps fun b u hb hn => ?_, fun b u hb hn => ?_, oth, _, Heap.get?_update_self _ ho (Obj.isFreed_of_fields hd'), ⟨Obj.cls_mapFields _ _, dict_mapFields _ _⟩, hd'⟩
  · rw [oth b (fun z => by rw [z, ha] at hb; cases hb)]
    exact hk b u hb
  · exact ⟨u, (oth b (noFields ho hd hb hn)).trans hb, rfl⟩
  · exact ⟨u.slots, (oth b (noFields ho hd hb hn)).trans hb⟩
/-- a new entry of the traceback -/
theorem entryC {head : Value} {hadNext : Bool} {oe : Obj} {vs : Array Value} (hfr : A.frames = some (env :: outer)) (hl : s.heap.FunFrames base (env :: outer)) (hf : env.frame = some L) (hk : base.StaysIn s.heap) (hn : base.get? e = none)
    (he : s.heap.get? e = some oe) (hc : oe.cls = cls ∧ oe.dict = od) (hd : oe.data = .fields vs) (h2 : vs[2]? = some ctx)
    (h : ∀ h', FlyC base (env :: outer) e cls od ctx (rawInt L) h' → s.heap.UpToSlots h' → Q () { s with heap := h' }) :
    wpAny M A (do let a ← frameOf env; let pl ← entryPlaceOf L hadNext; let b ← EntryCells.newEntry head a .none (rawInt L) .none pl; setField (.ref e) 1 b) Q E s := by
  have hef : e ∉ (env :: outer).filterMap (·.frame) := fun hm => by
    obtain ⟨_, o, ho, hnf⟩ := hl.mem hm
    exact noFields he hd ho hnf rfl
  refine wpAny_bind (wpAny_frameOf_fun hfr hl hf fun g1 so => wpAny_bind (wpAny_entryPlaceOf fun pl hpl => ?_))
  unfold EntryCells.newEntry
  unfold newFields
  refine wpAny_bind (wpAny_newObj_type ?_ (hpl.sizeOk5 _ _ _ _ _))
  generalize hob : ({ cls := .type "traceback", dict := none, data := .fields ([head, Value.ref L, .none, rawInt L, .none] ++ (if pl.isEmpty then List.replicate 6 Value.none else pl)).toArray } : Obj) = ob
  have obd : ∃ ts : Array Value, ob.data = .fields ts ∧ ts[3]? = some (rawInt L) := by
    rw [← hob]
    refine ⟨_, rfl, ?_⟩
    simp
  have e1 : g1.get? e = some oe := (so.2.1 e hef).trans he
  have k1 : base.StaysIn g1 := fun b o hb => (so.2.1 b fun hm => by rw [(hl.mem hm).1] at hb; cases hb).trans (hk b o hb)
  have l1 : g1.FunFrames base (env :: outer) := hl.of_keeps fun b o hb _ => by
    obtain ⟨sl, q⟩ := so.2.2 b o hb
    exact ⟨_, q, rfl⟩
  have up1 : s.heap.UpToSlots g1 := fun b o hb _ => so.2.2 b o hb
  have e2 : (g1.push ob).get? e = some oe := Heap.get?_push_of_some _ e1
  have k2 : base.StaysIn (g1.push ob) := fun b o hb => Heap.get?_push_of_some _ (k1 b o hb)
  have l2 : (g1.push ob).FunFrames base (env :: outer) := l1.of_keeps fun b o hb _ => ⟨o, Heap.get?_push_of_some _ hb, rfl⟩
  have up2 : g1.UpToSlots (g1.push ob) := Heap.UpToSlots.of_keeps fun b o hb => Heap.get?_push_of_some _ hb
  have hT : (g1.push ob).get? g1.objs.size = some ob := Heap.get?_push_size _ (by obtain ⟨ts, z, _⟩ := obd; exact Obj.isFreed_of_fields z)
  have hsz : 1 < vs.size := Nat.lt_trans (by decide) (Array.getElem?_eq_some_iff.mp h2).1
  obtain ⟨k3, l3, up3, oth, oe3, e3, c3, d3⟩ := setRec (i := 1) (v := .ref g1.objs.size) k2 hn l2 e2 hd
  refine wpAny_setField e2 hd hsz (h _ ⟨k3, hn, l3, oe3, vs.setIfInBounds 1 (.ref g1.objs.size), g1.objs.size, ob, ?_⟩ ((up1.trans up2).trans up3))
  obtain ⟨ts, z1, z2⟩ := obd
  have hTe : g1.objs.size ≠ e := Nat.ne_of_gt (Heap.lt_size e1)
  refine ⟨ts, ⟨e3, ⟨c3.1.trans hc.1, c3.2.trans hc.2⟩, d3, by simp [hsz], ?_⟩, k1.fresh, hTe, (oth _ hTe).trans hT, z1, z2⟩
  rw [Array.getElem?_setIfInBounds_ne (by decide)]
  exact h2
/-- the frame is noted at an exception that has no entry yet -/
theorem noteC0 {oe : Obj} {vs : Array Value} (hfr : A.frames = some (env :: outer)) (hl : s.heap.FunFrames base (env :: outer)) (hf : env.frame = some L) (hk : base.StaysIn s.heap) (hn : base.get? e = none)
    (he : s.heap.get? e = some oe) (hc : oe.cls = cls ∧ oe.dict = od) (hd : oe.data = .fields vs) (h1 : vs[1]? = some .none) (h2 : vs[2]? = some ctx)
    (h : ∀ h', FlyC base (env :: outer) e cls od ctx (rawInt L) h' → s.heap.UpToSlots h' → Q () { s with heap := h' }) : wpAny M A (noteFrame (.ref e) env) Q E s := by
  unfold noteFrame
  simp only [hf]
  refine wpAny_bind (wpAny_field he hd h1 ?_)
  rw [if_neg (by decide)]
  exact entryC hfr hl hf hk hn he hc hd h2 h
/-- .. at one that flies -/
theorem noteC (hfr : A.frames = some (env :: outer)) (hf : env.frame = some L) (x : FlyC base (env :: outer) e cls od ctx .none s.heap)
    (h : ∀ h', FlyC base (env :: outer) e cls od ctx (rawInt L) h' → s.heap.UpToSlots h' → Q () { s with heap := h' }) : wpAny M A (noteFrame (.ref e) env) Q E s := by
  obtain ⟨oe, vs, T, oT, ts, ⟨he, hc, hd, h1, h2⟩, hT0, hTe, hT, hdT, h3⟩ := x.rcd
  unfold noteFrame
  simp only [hf]
  refine wpAny_bind (wpAny_field he hd h1 ?_)
  rw [if_pos (by simp : (Value.ref T != Value.none) = true)]
  refine wpAny_bind (wpAny_field hT hdT h3 ?_)
  rw [if_neg (by simp [rawInt] : ¬ ((Value.none == rawInt L) = true))]
  obtain ⟨k3, l3, up3, oth, _⟩ := setRec (i := 3) (v := .none) x.stays hT0 x.frames hT hdT
  refine wpAny_bind (wpAny_setField hT hdT (Array.getElem?_eq_some_iff.mp h3).1 ?_)
  exact entryC hfr l3 hf k3 x.new ((oth e (Ne.symm hTe)).trans he) hc hd h2 fun h' y up => h h' y (up3.trans up)
/-- it lands -/
theorem landC {fl : Value} {l : List Env} (x : FlyC base l e cls od ctx fl s.heap) (h : ∀ h', FlyC base l e cls od ctx .none h' → s.heap.UpToSlots h' → Q () { s with heap := h' }) : wpAny M A (setFlight (.ref e) none) Q E s := by
  obtain ⟨oe, vs, T, oT, ts, ⟨he, hc, hd, h1, h2⟩, hT0, hTe, hT, hdT, h3⟩ := x.rcd
  have hsz := (Array.getElem?_eq_some_iff.mp h3).1
  obtain ⟨k3, l3, up3, oth, oT3, e3, c3, d3⟩ := setRec (i := 3) (v := .none) x.stays hT0 x.frames hT hdT
  unfold setFlight
  refine wpAny_bind (wpAny_field he hd h1 ?_)
  rw [if_pos (by simp : (Value.ref T != Value.none) = true)]
  refine wpAny_setField hT hdT hsz (h _ ⟨k3, x.new, l3, oe, vs, T, oT3, _, ⟨(oth e (Ne.symm hTe)).trans he, hc, hd, h1, h2⟩, hT0, hTe, e3, d3, by simp [hsz]⟩ up3)
theorem FlyC.pop {fl : Value} {h : Heap} (x : FlyC base (env :: outer) e cls od ctx fl h) : FlyC base outer e cls od ctx fl h := ⟨x.stays, x.new, x.frames.2.2, x.rcd⟩
/-- a frame is left: by a new exception, by one that flies -/
theorem leaveC0 {oe : Obj} {vs : Array Value} (hfr : A.frames = some (env :: outer)) (hl : s.heap.FunFrames base (env :: outer)) (hf : env.frame = some L) (hk : base.StaysIn s.heap) (hn : base.get? e = none)
    (he : s.heap.get? e = some oe) (hc : oe.cls = cls ∧ oe.dict = od) (hd : oe.data = .fields vs) (h1 : vs[1]? = some .none) (h2 : vs[2]? = some ctx)
    (h : ∀ h', FlyC base outer e cls od ctx .none h' → s.heap.UpToSlots h' → Q () { s with heap := h' }) : wpAny M A (leaving env (.ref e)) Q E s := by
  unfold leaving
  exact wpAny_bind (noteC0 hfr hl hf hk hn he hc hd h1 h2 fun g1 x1 u1 => landC (s := { s with heap := g1 }) x1 fun g2 x2 u2 => h g2 x2.pop (u1.trans u2))
theorem leaveC (hfr : A.frames = some (env :: outer)) (hf : env.frame = some L) (x : FlyC base (env :: outer) e cls od ctx .none s.heap)
    (h : ∀ h', FlyC base outer e cls od ctx .none h' → s.heap.UpToSlots h' → Q () { s with heap := h' }) : wpAny M A (leaving env (.ref e)) Q E s := by
  unfold leaving
  exact wpAny_bind (noteC hfr hf x fun g1 x1 u1 => landC (s := { s with heap := g1 }) x1 fun g2 x2 u2 => h g2 x2.pop (u1.trans u2))
end
end L2

namespace L2
open PySem PySem.Spec PyProof.Rows
/-! ### exceptions: how one lies behind a call -/
section
variable {P : Program} {w : World} {H : Hp} {h h'' B : Heap} {a : Addr} {o : HO}
theorem ObjOk.there (x : ObjOk P w H h a o) : ∃ ob, h.get? a = some ob := by
  cases o with
  | lst xs => obtain ⟨_, _, _, _, e⟩ := x; exact ⟨_, e⟩
  | tup xs => obtain ⟨_, _, _, ob, e, _⟩ := x; exact ⟨ob, e⟩
  | dK kvs => obtain ⟨_, _, _, _, ob, _, _, e, _⟩ := x; exact ⟨ob, e⟩
  | dT kvs => obtain ⟨_, _, _, _, ob, _, _, e, _⟩ := x; exact ⟨ob, e⟩
  | set S n => obtain ⟨ob, _, _, _, e, _⟩ := x; exact ⟨ob, e⟩
  | ins C dx fs => obtain ⟨_, _, _, e, _⟩ := x; exact ⟨_, e⟩
  | own y => exact x
  | xd fs => obtain ⟨_, ⟨_, _, _, e, _⟩, _⟩ := x; exact ⟨_, e⟩
  | rng lo hi => obtain ⟨_, _, _, e⟩ := x; exact ⟨_, e⟩
  | frz ob u => exact ⟨_, x.1⟩
  | tbl ps => exact ⟨_, (show h.get? a = some _ from x)⟩
  | met f y => exact ⟨_, (show h.get? a = some _ from x)⟩
  | ext φ => exact x.2.1
/-- what is tracked lies in B, and B stays -/
theorem HOk.stays (x : HOk P w H h) (trk : ∀ b o, H b = some o → ∃ ob, B.get? b = some ob) (b1 : B.StaysIn h) (b2 : B.StaysIn h'') : HOk P w H h'' := fun a o e =>
  (x a o e).stay (fun b u hb q => by
    have z : ∃ ob, B.get? b = some ob := hb.elim (fun z => z ▸ trk a o e) fun z => trk b _ z
    obtain ⟨ob, e1⟩ := z
    have e2 := (b1 _ _ e1).symm.trans q
    cases e2
    exact b2 _ _ e1) (fun _ q => q) fun _ _ q => q
end
/-- the contexts of an exception, to their end -/
inductive Chn (B : Heap) : Value → Prop where
  | nil : Chn B .none
  | cons {c : Addr} {o : Obj} {vs : Array Value} {ctx : Value} : B.get? c = some o → o.data = .fields vs → vs[2]? = some ctx → Chn B ctx → Chn B (.ref c)
/-- the exception at e flies over the frames l; B: what stood when it was made, but the frames -/
structure Fly (l : List Env) (H : Hp) (e : Addr) (cls : Value) (od : Option Addr) (B h : Heap) : Prop where
  fly : ∃ ctx, FlyC B l e cls od ctx .none h ∧ Chn B ctx
  trk : ∀ b o, H b = some o → ∃ ob, B.get? b = some ob
  noe : H e = none
def CX1 (P : Program) (w : World) : CXT := fun outer H s E e s' => ∃ (ea : Addr) (cls : Value) (od : Option Addr) (H' : Hp) (B : Heap), e = .ref ea ∧ s'.os = s.os ∧ AllBare s'.gens ∧ Un (frs outer) [] H H' s.heap s'.heap ∧ HOk P w H' s'.heap ∧
  Fly outer H' ea cls od B s'.heap ∧ (∀ b o, s.heap.get? b = some o → b ∉ frs outer → ∃ ob, B.get? b = some ob) ∧ E cls od H'
section
variable {X : Cx} {pins : List (Addr × Obj)} {σ : St} {H : Hp} {s : Shared} {B h'' : Heap}
theorem Inv.un_fly (J : Inv X pins σ H s) (hex : X.ex = []) (b1 : B.StaysIn s.heap) (b2 : B.StaysIn h'') (up : s.heap.UpToSlots h'') (inB : ∀ b o, X.s₀.heap.get? b = some o → b ∉ X.fs → ∃ ob, B.get? b = some ob) :
    Un X.fs [] X.H₀ H X.s₀.heap h'' where
  keep := fun b o e n hb _ => by
    have e1 := J.base.keep b o e n hb (by rw [hex]; simp)
    obtain ⟨ob, eb⟩ := inB b o e hb
    have e2 := (b1 _ _ eb).symm.trans e1
    cases e2
    exact b2 _ _ eb
  slot := fun b o e n hb _ => by
    obtain ⟨sl, e1⟩ := J.base.slot b o e n hb (by rw [hex]; simp)
    obtain ⟨_, o2, ho2, hd⟩ := J.funs.mem hb
    rw [e1] at ho2
    cases ho2
    obtain ⟨sl2, e2⟩ := up b _ e1 hd
    exact ⟨sl2, e2⟩
  free := fun b o e n _ => J.base.free b o e n (by rw [hex]; simp)
  there := fun b o e _ => by
    by_cases hb : b ∈ X.fs
    · obtain ⟨_, o2, ho2, hd⟩ := J.funs.mem hb
      obtain ⟨sl, e2⟩ := up b o2 ho2 hd
      exact ⟨_, e2⟩
    · obtain ⟨ob, eb⟩ := inB b o e hb
      exact ⟨ob, b2 _ _ eb⟩
  tups := J.base.tups
  frzs := J.base.frzs
  tbls := J.base.tbls
theorem Inv.notFr (J : Inv X pins σ H s) {b : Addr} {o : Obj} (e : X.s₀.heap.get? b = some o) (hb : b ∉ X.fs) : b ∉ frs X.stack := fun z => by
  rcases List.mem_cons.mp (J.stkSub b z) with q | q
  · exact absurd (Nat.lt_of_lt_of_le (Heap.lt_size e) J.ok.above) (by rw [q]; exact Nat.lt_irrefl _)
  · exact hb q
/-- all but the frames that run -/
def under (X : Cx) (s : Shared) : Heap := PySem.W.hideAll s.heap (frs X.stack)
theorem under_in {b : Addr} {o : Obj} (e : s.heap.get? b = some o) (hb : b ∉ frs X.stack) : (under X s).get? b = some o := PySem.W.hideAll_get _ e hb
theorem under_stays : (under X s).StaysIn s.heap := fun b o q => PySem.W.of_hideAll _ q
theorem Inv.under_frames (J : Inv X pins σ H s) : s.heap.FunFrames (under X s) X.stack := PySem.W.funFrames_hide J.stack fun env he a ha => List.mem_filterMap.mpr ⟨env, he, ha⟩
theorem Inv.under_trk (J : Inv X pins σ H s) : ∀ b o, H b = some o → ∃ ob, (under X s).get? b = some ob := fun b o e => by
  obtain ⟨ob, q⟩ := (J.hok b o e).there
  exact ⟨ob, under_in q fun z => by rw [J.stkFree b z] at e; cases e⟩
end
/-- a new exception: all else is kept -/
structure MadeC (h h' : Heap) (e : Addr) (cls ctx : Value) : Prop where
  keeps : ∀ b o, h.get? b = some o → h'.get? b = some o
  new : h.get? e = none
  rcd : ∃ oe vs, h'.get? e = some oe ∧ (oe.cls = cls ∧ oe.dict = none) ∧ oe.data = .fields vs ∧ vs[1]? = some .none ∧ vs[2]? = some ctx
theorem MadeC.of {h h' : Heap} {e : Addr} {cls : Value} {args : List Value} (x : Heap.MadeExcOf h h' e cls args) : MadeC h h' e cls .none := by
  obtain ⟨t, he, _⟩ := x.there
  exact ⟨x.keeps, x.new, _, _, he, ⟨rfl, rfl⟩, rfl, rfl, rfl⟩
/-- the body of a def, whose exceptions leave it -/
structure Thr (X : Cx) (E : XK) : Prop where
  new : ∀ (pins : List (Addr × Obj)) (σ : St) (H : Hp) (s : Shared) (h' : Heap) (e C : Addr) (ctx : Value), Inv X pins σ H s → MadeC s.heap h' e (.ref C) ctx → Chn (under X s) ctx → E (.ref C) none H → X.xe (.ref e) { s with heap := h' }
  on : Passes (CX1 X.prog X.w) X E
  own : PassesOwn (model X.prog X.w) X.A X.env X.xe
  ownAt : ∀ hd, PassesOwnAt (model X.prog X.w) (X.A.mark hd) X.A X.env X.xe
theorem thr_def {P : Program} {w : World} {K : PySem.W.Frag} {mg : Str → Option Value} {base : Heap} {N : List Str} {qual : Str} {scope : Scope} {f : Addr} {cd : Value} {A : Around} {outer : List Env} {s : Shared} {H : Hp} {E : XK} :
    Thr (cxOf (CX1 P w) P w K mg base N qual scope f cd A outer s H E) E where
  own := PassesOwn.leaving
  ownAt := fun _ => PassesOwnAt.leaving
  new := by
    intro pins σ H1 s1 h' e C ctx I hx hch hE
    have fr : (under (cxOf (CX1 P w) P w K mg base N qual scope f cd A outer s H E) s1).StaysIn s1.heap := under_stays
    have hn : (under (cxOf (CX1 P w) P w K mg base N qual scope f cd A outer s H E) s1).get? e = none := by
      cases q : (under (cxOf (CX1 P w) P w K mg base N qual scope f cd A outer s H E) s1).get? e with
      | none => rfl
      | some o =>
        have z := fr _ _ q
        rw [hx.new] at z
        cases z
    obtain ⟨oe, vs, he, hc, hd, h1, h2⟩ := hx.rcd
    refine leaveC0 (outer := outer) I.ok.frames (I.under_frames.of_keeps fun b o hb _ => ⟨o, hx.keeps b o hb, rfl⟩) rfl (fun b o q => hx.keeps b o (fr b o q)) hn he hc hd h1 h2 fun h'' x1 x4 => ?_
    have up : s1.heap.UpToSlots h'' := (Heap.UpToSlots.of_keeps hx.keeps).trans x4
    have inB : ∀ b o, s.heap.get? b = some o → b ∉ frs outer → ∃ ob, (under (cxOf (CX1 P w) P w K mg base N qual scope f cd A outer s H E) s1).get? b = some ob := fun b o eb hb => by
      obtain ⟨o', e'⟩ := I.base.there b o eb (by intro z; cases z)
      exact ⟨o', under_in e' (I.notFr eb hb)⟩
    refine ⟨e, .ref C, none, H1, _, rfl, I.os, I.bare, I.un_fly rfl fr x1.stays up inB, I.hok.stays I.under_trk fr x1.stays, ⟨⟨ctx, x1, hch⟩, I.under_trk, ?_⟩, inB, hE⟩
    cases q : H1 e with
    | none => rfl
    | some o =>
      obtain ⟨ob, z⟩ := (I.hok e o q).there
      rw [hx.new] at z
      cases z
  on := by
    intro pins σ H1 s1 e s' I hc
    obtain ⟨ea, cls, od, H', B, rfl, os, bare, un, hok, F, inB, hE⟩ := hc
    have J := I.call' os un hok bare fun b z => absurd z (by simp)
    obtain ⟨ctx, fl, hch⟩ := F.fly
    refine leaveC (outer := outer) I.ok.frames rfl fl fun h'' x1 x2 => ?_
    have inB' : ∀ b o, s.heap.get? b = some o → b ∉ frs outer → ∃ ob, B.get? b = some ob := fun b o eb hb => by
      obtain ⟨o', e'⟩ := I.base.there b o eb (by intro z; cases z)
      exact inB b o' e' (I.notFr eb hb)
    exact ⟨ea, cls, od, H', B, rfl, J.os, J.bare, J.un_fly rfl fl.stays x1.stays x2 inB', hok.stays F.trk fl.stays x1.stays, ⟨⟨ctx, x1, hch⟩, F.trk, F.noe⟩, inB', hE⟩
/-- THE RULE for a def that may raise -/
theorem Fun.okX {P : Program} {w : World} {K : PySem.W.Frag} {mg : Str → Option Value} {base : Heap} {x qual : Str} {st : Stmt} {f : Addr} {fd : FuncData} {N ps : List Str} {k : Nat} {sp : Sp} (F : Fun K x qual st f fd) (S : FnScope N ps (defScope st)) (len : ∀ vs H Q E, sp vs H Q E → vs.length = ps.length)
    (hbody : ∀ (cdv : Value) (A : Around) (outer : List Env) (s : Shared) (H : Hp) (vs : List V) (Q : VK) (E : XK), Room k (A.deeper (envOfC qual (defScope st) s.heap.objs.size f cdv)) → sp vs H Q E →
      Thr (cxOf (CX1 P w) P w K mg base N qual (defScope st) f cdv A outer s H E) E →
      ∃ t, PSs (cxOf (CX1 P w) P w K mg base N qual (defScope st) f cdv A outer s H E) (defBody st) t ∧ t { nx := fun _ H' => Q .non H', rt := Q } (start N vs) H) : FnOk P w K mg base (CX1 P w) (k + 1) f fd ps sp := by
  obtain ⟨oc, od, kV, doc, pm, an, cdv, ct, osl, rfl, lk, hcd⟩ := F.ex
  exact fn_of lk hcd S len fun A outer s H vs Q E hr hsp => hbody cdv A outer s H vs Q E hr hsp thr_def

/-! ### raise C("..") of an own class under ValueError -/
abbrev veTail : List Value := [.type "ValueError", .type "Exception", .type "BaseException", .type "object"]
theorem exc_obj {K : PySem.W.Frag} {h : Heap} {C : Addr} {bmB : List Value} {newId : String} (X : K.In h) (q : PySem.W.excIn K C bmB newId = true) :
    ∃ bm N nm qn bs hdct sn sub ab col dd k0 k1 k2 k3 k5 mN, h.get? C = some (excClassObj nm qn C N bs bm hdct sn sub ab col dd k0 k1 k2 k3 k5 newId) ∧ h.Ns N mN ∧ mN "__init__" = none ∧ OwnTail h bmB bm := by
  unfold PySem.W.excIn at q
  split at q
  · rename_i ddx cdx slx hlook
    split at q
    · rename_i Cx bmx j0 j1 j2 j3 nx j5 hmro hslots
      simp only [beq_iff_eq, Bool.and_eq_true, Bool.not_eq_true'] at q
      obtain ⟨⟨⟨⟨⟨eC, eN⟩, edel⟩, etl⟩, eok⟩, eni⟩ := q
      subst eC
      subst eN
      obtain ⟨f1, f2, f3, f4, f5, f6, f7, f8, f9, f10, f11⟩ := cdx
      have e1 : f3 = _ := hmro
      have e2 : f11 = false := edel
      subst e1
      subst e2
      obtain ⟨lst⟩ := slx
      have e3 : lst = _ := hslots
      subst e3
      exact ⟨bmx, f4, f1, f5, f2, f6, f7, f8, f9, f10, ddx, j0, j1, j2, j3, j5, _, X _ _ hlook, .of_isNs (PySem.W.isNs_of_in X eok), PySem.W.nsMap_none_of_in X eok eni, PySem.W.tail_of_in X etl⟩
    · cases q
  · cases q
def tRaise (C : Addr) (E : XK) (t : TA) : TS := fun _ σ H => t σ H fun vs H1 => vs.length ≤ sizeLine ∧ E (.ref C) none H1
theorem ps_raise {X : Cx} {x : Str} {np cpos pos : Pos} {e : Expr} {es : List Expr} {t : TA} {C : Addr} {E : XK} (T : Thr X E) (hh : X.A.handled = none) (hg : Gl X x) (hm : X.mg x = some (.ref C)) (hc : PySem.W.excIn X.K C veTail "ValueError.__new__" = true) (ha : PA X (e :: es) t)
    (hdb : (x == ("__debug__" : Str)) = false := by decide) (he : starEach (e :: es) X.env = (false, eval e X.env) :: starEach es X.env := by rfl) (hpl : (backTo cpos (starEach es X.env)).any (·.1) = false := by rfl) :
    PS X (.Raise (some (.Call (.Name x np) (e :: es) [] cpos)) none pos) (tRaise C E t) := by
  intro pins s σ H D I h
  obtain ⟨bm, N, nm, qn, bs, hdct, sn, sub, ab, col, dd, k0, k1, k2, k3, k5, mN, hC, hN, hni, hT⟩ := exc_obj I.mod.kin hc
  have hB : bm.contains (.type "BaseException") = true := hT.hasType PySem.F.excBase_ValueError.hasBase
  refine wpAny_Raise_call_subT (k5 := k5) (k3 := k3) (k2 := k2) (k1 := k1) (k0 := k0) (dd := dd) (col := col) (ab := ab) (sub := sub) (sn := sn) (hdct := hdct) (bs := bs) (N := N) (q := qn) (nm := nm) (bm := bm) (C := C) PySem.F.excBase_ValueError (mN := mN) hB hh (by rw [he]; show (false || (backTo cpos (starEach es X.env)).any (·.1)) = false; rw [hpl]; rfl) hni (ld_glob I hg hm ⟨rfl, ?_⟩ hdb)
  have hA := ha cpos pins s σ H _ I h
  rw [he] at hA ⊢
  refine Calls.evalArgs_plain (thn hA fun us s2 q2 => ?_)
  obtain ⟨vs, H2, I2, r, hz, hE⟩ := q2
  exact ⟨rfl, by rw [← r.length]; exact hz, I2.bk _ _ hC, hN.keeps I2.bk, hT.keeps I2.bk, fun h' e' hx => T.new pins σ H2 s2 h' e' C .none I2 (.of hx) .nil hE⟩
end L2

namespace L2
open PySem PySem.Spec PyProof.Rows
/-! ### what may raise, asked at one state -/
def Held (X : Cx) (pins : List (Addr × Obj)) (B : Heap) : Prop := (∀ b o, X.s₀.heap.get? b = some o → b ∉ X.ex → b ∉ X.fs → ∃ ob, B.get? b = some ob) ∧ ∀ p ∈ X.pn ++ pins, ∃ ob, B.get? p.1 = some ob
def XP (X : Cx) (pins : List (Addr × Obj)) (σ : St) (Ex : XK) (e : Value) (s' : Shared) : Prop :=
  ∃ (ea : Addr) (cls : Value) (od : Option Addr) (H' : Hp) (B : Heap), e = .ref ea ∧ Inv X pins σ H' s' ∧ Fly X.stack H' ea cls od B s'.heap ∧ Held X pins B ∧ Ex cls od H'
section
variable {X : Cx} {pins : List (Addr × Obj)} {σ : St} {H : Hp} {s : Shared} {B h'' : Heap}
theorem Inv.held (I : Inv X pins σ H s) (inB : ∀ b o, s.heap.get? b = some o → b ∉ frs X.stack → ∃ ob, B.get? b = some ob) : Held X pins B := by
  refine ⟨fun b o e hx hb => ?_, fun p hp => ?_⟩
  · obtain ⟨o', e'⟩ := I.base.there b o e hx
    exact inB b o' e' (I.notFr e hb)
  · obtain ⟨e, n, ne, nf, d⟩ := I.pin p hp
    exact inB _ _ e fun z => by
      rcases List.mem_cons.mp (I.stkSub _ z) with q | q
      · exact ne q
      · exact nf q
/-- the exception has landed (or was looked at): nothing of ours has changed -/
theorem Inv.landed (J : Inv X pins σ H s) (hB : Held X pins B) (trk : ∀ b o, H b = some o → ∃ ob, B.get? b = some ob) (b1 : B.StaysIn s.heap) (b2 : B.StaysIn h'') (up : s.heap.UpToSlots h'') : Inv X pins σ H { s with heap := h'' } := by
  have exact_ : ∀ b o, s.heap.get? b = some o → (∃ ob, B.get? b = some ob) → h''.get? b = some o := fun b o e z => by
    obtain ⟨ob, eb⟩ := z
    have e2 := (b1 _ _ eb).symm.trans e
    cases e2
    exact b2 _ _ eb
  have cellK : ∀ c v, s.heap.IsCell c v → h''.IsCell c v := fun c v z => by
    obtain ⟨o, ho, hd⟩ := z
    obtain ⟨sl, e⟩ := up c o ho fun ws q => by rw [hd] at q; cases q
    exact ⟨_, e, hd⟩
  refine ⟨J.ok, J.os, J.bare, ⟨fun b o e n hb hx => ?_, fun b o e n hb hx => ?_, J.base.free, fun b o e hx => ?_, J.base.tups, J.base.frzs, J.base.tbls⟩, ?_, fun x c e => ?_, J.free, J.freeC, fun p hp => ?_, J.hok.stays trk b1 b2, J.len⟩
  · exact exact_ b o (J.base.keep b o e n hb hx) (hB.1 b o e hx hb)
  · obtain ⟨sl, e1⟩ := J.base.slot b o e n hb hx
    obtain ⟨_, o2, ho2, hd⟩ := J.funs.mem hb
    rw [e1] at ho2
    cases ho2
    obtain ⟨sl2, e2⟩ := up b _ e1 hd
    exact ⟨sl2, e2⟩
  · by_cases hb : b ∈ X.fs
    · obtain ⟨_, o2, ho2, hd⟩ := J.funs.mem hb
      obtain ⟨sl, e2⟩ := up b o2 ho2 hd
      exact ⟨_, e2⟩
    · obtain ⟨ob, eb⟩ := hB.1 b o e hx hb
      exact ⟨ob, b2 _ _ eb⟩
  · obtain ⟨m, hn, hl⟩ := J.loc
    refine ⟨m, up.ns hn, fun i x v e1 e2 e3 => ?_⟩
    obtain ⟨u, r, l⟩ := hl i x v e1 e2 e3
    refine ⟨u, r, ?_⟩
    rcases l with l | ⟨k, c, e, z⟩
    · exact .inl l
    · exact .inr ⟨k, c, e, cellK c _ z⟩
  · obtain ⟨v, z⟩ := J.cell x c e
    exact ⟨v, cellK c v z⟩
  · obtain ⟨e, n, ne, nf, d⟩ := J.pin p hp
    exact ⟨exact_ _ _ e (hB.2 p hp), n, ne, nf, d⟩
/-- an exception that was caught: its class -/
def excO (a C : Addr) : HO := .ext fun h => ∃ o vs, h.get? a = some o ∧ o.cls = .ref C ∧ o.data = .fields vs
/-- the context of an except suite from which nothing is raised -/
def hCx (X : Cx) (e : Addr) : Cx := { X with A := X.A.mark (some (.ref e)), calm := false, xe := fun _ _ => False }
theorem Inv.inH {e : Addr} (J : Inv X pins σ H s) : Inv (hCx X e) pins σ H s :=
  ⟨⟨J.ok.mod, J.ok.kind, J.ok.glob, J.ok.blt, J.ok.above, J.ok.inj, J.ok.has, J.ok.cab, fun z => Bool.noConfusion z, J.ok.frames, J.ok.stk, J.ok.exf, J.ok.bs, J.ok.bsz, J.ok.noex, J.ok.exfs, J.ok.funs, J.ok.frf⟩, J.os, J.bare, J.base, J.loc, J.cell, J.free, J.freeC, J.pin, J.hok, J.len⟩
theorem Inv.outH {e : Addr} (ok : X.Ok) (J : Inv (hCx X e) pins σ H s) : Inv X pins σ H s := ⟨ok, J.os, J.bare, J.base, J.loc, J.cell, J.free, J.freeC, J.pin, J.hok, J.len⟩
/-- the name behind 'as' goes -/
theorem name_gone {M : Model} {A : Around} {E : Value → Shared → Prop} {i : Nat} {n : Str} {pos : Pos} {Q : Unit → Shared → Prop} (J : Inv X pins σ H s) (hN : X.N.Nodup) (hi : X.N[i]? = some n) (hlo : X.env.kindOf n = some .local)
    (h : ∀ s', Inv X pins (σ.set i none) H s' → Q () s') : wpAny M A (do bindName X.env n .none; unbindBehindTheSuite X.env n pos) Q E s := by
  obtain ⟨m, hn, hl⟩ := J.loc
  refine wpAny_nameGoes_keeps hlo hn (by rw [J.ok.kind]; rfl) fun h' v hn' hs => h _ ?_
  have hiσ : i < σ.length := by rw [J.len]; exact (List.getElem?_eq_some_iff.mp hi).1
  obtain ⟨oL, esL, epL, hoL, hdL, _⟩ := id hn
  have neB : ∀ b o, X.s₀.heap.get? b = some o → b ≠ X.env.locals := fun b o e => Nat.ne_of_lt (Nat.lt_of_lt_of_le (Heap.lt_size e) J.ok.above)
  refine ⟨J.ok, J.os, J.bare, ⟨fun b o e k hb hx => ?_, fun b o e k hb hx => ?_, J.base.free, fun b o e hx => ?_, J.base.tups, J.base.frzs, J.base.tbls⟩, ⟨_, hn', fun j y v' e1 e2 e3 => ?_⟩, fun y c e => ?_, J.free, J.freeC, fun p hp => ?_, fun b ob e => ?_, by simpa using J.len⟩
  · exact (hs.2 b (neB b o e)).trans (J.base.keep b o e k hb hx)
  · obtain ⟨sl, q⟩ := J.base.slot b o e k hb hx
    exact ⟨sl, (hs.2 b (neB b o e)).trans q⟩
  · obtain ⟨o', q⟩ := J.base.there b o e hx
    exact ⟨o', (hs.2 b (neB b o e)).trans q⟩
  · by_cases hj : j = i
    · subst hj
      rw [List.getElem?_set_self hiσ] at e2
      cases e2
    · rw [List.getElem?_set_ne (Ne.symm hj)] at e2
      obtain ⟨u', r', q⟩ := hl j y v' e1 e2 e3
      refine ⟨u', r', ?_⟩
      have hy : y ≠ n := fun z => hj (nodup_ix hN e1 (z ▸ hi))
      rcases q with ⟨k, e⟩ | ⟨k, c, e, z⟩
      · exact .inl ⟨k, by simp [hy, e]⟩
      · exact .inr ⟨k, c, e, z.sameBut hs (J.cne y c e)⟩
  · obtain ⟨w', z⟩ := J.cell y c e
    exact ⟨w', z.sameBut hs (J.cne y c e)⟩
  · obtain ⟨e, k, ne, nf, d⟩ := J.pin p hp
    exact ⟨(hs.2 p.1 ne).trans e, k, ne, nf, d⟩
  · refine (J.hok b ob e).stay (fun c w' hc q => (hs.2 c ?_).trans q) (fun _ q => q) fun _ _ q => q
    rintro rfl
    have fr := J.free
    rcases hc with hc | hc
    · rw [hc, e] at fr
      cases fr
    · rw [hc] at fr
      cases fr
end
/-! ### the judgements with an exception's wish -/
def PEX (X : Cx) (e : Expr) (t : XK → TE) : Prop :=
  ∀ (pins : List (Addr × Obj)) (s : Shared) (σ : St) (H : Hp) (Q : VK) (Ex : XK), Inv X pins σ H s → t Ex σ H Q → wpAny (model X.prog X.w) X.A (eval e X.env) (EP X pins σ Q) (XP X pins σ Ex) s
def PSX (X : Cx) (st : List Stmt) (t : XK → TS) : Prop :=
  ∀ (pins : List (Addr × Obj)) (s : Shared) (σ : St) (H : Hp) (D : Ends) (Ex : XK), Inv X pins σ H s → t Ex D σ H → wpAny (model X.prog X.w) X.A (execs st X.env) (SP X pins D) (XP X pins σ Ex) s
section
variable {X : Cx} {k : Nat} {f : Addr} {fd : FuncData} {ps : List Str} {sp : Sp} {dvs : List V} {ds : List Value} {x : Str} {p pos : Pos} {e : Expr} {es : List Expr} {t : TA}
end
theorem FlyC.looks {M : Model} {base h : Heap} {l : List Env} {e : Addr} {cls ctx fl : Value} {od : Option Addr} (x : FlyC base l e cls od ctx fl h) : PySem.W.Looks M h (typeOf (.ref e)) cls := by
  obtain ⟨oe, vs, _, _, _, ⟨ho, hc, _⟩, _⟩ := x.rcd
  exact hc.1 ▸ (PySem.W.Looks.ld ho).andThen .now
/-! ### try: .. except T as n: .. -/
def tTryAs (K : PySem.W.Frag) (tb : XK → TS) (i : Nat) (CT : Value) (th : TS) : TS := fun D σ H =>
  tb (fun cls _ H1 => PySem.W.exmOne K cls CT = some true ∧ ∃ C, cls = .ref C ∧ ∀ ea, H1 ea = none →
    th { nx := fun σ' H' => D.nx (σ'.set i none) H', rt := D.rt, bk := fun σ' H' => D.bk (σ'.set i none) H', ct := fun σ' H' => D.ct (σ'.set i none) H' } (σ.set i (some (.ref ea))) (upd H1 ea (excO ea C))) D σ H
end L2

namespace L2
open PySem PySem.Spec PyProof.Rows Builtin Builtin.ObjectAttr Builtin.Getset_descriptor
/-! ### the class of an exception that was caught -/
structure ExcF (K : PySem.W.Frag) (C : Addr) : Prop where
  cl : (PySem.W.clsIn K C).isSome = true
  ga : PySem.W.findIn K (.ref C) "__getattribute__" = some (some (.builtin "BaseException.__getattribute__"))
  hk : PySem.W.findIn K (.ref C) "__getattr__" = some none
  cs : PySem.W.findIn K (.ref C) "__class__" = some (some (.builtin "object.__class__"))
  gt : PySem.W.specialIn K (.builtin "object.__class__") "__get__" = some (some (.builtin "getset_descriptor.__get__"))
  tk : PySem.W.takesIn K (.builtin "object.__class__") = some true
  mo : PySem.W.mroIn K C (.type "object") = some true
  mb : PySem.W.mroIn K C (.type "BaseException") = some true
def ExcAt (a C : Addr) (h : Heap) : Prop := ∃ o, h.get? a = some o ∧ o.cls = .ref C
theorem excAt_ty {a C : Addr} {M : Model} {h : Heap} (p : ExcAt a C h) : PySem.W.Looks M h (typeOf (.ref a)) (.ref C) := by
  obtain ⟨o, h1, h2⟩ := p
  exact h2 ▸ (PySem.W.Looks.ld h1).andThen .now
section
variable {prog : Program} {w : World} {A : Around} {E : Value → Shared → Prop} {K : PySem.W.Frag} {a C : Addr}
theorem excAt_get {s : Shared} {tp : Value} {R : Result → Shared → Prop} (F : ExcF K C) (X : K.In s.heap) (p : ExcAt a C s.heap) (h : R (.ok (.ret (.ref C))) s) :
    codeAny (model prog w) A (.call (.builtin "getset_descriptor.__get__") ⟨[.builtin "object.__class__", .ref a, tp], []⟩) R s := by
  obtain ⟨hh, g, dr, t, os⟩ := s
  have L0 := excAt_ty (M := model prog w) p
  have L1 := PySem.W.looks_mroIn (M := model prog w) X F.mo
  refine codeAny_call_builtin PySem.W.KF.slot_gs.plain PySem.W.KF.entry_gs (PySem.W.KF.slot_gs.check _ _ _ _ _ _ _ _ PySem.W.KF.type_class (PySem.W.KF.args_gs _ _ _) ?_)
  unfold Builtin.«getset_descriptor.__get__»
  unfold descrGet
  rw [PySem.W.dga_obj]
  refine wpAny_bind (wpAny_pure ?_)
  unfold descrGetter descrCheckInstance
  unfold descrNameAndClass isInstance
  simp only [PySem.W.KF.owner_class]
  repeat lk
  refine ⟨Code.quiet_builtin _ (by decide +kernel), codeAny_builtin PySem.W.KF.entry_class ?_⟩
  unfold Builtin.«object.__class__»
  unfold shownTypeOf
  repeat lk
  exact h
end
end L2

namespace L2
open PySem PySem.Spec PyProof.Rows Builtin Builtin.ObjectAttr Builtin.Getset_descriptor
section
variable {prog : Program} {w : World} {A : Around} {E : Value → Shared → Prop} {K : PySem.W.Frag} {a C : Addr}
theorem excAt_find {M : Model} {h : Heap} (F : ExcF K C) (X : K.In h) : PySem.W.Looks M h (Builtin.ObjectAttr.find (.ref a) (.ref C) "__class__") (.bind (.builtin "getset_descriptor.__get__") (.builtin "object.__class__")) := by
  have L1 := PySem.W.looks_findIn (M := M) X F.cs
  have L2 := PySem.W.looks_specialIn (M := M) X F.gt
  have L3 := PySem.W.looks_takesIn (M := M) X F.tk
  have L4 : PySem.W.Looks M h (Builtin.ObjectAttr.dataDescriptor? (some (.builtin "object.__class__")) (some (.builtin "getset_descriptor.__get__"))) (some (.builtin "getset_descriptor.__get__", .builtin "object.__class__")) := L3.andThen .now
  exact L1.andThen (L2.andThen (L4.andThen (PySem.W.Looks.tag .now)))
theorem excAt_check {M : Model} {s : Shared} {nameV : Value} {Q : Unit → Shared → Prop} (F : ExcF K C) (X : K.In s.heap) (p : ExcAt a C s.heap) (hq : Q () s) : wpAny M A (checkBuiltinCall "BaseException.__getattribute__" ⟨[.ref a, nameV], []⟩) Q E s := by
  have hk : builtinKind "BaseException.__getattribute__" = some .slot := by decide +kernel
  have hsplit : splitId "BaseException.__getattribute__" = some ("BaseException", "__getattribute__") := by decide +kernel
  have ha := PySem.F.args_bexc_ga (.ref a) nameV
  have LI : PySem.W.Looks M s.heap (isInstance (.ref a) (.type "BaseException")) true := (excAt_ty p).andThen (PySem.W.looks_mroIn X F.mb)
  simp only [checkBuiltinCall, hk, hsplit]
  refine wpAny_bind (LI.here ?_)
  obtain ⟨hh, g, d, t, os⟩ := s
  repeat (first | assumption | wp_step)
theorem excAt_entry {s : Shared} {tk : Tok} {Q : Fin → Shared → Prop} (F : ExcF K C) (X : K.In s.heap) (p : ExcAt a C s.heap) (hq : Q (.done (.ret (.ref C))) s) :
    wpAny (model prog w) A (Builtin.«object.__getattribute__» ⟨[.ref a, .str "__class__" tk], []⟩) Q E s := by
  obtain ⟨hh, g, d, t, os⟩ := s
  have L0 := excAt_ty (M := model prog w) p
  have L1 := excAt_find (a := a) (M := model prog w) F X
  unfold Builtin.«object.__getattribute__»
  repeat (first | (with_reducible refine wpAny_call (excAt_get F X p ?_)) | lk | wp_step)
  exact hq
theorem excAt_class {s : Shared} {Q : Option Value → Shared → Prop} (F : ExcF K C) (X : K.In s.heap) (p : ExcAt a C s.heap) (h : Q (some (.ref C)) { s with toks := s.toks + 1 }) : wpAny (model prog w) A (getAttr? (.ref a) "__class__") Q E s := by
  obtain ⟨hh, g, d, t, os⟩ := s
  have L0 := excAt_ty (M := model prog w) p
  have L1 := PySem.W.looks_findIn (M := model prog w) X F.ga
  have L2 := PySem.W.looks_findIn (M := model prog w) X F.hk
  have hb : bindSpecial (.builtin "BaseException.__getattribute__") (.ref a) = pure (.builtin "BaseException.__getattribute__", [.ref a]) := PySem.F.excAttr_ValueError.ga.bind (.ref a)
  unfold getAttr? getAttrBy? getAttrBy
  refine wpAny_bind (wpAny_mkText (wpAny_bind (wpAny_attempt (wpAny_holding (wpAny_bind (L0.at (wpAny_bind (L1.at ?_))))))))
  show wpAny _ _ (getAttrByItsOwn (.ref a) _ (.ref C) (.builtin "BaseException.__getattribute__") false false) _ _ _
  unfold getAttrByItsOwn hookBefore
  refine wpAny_bind ?_
  rw [if_pos (show onTheHeap (Value.ref C) = true from rfl)]
  refine L2.at ?_
  refine wpAny_bind (wpAny_attempt (wpAny_holding ?_))
  show wpAny _ _ (boundAndCalled (.builtin "BaseException.__getattribute__") (.ref a) _) _ _ _
  unfold boundAndCalled
  rw [hb]
  refine wpAny_bind (wpAny_pure ?_)
  refine wpAny_call (codeAny_call_builtin PySem.F.excAttr_ValueError.ga.plain PySem.F.entry_bexc_ga (excAt_check F X p (excAt_entry F X p ?_)))
  show wpAny (model prog w) A (handedOut (.ref C)) _ _ _
  exact PySem.W.handed_on rfl (wpAny_pure h)
theorem kitx_exc (F : ExcF K C) : PySem.W.KitX K (.ref a) (.ref C) (ExcAt a C) where
  ty := fun M h _ p => excAt_ty p
  it := fun M h X _ => by
    have z := F.cl
    unfold PySem.W.clsIn at z
    split at z
    · rename_i c1 d1 cd1 sl1 ho
      intro A1 Q1 E1 s1 k1 q1
      unfold isType loadHead
      exact wpAny_bind (wpAny_loadPart (k1 _ _ (X _ _ ho)) (wpAny_pure q1))
    · cases z
  ne := fun h tp dd its n sl X htp => by
    refine Bool.eq_false_iff.mpr fun q => ?_
    have e : C = tp := Value.ref.inj (beq_iff_eq.mp q)
    subst e
    have z := F.cl
    unfold PySem.W.clsIn at z
    split at z
    · rename_i c1 d1 cd1 sl1 ho
      have y := (X _ _ ho).symm.trans htp
      cases y
    · cases z
  ca := fun X p k => excAt_class F X p k
end
/-! ### isinstance(e, T) of a caught exception -/
def isC : V → Bool | .ref _ => true | .ty _ => true | _ => false
def toC : V → Value | .ref D => .ref D | .ty n => .type n | _ => .none
theorem toC_eq {c : V} {u : Value} (h : isC c = true) (r : RelV c u) : u = toC c := by
  cases c with
  | ref D => exact r
  | ty n => exact r
  | _ => cases h
end L2

namespace L2
open PySem PySem.Spec PyProof.Rows
/-! ### texts -/
section
variable {X : Cx} {pos : Pos}
theorem mt_find : MtR X "str.find" (fun x xs H Q => ∃ i j, x = .str i ∧ xs = [.str j] ∧ Q (.int (Txt.find i j)) H) := by
  intro pins s σ H x xs v us Q I rx rv h
  obtain ⟨i, j, rfl, rfl, q⟩ := h
  obtain ⟨t, rfl⟩ := rx
  obtain ⟨u, rfl, ru⟩ := rv.one
  obtain ⟨t', rfl⟩ := ru
  exact SC.find ⟨.int _, H, I.tok _, ⟨_, rfl⟩, q⟩
/-! ### {} -/
def tDNew : TE := fun _ H Q => ∀ p, H p = none → Q (.ref p) (upd H p (.dK []))
/-! ### a callee that may raise, asked where it does not -/
theorem pass1 {P : Program} {w : World} : Passes (CX1 P w) X E0 := fun _ _ _ _ _ _ _ h => by
  obtain ⟨_, _, _, _, _, _, _, _, _, _, _, _, z⟩ := h
  exact z.elim
end
end L2

namespace L2
open PySem PySem.Spec PyProof.Rows
/-! ### lists of texts -/
def vS (ys : List Str) : List V := ys.map V.str
theorem vS_len (ys : List Str) : (vS ys).length = ys.length := List.length_map _
theorem vals_values : ∀ l : List (Str × Tok), Vals (vS (l.map (·.1))) (strValues l)
  | [] => .nil
  | (x, t) :: r => .cons ⟨t, rfl⟩ (vals_values r)
theorem vals_from (tk : Nat) (xs : List Str) : Vals (vS xs) (strsFrom tk xs) := by
  rw [strsFrom_eq]
  have := vals_values (numbered tk xs)
  rwa [numbered_texts] at this
theorem strsAre_of : ∀ {ys : List Str} {us : List Value}, Vals (vS ys) us → StrsAre us ys
  | [], _, .nil => .nil
  | y :: r, _, .cons h t => by
    obtain ⟨tk, rfl⟩ := h
    exact .cons _ _ (strsAre_of t)
section
variable {X : Cx}
/-! ### join, split -/
theorem mt_join : MtR X "str.join" (fun x xs H Q => ∃ sep a ys, x = .str sep ∧ xs = [.ref a] ∧ SqL X.K H a (vS ys) ∧ (ys.map (·.length)).sum + ys.length * sep.length ≤ 16777216 ∧ Q (.str (Txt.join sep ys)) H) := by
  intro pins s σ H x xs v us Q I rx rv h
  obtain ⟨sep, a, ys, rfl, rfl, hS, hok, q⟩ := h
  obtain ⟨t, rfl⟩ := rx
  obtain ⟨u, rfl, ru⟩ := rv.one
  cases ru
  obtain ⟨its, r, pl, hz⟩ := I.list hS
  exact join_list (isL_of pl) (by simpa using strsAre_of r) hok fun t' k => ⟨.str _, H, I.tok k, ⟨_, rfl⟩, q⟩
theorem mt_split : MtR X "str.split" (fun x xs H Q => ∃ i j, x = .str i ∧ xs = [.str j] ∧ (j.length == 0) = false ∧ i.length ≤ 10000 ∧ ∀ l, H l = none → Q (.ref l) (upd H l (.lst (vS (Txt.split i j))))) := by
  intro pins s σ H x xs v us Q I rx rv h
  obtain ⟨i, j, rfl, rfl, hj, hi, q⟩ := h
  obtain ⟨t, rfl⟩ := rx
  obtain ⟨u, rfl, ru⟩ := rv.one
  obtain ⟨t', rfl⟩ := ru
  have sl := sizeLine_eq
  have hsz : i.length ≤ sizeLine := by omega
  have same : Txt.split i j = [i] → (∀ h' tk, h' = s.heap.push { cls := .type "list", data := .seq ([.str i t] : List Value).toArray } → EP X pins σ Q (.ref s.heap.objs.size) { s with heap := h', toks := tk }) := fun e h' tk eh => by
    subst eh
    refine ⟨.ref s.heap.objs.size, _, I.lnew (t' := tk) (ys := vS (Txt.split i j)) (its := [.str i t]) ?_ ?_, rfl, q _ I.fresh⟩
    · rw [e]
      exact .cons ⟨t, rfl⟩ .nil
    · rw [e]
      show 1 ≤ sizeLine
      omega
  by_cases h1 : (decide (i.length < j.length) || decide (Builtin.Str.strKind i < Builtin.Str.strKind j)) = true
  · refine call_meets F.slot_str_split (typeIs_str _ _ _) F.entry_str_split (F.args_str_split_2 _ _) (meets_str_split_cannot_occur i j t t' h1) ?_
    exact same (if_pos h1) _ s.toks rfl
  · have h1' := Bool.eq_false_iff.mpr h1
    by_cases hf : (Builtin.Str.occurrences i j 0 i.length (i.length + 1)).isEmpty = true
    · refine call_meets F.slot_str_split (typeIs_str _ _ _) F.entry_str_split (F.args_str_split_2 _ _) (meets_str_split_not_found i j t t' h1' hj hf) ?_
      exact same ((if_neg h1).trans (if_pos hf)) _ s.toks rfl
    · have hf' := Bool.eq_false_iff.mpr hf
      have hp : Txt.split i j = Builtin.Str.partsBetween i (Builtin.Str.occurrences i j 0 i.length (i.length + 1)) j.length := (if_neg h1).trans (if_neg hf)
      have hn : (Builtin.Str.partsBetween i (Builtin.Str.occurrences i j 0 i.length (i.length + 1)) j.length).length ≤ sizeLine := by
        rw [len_partsBetween]
        have := StrLaws.occ_length_le i j 0 i.length (i.length + 1)
        omega
      refine call_meets F.slot_str_split (typeIs_str _ _ _) F.entry_str_split (F.args_str_split_2 _ _) (meets_str_split_sep i j t t' h1' hj hf' hsz hn) ?_
      refine ⟨.ref s.heap.objs.size, _, I.lnew (ys := vS (Txt.split i j)) (its := strsFrom s.toks (Builtin.Str.partsBetween i (Builtin.Str.occurrences i j 0 i.length (i.length + 1)) j.length)) ?_ ?_, rfl, q _ I.fresh⟩
      · rw [hp]
        exact vals_from _ _
      · rw [vS_len, hp]
        exact hn
/-! ### slices of texts -/
def rSlS : V → Option Int → Option Int → Hp → VK → Prop := fun x lo hi H Q => ∃ z, x = .str z ∧ z.length ≤ 10000 ∧ Q (.str (Txt.slice z lo hi)) H
theorem isPart_of {v : Value} {o : Option Int} (p : IsPart v o) : ∃ l : Option (Int × Tok), partValue l = v ∧ l.map (·.1) = o := by
  cases p with
  | none => exact ⟨none, rfl, rfl⟩
  | int i t => exact ⟨some (i, t), rfl, rfl⟩
theorem sl_str : SlR X rSlS := by
  intro pins s σ H x v vl vu lo hi sl Q I rx hs pl pu h
  obtain ⟨z, rfl, hz, q⟩ := h
  obtain ⟨t, rfl⟩ := rx
  obtain ⟨l, rfl, el⟩ := isPart_of pl
  obtain ⟨u, rfl, eu⟩ := isPart_of pu
  refine ⟨"str", _, F.slot_str_getitem.lookup, typeIs_str _ _ _, ?_⟩
  refine wpAny_getItem_str_slice (l := l) (u := u) (st := none) hs rfl (post_val_or_str ⟨?_, fun t' k => ?_⟩)
  · have e := Txt.slice_le z lo hi
    rw [← el, ← eu] at e
    have sl' := sizeLine_eq
    refine Nat.le_trans e ?_
    omega
  · refine ⟨.str _, H, I.tok k, ⟨_, rfl⟩, ?_⟩
    rw [← el, ← eu] at q
    exact q
/-! ### for c in a text -/
def Its (x : Str) : It := ⟨fun i _ => i < x.cps.size, fun i H v H' => H' = H ∧ ∃ c, x.cps[i]? = some c ∧ v = .str ⟨#[c]⟩, fun i _ => x.cps.size ≤ i⟩
theorem turn_strA {P : Program} {w : World} {K : PySem.W.Frag} {tg : Expr} (x : Str) (t : Tok) (it : Addr) : Turn P w K tg (Its x) [it] it (fun i h => h.IsStrIter it "str_ascii_iterator" x t i) where
  mem := by simp
  obj := fun i h st b hb => by
    have e : b = it := by simpa using hb
    subst e
    obtain ⟨o, e, c, d⟩ := st
    exact ⟨o, e, fun v z => by rw [d] at z; cases z⟩
  keep := fun i h h' st k => by
    obtain ⟨o, e, r⟩ := st
    exact ⟨o, k it (by simp) o e, r⟩
  item := by
    intro X hP hw hK hc i pins s σ H E I hf st hg
    subst hP hw hK
    have hi : i < x.cps.size := hg
    obtain ⟨f0, f1, f2, f3, f4, f5⟩ := hf it (by simp)
    refine wpAny_pyNext_ascii_item st (c := x.cps[i]) (by simp [hi]) fun h' st' sb => ?_
    have I1 : Inv X pins σ H { s with heap := h', toks := s.toks + 1 } := I.turned (t' := s.toks + 1) (fun b o hb e => (sb.2 b hb).trans e) f0 f1 f3 f4 f5
    obtain ⟨o, e, c, d⟩ := id st'
    exact ⟨_, rfl, go_of (s := { s with heap := h', toks := s.toks + 1 }) e c d (by decide) ⟨.str _, H, I1, ⟨_, rfl⟩, ⟨rfl, x.cps[i], by simp [hi], rfl⟩, st', fun b hb => (hf b hb).1⟩⟩
  done := by
    intro X hP hw hK hc i pins s σ H E I hf st hg
    subst hP hw hK
    have hi : x.cps.size ≤ i := hg
    obtain ⟨f0, f1, f2, f3, f4, f5⟩ := hf it (by simp)
    exact wpAny_pyNext_ascii_end (I.ok.hd hc) st (by simp [hi]) fun h' eb => ⟨rfl, I.turned (t' := s.toks) (fun b o hb e => eb b o hb e) f0 f1 f3 f4 f5⟩
  self := fun _ _ _ _ _ st h => wpAny_pyIter_striter_ascii st h
theorem turn_strW {P : Program} {w : World} {K : PySem.W.Frag} {tg : Expr} (x : Str) (t : Tok) (it : Addr) : Turn P w K tg (Its x) [it] it (fun i h => h.IsStrIter it "str_iterator" x t i) where
  mem := by simp
  obj := fun i h st b hb => by
    have e : b = it := by simpa using hb
    subst e
    obtain ⟨o, e, c, d⟩ := st
    exact ⟨o, e, fun v z => by rw [d] at z; cases z⟩
  keep := fun i h h' st k => by
    obtain ⟨o, e, r⟩ := st
    exact ⟨o, k it (by simp) o e, r⟩
  item := by
    intro X hP hw hK hc i pins s σ H E I hf st hg
    subst hP hw hK
    have hi : i < x.cps.size := hg
    obtain ⟨f0, f1, f2, f3, f4, f5⟩ := hf it (by simp)
    refine wpAny_pyNext_wide_item st (c := x.cps[i]) (by simp [hi]) fun h' st' sb => ?_
    have I1 : Inv X pins σ H { s with heap := h', toks := s.toks + 1 } := I.turned (t' := s.toks + 1) (fun b o hb e => (sb.2 b hb).trans e) f0 f1 f3 f4 f5
    obtain ⟨o, e, c, d⟩ := id st'
    exact ⟨_, rfl, go_of (s := { s with heap := h', toks := s.toks + 1 }) e c d (by decide) ⟨.str _, H, I1, ⟨_, rfl⟩, ⟨rfl, x.cps[i], by simp [hi], rfl⟩, st', fun b hb => (hf b hb).1⟩⟩
  done := by
    intro X hP hw hK hc i pins s σ H E I hf st hg
    subst hP hw hK
    have hi : x.cps.size ≤ i := hg
    obtain ⟨f0, f1, f2, f3, f4, f5⟩ := hf it (by simp)
    exact wpAny_pyNext_wide_end (I.ok.hd hc) st (by simp [hi]) fun h' eb => ⟨rfl, I.turned (t' := s.toks) (fun b o hb e => eb b o hb e) f0 f1 f3 f4 f5⟩
  self := fun _ _ _ _ _ st h => wpAny_pyIter_striter_wide st h
def iStr (tl : TE) : TI := fun σ H R => tl σ H fun x H1 => ∃ z, x = .str z ∧ R (Its z) H1
theorem pi_str {tg l : Expr} {tl : TE} (hl : PE X l tl) : PI X tg l (iStr tl) := by
  intro pins s σ H R I h
  refine thn (hl pins s σ H _ I h) fun v s1 ⟨x, H1, I1, r1, q1⟩ => ?_
  obtain ⟨z, rfl, q⟩ := q1
  obtain ⟨t, rfl⟩ := r1
  have fp : ∀ b ∈ [s1.heap.objs.size], FpOk X pins H1 b := fun b hb => by
    have e : b = s1.heap.objs.size := by simpa using hb
    subst e
    exact I1.fpOk (Nat.le_refl _) (I1.hok.fresh (Nat.le_refl _))
  cases ha : z.cps.all (· < 128)
  · exact wpAny_pyIter_wide ha ⟨s1.heap.objs.size, [s1.heap.objs.size], _, _, H1, rfl, I1.kept (t' := s1.toks) fun b o e => Heap.get?_push_of_some _ e, turn_strW z t _, ⟨_, Heap.get?_push_size _ rfl, rfl, rfl⟩, fp, q⟩
  · exact wpAny_pyIter_ascii ha ⟨s1.heap.objs.size, [s1.heap.objs.size], _, _, H1, rfl, I1.kept (t' := s1.toks) fun b o e => Heap.get?_push_of_some _ e, turn_strA z t _, ⟨_, Heap.get?_push_size _ rfl, rfl, rfl⟩, fp, q⟩
end
end L2

namespace L2
open PySem PySem.Spec PyProof.Rows
/-! ### raise C("..") from None, in an except suite -/
inductive Pth (h : Heap) : Addr → Addr → Prop where
  | here (a : Addr) : Pth h a a
  | step {a b c : Addr} {o : Obj} {vs : Array Value} : h.get? a = some o → o.data = .fields vs → vs[2]? = some (.ref b) → Pth h b c → Pth h a c
section
variable {prog : Program} {w : World}
end
end L2

namespace L2
open PySem PySem.Spec PyProof.Rows
section
variable {X : Cx} {pins : List (Addr × Obj)} {σ : St} {H : Hp} {s : Shared} {x : Str} {np cp cp2 cpos rpos : Pos} {msg : Str} {j j2 : Nat} {C e1 : Addr}
end
end L2

namespace L2
open PySem PySem.Spec PyProof.Rows
/-! ### try: .. except T: raise C("..") from None -/
def tTryR (K : PySem.W.Frag) (tb : XK → TS) (CT : Value) (C2 : Addr) (E : XK) : TS := fun D σ H => tb (fun cls _ H1 => PySem.W.exmOne K cls CT = some true ∧ E (.ref C2) none H1) D σ H
/-! ### f(a), where a may raise and f not -/
/-! ### xs == [] -/
end L2

namespace L2
open PySem PySem.Spec PyProof.Rows
/-! ### sorted(..): what comes is the same things in some order, whatever the comparisons answer -/
section
variable {P : Program} {w : World} {A : Around} {E : Value → Shared → Prop} {s : Shared} {kd : SortKind} {a0 : Array Keyed}
/-- comparisons of these keys answer, and change nothing -/
def Cmp (P : Program) (w : World) (A : Around) (s : Shared) (kd : SortKind) (ks : List Value) : Prop :=
  ∀ x ∈ ks, ∀ y ∈ ks, ∀ (E : Value → Shared → Prop) (Q : Bool → Shared → Prop), (∀ b, Q b s) → wpAny (model P w) A (keyLt' kd x y) Q E s
structure SB (kd : SortKind) (a0 : Array Keyed) (st : SortSt) : Prop where
  pm : (arrOf st).Perm a0
  kn : kindOf st = kd
  fl : failedOf st = none
  pn : pendingOf st = #[]
variable (hC : Cmp P w A s kd (a0.toList.map (·.1)))
include hC
end
section
variable {P : Program} {w : World} {A : Around} {E : Value → Shared → Prop} {s : Shared} {kd : SortKind}
/-- what sorting needs to know of the keys, in any state that keeps what is there -/
structure Keys (P : Program) (w : World) (A : Around) (s : Shared) (kd : SortKind) (vs : List Value) : Prop where
  kind : 2 ≤ vs.length → ∀ (E : Value → Shared → Prop) (Q : SortKind → Shared → Prop), Q kd s → wpAny (model P w) A (keyKind' vs.toArray) Q E s
  cmp : Cmp P w A s kd vs
end
end L2

namespace L2
open PySem PySem.Spec PyProof.Rows
/-! ### sorted(..) of pairs of whole numbers -/
section
variable {P : Program} {w : World} {A : Around} {E : Value → Shared → Prop} {s : Shared}
/-- a pair of whole numbers on the heap -/
def PairAt (h : Heap) (v : Value) : Prop := ∃ (a : Addr) (i j : Int) (t u : Tok) (o : Obj) (n : Nat), v = .ref a ∧ h.get? a = some o ∧ o.cls = .type "tuple" ∧ o.data = .seq #[.int i t, .int j u] n
end
end L2

namespace L2
open PySem PySem.Spec PyProof.Rows
section
variable {X : Cx}
/-! ### sum(xs), xs.count(k) -/
/-! ### e as a row of its own, where e may raise -/
theorem psx_expr {e : Expr} {te : XK → TE} {pos : Pos} (he : PEX X e te) (hs : swapsWith e none pos.line X.env = pure false := by rfl) : PSX X [.Expr e pos] (fun Ex => tDrop (te Ex)) := by
  intro pins s σ H D Ex I h
  exact wpAny_execs_cons (wpAny_Expr_any (thn (he pins s σ H _ Ex I h) fun v s1 ⟨x, H1, I1, r1, q1⟩ => wpAny_execs_nil ⟨σ, H1, I1, q1⟩) I.quiet hs)
end
/-! ### for i, x in enumerate(xs) -/
def Ite (K : PySem.W.Frag) (a : Addr) : It :=
  ⟨fun i H => ∃ xs x, SqL K H a xs ∧ xs[i]? = some x, fun i H v H' => ∃ p x, v = .ref p ∧ H p = none ∧ H' = upd H p (.tup [.int (i : Nat), x]) ∧ ∀ xs, SqL K H a xs → xs[i]? = some x, fun i H => ∃ xs, SqL K H a xs ∧ xs.length ≤ i⟩
section
variable {X : Cx}
def iEnum (K : PySem.W.Frag) (ta : TA) : TI := fun σ H R => ta σ H fun vs H1 => ∃ a xs, vs = [.ref a] ∧ H1 a = some (.lst xs) ∧ R (Ite K a) H1
end
end L2

namespace L2
open PySem PySem.Spec PyProof.Rows
section
open PySem.SeqAt
open PySem.AutoSeq1 (wpAny_loadPart')
open PySem.MeetsSeq PySem.MeetsSeq2 PySem.MeetsSeq3
/-! ### xs < ys of lists of whole numbers -/
end
section
variable {X : Cx}
end
end L2

namespace L2
open PySem PySem.Spec PyProof.Rows
/-! ### [.. for k in range(n)], where of each item only something is known -/
end L2

namespace L2
open PySem PySem.Spec PyProof.Rows
section
variable {X : Cx} {pins : List (Addr × Obj)} {σ : St} {H : Hp} {s : Shared}
end
/-! ### for x, y in zip(xs, ys) -/
def Itz (K : PySem.W.Frag) (a b : Addr) : It :=
  ⟨fun i H => ∃ xs ys x y, SqL K H a xs ∧ SqL K H b ys ∧ xs[i]? = some x ∧ ys[i]? = some y, fun i H v H' => ∃ p x y, v = .ref p ∧ H p = none ∧ H' = upd H p (.tup [x, y]) ∧ (∀ xs, SqL K H a xs → xs[i]? = some x) ∧ ∀ ys, SqL K H b ys → ys[i]? = some y,
    fun i H => ∃ xs ys, SqL K H a xs ∧ SqL K H b ys ∧ (xs.length ≤ i ∨ ys.length ≤ i)⟩
section
variable {X : Cx}
def iZip (K : PySem.W.Frag) (ta : TA) : TI := fun σ H R => ta σ H fun vs H1 => ∃ a b xs ys, vs = [.ref a, .ref b] ∧ SqL K H1 a xs ∧ SqL K H1 b ys ∧ R (Itz K a b) H1
/-! ### max(xs), xs.index(k) -/
end
/-! ### [.. for k in range(n) if p(k)], where of each item only something is known -/
end L2

namespace L2
open PySem PySem.Spec PyProof.Rows
/-! ### xs != [] -/
end L2

namespace L2
open PySem PySem.Spec PyProof.Rows
/-! ### t > u of tuples of whole numbers -/
section
open PySem.SeqAt
open PySem.AutoSeq1 (wpAny_loadPart')
open PySem.MeetsSeq PySem.MeetsSeq2 PySem.MeetsSeq3
end
section
variable {X : Cx}
/-! ### ==, != of lists and of tuples of flat items -/
def eqVs : List V → List V → Bool
  | [], [] => true
  | x :: xs, y :: ys => eqV x y && eqVs xs ys
  | _, _ => false
theorem eqVs_all : ∀ (xs ys : List V), ((List.range (min xs.length ys.length)).all (fun j => eqV (xs.getD j .non) (ys.getD j .non)) && xs.length == ys.length) = eqVs xs ys
  | [], [] => rfl
  | [], _ :: _ => rfl
  | _ :: _, [] => rfl
  | x :: xs, y :: ys => by
    have e : min (x :: xs).length (y :: ys).length = min xs.length ys.length + 1 := by simp only [List.length_cons]; omega
    rw [e, List.range_succ_eq_map, List.all_cons, List.all_map]
    show _ = (eqV x y && eqVs xs ys)
    rw [← eqVs_all xs ys, Bool.and_assoc]
    have e2 : ((x :: xs).length == (y :: ys).length) = (xs.length == ys.length) := by simp
    rw [e2]
    rfl
theorem flat_at {xs : List V} {us : List Value} (r : Vals xs us) (f : xs.all flatV = true) {j : Nat} (h : j < us.toArray.size) : RelV (xs.getD j .non) us.toArray[j] ∧ flatV (xs.getD j .non) = true := by
  have hj : j < us.length := by simpa using h
  have hx : j < xs.length := by rw [r.length]; exact hj
  obtain ⟨u, e, ru⟩ := r.get (List.getElem?_eq_getElem hx)
  rw [List.getElem?_eq_getElem hj] at e
  have g : xs.getD j .non = xs[j] := by rw [List.getD_eq_getElem?_getD, List.getElem?_eq_getElem hx]; rfl
  rw [g]
  have eu : us[j] = u := Option.some.inj e
  refine ⟨?_, List.all_eq_true.mp f _ (List.getElem_mem hx)⟩
  show RelV xs[j] us.toArray[j]
  rw [List.getElem_toArray, eu]
  exact ru
def rEqF (K : PySem.W.Frag) (tup neg : Bool) : R2 := fun x y H Q => ∃ (a b : Addr) (xs ys : List V), x = .ref a ∧ y = .ref b ∧ (if tup then SqT K H a xs ∧ SqT K H b ys else SqL K H a xs ∧ SqL K H b ys) ∧ xs.all flatV = true ∧ ys.all flatV = true ∧ Q (.bl (if neg then !eqVs xs ys else eqVs xs ys)) H
theorem op_neFT (hu : X.A.units + 64 < cLine) : OpR X (compareOp .NotEq) (rEqF X.K true true) := by
  intro pins s σ H x y v u Q I rx ry h
  obtain ⟨a, b, xs, ys, rfl, rfl, ⟨ha, hb⟩, fx, fy, q⟩ := h
  cases rx
  cases ry
  obtain ⟨its, r1, p1, _⟩ := I.tuple ha
  obtain ⟨its2, r2, p2, _⟩ := I.tuple hb
  refine SeqAt.RcNeAt.tuples (e := fun j => eqV (xs.getD j .non) (ys.getD j .non)) p1 p2 (by omega) (fun j h1 h2 => eqAt_V (flat_at r1 fx h1).1 (flat_at r2 fy h2).1 (flat_at r1 fx h1).2 (flat_at r2 fy h2).2) _ _ _ _ ⟨.bl _, H, I, rfl, ?_⟩
  have z := eqVs_all xs ys
  rw [r1.length, r2.length] at z
  rw [List.size_toArray, List.size_toArray, z]
  exact q
theorem eqVs_len : ∀ {xs ys : List V}, xs.length ≠ ys.length → eqVs xs ys = false
  | [], [], h => absurd rfl h
  | [], _ :: _, _ => rfl
  | _ :: _, [], _ => rfl
  | x :: xs, y :: ys, h => by
    show (eqV x y && eqVs xs ys) = false
    rw [eqVs_len (xs := xs) (ys := ys) (fun z => h (by simp [z])), Bool.and_false]
theorem op_neFL (hu : X.A.units + 64 < cLine) : OpR X (compareOp .NotEq) (rEqF X.K false true) := by
  intro pins s σ H x y v u Q I rx ry h
  obtain ⟨a, b, xs, ys, rfl, rfl, ⟨ha, hb⟩, fx, fy, q⟩ := h
  cases rx
  cases ry
  obtain ⟨its, r1, p1, _⟩ := I.list ha
  obtain ⟨its2, r2, p2, _⟩ := I.list hb
  by_cases e : xs.length = ys.length
  · refine SeqAt.RcNeAt.lists (e := fun j => eqV (xs.getD j .non) (ys.getD j .non)) p1.isList p2.isList (by simp [← r1.length, ← r2.length, e]) (by omega) (fun j h1 h2 => eqAt_V (flat_at r1 fx h1).1 (flat_at r2 fy h2).1 (flat_at r1 fx h1).2 (flat_at r2 fy h2).2) _ _ _ _ ⟨.bl _, H, I, rfl, ?_⟩
    have z := eqVs_all xs ys
    rw [e, Nat.min_self, beq_self_eq_true, Bool.and_true, ← e, r1.length] at z
    rw [List.size_toArray, z]
    exact q
  · refine SeqAt.RcNeAt.lists_lengths p1.isList p2.isList (by simp [← r1.length, ← r2.length, e]) (by omega) _ _ _ _ ⟨.bl true, H, I, rfl, ?_⟩
    have q' : Q (.bl (!eqVs xs ys)) H := q
    rw [eqVs_len e] at q'
    exact q'
/-! ### list.index of flat items -/
end
/-! ### [.. for x in ..], where of each item only something is known -/
end L2

namespace L2
open PySem PySem.Spec PyProof.Rows
/-! ### isinstance(e, (C1, C2, ..)) of a caught exception -/
def rIsX (K : PySem.W.Frag) : List V → Hp → VK → Prop := fun xs H Q => ∃ a C c b, xs = [.ref a, c] ∧ isC c = true ∧ H a = some (excO a C) ∧ ExcF K C ∧ PySem.W.kitOne K (.ref C) (toC c) = some b ∧ Q (.bl b) H
def rIsXT (K : PySem.W.Frag) : List V → Hp → VK → Prop := fun xs H Q => ∃ a C p cs b, xs = [.ref a, .ref p] ∧ H p = some (.tup cs) ∧ cs.all isC = true ∧ H a = some (excO a C) ∧ ExcF K C ∧ PySem.W.kitAny K (.ref C) (cs.map toC) = some b ∧ Q (.bl b) H
/-! ### text.index(text), where it is found -/
end L2

namespace L2
open PySem PySem.Spec PyProof.Rows
/-! ### C() of a class without an __init__ of its own -/
structure Mk0 (K : PySem.W.Frag) (C : Addr) : Prop where
  makes : PySem.W.makesIn K C = true
  init : PySem.W.findIn K (.ref C) "__init__" = some (some (.builtin "object.__init__"))
  kp : PySem.W.keepIn K (.ref C) = true
def tMake0 (C : Addr) : TE := fun σ H Q => ∀ x dx, H x = none → H dx = none → dx ≠ x → Q (.ref x) (upd (upd H dx (.own x)) x (.ins C dx []))
section
variable {X : Cx} {CX : CXT} {k : Nat} {C : Addr} {E : XK} {x m : Str} {p pos apos : Pos} {e o : Expr} {es : List Expr} {ta : TE} {t : TA}
theorem run_make0 {pins : List (Addr × Obj)} {σ : St} {H : Hp} {s : Shared} {Q : VK} (M : Mk0 X.K C) (I : Inv X pins σ H s)
    (h : ∀ x dx, H x = none → H dx = none → dx ≠ x → Q (.ref x) (upd (upd H dx (.own x)) x (.ins C dx []))) :
    wpAny (model X.prog X.w) X.A (call (.ref C) []) (EP X pins σ Q) X.xe s := by
  have hq := h (s.heap.objs.size + 1) s.heap.objs.size (I.hok.fresh (Nat.le_succ _)) (I.hok.fresh (Nat.le_refl _)) (Nat.ne_of_lt (Nat.lt_succ_self _))
  have I2 := Inv.made (C := C) I
  have Y := PySem.W.makes_of (M := model X.prog X.w) I.kIn M.makes
  refine wpAny_call (make_map0 I.kIn M.makes M.init (fun self => PySem.W.Looks.of_pure (PySem.W.oi_bind self)) ?_)
  obtain ⟨hh, g, d, tk, os⟩ := s
  have hx : ((hh.push PySem.W.emptyDict).push (PySem.W.instObj C hh.objs.size)).get? (hh.objs.size + 1) = some (PySem.W.instObj C hh.objs.size) := by heap_get
  have t1 : PySem.W.Looks (model X.prog X.w) ((hh.push PySem.W.emptyDict).push (PySem.W.instObj C hh.objs.size)) (typeOf (.ref (hh.objs.size + 1))) (.ref C) := (PySem.W.Looks.ld hx).andThen .now
  have t2 : PySem.W.Looks (model X.prog X.w) ((hh.push PySem.W.emptyDict).push (PySem.W.instObj C hh.objs.size)) (isInstance (.ref (hh.objs.size + 1)) (.type "object")) true := t1.andThen (Y.top.keeps fun b o e => Heap.get?_push_of_some _ (Heap.get?_push_of_some _ e))
  refine codeAny_call_builtin PySem.W.oi_plain PySem.W.entry_oi (@PySem.W.check_slot (model X.prog X.w) _ _ _ "object.__init__" "object" "__init__" (.ref (hh.objs.size + 1)) [] [] _ PySem.W.oi_kind PySem.W.oi_split t2 (PySem.W.oi_args (.ref (hh.objs.size + 1))) ?_)
  rw [PySem.W.oi_run]
  exact wpAny_pure (And.intro rfl ⟨.ref (hh.objs.size + 1), _, I2, rfl, hq⟩)
theorem pe_makeO (M : Mk0 X.K C) (hg : Gl X x) (hm : X.mg x = some (.ref C)) (hdb : (x == ("__debug__" : Str)) = false := by decide) : PE X (.Call (.Name x p) [] [] pos) (tMake0 C) := by
  intro pins s σ H Q I h
  refine wpAny_Call_Name_kw (ld_glob I hg hm ?_ hdb)
  exact PySem.W.callWith_K0 I.kIn M.kp (run_make0 M I h)
/-! ### o.m(..) of an instance of one of several classes -/
structure MethF (P : Program) (w : World) (K : PySem.W.Frag) (mg : Str → Option Value) (base : Heap) (CX : CXT) (k : Nat) (ι : Type) (m : Str) (ps : List Str) (sp : ι → Sp) (cs : ι → Addr) (f : ι → Addr) (fd : ι → FuncData) : Prop where
  c : ∀ i, Cls K (cs i)
  hm : ∀ i, Meth K (cs i) m (f i)
  F : ∀ i, FnOk P w K mg base CX k (f i) (fd i) ps (sp i)
  hb : ∀ i, Binds K (fd i) ps []
def tMethF {ι : Type} (m : Str) (sp : ι → Sp) (cs : ι → Addr) (E : XK) (ta : TE) (t : TA) : TE := fun σ H Q => ta σ H fun x H1 => ∃ i a dx fs, x = .ref a ∧ H1 a = some (.ins (cs i) dx fs) ∧ fs.lookup m = none ∧ t σ H1 fun vs H2 => sp i (x :: vs) H2 Q E
theorem pe_methF0 {ι : Type} {ps : List Str} {sp : ι → Sp} {cs f : ι → Addr} {fd : ι → FuncData} {pl : Sem Bool} (he : PE X o ta) (M : MethF X.prog X.w X.K X.mg X.base CX k ι m ps sp cs f fd) (hr : Room k X.A) (hx : Passes CX X E)
    (ht : eval (.Call (.Attribute o m apos) [] [] pos) X.env = (do
      let ov ← eval o X.env
      standAt apos.atName
      let (f, first) ← holding [ov] (getMethod ov m pl)
      callWith pos f first (backTo pos (starEach [] X.env)) (backToKw pos (keywordEach [] X.env))) := by rfl) :
    PE X (.Call (.Attribute o m apos) [] [] pos) (tMethF m sp cs E ta tNil) := by
  intro pins s σ H Q I h
  refine PySem.W.methodCall_KW (pl := pl) (thn (he pins s σ H _ I h) fun u s1 ⟨x, H1, I1, rx, i, a, dx, fs, ex, ea, l, q⟩ => ?_) ht
  subst ex
  obtain rfl : u = Value.ref a := rx
  refine getmeth_ok I1 ea (M.c i) (M.hm i) l ?_
  exact PySem.W.callWith_K0 (first := [.ref a]) I1.kIn (M.hm i).kp (run_fn (us := [.ref a]) (vs := [.ref a]) (dvs := []) (M.F i) hr (M.hb i) .nil hx I1 (.cons rfl .nil) q)
end
/-! ### isinstance(x, C), C an own class -/
def rIsO (K : PySem.W.Frag) : List V → Hp → VK → Prop := fun xs H Q => ∃ x c t b, xs = [x, c] ∧ isC c = true ∧ TyOf K H x t ∧ PySem.W.kitOne K t (toC c) = some b ∧ Q (.bl b) H
end L2

namespace My
open PySem L2
/-! ### small helpers of the laws -/
theorem cut_if {c : Bool} {t u : TS} {D : Ends} {σ : St} {H : Hp} (Pv : St → Hp → Prop) (h1 : c = true → ∀ D' : Ends, D'.rt = D.rt → (∀ σ H, Pv σ H → D'.nx σ H) → t D' σ H)
    (h2 : c = false → ∀ D' : Ends, D'.rt = D.rt → (∀ σ H, Pv σ H → D'.nx σ H) → u D' σ H) (h3 : ∀ σ H, Pv σ H → D.nx σ H) : if c = true then t D σ H else u D σ H := by
  cases c with
  | true => exact iteT (h1 rfl D rfl h3)
  | false => exact iteF (h2 rfl D rfl h3)
theorem pickA {α : Type} (xs : List α) (m : Int) (hm : m = (xs.length : Int)) (h0 : 0 < xs.length) (z : Int) : ∃ v, v ∈ xs ∧ atI xs (z % m) = some v := by
  subst hm
  have a0 : 0 ≤ z % (xs.length : Int) := Int.emod_nonneg _ (by omega)
  have a1 : z % (xs.length : Int) < xs.length := Int.emod_lt_of_pos _ (by omega)
  obtain ⟨k, hk⟩ := Int.eq_ofNat_of_zero_le a0
  rw [hk] at a1 ⊢
  have hk' : k < xs.length := by omega
  exact ⟨xs[k], List.getElem_mem hk', atI_nat (List.getElem?_eq_getElem hk')⟩
theorem str_app_len (i j : Str) : (i ++ j).length = i.length + j.length := by
  show (i.cps ++ j.cps).size = _
  rw [Array.size_append]
  rfl
theorem app_le {i j : Str} {a b : Nat} (h1 : i.length ≤ a) (h2 : j.length ≤ b) : (i ++ j).length ≤ a + b := by rw [str_app_len]; omega
theorem fitsAB {i j : Str} {a b : Nat} (h1 : i.length ≤ a) (h2 : j.length ≤ b) (h : a + b ≤ 1000) : i.length + j.length ≤ sizeLine := by rw [sizeLine_eq]; omega
theorem fits3 (n : Nat) (h : n ≤ 1000) : n ≤ sizeLine := by rw [sizeLine_eq]; omega
theorem all_nil {α : Type} {p : α → Prop} : ∀ x ∈ ([] : List α), p x := fun _ h => nomatch h
theorem all_cons {α : Type} {p : α → Prop} {a : α} {l : List α} (h : p a) (r : ∀ x ∈ l, p x) : ∀ x ∈ a :: l, p x := fun x hx => by
  rcases List.mem_cons.mp hx with e | e
  · rw [e]; exact h
  · exact r x e
theorem item_at {ns : List Int} {k : Int} (h : 0 < ns.length) : ∃ v : Int, atI (ns.map V.int) (k % (((ns.map V.int).length : Nat) : Int)) = some (.int v) := by
  obtain ⟨v, hv, e⟩ := pickA (ns.map V.int) _ rfl (by rw [List.length_map]; exact h) k
  obtain ⟨n, _, rfl⟩ := List.mem_map.mp hv
  exact ⟨n, e⟩
section
variable {P : Program} {w : World} {K : PySem.W.Frag} {mg : Str → Option Value} {base : Heap}
structure Lib (P : Program) (w : World) (K : PySem.W.Frag) (mg : Str → Option Value) (base : Heap) (k : Nat) (x : Str) (ps : List Str) (sp : Sp) (f : Addr) (fd : FuncData) : Prop where
  ok : FnOk P w K mg base CX0 k f fd ps sp
  bd : Binds K fd ps []
  kp : PySem.W.keepIn K (.ref f) = true
  mg : mg x = some (.ref f)
structure LibX (P : Program) (w : World) (K : PySem.W.Frag) (mg : Str → Option Value) (base : Heap) (k : Nat) (x : Str) (ps : List Str) (sp : Sp) (f : Addr) (fd : FuncData) : Prop where
  ok : FnOk P w K mg base (CX1 P w) k f fd ps sp
  bd : Binds K fd ps []
  kp : PySem.W.keepIn K (.ref f) = true
  mg : mg x = some (.ref f)
end
end My

namespace My
open PySem L2
/-! ### four classes, four words -/
def p4 {α : Type} (a b c d : α) : Fin 4 → α := fun i => match i with | 0 => a | 1 => b | 2 => c | 3 => d
def wd : Fin 4 → Str := p4 "free" "follow" "cut" "beat"
def wds : List Str := ["free", "follow", "cut", "beat"]
theorem wd_at (i : Fin 4) : wds[i.val]? = some (wd i) := match i with | 0 => rfl | 1 => rfl | 2 => rfl | 3 => rfl
theorem wd_mem {t : Str} (h : t ∈ wds) : ∃ i, t = wd i := by
  rcases List.mem_cons.mp h with h | h
  · exact ⟨0, h⟩
  rcases List.mem_cons.mp h with h | h
  · exact ⟨1, h⟩
  rcases List.mem_cons.mp h with h | h
  · exact ⟨2, h⟩
  rcases List.mem_cons.mp h with h | h
  · exact ⟨3, h⟩
  · exact nomatch h
theorem mem_wd (i : Fin 4) : wd i ∈ wds := List.mem_of_getElem? (wd_at i)
theorem wd_len : ∀ i : Fin 4, 3 ≤ (wd i).length ∧ (wd i).length ≤ 6 := by decide +kernel
section
variable {P : Program} {w : World} {K : PySem.W.Frag} {mg : Str → Option Value} {base : Heap} {f g : Addr} {fd gd : FuncData}
/-- what an instance's class must have for isinstance -/
structure ClsI (K : PySem.W.Frag) (C : Addr) : Prop where
  cl : Cls K C
  ha : PySem.W.findIn K (.ref C) "__class__" = some (some (.builtin "object.__class__"))
  hn : PySem.W.specialIn K (.builtin "object.__class__") "__get__" = some (some (.builtin "getset_descriptor.__get__"))
  htk : PySem.W.takesIn K (.builtin "object.__class__") = some true
  hm : PySem.W.mroIn K C (.type "object") = some true
def spWord (i : Fin 4) : Sp := fun vs H Q _ => ∃ a, vs = [.ref a] ∧ Q (.str (wd i)) H
abbrev WordF (P : Program) (w : World) (K : PySem.W.Frag) (mg : Str → Option Value) (base : Heap) (k : Nat) (cs f : Fin 4 → Addr) (fd : Fin 4 → FuncData) : Prop := MethF P w K mg base CX0 k (Fin 4) "word" ["self"] spWord cs f fd
/-- duty_of: the duty of a word, or refused -/
def spDuty (cs : Fin 4 → Addr) (CN : Addr) : Sp := fun vs H Q E => ∃ t : Str, vs = [.str t] ∧ (∀ i, t = wd i → ∀ x dx H', Same H H' → H x = none → H' x = some (.ins (cs i) dx []) → Q (.ref x) H') ∧ (t ∉ wds → ∀ H', Same H H' → E (.ref CN) none H')
structure DutyC (K : PySem.W.Frag) (mg : Str → Option Value) (cs : Fin 4 → Addr) (CN : Addr) : Prop where
  mF : mg "Free" = some (.ref (cs 0))
  mL : mg "Follow" = some (.ref (cs 1))
  mC : mg "Cut" = some (.ref (cs 2))
  mB : mg "Beat" = some (.ref (cs 3))
  mak : ∀ i, Mk0 K (cs i)
  mN : mg "NoTable" = some (.ref CN)
  hN : PySem.W.excIn K CN veTail "ValueError.__new__" = true
theorem same_make {H : Hp} {x dx : Addr} {o : HO} (hx : H x = none) (hd : H dx = none) (n : dx ≠ x) : Same H (upd (upd H dx (.own x)) x o) := fun b u q => by
  rw [upd_ne (ne_of_none q hx), upd_ne (ne_of_none q hd)]
  exact q
theorem ok_word {st : Stmt} {qual wx : Str} {k : Nat} {sp : Sp} (F : Fun K "word" qual st f fd) (sc : FnScope ["self"] ["self"] (defScope st)) {p1 p2 : Pos} {j : Nat} (hb : defBody st = [.Return (some (.Constant (.str wx) j p1)) p2]) (hs : ∀ vs H Q E, sp vs H Q E → ∃ a, vs = [V.ref a] ∧ Q (.str wx) H) : FnOk P w K mg base CX0 (k + 1) f fd ["self"] sp := by
  refine F.ok sc (fun vs H Q E h => ?_) (fun cdv A outer s H vs Q E hr h => ?_)
  · obtain ⟨a, rfl, _⟩ := hs vs H Q E h
    rfl
  obtain ⟨a, rfl, q⟩ := hs vs H Q E h
  rw [hb]
  exact ⟨_, pss_one (ps_ret pe_str), q⟩
end
end My

namespace My
open PySem L2
/-! ### a card's text -/
def cardL : List Nat → Option Nat
  | [l, f] => if 97 ≤ l ∧ l ≤ 100 ∧ 49 ≤ f ∧ f ≤ 56 then some (8 * (l - 97) + (f - 49)) else none
  | _ => none
def cardOf (t : Str) : Option Nat := cardL t.cps.toList
def cardT (c : Nat) : Str := ⟨#[97 + c / 8, 49 + c % 8]⟩
abbrev sLet : Str := "abcd"
abbrev sFig : Str := "12345678"
theorem fig_mem (c : Nat) : c ∈ sFig.cps.toList ↔ 49 ≤ c ∧ c ≤ 56 := by
  have e : sFig.cps.toList = [49, 50, 51, 52, 53, 54, 55, 56] := by decide +kernel
  rw [e]
  simp only [List.mem_cons, List.not_mem_nil, or_false]
  omega
theorem find_fig (c : Nat) : Txt.find sFig ⟨#[c]⟩ = if 49 ≤ c ∧ c ≤ 56 then ((c - 49 : Nat) : Int) else -1 := by
  by_cases h : 49 ≤ c ∧ c ≤ 56
  · rw [if_pos h]
    have h4 : c = 49 ∨ c = 50 ∨ c = 51 ∨ c = 52 ∨ c = 53 ∨ c = 54 ∨ c = 55 ∨ c = 56 := by omega
    rcases h4 with rfl | rfl | rfl | rfl | rfl | rfl | rfl | rfl <;> decide +kernel
  · rw [if_neg h]
    have e := PyProof.Rows.empty_one sFig c
    rw [decide_eq_false (fun z => h ((fig_mem c).mp z))] at e
    unfold Txt.find
    cases q : Builtin.Str.occurrences sFig ⟨#[c]⟩ 0 sFig.length 1 with
    | nil => rfl
    | cons a b => rw [q] at e; cases e
end My

namespace L2
open PySem PySem.Spec PyProof.Rows
section
variable {prog : Program} {w : World} {A : Around} {E : Value → Shared → Prop} {s : Shared}
theorem IsList.ext {h h' : Heap} {l : Addr} {items : Array Value} (x : h.IsList l items) (e : ∀ o, h.get? l = some o → h'.get? l = some o) : h'.IsList l items := let ⟨o, ho, r⟩ := x; ⟨o, e _ ho, r⟩
/-! ### a, b, .. = a list -/
theorem draw_list {it t : Addr} {items : Array Value} (hne : t ≠ it) : ∀ (n i : Nat) (s : Shared) (Q : List Value → Shared → Prop), s.heap.IsListIter it t i → s.heap.IsList t items → i + n ≤ items.size →
    (∀ h', h'.IsListIter it t (i + n) → Heap.SameBut it s.heap h' → Q ((items.toList.drop i).take n) { s with heap := h' }) → wpAny (model prog w) A (draw (.ref it) n) Q E s
  | 0, i, s, Q, hit, _, _, hQ => by
    show wpAny _ _ (pure []) Q E s
    exact wpAny_pure (by simpa using hQ s.heap hit (Heap.SameBut.refl ..))
  | n + 1, i, s, Q, hit, ht, hle, hQ => by
    have hlt : i < items.size := by omega
    show wpAny _ _ (pyNext (.ref it) >>= _) Q E s
    refine wpAny_bind (wpAny_pyNext_list_item hit ht (x := items[i]) (by simp [hlt]) fun h₁ hit₁ hs₁ => ?_)
    refine wpAny_bind (wpAny_holding (draw_list hne n (i + 1) _ _ hit₁ (IsList.ext ht fun o e => hs₁.extBut t o hne e) (by omega) fun h₂ hit₂ hs₂ => wpAny_pure ?_))
    have hd : items.toList.drop i = items[i] :: items.toList.drop (i + 1) := by simp [List.drop_eq_getElem_cons, hlt]
    have := hQ h₂ (by rw [show i + (n + 1) = i + 1 + n by omega]; exact hit₂) (hs₁.trans hs₂)
    rw [hd, List.take_succ_cons] at this
    exact this
theorem unpackItems_list {t : Addr} {items : Array Value} {Q : List Value → Shared → Prop} (hh : A.handled = none) (ht : s.heap.IsList t items)
    (hQ : ∀ h', Heap.ExtBut s.heap.objs.size s.heap h' → Q items.toList { s with heap := h' }) : wpAny (model prog w) A (unpackItems (.ref t) items.size none) Q E s := by
  have hlt : t ≠ s.heap.objs.size := by obtain ⟨o, ho, _⟩ := ht; exact Nat.ne_of_lt (Heap.lt_size ho)
  unfold unpackItems
  refine wpAny_bind ?_
  · unfold notIterableAtAll
    refine wpAny_bind (wpAny_specialOf ht.typeIs slot_list_iter.lookup ?_)
    refine wpAny_pure ?_
    simp only [Bool.false_eq_true, if_false]
    refine wpAny_bind (wpAny_holding (wpAny_pyIter_list ht ?_))
    refine wpAny_bind (wpAny_holding (draw_list hlt items.size 0 _ _ ⟨_, Heap.get?_push_size _ rfl, rfl, rfl⟩ (IsList.ext ht fun o e => Heap.get?_push_of_some _ e) (by omega) fun h₁ hit₁ hs₁ => ?_))
    have hall : List.take items.size (List.drop 0 items.toList) = items.toList := by
      rw [List.drop_zero]; exact List.take_of_length_le (by simp)
    rw [hall]
    rw [if_neg (by simp)]
    have ht₁ : h₁.IsList t items := IsList.ext ht fun o e => hs₁.extBut t o hlt (Heap.get?_push_of_some _ e)
    refine wpAny_bind (wpAny_holding (wpAny_pyNext_list_end hh hit₁ ht₁ (by simp) fun h₂ he₂ => ?_))
    simp only [Option.isSome_none, Bool.false_eq_true, if_false]
    refine wpAny_pure (hQ h₂ fun b o hb e => he₂ b o hb (hs₁.extBut b o hb (Heap.get?_push_of_some _ e)))
theorem assign_Tuple_list {env : Env} {elts : List Expr} {x1} {pos : Pos} {t : Addr} {items : Array Value} {Q : Unit → Shared → Prop} (hh : A.handled = none) (ht : s.heap.IsList t items)
    (hn : (assignEach elts env).length = items.size) (hstar : (assignEach elts env).findIdx? (·.1) = none)
    (h : ∀ h', Heap.ExtBut s.heap.objs.size s.heap h' → wpAny (model prog w) A (assignInOrder ((assignEach elts env).map (·.2)) items.toList) Q E { s with heap := h' }) :
    wpAny (model prog w) A (assign (.Tuple elts x1 pos) env (.ref t)) Q E s := by
  rw [assign_Tuple]
  refine wpAny_bind (wpAny_standAt ?_)
  unfold unpack
  rw [hn, hstar]
  exact wpAny_bind (wpAny_holding (unpackItems_list hh ht h))
end
section
variable {X : Cx} {e st : Expr} {te : TE} {lo : Option Expr} {tl ts : TO} {pos p2 : Pos}
def gLst (K : PySem.W.Frag) (n : Nat) (t : TGs) : TG := fun v σ H Q => ∃ a xs, v = .ref a ∧ SqL K H a xs ∧ xs.length = n ∧ t xs σ H Q
theorem pg_lst {es : List Expr} {k : Nat} {t : TGs} {n : Nat} (hc : X.calm = true) (h : PGs X es t)
    (hn : (assignEach es X.env).length = n := by rfl) (hst : (assignEach es X.env).findIdx? (·.1) = none := by rfl) : PG X (.Tuple es k pos) (gLst X.K n t) := by
  intro pins s σ H v u Q I r hw
  obtain ⟨a, xs, e1, hq, hl, hw⟩ := hw
  subst e1
  cases r
  obtain ⟨its, rv, ht, hz⟩ := I.list hq
  refine assign_Tuple_list (I.ok.hd hc) ht.isList (by simp [hn, ← hl, rv.length]) hst fun h' hx => ?_
  have I1 : Inv X pins σ H { s with heap := h' } := I.kept (t' := s.toks) fun b o e => hx b o (Nat.ne_of_lt (Heap.lt_size e)) e
  exact h pins _ σ H xs _ Q I1 (by simpa using rv) hw
/-! ### xs[lo::2] of a list of ten items -/
def tStep (K : PySem.W.Frag) (te : TE) (tl ts : TO) : TE := fun σ H Q => te σ H fun x H1 => tl σ H1 fun o H2 => ts σ H2 fun o2 H3 => o2 = some 2 ∧ ∃ a x0 x1 x2 x3 x4 x5 x6 x7 x8 x9, x = .ref a ∧ SqL K H3 a [x0, x1, x2, x3, x4, x5, x6, x7, x8, x9] ∧
  ((o = some 0 ∧ ∀ p, H3 p = none → Q (.ref p) (upd H3 p (.lst [x0, x2, x4, x6, x8]))) ∨ (o = some 1 ∧ ∀ p, H3 p = none → Q (.ref p) (upd H3 p (.lst [x1, x3, x5, x7, x9]))))
theorem pick_of {ys zs : List Value} {n : Nat} {lo hi st : Option Int} {ix : List Nat} (hn : ys.length = n) (h : sliceRange (sliceBounds lo hi st n).1 (sliceBounds lo hi st n).2.1 (sliceBounds lo hi st n).2.2 = ix) (hz : ix.filterMap (ys[·]?) = zs) : slicePick ys.toArray lo hi st = zs.toArray := by
  unfold slicePick
  rw [List.size_toArray, hn, h, ← hz]
  congr 2
  funext i
  simp
theorem ten {xs : List Value} (h : xs.length = 10) : ∃ a b c d e f g i j k, xs = [a, b, c, d, e, f, g, i, j, k] := match xs, h with | [a, b, c, d, e, f, g, i, j, k], _ => ⟨a, b, c, d, e, f, g, i, j, k, rfl⟩
theorem pe_step (he : PE X e te) (hl : PO X lo tl) (hst : PO X (some st) ts) : PE X (.Subscript e (.Slice lo none (some st) p2) pos) (tStep X.K te tl ts) := by
  intro pins s σ H Q I h
  refine Subscript_ (thn (he pins s σ H _ I h) fun v s1 ⟨x, H1, I1, r1, q1⟩ => ?_)
  refine wpAny_Slice (thn (hl pins s1 σ H1 _ I1 q1) fun vl s2 ⟨l, H2, I2, pl, q2⟩ => ?_)
  rw [evalPart_none]
  refine wpAny_pure (thn (hst pins s2 σ H2 _ I2 q2) fun vs s3 ⟨o, H3, I3, po, q3⟩ => ?_)
  obtain ⟨rfl, a, x0, x1, x2, x3, x4, x5, x6, x7, x8, x9, rfl, hx, q⟩ := q3
  cases r1
  have I4 : Inv X pins σ H3 { s3 with heap := s3.heap.push { cls := .type "slice", data := .fields #[vl, .none, vs] } } := I3.kept (t' := s3.toks) fun b ob q => Heap.get?_push_of_some _ q
  obtain ⟨its, r, ht, hz⟩ := I4.list hx
  have hlen := r.length
  obtain ⟨y0, y1, y2, y3, y4, y5, y6, y7, y8, y9, rfl⟩ := ten hlen.symm
  cases r with | cons r0 r => cases r with | cons r1 r => cases r with | cons r2 r => cases r with | cons r3 r => cases r with | cons r4 r => cases r with | cons r5 r => cases r with | cons r6 r => cases r with | cons r7 r => cases r with | cons r8 r => cases r with | cons r9 r =>
  show wpAny (model X.prog X.w) X.A (subscriptTail e (.Slice lo none (some st) p2) (.ref a) (.ref s3.heap.objs.size)) (EP X pins σ Q) X.xe { s3 with heap := s3.heap.push { cls := .type "slice", data := .fields #[vl, .none, vs] } }
  refine PyProof.Rows.tail_any (ops := [.ref a, .ref s3.heap.objs.size]) ht.isList.typeIs slot_list_getitem.lookup ?_ (by with_unfolding_all rfl)
  refine wpAny_getItem_list_slice ht.isList (Heap.IsSliceOf.new ..) pl .none po (by decide) ?_ (by rw [List.size_toArray] <;> exact Nat.le_of_lt (small1000 (show 10 ≤ 1000 by decide)))
  rcases q with ⟨rfl, q⟩ | ⟨rfl, q⟩
  · have ep : slicePick [y0, y1, y2, y3, y4, y5, y6, y7, y8, y9].toArray (some 0) none (some 2) = [y0, y2, y4, y6, y8].toArray := pick_of (n := 10) (ix := [0, 2, 4, 6, 8]) rfl (by decide +kernel) rfl
    rw [ep]
    exact ⟨.ref _, _, I4.lnew (t' := s3.toks) (ys := [x0, x2, x4, x6, x8]) (its := [y0, y2, y4, y6, y8]) (.cons r0 (.cons r2 (.cons r4 (.cons r6 (.cons r8 .nil))))) (Nat.le_of_lt (small1000 (show 5 ≤ 1000 by decide))), rfl, q _ I4.fresh⟩
  · have ep : slicePick [y0, y1, y2, y3, y4, y5, y6, y7, y8, y9].toArray (some 1) none (some 2) = [y1, y3, y5, y7, y9].toArray := pick_of (n := 10) (ix := [1, 3, 5, 7, 9]) rfl (by decide +kernel) rfl
    rw [ep]
    exact ⟨.ref _, _, I4.lnew (t' := s3.toks) (ys := [x1, x3, x5, x7, x9]) (its := [y1, y3, y5, y7, y9]) (.cons r1 (.cons r3 (.cons r5 (.cons r7 (.cons r9 .nil))))) (Nat.le_of_lt (small1000 (show 5 ≤ 1000 by decide))), rfl, q _ I4.fresh⟩
/-! ### int(text), list(text), sorted(text) -/
theorem call_int_str : CallR X (.type "int") (fun xs H Q => ∃ x n, xs = [.str x] ∧ PySem.intText? x = some n ∧ x.length ≤ 640 ∧ Q (.int n) H) := by
  intro pins s σ H xs us Q I r h
  obtain ⟨x, n, rfl, hn, hl, q⟩ := h
  obtain ⟨u, rfl, t, rfl⟩ := vals1 r
  exact PySem.W.KIN.call_text hn hl ⟨.int n, H, I.tok _, ⟨_, rfl⟩, q⟩
def chars (t : Str) : List Str := t.cps.toList.map fun c => ⟨#[c]⟩
theorem chars_len (t : Str) : (chars t).length = t.length := by unfold chars; rw [List.length_map]; rfl
theorem vals_chars {t : Str} {acc : Array Value} (h : ItemsOf (SignAt t) acc t.cps.size) : Vals (vS (chars t)) acc.toList := by
  obtain ⟨hs, hi⟩ := h
  have key : ∀ (cs : List Nat) (us : List Value), us.length = cs.length → (∀ (j : Nat) v, us[j]? = some v → ∃ c u, cs[j]? = some c ∧ v = .str ⟨#[c]⟩ u) → Vals ((cs.map fun c => (⟨#[c]⟩ : Str)).map V.str) us := by
    intro cs
    induction cs with
    | nil =>
      intro us hl _
      have e : us = [] := List.eq_nil_of_length_eq_zero hl
      subst e
      exact .nil
    | cons c cs ih =>
      intro us hl hu
      cases us with
      | nil => cases hl
      | cons u us =>
        obtain ⟨c', t', hc, hv⟩ := hu 0 u rfl
        have e : c = c' := Option.some.inj hc
        subst e
        exact .cons ⟨_, hv⟩ (ih us (Nat.succ.inj hl) fun j v hj => hu (j + 1) v hj)
  refine key t.cps.toList acc.toList (by simpa using hs) fun j v hj => ?_
  obtain ⟨c, u, h1, h2⟩ := hi j v (by simpa using hj)
  exact ⟨c, u, by simpa using h1, h2⟩
theorem call_list_strL (hc : X.calm = true) : CallR X (.type "list") (fun xs H Q => ∃ t, xs = [.str t] ∧ t.length ≤ 1000 ∧ ∀ l, H l = none → Q (.ref l) (upd H l (.lst (vS (chars t))))) := by
  intro pins s σ H xs us Q I r h
  obtain ⟨x, rfl, hl, q⟩ := h
  obtain ⟨u, rfl, t, rfl⟩ := vals1 r
  have hz : x.length ≤ sizeLine := Nat.le_of_lt (small1000 hl)
  refine call_list_str (I.ok.hd hc) x t (fun h' tk acc' c' kp e hi => ?_) hz
  have hv := vals_chars hi
  exact ⟨.ref s.heap.objs.size, _, I.laid (t' := tk) kp (Nat.le_refl _) (show ObjOk X.prog X.w _ h' _ (.lst (vS (chars x))) from ⟨by rw [vS_len, chars_len]; exact hz, acc'.toList, c', hv, by simpa using e⟩), rfl, q _ (I.hok.fresh (Nat.le_refl _))⟩
theorem vals_strs : ∀ {us : List Value} {ss : List Str}, StrsAre us ss → Vals (vS ss) us
  | _, _, .nil => .nil
  | _, _, .cons x t h => .cons ⟨t, rfl⟩ (vals_strs h)
theorem call_sorted_str (hc : X.calm = true) : CallR X (.builtin "sorted") (fun xs H Q => ∃ t, xs = [.str t] ∧ t.length < 64 ∧ ∀ l ss, H l = none → ss.Perm (chars t) → sortedS ss = true → Q (.ref l) (upd H l (.lst (vS ss)))) := by
  intro pins s σ H xs us Q I r h
  obtain ⟨x, rfl, hl, q⟩ := h
  obtain ⟨u, rfl, t, rfl⟩ := vals1 r
  have hz : x.length ≤ sizeLine := Nat.le_of_lt (small1000 (by omega))
  refine Calls.call_function_entry kind_sorted plain_sorted entry_sorted (args_sorted1 _) ?_
  unfold Builtin.«sorted»
  refine wpAny_bind (m := checkCount "sorted" 1 1 _) (wpAny_pure ?_)
  refine wpAny_bind (wpAny_collect_str (A := X.A.in1) (show X.A.in1.handled = none from I.ok.hd hc) x t (fun s1 acc kp hg hd ho hi => ?_) hz)
  have hv := vals_chars hi
  have hS : StrsAre acc.toList (chars x) := strsAre_of hv
  have hlen : acc.toList.length < 64 := by rw [← hv.length, vS_len, chars_len]; exact hl
  obtain ⟨hp1, g1, d1, t1, o1⟩ := s1
  simp only at hg hd ho kp
  subst hg hd ho
  have I1 : Inv X pins σ H { s with heap := hp1, toks := t1 } := I.kept (t' := t1) kp
  refine wpAny_bind (wpAny_newList ?_)
  have hoL : (hp1.push (seqObj "list" acc.toList.toArray 0)).get? hp1.objs.size = some (seqObj "list" acc.toList.toArray 0) := Heap.get?_push_size _ rfl
  refine wpAny_bind (wpAny_holding (wpAny_call_entry slot_list_sort ⟨_, hoL, rfl⟩ entry_list_sort (list_sort_treeK (κ := strKind) strKind_oneLt hoL hS.keysOf (fun v₁ v₂ rest e => keyKind_strs (by rw [← e]; exact hS)) hlen fun st' hp hs => ⟨_, rfl, wpAny_pure ⟨_, rfl, ?_⟩⟩) (args_list_sort _)))
  obtain ⟨ss', h1, h2, h3⟩ := sorted_out_str hS hp hs
  obtain ⟨ep, he⟩ := sortedHeap_at (out := (arrOf st').map (·.2)) hoL
  have hl2 : ss'.length = x.length := by rw [h2.length_eq, chars_len]
  refine ⟨.ref hp1.objs.size, _, I1.laid (t' := t1) (a := hp1.objs.size) (o := .lst (vS ss')) (h' := sortedHeap (hp1.push (seqObj "list" acc.toList.toArray 0)) hp1.objs.size acc.toList ((arrOf st').map (·.2))) (fun b u e => ?_) (Nat.le_refl _) ?_, rfl, q _ ss' (I1.hok.fresh (Nat.le_refl _)) h2 h3⟩
  · have hb := Heap.lt_size e
    rw [sortedHeap_old (Nat.ne_of_lt hb) (by rw [size_push']; exact Nat.lt_succ_of_lt hb)]
    exact Heap.get?_push_of_some _ e
  · refine ⟨by rw [vS_len, hl2]; exact hz, ((arrOf st').map (·.2)).toList, ep, vals_strs h1, ?_⟩
    rw [Array.toArray_toList]
    exact he
end
/-! ### text.find(..) within a comprehension's block -/
def rFind : V → List V → Hp → VK → Prop := fun x xs H Q => ∃ i j, x = .str i ∧ xs = [.str j] ∧ Q (.int (Txt.find i j)) H
theorem pe_findK {X : Cx} {K : PySem.W.Frag} {o e : Expr} {to : TE} {t : TA} {apos cpos : Pos} (hK : X.K = K) (ho : PE X o to) (ha : PA X [e] t)
    (hbase : attributeBase o "find" X.env (eval o X.env) = eval o X.env := by rfl)
    (hfew : ((backTo cpos (starEach [e] X.env)).all (fun x => !x.1) && (backToKw cpos (keywordEach [] X.env)).all (fun x => x.1.isSome) && decide ([e].length + ([] : List Keyword).length + (if ([] : List Keyword).isEmpty then 0 else 1) < 30)) = true := by rfl)
    (hline : (apos.endLine == cpos.line) = true := by rfl) (hs : starEach [e] X.env = [(false, eval e X.env)] := by rfl) : PE X (.Call (.Attribute o "find" apos) [e] [] cpos) (tBM K "str" rFind to t) := by
  subst hK
  exact pe_bm PySem.F.plainAttrs_str PySem.F.slot_str_find PySem.F.type_str_find mt_find ho ha hbase hfew hline hs rfl
/-! ### a def with a default -/
structure FunD (K : PySem.W.Frag) (x qual : Str) (st : Stmt) (f : Addr) (fd : FuncData) : Prop where
  ex : ∃ (oc : Value) (od : Option Addr) (dV kV doc pm : Value) (an : Option Addr) (cdv ct : Value) (osl : Array (Option Value)),
    fd = PySem.W.fnOf x qual (defArgs st) (defBody st) (defScope st) dV kV doc pm an cdv ct ∧ K.lookup f = some ⟨oc, od, .func fd, osl⟩ ∧ PySem.W.codeIn K cdv qual = true
  kp : PySem.W.keepIn K (.ref f) = true
end L2

namespace My
open PySem L2 PySem.Spec PyProof.Rows
def joinL : List (List Nat) → List Nat
  | [] => []
  | [x] => x
  | x :: y :: r => x ++ 32 :: joinL (y :: r)
theorem cut_eq : ∀ (x y a b : List Nat), 32 ∉ x → 32 ∉ y → x ++ 32 :: a = y ++ 32 :: b → x = y ∧ a = b
  | [], [], a, b, _, _, h => by
    injection h with _ h
    exact ⟨rfl, h⟩
  | [], c :: y, a, b, _, hy, h => by
    injection h with h _
    exact absurd (h ▸ List.mem_cons_self) hy
  | c :: x, [], a, b, hx, _, h => by
    injection h with h _
    exact absurd (h ▸ List.mem_cons_self) hx
  | c :: x, d :: y, a, b, hx, hy, h => by
    injection h with h1 h2
    obtain ⟨e1, e2⟩ := cut_eq x y a b (fun z => hx (List.mem_cons_of_mem _ z)) (fun z => hy (List.mem_cons_of_mem _ z)) h2
    exact ⟨by rw [h1, e1], e2⟩
theorem joinL_inj : ∀ xs ys : List (List Nat), xs ≠ [] → ys ≠ [] → (∀ x ∈ xs, 32 ∉ x) → (∀ y ∈ ys, 32 ∉ y) → joinL xs = joinL ys → xs = ys
  | [], _, h, _, _, _, _ => absurd rfl h
  | _, [], _, h, _, _, _ => absurd rfl h
  | [x], [y], _, _, _, _, h => by
    have e : x = y := h
    rw [e]
  | [x], y :: y2 :: r, _, _, hx, _, h => by
    have e : x = y ++ 32 :: joinL (y2 :: r) := h
    refine absurd ?_ (hx x List.mem_cons_self)
    rw [e]
    exact List.mem_append_right _ List.mem_cons_self
  | x :: x2 :: r, [y], _, _, _, hy, h => by
    have e : x ++ 32 :: joinL (x2 :: r) = y := h
    refine absurd ?_ (hy y List.mem_cons_self)
    rw [← e]
    exact List.mem_append_right _ List.mem_cons_self
  | x :: x2 :: r, y :: y2 :: r2, _, _, hx, hy, h => by
    obtain ⟨e1, e2⟩ := cut_eq x y _ _ (hx x List.mem_cons_self) (hy y List.mem_cons_self) h
    have e3 := joinL_inj (x2 :: r) (y2 :: r2) (List.cons_ne_nil _ _) (List.cons_ne_nil _ _) (fun z hz => hx z (List.mem_cons_of_mem _ hz)) (fun z hz => hy z (List.mem_cons_of_mem _ hz)) e2
    rw [e1, e3]
/-! ### texts -/
abbrev blank : Str := " "
abbrev ofL (l : List Nat) : Str := ⟨l.toArray⟩
theorem blank_cps : blank = ⟨#[32]⟩ := by decide +kernel
theorem join_toList : ∀ ws : List Str, (Txt.join blank ws).cps.toList = joinL (ws.map fun w => w.cps.toList) := by
  intro ws
  unfold Txt.join
  rw [StrLaws.glued_eq_join]
  induction ws with
  | nil => rfl
  | cons x r ih =>
    cases r with
    | nil => rfl
    | cons y r =>
      show (x ++ blank ++ Str.join blank (y :: r)).cps.toList = x.cps.toList ++ 32 :: joinL ((y :: r).map fun w => w.cps.toList)
      rw [← ih, blank_cps]
      show ((x.cps ++ #[32]) ++ (Str.join ⟨#[32]⟩ (y :: r)).cps).toList = _
      rw [Array.toList_append, Array.toList_append, List.append_assoc]
      rfl
theorem str_ext {a b : Str} (h : a.cps.toList = b.cps.toList) : a = b := by
  obtain ⟨⟨a⟩⟩ := a
  obtain ⟨⟨b⟩⟩ := b
  cases h
  rfl
theorem split_ne (x : Str) : Txt.split x blank ≠ [] := by
  unfold Txt.split
  split
  · exact List.cons_ne_nil _ _
  · split
    · exact List.cons_ne_nil _ _
    · intro z
      have l := PyProof.Rows.len_partsBetween x (Builtin.Str.occurrences x blank 0 x.length (x.length + 1)) blank.length
      rw [z] at l
      cases l
theorem split_join (ws : List Str) (h : ws ≠ []) (hf : ∀ w ∈ ws, 32 ∉ w.cps.toList) : Txt.split (Txt.join blank ws) blank = ws := by
  have e1 : Txt.join blank (Txt.split (Txt.join blank ws) blank) = Txt.join blank ws := by
    have z := StrLaws.join_split (Txt.join blank ws) blank
    rw [← StrLaws.glued_eq_join] at z
    exact z
  have e2 := congrArg (fun s : Str => s.cps.toList) e1
  rw [join_toList, join_toList] at e2
  have e3 := joinL_inj _ _ (fun z => split_ne _ (List.map_eq_nil_iff.mp z)) (fun z => h (List.map_eq_nil_iff.mp z)) (fun x hx => ?_) (fun y hy => ?_) e2
  · have inj : ∀ a b : List Str, (a.map fun w => w.cps.toList) = (b.map fun w => w.cps.toList) → a = b := by
      intro a
      induction a with
      | nil => intro b hb; cases b with
        | nil => rfl
        | cons y r => cases hb
      | cons x r ih => intro b hb; cases b with
        | nil => cases hb
        | cons y r2 =>
          injection hb with h1 h2
          rw [str_ext h1, ih r2 h2]
    exact inj _ _ e3
  · obtain ⟨w, hw, rfl⟩ := List.mem_map.mp hx
    rw [blank_cps] at hw
    exact StrLaws.split_free _ 32 w hw
  · obtain ⟨w, hw, rfl⟩ := List.mem_map.mp hy
    exact hf w hw
/-! ### a hand's text -/
theorem join_len (sep : Str) (ws : List Str) : (Txt.join sep ws).length ≤ (ws.map (·.length)).sum + ws.length * sep.length := by
  unfold Txt.join
  rw [StrLaws.glued_eq_join]
  exact StrLaws.join_length_le sep ws
theorem blank_len : blank.length = 1 := by decide +kernel
def vN (ys : List Nat) : List V := ys.map fun c => V.int (c : Nat)
theorem vN_len (ys : List Nat) : (vN ys).length = ys.length := List.length_map _
theorem inV_str {t : Str} : ∀ {ys : List Str}, inV (.str t) (vS ys) = decide (t ∈ ys)
  | [] => by
    rw [decide_eq_false (List.not_mem_nil)]
    rfl
  | y :: ys => by
    have e : inV (.str t) (vS (y :: ys)) = ((y == t) || inV (.str t) (vS ys)) := rfl
    rw [e, inV_str (ys := ys)]
    by_cases c : t = y
    · subst c
      simp
    · have c2 : ¬ y = t := fun z => c z.symm
      have b : (y == t) = false := beq_eq_false_iff_ne.mpr c2
      rw [b, Bool.false_or]
      by_cases d : t ∈ ys
      · rw [decide_eq_true d, decide_eq_true (List.mem_cons_of_mem _ d)]
      · rw [decide_eq_false d, decide_eq_false fun z => by
          rcases List.mem_cons.mp z with z | z
          · exact c z
          · exact d z]
theorem vS_flat : ∀ (ys : List Str), (vS ys).all flatV = true
  | [] => rfl
  | _ :: ys => by
    show (true && (vS ys).all flatV) = true
    rw [vS_flat ys]
    rfl
/-! ### orders -/
def sgn (i : Nat) : Str := ⟨#[49 + i]⟩
def figS (l : List Nat) : Str := ⟨(l.map (49 + ·)).toArray⟩
theorem figS_len (l : List Nat) : (figS l).length = l.length := by
  show ((l.map (49 + ·)).toArray).size = _
  rw [List.size_toArray, List.length_map]
theorem chars_fig (l : List Nat) : chars (figS l) = l.map sgn := by
  unfold chars figS
  rw [show (⟨(l.map (49 + ·)).toArray⟩ : Str).cps.toList = l.map (49 + ·) from rfl, List.map_map]
  rfl
theorem perm_sorted : ∀ {xs ys : List Nat}, xs.Perm ys → xs.Pairwise (· ≤ ·) → ys.Pairwise (· ≤ ·) → xs = ys
  | [], ys, p, _, _ => p.nil_eq
  | x :: xs, [], p, _, _ => by have := p.length_eq; cases this
  | x :: xs, y :: ys, p, hx, hy => by
    obtain ⟨hx1, hx2⟩ := List.pairwise_cons.mp hx
    obtain ⟨hy1, hy2⟩ := List.pairwise_cons.mp hy
    have e : x = y := by
      have a : x ∈ y :: ys := p.subset (List.mem_cons_self ..)
      have b : y ∈ x :: xs := p.symm.subset (List.mem_cons_self ..)
      rcases List.mem_cons.mp a with a | a
      · exact a
      · rcases List.mem_cons.mp b with b | b
        · exact b.symm
        · have := hx1 y b
          have := hy1 x a
          omega
    subst e
    rw [perm_sorted p.cons_inv hx2 hy2]
theorem sgn_le {a b : Nat} (h : ltCps (sgn b).cps.toList (sgn a).cps.toList = false) : a ≤ b := by
  rw [PyProof.Rows.ltCps_eq] at h
  have h2 : ¬ ([49 + b] : List Nat) < [49 + a] := of_decide_eq_false h
  rcases Nat.lt_or_ge b a with z | z
  · exact absurd (List.cons_lt_cons_iff.mpr (.inl (by omega))) h2
  · exact z
theorem rising_le : ∀ {a : Nat} {l : List Nat}, risingS (sgn a) (l.map sgn) = true → (a :: l).Pairwise (· ≤ ·)
  | a, [], _ => List.pairwise_singleton ..
  | a, b :: l, h => by
    have h' : (!ltCps (sgn b).cps.toList (sgn a).cps.toList && risingS (sgn b) (l.map sgn)) = true := h
    rw [Bool.and_eq_true] at h'
    have ab : a ≤ b := sgn_le (by simpa using h'.1)
    have r := rising_le (a := b) (l := l) h'.2
    refine List.pairwise_cons.mpr ⟨fun c hc => ?_, r⟩
    rcases List.mem_cons.mp hc with e | hc
    · omega
    · have := (List.pairwise_cons.mp r).1 c hc
      omega
theorem sorted_le : ∀ {l : List Nat}, sortedS (l.map sgn) = true → l.Pairwise (· ≤ ·)
  | [], _ => .nil
  | a :: l, h => rising_le (show risingS (sgn a) (l.map sgn) = true from h)
theorem of_perm_map : ∀ {ss : List Str} {l : List Nat}, ss.Perm (l.map sgn) → ∃ ks : List Nat, ss = ks.map sgn ∧ ks.Perm l := by
  intro ss l p
  have inj : ∀ a b, sgn a = sgn b → a = b := fun a b e => by
    unfold sgn at e
    injection e with e
    have e1 : [49 + a] = [49 + b] := congrArg Array.toList e
    injection e1 with e1
    omega
  refine ⟨ss.map (fun s => s.cps.toList.headD 0 - 49), ?_, ?_⟩
  · rw [List.map_map]
    have : ∀ s ∈ ss, (sgn ∘ fun s : Str => s.cps.toList.headD 0 - 49) s = s := fun s hs => by
      obtain ⟨i, _, rfl⟩ := List.mem_map.mp (p.subset hs)
      show sgn ((49 + i) - 49) = sgn i
      congr 1
      omega
    exact ((List.map_congr_left this).trans (List.map_id' ss)).symm
  · have q := p.map (fun s : Str => s.cps.toList.headD 0 - 49)
    rw [List.map_map] at q
    have : l.map ((fun s : Str => s.cps.toList.headD 0 - 49) ∘ sgn) = l := by
      have : ∀ i ∈ l, ((fun s : Str => s.cps.toList.headD 0 - 49) ∘ sgn) i = i := fun i _ => by
        show (49 + i) - 49 = i
        omega
      exact (List.map_congr_left this).trans (List.map_id' _)
    rw [this] at q
    exact q
theorem range_sorted (h : Nat) : (List.range h).Pairwise (· ≤ ·) := (List.pairwise_lt_range).imp fun h => Nat.le_of_lt h
theorem order_sorted {ss : List Str} {l : List Nat} {h : Nat} (hl : l.Perm (List.range h)) (p : ss.Perm (chars (figS l))) (s : sortedS ss = true) : ss = (List.range h).map sgn := by
  rw [chars_fig] at p
  obtain ⟨ks, rfl, pk⟩ := of_perm_map p
  rw [perm_sorted (pk.trans hl) (sorted_le s) (range_sorted h)]
theorem fig_slice : ∀ h ≤ 8, chars (Txt.slice sFig none (some ((h : Nat) : Int))) = (List.range h).map sgn := by decide +kernel
theorem find_sgn : ∀ i < 8, Txt.find sFig (sgn i) = ((i : Nat) : Int) := by decide +kernel
theorem perm_erase {α : Type} : ∀ (l : List α) (i : Nat) (x : α), l[i]? = some x → l.Perm (x :: l.eraseIdx i)
  | [], i, x, h => by simp at h
  | y :: l, 0, x, h => by
    have e : y = x := Option.some.inj h
    subst e
    exact List.Perm.refl _
  | y :: l, i + 1, x, h => by
    have r := perm_erase l i x h
    exact (r.cons y).trans (List.Perm.swap ..)
/-! ### a table's facts and text -/
structure Fx where
  s : Nat
  h : Nat
  n : Nat
  d : _root_.Fin 4
  pl : List Nat
  tr : List Nat
structure Fx.Ok (f : Fx) : Prop where
  s1 : 1 ≤ f.s
  s4 : f.s ≤ 4
  h1 : 1 ≤ f.h
  h8 : f.h ≤ 8
  n34 : f.n = 3 ∨ f.n = 4
  pp : f.pl.Perm (List.range f.h)
  pt : f.tr.Perm (List.range f.h)
def sizeT (f : Fx) : Str := ⟨#[48 + f.s, 120, 48 + f.h]⟩
def seatT (f : Fx) : Str := ⟨#[48 + f.n]⟩
def tabW (f : Fx) : List Str := ["pack", sizeT f, "seats", seatT f, "duty", wd f.d, "plain", figS f.pl, "trump", figS f.tr]
def tabT (f : Fx) : Str := Txt.join blank (tabW f)
theorem perm_lt {l : List Nat} {h : Nat} (p : l.Perm (List.range h)) : ∀ i ∈ l, i < h := fun i hi => List.mem_range.mp (p.subset hi)
theorem perm_len {l : List Nat} {h : Nat} (p : l.Perm (List.range h)) : l.length = h := by rw [p.length_eq, List.length_range]
theorem fig_free (l : List Nat) : 32 ∉ (figS l).cps.toList := by
  rw [show (figS l).cps.toList = l.map (49 + ·) from rfl]
  intro z
  obtain ⟨i, _, e⟩ := List.mem_map.mp z
  omega
theorem wd_free : ∀ i : _root_.Fin 4, 32 ∉ (wd i).cps.toList := by decide +kernel
theorem tab_split (f : Fx) : Txt.split (tabT f) blank = tabW f := by
  refine split_join (tabW f) (by unfold tabW; exact List.cons_ne_nil _ _) ?_
  refine all_cons (by decide +kernel) (all_cons ?_ (all_cons (by decide +kernel) (all_cons ?_ (all_cons (by decide +kernel) (all_cons (wd_free _) (all_cons (by decide +kernel) (all_cons (fig_free _) (all_cons (by decide +kernel) (all_cons (fig_free _) all_nil)))))))))
  · show 32 ∉ [48 + f.s, 120, 48 + f.h]
    simp
    omega
  · show 32 ∉ [48 + f.n]
    simp
    omega
theorem tab_len {f : Fx} (ok : f.Ok) : (tabT f).length ≤ 99 := by
  have j := join_len blank (tabW f)
  have e : ((tabW f).map (·.length)).sum ≤ 4 + (3 + (5 + (1 + (4 + (6 + (5 + (8 + (5 + (8 + 0))))))))) := by
    have a := (wd_len f.d).2
    have b : (figS f.pl).length ≤ 8 := by rw [figS_len, perm_len ok.pp]; exact ok.h8
    have c : (figS f.tr).length ≤ 8 := by rw [figS_len, perm_len ok.pt]; exact ok.h8
    show 4 + (3 + (5 + (1 + (4 + ((wd f.d).length + (5 + ((figS f.pl).length + (5 + ((figS f.tr).length + 0))))))))) ≤ _
    omega
  have e2 : (tabW f).length = 10 := rfl
  rw [e2, blank_len] at j
  have : (tabT f).length = (Txt.join blank (tabW f)).length := rfl
  omega
theorem str_num : ∀ i ≤ 8, (toString ((i : Nat) : Int) : Str) = ⟨#[48 + i]⟩ := by decide +kernel
theorem joinE_toList : ∀ ws : List Str, (Txt.join "" ws).cps.toList = (ws.map fun w => w.cps.toList).flatten := by
  intro ws
  unfold Txt.join
  rw [StrLaws.glued_eq_join]
  induction ws with
  | nil => rfl
  | cons x r ih =>
    cases r with
    | nil =>
      show x.cps.toList = x.cps.toList ++ []
      rw [List.append_nil]
    | cons y r =>
      show (x ++ "" ++ Str.join "" (y :: r)).cps.toList = x.cps.toList ++ ((y :: r).map fun w => w.cps.toList).flatten
      rw [← ih]
      show ((x.cps ++ ("" : Str).cps) ++ (Str.join "" (y :: r)).cps).toList = _
      rw [Array.toList_append, Array.toList_append]
      have e : ("" : Str).cps.toList = [] := by decide +kernel
      rw [e, List.append_nil]
theorem join_sgn (l : List Nat) : Txt.join "" (l.map sgn) = figS l := by
  refine str_ext ?_
  rw [joinE_toList, List.map_map]
  show ((l.map fun i => [49 + i]).flatten) = l.map (49 + ·)
  induction l with
  | nil => rfl
  | cons i l ih => rw [List.map_cons, List.flatten_cons, ih]; rfl
def sgV (x : V) : V := match x with | .int i => .str ⟨#[48 + (i + 1).toNat]⟩ | _ => .non
theorem sgV_int (i : Nat) : sgV (.int (i : Nat)) = .str ⟨#[48 + (i + 1)]⟩ := by
  show V.str ⟨#[48 + (((i : Nat) : Int) + 1).toNat]⟩ = _
  have e : (((i : Nat) : Int) + 1).toNat = i + 1 := by omega
  rw [e]
theorem sgV_list (l : List Nat) : ((vN l).filter fun _ => true).map sgV = vS (l.map sgn) := by
  rw [List.filter_eq_self.mpr (fun _ _ => rfl)]
  unfold vN vS
  rw [List.map_map, List.map_map]
  refine List.map_congr_left fun i _ => ?_
  show sgV (.int (i : Nat)) = .str (sgn i)
  rw [sgV_int]
  unfold sgn
  rw [show 48 + (i + 1) = 49 + i by omega]
theorem sgn_sum {l : List Nat} {h : Nat} (p : l.Perm (List.range h)) (h8 : h ≤ 8) : ((l.map sgn).map (·.length)).sum + (l.map sgn).length * ("" : Str).length ≤ 16777216 := by
  have e : ∀ l : List Nat, ((l.map sgn).map (·.length)).sum = l.length := fun l => by
    induction l with
    | nil => rfl
    | cons i l ih =>
      show 1 + ((l.map sgn).map (·.length)).sum = _
      rw [ih, List.length_cons]
      omega
  have z : ("" : Str).length = 0 := by decide +kernel
  rw [e, z, perm_len p]
  omega
theorem text_eq (f : Fx) : (("pack " : Str) ++ ⟨#[48 + f.s]⟩ ++ "x" ++ ⟨#[48 + f.h]⟩ ++ " seats " ++ ⟨#[48 + f.n]⟩ ++ " duty " ++ wd f.d ++ " plain " ++ figS f.pl ++ " trump " ++ figS f.tr) = tabT f := by
  refine str_ext ?_
  unfold tabT
  rw [join_toList]
  have ap : ∀ a b : Str, (a ++ b).cps.toList = a.cps.toList ++ b.cps.toList := fun a b => by
    show (a.cps ++ b.cps).toList = _
    rw [Array.toList_append]
  rw [ap, ap, ap, ap, ap, ap, ap, ap, ap, ap, ap]
  show _ = ("pack" : Str).cps.toList ++ 32 :: ([48 + f.s, 120, 48 + f.h] ++ 32 :: (("seats" : Str).cps.toList ++ 32 :: ([48 + f.n] ++ 32 :: (("duty" : Str).cps.toList ++ 32 :: ((wd f.d).cps.toList ++ 32 :: (("plain" : Str).cps.toList ++ 32 :: ((figS f.pl).cps.toList ++ 32 :: (("trump" : Str).cps.toList ++ 32 :: (figS f.tr).cps.toList))))))))
  have e1 : ("pack " : Str).cps.toList = ("pack" : Str).cps.toList ++ [32] := by decide +kernel
  have e2 : ("x" : Str).cps.toList = [120] := by decide +kernel
  have e3 : (" seats " : Str).cps.toList = 32 :: (("seats" : Str).cps.toList ++ [32]) := by decide +kernel
  have e4 : (" duty " : Str).cps.toList = 32 :: (("duty" : Str).cps.toList ++ [32]) := by decide +kernel
  have e5 : (" plain " : Str).cps.toList = 32 :: (("plain" : Str).cps.toList ++ [32]) := by decide +kernel
  have e6 : (" trump " : Str).cps.toList = 32 :: (("trump" : Str).cps.toList ++ [32]) := by decide +kernel
  rw [e1, e2, e3, e4, e5, e6]
  simp [List.append_assoc]
end My

namespace My
open PySem L2
/-! ### tables and games as objects -/
def Keep (x : Addr) (H H' : Hp) : Prop := ∀ b o, b ≠ x → H b = some o → H' b = some o
theorem Keep.trans {x : Addr} {H H1 H2 : Hp} (a : Keep x H H1) (b : Keep x H1 H2) : Keep x H H2 := fun c o n h => b c o n (a c o n h)
theorem Keep.of {x : Addr} {H H' : Hp} (s : Same H H') : Keep x H H' := fun b o _ h => s b o h
theorem Keep.upd {x : Addr} {H : Hp} {o : HO} : Keep x H (upd H x o) := fun b u n h => by rw [upd_ne n]; exact h
def tF1 (f : Fx) (po to : Addr) : List (Str × V) := putF "suits" (.int (f.s : Nat)) []
def tF2 (f : Fx) (po to : Addr) : List (Str × V) := putF "heights" (.int (f.h : Nat)) (tF1 f po to)
def tF3 (f : Fx) (po to : Addr) : List (Str × V) := putF "seats" (.int (f.n : Nat)) (tF2 f po to)
def tF4 (f : Fx) (po to : Addr) : List (Str × V) := putF "duty_word" (.str (wd f.d)) (tF3 f po to)
def tF5 (f : Fx) (po to : Addr) : List (Str × V) := putF "plain_order" (.ref po) (tF4 f po to)
def tF6 (f : Fx) (po to : Addr) : List (Str × V) := putF "trump_order" (.ref to) (tF5 f po to)
def tF7 (f : Fx) (po to : Addr) : List (Str × V) := putF "written" (.str (tabT f)) (tF6 f po to)
abbrev tabF := tF7
theorem tF1_len (f : Fx) (po to : Addr) : (tF1 f po to).length ≤ 1 := length_putF _ _ _
theorem tF2_len (f : Fx) (po to : Addr) : (tF2 f po to).length ≤ 2 := Nat.le_trans (length_putF _ _ _) (Nat.succ_le_succ (tF1_len f po to))
theorem tF3_len (f : Fx) (po to : Addr) : (tF3 f po to).length ≤ 3 := Nat.le_trans (length_putF _ _ _) (Nat.succ_le_succ (tF2_len f po to))
theorem tF4_len (f : Fx) (po to : Addr) : (tF4 f po to).length ≤ 4 := Nat.le_trans (length_putF _ _ _) (Nat.succ_le_succ (tF3_len f po to))
theorem tF5_len (f : Fx) (po to : Addr) : (tF5 f po to).length ≤ 5 := Nat.le_trans (length_putF _ _ _) (Nat.succ_le_succ (tF4_len f po to))
theorem tF6_len (f : Fx) (po to : Addr) : (tF6 f po to).length ≤ 6 := Nat.le_trans (length_putF _ _ _) (Nat.succ_le_succ (tF5_len f po to))
theorem look7_written (f : Fx) (po to : Addr) : (tF7 f po to).lookup ("written" : Str) = some (V.str (tabT f)) := by
  unfold tF7
  rw [lookup_putF]
  rw [if_pos rfl]
theorem look4_heights (f : Fx) (po to : Addr) : (tF4 f po to).lookup ("heights" : Str) = some (V.int (f.h : Nat)) := by
  unfold tF4
  rw [lookup_putF]
  rw [if_neg (by decide +kernel)]
  unfold tF3
  rw [lookup_putF]
  rw [if_neg (by decide +kernel)]
  unfold tF2
  rw [lookup_putF]
  rw [if_pos rfl]
theorem look5_heights (f : Fx) (po to : Addr) : (tF5 f po to).lookup ("heights" : Str) = some (V.int (f.h : Nat)) := by
  unfold tF5
  rw [lookup_putF]
  rw [if_neg (by decide +kernel)]
  unfold tF4
  rw [lookup_putF]
  rw [if_neg (by decide +kernel)]
  unfold tF3
  rw [lookup_putF]
  rw [if_neg (by decide +kernel)]
  unfold tF2
  rw [lookup_putF]
  rw [if_pos rfl]
theorem look7_text (f : Fx) (po to : Addr) : (tF7 f po to).lookup ("text" : Str) = none := by
  unfold tF7
  rw [lookup_putF]
  rw [if_neg (by decide +kernel)]
  unfold tF6
  rw [lookup_putF]
  rw [if_neg (by decide +kernel)]
  unfold tF5
  rw [lookup_putF]
  rw [if_neg (by decide +kernel)]
  unfold tF4
  rw [lookup_putF]
  rw [if_neg (by decide +kernel)]
  unfold tF3
  rw [lookup_putF]
  rw [if_neg (by decide +kernel)]
  unfold tF2
  rw [lookup_putF]
  rw [if_neg (by decide +kernel)]
  unfold tF1
  rw [lookup_putF]
  rw [if_neg (by decide +kernel)]
  rfl
structure TabC (K : PySem.W.Frag) (mg : Str → Option Value) (CT : Addr) : Prop where
  cl : Cls K CT
  mT : mg "Table" = some (.ref CT)
  nS : NoAttr K CT "suits"
  nH : NoAttr K CT "heights"
  nN : NoAttr K CT "seats"
  nD : NoAttr K CT "duty_word"
  nP : NoAttr K CT "plain_order"
  nT : NoAttr K CT "trump_order"
  nW : NoAttr K CT "written"
/-- a table of these facts stands at x -/
def IsTab (CT : Addr) (f : Fx) (H : Hp) (x : Addr) : Prop := ∃ dx po to, H x = some (.ins CT dx (tabF f po to)) ∧ H po = some (.tup (vN f.pl)) ∧ H to = some (.tup (vN f.tr))
def gamF (x : Addr) (tv : V) : List (Str × V) := putF "trump" tv (putF "table" (.ref x) [])
structure GamC (K : PySem.W.Frag) (mg : Str → Option Value) (CG : Addr) : Prop where
  cl : Cls K CG
  mG : mg "Game" = some (.ref CG)
  nT : NoAttr K CG "table"
  nU : NoAttr K CG "trump"
/-- a game of the table at x with the trump tv stands at g -/
def IsGam (CG x : Addr) (tv : V) (H : Hp) (g : Addr) : Prop := ∃ dg, H g = some (.ins CG dg (gamF x tv))
end My

namespace My
open PySem L2 PySem.Spec PyProof.Rows
/-! ### texts that tell no table -/
theorem eqVs_dec : ∀ xs ys : List Str, eqVs (vS xs) (vS ys) = decide (xs = ys)
  | [], [] => by rw [decide_eq_true rfl]; rfl
  | [], y :: ys => by rw [decide_eq_false (fun z => nomatch z)]; rfl
  | x :: xs, [] => by rw [decide_eq_false (fun z => nomatch z)]; rfl
  | x :: xs, y :: ys => by
    show ((x == y) && eqVs (vS xs) (vS ys)) = _
    rw [eqVs_dec xs ys]
    by_cases h : x = y
    · subst h
      rw [beq_self_eq_true, Bool.true_and]
      by_cases e : xs = ys
      · subst e
        rw [decide_eq_true rfl, decide_eq_true rfl]
      · rw [decide_eq_false e, decide_eq_false (fun z => e (List.cons.inj z).2)]
    · rw [beq_eq_false_iff_ne.mpr h, Bool.false_and, decide_eq_false (fun z => h (List.cons.inj z).1)]
theorem joinL_len : ∀ ws : List (List Nat), ws ≠ [] → (joinL ws).length + 1 = (ws.map List.length).sum + ws.length
  | [], h => absurd rfl h
  | [x], _ => by simp [joinL]
  | x :: y :: r, _ => by
    have ih := joinL_len (y :: r) (List.cons_ne_nil _ _)
    show (x ++ 32 :: joinL (y :: r)).length + 1 = (x.length + ((y :: r).map List.length).sum) + ((y :: r).length + 1)
    rw [List.length_append, List.length_cons]
    omega
theorem joinL_cnt : ∀ ws : List (List Nat), ws ≠ [] → (joinL ws).count 32 + 1 = (ws.map (List.count 32)).sum + ws.length
  | [], h => absurd rfl h
  | [x], _ => by simp [joinL]
  | x :: y :: r, _ => by
    have ih := joinL_cnt (y :: r) (List.cons_ne_nil _ _)
    show (x ++ 32 :: joinL (y :: r)).count 32 + 1 = (x.count 32 + ((y :: r).map (List.count 32)).sum) + ((y :: r).length + 1)
    rw [List.count_append, List.count_cons_self]
    omega
theorem joinL_mem {c : Nat} : ∀ ws : List (List Nat), c ∈ joinL ws → c = 32 ∨ ∃ w ∈ ws, c ∈ w
  | [], h => nomatch h
  | [x], h => .inr ⟨x, List.mem_cons_self, h⟩
  | x :: y :: r, h => by
    have h' : c ∈ x ++ 32 :: joinL (y :: r) := h
    rcases List.mem_append.mp h' with h' | h'
    · exact .inr ⟨x, List.mem_cons_self, h'⟩
    · rcases List.mem_cons.mp h' with h' | h'
      · exact .inl h'
      · rcases joinL_mem (y :: r) h' with e | ⟨w, hw, hc⟩
        · exact .inl e
        · exact .inr ⟨w, List.mem_cons_of_mem _ hw, hc⟩
theorem join_back (t : Str) : Txt.join blank (Txt.split t blank) = t := by
  have z := StrLaws.join_split t blank
  rw [← StrLaws.glued_eq_join] at z
  exact z
theorem tabW_free (f : Fx) : ∀ w ∈ tabW f, 32 ∉ w.cps.toList := by
  refine all_cons (by decide +kernel) (all_cons ?_ (all_cons (by decide +kernel) (all_cons ?_ (all_cons (by decide +kernel) (all_cons (wd_free _) (all_cons (by decide +kernel) (all_cons (fig_free _) (all_cons (by decide +kernel) (all_cons (fig_free _) all_nil)))))))))
  · show 32 ∉ [48 + f.s, 120, 48 + f.h]
    simp
    omega
  · show 32 ∉ [48 + f.n]
    simp
    omega
theorem sum_zero : ∀ ws : List Str, (∀ w ∈ ws, 32 ∉ w.cps.toList) → ((ws.map fun w => w.cps.toList).map (List.count 32)).sum = 0
  | [], _ => rfl
  | w :: ws, h => by
    show w.cps.toList.count 32 + ((ws.map fun w => w.cps.toList).map (List.count 32)).sum = 0
    rw [sum_zero ws (fun v hv => h v (List.mem_cons_of_mem _ hv)), List.count_eq_zero.mpr (h w List.mem_cons_self)]
theorem le_sum : ∀ {l : List Nat} {x : Nat}, x ∈ l → x ≤ l.sum
  | y :: l, x, h => by
    show x ≤ y + l.sum
    rcases List.mem_cons.mp h with e | h
    · omega
    · have := le_sum h
      omega
theorem join_cnt {ws : List Str} (h : ws ≠ []) : (Txt.join blank ws).cps.toList.count 32 + 1 = ((ws.map fun w => w.cps.toList).map (List.count 32)).sum + ws.length := by
  rw [join_toList, joinL_cnt _ (fun z => h (List.map_eq_nil_iff.mp z)), List.length_map]
theorem join_length {ws : List Str} (h : ws ≠ []) : (Txt.join blank ws).length + 1 = (ws.map (·.length)).sum + ws.length := by
  have e : (Txt.join blank ws).length = (Txt.join blank ws).cps.toList.length := by unfold Str.length; rw [Array.length_toList]
  rw [e, join_toList, joinL_len _ (fun z => h (List.map_eq_nil_iff.mp z)), List.length_map, List.map_map]
  congr 3
def NoTab (t : Str) : Prop := ∀ f : Fx, f.Ok → t ≠ tabT f
theorem tab_cnt (f : Fx) : (tabT f).cps.toList.count 32 = 9 := by
  have e := join_cnt (ws := tabW f) (List.cons_ne_nil _ _)
  rw [sum_zero _ (tabW_free f)] at e
  have l : (tabW f).length = 10 := rfl
  have e2 : (tabT f).cps.toList.count 32 + 1 = 10 := by rw [← l]; exact e.trans (Nat.zero_add _)
  omega
theorem noTab_cnt {t : Str} (h : t.cps.toList.count 32 ≠ 9) : NoTab t := fun f _ z => h (by rw [z]; exact tab_cnt f)
theorem tab_no10 (f : Fx) : 10 ∉ (tabT f).cps.toList := fun z => by
  have z' : 10 ∈ (Txt.join blank (tabW f)).cps.toList := z
  rw [join_toList] at z'
  rcases joinL_mem _ z' with e | ⟨w, hw, hc⟩
  · cases e
  · obtain ⟨u, hu, rfl⟩ := List.mem_map.mp hw
    have fg : ∀ l, 10 ∉ (figS l).cps.toList := fun l z => by
      rw [show (figS l).cps.toList = l.map (49 + ·) from rfl] at z
      obtain ⟨i, _, e⟩ := List.mem_map.mp z
      omega
    have all : ∀ w ∈ tabW f, 10 ∉ w.cps.toList := by
      refine all_cons (by decide +kernel) (all_cons ?_ (all_cons (by decide +kernel) (all_cons ?_ (all_cons (by decide +kernel) (all_cons ?_ (all_cons (by decide +kernel) (all_cons (fg _) (all_cons (by decide +kernel) (all_cons (fg _) all_nil)))))))))
      · show 10 ∉ [48 + f.s, 120, 48 + f.h]
        simp
        omega
      · show 10 ∉ [48 + f.n]
        simp
        omega
      · have : ∀ i : _root_.Fin 4, 10 ∉ (wd i).cps.toList := by decide +kernel
        exact this f.d
    exact all u hu hc
theorem noTab_10 {t : Str} (h : 10 ∈ t.cps.toList) : NoTab t := fun f _ z => tab_no10 f (z ▸ h)
theorem noTab_many {ws : List Str} (h : ws.length = 10) (hw : ∃ w ∈ ws, w.cps.toList.count 32 ≠ 0) : NoTab (Txt.join blank ws) := by
  refine noTab_cnt fun z => ?_
  have hne : ws ≠ [] := fun z => by rw [z] at h; cases h
  have e := join_cnt hne
  obtain ⟨w, m, hc⟩ := hw
  have l : w.cps.toList.count 32 ≤ ((ws.map fun w => w.cps.toList).map (List.count 32)).sum := le_sum (List.mem_map.mpr ⟨_, List.mem_map.mpr ⟨w, m, rfl⟩, rfl⟩)
  omega
theorem noTab_long {ws : List Str} (h : 11 ≤ ws.length) : NoTab (Txt.join blank ws) := by
  refine noTab_cnt fun z => ?_
  have hne : ws ≠ [] := fun z => by rw [z] at h; simp at h
  have e := join_cnt hne
  omega
theorem noTab_short {ws : List Str} (hne : ws ≠ []) (h : ws.length ≤ 9) (hf : ∀ w ∈ ws, 32 ∉ w.cps.toList) : NoTab (Txt.join blank ws) := by
  refine noTab_cnt fun z => ?_
  have e := join_cnt hne
  rw [sum_zero _ hf] at e
  omega
theorem set_free {ws : List Str} {i : Nat} {w : Str} (hf : ∀ v ∈ ws, 32 ∉ v.cps.toList) (hw : 32 ∉ w.cps.toList) : ∀ v ∈ ws.set i w, 32 ∉ v.cps.toList := fun v hv => by
  rcases List.mem_or_eq_of_mem_set hv with h | h
  · exact hf v h
  · rw [h]; exact hw
theorem noTab_set {f0 : Fx} {i : Nat} {w : Str} (hw : 32 ∉ w.cps.toList) (i10 : i < 10) (h : ∀ f : Fx, f.Ok → (i ≠ 1 → sizeT f = sizeT f0) → (tabW f)[i]? ≠ some w) : NoTab (Txt.join blank ((tabW f0).set i w)) := fun f ok z => by
  have hl : (tabW f0).length = 10 := rfl
  have hne : (tabW f0).set i w ≠ [] := fun z => by
    have := congrArg List.length z
    rw [List.length_set, hl] at this
    cases this
  have e : Txt.split (Txt.join blank ((tabW f0).set i w)) blank = Txt.split (tabT f) blank := congrArg (fun t => Txt.split t blank) z
  rw [tab_split, split_join _ hne (set_free (tabW_free f0) hw)] at e
  refine h f ok (fun n => ?_) ?_
  · have e1 : ((tabW f0).set i w)[1]? = (tabW f)[1]? := congrArg (fun l : List Str => l[1]?) e
    rw [List.getElem?_set_ne n] at e1
    exact (Option.some.inj (e1 : some (sizeT f0) = some (sizeT f))).symm
  · rw [← e, List.getElem?_set_self (by rw [hl]; exact i10)]
def marks : List Str := ["pack", "seats", "duty", "plain", "trump"]
def mOpt (m : Str) : List Str := [m ++ "s", Txt.slice m (some 1) none, Txt.upper m, "packs", ""]
theorem opt_chk : ∀ m ∈ marks, m.length ≤ 5 ∧ ∀ w ∈ mOpt m, w ≠ m ∧ 32 ∉ w.cps.toList ∧ w.length ≤ 10 := by decide +kernel
def sizeBad : List Str := ["0x4", "5x4", "4x0", "4x9", "44x4", "4x44", "4X4", "4 x4", "x4", "4x", "4*4", "-1x4", ""]
theorem size_chk : ∀ w ∈ sizeBad, w.length ≤ 10 ∧ (w.cps.toList.count 32 ≠ 0 ∨ (32 ∉ w.cps.toList ∧ ∀ s < 5, ∀ h < 9, s ≠ 0 → h ≠ 0 → w ≠ ⟨#[48 + s, 120, 48 + h]⟩)) := by decide +kernel
def seatBad : List Str := ["2", "5", "0", "03", "3.", "four", "", "34"]
theorem seat_chk : ∀ w ∈ seatBad, w.length ≤ 10 ∧ 32 ∉ w.cps.toList ∧ w ≠ ⟨#[51]⟩ ∧ w ≠ ⟨#[52]⟩ := by decide +kernel
def dutyBad : List Str := ["", "Free", "freed", "follows", "bea", "trump", "any", "cut "]
theorem duty_chk : ∀ w ∈ dutyBad, w.length ≤ 10 ∧ (w.cps.toList.count 32 ≠ 0 ∨ (32 ∉ w.cps.toList ∧ ∀ i : _root_.Fin 4, w ≠ wd i)) := by decide +kernel
theorem tabW_mark (f : Fx) {i : Nat} (hi : i < 5) : ∃ m ∈ marks, (tabW f)[2 * i]? = some m := by
  rcases (by omega : i = 0 ∨ i = 1 ∨ i = 2 ∨ i = 3 ∨ i = 4) with rfl | rfl | rfl | rfl | rfl
  · exact ⟨"pack", by decide +kernel, rfl⟩
  · exact ⟨"seats", by decide +kernel, rfl⟩
  · exact ⟨"duty", by decide +kernel, rfl⟩
  · exact ⟨"plain", by decide +kernel, rfl⟩
  · exact ⟨"trump", by decide +kernel, rfl⟩
theorem tabW_marks (f g : Fx) {i : Nat} (hi : i < 5) : (tabW f)[2 * i]? = (tabW g)[2 * i]? := by
  rcases (by omega : i = 0 ∨ i = 1 ∨ i = 2 ∨ i = 3 ∨ i = 4) with rfl | rfl | rfl | rfl | rfl <;> rfl
theorem fault0 {f0 : Fx} {i : Nat} {m w : Str} (hi : i < 5) (hm : (tabW f0)[2 * i]? = some m) (hM : m ∈ marks) (hw : w ∈ mOpt m) : NoTab (Txt.join blank ((tabW f0).set (2 * i) w)) := by
  obtain ⟨n1, n2, _⟩ := (opt_chk m hM).2 w hw
  refine noTab_set n2 (by omega) fun f ok _ z => ?_
  rw [tabW_marks f f0 hi, hm] at z
  exact n1 (Option.some.inj z).symm
theorem fault1 {f0 : Fx} {w : Str} (hw : w ∈ sizeBad) : NoTab (Txt.join blank ((tabW f0).set 1 w)) := by
  rcases (size_chk w hw).2 with h | ⟨h1, h2⟩
  · exact noTab_many rfl ⟨w, List.mem_iff_getElem?.mpr ⟨1, rfl⟩, h⟩
  · refine noTab_set h1 (by decide) fun f ok _ z => ?_
    have z' : some (sizeT f) = some w := z
    have := ok.s1
    have := ok.s4
    have := ok.h1
    have := ok.h8
    exact h2 f.s (by omega) f.h (by omega) (by omega) (by omega) (Option.some.inj z').symm
theorem fault2 {f0 : Fx} {w : Str} (hw : w ∈ seatBad) : NoTab (Txt.join blank ((tabW f0).set 3 w)) := by
  obtain ⟨_, h1, h2, h3⟩ := seat_chk w hw
  refine noTab_set h1 (by decide) fun f ok _ z => ?_
  have z' : some (seatT f) = some w := z
  have z2 := (Option.some.inj z').symm
  unfold seatT at z2
  rcases ok.n34 with e | e <;> rw [e] at z2
  · exact h2 z2
  · exact h3 z2
theorem fault3 {f0 : Fx} {w : Str} (hw : w ∈ dutyBad) : NoTab (Txt.join blank ((tabW f0).set 5 w)) := by
  rcases (duty_chk w hw).2 with h | ⟨h1, h2⟩
  · exact noTab_many rfl ⟨w, List.mem_iff_getElem?.mpr ⟨5, rfl⟩, h⟩
  · refine noTab_set h1 (by decide) fun f ok _ z => ?_
    have z' : some (wd f.d) = some w := z
    exact h2 f.d (Option.some.inj z').symm
/-- no order of that many heights -/
def BadO (h : Nat) (w : Str) : Prop := 32 ∉ w.cps.toList ∧ w.length ≤ 20 ∧ ∀ l : List Nat, l.Perm (List.range h) → w ≠ figS l
theorem size_inj {f g : Fx} (h : sizeT f = sizeT g) : f.h = g.h := by
  unfold sizeT at h
  injection h with h
  have e : [48 + f.s, 120, 48 + f.h] = [48 + g.s, 120, 48 + g.h] := congrArg Array.toList h
  injection e with _ e
  injection e with _ e
  injection e with e _
  omega
theorem fault45 {f0 : Fx} {i : Nat} {w : Str} (hi : i = 7 ∨ i = 9) (hw : BadO f0.h w) : NoTab (Txt.join blank ((tabW f0).set i w)) := by
  refine noTab_set hw.1 (by omega) fun f ok hs z => ?_
  have eh := size_inj (hs (by omega))
  rcases hi with rfl | rfl
  · have z' : some (figS f.pl) = some w := z
    exact hw.2.2 f.pl (by rw [← eh]; exact ok.pp) (Option.some.inj z').symm
  · have z' : some (figS f.tr) = some w := z
    exact hw.2.2 f.tr (by rw [← eh]; exact ok.pt) (Option.some.inj z').symm
theorem badO_of {h : Nat} {ns : List Nat} {w : Str} (e : w.cps.toList = ns) (free : 32 ∉ ns) (len : ns.length ≤ 20) (hb : ns.length ≠ h ∨ (∃ c ∈ ns, c < 49 ∨ 49 + h ≤ c) ∨ ¬ ns.Nodup) : BadO h w := by
  refine ⟨by rw [e]; exact free, ?_, fun l p z => ?_⟩
  · unfold Str.length
    rw [← Array.length_toList, e]
    exact len
  · have e2 : ns = l.map (49 + ·) := by rw [← e, z]; rfl
    rcases hb with hb | ⟨c, hc, hb⟩ | hb
    · exact hb (by rw [e2, List.length_map, perm_len p])
    · rw [e2] at hc
      obtain ⟨i, hi, rfl⟩ := List.mem_map.mp hc
      have := perm_lt p i hi
      omega
    · refine hb ?_
      rw [e2]
      have nd : l.Nodup := p.nodup_iff.mpr List.nodup_range
      exact List.pairwise_map.mpr (nd.imp fun h => by omega)
theorem app_list (a b : Str) : (a ++ b).cps.toList = a.cps.toList ++ b.cps.toList := by
  show (a.cps ++ b.cps).toList = _
  rw [Array.toList_append]
theorem figS_app (a b : List Nat) : (figS a ++ figS b).cps.toList = (a ++ b).map (49 + ·) := by
  rw [app_list, List.map_append]
  rfl
theorem sl_to {l : List Nat} {m : Nat} (h : m ≤ l.length) : Txt.slice (figS l) none (some ((m : Nat) : Int)) = figS (l.take m) := by
  have hl : (figS l).cps.toList.length = l.length := by show (l.map (49 + ·)).length = _; rw [List.length_map]
  have e := beq_iff_eq.mp (slice_closes_to (x := figS l) (j := ((m : Nat) : Int)) ⟨by omega, by rw [hl]; omega⟩)
  rw [e]
  refine str_ext ?_
  show ((l.map (49 + ·)).drop (0 : Int).toNat).take (((m : Nat) : Int) - 0).toNat = (l.take m).map (49 + ·)
  rw [show (0 : Int).toNat = 0 from rfl, List.drop_zero, show (((m : Nat) : Int) - 0).toNat = m by omega, List.map_take]
theorem sl_from {l : List Nat} {m : Nat} (h : m ≤ l.length) : Txt.slice (figS l) (some ((m : Nat) : Int)) none = figS (l.drop m) := by
  have hl : (figS l).length = l.length := figS_len l
  rw [slice_from_eq (b := ((figS l).length : Nat)) (by omega) (by rw [hl]; omega) rfl]
  refine str_ext ?_
  show ((l.map (49 + ·)).drop ((m : Nat) : Int).toNat).take ((((figS l).length : Nat) : Int) - ((m : Nat) : Int)).toNat = (l.drop m).map (49 + ·)
  rw [Int.toNat_natCast, List.take_of_length_le (by rw [List.length_drop, List.length_map, hl]; omega), List.map_drop]
theorem fig_no32 (l : List Nat) : 32 ∉ l.map (49 + ·) := fig_free l
/-- what stands between the two ends -/
theorem badO_mid {h m : Nat} {l : List Nat} {x : Str} {b : List Nat} (p : l.Perm (List.range h)) (h8 : h ≤ 8) (hb : b.length ≤ 8) (hx : 32 ∉ x.cps.toList) (hxl : x.cps.toList.length ≤ 1)
    (hh : (l.take m).length + x.cps.toList.length + b.length ≠ h ∨ (∃ c ∈ x.cps.toList, c < 49 ∨ 49 + h ≤ c) ∨ ¬ ((l.take m).map (49 + ·) ++ (x.cps.toList ++ b.map (49 + ·))).Nodup) : BadO h (figS (l.take m) ++ x ++ figS b) := by
  have ll := perm_len p
  have tl : (l.take m).length ≤ h := by rw [List.length_take, ll]; omega
  refine badO_of (ns := (l.take m).map (49 + ·) ++ (x.cps.toList ++ b.map (49 + ·))) ?_ ?_ ?_ ?_
  · rw [app_list, app_list, List.append_assoc]
    rfl
  · intro z
    rcases List.mem_append.mp z with z | z
    · exact fig_no32 _ z
    · rcases List.mem_append.mp z with z | z
      · exact hx z
      · exact fig_no32 _ z
  · rw [List.length_append, List.length_append, List.length_map, List.length_map]
    omega
  · rcases hh with e | ⟨c, hc, e⟩ | e
    · left
      rw [List.length_append, List.length_append, List.length_map, List.length_map]
      omega
    · exact .inr (.inl ⟨c, List.mem_append_right _ (List.mem_append_left _ hc), e⟩)
    · exact .inr (.inr e)
theorem badO_two {h m : Nat} {l b : List Nat} (p : l.Perm (List.range h)) (h8 : h ≤ 8) (hb : b.length ≤ 8) (hh : (l.take m).length + b.length ≠ h) : BadO h (figS (l.take m) ++ figS b) := by
  have ll := perm_len p
  have tl : (l.take m).length ≤ h := by rw [List.length_take, ll]; omega
  refine badO_of (ns := (l.take m ++ b).map (49 + ·)) (figS_app _ _) (fig_no32 _) ?_ (.inl ?_)
  · rw [List.length_map, List.length_append]
    omega
  · rw [List.length_map, List.length_append]
    exact hh
theorem str_num9 : ∀ i ≤ 9, (toString ((i : Nat) : Int) : Str) = ⟨#[48 + i]⟩ := by decide +kernel
def ten (a b c d e : Str) : List Str := ["pack", a, "seats", b, "duty", c, "plain", d, "trump", e]
theorem ten_len {a b c d e : Str} {t : Str} (h : Txt.split t blank = ten a b c d e) : a.length + b.length + c.length + d.length + e.length + 32 = t.length := by
  have z := join_length (ws := Txt.split t blank) (by rw [h]; exact List.cons_ne_nil _ _)
  rw [join_back, h] at z
  have e1 : ("pack" : Str).length = 4 := by decide +kernel
  have e2 : ("seats" : Str).length = 5 := by decide +kernel
  have e3 : ("duty" : Str).length = 4 := by decide +kernel
  have e4 : ("plain" : Str).length = 5 := by decide +kernel
  have e5 : ("trump" : Str).length = 5 := by decide +kernel
  have z' : t.length + 1 = (("pack" : Str).length + (a.length + (("seats" : Str).length + (b.length + (("duty" : Str).length + (c.length + (("plain" : Str).length + (d.length + (("trump" : Str).length + (e.length + 0)))))))))) + 10 := z
  omega
theorem tot_len {f : Fx} (ok : f.Ok) : ((tabW f).map (·.length)).sum ≤ 49 := by
  have a := (wd_len f.d).2
  have b : (figS f.pl).length ≤ 8 := by rw [figS_len, perm_len ok.pp]; exact ok.h8
  have c : (figS f.tr).length ≤ 8 := by rw [figS_len, perm_len ok.pt]; exact ok.h8
  show 4 + (3 + (5 + (1 + (4 + ((wd f.d).length + (5 + ((figS f.pl).length + (5 + ((figS f.tr).length + 0))))))))) ≤ _
  omega
theorem tot_set : ∀ (ws : List Str) (i : Nat) (w : Str), ((ws.set i w).map (·.length)).sum ≤ (ws.map (·.length)).sum + w.length
  | [], _, _ => by simp
  | v :: ws, 0, w => by
    show w.length + (ws.map (·.length)).sum ≤ (v.length + (ws.map (·.length)).sum) + w.length
    omega
  | v :: ws, i + 1, w => by
    have := tot_set ws i w
    show v.length + ((ws.set i w).map (·.length)).sum ≤ (v.length + (ws.map (·.length)).sum) + w.length
    omega
theorem set_fits {f : Fx} (ok : f.Ok) {i : Nat} {w : Str} (hw : w.length ≤ 20) : (((tabW f).set i w).map (·.length)).sum + ((tabW f).set i w).length * blank.length ≤ 16777216 ∧ (Txt.join blank ((tabW f).set i w)).length ≤ 90 := by
  have a := tot_len ok
  have b := tot_set (tabW f) i w
  have l : ((tabW f).set i w).length = 10 := by rw [List.length_set]; rfl
  have c := join_length (ws := (tabW f).set i w) (fun z => by rw [z] at l; cases l)
  rw [blank_len, l]
  constructor <;> omega
end My

namespace L2
open PySem PySem.Spec PyProof.Rows Builtin Builtin.ObjectAttr
/-! ### an own exception with an own __init__: made -/
section
variable {prog : Program} {w : World} {A : Around} {E : Value → Shared → Prop} {h : Heap} {g : Array GenState} {d : Drawn} {t : Nat} {os : OsState}
variable {nm q : Str} {C N : Addr} {bs bm bmB : List Value} {hdct : Bool} {sn : List Str} {sub : List Value} {ab : Bool} {col : Option Bool} {dd : Option Addr} {k0 k1 k2 k3 k5 : Option Value} {B newId initId : String}
end
/-! ### its attributes -/
def onlyTail : List Value → Bool
  | .ref _ :: r => onlyTail r
  | l => l == veTail
def overX (K : PySem.W.Frag) (C : Addr) : Bool := (PySem.W.clsIn K C).any fun cd => onlyTail cd.mro
/-- what of the text an exception's class must have so that its attributes are set and read -/
structure ExcS (K : PySem.W.Frag) (C : Addr) : Prop where
  sa : PySem.W.findIn K (.ref C) "__setattr__" = some (some (.builtin "object.__setattr__"))
  ov : overX K C = true
  hd : PySem.W.hasDictIn K C = true
section
variable {prog : Program} {w : World} {A : Around} {E : Value → Shared → Prop} {s : Shared} {K : PySem.W.Frag} {x C : Addr} {o : Obj} {vs : Array Value} {name : Str} {v : Value}
end
end L2

namespace L2
open PySem PySem.Spec PyProof.Rows
/-! ### an exception that is being made -/
def rawX (a C : Addr) (od : Option Addr) : HO := .ext fun h => ∃ o vs, h.get? a = some o ∧ o.cls = .ref C ∧ o.dict = od ∧ o.data = .fields vs ∧ vs[1]? = some .none ∧ vs[2]? = some .none
/-- self.f = value, the first one of an exception -/
def sFldX (K : PySem.W.Frag) (ta tv : TE) (f : Str) : TS := fun D σ H => tv σ H fun y H1 => ta σ H1 fun x H2 => ∃ a C, x = .ref a ∧ H2 a = some (rawX a C none) ∧ ExcS K C ∧ NoAttr K C f ∧
  ∀ d, H2 d = none → d ≠ a → D.nx σ (upd (upd H2 a (rawX a C (some d))) d (.xd [(f, y)]))
/-! ### raise C(..), C with an own __init__ -/
def excInI (K : PySem.W.Frag) (C : Addr) (bmB : List Value) (newId : String) (fI : Addr) : Bool := match K.lookup C with
  | some ⟨.type "type", _, .cls cd, sl⟩ => (match cd.mro, sl.toList with
    | .ref C' :: bm, [_, _, _, _, some (.builtin n), _] => C' == C && n == newId && !cd.hasDel && PySem.W.tailIn K bmB bm && PySem.W.nsOkIn K cd.ns && PySem.W.nsIn K cd.ns "__init__" == some (some (.ref fI))
    | _, _ => false)
  | _ => false
section
variable {M : Model} {A : Around} {E : Value → Shared → Prop} {env : Env}
variable {nm q : Str} {C N : Addr} {bs bm : List Value} {hdct : Bool} {sn : List Str} {sub : List Value} {ab : Bool} {col : Option Bool} {dd : Option Addr} {k0 k1 k2 k3 k5 : Option Value} {newId : String}
end
def ThrD (X : Cx) (E : XK) : Prop := ∀ (pins : List (Addr × Obj)) (σ : St) (H : Hp) (s : Shared) (e C : Addr) (oe : Obj) (vs : Array Value) (od : Option Addr), Inv X pins σ H s → H e = none → X.s₀.heap.get? e = none → s.heap.get? e = some oe → oe.cls = .ref C → oe.dict = od → oe.data = .fields vs → vs[1]? = some .none → vs[2]? = some .none → E (.ref C) od H → X.xe (.ref e) s
def dropH (H : Hp) (a : Addr) : Hp := fun b => if b = a then none else H b
def tRaiseI (C : Addr) (sp : Sp) (E : XK) (t : TA) : TS := fun _ σ H => t σ H fun vs H1 => vs.length ≤ sizeLine ∧ ∀ ea, H1 ea = none →
  sp (.ref ea :: vs) (upd H1 ea (rawX ea C none)) (fun v H2 => v = .non ∧ ∃ od, H2 ea = some (rawX ea C od) ∧ E (.ref C) od (dropH H2 ea)) E0
end L2

namespace L2
open PySem PySem.Spec PyProof.Rows
/-! ### x is True, x is False, of a truth -/
end L2

namespace L2
open PySem PySem.Spec PyProof.Rows
/-! ### a def called in an except suite -/
structure RoomH (k : Nat) (A : Around) : Prop where
  dp : A.depth + 3 * k + 5 < recursionLimit
  un : A.units + 16 * k + 200 < cLine
theorem Room.h {k : Nat} {A : Around} (r : Room k A) {e : Addr} : RoomH k (A.mark (some (.ref e))) := ⟨r.dp, r.un⟩
structure FnOkH (P : Program) (w : World) (K : PySem.W.Frag) (mg : Str → Option Value) (base : Heap) (k : Nat) (f : Addr) (fd : FuncData) (ps : List Str) (sp : Sp) : Prop where
  len : ∀ vs H Q E, sp vs H Q E → vs.length = ps.length
  run : ∀ (A : Around) (outer : List Env) (s : Shared) (H : Hp) (args : Args) (us : List Value) (vs : List V) (Q : VK) (E : XK), RoomH k A → Env0 P w K mg base A outer s H → BindsTo s fd args (ps.zip us) → Vals vs us → sp vs H Q E →
    codeAny (model P w) A (.call (.ref f) args) (CR CX0 outer P w H s Q E) s
def cxH (P : Program) (w : World) (K : PySem.W.Frag) (mg : Str → Option Value) (base : Heap) (N : List Str) (qual : Str) (scope : Scope) (f : Addr) (cd : Value) (A : Around) (outer : List Env) (s : Shared) (H : Hp) (E : XK) : Cx :=
  { cxOf CX0 P w K mg base N qual scope f cd A outer s H E with calm := false }
theorem fn_ofH {P : Program} {w : World} {K : PySem.W.Frag} {mg : Str → Option Value} {base : Heap} {k : Nat} {f : Addr} {name qual : Str} {params : Arguments} {body : List Stmt} {scope : Scope} {dV kV doc pm cdv ct oc : Value} {an od : Option Addr}
    {osl : Array (Option Value)} {N ps : List Str} {sp : Sp} (lk : K.lookup f = some ⟨oc, od, .func (PySem.W.fnOf name qual params body scope dV kV doc pm an cdv ct), osl⟩) (hcd : PySem.W.codeIn K cdv qual = true) (S : FnScope N ps scope)
    (len : ∀ vs H Q E, sp vs H Q E → vs.length = ps.length)
    (hbody : ∀ (A : Around) (outer : List Env) (s : Shared) (H : Hp) (vs : List V) (Q : VK) (E : XK), sp vs H Q E →
      ∃ t, PSs (cxH P w K mg base N qual scope f cdv A outer s H E) body t ∧ t { nx := fun _ H' => Q .non H', rt := Q } (start N vs) H) :
    FnOkH P w K mg base (k + 1) f (PySem.W.fnOf name qual params body scope dV kV doc pm an cdv ct) ps sp := by
  refine ⟨len, fun A outer s H args us vs Q E hr e0 hb r hsp => ?_⟩
  have hl := len _ _ _ _ hsp
  have KX : K.In s.heap := e0.mod.kin.keeps fun b o e => (e0.bs b o e).1
  have lim : s.heap.NoLimit := e0.mod.nolimit.keeps fun b o e => (e0.bs b o e).1
  have hkind : ∀ y ∈ ps.zip us, scope.names.lookup y.1 = some .local ∨ (scope.names.lookup y.1 = some .cell ∧ ((cellsFrom (s.heap.objs.size + 1) scope.names []).lookup y.1).isSome = true) := fun ⟨n, v⟩ hy => by
    rcases S.par n (List.of_mem_zip hy).1 with q | q
    · exact .inl q
    · exact .inr ⟨q, PySem.W.cellsFrom_some _ _ _ (.inl q)⟩
  refine codeAny_call_function (by have := hr.dp; omega) (KX _ _ lk) rfl S.co S.gen rfl (PySem.W.codeRec_of KX hcd) (hb _ _ _ _ ?_)
  refine wpAny_newFunctionEnv_cells S.kind hkind fun env he s1 x => ?_
  subst he
  refine ⟨lim.keeps x.toInCall.keep, codeAny_func ?_⟩
  obtain ⟨t, ht, hq⟩ := hbody A outer s H vs Q E hsp
  have e0' : Env0 P w K mg base { A with handled := none } outer s H := ⟨e0.frames, e0.mod, e0.bs, e0.bsz, e0.funs, e0.frf, e0.hok, e0.bare⟩
  have I0 : Inv (cxOf CX0 P w K mg base N qual scope f cdv { A with handled := none } outer s H E) [] (start N vs) H s1 := inv_start S rfl e0' hl r x
  have I : Inv (cxH P w K mg base N qual scope f cdv A outer s H E) [] (start N vs) H s1 :=
    ⟨⟨I0.ok.mod, I0.ok.kind, I0.ok.glob, I0.ok.blt, I0.ok.above, I0.ok.inj, I0.ok.has, I0.ok.cab, fun z => Bool.noConfusion z, Around.frames_deeper e0.frames, I0.ok.stk, I0.ok.exf, I0.ok.bs, I0.ok.bsz, I0.ok.noex, I0.ok.exfs, I0.ok.funs, I0.ok.frf⟩,
      I0.os, I0.bare, I0.base, I0.loc, I0.cell, I0.free, I0.freeC, I0.pin, I0.hok, I0.len⟩
  refine wpAny_mono (ht [] s1 (start N vs) H _ I hq) (fun fl s' hs => ?_) fun e s' hs => hs
  have fin : ∀ {σ' : St} {H' : Hp} {v : V} {u : Value}, Inv (cxH P w K mg base N qual scope f cdv A outer s H E) [] σ' H' s' → RelV v u → Q v H' → CE outer P w H s Q u s' :=
    fun {σ' H' v u} J rv q => ⟨v, H', J.os, J.bare, J.base, J.hok, rv, q⟩
  cases fl with
  | ret u =>
    obtain ⟨v, σ', H', J, rv, q⟩ := hs
    exact fin J rv q
  | next =>
    obtain ⟨σ', H', J, q⟩ := hs
    exact fin (v := V.non) (u := Value.none) J rfl q
  | brk =>
    obtain ⟨_, _, _, q⟩ := hs
    exact False.elim q
  | cont =>
    obtain ⟨_, _, _, q⟩ := hs
    exact False.elim q
theorem Fun.okH {P : Program} {w : World} {K : PySem.W.Frag} {mg : Str → Option Value} {base : Heap} {x qual : Str} {st : Stmt} {f : Addr} {fd : FuncData} {N ps : List Str} {k : Nat} {sp : Sp} (F : Fun K x qual st f fd) (S : FnScope N ps (defScope st)) (len : ∀ vs H Q E, sp vs H Q E → vs.length = ps.length)
    (hbody : ∀ (cdv : Value) (A : Around) (outer : List Env) (s : Shared) (H : Hp) (vs : List V) (Q : VK) (E : XK), sp vs H Q E →
      ∃ t, PSs (cxH P w K mg base N qual (defScope st) f cdv A outer s H E) (defBody st) t ∧ t { nx := fun _ H' => Q .non H', rt := Q } (start N vs) H) : FnOkH P w K mg base (k + 1) f fd ps sp := by
  obtain ⟨oc, od, kV, doc, pm, an, cdv, ct, osl, rfl, lk, hcd⟩ := F.ex
  exact fn_ofH lk hcd S len fun A outer s H vs Q E hsp => hbody cdv A outer s H vs Q E hsp
theorem pe_callH {X : Cx} {k : Nat} {f : Addr} {fd : FuncData} {ps : List Str} {sp : Sp} {x : Str} {p pos : Pos} {e : Expr} {es : List Expr} {t : TA} (F : FnOkH X.prog X.w X.K X.mg X.base k f fd ps sp) (hr : RoomH k X.A) (hg : Gl X x) (hm : X.mg x = some (.ref f)) (hk : PySem.W.keepIn X.K (.ref f) = true) (hb : Binds X.K fd ps [])
    (ha : PA X (e :: es) t) (hdb : (x == ("__debug__" : Str)) = false := by decide) (he : starEach (e :: es) X.env = (false, eval e X.env) :: starEach es X.env := by rfl) (hpl : (backTo pos (starEach es X.env)).any (·.1) = false := by rfl) :
    PE X (.Call (.Name x p) (e :: es) [] pos) (tCall sp [] E0 t) := by
  intro pins s σ H Q I h
  refine wpAny_Call_Name_kw (ld_glob I hg hm ?_ hdb)
  refine PySem.W.callWith_K (h₀ := X.base) I.ok.mod.kin hk (thn (ha pos pins s σ H _ I h) fun us s1 ⟨vs, H1, I1, r, q⟩ => ⟨I1.kIn, ?_⟩) he hpl
  have q' : sp (vs ++ []) H1 Q E0 := q
  rw [List.append_nil] at q'
  have hl : (us ++ []).length = ps.length := by rw [List.append_nil, ← r.length]; exact F.len _ _ _ _ q'
  have hbb := hb s1 us I1.kIn hl
  rw [List.append_nil] at hbb
  refine wpAny_call (codeAny_mono (F.run X.A X.stack s1 H1 ⟨us, []⟩ us vs Q E0 hr I1.env0 hbb r q') fun r s' hq => ?_)
  cases r with
  | error e => exact (show False from hq).elim
  | ok fl =>
    cases fl with
    | ret u => exact I1.after hq
    | next => exact False.elim hq
    | brk => exact False.elim hq
    | cont => exact False.elim hq
/-! ### an exception that was caught: its class, its dict -/
def excD (a C : Addr) (od : Option Addr) : HO := .ext fun h => ∃ o vs, h.get? a = some o ∧ o.cls = .ref C ∧ o.dict = od ∧ o.data = .fields vs
theorem Inv.trackD {X : Cx} {pins : List (Addr × Obj)} {σ : St} {H : Hp} {s : Shared} {a C : Addr} {od : Option Addr} {ob : Obj} {vs : Array Value} (J : Inv X pins σ H s) (hn : H a = none) (h0 : X.s₀.heap.get? a = none) (ho : s.heap.get? a = some ob) (hc : ob.cls = .ref C) (hdd : ob.dict = od) (hd : ob.data = .fields vs) (hp : ∀ p ∈ X.pn ++ pins, p.1 ≠ a) :
    Inv X pins σ (upd H a (excD a C od)) s := by
  have other : ∀ b u, H b = some u → upd H a (excD a C od) b = some u := fun b u q => by rw [upd_ne (ne_of_none q hn)]; exact q
  have nel : X.env.locals ≠ a := fun z => by
    obtain ⟨m, ⟨o, es, ep, h1, h2, _⟩, _⟩ := J.loc
    rw [z, ho] at h1
    cases h1
    rw [hd] at h2
    cases h2
  have nec : ∀ x c, X.env.cells.lookup x = some c → c ≠ a := fun x c e z => by
    obtain ⟨v, o, h1, h2⟩ := J.cell x c e
    rw [z, ho] at h1
    cases h1
    rw [hd] at h2
    cases h2
  refine ⟨J.ok, J.os, J.bare, ⟨J.base.keep, J.base.slot, fun b o e n hx => ?_, J.base.there, fun b xs q => other _ _ (J.base.tups b xs q), fun b o u q => other _ _ (J.base.frzs b o u q), fun b ps q => ?_⟩, J.loc, J.cell, ?_, fun x c e => ?_, fun p q => ?_, fun b u e => ?_, J.len⟩
  · rw [upd_ne fun z => by rw [z, h0] at e; cases e]
    exact J.base.free b o e n hx
  · obtain ⟨more, e⟩ := J.base.tbls b ps q
    exact ⟨more, other _ _ e⟩
  · rw [upd_ne nel]
    exact J.free
  · rw [upd_ne (nec x c e)]
    exact J.freeC x c e
  · obtain ⟨e, n, r⟩ := J.pin p q
    exact ⟨e, by rw [upd_ne (hp p q)]; exact n, r⟩
  · by_cases hb : b = a
    · subst hb
      rw [upd_same] at e
      cases e
      exact ⟨⟨ob, vs, ho, hc, hdd, hd⟩, ⟨ob, ho⟩, fun h1 h2 ⟨o, ws, e1, e2⟩ k => ⟨o, ws, k _ e1, e2⟩⟩
    · rw [upd_ne hb] at e
      exact (J.hok b u e).stay (fun _ _ _ q => q) (fun c q => other _ _ q) fun c xs q => other _ _ q
def rIsXD (K : PySem.W.Frag) : List V → Hp → VK → Prop := fun xs H Q => ∃ a C od c b, xs = [.ref a, c] ∧ isC c = true ∧ H a = some (excD a C od) ∧ ExcF K C ∧ PySem.W.kitOne K (.ref C) (toC c) = some b ∧ Q (.bl b) H
theorem call_isXD {X : Cx} : CallR X (.builtin "isinstance") (rIsXD X.K) := by
  intro pins s σ H xs us Q I r h
  obtain ⟨a, C, od, c, b, rfl, hc, hH, F, e, q⟩ := h
  obtain ⟨u, w', rfl, r1, r2⟩ := vals2 r
  cases r1
  have e2 := toC_eq hc r2
  subst e2
  obtain ⟨⟨o, vs, e1, e3, e4⟩, _, _⟩ := I.hok a _ hH
  exact PySem.W.kia_one (kitx_exc F) I.kIn ⟨o, e1, e3⟩ e (fun z => nomatch z) fun tk => ⟨.bl b, H, I.tok tk, rfl, q⟩
def rIsXTD (K : PySem.W.Frag) : List V → Hp → VK → Prop := fun xs H Q => ∃ a C od p cs b, xs = [.ref a, .ref p] ∧ H p = some (.tup cs) ∧ cs.all isC = true ∧ H a = some (excD a C od) ∧ ExcF K C ∧ PySem.W.kitAny K (.ref C) (cs.map toC) = some b ∧ Q (.bl b) H
/-- e.f of a caught exception -/
def tFldX (K : PySem.W.Frag) (ta : TE) (f : Str) : TE := fun σ H Q => ta σ H fun x H1 => ∃ a C d fs v, x = .ref a ∧ H1 a = some (excD a C (some d)) ∧ H1 d = some (.xd fs) ∧ ExcF K C ∧ ExcS K C ∧ NoAttr K C f ∧ fs.lookup f = some v ∧ Q v H1
/-! ### try: .. except T1 as n: .. except T2 as n: .. -/
section
variable {X : Cx} {n : Str} {np hpos np2 hpos2 pos : Pos} {i : Nat}
def asD (D : Ends) (i : Nat) : Ends := { nx := fun σ' H' => D.nx (σ'.set i none) H', rt := D.rt, bk := fun σ' H' => D.bk (σ'.set i none) H', ct := fun σ' H' => D.ct (σ'.set i none) H' }
def tTry2 (K : PySem.W.Frag) (tb : XK → TS) (i : Nat) (CT CT2 : Value) (th th2 : TS) : TS := fun D σ H =>
  tb (fun cls od H1 => ∃ C, cls = .ref C ∧ ((PySem.W.exmOne K cls CT = some true ∧ ∀ ea, H1 ea = none → th (asD D i) (σ.set i (some (.ref ea))) (upd H1 ea (excD ea C od))) ∨
    (PySem.W.exmOne K cls CT = some false ∧ PySem.W.exmOne K cls CT2 = some true ∧ ∀ ea, H1 ea = none → th2 (asD D i) (σ.set i (some (.ref ea))) (upd H1 ea (excD ea C od))))) D σ H
/-- a suite that takes it -/
theorem suite_as {pins : List (Addr × Obj)} {σ : St} {H1 : Hp} {D : Ends} {ea C : Addr} {od : Option Addr} {B : Heap} {s1 : Shared} {h5 : Heap} {l : List Env} {ctx : Value} {b₀ : Stmt} {suite : List Stmt} {th : TS} (hex : X.ex = []) (hN : X.N.Nodup) (hi : X.N[i]? = some n) (hlo : X.env.kindOf n = some .local)
    (J : Inv X pins σ H1 s1) (hB : Held X pins B) (trk : ∀ b o, H1 b = some o → ∃ ob, B.get? b = some ob) (noe : H1 ea = none) (st : B.StaysIn s1.heap) (fl5 : FlyC B l ea (.ref C) od ctx .none h5) (up5 : s1.heap.UpToSlots h5)
    (hs : ∀ e, PSs (hCx X e) (b₀ :: suite) th) (hth : th (asD D i) (σ.set i (some (.ref ea))) (upd H1 ea (excD ea C od))) :
    codeAny (model X.prog X.w) (X.A.mark (some (.ref ea))) (.handlers (.ref ea) [.ExceptHandler none (some n) (b₀ :: suite) hpos] X.env) (fun r s₂ => match r with
      | .ok f => wpAny (model X.prog X.w) X.A (do bindName X.env n .none; unbindBehindTheSuite X.env n hpos) (fun _ s₃ => SP X pins D f s₃) X.xe s₂
      | .error x => cameBackBy (model X.prog X.w) X.A X.env X.xe x s₂) { s1 with heap := h5 } := by
  refine codeAny_handlers_suite_as (landC fl5 fun h6 fl6 up6 => ?_)
  have J6 : Inv X pins σ H1 { s1 with heap := h6 } := J.landed hB trk st fl6.stays (up5.trans up6)
  obtain ⟨oe, vs, _, _, _, ⟨ho, hc, hd, _, _⟩, _⟩ := fl6.rcd
  have h0 : X.s₀.heap.get? ea = none := by
    cases q : X.s₀.heap.get? ea with
    | none => rfl
    | some o =>
      by_cases hb : ea ∈ X.fs
      · obtain ⟨_, o2, ho2, hd2⟩ := J6.funs.mem hb
        rw [ho] at ho2
        cases ho2
        exact absurd hd (hd2 vs)
      · obtain ⟨ob, z⟩ := hB.1 ea o q (by rw [hex]; simp) hb
        rw [fl6.new] at z
        cases z
  have J7 : Inv X pins σ (upd H1 ea (excD ea C od)) { s1 with heap := h6 } := J6.trackD noe h0 ho hc.1 hc.2 hd fun p hp z => by
    obtain ⟨ob, y⟩ := hB.2 p hp
    rw [z, fl6.new] at y
    cases y
  have J8 : Inv (hCx X ea) pins σ (upd H1 ea (excD ea C od)) { s1 with heap := h6 } := J7.inH
  refine store_ok (X := hCx X ea) J8 hN hi (Or.inl hlo) (v := .ref ea) rfl (fun s7 I7 => ?_) (Or.inr hlo)
  refine wpAny_mono (hs ea pins s7 _ _ _ I7 hth) (fun fw s8 q8 => ?_) fun _ _ z => False.elim z
  show wpAny (model X.prog X.w) X.A (do bindName X.env n .none; unbindBehindTheSuite X.env n hpos) (fun _ s9 => SP X pins D fw s9) X.xe s8
  cases fw with
  | next =>
    obtain ⟨σ', H', I', q'⟩ := q8
    exact name_gone (I'.outH J.ok) hN hi hlo fun s' K' => ⟨_, H', K', q'⟩
  | brk =>
    obtain ⟨σ', H', I', q'⟩ := q8
    exact name_gone (I'.outH J.ok) hN hi hlo fun s' K' => ⟨_, H', K', q'⟩
  | cont =>
    obtain ⟨σ', H', I', q'⟩ := q8
    exact name_gone (I'.outH J.ok) hN hi hlo fun s' K' => ⟨_, H', K', q'⟩
  | ret u =>
    obtain ⟨v, σ', H', I', r', q'⟩ := q8
    exact name_gone (I'.outH J.ok) hN hi hlo fun s' K' => ⟨v, _, H', K', r', q'⟩
/-! ### the same with one handler -/
def tTry1 (K : PySem.W.Frag) (tb : XK → TS) (i : Nat) (CT : Value) (th : TS) : TS := fun D σ H =>
  tb (fun cls od H1 => ∃ C, cls = .ref C ∧ PySem.W.exmOne K cls CT = some true ∧ ∀ ea, H1 ea = none → th (asD D i) (σ.set i (some (.ref ea))) (upd H1 ea (excD ea C od))) D σ H
theorem ps_try1 {body : List Stmt} {T : Str} {b₀ : Stmt} {suite : List Stmt} {CT : Addr} {tb : XK → TS} {th : TS} (hst : X.stack = X.env :: X.outer) (hfr : X.env.frame = some X.env.locals) (hex : X.ex = []) (hN : X.N.Nodup) (hi : X.N[i]? = some n)
    (hlo : X.env.kindOf n = some .local) (hb : PSX X body tb) (hg : Gl X T) (hm : X.mg T = some (.ref CT)) (hs : ∀ e, PSs (hCx X e) (b₀ :: suite) th) (hdb : (T == ("__debug__" : Str)) = false := by decide) :
    PS X (.Try body [.ExceptHandler (some (.Name T np)) (some n) (b₀ :: suite) hpos] [] [] pos) (tTry1 X.K tb i (.ref CT) th) := by
  intro pins s σ H D I h
  refine wpAny_Try_except (wpAny_mono (hb pins s σ H D _ I h) (fun f s1 hq => ?_) fun e s1 hx => ?_)
  · cases f with
    | next => exact wpAny_execs_nil hq
    | brk => exact hq
    | cont => exact hq
    | ret u => exact hq
  obtain ⟨ea, cls, od, H1, B, rfl, J, F, hB, C, rfl, hm1, hth⟩ := hx
  obtain ⟨ctx, fl, hch⟩ := F.fly
  rw [hst] at fl
  refine noteC (by rw [J.ok.frames, hst]) hfr fl fun h4 held4 up4 => landC held4 fun h5 fl5 up5 => ?_
  have J5 : Inv X pins σ H1 { s1 with heap := h5 } := J.landed hB F.trk fl.stays fl5.stays (up4.trans up5)
  have LT : PySem.W.Looks (model X.prog X.w) h5 (typeOf (.ref ea)) (.ref C) := fl5.looks
  refine wpAny_handleBy_cons (codeAny_handlers_test (ld_glob (X := hCx X ea) J5.inH hg hm ?_ hdb)) (by intro q; cases q)
  refine (PySem.W.exm_one J5.kIn LT hm1).here ?_
  exact suite_as hex hN hi hlo J hB F.trk F.noe fl.stays fl5 (up4.trans up5) hs (hth ea F.noe)
end
/-! ### a method that may raise; xs.append(e), e may raise -/
section
variable {X : Cx} {k : Nat} {f C : Addr} {fd : FuncData} {ps : List Str} {sp : Sp} {dvs : List V} {ds : List Value} {m name : Str} {p pos apos cpos : Pos} {o e a : Expr} {es : List Expr} {ta to : TE} {t : TA}
end
end L2

namespace L2
open PySem PySem.Spec PyProof.Rows
/-! ### a row of written texts, of any length -/
def strsOf : List Expr → Option (List Str)
  | [] => some []
  | .Constant (.str x) _ _ :: r => (strsOf r).map (x :: ·)
  | _ => none
def tStrs (ss : List Str) : TA := fun _ H Q => Q (ss.map V.str) H
theorem pa_strs {X : Cx} : ∀ {es : List Expr} {ss : List Str}, strsOf es = some ss → PA X es (tStrs ss)
  | [], ss, h => by
    cases h
    exact pa_nil
  | e :: es, ss, h => by
    cases e with
    | Constant c j p =>
      cases c with
      | str x =>
        obtain ⟨tl, h1, h2⟩ := Option.map_eq_some_iff.mp (show (strsOf es).map (x :: ·) = some ss from h)
        subst h2
        have := pa_cons (X := X) (pe_str (x := x) (j := j) (pos := p)) (pa_strs h1) rfl
        exact this
      | _ => cases h
    | _ => cases h
end L2

namespace L2
open PySem PySem.Spec PyProof.Rows
/-! ### == of what is alike through and through -/
inductive DeepEq (K : PySem.W.Frag) (H : Hp) : Nat → V → V → Prop
  | flat {d : Nat} {x : V} : flatV x = true → DeepEq K H d x x
  | tup {d : Nat} {p q : Addr} {xs ys : List V} : SqT K H p xs → SqT K H q ys → xs.length = ys.length → (∀ j, j < xs.length → DeepEq K H d (xs.getD j .non) (ys.getD j .non)) → DeepEq K H (d + 1) (.ref p) (.ref q)
  | lst {d : Nat} {p q : Addr} {xs ys : List V} : SqL K H p xs → SqL K H q ys → xs.length = ys.length → (∀ j, j < xs.length → DeepEq K H d (xs.getD j .non) (ys.getD j .non)) → DeepEq K H (d + 1) (.ref p) (.ref q)
section
variable {X : Cx} {pins : List (Addr × Obj)} {σ : St} {H : Hp} {s : Shared}
def rEqD (K : PySem.W.Frag) (d : Nat) : R2 := fun x y H Q => ∃ a b, x = .ref a ∧ y = .ref b ∧ DeepEq K H d x y ∧ Q (.bl true) H
end
end L2

namespace L2
open PySem PySem.Spec PyProof.Rows
end L2

namespace L2
open PySem PySem.Spec PyProof.Rows
section
variable {X : Cx} {k : Nat} {f C : Addr} {fd : FuncData} {ps : List Str} {sp : Sp} {dvs : List V} {ds : List Value} {x : Str} {p pos : Pos} {e : Expr} {es : List Expr} {t : TA}
/-- C(..) of an own class whose __init__ may raise -/
theorem run_makeX {pins : List (Addr × Obj)} {σ : St} {H : Hp} {s : Shared} {Q : VK} {Ex : XK} {us : List Value} {vs : List V} (M : Mk X.K C f) (F : FnOk X.prog X.w X.K X.mg X.base (CX1 X.prog X.w) k f fd ps sp) (hr : Room (k + 1) X.A) (hb : Binds X.K fd ps ds) (hd : Vals dvs ds)
    (I : Inv X pins σ H s) (r : Vals vs us)
    (h : ∀ x dx, H x = none → H dx = none → dx ≠ x → sp (.ref x :: (vs ++ dvs)) (upd (upd H dx (.own x)) x (.ins C dx [])) (fun v H2 => v = .non ∧ Q (.ref x) H2) Ex) :
    wpAny (model X.prog X.w) X.A (call (.ref C) us) (EP X pins σ Q) (XP X pins σ Ex) s := by
  have hq := h (s.heap.objs.size + 1) s.heap.objs.size (I.hok.fresh (Nat.le_succ _)) (I.hok.fresh (Nat.le_refl _)) (Nat.ne_of_lt (Nat.lt_succ_self _))
  have I2 := Inv.made (C := C) I
  have r2 : Vals (V.ref (s.heap.objs.size + 1) :: (vs ++ dvs)) (Value.ref (s.heap.objs.size + 1) :: (us ++ ds)) := .cons rfl (r.append hd)
  have hl : (Value.ref (s.heap.objs.size + 1) :: us ++ ds).length = ps.length := by
    have e := r2.length
    rw [F.len _ _ _ _ hq] at e
    exact e.symm
  refine wpAny_call (make_map (f := f) I.kIn M.makes M.init (beq_iff_eq.mp M.fn) (codeAny_mono (F.run _ X.stack _ _ ⟨Value.ref (s.heap.objs.size + 1) :: us, []⟩ (Value.ref (s.heap.objs.size + 1) :: (us ++ ds)) _ _ Ex (hr.make C us [])
    (I2.env0.make C us []) (hb _ (Value.ref (s.heap.objs.size + 1) :: us) I2.kIn hl) r2 hq) fun r s' hq' => ?_))
  cases r with
  | error e =>
    obtain ⟨ea, cls, od, H', B, rfl, os, bare, un, hok, F, inB, hE⟩ := hq'
    exact ⟨ea, cls, od, H', B, rfl, I2.call' os un hok bare fun b z => absurd z (by simp), F, I2.held inB, hE⟩
  | ok fl =>
    cases fl with
    | ret u =>
      obtain ⟨v, H', I3, rv, ev, q3⟩ := I2.after hq'
      subst ev
      exact ⟨rv, ⟨V.ref (s.heap.objs.size + 1), H', I3, rfl, q3⟩⟩
    | next => exact False.elim hq'
    | brk => exact False.elim hq'
    | cont => exact False.elim hq'
theorem pex_make (M : Mk X.K C f) (F : FnOk X.prog X.w X.K X.mg X.base (CX1 X.prog X.w) k f fd ps sp) (hr : Room (k + 1) X.A) (hg : Gl X x) (hm : X.mg x = some (.ref C)) (hb : Binds X.K fd ps ds) (hd : Vals dvs ds)
    (ha : PA X.nox (e :: es) t) (hdb : (x == ("__debug__" : Str)) = false := by decide) (he : starEach (e :: es) X.env = (false, eval e X.env) :: starEach es X.env := by rfl) (hpl : (backTo pos (starEach es X.env)).any (·.1) = false := by rfl) :
    PEX X (.Call (.Name x p) (e :: es) [] pos) (fun Ex => tMake C sp dvs Ex t) := by
  intro pins s σ H Q Ex I h
  refine wpAny_Call_Name_kw (ld_glob I hg hm ?_ hdb)
  refine PySem.W.callWith_K (h₀ := X.base) I.ok.mod.kin M.kp (wpAny_mono (ha pos pins s σ H _ (I.wish _) h) (fun us s1 ⟨vs, H1, I1, r, q⟩ => ⟨I1.unwish.kIn, ?_⟩) fun _ _ z => False.elim z) he hpl
  exact run_makeX M F hr hb hd I1.unwish r q
/-- xs.insert(i, y), i a place of xs or its end -/
theorem mt_insert : MtM X "list.insert" (fun x vs H Q => ∃ l xs j i y, x = .ref l ∧ vs = [.int j, y] ∧ j = ((i : Nat) : Int) ∧ H l = some (.lst xs) ∧ i ≤ xs.length ∧ i ≤ 1000 ∧ xs.length < sizeLine ∧ Q .non (upd H l (.lst (xs.take i ++ y :: xs.drop i)))) := by
  intro pins s σ H x vs v us Q I rx rv h
  obtain ⟨l, xs, j, i, y, rfl, rfl, ej, hH, hi, h1000, hz, q⟩ := h
  cases rx
  obtain ⟨u, u2, rfl, ru, ru2⟩ := rv.two
  obtain ⟨t, rfl⟩ := ru
  obtain ⟨z, its, n, r, hl, e⟩ := I.lstM hH
  have hs : its.toArray.size = its.length := List.size_toArray
  have hf : ¬ (!Builtin.List.listFitsIndex j) = true := by
    have e : Builtin.List.listFitsIndex j = true := fitsIndex_both (by omega) (by omega)
    rw [e]
    exact Bool.false_ne_true
  have hz2 : its.toArray.size ≤ sizeLine := by rw [hs]; omega
  refine call_meets F.slot_list_insert ⟨_, e, rfl⟩ F.entry_list_insert (F.args_list_insert_3 _ _ _) (PySem.AutoSeq1.list_insert_list_int_val_1 l its.toArray n j t u2 hf hz2) ⟨e, ?_⟩
  refine ⟨.non, _, I.lset (its' := its.take i ++ u2 :: its.drop i) hH e ?_ ((r.take i).append (.cons ru2 (r.drop i))) ?_, rfl, q⟩
  · have h0 : ¬ j < 0 := by omega
    have hm : min j.toNat its.toArray.size = i := by rw [hs, ej, Int.toNat_natCast]; omega
    show (its.toArray.extract 0 (if j < 0 then (j + (its.toArray.size : Int)).toNat else min j.toNat its.toArray.size)).push u2 ++ its.toArray.extract (if j < 0 then (j + (its.toArray.size : Int)).toNat else min j.toNat its.toArray.size) = _
    rw [if_neg h0, hm]
    apply Array.ext'
    simp [List.extract]
    exact List.take_of_length_le (by rw [List.length_drop]; exact Nat.le_refl _)
  · rw [List.length_append, List.length_cons, List.length_take, List.length_drop]
    omega
end
end L2

namespace My
open PySem L2
/-! ### helpers to cut a program's rows -/
theorem set_nm {te : TE} {i : Nat} {u : TS} {D : Ends} {σ : St} {H : Hp} (G : V → Hp → Prop) (h : ∀ R : V → Hp → Prop, (∀ v H', G v H' → R v H') → te σ H R) (hu : ∀ v H', G v H' → u D (σ.set i (some v)) H') : tSeq (tAsg te (gName i)) u D σ H := h _ hu
theorem if_cut {c : TT} {t u r : TS} {D : Ends} {σ : St} {H : Hp} (Cb : Bool → Hp → Prop) (Pv : St → Hp → Prop) (hc : ∀ R : Bool → Hp → Prop, (∀ b H', Cb b H' → R b H') → c σ H R)
    (h1 : ∀ H', Cb true H' → ∀ D' : Ends, D'.rt = D.rt → (∀ σ H, Pv σ H → D'.nx σ H) → t D' σ H') (h2 : ∀ H', Cb false H' → ∀ D' : Ends, D'.rt = D.rt → (∀ σ H, Pv σ H → D'.nx σ H) → u D' σ H') (h3 : ∀ σ H, Pv σ H → r D σ H) : tSeq (tIfS c t u) r D σ H :=
  hc _ fun b H' hb => match b, hb with | true, hb => iteT (h1 H' hb { D with nx := r D } rfl h3) | false, hb => iteF (h2 H' hb { D with nx := r D } rfl h3)
theorem nm_of {T : St → Hp → Prop} {rt : VK} {bk ct : St → Hp → Prop} {σ : St} {H : Hp} {i : Nat} {v : V} (h : T (σ.set i (some v)) H) : gName i v σ H (Ends.mk T rt bk ct).nx := h
theorem int_dec {a b : Int} : decide (V.int a = V.int b) = decide (a = b) := decide_eq_decide.mpr ⟨fun h => by injection h, fun h => by rw [h]⟩
theorem nat_dec {a b : Nat} : decide (V.int (a : Nat) = V.int (b : Nat)) = decide (a = b) := int_dec.trans (decide_eq_decide.mpr ⟨fun h => by omega, fun h => by omega⟩)
theorem chg {a b : Bool} {A B : Prop} (e : a = b) (h : if b = true then A else B) : if a = true then A else B := by rw [e]; exact h
theorem natLit {r n : Nat} {i : Int} (h : i = ((n : Nat) : Int)) : decide (V.int ((r : Nat) : Int) = V.int i) = decide (r = n) := by subst h; exact nat_dec
theorem int_nat {z : Int} {n : Nat} (h : 0 < n) : ∃ m : Nat, m < n ∧ z % ((n : Nat) : Int) = ((m : Nat) : Int) := by
  obtain ⟨m, e⟩ := Int.eq_ofNat_of_zero_le (Int.emod_nonneg z (show ((n : Nat) : Int) ≠ 0 by omega))
  exact ⟨m, by have := Int.emod_lt_of_pos z (show (0 : Int) < ((n : Nat) : Int) by omega); omega, e⟩
theorem vS_at {ws : List Str} {j : Nat} {t : Str} (h : ws[j]? = some t) : atI (vS ws) ((j : Nat) : Int) = some (.str t) := atI_nat (by unfold vS; rw [List.getElem?_map, h]; rfl)
theorem vS_set (ws : List Str) (i : Nat) (t : Str) : (vS ws).set i (.str t) = vS (ws.set i t) := by unfold vS; rw [List.map_set]
theorem vS_len (ws : List Str) : (vS ws).length = ws.length := List.length_map _
theorem ixN_nat {n i : Nat} (h : i < n) : ixN n ((i : Nat) : Int) = some i := by
  unfold ixN
  rw [if_pos (by omega), if_pos (by omega), Int.toNat_natCast]
structure LibH (P : Program) (w : World) (K : PySem.W.Frag) (mg : Str → Option Value) (base : Heap) (k : Nat) (x : Str) (ps : List Str) (sp : Sp) (f : Addr) (fd : FuncData) : Prop where
  ok : FnOkH P w K mg base k f fd ps sp
  bd : Binds K fd ps []
  kp : PySem.W.keepIn K (.ref f) = true
  mg : mg x = some (.ref f)
end My

namespace My
open PySem L2
def top (i : Nat) : Stmt := PySem.Challenge.pw_trickproof_k09_no_table.main.body.getD i (.Pass ⟨0, 0, 0, 0⟩)
abbrev sFreeWord : Stmt := inClass (top 22) 0
abbrev sFollowWord : Stmt := inClass (top 23) 0
abbrev sCutWord : Stmt := inClass (top 24) 0
abbrev sBeatWord : Stmt := inClass (top 25) 0
abbrev sDutyOf : Stmt := top 26
abbrev sMarks : Stmt := top 31
abbrev sReadSize : Stmt := top 32
abbrev sReadSeats : Stmt := top 33
abbrev sReadOrder : Stmt := top 34
section
variable {P : Program} {w : World} {K : PySem.W.Frag} {mg : Str → Option Value} {base : Heap} {f g : Addr} {fd gd : FuncData}
/-! ### the words of the duties -/
theorem scFreeWord : FnScope ["self"] ["self"] (defScope sFreeWord) := ⟨rfl, rfl, rfl, by decide +kernel, rfl, by decide +kernel, by decide +kernel⟩
theorem scFollowWord : FnScope ["self"] ["self"] (defScope sFollowWord) := ⟨rfl, rfl, rfl, by decide +kernel, rfl, by decide +kernel, by decide +kernel⟩
theorem scCutWord : FnScope ["self"] ["self"] (defScope sCutWord) := ⟨rfl, rfl, rfl, by decide +kernel, rfl, by decide +kernel, by decide +kernel⟩
theorem scBeatWord : FnScope ["self"] ["self"] (defScope sBeatWord) := ⟨rfl, rfl, rfl, by decide +kernel, rfl, by decide +kernel, by decide +kernel⟩
theorem ok_freeWord {k : Nat} (F : Fun K "word" "Free.word" sFreeWord f fd) : FnOk P w K mg base CX0 (k + 1) f fd ["self"] (spWord 0) := ok_word F scFreeWord rfl fun _ _ _ _ h => h
theorem ok_followWord {k : Nat} (F : Fun K "word" "Follow.word" sFollowWord f fd) : FnOk P w K mg base CX0 (k + 1) f fd ["self"] (spWord 1) := ok_word F scFollowWord rfl fun _ _ _ _ h => h
theorem ok_cutWord {k : Nat} (F : Fun K "word" "Cut.word" sCutWord f fd) : FnOk P w K mg base CX0 (k + 1) f fd ["self"] (spWord 2) := ok_word F scCutWord rfl fun _ _ _ _ h => h
theorem ok_beatWord {k : Nat} (F : Fun K "word" "Beat.word" sBeatWord f fd) : FnOk P w K mg base CX0 (k + 1) f fd ["self"] (spWord 3) := ok_word F scBeatWord rfl fun _ _ _ _ h => h
/-! ### duty_of -/
theorem scDutyOf : FnScope ["word", "duty"] ["word"] (defScope sDutyOf) := ⟨rfl, rfl, rfl, by decide +kernel, rfl, by decide +kernel, by decide +kernel⟩
theorem ok_dutyOf {k : Nat} {CN : Addr} {cs fw : Fin 4 → Addr} {fdw : Fin 4 → FuncData} (F : Fun K "duty_of" "duty_of" sDutyOf f fd) (D : DutyC K mg cs CN) (W : WordF P w K mg base k cs fw fdw) : FnOk P w K mg base (CX1 P w) (k + 1) f fd ["word"] (spDuty cs CN) := by
  refine F.okX scDutyOf (fun vs H Q E h => ?_) (fun cdv A outer s H vs Q E hr h T => ?_)
  · obtain ⟨x, rfl, _⟩ := h
    rfl
  obtain ⟨t, rfl, q, qn⟩ := h
  refine ⟨_, pss_cons (ps_for T.own rfl (pi_tup (pe_tup (pa_cons (pe_makeO (D.mak 0) rfl D.mF) (pa_cons (pe_makeO (D.mak 1) rfl D.mL) (pa_cons (pe_makeO (D.mak 2) rfl D.mC) (pa_cons (pe_makeO (D.mak 3) rfl D.mB) pa_nil)))))) (pg_name (i := 1) scDutyOf.nd rfl (Or.inl rfl))
      (pss_one (ps_if (pt_cmpR op_eq (pe_methF0 (pv 1) W hr pass0) (pv 0) (nomark _)) (pss_one (ps_ret (pv 1))) pss_nil)))
    (pss_one (ps_raise T hr.hd rfl D.mN D.hN (pa_cons pe_str pa_nil))), ?_⟩
  intro x0 d0 hx0 hd0 n0 x1 d1 hx1 hd1 n1 x2 d2 hx2 hd2 n2 x3 d3 hx3 hd3 n3
  refine ⟨fits3 4 (by decide), fun p hp => ?_⟩
  have s0 := same_make (o := .ins (cs 0) d0 []) hx0 hd0 n0
  have s1 := same_make (o := .ins (cs 1) d1 []) hx1 hd1 n1
  have s2 := same_make (o := .ins (cs 2) d2 []) hx2 hd2 n2
  have s3 := same_make (o := .ins (cs 3) d3 []) hx3 hd3 n3
  have sp := same_upd hp (.tup [.ref x0, .ref x1, .ref x2, .ref x3])
  have sA := s0.trans (s1.trans (s2.trans (s3.trans sp)))
  have g0 := sp _ _ (s3 _ _ (s2 _ _ (s1 _ _ (upd_same (a := x0) (o := .ins (cs 0) d0 [])))))
  have g1 := sp _ _ (s3 _ _ (s2 _ _ (upd_same (a := x1) (o := .ins (cs 1) d1 []))))
  have g2 := sp _ _ (s3 _ _ (upd_same (a := x2) (o := .ins (cs 2) d2 [])))
  have g3 := sp _ _ (upd_same (a := x3) (o := .ins (cs 3) d3 []))
  have gp := upd_same (H := upd (upd (upd (upd (upd (upd (upd (upd H d0 (.own x0)) x0 (.ins (cs 0) d0 [])) d1 (.own x1)) x1 (.ins (cs 1) d1 [])) d2 (.own x2)) x2 (.ins (cs 2) d2 [])) d3 (.own x3)) x3 (.ins (cs 3) d3 [])) (a := p) (o := .tup [.ref x0, .ref x1, .ref x2, .ref x3])
  revert g0 g1 g2 g3 gp sA
  generalize upd _ p (.tup [.ref x0, .ref x1, .ref x2, .ref x3]) = H4
  intro sA g0 g1 g2 g3 gp
  have hx1' := s0.free hx1
  have hx2' := s0.free (s1.free hx2)
  have hx3' := s0.free (s1.free (s2.free hx3))
  have G : ∀ (i : Nat) (x : V), ([V.ref x0, V.ref x1, V.ref x2, V.ref x3] : List V)[i]? = some x → ∃ (j : Fin 4) (y dy : Addr), j.val = i ∧ x = .ref y ∧ H y = none ∧ H4 y = some (.ins (cs j) dy []) := fun i x hx => by
    match i, hx with
    | 0, hx => exact ⟨0, x0, d0, rfl, (Option.some.inj hx).symm, hx0, g0⟩
    | 1, hx => exact ⟨1, x1, d1, rfl, (Option.some.inj hx).symm, hx1', g1⟩
    | 2, hx => exact ⟨2, x2, d2, rfl, (Option.some.inj hx).symm, hx2', g2⟩
    | 3, hx => exact ⟨3, x3, d3, rfl, (Option.some.inj hx).symm, hx3', g3⟩
  refine ⟨p, rfl, ⟨_, SqT.of gp⟩, for_tup (xs := [.ref x0, .ref x1, .ref x2, .ref x3]) (fun i σ H' => H' = H4 ∧ (∃ x, σ = [some (.str t), x]) ∧ ∀ j : Fin 4, j.val < i → t ≠ wd j) ⟨rfl, ⟨_, rfl⟩, fun j hj => absurd hj (Nat.not_lt_zero _)⟩ (fun i σ H' _ z => by obtain ⟨rfl, _⟩ := z; exact SqT.of gp) (fun i x σ H' hx z => ?_) (fun σ H' z => ?_)⟩
  · obtain ⟨rfl, ⟨x', rfl⟩, hno⟩ := z
    obtain ⟨j, y, dy, hj, rfl, hy, gy⟩ := G i x hx
    refine ⟨_, rfl, j, y, dy, [], rfl, gy, rfl, y, rfl, _, rfl, rfl, _, rfl, ite2 (fun c => ?_) (fun c => ?_)⟩
    · have c' := of_decide_eq_true c
      injection c' with c'
      exact ⟨_, rfl, q j c'.symm y dy H' sA hy gy⟩
    · refine ⟨rfl, ⟨_, rfl⟩, fun j' hj' e => ?_⟩
      by_cases lt : j'.val < i
      · exact hno j' lt e
      · have ej : j' = j := Fin.ext (by omega)
        subst ej
        exact c (decide_eq_true (by rw [e]))
  · obtain ⟨rfl, ⟨x', rfl⟩, hno⟩ := z
    refine ⟨fits3 1 (by decide), qn (fun z => ?_) _ sA⟩
    obtain ⟨j, hj⟩ := wd_mem z
    exact hno j j.isLt hj
/-! ### the table's text is cut into words, or refused -/
def spMarksX (K : PySem.W.Frag) (CN : Addr) : Sp := fun vs H Q E => ∃ v, vs = [v] ∧
  ((∃ t, v = .str t ∧ t.length ≤ 10000 ∧ (∀ a b c d e, Txt.split t blank = ten a b c d e → ∀ l H', Same H H' → H l = none → H' l = some (.lst (vS [a, b, c, d, e])) → Q (.ref l) H') ∧ ((∀ a b c d e, Txt.split t blank ≠ ten a b c d e) → ∀ H', Same H H' → E (.ref CN) none H')) ∨
   (∃ ty, TyOf K H v ty ∧ PySem.W.kitOne K ty (.type "str") = some false ∧ ∀ H', Same H H' → E (.ref CN) none H'))
theorem scMarks : FnScope ["text", "words"] ["text"] (defScope sMarks) := ⟨rfl, rfl, rfl, by decide +kernel, rfl, by decide +kernel, by decide +kernel⟩
theorem ok_marks {k : Nat} {CN aM : Addr} (F : Fun K "words_behind_marks" "words_behind_marks" sMarks f fd) (mM : mg "MARKS" = some (.ref aM)) (hM : ∀ H, SqT K H aM (vS marks)) (mC : mg "NoTable" = some (.ref CN)) (hC : PySem.W.excIn K CN veTail "ValueError.__new__" = true)
    (mi : mg "isinstance" = none) (ms : mg "str" = none) (ml : mg "len" = none) (mt : mg "tuple" = none) : FnOk P w K mg base (CX1 P w) (k + 1) f fd ["text"] (spMarksX K CN) := by
  refine F.okX scMarks (fun vs H Q E h => ?_) (fun cdv A outer s H vs Q E hr h T => ?_)
  · obtain ⟨x, rfl, _⟩ := h
    rfl
  obtain ⟨v, rfl, h⟩ := h
  refine ⟨_, pss_cons (ps_if (pt_not (pt_truth (pe_callB call_isT rfl mi PyProof.Rows.boot_isinstance (pa_cons (pv 0) (pa_cons (pe_bltn (v := .ty "str") rfl ms PyProof.Rows.boot_str rfl) pa_nil))) (fun _ => rfl))) (pss_one (ps_raise T hr.hd rfl mC hC (pa_cons pe_str pa_nil))) pss_nil)
    (pss_cons (ps_set (i := 1) scMarks.nd rfl (Or.inl rfl) (pe_bm PySem.F.plainAttrs_str PySem.F.slot_str_split PySem.F.type_str_split mt_split (pv 0) (pa_cons pe_str pa_nil)))
    (pss_cons (ps_if (PW.pt (pw_or (pt_cmpR op_ne (pe_callB call_len_seq rfl ml PySem.boot_len (pa_cons (pv 1) pa_nil)) (pe_op op_mul pe_int (pe_callB call_len_seq rfl ml PySem.boot_len (pa_cons (pe_glob (v := .ref aM) rfl mM rfl) pa_nil))) (nomark _))
        (pw_or1 (pt_cmpR (op_neFT hr.units) (pe_callTy call_tuple_of rfl mt PyProof.Rows.boot_tuple (pa_cons (pe_step (pv 1) (po_some pe_int) (po_some pe_int)) pa_nil)) (pe_glob (v := .ref aM) rfl mM rfl) (nomark _))))) (pss_one (ps_raise T hr.hd rfl mC hC (pa_cons pe_str pa_nil))) pss_nil)
    (pss_one (ps_ret (pe_step (pv 1) (po_some pe_int) (po_some pe_int)))))), ?_⟩
  rcases h with ⟨t, rfl, ht, q, qe⟩ | ⟨ty, hty, hk, qe⟩
  · refine ⟨_, rfl, _, _, _, true, rfl, .str _, rfl, true, rfl, iteF ?_⟩
    refine ⟨_, rfl, rfl, t, blank, rfl, rfl, (by decide +kernel), ht, fun l hl => ?_⟩
    revert q qe
    generalize Txt.split t blank = ws
    intro q qe
    have s1 := same_upd hl (.lst (vS ws))
    refine ⟨_, rfl, l, _, rfl, .inl (SqL.of upd_same), aM, _, rfl, .inr (hM _), _, _, rfl, rfl, .inl ⟨by decide, by decide⟩, rfl, _, rfl, ?_⟩
    have el : (!decide (V.int (((vS ws).length : Nat) : Int) = V.int (2 * (((vS marks).length : Nat) : Int)))) = !decide (ws.length = 10) := by
      have e1 : (vS ws).length = ws.length := List.length_map _
      have e2 : (vS marks).length = 5 := rfl
      rw [e1, e2]
      exact congrArg (fun b => !b) (decide_eq_decide.mpr ⟨fun h => by injection h with h; omega, fun h => by rw [h]; rfl⟩)
    refine chg el ?_
    by_cases h10 : ws.length = 10
    · rw [decide_eq_true h10]
      obtain ⟨a0, a1, a2, a3, a4, a5, a6, a7, a8, a9, rfl⟩ : ∃ a0 a1 a2 a3 a4 a5 a6 a7 a8 a9, ws = [a0, a1, a2, a3, a4, a5, a6, a7, a8, a9] := match ws, h10 with | [a0, a1, a2, a3, a4, a5, a6, a7, a8, a9], _ => ⟨a0, a1, a2, a3, a4, a5, a6, a7, a8, a9, rfl⟩
      refine iteF ⟨_, rfl, _, rfl, _, rfl, rfl, l, .str a0, .str a1, .str a2, .str a3, .str a4, .str a5, .str a6, .str a7, .str a8, .str a9, rfl, SqL.of upd_same, .inl ⟨rfl, fun p hp => ?_⟩⟩
      have s2 := same_upd hp (.lst (vS [a0, a2, a4, a6, a8]))
      refine ⟨p, vS [a0, a2, a4, a6, a8], rfl, .inl ⟨SqL.of upd_same, fun p2 hp2 => ?_⟩⟩
      have s3 := same_upd hp2 (.tup (vS [a0, a2, a4, a6, a8]))
      have sA := s1.trans (s2.trans s3)
      refine ⟨p2, aM, vS [a0, a2, a4, a6, a8], vS marks, rfl, rfl, ⟨SqT.of upd_same, hM _⟩, vS_flat _, vS_flat _, _, rfl, ?_⟩
      refine chg (show (!eqVs (vS [a0, a2, a4, a6, a8]) (vS marks)) = !decide ([a0, a2, a4, a6, a8] = marks) by rw [eqVs_dec]) ?_
      by_cases em : [a0, a2, a4, a6, a8] = marks
      · rw [decide_eq_true em]
        have em' : [a0, a2, a4, a6, a8] = (["pack", "seats", "duty", "plain", "trump"] : List Str) := em
        injection em' with e0 em'
        injection em' with e2 em'
        injection em' with e4 em'
        injection em' with e6 em'
        injection em' with e8 em'
        subst e0 e2 e4 e6 e8
        refine iteF ⟨_, rfl, _, rfl, _, rfl, rfl, l, .str "pack", .str a1, .str "seats", .str a3, .str "duty", .str a5, .str "plain", .str a7, .str "trump", .str a9, rfl, SqL.of (s3 _ _ (s2 _ _ upd_same)), .inr ⟨rfl, fun p3 hp3 => ?_⟩⟩
        exact q a1 a3 a5 a7 a9 rfl p3 _ (sA.trans (same_upd hp3 _)) (sA.free hp3) upd_same
      · rw [decide_eq_false em]
        refine iteT ⟨fits3 1 (by decide), qe (fun a b c d e z => em ?_) _ sA⟩
        unfold ten at z
        injection z with z0 z
        injection z with _ z
        injection z with z2 z
        injection z with _ z
        injection z with z4 z
        injection z with _ z
        injection z with z6 z
        injection z with _ z
        injection z with z8 z
        rw [z0, z2, z4, z6, z8]
        rfl
    · rw [decide_eq_false h10]
      exact iteT (iteT ⟨fits3 1 (by decide), qe (fun a b c d e z => h10 (by rw [z]; rfl)) _ s1⟩)
  · exact ⟨_, rfl, _, _, _, false, rfl, hty, hk, false, rfl, iteT ⟨fits3 1 (by decide), qe _ (Same.refl _)⟩⟩
/-! ### the size, the seats, an order -/
def szT (s h : Nat) : Str := ⟨#[48 + s, 120, 48 + h]⟩
def spSizeX (CN : Addr) : Sp := fun vs H Q E => ∃ t : Str, vs = [.str t] ∧ t.length ≤ 1000 ∧ (∀ s h, 1 ≤ s → s ≤ 4 → 1 ≤ h → h ≤ 8 → t = szT s h → ∀ p H', Same H H' → H p = none → H' p = some (.tup [.int (s : Nat), .int (h : Nat)]) → Q (.ref p) H') ∧
  ((∀ s h, 1 ≤ s → s ≤ 4 → 1 ≤ h → h ≤ 8 → t ≠ szT s h) → ∀ H', Same H H' → E (.ref CN) none H')
theorem scSize : FnScope ["word", "suits", "heights"] ["word"] (defScope sReadSize) := ⟨rfl, rfl, rfl, by decide +kernel, rfl, by decide +kernel, by decide +kernel⟩
theorem str3 {t : Str} (h : t.length = 3) : ∃ a b c, t = ⟨#[a, b, c]⟩ := by
  obtain ⟨⟨l⟩⟩ := t
  have h' : l.length = 3 := h
  match l, h' with
  | [a, b, c], _ => exact ⟨a, b, c, rfl⟩
theorem ok_size {k : Nat} {CN : Addr} {t1 t2 : Tok} (F : Fun K "read_size" "read_size" sReadSize f fd) (mF : mg "FIGURES" = some (.str sFig t1)) (mL : mg "LETTERS" = some (.str sLet t2)) (mC : mg "NoTable" = some (.ref CN)) (hC : PySem.W.excIn K CN veTail "ValueError.__new__" = true) (ml : mg "len" = none) :
    FnOk P w K mg base (CX1 P w) (k + 1) f fd ["word"] (spSizeX CN) := by
  refine F.okX scSize (fun vs H Q E h => ?_) (fun cdv A outer s H vs Q E hr h T => ?_)
  · obtain ⟨x, rfl, _⟩ := h
    rfl
  obtain ⟨t, rfl, ht, q, qe⟩ := h
  refine ⟨_, pss_cons (ps_if (PW.pt (pw_or (pt_cmpR op_ne (pe_callB call_len_str rfl ml PySem.boot_len (pa_cons (pv 0) pa_nil)) pe_int (nomark _)) (pw_or1 (pt_cmpR op_ne (pe_ix ix_str (pv 0) pe_int (fun _ _ => rfl)) pe_str (nomark _))))) (pss_one (ps_raise T hr.hd rfl mC hC (pa_cons pe_str pa_nil))) pss_nil)
    (pss_cons (ps_set (i := 1) scSize.nd rfl (Or.inl rfl) (pe_op op_add (pe_bm PySem.F.plainAttrs_str PySem.F.slot_str_find PySem.F.type_str_find mt_find (pe_glob (v := .str sFig) rfl mF ⟨_, rfl⟩) (pa_cons (pe_ix ix_str (pv 0) pe_int (fun _ _ => rfl)) pa_nil)) pe_int))
    (pss_cons (ps_set (i := 2) scSize.nd rfl (Or.inl rfl) (pe_op op_add (pe_bm PySem.F.plainAttrs_str PySem.F.slot_str_find PySem.F.type_str_find mt_find (pe_glob (v := .str sFig) rfl mF ⟨_, rfl⟩) (pa_cons (pe_ix ix_str (pv 0) pe_int (fun _ _ => rfl)) pa_nil)) pe_int))
    (pss_cons (ps_if (PW.pt (pw_or (pt_cmpR op_eq (pv 1) pe_int (nomark _)) (pw_or (pt_cmpR op_gt (pv 1) (pe_callB call_len_str rfl ml PySem.boot_len (pa_cons (pe_glob (v := .str sLet) rfl mL ⟨_, rfl⟩) pa_nil)) (nomark _)) (pw_or1 (pt_cmpR op_eq (pv 2) pe_int (nomark _)))))) (pss_one (ps_raise T hr.hd rfl mC hC (pa_cons pe_str pa_nil))) pss_nil)
    (pss_one (ps_ret (pe_tup (pa_cons (pv 1) (pa_cons (pv 2) pa_nil)))))))), ?_⟩
  have hz : t.length ≤ sizeLine := fits3 _ ht
  have sz3 : ∀ s h, (szT s h).length = 3 := fun _ _ => rfl
  refine ⟨_, rfl, _, rfl, hz, rfl, _, rfl, chg (show (!decide (V.int ((t.length : Nat) : Int) = V.int 3)) = !decide (t.length = 3) from congrArg (fun b => !b) (decide_eq_decide.mpr ⟨fun h => by injection h with h; omega, fun h => by rw [h]; rfl⟩)) ?_⟩
  by_cases l3 : t.length = 3
  · rw [decide_eq_true l3]
    obtain ⟨a, b, c, rfl⟩ := str3 l3
    have at0 : atI (⟨#[a, b, c]⟩ : Str).cps.toList 0 = some a := atI_nat (j := 0) rfl
    have at1 : atI (⟨#[a, b, c]⟩ : Str).cps.toList 1 = some b := atI_nat (j := 1) rfl
    have at2 : atI (⟨#[a, b, c]⟩ : Str).cps.toList 2 = some c := atI_nat (j := 2) rfl
    have inj : ∀ {s h : Nat}, (⟨#[a, b, c]⟩ : Str) = szT s h → a = 48 + s ∧ b = 120 ∧ c = 48 + h := fun {s h} z => by
      unfold szT at z
      injection z with z
      have e : [a, b, c] = [48 + s, 120, 48 + h] := congrArg Array.toList z
      injection e with e1 e
      injection e with e2 e
      injection e with e3 e
      exact ⟨e1, e2, e3⟩
    refine iteF ⟨_, rfl, _, _, _, rfl, rfl, hz, at1, rfl, _, rfl, chg (show (!decide (V.str ⟨#[b]⟩ = V.str "x")) = !decide (b = 120) from congrArg (fun b => !b) (decide_eq_decide.mpr ⟨fun h => ?_, fun h => by rw [h]; decide +kernel⟩)) ?_⟩
    · injection h with h
      have e : (⟨#[b]⟩ : Str).cps.toList = ("x" : Str).cps.toList := by rw [h]
      have e2 : ("x" : Str).cps.toList = [120] := by decide +kernel
      rw [e2] at e
      exact (List.cons.inj e).1
    by_cases b120 : b = 120
    · rw [decide_eq_true b120]
      refine iteF ?_
      refine ⟨rfl, _, rfl, _, _, _, rfl, rfl, hz, at0, _, _, rfl, rfl, _, _, rfl, rfl, ?_⟩
      refine ⟨rfl, _, rfl, _, _, _, rfl, rfl, hz, at2, _, _, rfl, rfl, _, _, rfl, rfl, ?_⟩
      rw [find_fig, find_fig]
      have l4 : ((sLet.length : Nat) : Int) = 4 := by decide +kernel
      by_cases ha : 49 ≤ a ∧ a ≤ 56
      · rw [if_pos ha]
        refine ⟨_, rfl, rfl, _, rfl, ?_⟩
        rw [decide_eq_false (fun y => by injection y with y; omega)]
        refine iteF ⟨_, rfl, _, rfl, fits3 4 (by decide), _, _, rfl, rfl, _, rfl, ?_⟩
        rw [l4]
        by_cases a4 : a ≤ 52
        · rw [decide_eq_false (show ¬ (4 : Int) < (((a - 49 : Nat) : Int) + 1) by omega)]
          refine iteF ⟨_, rfl, rfl, _, rfl, ?_⟩
          by_cases hc : 49 ≤ c ∧ c ≤ 56
          · rw [if_pos hc, decide_eq_false (fun y => by injection y with y; omega)]
            have e1 : ((a - 49 : Nat) : Int) + 1 = ((a - 48 : Nat) : Int) := by omega
            have e2 : ((c - 49 : Nat) : Int) + 1 = ((c - 48 : Nat) : Int) := by omega
            dsimp only
            rw [e1, e2]
            refine iteF ⟨_, rfl, _, rfl, fits3 2 (by decide), fun p hp => q (a - 48) (c - 48) (by omega) (by omega) (by omega) (by omega) ?_ p _ (same_upd hp _) hp upd_same⟩
            unfold szT
            rw [b120, show 48 + (a - 48) = a by omega, show 48 + (c - 48) = c by omega]
          · rw [if_neg hc, decide_eq_true (show V.int (-1 + 1) = V.int 0 from rfl)]
            exact iteT ⟨fits3 1 (by decide), qe (fun s h _ _ _ _ z => by have := inj z; omega) _ (Same.refl _)⟩
        · rw [decide_eq_true (show (4 : Int) < (((a - 49 : Nat) : Int) + 1) by omega)]
          exact iteT (iteT ⟨fits3 1 (by decide), qe (fun s h _ _ _ _ z => by have := inj z; omega) _ (Same.refl _)⟩)
      · rw [if_neg ha]
        refine ⟨_, rfl, rfl, _, rfl, ?_⟩
        rw [decide_eq_true (show V.int (-1 + 1) = V.int 0 from rfl)]
        exact iteT (iteT ⟨fits3 1 (by decide), qe (fun s h _ _ _ _ z => by have := inj z; omega) _ (Same.refl _)⟩)
    · rw [decide_eq_false b120]
      exact iteT ⟨fits3 1 (by decide), qe (fun s h _ _ _ _ z => b120 (inj z).2.1) _ (Same.refl _)⟩
  · rw [decide_eq_false l3]
    exact iteT (iteT ⟨fits3 1 (by decide), qe (fun s h _ _ _ _ z => l3 (by rw [z]; rfl)) _ (Same.refl _)⟩)
def spSeatsX (CN : Addr) : Sp := fun vs H Q E => ∃ t : Str, vs = [.str t] ∧ (∀ n, n = 3 ∨ n = 4 → t = ⟨#[48 + n]⟩ → ∀ H', Same H H' → Q (.int (n : Nat)) H') ∧ ((∀ n, n = 3 ∨ n = 4 → t ≠ ⟨#[48 + n]⟩) → ∀ H', Same H H' → E (.ref CN) none H')
theorem scSeats : FnScope ["word"] ["word"] (defScope sReadSeats) := ⟨rfl, rfl, rfl, by decide +kernel, rfl, by decide +kernel, by decide +kernel⟩
theorem ok_seats {k : Nat} {CN : Addr} (F : Fun K "read_seats" "read_seats" sReadSeats f fd) (mC : mg "NoTable" = some (.ref CN)) (hC : PySem.W.excIn K CN veTail "ValueError.__new__" = true) (mI : mg "int" = none) : FnOk P w K mg base (CX1 P w) (k + 1) f fd ["word"] (spSeatsX CN) := by
  refine F.okX scSeats (fun vs H Q E h => ?_) (fun cdv A outer s H vs Q E hr h T => ?_)
  · obtain ⟨x, rfl, _⟩ := h
    rfl
  obtain ⟨t, rfl, q, qe⟩ := h
  refine ⟨_, pss_cons (ps_if (pt_cmpR op_notIn_seq (pv 0) (pe_tup (pa_cons pe_str (pa_cons pe_str pa_nil))) rfl) (pss_one (ps_raise T hr.hd rfl mC hC (pa_cons pe_str pa_nil))) pss_nil)
    (pss_one (ps_ret (pe_callTy call_int_str rfl mI PyProof.Rows.boot_int (pa_cons (pv 0) pa_nil)))), ?_⟩
  refine ⟨_, rfl, fits3 2 (by decide), fun p hp => ?_⟩
  have s1 := same_upd hp (.tup (vS ["3", "4"]))
  refine ⟨p, vS ["3", "4"], rfl, .inr (SqT.of upd_same), rfl, rfl, _, rfl, ?_⟩
  refine chg (show (!inV (.str t) (vS ["3", "4"])) = !decide (t ∈ (["3", "4"] : List Str)) by rw [inV_str]) ?_
  have e3 : ("3" : Str) = ⟨#[48 + 3]⟩ := by decide +kernel
  have e4 : ("4" : Str) = ⟨#[48 + 4]⟩ := by decide +kernel
  by_cases m : t ∈ (["3", "4"] : List Str)
  · rw [decide_eq_true m]
    rcases List.mem_cons.mp m with rfl | m
    · exact iteF ⟨_, rfl, _, 3, rfl, by decide +kernel, by decide +kernel, q 3 (.inl rfl) e3 _ s1⟩
    · obtain rfl := List.mem_singleton.mp m
      exact iteF ⟨_, rfl, _, 4, rfl, by decide +kernel, by decide +kernel, q 4 (.inr rfl) e4 _ s1⟩
  · rw [decide_eq_false m]
    refine iteT ⟨fits3 1 (by decide), qe (fun n hn z => m ?_) _ s1⟩
    rcases hn with rfl | rfl
    · rw [z, ← e3]
      exact List.mem_cons_self
    · rw [z, ← e4]
      exact List.mem_cons_of_mem _ List.mem_cons_self
def spOrdX (CN : Addr) : Sp := fun vs H Q E => ∃ (t : Str) (h : Nat), vs = [.str t, .int (h : Nat)] ∧ h ≤ 8 ∧ t.length < 64 ∧ (∀ l : List Nat, l.Perm (List.range h) → t = figS l → ∀ p H', Same H H' → H p = none → H' p = some (.tup (vN l)) → Q (.ref p) H') ∧
  ((∀ l : List Nat, l.Perm (List.range h) → t ≠ figS l) → ∀ H', Same H H' → E (.ref CN) none H')
theorem scOrd : FnScope ["word", "heights"] ["word", "heights"] (defScope sReadOrder) := ⟨rfl, rfl, rfl, by decide +kernel, rfl, by decide +kernel, by decide +kernel⟩
theorem fig_of_chars {t : Str} {h : Nat} (p : ((List.range h).map sgn).Perm (chars t)) : ∃ l : List Nat, l.Perm (List.range h) ∧ t = figS l := by
  have q := p.symm
  obtain ⟨ks, e, pk⟩ := of_perm_map q
  refine ⟨ks, pk, str_ext ?_⟩
  have inj : ∀ xs ys : List Nat, (xs.map fun c => (⟨#[c]⟩ : Str)) = (ys.map fun c => (⟨#[c]⟩ : Str)) → xs = ys := fun xs => by
    induction xs with
    | nil => intro ys h; cases ys with
      | nil => rfl
      | cons y ys => cases h
    | cons x xs ih => intro ys h; cases ys with
      | nil => cases h
      | cons y ys =>
        injection h with h1 h2
        injection h1 with h1
        have h3 : [x] = [y] := congrArg Array.toList h1
        injection h3 with h3
        rw [h3, ih ys h2]
  refine inj _ _ ?_
  have e1 : (t.cps.toList.map fun c => (⟨#[c]⟩ : Str)) = ks.map sgn := e
  have e2 : ((figS ks).cps.toList.map fun c => (⟨#[c]⟩ : Str)) = ks.map sgn := chars_fig ks
  rw [e1, e2]
theorem ok_ord {k : Nat} {CN : Addr} {t1 : Tok} (F : Fun K "read_order" "read_order" sReadOrder f fd) (mF : mg "FIGURES" = some (.str sFig t1)) (mC : mg "NoTable" = some (.ref CN)) (hC : PySem.W.excIn K CN veTail "ValueError.__new__" = true) (mS : mg "sorted" = none) (mLi : mg "list" = none) (mt : mg "tuple" = none) :
    FnOk P w K mg base (CX1 P w) (k + 1) f fd ["word", "heights"] (spOrdX CN) := by
  refine F.okX scOrd (fun vs H Q E h => ?_) (fun cdv A outer s H vs Q E hr h T => ?_)
  · obtain ⟨t, h, rfl, _⟩ := h
    rfl
  obtain ⟨t, h, rfl, h8, t64, q, qe⟩ := h
  refine ⟨_, pss_cons (ps_if (pt_cmpR (op_neFL hr.units) (pe_callB (call_sorted_str rfl) rfl mS PyProof.Rows.boot_sorted (pa_cons (pv 0) pa_nil)) (pe_callTy (call_list_strL rfl) rfl mLi PyProof.Rows.boot_list (pa_cons (pe_slice sl_str (pe_glob (v := .str sFig) rfl mF ⟨_, rfl⟩) po_none (po_some (pv 1))) pa_nil)) (nomark _)) (pss_one (ps_raise T hr.hd rfl mC hC (pa_cons pe_str pa_nil))) pss_nil)
    (pss_one (ps_ret (pe_callTy call_tuple_of rfl mt PyProof.Rows.boot_tuple (pa_cons (pe_comp ["figure"] [none] rfl (Blk.by (sc := defScope sReadOrder) (N0 := ["word", "heights"]) rfl rfl (by decide +kernel)) (pi_str (pv 0)) (fun C s₀ H₀ ex => pg_name (i := 0) (show (["figure"] : List Str).Nodup by decide +kernel) rfl (Or.inl rfl))
      (fun C s₀ H₀ ex => pf_nil) (fun C s₀ H₀ ex => pe_findK (K := K) rfl (pe_glob (v := .str sFig) rfl mF ⟨_, rfl⟩) (pa_cons (pv 0) pa_nil))) pa_nil)))), ?_⟩
  refine ⟨_, rfl, t, rfl, t64, fun l1 ss hl1 hp hs => ?_⟩
  have s1 := same_upd hl1 (.lst (vS ss))
  refine ⟨_, rfl, _, rfl, sFig, rfl, (by decide +kernel), _, rfl, Nat.le_trans (Txt.slice_le _ _ _) (by decide +kernel), fun l2 hl2 => ?_⟩
  rw [fig_slice h h8]
  have s2 := same_upd hl2 (.lst (vS ((List.range h).map sgn)))
  have sA := s1.trans s2
  refine ⟨l1, l2, _, _, rfl, rfl, ⟨SqL.of (s2 _ _ upd_same), SqL.of upd_same⟩, vS_flat _, vS_flat _, _, rfl, ?_⟩
  refine chg (show (!eqVs (vS ss) (vS ((List.range h).map sgn))) = !decide (ss = (List.range h).map sgn) by rw [eqVs_dec]) ?_
  by_cases es : ss = (List.range h).map sgn
  · rw [decide_eq_true es]
    obtain ⟨l, pm, rfl⟩ := fig_of_chars (t := t) (h := h) (es ▸ hp)
    have ll : l.length = h := perm_len pm
    refine iteF ⟨_, rfl, figS l, rfl, ?_⟩
    refine comp_any l.length (fun i => .str (sgn (l.getD i 0))) (fun _ => true) (fun i => .int ((l.getD i 0 : Nat) : Int)) (fits3 _ (by omega)) (fun i H3 s3 hi => ?_) (fun H3 s3 => ?_) (fun i H3 x H4 s3 hi y => ?_) (fun i H3 hi sm R hR => hR H3 (Same.refl H3)) (fun i H3 hi hp sm R hR => ?_) (fun l3 H3 s3 hl3 hL3 => ?_)
    · show i < (figS l).cps.size
      have := figS_len l
      unfold Str.length at this
      omega
    · show (figS l).cps.size ≤ l.length
      have := figS_len l
      unfold Str.length at this
      omega
    · obtain ⟨rfl, c, hc, rfl⟩ := y
      refine ⟨rfl, ?_⟩
      have e : (figS l).cps.toList[i]? = some c := by rw [← hc]; simp
      rw [show (figS l).cps.toList = l.map (49 + ·) from rfl, List.getElem?_map, List.getElem?_eq_getElem hi] at e
      have e2 : 49 + l[i] = c := Option.some.inj e
      rw [List.getD_eq_getElem?_getD, List.getElem?_eq_getElem hi, ← e2]
      rfl
    · have lt : l.getD i 0 < 8 := by
        rw [List.getD_eq_getElem?_getD, List.getElem?_eq_getElem hi]
        have := perm_lt pm l[i] (List.getElem_mem hi)
        show l[i] < 8
        omega
      refine ⟨rfl, _, rfl, _, _, rfl, rfl, ?_⟩
      show R (.int (Txt.find sFig (sgn (l.getD i 0)))) H3
      rw [find_sgn _ lt]
      exact hR H3 (Same.refl H3)
    · have e : ((List.range l.length).filter fun _ => true).map (fun i => V.int ((l.getD i 0 : Nat) : Int)) = vN l := by
        have z := filter_map_range l (fun _ => true) (fun c => V.int ((c : Nat) : Int)) 0
        rw [z, List.filter_eq_self.mpr (fun _ _ => rfl)]
        rfl
      rw [e] at hL3
      refine ⟨l3, _, rfl, .inl ⟨SqL.of hL3, fun p hp => ?_⟩⟩
      have sB := sA.trans s3
      exact q l pm rfl p _ (sB.trans (same_upd hp _)) (sB.free hp) upd_same
  · rw [decide_eq_false es]
    exact iteT ⟨fits3 1 (by decide), qe (fun l pm z => es (order_sorted pm (z ▸ hp) hs)) _ sA⟩
end
end My

namespace My
open PySem L2
theorem fromH {F : Hp → Prop} {H H' : Hp} (e : H' = H) (h : F H) : F H' := by rw [e]; exact h
abbrev sTabInit : Stmt := inClass (top 35) 0
section
variable {P : Program} {w : World} {K : PySem.W.Frag} {mg : Str → Option Value} {base : Heap} {f g : Addr} {fd gd : FuncData}
/-! ### Table, or no table -/
/-- a value that is no text -/
def NoStr (K : PySem.W.Frag) (H : Hp) (v : V) : Prop := (∃ ty, TyOf K H v ty ∧ PySem.W.kitOne K ty (.type "str") = some false) ∧ ∀ t, v ≠ .str t
def spTabX (K : PySem.W.Frag) (CT CN : Addr) : Sp := fun vs H Q E => ∃ (x dx : Addr) (v : V), vs = [.ref x, v] ∧ H x = some (.ins CT dx []) ∧ ((∃ t, v = .str t ∧ t.length ≤ 90) ∨ NoStr K H v) ∧
  (∀ f : Fx, f.Ok → v = .str (tabT f) → ∀ po to H', Keep x H H' → H' x = some (.ins CT dx (tabF f po to)) → H' po = some (.tup (vN f.pl)) → H' to = some (.tup (vN f.tr)) → Q .non H') ∧
  ((∀ f : Fx, f.Ok → v ≠ .str (tabT f)) → ∀ H', Keep x H H' → E (.ref CN) none H')
theorem scTab : FnScope ["self", "text", "words", "size"] ["self", "text"] (defScope sTabInit) := ⟨rfl, rfl, rfl, by decide +kernel, rfl, by decide +kernel, by decide +kernel⟩
theorem ok_tab {k : Nat} {CT CN f1 f2 f3 f4 f5 : Addr} {d1 d2 d3 d4 d5 : FuncData} {cs fw : Fin 4 → Addr} {fdw : Fin 4 → FuncData} (F : Fun K "__init__" "Table.__init__" sTabInit f fd) (C : TabC K mg CT) (LM : LibX P w K mg base k "words_behind_marks" ["text"] (spMarksX K CN) f1 d1) (LZ : LibX P w K mg base k "read_size" ["word"] (spSizeX CN) f2 d2)
    (LS : LibX P w K mg base k "read_seats" ["word"] (spSeatsX CN) f3 d3) (LO : LibX P w K mg base k "read_order" ["word", "heights"] (spOrdX CN) f4 d4) (LD : LibX P w K mg base k "duty_of" ["word"] (spDuty cs CN) f5 d5) (W : WordF P w K mg base k cs fw fdw) : FnOk P w K mg base (CX1 P w) (k + 1) f fd ["self", "text"] (spTabX K CT CN) := by
  refine F.okX scTab (fun vs H Q E h => ?_) (fun cdv A outer s H vs Q E hr h T => ?_)
  · obtain ⟨x, dx, v, rfl, _⟩ := h
    rfl
  obtain ⟨x, dx, v, rfl, hx, hv, q, qe⟩ := h
  refine ⟨_, pss_cons (ps_set (i := 2) scTab.nd rfl (Or.inl rfl) (pe_call LM.ok hr rfl LM.mg LM.kp LM.bd .nil T.on (pa_cons (pv 1) pa_nil)))
    (pss_cons (ps_set (i := 3) scTab.nd rfl (Or.inl rfl) (pe_call LZ.ok hr rfl LZ.mg LZ.kp LZ.bd .nil T.on (pa_cons (pe_ix ix_list (pv 2) pe_int (fun _ _ => rfl)) pa_nil)))
    (pss_cons (ps_fld (pv 0) (pe_ix ix_tup (pv 3) pe_int (fun _ _ => rfl)) rfl)
    (pss_cons (ps_fld (pv 0) (pe_ix ix_tup (pv 3) pe_int (fun _ _ => rfl)) rfl)
    (pss_cons (ps_fld (pv 0) (pe_call LS.ok hr rfl LS.mg LS.kp LS.bd .nil T.on (pa_cons (pe_ix ix_list (pv 2) pe_int (fun _ _ => rfl)) pa_nil)) rfl)
    (pss_cons (ps_fld (pv 0) (pe_methF0 (pe_call LD.ok hr rfl LD.mg LD.kp LD.bd .nil T.on (pa_cons (pe_ix ix_list (pv 2) pe_int (fun _ _ => rfl)) pa_nil)) W hr pass0) rfl)
    (pss_cons (ps_fld (pv 0) (pe_call LO.ok hr rfl LO.mg LO.kp LO.bd .nil T.on (pa_cons (pe_ix ix_list (pv 2) pe_int (fun _ _ => rfl)) (pa_cons (pe_fld (pv 0) rfl) pa_nil))) rfl)
    (pss_cons (ps_fld (pv 0) (pe_call LO.ok hr rfl LO.mg LO.kp LO.bd .nil T.on (pa_cons (pe_ix ix_list (pv 2) pe_int (fun _ _ => rfl)) (pa_cons (pe_fld (pv 0) rfl) pa_nil))) rfl)
    (pss_one (ps_fld (pv 0) (pv 1) rfl))))))))), ?_⟩
  rcases hv with ⟨t, rfl, t90⟩ | ⟨⟨ty, hty, hk⟩, hn⟩
  · refine ⟨_, rfl, .str t, rfl, .inl ⟨t, rfl, by omega, fun a b c d e hw l H1 s1 hl hL => ?_, fun hno H' s => qe (fun f ok z => hno _ _ _ _ _ (show Txt.split t blank = ten (sizeT f) (seatT f) (wd f.d) (figS f.pl) (figS f.tr) by injection z with z; rw [z, tab_split]; rfl)) _ (Keep.of s)⟩⟩
    have lens := ten_len hw
    have bad : (∀ f : Fx, f.Ok → tabW f ≠ ten a b c d e) → ∀ f : Fx, f.Ok → V.str t ≠ V.str (tabT f) := fun h f ok z => by
      injection z with z
      rw [z, tab_split] at hw
      exact h f ok hw
    have inj : ∀ {f : Fx}, tabW f = ten a b c d e → sizeT f = a ∧ seatT f = b ∧ wd f.d = c ∧ figS f.pl = d ∧ figS f.tr = e := fun {f} z => by
      unfold tabW ten at z
      injection z with _ z
      injection z with z1 z
      injection z with _ z
      injection z with z2 z
      injection z with _ z
      injection z with z3 z
      injection z with _ z
      injection z with z4 z
      injection z with _ z
      injection z with z5 z
      exact ⟨z1, z2, z3, z4, z5⟩
    have hx1 := s1 _ _ hx
    have nlx : l ≠ x := ne_of hL hx1 (by intro z; cases z)
    refine ⟨_, rfl, l, _, 0, .str a, rfl, rfl, SqL.of hL, rfl, a, rfl, by omega, fun sv hv sv1 sv4 hv1 hv8 ea p H2 s2 hp hP => ?_, fun hno H' s' => qe (bad fun f ok z => hno f.s f.h ok.s1 ok.s4 ok.h1 ok.h8 (inj z).1.symm) _ (Keep.of (s1.trans s'))⟩
    subst ea
    have hx2 := s2 _ _ hx1
    have hL2 := s2 _ _ hL
    have npx : p ≠ x := ne_of hP hx2 (by intro z; cases z)
    generalize hf2 : (⟨sv, hv, 3, 0, [], []⟩ : Fx) = fz
    have fs : fz.s = sv := by rw [← hf2]
    have fh : fz.h = hv := by rw [← hf2]
    rw [← fs, ← fh] at hP
    refine ⟨_, rfl, p, _, 0, .int (fz.s : Nat), rfl, rfl, SqT.of hP, rfl, _, rfl, x, CT, dx, [], rfl, hx2, C.cl, C.nS, by decide, ?_⟩
    refine ⟨_, rfl, p, [.int (fz.s : Nat), .int (fz.h : Nat)], 1, .int (fz.h : Nat), rfl, rfl, SqT.of (by rw [upd_ne npx]; exact hP), rfl, _, rfl, x, CT, dx, tF1 fz 0 0, rfl, upd_same, C.cl, C.nH, Nat.lt_of_le_of_lt (tF1_len _ _ _) (by decide), ?_⟩
    have k2 : Keep x H (upd H2 x (.ins CT dx (tF2 fz 0 0))) := (Keep.of (s1.trans s2)).trans Keep.upd
    have hL3 : (upd H2 x (.ins CT dx (tF2 fz 0 0))) l = some (.lst (vS [szT sv hv, b, c, d, e])) := by rw [upd_ne nlx]; exact hL2
    have hx3 : (upd H2 x (.ins CT dx (tF2 fz 0 0))) x = some (.ins CT dx (tF2 fz 0 0)) := upd_same
    refine fromH (H := upd H2 x (.ins CT dx (tF2 fz 0 0))) ?_ ?_
    · first | rfl | exact upd_upd | (rw [upd_upd]; rfl)
    revert k2 hL3 hx3
    generalize upd H2 x (.ins CT dx (tF2 fz 0 0)) = H3
    intro k2 hL3 hx3
    refine ⟨_, rfl, l, _, 1, .str b, rfl, rfl, SqL.of hL3, rfl, b, rfl, fun nv hnv eb H4 s4 => ?_, fun hno H' s' => qe (bad fun f ok z => hno f.n ok.n34 (inj z).2.1.symm) _ (k2.trans (Keep.of s'))⟩
    subst eb
    have e3 : ∃ fy : Fx, fy = ⟨sv, hv, nv, 0, [], []⟩ ∧ tF2 fz 0 0 = tF2 fy 0 0 ∧ fy.n = nv := ⟨_, rfl, by rw [← hf2]; rfl, rfl⟩
    obtain ⟨fy, hfy, e2, en⟩ := e3
    rw [e2] at hx3
    rw [← en]
    refine ⟨_, rfl, x, CT, dx, tF2 fy 0 0, rfl, s4 _ _ hx3, C.cl, C.nN, Nat.lt_of_le_of_lt (tF2_len _ _ _) (by decide), ?_⟩
    have k4 : Keep x H (upd H4 x (.ins CT dx (tF3 fy 0 0))) := k2.trans ((Keep.of s4).trans Keep.upd)
    have hL5 : (upd H4 x (.ins CT dx (tF3 fy 0 0))) l = some (.lst (vS [szT sv hv, ⟨#[48 + nv]⟩, c, d, e])) := by rw [upd_ne nlx]; exact s4 _ _ hL3
    have hx5 : (upd H4 x (.ins CT dx (tF3 fy 0 0))) x = some (.ins CT dx (tF3 fy 0 0)) := upd_same
    refine fromH (H := upd H4 x (.ins CT dx (tF3 fy 0 0))) ?_ ?_
    · first | rfl | exact upd_upd | (rw [upd_upd]; rfl)
    revert k4 hL5 hx5
    generalize upd H4 x (.ins CT dx (tF3 fy 0 0)) = H5
    intro k4 hL5 hx5
    refine ⟨_, rfl, l, _, 2, .str c, rfl, rfl, SqL.of hL5, rfl, c, rfl, fun i ec y dy H6 s6 hy h6 => ?_, fun hno H' s' => qe (bad fun f ok z => hno (by rw [← (inj z).2.2.1]; exact mem_wd _)) _ (k4.trans (Keep.of s'))⟩
    subst ec
    have e4 : ∃ fw' : Fx, fw' = ⟨sv, hv, nv, i, [], []⟩ ∧ tF3 fy 0 0 = tF3 fw' 0 0 ∧ fw'.d = i ∧ fw'.h = hv := ⟨_, rfl, by rw [hfy]; rfl, rfl, rfl⟩
    obtain ⟨fq, hfq, e4, ei, eh⟩ := e4
    rw [e4] at hx5
    refine ⟨i, y, dy, [], rfl, h6, rfl, y, rfl, ?_⟩
    rw [← ei]
    refine ⟨_, rfl, x, CT, dx, tF3 fq 0 0, rfl, s6 _ _ hx5, C.cl, C.nD, Nat.lt_of_le_of_lt (tF3_len _ _ _) (by decide), ?_⟩
    have k6 : Keep x H (upd H6 x (.ins CT dx (tF4 fq 0 0))) := k4.trans ((Keep.of s6).trans Keep.upd)
    have hL7 : (upd H6 x (.ins CT dx (tF4 fq 0 0))) l = some (.lst (vS [szT sv hv, ⟨#[48 + nv]⟩, wd i, d, e])) := by rw [upd_ne nlx]; exact s6 _ _ hL5
    have hx7 : (upd H6 x (.ins CT dx (tF4 fq 0 0))) x = some (.ins CT dx (tF4 fq 0 0)) := upd_same
    refine fromH (H := upd H6 x (.ins CT dx (tF4 fq 0 0))) ?_ ?_
    · first | rfl | exact upd_upd | (rw [upd_upd]; rfl)
    revert k6 hL7 hx7
    generalize upd H6 x (.ins CT dx (tF4 fq 0 0)) = H7
    intro k6 hL7 hx7
    have szh : ∀ {f : Fx}, sizeT f = szT sv hv → f.h = hv := fun {f} z => by
      have z' : sizeT f = sizeT ⟨sv, hv, 3, 0, [], []⟩ := z
      exact size_inj z'
    refine ⟨_, rfl, l, _, 3, .str d, rfl, rfl, SqL.of hL7, rfl, _, rfl, x, CT, dx, _, _, rfl, hx7, C.cl, C.nH, look4_heights _ _ _, d, hv, (by rw [eh]; rfl), hv8, by omega, fun pl pp ed po H8 s8 hpo hP8 => ?_, fun hno H' s' => qe (bad fun f ok z => hno f.pl (by rw [← szh (inj z).1]; exact ok.pp) (inj z).2.2.2.1.symm) _ (k6.trans (Keep.of s'))⟩
    subst ed
    refine ⟨_, rfl, x, CT, dx, tF4 fq po 0, rfl, s8 _ _ hx7, C.cl, C.nP, Nat.lt_of_le_of_lt (tF4_len _ _ _) (by decide), ?_⟩
    have nox : po ≠ x := fun z => by
      rw [z, hx7] at hpo
      cases hpo
    have k8 : Keep x H (upd H8 x (.ins CT dx (tF5 fq po 0))) := k6.trans ((Keep.of s8).trans Keep.upd)
    have hL9 : (upd H8 x (.ins CT dx (tF5 fq po 0))) l = some (.lst (vS [szT sv hv, ⟨#[48 + nv]⟩, wd i, figS pl, e])) := by rw [upd_ne nlx]; exact s8 _ _ hL7
    have hP9 : (upd H8 x (.ins CT dx (tF5 fq po 0))) po = some (.tup (vN pl)) := by rw [upd_ne nox]; exact hP8
    have hx9 : (upd H8 x (.ins CT dx (tF5 fq po 0))) x = some (.ins CT dx (tF5 fq po 0)) := upd_same
    refine fromH (H := upd H8 x (.ins CT dx (tF5 fq po 0))) ?_ ?_
    · first | rfl | exact upd_upd | (rw [upd_upd]; rfl)
    revert k8 hL9 hP9 hx9
    generalize upd H8 x (.ins CT dx (tF5 fq po 0)) = H9
    intro k8 hL9 hP9 hx9
    refine ⟨_, rfl, l, _, 4, .str e, rfl, rfl, SqL.of hL9, rfl, _, rfl, x, CT, dx, _, _, rfl, hx9, C.cl, C.nH, look5_heights _ _ _, e, hv, (by rw [eh]; rfl), hv8, by omega, fun tr pt ee to H10 s10 hto hT10 => ?_, fun hno H' s' => qe (bad fun f ok z => hno f.tr (by rw [← szh (inj z).1]; exact ok.pt) (inj z).2.2.2.2.symm) _ (k8.trans (Keep.of s'))⟩
    subst ee
    refine ⟨_, rfl, x, CT, dx, tF5 fq po to, rfl, s10 _ _ hx9, C.cl, C.nT, Nat.lt_of_le_of_lt (tF5_len _ _ _) (by decide), ?_⟩
    have ntx : to ≠ x := fun z => by
      rw [z, hx9] at hto
      cases hto
    obtain ⟨fx, hfx⟩ : ∃ fx : Fx, fx = ⟨sv, hv, nv, i, pl, tr⟩ := ⟨_, rfl⟩
    have ok : fx.Ok := by rw [hfx]; exact ⟨sv1, sv4, hv1, hv8, hnv, pp, pt⟩
    have et : t = tabT fx := by
      have z := join_back t
      rw [hw] at z
      rw [← z, hfx]
      rfl
    have e6 : tF6 fq po to = tF6 fx po to := by rw [hfq, hfx]; rfl
    refine ⟨_, rfl, _, rfl, x, CT, dx, tF6 fq po to, rfl, upd_same, C.cl, C.nW, Nat.lt_of_le_of_lt (tF6_len _ _ _) (by decide), ?_⟩
    rw [upd_upd]
    have fin := q fx ok (by rw [et]) po to (upd H10 x (.ins CT dx (tabF fx po to))) (k8.trans ((Keep.of s10).trans Keep.upd)) upd_same (by rw [upd_ne nox, hfx]; exact s10 _ _ hP9) (by rw [upd_ne ntx, hfx]; exact hT10)
    rw [e6, et]
    exact fin
  · exact ⟨_, rfl, v, rfl, .inr ⟨ty, hty, hk, fun H' s => qe (fun f _ z => hn _ z) _ (Keep.of s)⟩⟩
end
end My

namespace My
open PySem L2
abbrev sTabText : Stmt := inClass (top 35) 1
abbrev sCell : Stmt := top 37
abbrev sMixed : Stmt := top 38
abbrev sOrder : Stmt := top 39
section
variable {P : Program} {w : World} {K : PySem.W.Frag} {mg : Str → Option Value} {base : Heap} {f g : Addr} {fd gd : FuncData}
/-! ### a table's answers -/
def spTText (CT : Addr) : Sp := fun vs H Q _ => ∃ (x : Addr) (f : Fx), vs = [.ref x] ∧ IsTab CT f H x ∧ Q (.str (tabT f)) H
theorem scTText : FnScope ["self"] ["self"] (defScope sTabText) := ⟨rfl, rfl, rfl, by decide +kernel, rfl, by decide +kernel, by decide +kernel⟩
theorem ok_ttext {k : Nat} {CT : Addr} (F : Fun K "text" "Table.text" sTabText f fd) (C : TabC K mg CT) : FnOk P w K mg base CX0 (k + 1) f fd ["self"] (spTText CT) := by
  refine F.ok scTText (fun vs H Q E h => ?_) (fun cdv A outer s H vs Q E hr h => ?_)
  · obtain ⟨x, fx, rfl, _⟩ := h
    rfl
  obtain ⟨x, fx, rfl, ⟨dx, po, to, hx, _, _⟩, q⟩ := h
  refine ⟨_, pss_one (ps_ret (pe_fld (pv 0) rfl)), ?_⟩
  exact ⟨_, rfl, x, CT, dx, _, _, rfl, hx, C.cl, C.nW, look7_written _ _ _, q⟩
/-! ### the law's own drawings -/
def spCell (K : PySem.W.Frag) : Sp := fun vs H Q _ => ∃ (a : Addr) (ns : List Int) (k : Nat), vs = [.ref a, .int (k : Nat)] ∧ SqL K H a (ns.map V.int) ∧ k ≤ 1000 ∧ ∀ z : Int, Q (.int z) H
abbrev pCell : List Str := ["_law_script", "_law_k"]
theorem scCell : FnScope ["_law_script", "_law_k", "_law_number"] pCell (defScope sCell) := ⟨rfl, rfl, rfl, by decide +kernel, rfl, by decide +kernel, by decide +kernel⟩
theorem ok_cell {k : Nat} (F : Fun K "_law_cell" "_law_cell" sCell f fd) (ml : mg "len" = none) : FnOk P w K mg base CX0 (k + 1) f fd pCell (spCell K) := by
  refine F.ok scCell (fun vs H Q E h => ?_) (fun cdv A outer s H vs Q E hr h => ?_)
  · obtain ⟨a, ns, k, rfl, _⟩ := h
    rfl
  obtain ⟨a, ns, j, rfl, hS, h1, q⟩ := h
  refine ⟨_, pss_cons (ps_if (pt_cmpR op_lt (pv 1) (pe_callB call_len_seq rfl ml PySem.boot_len (pa_cons (pv 0) pa_nil)) (nomark _)) (pss_one (ps_ret (pe_ix ix_list (pv 0) (pv 1) (fun _ _ => rfl)))) pss_nil)
    (pss_cons (ps_set (i := 2) scCell.nd rfl (Or.inl rfl) (pe_op op_add (pe_op op_mul (pv 1) pe_int) pe_int))
    (pss_cons (ps_if (pt_cmpR op_gt (pe_callB call_len_seq rfl ml PySem.boot_len (pa_cons (pv 0) pa_nil)) pe_int (nomark _))
      (pss_one (ps_set (i := 2) scCell.nd rfl (Or.inl rfl) (pe_op op_mod (pe_op op_add (pe_op op_mul (pe_ix ix_list (pv 0) (pe_op op_mod (pe_op op_mul (pv 1) pe_int) (pe_callB call_len_seq rfl ml PySem.boot_len (pa_cons (pv 0) pa_nil))) (fun _ _ => rfl)) pe_int) (pe_op op_mul (pv 1) pe_int)) pe_int))) pss_nil)
    (pss_one (ps_ret (pe_op op_mod (pe_op op_mul (pv 2) (pv 2)) pe_int))))), ?_⟩
  have hl : (ns.map V.int).length = ns.length := List.length_map _
  refine ⟨_, rfl, _, rfl, a, _, rfl, .inl hS, _, _, rfl, rfl, _, rfl, ite2 (fun c => ?_) (fun c => ?_)⟩
  · have c' : ((j : Nat) : Int) < (((ns.map V.int).length : Nat) : Int) := of_decide_eq_true c
    have hj : j < ns.length := by rw [hl] at c'; omega
    exact ⟨_, rfl, _, rfl, a, _, _, _, rfl, rfl, hS, atI_nat (by rw [List.getElem?_map, List.getElem?_eq_getElem hj]; rfl), q _⟩
  refine ⟨_, rfl, _, _, rfl, rfl, .inr ⟨by decide, by decide⟩, _, _, rfl, rfl, ?_⟩
  refine ⟨_, rfl, a, _, rfl, .inl hS, _, _, rfl, rfl, _, rfl, ?_⟩
  refine cut_if (fun σ H' => H' = H ∧ ∃ z : Int, 0 ≤ z ∧ z < 4294967296 ∧ σ = [some (.ref a), some (.int (j : Nat)), some (.int z)]) (fun c D' _ nx => ?_) (fun c D' _ nx => ?_) (fun σ H' z => ?_)
  · have c' : (((ns.map V.int).length : Nat) : Int) > 0 := of_decide_eq_true c
    rw [hl] at c'
    obtain ⟨v, hv⟩ := item_at (ns := ns) (k := (j : Int) * 7) (by omega)
    refine ⟨_, rfl, _, rfl, _, _, rfl, rfl, .inr ⟨by decide, by decide⟩, _, rfl, a, _, rfl, .inl hS, _, _, rfl, rfl, (by rw [hl]; omega), a, _, _, _, rfl, rfl, hS, hv, _, _, rfl, rfl, .inr ⟨by decide, by decide⟩, _, rfl, _, _, rfl, rfl, .inr ⟨by decide, by decide⟩, _, _, rfl, rfl, _, _, rfl, rfl, (show (0 : Int) < 2147483647 by decide), ?_⟩
    refine nx _ _ ⟨rfl, _, Int.emod_nonneg _ (by decide), ?_, rfl⟩
    have := Int.emod_lt_of_pos (v * 48271 + (j : Int) * 7919) (show (0 : Int) < 2147483647 by decide)
    omega
  · exact nx _ _ ⟨rfl, (j : Int) * 7919 + 5, by omega, by omega, rfl⟩
  · obtain ⟨rfl, z, z0, z1, rfl⟩ := z
    exact ⟨_, rfl, _, rfl, _, _, rfl, rfl, .inl ⟨by omega, by omega⟩, _, _, rfl, rfl, (show (0 : Int) < 2147483629 by decide), q _⟩
def spMixed : Sp := fun vs H Q _ => ∃ (c : Int) (k : Nat), vs = [.int c, .int (k : Nat)] ∧ k ≤ 1000 ∧ ∀ z : Int, 0 ≤ z → Q (.int z) H
theorem scMixed : FnScope ["_law_cell_here", "_law_k", "_law_number"] ["_law_cell_here", "_law_k"] (defScope sMixed) := ⟨rfl, rfl, rfl, by decide +kernel, rfl, by decide +kernel, by decide +kernel⟩
theorem ok_mixed {k : Nat} (F : Fun K "_law_mixed" "_law_mixed" sMixed f fd) : FnOk P w K mg base CX0 (k + 1) f fd ["_law_cell_here", "_law_k"] spMixed := by
  refine F.ok scMixed (fun vs H Q E h => ?_) (fun cdv A outer s H vs Q E hr h => ?_)
  · obtain ⟨c, k, rfl, _⟩ := h
    rfl
  obtain ⟨c, j, rfl, h1, q⟩ := h
  refine ⟨_, pss_cons (ps_set (i := 2) scMixed.nd rfl (Or.inl rfl) (pe_op op_mod (pe_op op_mul (pe_op op_add (pe_op op_mod (pv 0) pe_int) pe_int) (pe_op op_add (pe_op op_mul (pv 1) (pv 1)) pe_int)) pe_int))
    (pss_one (ps_ret (pe_op op_mod (pe_op op_mul (pv 2) (pe_op op_add (pv 2) (pv 1))) pe_int))), ?_⟩
  have a0 := Int.emod_nonneg c (show (2147483647 : Int) ≠ 0 by decide)
  have a1 := Int.emod_lt_of_pos c (show (0 : Int) < 2147483647 by decide)
  refine ⟨_, rfl, _, _, rfl, rfl, (show (0 : Int) < 2147483647 by decide), _, _, rfl, rfl, _, rfl, _, rfl, _, _, rfl, rfl, .inl ⟨by omega, by omega⟩, _, _, rfl, rfl, _, _, rfl, rfl, .inl ⟨by omega, by omega⟩, _, _, rfl, rfl, (show (0 : Int) < 2147483629 by decide), ?_⟩
  have b0 := Int.emod_nonneg ((c % 2147483647 + 1) * ((j : Int) * (j : Int) + 48271)) (show (2147483629 : Int) ≠ 0 by decide)
  have b1 := Int.emod_lt_of_pos ((c % 2147483647 + 1) * ((j : Int) * (j : Int) + 48271)) (show (0 : Int) < 2147483629 by decide)
  exact ⟨_, rfl, _, rfl, _, rfl, _, _, rfl, rfl, _, _, rfl, rfl, .inl ⟨by omega, by omega⟩, _, _, rfl, rfl, (show (0 : Int) < 2147483587 by decide), q _ (Int.emod_nonneg _ (by decide))⟩
def spOrder (K : PySem.W.Frag) : Sp := fun vs H Q _ => ∃ (c : Int) (h : Nat), vs = [.int c, .int (h : Nat)] ∧ 1 ≤ h ∧ h ≤ 8 ∧ ∀ l ls H', Same H H' → H l = none → H' l = some (.lst (vN ls)) → ls.Perm (List.range h) → Q (.ref l) H'
abbrev nOrder : List Str := ["_law_cell_here", "_law_heights", "_law_spare", "_law_order_here", "_law_k"]
theorem scOrder : FnScope nOrder ["_law_cell_here", "_law_heights"] (defScope sOrder) := ⟨rfl, rfl, rfl, by decide +kernel, rfl, by decide +kernel, by decide +kernel⟩
theorem erase_map {α β : Type} (f : α → β) : ∀ (l : List α) (i : Nat), (l.map f).eraseIdx i = (l.eraseIdx i).map f
  | [], i => rfl
  | x :: l, 0 => rfl
  | x :: l, i + 1 => by
    show f x :: (l.map f).eraseIdx i = f x :: (l.eraseIdx i).map f
    rw [erase_map f l i]
theorem range_vN (h : Nat) : ((List.range h).filter fun _ => true).map (fun i => V.int ((0 : Int) + (i : Nat))) = vN (List.range h) := by
  rw [List.filter_eq_self.mpr (fun _ _ => rfl)]
  unfold vN
  refine List.map_congr_left fun i _ => ?_
  rw [Int.zero_add]
theorem ok_order {k : Nat} (F : Fun K "_law_order" "_law_order" sOrder f fd) (mr : mg "range" = none) : FnOk P w K mg base CX0 (k + 1) f fd ["_law_cell_here", "_law_heights"] (spOrder K) := by
  refine F.ok scOrder (fun vs H Q E h => ?_) (fun cdv A outer s H vs Q E hr h => ?_)
  · obtain ⟨c, h, rfl, _⟩ := h
    rfl
  obtain ⟨c, h, rfl, h1, h8, q⟩ := h
  refine ⟨_, pss_cons (ps_setcomp (i := 2) ["_law_height"] [none] rfl scOrder.nd rfl (Or.inl rfl) (Blk.by (sc := defScope sOrder) (N0 := nOrder) rfl rfl (by decide +kernel)) (pi_range1 rfl mr (pa_cons (pv 1) pa_nil)) (fun C s₀ H₀ ex => pg_name (i := 0) (show (["_law_height"] : List Str).Nodup by decide +kernel) rfl (Or.inl rfl)) (fun C s₀ H₀ ex => pf_nil) (fun C s₀ H₀ ex => pv 0))
    (pss_cons (ps_set (i := 3) scOrder.nd rfl (Or.inl rfl) (pe_lst pa_nil))
    (pss_cons (ps_for PassesOwn.never rfl (pi_range1 rfl mr (pa_cons (pv 1) pa_nil)) (pg_name (i := 4) scOrder.nd rfl (Or.inl rfl))
      (pss_cons (ps_expr (pe_bm PySem.F.plainAttrs_list PySem.F.slot_list_append PySem.F.type_list_append mt_append (pv 3) (pa_cons (pe_bm PySem.F.plainAttrs_list PySem.F.slot_list_pop PySem.F.type_list_pop mt_popAt (pv 2) (pa_cons (pe_op op_mod (pv 0) (pe_op op_sub (pv 1) (pv 4))) pa_nil)) pa_nil)))
      (pss_one (ps_set (i := 0) scOrder.nd rfl (Or.inl rfl) (pe_op op_fdiv (pv 0) (pe_op op_sub (pv 1) (pv 4)))))))
    (pss_one (ps_ret (pv 3))))), ?_⟩
  refine ⟨_, rfl, (h : Int), rfl, by omega, by omega, ?_⟩
  refine comp_range (n := h) (lo := 0) (fun _ => true) (fun i => .int ((0 : Int) + (i : Nat))) (fits3 _ (by omega)) (fun i H2 hi sm R hR => hR H2 (Same.refl H2)) (fun i H2 hi hp sm R hR => ⟨_, rfl, hR H2 (Same.refl H2)⟩) (fun l1 H1 s1 hl1 hL1 => ?_)
  rw [range_vN] at hL1
  refine ⟨fits3 0 (by decide), fun l2 hl2 => ?_⟩
  have n12 : l1 ≠ l2 := ne_of_none hL1 hl2
  refine ⟨_, rfl, (h : Int), rfl, by omega, by omega, ?_⟩
  refine for_range (n := h) (fun i σ H' => Same H H' ∧ ∃ (c : Int) (sp od : List Nat) (x4 : Option V), σ = [some (.int c), some (.int (h : Nat)), some (.ref l1), some (.ref l2), x4] ∧ H' l1 = some (.lst (vN sp)) ∧ H' l2 = some (.lst (vN od)) ∧ (od ++ sp).Perm (List.range h) ∧ sp.length + i = h ∧ od.length = i)
    ⟨s1.trans (same_upd hl2 _), c, List.range h, [], _, rfl, same_upd hl2 _ _ _ hL1, upd_same, List.Perm.refl _, List.length_range, rfl⟩ (fun i σ H2 hi z => ?_) (fun σ H2 z => ?_)
  · obtain ⟨s2, c, sp, od, x4, rfl, g1, g2, pm, hsp, hod⟩ := z
    have hd : (0 : Int) < ((h : Nat) : Int) - (0 + (i : Nat)) := by omega
    have m0 := Int.emod_nonneg c (show ((h : Nat) : Int) - (0 + (i : Nat)) ≠ 0 by omega)
    have m1 := Int.emod_lt_of_pos c hd
    obtain ⟨j, hj⟩ := Int.eq_ofNat_of_zero_le m0
    have hj2 : j < sp.length := by omega
    have ex : (vN sp)[j]? = some (.int ((sp[j] : Nat) : Int)) := by
      unfold vN
      rw [List.getElem?_map, List.getElem?_eq_getElem hj2]
      rfl
    refine ⟨_, rfl, .inl ⟨rfl, _, SqL.of g2⟩, _, rfl, .inl ⟨rfl, _, SqL.of g1⟩, _, rfl, _, rfl, _, rfl, _, _, rfl, rfl, _, _, rfl, rfl, hd, l1, vN sp, _, j, _, rfl, rfl, g1, by omega, by omega, (by rw [hj, vN_len, seqIndex_of (by omega) (by omega)]; rfl), ex, ?_⟩
    refine ⟨l2, vN od, _, rfl, rfl, (by rw [upd_ne n12.symm]; exact g2), (by rw [vN_len]; have := fits3 100 (by decide); omega), ?_⟩
    refine ⟨_, rfl, _, rfl, _, rfl, _, _, rfl, rfl, _, _, rfl, rfl, ⟨hd, by omega⟩, ?_⟩
    have e1 : (vN sp).eraseIdx j = vN (sp.eraseIdx j) := by exact erase_map _ _ _
    have e2 : vN od ++ [.int ((sp[j] : Nat) : Int)] = vN (od ++ [sp[j]]) := by unfold vN; rw [List.map_append]; rfl
    refine ⟨?_, _, sp.eraseIdx j, od ++ [sp[j]], _, rfl, ?_, ?_, ?_, ?_, ?_⟩
    · intro b o hb
      have hb1 : b ≠ l1 := fun z => by rw [z, hl1] at hb; cases hb
      have hb2 : b ≠ l2 := fun z => by rw [z, s1.free hl2] at hb; cases hb
      rw [upd_ne hb2, upd_ne hb1]
      exact s2 _ _ hb
    · rw [upd_ne n12, upd_same, e1]
    · rw [upd_same, e2]
    · rw [List.append_assoc]
      exact ((perm_erase sp j sp[j] (List.getElem?_eq_getElem hj2)).append_left od).symm.trans pm
    · rw [List.length_eraseIdx, if_pos hj2]
      omega
    · rw [List.length_append]
      simp [hod]
  · obtain ⟨s2, c, sp, od, x4, rfl, g1, g2, pm, hsp, hod⟩ := z
    have e : sp = [] := List.eq_nil_of_length_eq_zero (by omega)
    subst e
    rw [List.append_nil] at pm
    exact ⟨_, rfl, q l2 od H2 s2 (s1.free hl2) g2 pm⟩
end
end My

namespace My
open PySem L2
abbrev sTable : Stmt := top 40
abbrev sText : Stmt := top 41
section
variable {P : Program} {w : World} {K : PySem.W.Frag} {mg : Str → Option Value} {base : Heap} {f g : Addr} {fd gd : FuncData}
/-! ### a table's facts, drawn, and their text -/
def IsFx (f : Fx) (H : Hp) (l : Addr) : Prop := ∃ pl tr, H l = some (.lst [.int (f.s : Nat), .int (f.h : Nat), .int (f.n : Nat), .str (wd f.d), .ref pl, .ref tr]) ∧ H pl = some (.lst (vN f.pl)) ∧ H tr = some (.lst (vN f.tr))
theorem IsFx.same {f : Fx} {H H' : Hp} {l : Addr} (h : IsFx f H l) (s : Same H H') : IsFx f H' l := by
  obtain ⟨pl, tr, a, b, c⟩ := h
  exact ⟨pl, tr, s _ _ a, s _ _ b, s _ _ c⟩
def spTable (K : PySem.W.Frag) : Sp := fun vs H Q _ => ∃ (a : Addr) (ns : List Int), vs = [.ref a] ∧ SqL K H a (ns.map V.int) ∧ ∀ l f H', f.Ok → Same H H' → H l = none → IsFx f H' l → Q (.ref l) H'
abbrev nTable : List Str := ["_law_script", "_law_cell_here", "_law_heights", "_law_plain", "_law_trump", "_law_word"]
theorem scTable : FnScope nTable ["_law_script"] (defScope sTable) := ⟨rfl, rfl, rfl, by decide +kernel, rfl, by decide +kernel, by decide +kernel⟩
theorem ok_table {k : Nat} {f1 f2 f3 : Addr} {d1 d2 d3 : FuncData} (F : Fun K "_law_table" "_law_table" sTable f fd) (LC : Lib P w K mg base k "_law_cell" pCell (spCell K) f1 d1) (LX : Lib P w K mg base k "_law_mixed" ["_law_cell_here", "_law_k"] spMixed f2 d2)
    (LO : Lib P w K mg base k "_law_order" ["_law_cell_here", "_law_heights"] (spOrder K) f3 d3) (mr : mg "range" = none) : FnOk P w K mg base CX0 (k + 1) f fd ["_law_script"] (spTable K) := by
  refine F.ok scTable (fun vs H Q E h => ?_) (fun cdv A outer s H vs Q E hr h => ?_)
  · obtain ⟨a, ns, rfl, _⟩ := h
    rfl
  obtain ⟨a, ns, rfl, hS, q⟩ := h
  refine ⟨_, pss_cons (ps_set (i := 1) scTable.nd rfl (Or.inl rfl) (pe_call LC.ok hr rfl LC.mg LC.kp LC.bd .nil pass0 (pa_cons (pv 0) (pa_cons pe_int pa_nil))))
    (pss_cons (ps_set (i := 2) scTable.nd rfl (Or.inl rfl) (pe_op op_add pe_int (pe_op op_mod (pe_op op_fdiv (pv 1) pe_int) pe_int)))
    (pss_cons (ps_setcomp (i := 3) ["_law_height"] [none] rfl scTable.nd rfl (Or.inl rfl) (Blk.by (sc := defScope sTable) (N0 := nTable) rfl rfl (by decide +kernel)) (pi_range1 rfl mr (pa_cons (pv 2) pa_nil)) (fun C s₀ H₀ ex => pg_name (i := 0) (show (["_law_height"] : List Str).Nodup by decide +kernel) rfl (Or.inl rfl)) (fun C s₀ H₀ ex => pf_nil) (fun C s₀ H₀ ex => pv 0))
    (pss_cons (ps_if (pt_cmpR op_gt (pe_op op_mod (pe_op op_fdiv (pv 1) pe_int) pe_int) pe_int (nomark _)) (pss_one (ps_set (i := 3) scTable.nd rfl (Or.inl rfl) (pe_call LO.ok hr rfl LO.mg LO.kp LO.bd .nil pass0 (pa_cons (pe_call LX.ok hr rfl LX.mg LX.kp LX.bd .nil pass0 (pa_cons (pv 1) (pa_cons pe_int pa_nil))) (pa_cons (pv 2) pa_nil))))) pss_nil)
    (pss_cons (ps_set (i := 4) scTable.nd rfl (Or.inl rfl) (pe_call LO.ok hr rfl LO.mg LO.kp LO.bd .nil pass0 (pa_cons (pe_call LX.ok hr rfl LX.mg LX.kp LX.bd .nil pass0 (pa_cons (pv 1) (pa_cons pe_int pa_nil))) (pa_cons (pv 2) pa_nil))))
    (pss_cons (ps_set (i := 5) scTable.nd rfl (Or.inl rfl) (pe_ix ix_list (pe_lst (pa_cons pe_str (pa_cons pe_str (pa_cons pe_str (pa_cons pe_str pa_nil))))) (pe_op op_mod (pe_op op_fdiv (pv 1) pe_int) pe_int) (fun _ _ => rfl)))
    (pss_one (ps_ret (pe_lst (pa_cons (pe_op op_add pe_int (pe_op op_mod (pv 1) pe_int)) (pa_cons (pv 2) (pa_cons (pe_op op_add pe_int (pe_op op_mod (pe_op op_fdiv (pv 1) pe_int) pe_int)) (pa_cons (pv 5) (pa_cons (pv 3) (pa_cons (pv 4) pa_nil)))))))))))))), ?_⟩
  refine ⟨_, rfl, a, ns, 0, rfl, hS, by decide, fun c => ?_⟩
  refine ⟨_, rfl, _, _, rfl, rfl, ⟨by decide, by decide⟩, _, _, rfl, rfl, (show (0 : Int) < 8 by decide), _, _, rfl, rfl, ?_⟩
  have a0 := Int.emod_nonneg (c / 8) (show (8 : Int) ≠ 0 by decide)
  have a1 := Int.emod_lt_of_pos (c / 8) (show (0 : Int) < 8 by decide)
  obtain ⟨h, eh, h1, h8⟩ : ∃ h : Nat, 1 + c / 8 % 8 = ((h : Nat) : Int) ∧ 1 ≤ h ∧ h ≤ 8 := ⟨(1 + c / 8 % 8).toNat, by omega, by omega, by omega⟩
  dsimp only
  rw [eh]
  refine ⟨_, rfl, (h : Int), rfl, by omega, by omega, ?_⟩
  refine comp_range (n := h) (lo := 0) (fun _ => true) (fun i => .int ((0 : Int) + (i : Nat))) (fits3 _ (by omega)) (fun i H2 hi sm R hR => hR H2 (Same.refl H2)) (fun i H2 hi hp sm R hR => ⟨_, rfl, hR H2 (Same.refl H2)⟩) (fun l1 H1 s1 hl1 hL1 => ?_)
  rw [range_vN] at hL1
  refine ⟨_, rfl, _, _, rfl, rfl, ⟨by decide, by decide⟩, _, _, rfl, rfl, (show (0 : Int) < 4 by decide), _, _, rfl, rfl, _, rfl, ?_⟩
  refine cut_if (fun σ H' => Same H H' ∧ ∃ (l : Addr) (ls : List Nat), ls.Perm (List.range h) ∧ H' l = some (.lst (vN ls)) ∧ σ = [some (.ref a), some (.int c), some (.int (h : Nat)), some (.ref l), none, none]) (fun _ D' _ nx => ?_) (fun _ D' _ nx => nx _ _ ⟨s1, l1, _, List.Perm.refl _, hL1, rfl⟩) (fun σ H2 z => ?_)
  · refine ⟨_, rfl, c, 1, rfl, by decide, fun z hz => ⟨_, rfl, z, h, rfl, h1, h8, fun l ls H2 s2 hl hL pm => nx _ _ ⟨s1.trans s2, l, ls, pm, hL, rfl⟩⟩⟩
  obtain ⟨s2, lp, ls, pp, hP, rfl⟩ := z
  refine ⟨_, rfl, c, 2, rfl, by decide, fun z hz => ⟨_, rfl, z, h, rfl, h1, h8, fun lt lts H3 s3 hlt hT pt => ?_⟩⟩
  refine ⟨fits3 4 (by decide), fun lw hlw => ?_⟩
  have s4 := same_upd hlw (.lst (vS wds))
  obtain ⟨v, hv, ev⟩ := pickA (vS wds) 4 rfl (by decide) (c / 256)
  obtain ⟨t, ht, rfl⟩ := List.mem_map.mp hv
  obtain ⟨d, rfl⟩ := wd_mem ht
  refine ⟨_, rfl, _, _, rfl, rfl, ⟨by decide, by decide⟩, _, _, rfl, rfl, (show (0 : Int) < 4 by decide), lw, _, _, _, rfl, rfl, SqL.of upd_same, ev, ?_⟩
  refine ⟨_, rfl, _, _, rfl, rfl, (show (0 : Int) < 4 by decide), _, _, rfl, rfl, _, rfl, _, rfl, _, _, rfl, rfl, ⟨by decide, by decide⟩, _, _, rfl, rfl, (show (0 : Int) < 2 by decide), _, _, rfl, rfl, _, rfl, _, rfl, _, rfl, fits3 6 (by decide), fun l hl => ?_⟩
  have b0 := Int.emod_nonneg c (show (4 : Int) ≠ 0 by decide)
  have b1 := Int.emod_lt_of_pos c (show (0 : Int) < 4 by decide)
  have d0 := Int.emod_nonneg (c / 4) (show (2 : Int) ≠ 0 by decide)
  have d1 := Int.emod_lt_of_pos (c / 4) (show (0 : Int) < 2 by decide)
  obtain ⟨sN, es, s1', s4'⟩ : ∃ n : Nat, 1 + c % 4 = ((n : Nat) : Int) ∧ 1 ≤ n ∧ n ≤ 4 := ⟨(1 + c % 4).toNat, by omega, by omega, by omega⟩
  obtain ⟨nN, en, n34⟩ : ∃ n : Nat, 3 + c / 4 % 2 = ((n : Nat) : Int) ∧ (n = 3 ∨ n = 4) := ⟨(3 + c / 4 % 2).toNat, by omega, by omega⟩
  have sA := s2.trans (s3.trans s4)
  have s5 := same_upd hl (.lst [.int (1 + c % 4), .int (h : Nat), .int (3 + c / 4 % 2), .str (wd d), .ref lp, .ref lt])
  refine q l ⟨sN, h, nN, d, ls, lts⟩ _ ⟨s1', s4', h1, h8, n34, pp, pt⟩ (sA.trans s5) (sA.free hl) ⟨lp, lt, ?_, s5 _ _ (s4 _ _ (s3 _ _ hP)), s5 _ _ (s4 _ _ hT)⟩
  show (upd _ l (.lst [.int (1 + c % 4), .int (h : Nat), .int (3 + c / 4 % 2), .str (wd d), .ref lp, .ref lt])) l = _
  rw [upd_same, es, en]
def spText (K : PySem.W.Frag) : Sp := fun vs H Q _ => ∃ (l : Addr) (f : Fx), vs = [.ref l] ∧ f.Ok ∧ IsFx f H l ∧ ∀ H', Same H H' → Q (.str (tabT f)) H'
abbrev nText : List Str := ["_law_facts", "_law_suits", "_law_heights", "_law_seats", "_law_word", "_law_plain", "_law_trump", "_law_line"]
theorem scText : FnScope nText ["_law_facts"] (defScope sText) := ⟨rfl, rfl, rfl, by decide +kernel, rfl, by decide +kernel, by decide +kernel⟩
theorem ok_text {k : Nat} (F : Fun K "_law_text" "_law_text" sText f fd) (ms : mg "str" = none) : FnOk P w K mg base CX0 (k + 1) f fd ["_law_facts"] (spText K) := by
  refine F.ok scText (fun vs H Q E h => ?_) (fun cdv A outer s H vs Q E hr h => ?_)
  · obtain ⟨l, f, rfl, _⟩ := h
    rfl
  obtain ⟨l, fx, rfl, ok, ⟨pl, tr, hL, hP, hT⟩, q⟩ := h
  refine ⟨_, pss_cons (ps_asg (pv 0) (pg_lst rfl (pgs_cons (pg_name (i := 1) scText.nd rfl (Or.inl rfl)) (pgs_cons (pg_name (i := 2) scText.nd rfl (Or.inl rfl)) (pgs_cons (pg_name (i := 3) scText.nd rfl (Or.inl rfl)) (pgs_cons (pg_name (i := 4) scText.nd rfl (Or.inl rfl)) (pgs_cons (pg_name (i := 5) scText.nd rfl (Or.inl rfl)) (pgs_cons (pg_name (i := 6) scText.nd rfl (Or.inl rfl)) pgs_nil))))))))
    (pss_cons (ps_set (i := 7) scText.nd rfl (Or.inl rfl) (pe_op op_add_str (pe_op op_add_str (pe_op op_add_str (pe_op op_add_str (pe_op op_add_str pe_str (pe_callTy call_str_int rfl ms PyProof.Rows.boot_str (pa_cons (pv 1) pa_nil))) pe_str) (pe_callTy call_str_int rfl ms PyProof.Rows.boot_str (pa_cons (pv 2) pa_nil))) pe_str) (pe_callTy call_str_int rfl ms PyProof.Rows.boot_str (pa_cons (pv 3) pa_nil))))
    (pss_cons (ps_set (i := 7) scText.nd rfl (Or.inl rfl) (pe_op op_add_str (pe_op op_add_str (pe_op op_add_str (pe_op op_add_str (pv 7) pe_str) (pv 4)) pe_str) (pe_bm PySem.F.plainAttrs_str PySem.F.slot_str_join PySem.F.type_str_join mt_join pe_str (pa_cons (pe_comp ["_law_height"] [none] rfl (Blk.by (sc := defScope sText) (N0 := nText) rfl rfl (by decide +kernel)) (pi_list (pv 5)) (fun C s₀ H₀ ex => pg_name (i := 0) (show (["_law_height"] : List Str).Nodup by decide +kernel) rfl (Or.inl rfl)) (fun C s₀ H₀ ex => pf_nil)
        (fun C s₀ H₀ ex => pe_callTy call_str_int rfl ms PyProof.Rows.boot_str (pa_cons (pe_op op_add (pv 0) pe_int) pa_nil))) pa_nil))))
    (pss_one (ps_ret (pe_op op_add_str (pe_op op_add_str (pv 7) pe_str) (pe_bm PySem.F.plainAttrs_str PySem.F.slot_str_join PySem.F.type_str_join mt_join pe_str (pa_cons (pe_comp ["_law_height"] [none] rfl (Blk.by (sc := defScope sText) (N0 := nText) rfl rfl (by decide +kernel)) (pi_list (pv 6)) (fun C s₀ H₀ ex => pg_name (i := 0) (show (["_law_height"] : List Str).Nodup by decide +kernel) rfl (Or.inl rfl)) (fun C s₀ H₀ ex => pf_nil)
        (fun C s₀ H₀ ex => pe_callTy call_str_int rfl ms PyProof.Rows.boot_str (pa_cons (pe_op op_add (pv 0) pe_int) pa_nil))) pa_nil))))))), ?_⟩
  refine ⟨_, rfl, l, _, rfl, SqL.of hL, rfl, _, _, rfl, _, _, rfl, _, _, rfl, _, _, rfl, _, _, rfl, _, _, rfl, rfl, ?_⟩
  have sm : ∀ i : Nat, i ≤ 8 → (((i : Nat) : Int).natAbs).log2 < 1920 := fun i hi => by
    have : ((i : Nat) : Int).natAbs = i := rfl
    rw [this]
    exact Nat.lt_of_le_of_lt (Nat.log2_le_self i) (by omega)
  have s4 := ok.s4
  have h8 := ok.h8
  have n4 : fx.n ≤ 8 := by rcases ok.n34 with e | e <;> omega
  have one : ∀ x : Nat, (⟨#[x]⟩ : Str).length ≤ 1 := fun _ => Nat.le_refl 1
  have w1 : ("pack " : Str).length ≤ 5 := by decide +kernel
  have w2 : ("x" : Str).length ≤ 1 := by decide +kernel
  have w3 : (" seats " : Str).length ≤ 7 := by decide +kernel
  have w4 : (" duty " : Str).length ≤ 6 := by decide +kernel
  have w5 : (" plain " : Str).length ≤ 7 := by decide +kernel
  have w6 : (" trump " : Str).length ≤ 7 := by decide +kernel
  have wl := (wd_len fx.d).2
  refine ⟨_, rfl, _, rfl, sm _ (by omega), ?_⟩
  rw [str_num _ (by omega)]
  refine ⟨_, _, rfl, rfl, fitsAB w1 (one _) (by decide), _, _, rfl, rfl, fitsAB (app_le w1 (one _)) w2 (by decide), _, rfl, _, rfl, sm _ h8, ?_⟩
  rw [str_num _ h8]
  refine ⟨_, _, rfl, rfl, fitsAB (app_le (app_le w1 (one _)) w2) (one _) (by decide), _, _, rfl, rfl, fitsAB (app_le (app_le (app_le w1 (one _)) w2) (one _)) w3 (by decide), _, rfl, _, rfl, sm _ n4, ?_⟩
  rw [str_num _ n4]
  refine ⟨_, _, rfl, rfl, fitsAB (app_le (app_le (app_le (app_le w1 (one _)) w2) (one _)) w3) (one _) (by decide), ?_⟩
  have L1 := app_le (app_le (app_le (app_le (app_le w1 (one (48 + fx.s))) w2) (one (48 + fx.h))) w3) (one (48 + fx.n))
  refine ⟨_, rfl, _, _, rfl, rfl, fitsAB L1 w4 (by decide), _, rfl, _, _, rfl, rfl, fitsAB (app_le L1 w4) wl (by decide), _, _, rfl, rfl, fitsAB (app_le (app_le L1 w4) wl) w5 (by decide), ?_⟩
  have L2 := app_le (app_le (app_le L1 w4) wl) w5
  have num : ∀ (ls : List Nat) (x : V), ls.Perm (List.range fx.h) → x ∈ vN ls → ∃ i : Nat, i + 1 ≤ 8 ∧ x = .int (i : Nat) := fun ls x pm hx => by
    obtain ⟨i, hi, rfl⟩ := List.mem_map.mp hx
    have := perm_lt pm i hi
    exact ⟨i, by omega, rfl⟩
  refine ⟨rfl, _, rfl, pl, rfl, ⟨_, SqL.of hP⟩, comp_list (K := K) (xs := vN fx.pl) (fun _ => true) sgV (SqL.of hP) (by rw [vN_len, perm_len ok.pp]; exact fits3 _ (by omega)) (fun x H3 hx s3 R hR => hR H3 (Same.refl H3)) (fun x H3 hx hp s3 R hR => ?_) (fun l1 H1 s1 hl1 hL1 => ?_)⟩
  · obtain ⟨i, hi, rfl⟩ := num _ x ok.pp hx
    refine ⟨_, rfl, _, _, rfl, rfl, _, rfl, sm (i + 1) hi, ?_⟩
    show R (.str (toString (((i + 1 : Nat) : Nat) : Int))) H3
    rw [str_num _ hi]
    have := hR H3 (Same.refl H3)
    rwa [sgV_int] at this
  rw [sgV_list] at hL1
  have j1 := join_sgn fx.pl
  have jl : (Txt.join "" (fx.pl.map sgn)).length ≤ 8 := by rw [j1, figS_len, perm_len ok.pp]; exact h8
  refine ⟨_, l1, fx.pl.map sgn, rfl, rfl, SqL.of hL1, sgn_sum ok.pp h8, _, _, rfl, rfl, fitsAB L2 jl (by decide), ?_⟩
  refine ⟨_, rfl, _, _, rfl, rfl, fitsAB (app_le L2 jl) w6 (by decide), ?_⟩
  have L3 := app_le (app_le L2 jl) w6
  have hT1 := s1 _ _ hT
  refine ⟨rfl, _, rfl, tr, rfl, ⟨_, SqL.of hT1⟩, comp_list (K := K) (xs := vN fx.tr) (fun _ => true) sgV (SqL.of hT1) (by rw [vN_len, perm_len ok.pt]; exact fits3 _ (by omega)) (fun x H3 hx s3 R hR => hR H3 (Same.refl H3)) (fun x H3 hx hp s3 R hR => ?_) (fun l2 H2 s2 hl2 hL2 => ?_)⟩
  · obtain ⟨i, hi, rfl⟩ := num _ x ok.pt hx
    refine ⟨_, rfl, _, _, rfl, rfl, _, rfl, sm (i + 1) hi, ?_⟩
    show R (.str (toString (((i + 1 : Nat) : Nat) : Int))) H3
    rw [str_num _ hi]
    have := hR H3 (Same.refl H3)
    rwa [sgV_int] at this
  rw [sgV_list] at hL2
  have j2 := join_sgn fx.tr
  have jl2 : (Txt.join "" (fx.tr.map sgn)).length ≤ 8 := by rw [j2, figS_len, perm_len ok.pt]; exact h8
  refine ⟨_, l2, fx.tr.map sgn, rfl, rfl, SqL.of hL2, sgn_sum ok.pt h8, _, _, rfl, rfl, fitsAB L3 jl2 (by decide), ?_⟩
  have et : (("pack " : Str) ++ ⟨#[48 + fx.s]⟩ ++ "x" ++ ⟨#[48 + fx.h]⟩ ++ " seats " ++ ⟨#[48 + fx.n]⟩ ++ " duty " ++ wd fx.d ++ " plain " ++ Txt.join "" (fx.pl.map sgn) ++ " trump " ++ Txt.join "" (fx.tr.map sgn)) = tabT fx := by
    rw [j1, j2]
    exact text_eq fx
  rw [et]
  exact q _ (s1.trans s2)
end
end My

namespace My
open PySem L2
abbrev sOthers : Stmt := top 42
abbrev sRefused : Stmt := top 43
section
variable {P : Program} {w : World} {K : PySem.W.Frag} {mg : Str → Option Value} {base : Heap} {f g : Addr} {fd gd : FuncData}
/-! ### it is refused -/
structure ClsR (K : PySem.W.Frag) (mg : Str → Option Value) (CE CN : Addr) (c : Fin 15 → Addr) : Prop where
  ex : ExcF K CN
  mT : mg "TrickError" = some (.ref CE)
  mN : mg "NoTable" = some (.ref CN)
  hX : PySem.W.exmOne K (.ref CN) (.ref CE) = some true
  m0 : mg "BadPlay" = some (.ref (c 0))
  m1 : mg "NoCall" = some (.ref (c 1))
  m2 : mg "NoCard" = some (.ref (c 2))
  m3 : mg "NoDeal" = some (.ref (c 3))
  m4 : mg "NoHand" = some (.ref (c 4))
  m5 : mg "NoPlay" = some (.ref (c 5))
  m6 : mg "NoRecord" = some (.ref (c 6))
  m7 : mg "NoRow" = some (.ref (c 7))
  m8 : mg "NoShare" = some (.ref (c 8))
  m9 : mg "NoSheet" = some (.ref (c 9))
  m10 : mg "NotNow" = some (.ref (c 10))
  m11 : mg "NotYet" = some (.ref (c 11))
  m12 : mg "NoView" = some (.ref (c 12))
  m13 : mg "TooMany" = some (.ref (c 13))
  m14 : mg "TooMuch" = some (.ref (c 14))
  iN : PySem.W.kitOne K (.ref CN) (.ref CN) = some true
  iV : PySem.W.kitOne K (.ref CN) (.type "ValueError") = some true
  i : ∀ j, PySem.W.kitOne K (.ref CN) (.ref (c j)) = some false
def spOthers (CN : Addr) : Sp := fun vs H Q _ => ∃ a, vs = [.ref a] ∧ H a = some (excD a CN none) ∧ Q (.bl false) H
theorem scOthers : FnScope ["_law_error"] ["_law_error"] (defScope sOthers) := ⟨rfl, rfl, rfl, by decide +kernel, rfl, by decide +kernel, by decide +kernel⟩
theorem ok_others {k : Nat} {CE CN : Addr} {c : Fin 15 → Addr} (F : Fun K "_law_others" "_law_others" sOthers f fd) (C : ClsR K mg CE CN c) (mi : mg "isinstance" = none) : FnOkH P w K mg base (k + 1) f fd ["_law_error"] (spOthers CN) := by
  refine F.okH scOthers (fun vs H Q E h => ?_) (fun cdv A outer s H vs Q E h => ?_)
  · obtain ⟨a, rfl, _⟩ := h
    rfl
  obtain ⟨a, rfl, ha, q⟩ := h
  refine ⟨_, pss_cons (ps_if (PW.pt (pw_or (pt_truth (pe_callB (show CallR _ _ (rIsXD K) from call_isXD) rfl mi PyProof.Rows.boot_isinstance (pa_cons (pv 0) (pa_cons (pe_glob (v := .ref (c 0)) rfl C.m0 rfl) pa_nil))) (fun _ => rfl)) (pw_or (pt_truth (pe_callB (show CallR _ _ (rIsXD K) from call_isXD) rfl mi PyProof.Rows.boot_isinstance (pa_cons (pv 0) (pa_cons (pe_glob (v := .ref (c 1)) rfl C.m1 rfl) pa_nil))) (fun _ => rfl)) (pw_or1 (pt_truth (pe_callB (show CallR _ _ (rIsXD K) from call_isXD) rfl mi PyProof.Rows.boot_isinstance (pa_cons (pv 0) (pa_cons (pe_glob (v := .ref (c 2)) rfl C.m2 rfl) pa_nil))) (fun _ => rfl)))))) (pss_one (ps_ret pe_bl)) pss_nil)
    (pss_cons (ps_if (PW.pt (pw_or (pt_truth (pe_callB (show CallR _ _ (rIsXD K) from call_isXD) rfl mi PyProof.Rows.boot_isinstance (pa_cons (pv 0) (pa_cons (pe_glob (v := .ref (c 3)) rfl C.m3 rfl) pa_nil))) (fun _ => rfl)) (pw_or (pt_truth (pe_callB (show CallR _ _ (rIsXD K) from call_isXD) rfl mi PyProof.Rows.boot_isinstance (pa_cons (pv 0) (pa_cons (pe_glob (v := .ref (c 4)) rfl C.m4 rfl) pa_nil))) (fun _ => rfl)) (pw_or1 (pt_truth (pe_callB (show CallR _ _ (rIsXD K) from call_isXD) rfl mi PyProof.Rows.boot_isinstance (pa_cons (pv 0) (pa_cons (pe_glob (v := .ref (c 5)) rfl C.m5 rfl) pa_nil))) (fun _ => rfl)))))) (pss_one (ps_ret pe_bl)) pss_nil)
    (pss_cons (ps_if (PW.pt (pw_or (pt_truth (pe_callB (show CallR _ _ (rIsXD K) from call_isXD) rfl mi PyProof.Rows.boot_isinstance (pa_cons (pv 0) (pa_cons (pe_glob (v := .ref (c 6)) rfl C.m6 rfl) pa_nil))) (fun _ => rfl)) (pw_or (pt_truth (pe_callB (show CallR _ _ (rIsXD K) from call_isXD) rfl mi PyProof.Rows.boot_isinstance (pa_cons (pv 0) (pa_cons (pe_glob (v := .ref (c 7)) rfl C.m7 rfl) pa_nil))) (fun _ => rfl)) (pw_or1 (pt_truth (pe_callB (show CallR _ _ (rIsXD K) from call_isXD) rfl mi PyProof.Rows.boot_isinstance (pa_cons (pv 0) (pa_cons (pe_glob (v := .ref (c 8)) rfl C.m8 rfl) pa_nil))) (fun _ => rfl)))))) (pss_one (ps_ret pe_bl)) pss_nil)
    (pss_cons (ps_if (PW.pt (pw_or (pt_truth (pe_callB (show CallR _ _ (rIsXD K) from call_isXD) rfl mi PyProof.Rows.boot_isinstance (pa_cons (pv 0) (pa_cons (pe_glob (v := .ref (c 9)) rfl C.m9 rfl) pa_nil))) (fun _ => rfl)) (pw_or (pt_truth (pe_callB (show CallR _ _ (rIsXD K) from call_isXD) rfl mi PyProof.Rows.boot_isinstance (pa_cons (pv 0) (pa_cons (pe_glob (v := .ref (c 10)) rfl C.m10 rfl) pa_nil))) (fun _ => rfl)) (pw_or1 (pt_truth (pe_callB (show CallR _ _ (rIsXD K) from call_isXD) rfl mi PyProof.Rows.boot_isinstance (pa_cons (pv 0) (pa_cons (pe_glob (v := .ref (c 11)) rfl C.m11 rfl) pa_nil))) (fun _ => rfl)))))) (pss_one (ps_ret pe_bl)) pss_nil)
    (pss_one (ps_ret (pe_or (pe_callB (show CallR _ _ (rIsXD K) from call_isXD) rfl mi PyProof.Rows.boot_isinstance (pa_cons (pv 0) (pa_cons (pe_glob (v := .ref (c 12)) rfl C.m12 rfl) pa_nil))) (pe_or (pe_callB (show CallR _ _ (rIsXD K) from call_isXD) rfl mi PyProof.Rows.boot_isinstance (pa_cons (pv 0) (pa_cons (pe_glob (v := .ref (c 13)) rfl C.m13 rfl) pa_nil))) (pe_one (pe_callB (show CallR _ _ (rIsXD K) from call_isXD) rfl mi PyProof.Rows.boot_isinstance (pa_cons (pv 0) (pa_cons (pe_glob (v := .ref (c 14)) rfl C.m14 rfl) pa_nil))))))))))), ?_⟩
  refine ⟨_, rfl, a, CN, none, _, false, rfl, rfl, ha, C.ex, C.i 0, false, rfl, iteF ⟨_, rfl, a, CN, none, _, false, rfl, rfl, ha, C.ex, C.i 1, false, rfl, iteF ⟨_, rfl, a, CN, none, _, false, rfl, rfl, ha, C.ex, C.i 2, false, rfl, iteF ?_⟩⟩⟩
  refine ⟨_, rfl, a, CN, none, _, false, rfl, rfl, ha, C.ex, C.i 3, false, rfl, iteF ⟨_, rfl, a, CN, none, _, false, rfl, rfl, ha, C.ex, C.i 4, false, rfl, iteF ⟨_, rfl, a, CN, none, _, false, rfl, rfl, ha, C.ex, C.i 5, false, rfl, iteF ?_⟩⟩⟩
  refine ⟨_, rfl, a, CN, none, _, false, rfl, rfl, ha, C.ex, C.i 6, false, rfl, iteF ⟨_, rfl, a, CN, none, _, false, rfl, rfl, ha, C.ex, C.i 7, false, rfl, iteF ⟨_, rfl, a, CN, none, _, false, rfl, rfl, ha, C.ex, C.i 8, false, rfl, iteF ?_⟩⟩⟩
  refine ⟨_, rfl, a, CN, none, _, false, rfl, rfl, ha, C.ex, C.i 9, false, rfl, iteF ⟨_, rfl, a, CN, none, _, false, rfl, rfl, ha, C.ex, C.i 10, false, rfl, iteF ⟨_, rfl, a, CN, none, _, false, rfl, rfl, ha, C.ex, C.i 11, false, rfl, iteF ?_⟩⟩⟩
  exact ⟨_, rfl, a, CN, none, _, false, rfl, rfl, ha, C.ex, C.i 12, false, rfl, iteF ⟨_, rfl, a, CN, none, _, false, rfl, rfl, ha, C.ex, C.i 13, false, rfl, iteF ⟨_, rfl, a, CN, none, _, false, rfl, rfl, ha, C.ex, C.i 14, q⟩⟩⟩
theorem NoStr.same {H H' : Hp} {v : V} (h : NoStr K H v) (s : Same H H') : NoStr K H' v := by
  obtain ⟨⟨ty, ht, hk⟩, hn⟩ := h
  refine ⟨⟨ty, ?_, hk⟩, hn⟩
  cases ht with
  | non => exact .non
  | bl x => exact .bl x
  | int i => exact .int i
  | str x => exact .str x
  | flt x => exact .flt x
  | lst e => exact .lst (s _ _ e)
  | frz e => exact .frz (s _ _ e)
  | tup e => exact .tup (s _ _ e)
  | dK e => exact .dK (s _ _ e)
  | dT e => exact .dT (s _ _ e)
  | ins e c1 c2 c3 c4 c5 => exact .ins (s _ _ e) c1 c2 c3 c4 c5
/-- a value that tells no table -/
def NoTabV (K : PySem.W.Frag) (H : Hp) (v : V) : Prop := (∃ t, v = .str t ∧ t.length ≤ 90 ∧ NoTab t) ∨ NoStr K H v
def spRefused (K : PySem.W.Frag) : Sp := fun vs H Q _ => ∃ v, vs = [v] ∧ NoTabV K H v ∧ ∀ H', Same H H' → Q (.bl true) H'
theorem scRef : FnScope ["_law_text_here", "e"] ["_law_text_here"] (defScope sRefused) := ⟨rfl, rfl, rfl, by decide +kernel, rfl, by decide +kernel, by decide +kernel⟩
theorem ok_refused {k : Nat} {CT CE CN fI fO : Addr} {dI dO : FuncData} {c : Fin 15 → Addr} (F : Fun K "_law_refused" "_law_refused" sRefused f fd) (TC : TabC K mg CT) (C : ClsR K mg CE CN c) (MkT : Mk K CT fI) (FI : FnOk P w K mg base (CX1 P w) k fI dI ["self", "text"] (spTabX K CT CN)) (BT : Binds K dI ["self", "text"] [])
    (LO : LibH P w K mg base k "_law_others" ["_law_error"] (spOthers CN) fO dO) (mi : mg "isinstance" = none) (mV : mg "ValueError" = none) : FnOk P w K mg base CX0 (k + 2) f fd ["_law_text_here"] (spRefused K) := by
  refine F.ok scRef (fun vs H Q E h => ?_) (fun cdv A outer s H vs Q E hr h => ?_)
  · obtain ⟨x, rfl, _⟩ := h
    rfl
  obtain ⟨v, rfl, hv, q⟩ := h
  have hr' := hr.mono (Nat.le_succ k)
  refine ⟨_, pss_cons (ps_try1 (i := 1) rfl rfl rfl scRef.nd rfl rfl (psx_expr (pex_make MkT FI hr rfl TC.mT BT .nil (pa_cons (pv 0) pa_nil))) rfl C.mT
      (fun e => pss_one (ps_ret (pe_and (pe_callB (show CallR _ _ (rIsXD K) from call_isXD) rfl mi PyProof.Rows.boot_isinstance (pa_cons (pv 1) (pa_cons (pe_glob (v := .ref CN) rfl C.mN rfl) pa_nil))) (pe_and (pe_callB (show CallR _ _ (rIsXD K) from call_isXD) rfl mi PyProof.Rows.boot_isinstance (pa_cons (pv 1) (pa_cons (pe_bltn (v := .ty "ValueError") rfl mV PyProof.Rows.Boot.«ValueError» rfl) pa_nil)))
        (pe_one (pe_not (pe_callH LO.ok hr'.h rfl LO.mg LO.kp LO.bd (pa_cons (pv 1) pa_nil)))))))))
    (pss_one (ps_ret pe_bl)), ?_⟩
  refine ⟨_, rfl, fun x dx hx hd nd => ?_⟩
  have s0 := same_make (o := .ins CT dx []) hx hd nd
  have nt : ∀ f : Fx, f.Ok → v ≠ .str (tabT f) := fun f ok z => by
    rcases hv with ⟨t, rfl, _, ht⟩ | ⟨_, hn⟩
    · injection z with z
      exact ht f ok z
    · exact hn _ z
  refine ⟨x, dx, v, rfl, upd_same, ?_, fun f ok z => absurd z (nt f ok), fun _ H1 k1 => ⟨CN, rfl, C.hX, fun ea hea => ?_⟩⟩
  · rcases hv with ⟨t, e, hl, _⟩ | h
    · exact .inl ⟨t, e, hl⟩
    · exact .inr (h.same s0)
  · have s1 : Same H H1 := fun b o h => k1 b o (fun z => by rw [z, hx] at h; cases h) (s0 b o h)
    have s2 := same_upd hea (excD ea CN none)
    exact ⟨_, rfl, ea, CN, none, _, true, rfl, rfl, upd_same, C.ex, C.iN, true, rfl, iteT ⟨_, rfl, ea, CN, none, _, true, rfl, rfl, upd_same, C.ex, C.iV, true, rfl, iteT ⟨_, rfl, ea, rfl, upd_same, false, rfl, q _ (s1.trans s2)⟩⟩⟩
end
end My

namespace L2
open PySem PySem.Spec PyProof.Rows
/-! ### if c: and a row with a long written row of texts in it, as one rule (each rule whose text begins with such a row costs the elaborator 2 ^ n) -/
section
variable {X : Cx} {c i tgt : Expr} {es : List Expr} {ss : List Str} {p pos rp ipos sp pos' : Pos} {tc : TT} {ti : TE} {g : TG} {s2 : Stmt} {t2 : TS}
theorem ps_ifAsgAt (hc : PT X c tc) (h : strsOf es = some ss) (hi : PE X i ti) (hs : PlainIx i) (hg : PG X tgt g) (hsw : swapsWithSole [tgt] (.Subscript (.List es p) i pos) sp.line X.env = pure false := by rfl) (hw : swappedStores [tgt] (.Subscript (.List es p) i pos) X.env = pure none := by rfl) (h1 : (assignEach [tgt] X.env).map (·.2) = [assign tgt X.env] := by rfl) : PS X (.If c [.Assign [tgt] (.Subscript (.List es p) i pos) sp] [] ipos) (tIfS tc (tAsg (tOp (rIxL X.K) (tLst (tStrs ss)) ti) g) tNext) :=
  ps_if hc (pss_one (ps_asg (pe_ix ix_list (pe_lst (pa_strs h)) hi hs) hg hsw hw h1)) pss_nil
theorem ps_ifSetL {j : Nat} {x : Str} (hc : PT X c tc) (hN : X.N.Nodup) (hj : X.N[j]? = some x) (hx : Loc X.env.scope x) (h : strsOf es = some ss) (h2 : PS X s2 t2) (hsw : swapsWith (.List es p) (some (.Name x pos')) sp.line X.env = pure false := by rfl)
    (hf : X.fn x = true ∨ X.env.scope.names.lookup x = some .local := by first | exact .inl rfl | exact .inr rfl | assumption) : PS X (.If c [.Assign [.Name x pos'] (.List es p) sp, s2] [] ipos) (tIfS tc (tSeq (tAsg (tLst (tStrs ss)) (gName j)) t2) tNext) :=
  ps_if hc (pss_cons (ps_set hN hj hx (pe_lst (pa_strs h)) hsw hf) (pss_one h2)) pss_nil
end
end L2

namespace L2
open PySem PySem.Spec PyProof.Rows
open AutoSeq1 (wpAny_loadPart')
/-! ### for i, x in enumerate(t), t a tuple -/
section
variable {prog : Program} {w : World} {A : Around} {E : Value → Shared → Prop} {s : Shared} {it t : Addr} {i : Nat} {items : Array Value}
end
def IteT (K : PySem.W.Frag) (a : Addr) : It :=
  ⟨fun i H => ∃ xs x, SqT K H a xs ∧ xs[i]? = some x, fun i H v H' => ∃ p x, v = .ref p ∧ H p = none ∧ H' = upd H p (.tup [.int (i : Nat), x]) ∧ ∀ xs, SqT K H a xs → xs[i]? = some x, fun i H => ∃ xs, SqT K H a xs ∧ xs.length ≤ i⟩
section
variable {X : Cx}
def iEnumT (K : PySem.W.Frag) (ta : TA) : TI := fun σ H R => ta σ H fun vs H1 => ∃ a xs, vs = [.ref a] ∧ SqT K H1 a xs ∧ R (IteT K a) H1
end
end L2

namespace L2
open PySem PySem.Spec PyProof.Rows
end L2

set_option maxHeartbeats 1000000
namespace L2
open PySem PySem.Spec PyProof.Rows
section
variable {X : Cx}
/-! ### text.upper(), exact -/
theorem mt_upperE : MtR X "str.upper" (fun x xs H Q => ∃ i, x = .str i ∧ xs = [] ∧ i.length ≤ 1000 ∧ Q (.str (Txt.upper i)) H) := by
  intro pins s σ H x xs v us Q I rx rv h
  obtain ⟨i, rfl, rfl, hl, q⟩ := h
  obtain ⟨t, rfl⟩ := rx
  cases rv.zero
  exact SCL.upper (by omega) fun hz => ⟨.str _, H, I.tok _, ⟨_, rfl⟩, q⟩
/-! ### set(xs) of a list of ints, len of a set -/
def distinct (ns : List Int) : Nat := (firstMet (fun i => ns.getD i 0) ns.length).length
end
end L2

namespace My
open PySem L2
abbrev sBadO : Stmt := top 44
abbrev sFaulty : Stmt := top 45
section
variable {P : Program} {w : World} {K : PySem.W.Frag} {mg : Str → Option Value} {base : Heap} {f g : Addr} {fd gd : FuncData}
/-! ### a bad order -/
def spBadO : Sp := fun vs H Q _ => ∃ (l : List Nat) (h : Nat) (z : Int), vs = [.str (figS l), .int (h : Nat), .int z] ∧ 1 ≤ h ∧ h ≤ 8 ∧ l.Perm (List.range h) ∧ ∀ t, BadO h t → Q (.str t) H
abbrev pBadO : List Str := ["_law_order_here", "_law_heights", "_law_cell_here"]
abbrev nBadO : List Str := ["_law_order_here", "_law_heights", "_law_cell_here", "_law_at", "_law_way"]
theorem scBadO : FnScope nBadO pBadO (defScope sBadO) := ⟨rfl, rfl, rfl, by decide +kernel, rfl, by decide +kernel, by decide +kernel⟩
def sign5 : Str := "0a-.,"
theorem sign_chk : ∀ o < 5, ∃ c, sign5.cps.toList[o]? = some c ∧ c ≠ 32 ∧ (c < 49 ∨ 57 ≤ c) := by decide +kernel
theorem nd_take {l : List Nat} {m : Nat} {c : Nat} {b : List Nat} (hc : c ∈ l.take m ∨ c ∈ b) : ¬ ((l.take m).map (49 + ·) ++ ([49 + c] ++ b.map (49 + ·))).Nodup := fun h => by
  rcases hc with hc | hc
  · exact (List.pairwise_append.mp h).2.2 (49 + c) (List.mem_map.mpr ⟨c, hc, rfl⟩) (49 + c) (List.mem_append_left _ List.mem_cons_self) rfl
  · have h2 := (List.pairwise_append.mp h).2.1
    exact (List.pairwise_append.mp h2).2.2 (49 + c) List.mem_cons_self (49 + c) (List.mem_map.mpr ⟨c, hc, rfl⟩) rfl
theorem ok_badO {k : Nat} (F : Fun K "_law_bad_order" "_law_bad_order" sBadO f fd) (ms : mg "str" = none) : FnOk P w K mg base CX0 (k + 1) f fd pBadO spBadO := by
  refine F.ok scBadO (fun vs H Q E h => ?_) (fun cdv A outer s H vs Q E hr h => ?_)
  · obtain ⟨l, h, z, rfl, _⟩ := h
    rfl
  obtain ⟨l, h, z, rfl, h1, h8, pm, q⟩ := h
  refine ⟨_, pss_cons (ps_set (i := 3) scBadO.nd rfl (Or.inl rfl) (pe_op op_mod (pe_op op_fdiv (pv 2) pe_int) (pv 1)))
    (pss_cons (ps_set (i := 4) scBadO.nd rfl (Or.inl rfl) (pe_op op_mod (pv 2) pe_int))
    (pss_cons (ps_if (pt_cmpR op_eq (pv 4) pe_int (nomark _)) (pss_one (ps_ret (pe_op op_add_str (pe_slice sl_str (pv 0) po_none (po_some (pv 3))) (pe_slice sl_str (pv 0) (po_some (pe_op op_add (pv 3) pe_int)) po_none)))) pss_nil)
    (pss_cons (ps_if (pt_cmpR op_eq (pv 4) pe_int (nomark _)) (pss_one (ps_ret (pe_op op_add_str (pe_op op_add_str (pe_slice sl_str (pv 0) po_none (po_some (pv 3))) (pe_ix ix_str (pv 0) (pv 3) (fun _ _ => rfl))) (pe_slice sl_str (pv 0) (po_some (pv 3)) po_none)))) pss_nil)
    (pss_cons (ps_if (pt_cmpR op_eq (pv 4) pe_int (nomark _)) (pss_one (ps_ret (pe_op op_add_str (pe_op op_add_str (pe_slice sl_str (pv 0) po_none (po_some (pv 3))) (pe_callTy call_str_int rfl ms PyProof.Rows.boot_str (pa_cons (pe_op op_add (pv 1) pe_int) pa_nil))) (pe_slice sl_str (pv 0) (po_some (pe_op op_add (pv 3) pe_int)) po_none)))) pss_nil)
    (pss_cons (ps_if (pt_cmpR op_eq (pv 4) pe_int (nomark _)) (pss_one (ps_ret (pe_op op_add_str (pe_op op_add_str (pe_slice sl_str (pv 0) po_none (po_some (pv 3))) (pe_ix ix_str pe_str (pe_op op_mod (pe_op op_fdiv (pv 2) pe_int) pe_int) (fun _ _ => rfl))) (pe_slice sl_str (pv 0) (po_some (pe_op op_add (pv 3) pe_int)) po_none)))) pss_nil)
    (pss_cons (ps_if (pt_cmpR op_eq (pv 4) pe_int (nomark _)) (pss_one (ps_ret (pe_op op_add_str (pv 0) (pe_callTy call_str_int rfl ms PyProof.Rows.boot_str (pa_cons (pe_op op_add (pv 1) pe_int) pa_nil))))) pss_nil)
    (pss_cons (ps_if (PW.pt (pw_and (pt_cmpR op_eq (pv 4) pe_int (nomark _)) (pw_and1 (pt_cmpR op_gt (pv 1) pe_int (nomark _))))) (pss_one (ps_ret (pe_op op_add_str (pe_op op_add_str (pe_slice sl_str (pv 0) po_none (po_some (pv 3))) (pe_ix ix_str (pv 0) (pe_op op_sub (pv 3) pe_int) (fun _ _ => rfl))) (pe_slice sl_str (pv 0) (po_some (pe_op op_add (pv 3) pe_int)) po_none)))) pss_nil)
    (pss_one (ps_ret pe_str))))))))), ?_⟩
  have ll := perm_len pm
  have fl : (figS l).length = h := by rw [figS_len, ll]
  have fl1 : (figS l).length ≤ 10000 := by omega
  have fl2 : (figS l).length ≤ sizeLine := fits3 _ (by omega)
  obtain ⟨m, ml, em⟩ := int_nat (z := z / 7) (n := h) (by omega)
  obtain ⟨r, rl, er⟩ := int_nat (z := z) (n := 7) (by decide)
  have er' : z % 7 = ((r : Nat) : Int) := er
  refine set_nm (fun v H' => H = H' ∧ v = .int ((m : Nat) : Int)) (fun R hR => ⟨_, rfl, _, _, rfl, rfl, ⟨by decide, by decide⟩, _, rfl, _, _, rfl, rfl, (show (0 : Int) < ((h : Nat) : Int) by omega), hR _ _ ⟨rfl, congrArg V.int em⟩⟩) (fun v H' y => ?_)
  obtain ⟨rfl, rfl⟩ := y
  refine set_nm (fun v H' => H = H' ∧ v = .int ((r : Nat) : Int)) (fun R hR => ⟨_, rfl, _, _, rfl, rfl, (show (0 : Int) < 7 by decide), hR _ _ ⟨rfl, congrArg V.int er'⟩⟩) (fun v H' y => ?_)
  obtain ⟨rfl, rfl⟩ := y
  have tk : (l.take m).length = m := by rw [List.length_take, ll]; omega
  have st : Txt.slice (figS l) none (some ((m : Nat) : Int)) = figS (l.take m) := sl_to (by omega)
  have sf : Txt.slice (figS l) (some ((m : Nat) : Int)) none = figS (l.drop m) := sl_from (by omega)
  have sf1 : Txt.slice (figS l) (some (((m : Nat) : Int) + 1)) none = figS (l.drop (m + 1)) := by
    have := sl_from (l := l) (m := m + 1) (by omega)
    rw [← this]
    rfl
  have dl : (l.drop m).length = h - m := by rw [List.length_drop, ll]
  have dl1 : (l.drop (m + 1)).length = h - (m + 1) := by rw [List.length_drop, ll]
  have len1 : ∀ (x : Str), x.length ≤ 1 → (figS (l.take m)).length + x.length ≤ sizeLine := fun x hx => fits3 _ (by rw [figS_len, tk]; omega)
  have len2 : ∀ (x : Str) (b : List Nat), x.length ≤ 1 → b.length ≤ 8 → (figS (l.take m) ++ x).length + (figS b).length ≤ sizeLine := fun x b hx hb => by
    have e : (figS (l.take m) ++ x).length = (figS (l.take m)).length + x.length := by
      show ((figS (l.take m)).cps ++ x.cps).size = _
      rw [Array.size_append]
      rfl
    rw [e, figS_len, figS_len, tk]
    exact fits3 _ (by omega)
  have one : ∀ c : Nat, (⟨#[c]⟩ : Str).length ≤ 1 := fun _ => Nat.le_refl _
  have nm1 : (toString (((h : Nat) : Int) + 1) : Str) = ⟨#[48 + (h + 1)]⟩ := str_num9 (h + 1) (by omega)
  have lg : (((h : Nat) : Int) + 1).natAbs.log2 < 1920 := by
    have e : (((h : Nat) : Int) + 1).natAbs = h + 1 := by omega
    rw [e]
    exact Nat.lt_of_le_of_lt (Nat.log2_le_self _) (by omega)
  have lget : l[m]? = some l[m] := List.getElem?_eq_getElem (by omega)
  -- one sign left out
  refine ⟨_, rfl, rfl, _, rfl, chg (natLit (n := 0) rfl) ?_⟩
  by_cases r0 : r = 0
  · rw [decide_eq_true r0]
    refine iteT ⟨_, rfl, _, rfl, _, rfl, figS l, rfl, fl1, ?_⟩
    rw [st]
    refine ⟨_, rfl, _, rfl, _, _, rfl, rfl, _, rfl, figS l, rfl, fl1, ?_⟩
    rw [sf1]
    refine ⟨_, _, rfl, rfl, fits3 _ (by rw [figS_len, figS_len, tk, dl1]; omega), q _ (badO_two pm h8 (by omega) (by rw [tk, dl1]; omega))⟩
  rw [decide_eq_false r0]
  refine iteF ⟨_, rfl, rfl, _, rfl, chg (natLit (n := 1) rfl) ?_⟩
  -- one twice
  by_cases r1 : r = 1
  · rw [decide_eq_true r1]
    refine iteT ⟨_, rfl, _, rfl, _, rfl, figS l, rfl, fl1, ?_⟩
    rw [st]
    refine ⟨_, rfl, _, rfl, figS l, _, 49 + l[m], rfl, rfl, fl2, atI_nat (by show (l.map (49 + ·))[m]? = _; rw [List.getElem?_map, lget]; rfl), _, _, rfl, rfl, len1 _ (one _), _, rfl, _, rfl, _, rfl, figS l, rfl, fl1, ?_⟩
    rw [sf]
    refine ⟨_, _, rfl, rfl, len2 _ _ (one _) (by omega), q _ (badO_mid pm h8 (by omega) (by show 32 ∉ [49 + l[m]]; simp; omega) (Nat.le_refl 1) (.inl ?_))⟩
    show _ + 1 + _ ≠ h
    rw [tk, dl]
    omega
  rw [decide_eq_false r1]
  refine iteF ⟨_, rfl, rfl, _, rfl, chg (natLit (n := 2) rfl) ?_⟩
  -- one beyond the heights
  by_cases r2 : r = 2
  · rw [decide_eq_true r2]
    refine iteT ⟨_, rfl, _, rfl, _, rfl, figS l, rfl, fl1, ?_⟩
    rw [st]
    refine ⟨_, rfl, _, _, rfl, rfl, _, rfl, lg, ?_⟩
    rw [nm1]
    refine ⟨_, _, rfl, rfl, len1 _ (one _), _, rfl, _, rfl, _, _, rfl, rfl, _, rfl, figS l, rfl, fl1, ?_⟩
    rw [sf1]
    exact ⟨_, _, rfl, rfl, len2 _ _ (one _) (by omega), q _ (badO_mid pm h8 (by omega) (by show 32 ∉ [48 + (h + 1)]; simp; omega) (Nat.le_refl 1) (.inr (.inl ⟨48 + (h + 1), List.mem_cons_self, by omega⟩)))⟩
  rw [decide_eq_false r2]
  refine iteF ⟨_, rfl, rfl, _, rfl, chg (natLit (n := 3) rfl) ?_⟩
  -- another sign
  by_cases r3 : r = 3
  · rw [decide_eq_true r3]
    obtain ⟨o, ol, eo⟩ := int_nat (z := z / 56) (n := 5) (by decide)
    obtain ⟨c, hc, c32, c9⟩ := sign_chk o ol
    refine iteT ⟨_, rfl, _, rfl, _, rfl, figS l, rfl, fl1, ?_⟩
    rw [st]
    refine ⟨_, rfl, _, _, rfl, rfl, ⟨by decide, by decide⟩, _, _, rfl, rfl, (show (0 : Int) < 5 by decide), sign5, _, c, rfl, rfl, fits3 5 (by decide), (by rw [show z / 56 % 5 = ((o : Nat) : Int) from eo]; exact atI_nat hc), _, _, rfl, rfl, len1 _ (one _), _, rfl, _, rfl, _, _, rfl, rfl, _, rfl, figS l, rfl, fl1, ?_⟩
    rw [sf1]
    exact ⟨_, _, rfl, rfl, len2 _ _ (one _) (by omega), q _ (badO_mid pm h8 (by omega) (by show 32 ∉ [c]; simp; omega) (Nat.le_refl 1) (.inr (.inl ⟨c, List.mem_cons_self, by omega⟩)))⟩
  rw [decide_eq_false r3]
  refine iteF ⟨_, rfl, rfl, _, rfl, chg (natLit (n := 4) rfl) ?_⟩
  -- one more
  by_cases r4 : r = 4
  · rw [decide_eq_true r4]
    refine iteT ⟨_, rfl, _, rfl, _, _, rfl, rfl, _, rfl, lg, ?_⟩
    rw [nm1]
    refine ⟨_, _, rfl, rfl, fits3 _ (by rw [fl]; show h + 1 ≤ _; omega), q _ (badO_of (ns := l.map (49 + ·) ++ [48 + (h + 1)]) (app_list _ _) ?_ ?_ (.inl ?_))⟩
    · intro y
      rcases List.mem_append.mp y with y | y
      · exact fig_no32 _ y
      · have := List.mem_singleton.mp y
        omega
    · rw [List.length_append, List.length_map, ll]
      show h + 1 ≤ 20
      omega
    · rw [List.length_append, List.length_map, ll]
      show h + 1 ≠ h
      omega
  rw [decide_eq_false r4]
  refine iteF ⟨_, rfl, rfl, _, rfl, chg (natLit (n := 5) rfl) ?_⟩
  have last : BadO h "" := badO_of (ns := []) (by decide +kernel) (by simp) (by simp) (.inl (by show 0 ≠ h; omega))
  -- one in another's place
  by_cases r5 : r = 5
  · rw [decide_eq_true r5]
    refine iteT ⟨_, rfl, _, _, rfl, rfl, _, rfl, ?_⟩
    by_cases h2 : 1 < h
    · rw [decide_eq_true (show (1 : Int) < ((h : Nat) : Int) by omega)]
      obtain ⟨c, hc, hin⟩ : ∃ c, atI (figS l).cps.toList (((m : Nat) : Int) - 1) = some (49 + c) ∧ (c ∈ l.take m ∨ c ∈ l.drop (m + 1)) := by
        have fll : (figS l).cps.toList.length = h := by show (l.map (49 + ·)).length = h; rw [List.length_map, ll]
        by_cases m0 : m = 0
        · subst m0
          have hg : l[h - 1]? = some l[h - 1] := List.getElem?_eq_getElem (by omega)
          refine ⟨l[h - 1], ?_, .inr ?_⟩
          · unfold atI ixN
            rw [fll, if_neg (by omega), if_pos (by omega)]
            show (figS l).cps.toList[((((0 : Nat) : Int) - 1) + ((h : Nat) : Int)).toNat]? = _
            rw [show ((((0 : Nat) : Int) - 1) + ((h : Nat) : Int)).toNat = h - 1 by omega]
            show (l.map (49 + ·))[h - 1]? = _
            rw [List.getElem?_map, hg]
            rfl
          · refine List.mem_iff_getElem?.mpr ⟨h - 2, ?_⟩
            rw [List.getElem?_drop, show 0 + 1 + (h - 2) = h - 1 by omega]
            exact hg
        · have hg : l[m - 1]? = some l[m - 1] := List.getElem?_eq_getElem (by omega)
          refine ⟨l[m - 1], ?_, .inl ?_⟩
          · rw [show ((m : Nat) : Int) - 1 = ((m - 1 : Nat) : Int) by omega]
            refine atI_nat ?_
            show (l.map (49 + ·))[m - 1]? = _
            rw [List.getElem?_map, hg]
            rfl
          · refine List.mem_iff_getElem?.mpr ⟨m - 1, ?_⟩
            rw [List.getElem?_take, if_pos (by omega)]
            exact hg
      refine iteT ⟨_, rfl, _, rfl, _, rfl, figS l, rfl, fl1, ?_⟩
      rw [st]
      refine ⟨_, rfl, _, rfl, _, _, rfl, rfl, figS l, _, 49 + c, rfl, rfl, fl2, hc, _, _, rfl, rfl, len1 _ (one _), _, rfl, _, rfl, _, _, rfl, rfl, _, rfl, figS l, rfl, fl1, ?_⟩
      rw [sf1]
      exact ⟨_, _, rfl, rfl, len2 _ _ (one _) (by omega), q _ (badO_mid pm h8 (by omega) (by show 32 ∉ [49 + c]; simp; omega) (Nat.le_refl 1) (.inr (.inr (nd_take hin))))⟩
    · rw [decide_eq_false (show ¬ (1 : Int) < ((h : Nat) : Int) by omega)]
      exact iteF (q _ last)
  · rw [decide_eq_false r5]
    exact iteF (iteF (q _ last))
/-! ### a text with a fault -/
def Good (ws : List Str) : Prop := NoTab (Txt.join blank ws) ∧ (ws.map (·.length)).sum + ws.length * blank.length ≤ 16777216 ∧ (Txt.join blank ws).length ≤ 90
def insW : List Str := ["", "pack", "4", "x"]
theorem ins_chk : ∀ t ∈ insW, t.length ≤ 4 := by decide +kernel
theorem vS_cut_to (ws : List Str) (m : Nat) (h : m ≤ ws.length) : cutV (vS ws) none (some ((m : Nat) : Int)) = vS (ws.take m) := by
  unfold cutV
  rw [HT.sIx_none, HT.sIx_nat, List.drop_zero, Nat.sub_zero, vS_len, Nat.min_eq_left h]
  unfold vS
  rw [List.map_take]
theorem vS_cut_from (ws : List Str) (m : Nat) (h : m ≤ ws.length) : cutV (vS ws) (some ((m : Nat) : Int)) none = vS (ws.drop m) := by
  unfold cutV
  rw [HT.sIx_none, HT.sIx_nat, vS_len, Nat.min_eq_left h, List.take_of_length_le (by rw [List.length_drop, vS_len]; exact Nat.le_refl _)]
  unfold vS
  rw [List.map_drop]
theorem good_set {f0 : Fx} (ok : f0.Ok) {i : Nat} {t : Str} (hl : t.length ≤ 20) (h : NoTab (Txt.join blank ((tabW f0).set i t))) : Good ((tabW f0).set i t) := ⟨h, (set_fits ok hl).1, (set_fits ok hl).2⟩
theorem sum_app (a b : List Str) : ((a ++ b).map (·.length)).sum = (a.map (·.length)).sum + (b.map (·.length)).sum := by rw [List.map_append, List.sum_append]
theorem sum_cut (ws : List Str) (m : Nat) : ((ws.take m).map (·.length)).sum + ((ws.drop m).map (·.length)).sum = (ws.map (·.length)).sum := by rw [← sum_app, List.take_append_drop]
theorem good_drop {f0 : Fx} (ok : f0.Ok) {m : Nat} (hm : m < 10) : Good ((tabW f0).take m ++ (tabW f0).drop (m + 1)) := by
  have l10 : (tabW f0).length = 10 := rfl
  have len : ((tabW f0).take m ++ (tabW f0).drop (m + 1)).length = 9 := by rw [List.length_append, List.length_take, List.length_drop, l10]; omega
  have hne : (tabW f0).take m ++ (tabW f0).drop (m + 1) ≠ [] := fun z => by rw [z] at len; cases len
  have t := tot_len ok
  have s1 := sum_cut (tabW f0) m
  have s2 := sum_cut ((tabW f0).drop m) 1
  rw [List.drop_drop] at s2
  have s3 := sum_app ((tabW f0).take m) ((tabW f0).drop (m + 1))
  have jl := join_length hne
  refine ⟨noTab_short hne (by omega) fun v hv => ?_, ?_, by omega⟩
  · rcases List.mem_append.mp hv with h | h
    · exact tabW_free f0 v (List.mem_of_mem_take h)
    · exact tabW_free f0 v (List.mem_of_mem_drop h)
  · rw [len, blank_len]
    omega
theorem good_ins {f0 : Fx} (ok : f0.Ok) {m : Nat} (hm : m < 11) {t : Str} (ht : t.length ≤ 4) : Good ((tabW f0).take m ++ t :: (tabW f0).drop m) := by
  have l10 : (tabW f0).length = 10 := rfl
  have len : ((tabW f0).take m ++ t :: (tabW f0).drop m).length = 11 := by rw [List.length_append, List.length_take, List.length_cons, List.length_drop, l10]; omega
  have hne : (tabW f0).take m ++ t :: (tabW f0).drop m ≠ [] := fun z => by rw [z] at len; cases len
  have tt := tot_len ok
  have s1 := sum_cut (tabW f0) m
  have s3 := sum_app ((tabW f0).take m) (t :: (tabW f0).drop m)
  have s4 : ((t :: (tabW f0).drop m).map (·.length)).sum = t.length + (((tabW f0).drop m).map (·.length)).sum := rfl
  have jl := join_length hne
  refine ⟨noTab_long (by omega), ?_, by omega⟩
  rw [len, blank_len]
  omega
def spFaulty (K : PySem.W.Frag) : Sp := fun vs H Q _ => ∃ (lw lf a : Addr) (f : Fx) (ns : List Int), vs = [.ref lw, .ref lf, .ref a] ∧ f.Ok ∧ H lw = some (.lst (vS (tabW f))) ∧ IsFx f H lf ∧ SqL K H a (ns.map V.int) ∧ ∀ v H', Same H H' → NoTabV K H' v → Q v H'
abbrev pFaulty : List Str := ["_law_words", "_law_facts", "_law_script"]
abbrev nFaulty : List Str := ["_law_words", "_law_facts", "_law_script", "_law_cell_here", "_law_fault", "_law_at", "_law_some", "_law_text_here"]
theorem scFaulty : FnScope nFaulty pFaulty (defScope sFaulty) := ⟨rfl, rfl, rfl, by decide +kernel, rfl, by decide +kernel, by decide +kernel⟩
theorem ok_faulty {k : Nat} {f1 f2 : Addr} {d1 d2 : FuncData} (F : Fun K "_law_faulty" "_law_faulty" sFaulty f fd) (LC : Lib P w K mg base k "_law_cell" pCell (spCell K) f1 d1) (LB : Lib P w K mg base k "_law_bad_order" pBadO spBadO f2 d2) (mLi : mg "list" = none) (mt : mg "tuple" = none) : FnOk P w K mg base CX0 (k + 1) f fd pFaulty (spFaulty K) := by
  refine F.ok scFaulty (fun vs H Q E h => ?_) (fun cdv A outer s H vs Q E hr h => ?_)
  · obtain ⟨lw, lf, a, f0, ns, rfl, _⟩ := h
    rfl
  obtain ⟨lw0, lf, a, f0, ns, rfl, ok, hW0, hFx, hS, q⟩ := h
  have d3 : PS (cxOf CX0 P w K mg base nFaulty "_law_faulty" (defScope sFaulty) f cdv A outer s H E).nox ((defBody sFaulty).getD 3 (.Pass ⟨0, 0, 0, 0⟩)) _ := ps_if (pt_cmpR op_eq (pv 4) pe_int (nomark _)) (pss_cons (ps_set (i := 5) scFaulty.nd rfl (Or.inl rfl) (pe_op op_mul pe_int (pe_op op_mod (pv 3) pe_int))) (pss_cons (ps_set (i := 6) scFaulty.nd rfl (Or.inl rfl) (pe_lst (pa_cons (pe_op op_add_str (pe_ix ix_list (pv 0) (pv 5) (fun _ _ => rfl)) pe_str) (pa_cons (pe_slice sl_str (pe_ix ix_list (pv 0) (pv 5) (fun _ _ => rfl)) (po_some pe_int) po_none) (pa_cons (pe_bm0 PySem.F.plainAttrs_str PySem.F.slot_str_upper PySem.F.type_str_upper mt_upperE (pe_ix ix_list (pv 0) (pv 5) (fun _ _ => rfl))) (pa_cons pe_str (pa_cons pe_str pa_nil))))))) (pss_one (ps_asg (pe_ix ix_list (pv 6) (pe_op op_mod (pe_op op_fdiv (pv 3) pe_int) pe_int) (fun _ _ => rfl)) (pg_sub (pv 0) (pv 5) set_list))))) pss_nil
  have d4 : PS (cxOf CX0 P w K mg base nFaulty "_law_faulty" (defScope sFaulty) f cdv A outer s H E).nox ((defBody sFaulty).getD 4 (.Pass ⟨0, 0, 0, 0⟩)) _ := ps_ifSetL (j := 6) (ss := sizeBad) (pt_cmpR op_eq (pv 4) pe_int (nomark _)) scFaulty.nd rfl (Or.inl rfl) rfl (ps_asg (pe_ix ix_list (pv 6) (pe_op op_mod (pv 3) pe_int) (fun _ _ => rfl)) (pg_sub (pv 0) pe_int set_list))
  have d5 : PS (cxOf CX0 P w K mg base nFaulty "_law_faulty" (defScope sFaulty) f cdv A outer s H E).nox ((defBody sFaulty).getD 5 (.Pass ⟨0, 0, 0, 0⟩)) _ := ps_ifAsgAt (ss := seatBad) (pt_cmpR op_eq (pv 4) pe_int (nomark _)) rfl (pe_op op_mod (pv 3) pe_int) (fun _ _ => rfl) (pg_sub (pv 0) pe_int set_list)
  have d6 : PS (cxOf CX0 P w K mg base nFaulty "_law_faulty" (defScope sFaulty) f cdv A outer s H E).nox ((defBody sFaulty).getD 6 (.Pass ⟨0, 0, 0, 0⟩)) _ := ps_ifAsgAt (ss := dutyBad) (pt_cmpR op_eq (pv 4) pe_int (nomark _)) rfl (pe_op op_mod (pv 3) pe_int) (fun _ _ => rfl) (pg_sub (pv 0) pe_int set_list)
  have d7 : PS (cxOf CX0 P w K mg base nFaulty "_law_faulty" (defScope sFaulty) f cdv A outer s H E).nox ((defBody sFaulty).getD 7 (.Pass ⟨0, 0, 0, 0⟩)) _ := ps_if (PW.pt (pw_or (pt_cmpR op_eq (pv 4) pe_int (nomark _)) (pw_or1 (pt_cmpR op_eq (pv 4) pe_int (nomark _))))) (pss_cons (ps_set (i := 5) scFaulty.nd rfl (Or.inl rfl) (pe_op op_add pe_int (pe_op op_mul pe_int (pe_op op_sub (pv 4) pe_int)))) (pss_one (ps_asg (pe_call LB.ok hr rfl LB.mg LB.kp LB.bd .nil pass0 (pa_cons (pe_ix ix_list (pv 0) (pv 5) (fun _ _ => rfl)) (pa_cons (pe_ix ix_list (pv 1) pe_int (fun _ _ => rfl)) (pa_cons (pv 3) pa_nil)))) (pg_sub (pv 0) (pv 5) set_list)))) pss_nil
  have d8 : PS (cxOf CX0 P w K mg base nFaulty "_law_faulty" (defScope sFaulty) f cdv A outer s H E).nox ((defBody sFaulty).getD 8 (.Pass ⟨0, 0, 0, 0⟩)) _ := ps_if (pt_cmpR op_eq (pv 4) pe_int (nomark _)) (pss_one (ps_set (i := 0) scFaulty.nd rfl (Or.inl rfl) (pe_op op_cat (pe_slice sl_list (pv 0) po_none (po_some (pe_op op_mod (pv 3) pe_int))) (pe_slice sl_list (pv 0) (po_some (pe_op op_add (pe_op op_mod (pv 3) pe_int) pe_int)) po_none)))) pss_nil
  have d9 : PS (cxOf CX0 P w K mg base nFaulty "_law_faulty" (defScope sFaulty) f cdv A outer s H E).nox ((defBody sFaulty).getD 9 (.Pass ⟨0, 0, 0, 0⟩)) _ := ps_if (pt_cmpR op_eq (pv 4) pe_int (nomark _)) (pss_one (ps_expr (pe_bm PySem.F.plainAttrs_list PySem.F.slot_list_insert PySem.F.type_list_insert mt_insert (pv 0) (pa_cons (pe_op op_mod (pv 3) pe_int) (pa_cons (pe_ix ix_list (pe_lst (pa_strs (ss := insW) rfl)) (pe_op op_mod (pe_op op_fdiv (pv 3) pe_int) pe_int) (fun _ _ => rfl)) pa_nil))))) pss_nil
  have d10 : PS (cxOf CX0 P w K mg base nFaulty "_law_faulty" (defScope sFaulty) f cdv A outer s H E).nox ((defBody sFaulty).getD 10 (.Pass ⟨0, 0, 0, 0⟩)) _ := ps_if (pt_cmpR op_eq (pv 4) pe_int (nomark _)) (pss_cons (ps_set (i := 7) scFaulty.nd rfl (Or.inl rfl) (pe_bm PySem.F.plainAttrs_str PySem.F.slot_str_join PySem.F.type_str_join mt_join pe_str (pa_cons (pv 0) pa_nil))) (pss_one (ps_ret (pe_ix ix_list (pe_lst (pa_cons pe_non (pa_cons pe_int (pa_cons pe_bl (pa_cons (pv 0) (pa_cons (pe_callTy call_tuple_of rfl mt PyProof.Rows.boot_tuple (pa_cons (pv 0) pa_nil)) (pa_cons pe_str (pa_cons (pe_op op_add_str (pv 7) pe_str) (pa_cons (pe_op op_add_str pe_str (pv 7)) (pa_cons (pe_op op_add_str (pv 7) pe_str) (pa_cons (pe_op op_add_str pe_str (pv 7)) pa_nil))))))))))) (pe_op op_mod (pv 3) pe_int) (fun _ _ => rfl))))) pss_nil
  refine ⟨_, pss_cons (ps_set (i := 3) scFaulty.nd rfl (Or.inl rfl) (pe_call LC.ok hr rfl LC.mg LC.kp LC.bd .nil pass0 (pa_cons (pv 2) (pa_cons pe_int pa_nil))))
    (pss_cons (ps_set (i := 4) scFaulty.nd rfl (Or.inl rfl) (pe_op op_mod (pe_call LC.ok hr rfl LC.mg LC.kp LC.bd .nil pass0 (pa_cons (pv 2) (pa_cons pe_int pa_nil))) pe_int))
    (pss_cons (ps_set (i := 0) scFaulty.nd rfl (Or.inl rfl) (pe_callTy call_list_of rfl mLi PyProof.Rows.boot_list (pa_cons (pv 0) pa_nil)))
    (pss_cons d3
    (pss_cons d4
    (pss_cons d5
    (pss_cons d6
    (pss_cons d7
    (pss_cons d8
    (pss_cons d9
    (pss_cons d10
    (pss_one (ps_ret (pe_bm PySem.F.plainAttrs_str PySem.F.slot_str_join PySem.F.type_str_join mt_join pe_str (pa_cons (pv 0) pa_nil)))))))))))))), ?_⟩
  refine ⟨_, rfl, a, ns, 3, rfl, hS, by decide, fun z3 => nm_of ?_⟩
  refine set_nm (fun v H' => H = H' ∧ ∃ r : Nat, r < 9 ∧ v = .int ((r : Nat) : Int)) (fun R hR => ⟨_, rfl, a, ns, 2, rfl, hS, by decide, fun z2 => ?_⟩) (fun v H' y => ?_)
  · obtain ⟨r, r9, er⟩ := int_nat (z := z2) (n := 9) (by decide)
    exact ⟨_, _, rfl, rfl, (show (0 : Int) < 9 by decide), hR _ _ ⟨rfl, r, r9, congrArg V.int er⟩⟩
  obtain ⟨rfl, r, r9, rfl⟩ := y
  refine ⟨_, rfl, lw0, _, rfl, .inl (SqL.of hW0), fun lw hlw => nm_of ?_⟩
  let Inv (i : Nat) (σ : St) (H' : Hp) : Prop := ∃ (lw : Addr) (ws : List Str) (x5 x6 : Option V), σ = [some (.ref lw), some (.ref lf), some (.ref a), some (.int z3), some (.int ((r : Nat) : Int)), x5, x6, none] ∧ Same H H' ∧ H lw = none ∧ H' lw = some (.lst (vS ws)) ∧ ((i ≤ r ∧ ws = tabW f0) ∨ (r < i ∧ Good ws))
  have more : ∀ {i σ H'}, r ≠ i → Inv i σ H' → Inv (i + 1) σ H' := fun {i σ H'} n h => by
    obtain ⟨lw, ws, x5, x6, e, s1, hl, hL, h⟩ := h
    refine ⟨lw, ws, x5, x6, e, s1, hl, hL, ?_⟩
    rcases h with ⟨h1, h2⟩ | ⟨h1, h2⟩
    · exact .inl ⟨by omega, h2⟩
    · exact .inr ⟨by omega, h2⟩
  have done : ∀ {i lw ws x5 x6 H'}, r ≤ i → Same H H' → H lw = none → H' lw = some (.lst (vS ws)) → Good ws → Inv (i + 1) [some (.ref lw), some (.ref lf), some (.ref a), some (.int z3), some (.int ((r : Nat) : Int)), x5, x6, none] H' := fun {i lw ws x5 x6 H'} hr s1 hl hL g => ⟨lw, ws, x5, x6, rfl, s1, hl, hL, .inr ⟨by omega, g⟩⟩
  have l10 : (tabW f0).length = 10 := rfl
  have start : Inv 0 [some (.ref lw), some (.ref lf), some (.ref a), some (.int z3), some (.int ((r : Nat) : Int)), none, none, none] (upd H lw (.lst (vS (tabW f0)))) := ⟨lw, tabW f0, none, none, rfl, same_upd hlw _, hlw, upd_same, .inl ⟨Nat.zero_le _, rfl⟩⟩
  revert start
  generalize upd H lw (.lst (vS (tabW f0))) = H0
  intro start
  clear hlw
  -- another key
  refine if_cut (fun b H' => H0 = H' ∧ b = decide (r = 0)) (Inv 1) (fun R hR => ⟨_, rfl, rfl, _, rfl, hR _ _ ⟨rfl, natLit (n := 0) rfl⟩⟩) (fun H' y D' _ nx => ?_) (fun H' y D' _ nx => nx _ _ (y.1 ▸ more (of_decide_eq_false y.2.symm) start)) (fun σ H1 inv1 => ?_)
  · obtain ⟨rfl, hb⟩ := y
    have r0 := of_decide_eq_true hb.symm
    obtain ⟨lw', ws, x5, x6, e, s1, hl, hL, h⟩ := start
    injection e with e _
    injection e with e
    injection e with e
    subst e
    obtain ⟨_, rfl⟩ : 0 ≤ r ∧ ws = tabW f0 := h.elim id fun z => absurd z.1 (by omega)
    obtain ⟨i, i5, ei⟩ := int_nat (z := z3) (n := 5) (by decide)
    obtain ⟨m, hM, hm⟩ := tabW_mark f0 i5
    have ml : m.length ≤ 5 := (opt_chk m hM).1
    refine set_nm (fun v H' => H0 = H' ∧ v = .int ((2 * i : Nat) : Int)) (fun R hR => ⟨_, rfl, _, _, rfl, rfl, (show (0 : Int) < 5 by decide), _, _, rfl, rfl, .inl ⟨by decide, by decide⟩, hR _ _ ⟨rfl, ?_⟩⟩) (fun v H' y => ?_)
    · show V.int (2 * (z3 % 5)) = _
      rw [show z3 % 5 = ((i : Nat) : Int) from ei]
      rfl
    obtain ⟨rfl, rfl⟩ := y
    have atm : atI (vS (tabW f0)) ((2 * i : Nat) : Int) = some (.str m) := vS_at hm
    refine set_nm (fun v H' => ∃ ls, v = .ref ls ∧ Same H0 H' ∧ H' ls = some (.lst (vS (mOpt m)))) (fun R hR => ?_) (fun v H' y => ?_)
    · exact ⟨_, rfl, _, rfl, lw, _, _, .str m, rfl, rfl, SqL.of hL, atm, m, "s", rfl, rfl, fits3 _ (by show m.length + 1 ≤ 1000; omega), _, rfl, _, rfl, lw, _, _, .str m, rfl, rfl, SqL.of hL, atm, _, rfl, m, rfl, by omega, _, rfl, _, rfl, lw, _, _, .str m, rfl, rfl, SqL.of hL, atm, rfl, m, rfl, rfl, by omega, fits3 5 (by decide), fun ls hls => hR _ _ ⟨ls, rfl, same_upd hls _, upd_same⟩⟩
    obtain ⟨ls, rfl, s2, hls⟩ := y
    obtain ⟨o, o5, eo⟩ := int_nat (z := z3 / 5) (n := 5) (by decide)
    obtain ⟨t, ht⟩ : ∃ t, (mOpt m)[o]? = some t := ⟨_, List.getElem?_eq_getElem (show o < 5 from o5)⟩
    refine ⟨_, rfl, _, rfl, _, _, rfl, rfl, ⟨by decide, by decide⟩, _, _, rfl, rfl, (show (0 : Int) < 5 by decide), ls, _, _, .str t, rfl, rfl, SqL.of hls, (by rw [show z3 / 5 % 5 = ((o : Nat) : Int) from eo]; exact vS_at ht), _, rfl, _, rfl, lw, _, _, 2 * i, rfl, rfl, s2 _ _ hL, ixN_nat (by rw [vS_len, l10]; omega), ?_⟩
    rw [vS_set]
    have tm := List.mem_of_getElem? ht
    exact nx _ _ (done (by omega) (same_upd2 hl (s1.trans s2) _) hl upd_same (good_set ok (Nat.le_trans ((opt_chk m hM).2 t tm).2.2 (by decide)) (fault0 i5 hm hM tm)))
  -- another size
  refine if_cut (fun b H' => H1 = H' ∧ b = decide (r = 1)) (Inv 2) (fun R hR => ?_) (fun H' y D' _ nx => ?_) (fun H' y D' _ nx => nx _ _ (y.1 ▸ more (of_decide_eq_false y.2.symm) inv1)) (fun σ H2 inv2 => ?_)
  · obtain ⟨lw, ws, x5, x6, rfl, _⟩ := inv1
    exact ⟨_, rfl, rfl, _, rfl, hR _ _ ⟨rfl, natLit (n := 1) rfl⟩⟩
  · obtain ⟨rfl, hb⟩ := y
    have r0 := of_decide_eq_true hb.symm
    obtain ⟨lw, ws, x5, x6, rfl, s1, hl, hL, h⟩ := inv1
    obtain ⟨_, rfl⟩ : 1 ≤ r ∧ ws = tabW f0 := h.elim id fun z => absurd z.1 (by omega)
    obtain ⟨o, o5, eo⟩ := int_nat (z := z3) (n := 13) (by decide)
    obtain ⟨t, ht⟩ : ∃ t, sizeBad[o]? = some t := ⟨_, List.getElem?_eq_getElem (show o < 13 from o5)⟩
    refine set_nm (fun v H' => ∃ ls, v = .ref ls ∧ Same H1 H' ∧ H' ls = some (.lst (vS sizeBad))) (fun R hR => ⟨fits3 13 (by decide), fun ls hls => hR _ _ ⟨ls, rfl, same_upd hls _, upd_same⟩⟩) (fun v H' y => ?_)
    obtain ⟨ls, rfl, s2, hls⟩ := y
    refine ⟨_, rfl, _, rfl, _, _, rfl, rfl, (show (0 : Int) < 13 by decide), ls, _, _, .str t, rfl, rfl, SqL.of hls, (by rw [show z3 % 13 = ((o : Nat) : Int) from eo]; exact vS_at ht), _, rfl, lw, _, _, 1, rfl, rfl, s2 _ _ hL, ixN_nat (by rw [vS_len, l10]; decide), ?_⟩
    rw [vS_set]
    have tm := List.mem_of_getElem? ht
    exact nx _ _ (done (by omega) (same_upd2 hl (s1.trans s2) _) hl upd_same (good_set ok (Nat.le_trans (size_chk t tm).1 (by decide)) (fault1 tm)))
  -- other seats
  refine if_cut (fun b H' => H2 = H' ∧ b = decide (r = 2)) (Inv 3) (fun R hR => ?_) (fun H' y D' _ nx => ?_) (fun H' y D' _ nx => nx _ _ (y.1 ▸ more (of_decide_eq_false y.2.symm) inv2)) (fun σ H3 inv3 => ?_)
  · obtain ⟨lw, ws, x5, x6, rfl, _⟩ := inv2
    exact ⟨_, rfl, rfl, _, rfl, hR _ _ ⟨rfl, natLit (n := 2) rfl⟩⟩
  · obtain ⟨rfl, hb⟩ := y
    have r0 := of_decide_eq_true hb.symm
    obtain ⟨lw, ws, x5, x6, rfl, s1, hl, hL, h⟩ := inv2
    obtain ⟨_, rfl⟩ : 2 ≤ r ∧ ws = tabW f0 := h.elim id fun z => absurd z.1 (by omega)
    obtain ⟨o, o5, eo⟩ := int_nat (z := z3) (n := 8) (by decide)
    obtain ⟨t, ht⟩ : ∃ t, seatBad[o]? = some t := ⟨_, List.getElem?_eq_getElem (show o < 8 from o5)⟩
    refine ⟨fits3 8 (by decide), fun ls hls => ?_⟩
    have s2 := same_upd hls (.lst (vS seatBad))
    refine ⟨_, rfl, _, _, rfl, rfl, (show (0 : Int) < 8 by decide), ls, _, _, .str t, rfl, rfl, SqL.of upd_same, (by rw [show z3 % 8 = ((o : Nat) : Int) from eo]; exact vS_at ht), _, rfl, lw, _, _, 3, rfl, rfl, s2 _ _ hL, ixN_nat (by rw [vS_len, l10]; decide), ?_⟩
    rw [vS_set]
    have tm := List.mem_of_getElem? ht
    exact nx _ _ (done (by omega) (same_upd2 hl (s1.trans s2) _) hl upd_same (good_set ok (Nat.le_trans (seat_chk t tm).1 (by decide)) (fault2 tm)))
  -- another duty
  refine if_cut (fun b H' => H3 = H' ∧ b = decide (r = 3)) (Inv 4) (fun R hR => ?_) (fun H' y D' _ nx => ?_) (fun H' y D' _ nx => nx _ _ (y.1 ▸ more (of_decide_eq_false y.2.symm) inv3)) (fun σ H4 inv4 => ?_)
  · obtain ⟨lw, ws, x5, x6, rfl, _⟩ := inv3
    exact ⟨_, rfl, rfl, _, rfl, hR _ _ ⟨rfl, natLit (n := 3) rfl⟩⟩
  · obtain ⟨rfl, hb⟩ := y
    have r0 := of_decide_eq_true hb.symm
    obtain ⟨lw, ws, x5, x6, rfl, s1, hl, hL, h⟩ := inv3
    obtain ⟨_, rfl⟩ : 3 ≤ r ∧ ws = tabW f0 := h.elim id fun z => absurd z.1 (by omega)
    obtain ⟨o, o5, eo⟩ := int_nat (z := z3) (n := 8) (by decide)
    obtain ⟨t, ht⟩ : ∃ t, dutyBad[o]? = some t := ⟨_, List.getElem?_eq_getElem (show o < 8 from o5)⟩
    refine ⟨fits3 8 (by decide), fun ls hls => ?_⟩
    have s2 := same_upd hls (.lst (vS dutyBad))
    refine ⟨_, rfl, _, _, rfl, rfl, (show (0 : Int) < 8 by decide), ls, _, _, .str t, rfl, rfl, SqL.of upd_same, (by rw [show z3 % 8 = ((o : Nat) : Int) from eo]; exact vS_at ht), _, rfl, lw, _, _, 5, rfl, rfl, s2 _ _ hL, ixN_nat (by rw [vS_len, l10]; decide), ?_⟩
    rw [vS_set]
    have tm := List.mem_of_getElem? ht
    exact nx _ _ (done (by omega) (same_upd2 hl (s1.trans s2) _) hl upd_same (good_set ok (Nat.le_trans (duty_chk t tm).1 (by decide)) (fault3 tm)))
  -- another order
  refine if_cut (fun b H' => H4 = H' ∧ b = decide (r = 4 ∨ r = 5)) (Inv 6) (fun R hR => ?_) (fun H' y D' _ nx => ?_) (fun H' y D' _ nx => ?_) (fun σ H6 inv6 => ?_)
  · obtain ⟨lw, ws, x5, x6, rfl, _⟩ := inv4
    refine ⟨_, rfl, rfl, _, rfl, chg (natLit (n := 4) rfl) ?_⟩
    by_cases r4 : r = 4
    · rw [decide_eq_true r4]
      exact iteT (hR _ _ ⟨rfl, (decide_eq_true (.inl r4)).symm⟩)
    · rw [decide_eq_false r4]
      refine iteF ⟨_, rfl, rfl, _, rfl, hR _ _ ⟨rfl, (natLit (n := 5) rfl).trans (decide_eq_decide.mpr ⟨.inr, fun h => h.elim (fun z => absurd z r4) id⟩)⟩⟩
  · obtain ⟨rfl, hb⟩ := y
    have r0 := of_decide_eq_true hb.symm
    obtain ⟨lw, ws, x5, x6, rfl, s1, hl, hL, h⟩ := inv4
    obtain ⟨_, rfl⟩ : 4 ≤ r ∧ ws = tabW f0 := h.elim id fun z => absurd z.1 (by omega)
    obtain ⟨i, hi, ei⟩ : ∃ i : Nat, (i = 7 ∨ i = 9) ∧ 7 + 2 * (((r : Nat) : Int) - 4) = ((i : Nat) : Int) := by
      rcases r0 with e | e
      · exact ⟨7, .inl rfl, by rw [e]; rfl⟩
      · exact ⟨9, .inr rfl, by rw [e]; rfl⟩
    refine set_nm (fun v H' => H4 = H' ∧ v = .int ((i : Nat) : Int)) (fun R hR => ⟨_, rfl, _, _, rfl, rfl, _, _, rfl, rfl, .inl ⟨by decide, by decide⟩, _, _, rfl, rfl, hR _ _ ⟨rfl, congrArg V.int ei⟩⟩) (fun v H' y => ?_)
    obtain ⟨rfl, rfl⟩ := y
    obtain ⟨l, pm, hw⟩ : ∃ l : List Nat, l.Perm (List.range f0.h) ∧ (tabW f0)[i]? = some (figS l) := by
      rcases hi with rfl | rfl
      · exact ⟨f0.pl, ok.pp, rfl⟩
      · exact ⟨f0.tr, ok.pt, rfl⟩
    obtain ⟨pl, tr, hF, _, _⟩ := hFx.same s1
    refine ⟨_, rfl, _, rfl, lw, _, _, .str (figS l), rfl, rfl, SqL.of hL, vS_at hw, _, rfl, lf, _, _, .int (f0.h : Nat), rfl, rfl, SqL.of hF, rfl, _, rfl, l, f0.h, z3, rfl, ok.h1, ok.h8, pm, fun t bo => ⟨_, rfl, _, rfl, lw, _, _, i, rfl, rfl, hL, ixN_nat (by rw [vS_len, l10]; omega), ?_⟩⟩
    rw [vS_set]
    exact nx _ _ (done (i := 5) (by omega) (same_upd2 hl s1 _) hl upd_same (good_set ok bo.2.1 (fault45 hi bo)))
  · obtain ⟨rfl, hb⟩ := y
    have r0 := of_decide_eq_false hb.symm
    exact nx _ _ (more (i := 5) (fun z => r0 (.inr z)) (more (i := 4) (fun z => r0 (.inl z)) inv4))
  -- a word left out
  refine if_cut (fun b H' => H6 = H' ∧ b = decide (r = 6)) (Inv 7) (fun R hR => ?_) (fun H' y D' _ nx => ?_) (fun H' y D' _ nx => nx _ _ (y.1 ▸ more (of_decide_eq_false y.2.symm) inv6)) (fun σ H7 inv7 => ?_)
  · obtain ⟨lw, ws, x5, x6, rfl, _⟩ := inv6
    exact ⟨_, rfl, rfl, _, rfl, hR _ _ ⟨rfl, natLit (n := 6) rfl⟩⟩
  · obtain ⟨rfl, hb⟩ := y
    have r0 := of_decide_eq_true hb.symm
    obtain ⟨lw, ws, x5, x6, rfl, s1, hl, hL, h⟩ := inv6
    obtain ⟨_, rfl⟩ : 6 ≤ r ∧ ws = tabW f0 := h.elim id fun z => absurd z.1 (by omega)
    obtain ⟨o, o5, eo⟩ := int_nat (z := z3) (n := 10) (by decide)
    have eo' : z3 % 10 = ((o : Nat) : Int) := eo
    refine ⟨_, rfl, _, rfl, _, _, rfl, rfl, (show (0 : Int) < 10 by decide), _, rfl, lw, _, rfl, SqL.of hL, fun p hp => ?_⟩
    have s2 := same_upd hp (.lst (cutV (vS (tabW f0)) none (some (z3 % 10))))
    refine ⟨_, rfl, _, rfl, _, _, rfl, rfl, (show (0 : Int) < 10 by decide), _, _, rfl, rfl, _, rfl, lw, _, rfl, SqL.of (s2 _ _ hL), fun p2 hp2 => ?_⟩
    have s3 := same_upd hp2 (.lst (cutV (vS (tabW f0)) (some (z3 % 10 + 1)) none))
    have e1 : cutV (vS (tabW f0)) none (some (z3 % 10)) = vS ((tabW f0).take o) := by rw [eo']; exact vS_cut_to _ _ (by rw [l10]; omega)
    have e2 : cutV (vS (tabW f0)) (some (z3 % 10 + 1)) none = vS ((tabW f0).drop (o + 1)) := by rw [eo']; exact vS_cut_from _ (o + 1) (by rw [l10]; omega)
    refine ⟨p, p2, _, _, rfl, rfl, s3 _ _ upd_same, upd_same, fits3 _ ?_, fun p3 hp3 => ?_⟩
    · rw [e1, e2, vS_len, vS_len, List.length_take, List.length_drop, l10]
      omega
    · have sA := s1.trans (s2.trans s3)
      refine nx _ _ (done (i := 6) (by omega) (sA.trans (same_upd hp3 _)) (sA.free hp3) (ws := (tabW f0).take o ++ (tabW f0).drop (o + 1)) ?_ (good_drop ok o5))
      rw [upd_same, e1, e2]
      unfold vS
      rw [List.map_append]
  -- a word more
  refine if_cut (fun b H' => H7 = H' ∧ b = decide (r = 7)) (Inv 8) (fun R hR => ?_) (fun H' y D' _ nx => ?_) (fun H' y D' _ nx => nx _ _ (y.1 ▸ more (of_decide_eq_false y.2.symm) inv7)) (fun σ H8 inv8 => ?_)
  · obtain ⟨lw, ws, x5, x6, rfl, _⟩ := inv7
    exact ⟨_, rfl, rfl, _, rfl, hR _ _ ⟨rfl, natLit (n := 7) rfl⟩⟩
  · obtain ⟨rfl, hb⟩ := y
    have r0 := of_decide_eq_true hb.symm
    obtain ⟨lw, ws, x5, x6, rfl, s1, hl, hL, h⟩ := inv7
    obtain ⟨_, rfl⟩ : 7 ≤ r ∧ ws = tabW f0 := h.elim id fun z => absurd z.1 (by omega)
    obtain ⟨i, i11, ei⟩ := int_nat (z := z3) (n := 11) (by decide)
    obtain ⟨o, o4, eo⟩ := int_nat (z := z3 / 11) (n := 4) (by decide)
    obtain ⟨t, ht⟩ : ∃ t, insW[o]? = some t := ⟨_, List.getElem?_eq_getElem (show o < 4 from o4)⟩
    refine ⟨_, rfl, .inl ⟨rfl, _, SqL.of hL⟩, _, rfl, _, _, rfl, rfl, (show (0 : Int) < 11 by decide), fits3 4 (by decide), fun ls hls => ?_⟩
    have s2 := same_upd hls (.lst (vS insW))
    refine ⟨_, rfl, _, _, rfl, rfl, ⟨by decide, by decide⟩, _, _, rfl, rfl, (show (0 : Int) < 4 by decide), ls, _, _, .str t, rfl, rfl, SqL.of upd_same, (by rw [show z3 / 11 % 4 = ((o : Nat) : Int) from eo]; exact vS_at ht), lw, vS (tabW f0), _, i, .str t, rfl, rfl, ei, s2 _ _ hL, by rw [vS_len, l10]; omega, by omega, by rw [vS_len, l10]; exact Nat.lt_of_lt_of_le (by decide) (fits3 11 (by decide)), ?_⟩
    have ev : (vS (tabW f0)).take i ++ V.str t :: (vS (tabW f0)).drop i = vS ((tabW f0).take i ++ t :: (tabW f0).drop i) := by
      unfold vS
      rw [List.map_append, List.map_cons, List.map_take, List.map_drop]
    rw [ev]
    exact nx _ _ (done (i := 7) (by omega) (same_upd2 hl (s1.trans s2) _) hl upd_same (good_ins ok i11 (ins_chk t (List.mem_of_getElem? ht))))
  -- no text, or blanks about it
  have jt : Txt.join blank (tabW f0) = tabT f0 := rfl
  have tl := tab_len ok
  have tl59 : (tabT f0).length ≤ 60 := by
    have jl := join_length (ws := tabW f0) (List.cons_ne_nil _ _)
    have t := tot_len ok
    rw [jt] at jl
    have : (tabW f0).length = 10 := rfl
    omega
  have cnt := tab_cnt f0
  refine if_cut (fun b H' => H8 = H' ∧ b = decide (r = 8)) (Inv 9) (fun R hR => ?_) (fun H' y D' rt nx => ?_) (fun H' y D' _ nx => nx _ _ (y.1 ▸ more (of_decide_eq_false y.2.symm) inv8)) (fun σ H9 inv9 => ?_)
  · obtain ⟨lw, ws, x5, x6, rfl, _⟩ := inv8
    exact ⟨_, rfl, rfl, _, rfl, hR _ _ ⟨rfl, natLit (n := 8) rfl⟩⟩
  · obtain ⟨rfl, hb⟩ := y
    have r0 := of_decide_eq_true hb.symm
    obtain ⟨lw, ws, x5, x6, rfl, s1, hl, hL, h⟩ := inv8
    obtain ⟨_, rfl⟩ : 8 ≤ r ∧ ws = tabW f0 := h.elim id fun z => absurd z.1 (by omega)
    have bl := blank_len
    refine ⟨rfl, _, rfl, blank, lw, tabW f0, rfl, rfl, SqL.of hL, (by have := tot_len ok; rw [bl, l10]; omega), nm_of ?_⟩
    rw [jt]
    have e1 : ((" " : Str)).length = 1 := by decide +kernel
    have e2 : (("\n" : Str)).length = 1 := by decide +kernel
    refine ⟨_, rfl, _, rfl, lw, _, rfl, .inl ⟨SqL.of hL, fun tp htp => ?_⟩⟩
    have s2 := same_upd htp (.tup (vS (tabW f0)))
    refine ⟨_, rfl, _, _, rfl, rfl, fits3 _ (by rw [e1]; omega), _, rfl, _, _, rfl, rfl, fits3 _ (by rw [e1]; omega), _, rfl, _, _, rfl, rfl, fits3 _ (by rw [e2]; omega), _, rfl, _, _, rfl, rfl, fits3 _ (by rw [e2]; omega), fits3 10 (by decide), fun ls hls => ?_⟩
    have s3 := same_upd hls (.lst [V.non, .int 8, .bl true, .ref lw, .ref tp, .str "", .str (tabT f0 ++ " "), .str (" " ++ tabT f0), .str (tabT f0 ++ "\n"), .str ("\n" ++ tabT f0)])
    obtain ⟨o, o10, eo⟩ := int_nat (z := z3) (n := 10) (by decide)
    have sA := s1.trans (s2.trans s3)
    have hT : ∀ {a b : Str}, (a ++ b).length = a.length + b.length := fun {a b} => by
      show (a.cps ++ b.cps).size = _
      rw [Array.size_append]
      rfl
    have b32 : (" " : Str).cps.toList = [32] := by decide +kernel
    have b10 : ("\n" : Str).cps.toList = [10] := by decide +kernel
    obtain ⟨v, hv, hbad⟩ : ∃ v, ([V.non, .int 8, .bl true, .ref lw, .ref tp, .str "", .str (tabT f0 ++ " "), .str (" " ++ tabT f0), .str (tabT f0 ++ "\n"), .str ("\n" ++ tabT f0)] : List V)[o]? = some v ∧ NoTabV K (upd (upd H8 tp (.tup (vS (tabW f0)))) ls (.lst [V.non, .int 8, .bl true, .ref lw, .ref tp, .str "", .str (tabT f0 ++ " "), .str (" " ++ tabT f0), .str (tabT f0 ++ "\n"), .str ("\n" ++ tabT f0)])) v := by
      rcases (by omega : o = 0 ∨ o = 1 ∨ o = 2 ∨ o = 3 ∨ o = 4 ∨ o = 5 ∨ o = 6 ∨ o = 7 ∨ o = 8 ∨ o = 9) with rfl | rfl | rfl | rfl | rfl | rfl | rfl | rfl | rfl | rfl
      · exact ⟨_, rfl, .inr ⟨⟨_, .non, by with_unfolding_all rfl⟩, fun t z => nomatch z⟩⟩
      · exact ⟨_, rfl, .inr ⟨⟨_, .int _, by with_unfolding_all rfl⟩, fun t z => nomatch z⟩⟩
      · exact ⟨_, rfl, .inr ⟨⟨_, .bl _, by with_unfolding_all rfl⟩, fun t z => nomatch z⟩⟩
      · exact ⟨_, rfl, .inr ⟨⟨_, .lst (s3 _ _ (s2 _ _ hL)), by with_unfolding_all rfl⟩, fun t z => nomatch z⟩⟩
      · exact ⟨_, rfl, .inr ⟨⟨_, .tup (s3 _ _ upd_same), by with_unfolding_all rfl⟩, fun t z => nomatch z⟩⟩
      · exact ⟨_, rfl, .inl ⟨_, rfl, by decide +kernel, noTab_cnt (by decide +kernel)⟩⟩
      · exact ⟨_, rfl, .inl ⟨_, rfl, by rw [hT, e1]; omega, noTab_cnt (by rw [app_list, List.count_append, cnt, b32]; decide)⟩⟩
      · exact ⟨_, rfl, .inl ⟨_, rfl, by rw [hT, e1]; omega, noTab_cnt (by rw [app_list, List.count_append, cnt, b32]; decide)⟩⟩
      · exact ⟨_, rfl, .inl ⟨_, rfl, by rw [hT, e2]; omega, noTab_10 (by rw [app_list, b10]; exact List.mem_append_right _ List.mem_cons_self)⟩⟩
      · exact ⟨_, rfl, .inl ⟨_, rfl, by rw [hT, e2]; omega, noTab_10 (by rw [app_list, b10]; exact List.mem_append_left _ List.mem_cons_self)⟩⟩
    refine ⟨_, rfl, _, _, rfl, rfl, (show (0 : Int) < 10 by decide), ls, _, _, v, rfl, rfl, SqL.of upd_same, (by rw [show z3 % 10 = ((o : Nat) : Int) from eo]; exact atI_nat hv), ?_⟩
    rw [rt]
    exact q v _ sA hbad
  obtain ⟨lw, ws, x5, x6, rfl, s1, hl, hL, h⟩ := inv9
  obtain ⟨_, g1, g2, g3⟩ : r < 9 ∧ Good ws := h.elim (fun z => absurd z.1 (by omega)) id
  exact ⟨rfl, _, rfl, blank, lw, ws, rfl, rfl, SqL.of hL, g2, q _ _ s1 (.inl ⟨_, rfl, g3, g1⟩)⟩
end
end My

namespace My
open PySem L2
abbrev sLaw : Stmt := top 46
section
variable {P : Program} {w : World} {K : PySem.W.Frag} {mg : Str → Option Value} {base : Heap} {f g : Addr} {fd gd : FuncData}
/-! ### the law -/
def spLaw (K : PySem.W.Frag) : Sp := fun vs H Q _ => ∃ (a : Addr) (ns : List Int), vs = [.ref a] ∧ SqL K H a (ns.map V.int) ∧ ns.length ≤ 63 ∧ ∀ H', Q (.bl true) H'
abbrev nLaw : List Str := ["_law_script", "_law_facts", "_law_text_here"]
theorem scLaw : FnScope nLaw ["_law_script"] (defScope sLaw) := ⟨rfl, rfl, rfl, by decide +kernel, rfl, by decide +kernel, by decide +kernel⟩
theorem ok_law {k : Nat} {CT CN f1 f2 f3 f4 fI mX : Addr} {d1 d2 d3 d4 dI eX : FuncData} (F : Fun K "law" "law" sLaw f fd) (TC : TabC K mg CT) (LT : Lib P w K mg base (k + 1) "_law_table" ["_law_script"] (spTable K) f1 d1) (LX : Lib P w K mg base (k + 1) "_law_text" ["_law_facts"] (spText K) f2 d2)
    (LF : Lib P w K mg base (k + 1) "_law_faulty" pFaulty (spFaulty K) f3 d3) (LR : Lib P w K mg base (k + 1) "_law_refused" ["_law_text_here"] (spRefused K) f4 d4) (MkT : Mk K CT fI) (FI : FnOk P w K mg base (CX1 P w) k fI dI ["self", "text"] (spTabX K CT CN)) (BT : Binds K dI ["self", "text"] [])
    (MX : Meth K CT "text" mX) (FX : FnOk P w K mg base CX0 (k + 1) mX eX ["self"] (spTText CT)) (BX : Binds K eX ["self"] []) : FnOk P w K mg base CX0 (k + 2) f fd ["_law_script"] (spLaw K) := by
  refine F.ok scLaw (fun vs H Q E h => ?_) (fun cdv A outer s H vs Q E hr h => ?_)
  · obtain ⟨a, ns, rfl, _⟩ := h
    rfl
  obtain ⟨a, ns, rfl, hS, h63, q⟩ := h
  refine ⟨_, pss_cons (ps_set (i := 1) scLaw.nd rfl (Or.inl rfl) (pe_call LT.ok hr rfl LT.mg LT.kp LT.bd .nil pass0 (pa_cons (pv 0) pa_nil)))
    (pss_cons (ps_set (i := 2) scLaw.nd rfl (Or.inl rfl) (pe_call LX.ok hr rfl LX.mg LX.kp LX.bd .nil pass0 (pa_cons (pv 1) pa_nil)))
    (pss_cons (ps_if (pt_not (pt_truth (pe_call LR.ok hr rfl LR.mg LR.kp LR.bd .nil pass0 (pa_cons (pe_call LF.ok hr rfl LF.mg LF.kp LF.bd .nil pass0 (pa_cons (pe_bm PySem.F.plainAttrs_str PySem.F.slot_str_split PySem.F.type_str_split mt_split (pv 2) (pa_cons pe_str pa_nil)) (pa_cons (pv 1) (pa_cons (pv 0) pa_nil)))) pa_nil)) (fun _ => rfl))) (pss_one (ps_ret pe_bl)) pss_nil)
    (pss_one (ps_ret (pe_cmpR op_eq (pe_meth0 (pe_make MkT FI hr rfl TC.mT BT .nil pass1 (pa_cons (pv 2) pa_nil)) TC.cl MX FX hr BX .nil pass0) (pv 2) (nomark _)))))), ?_⟩
  refine ⟨_, rfl, a, ns, rfl, hS, fun lf f0 H1 ok s1 hlf hF => nm_of ?_⟩
  refine ⟨_, rfl, lf, f0, rfl, ok, hF, fun H2 s2 => nm_of ?_⟩
  have tl := tab_len ok
  refine ⟨_, rfl, rfl, tabT f0, blank, rfl, rfl, (by decide +kernel), by omega, fun lw hlw => ?_⟩
  rw [tab_split]
  have s3 := same_upd hlw (.lst (vS (tabW f0)))
  refine ⟨_, rfl, _, rfl, lw, lf, a, f0, ns, rfl, ok, upd_same, (hF.same s2).same s3, (s1.trans (s2.trans s3)).seq hS, fun v H4 s4 hv => ⟨v, rfl, hv, fun H5 s5 => ⟨true, rfl, iteF ?_⟩⟩⟩
  refine ⟨_, rfl, fun x dx hx hd nd => ?_⟩
  refine ⟨x, dx, .str (tabT f0), rfl, upd_same, .inl ⟨_, rfl, ?_⟩, fun g okg e po to H6 k6 h6 hp ht => ⟨rfl, ?_⟩, fun z => absurd rfl (z f0 ok)⟩
  · have jl := join_length (ws := tabW f0) (List.cons_ne_nil _ _)
    have t := tot_len ok
    have e : (tabW f0).length = 10 := rfl
    have : (tabT f0).length + 1 = ((tabW f0).map (·.length)).sum + (tabW f0).length := jl
    omega
  · have eg : tabT g = tabT f0 := (V.str.inj e).symm
    refine ⟨x, dx, _, rfl, h6, look7_text _ _ _, x, g, rfl, ⟨dx, po, to, h6, hp, ht⟩, _, rfl, rfl, ?_⟩
    rw [eg, show decide (V.str (tabT f0) = V.str (tabT f0)) = true from decide_eq_true rfl]
    exact q _
end
end My

namespace My
open PySem L2
theorem all_mk {cdN : ClassData} {wd : Option Addr} {tw1 tw2 tw3 tw4 tw5 : Tok} {wn : Nat} {wsl : Array (Option Value)} {l : PySem.W.OpenLaw} {w : World} {K : PySem.W.Frag} {h : Heap} {mg : Str → Option Value} {fa f1 f2 f3 f4 f5 f6 f7 f8 f9 f10 f11 f12 f13 f14 f15 f_F f_L f_C f_B f_I f_X CE CN CF CL CC CB CT aM e0 e1 e2 e3 e4 e5 e6 e7 e8 e9 e10 e11 e12 e13 e14 : Addr} (X : K.In h) (G : h.Ns mainGlobals mg) (hfa : mg "law" = some (.ref fa))
    {od1 an1 od2 an2 od3 an3 od4 an4 od5 an5 od6 an6 od7 an7 od8 an8 od9 an9 od10 an10 od11 an11 od12 an12 od13 an13 od14 an14 od15 an15 od_F an_F od_L an_L od_C an_C od_B an_B od_I an_I od_X an_X : Option Addr} {sl1 sl2 sl3 sl4 sl5 sl6 sl7 sl8 sl9 sl10 sl11 sl12 sl13 sl14 sl15 sl_F sl_L sl_C sl_B sl_I sl_X : Array (Option Value)} {oc1 kV1 dc1 pm1 cd1 ct1 oc2 kV2 dc2 pm2 cd2 ct2 oc3 kV3 dc3 pm3 cd3 ct3 oc4 kV4 dc4 pm4 cd4 ct4 oc5 kV5 dc5 pm5 cd5 ct5 oc6 kV6 dc6 pm6 cd6 ct6 oc7 kV7 dc7 pm7 cd7 ct7 oc8 kV8 dc8 pm8 cd8 ct8 oc9 kV9 dc9 pm9 cd9 ct9 oc10 kV10 dc10 pm10 cd10 ct10 oc11 kV11 dc11 pm11 cd11 ct11 oc12 kV12 dc12 pm12 cd12 ct12 oc13 kV13 dc13 pm13 cd13 ct13 oc14 kV14 dc14 pm14 cd14 ct14 oc15 kV15 dc15 pm15 cd15 ct15 oc_F kV_F dc_F pm_F cd_F ct_F oc_L kV_L dc_L pm_L cd_L ct_L oc_C kV_C dc_C pm_C cd_C ct_C oc_B kV_B dc_B pm_B cd_B ct_B oc_I kV_I dc_I pm_I cd_I ct_I oc_X kV_X dc_X pm_X cd_X ct_X : Value} {t1 t2 : Tok}
    (a1 : PySem.W.nsIn K mainGlobals "duty_of" = some (some (.ref f1))) (l1 : K.lookup f1 = some ⟨oc1, od1, .func (PySem.W.fnOf "duty_of" "duty_of" (defArgs sDutyOf) (defBody sDutyOf) (defScope sDutyOf) .none kV1 dc1 pm1 an1 cd1 ct1), sl1⟩) (c1 : PySem.W.codeIn K cd1 "duty_of" = true) (k1 : PySem.W.keepIn K (.ref f1) = true)
    (a2 : PySem.W.nsIn K mainGlobals "words_behind_marks" = some (some (.ref f2))) (l2 : K.lookup f2 = some ⟨oc2, od2, .func (PySem.W.fnOf "words_behind_marks" "words_behind_marks" (defArgs sMarks) (defBody sMarks) (defScope sMarks) .none kV2 dc2 pm2 an2 cd2 ct2), sl2⟩) (c2 : PySem.W.codeIn K cd2 "words_behind_marks" = true) (k2 : PySem.W.keepIn K (.ref f2) = true)
    (a3 : PySem.W.nsIn K mainGlobals "read_size" = some (some (.ref f3))) (l3 : K.lookup f3 = some ⟨oc3, od3, .func (PySem.W.fnOf "read_size" "read_size" (defArgs sReadSize) (defBody sReadSize) (defScope sReadSize) .none kV3 dc3 pm3 an3 cd3 ct3), sl3⟩) (c3 : PySem.W.codeIn K cd3 "read_size" = true) (k3 : PySem.W.keepIn K (.ref f3) = true)
    (a4 : PySem.W.nsIn K mainGlobals "read_seats" = some (some (.ref f4))) (l4 : K.lookup f4 = some ⟨oc4, od4, .func (PySem.W.fnOf "read_seats" "read_seats" (defArgs sReadSeats) (defBody sReadSeats) (defScope sReadSeats) .none kV4 dc4 pm4 an4 cd4 ct4), sl4⟩) (c4 : PySem.W.codeIn K cd4 "read_seats" = true) (k4 : PySem.W.keepIn K (.ref f4) = true)
    (a5 : PySem.W.nsIn K mainGlobals "read_order" = some (some (.ref f5))) (l5 : K.lookup f5 = some ⟨oc5, od5, .func (PySem.W.fnOf "read_order" "read_order" (defArgs sReadOrder) (defBody sReadOrder) (defScope sReadOrder) .none kV5 dc5 pm5 an5 cd5 ct5), sl5⟩) (c5 : PySem.W.codeIn K cd5 "read_order" = true) (k5 : PySem.W.keepIn K (.ref f5) = true)
    (a6 : PySem.W.nsIn K mainGlobals "_law_cell" = some (some (.ref f6))) (l6 : K.lookup f6 = some ⟨oc6, od6, .func (PySem.W.fnOf "_law_cell" "_law_cell" (defArgs sCell) (defBody sCell) (defScope sCell) .none kV6 dc6 pm6 an6 cd6 ct6), sl6⟩) (c6 : PySem.W.codeIn K cd6 "_law_cell" = true) (k6 : PySem.W.keepIn K (.ref f6) = true)
    (a7 : PySem.W.nsIn K mainGlobals "_law_mixed" = some (some (.ref f7))) (l7 : K.lookup f7 = some ⟨oc7, od7, .func (PySem.W.fnOf "_law_mixed" "_law_mixed" (defArgs sMixed) (defBody sMixed) (defScope sMixed) .none kV7 dc7 pm7 an7 cd7 ct7), sl7⟩) (c7 : PySem.W.codeIn K cd7 "_law_mixed" = true) (k7 : PySem.W.keepIn K (.ref f7) = true)
    (a8 : PySem.W.nsIn K mainGlobals "_law_order" = some (some (.ref f8))) (l8 : K.lookup f8 = some ⟨oc8, od8, .func (PySem.W.fnOf "_law_order" "_law_order" (defArgs sOrder) (defBody sOrder) (defScope sOrder) .none kV8 dc8 pm8 an8 cd8 ct8), sl8⟩) (c8 : PySem.W.codeIn K cd8 "_law_order" = true) (k8 : PySem.W.keepIn K (.ref f8) = true)
    (a9 : PySem.W.nsIn K mainGlobals "_law_table" = some (some (.ref f9))) (l9 : K.lookup f9 = some ⟨oc9, od9, .func (PySem.W.fnOf "_law_table" "_law_table" (defArgs sTable) (defBody sTable) (defScope sTable) .none kV9 dc9 pm9 an9 cd9 ct9), sl9⟩) (c9 : PySem.W.codeIn K cd9 "_law_table" = true) (k9 : PySem.W.keepIn K (.ref f9) = true)
    (a10 : PySem.W.nsIn K mainGlobals "_law_text" = some (some (.ref f10))) (l10 : K.lookup f10 = some ⟨oc10, od10, .func (PySem.W.fnOf "_law_text" "_law_text" (defArgs sText) (defBody sText) (defScope sText) .none kV10 dc10 pm10 an10 cd10 ct10), sl10⟩) (c10 : PySem.W.codeIn K cd10 "_law_text" = true) (k10 : PySem.W.keepIn K (.ref f10) = true)
    (a11 : PySem.W.nsIn K mainGlobals "_law_others" = some (some (.ref f11))) (l11 : K.lookup f11 = some ⟨oc11, od11, .func (PySem.W.fnOf "_law_others" "_law_others" (defArgs sOthers) (defBody sOthers) (defScope sOthers) .none kV11 dc11 pm11 an11 cd11 ct11), sl11⟩) (c11 : PySem.W.codeIn K cd11 "_law_others" = true) (k11 : PySem.W.keepIn K (.ref f11) = true)
    (a12 : PySem.W.nsIn K mainGlobals "_law_refused" = some (some (.ref f12))) (l12 : K.lookup f12 = some ⟨oc12, od12, .func (PySem.W.fnOf "_law_refused" "_law_refused" (defArgs sRefused) (defBody sRefused) (defScope sRefused) .none kV12 dc12 pm12 an12 cd12 ct12), sl12⟩) (c12 : PySem.W.codeIn K cd12 "_law_refused" = true) (k12 : PySem.W.keepIn K (.ref f12) = true)
    (a13 : PySem.W.nsIn K mainGlobals "_law_bad_order" = some (some (.ref f13))) (l13 : K.lookup f13 = some ⟨oc13, od13, .func (PySem.W.fnOf "_law_bad_order" "_law_bad_order" (defArgs sBadO) (defBody sBadO) (defScope sBadO) .none kV13 dc13 pm13 an13 cd13 ct13), sl13⟩) (c13 : PySem.W.codeIn K cd13 "_law_bad_order" = true) (k13 : PySem.W.keepIn K (.ref f13) = true)
    (a14 : PySem.W.nsIn K mainGlobals "_law_faulty" = some (some (.ref f14))) (l14 : K.lookup f14 = some ⟨oc14, od14, .func (PySem.W.fnOf "_law_faulty" "_law_faulty" (defArgs sFaulty) (defBody sFaulty) (defScope sFaulty) .none kV14 dc14 pm14 an14 cd14 ct14), sl14⟩) (c14 : PySem.W.codeIn K cd14 "_law_faulty" = true) (k14 : PySem.W.keepIn K (.ref f14) = true)
    (a15 : PySem.W.nsIn K mainGlobals "law" = some (some (.ref f15))) (l15 : K.lookup f15 = some ⟨oc15, od15, .func (PySem.W.fnOf "law" "law" (defArgs sLaw) (defBody sLaw) (defScope sLaw) .none kV15 dc15 pm15 an15 cd15 ct15), sl15⟩) (c15 : PySem.W.codeIn K cd15 "law" = true) (k15 : PySem.W.keepIn K (.ref f15) = true)
    (a_F : PySem.W.findIn K (.ref CF) "word" = some (some (.ref f_F))) (l_F : K.lookup f_F = some ⟨oc_F, od_F, .func (PySem.W.fnOf "word" "Free.word" (defArgs sFreeWord) (defBody sFreeWord) (defScope sFreeWord) .none kV_F dc_F pm_F an_F cd_F ct_F), sl_F⟩) (c_F : PySem.W.codeIn K cd_F "Free.word" = true) (k_F : PySem.W.keepIn K (.ref f_F) = true)
    (i_F : PySem.W.isFn K (.ref f_F) = true)
    (a_L : PySem.W.findIn K (.ref CL) "word" = some (some (.ref f_L))) (l_L : K.lookup f_L = some ⟨oc_L, od_L, .func (PySem.W.fnOf "word" "Follow.word" (defArgs sFollowWord) (defBody sFollowWord) (defScope sFollowWord) .none kV_L dc_L pm_L an_L cd_L ct_L), sl_L⟩) (c_L : PySem.W.codeIn K cd_L "Follow.word" = true) (k_L : PySem.W.keepIn K (.ref f_L) = true)
    (i_L : PySem.W.isFn K (.ref f_L) = true)
    (a_C : PySem.W.findIn K (.ref CC) "word" = some (some (.ref f_C))) (l_C : K.lookup f_C = some ⟨oc_C, od_C, .func (PySem.W.fnOf "word" "Cut.word" (defArgs sCutWord) (defBody sCutWord) (defScope sCutWord) .none kV_C dc_C pm_C an_C cd_C ct_C), sl_C⟩) (c_C : PySem.W.codeIn K cd_C "Cut.word" = true) (k_C : PySem.W.keepIn K (.ref f_C) = true)
    (i_C : PySem.W.isFn K (.ref f_C) = true)
    (a_B : PySem.W.findIn K (.ref CB) "word" = some (some (.ref f_B))) (l_B : K.lookup f_B = some ⟨oc_B, od_B, .func (PySem.W.fnOf "word" "Beat.word" (defArgs sBeatWord) (defBody sBeatWord) (defScope sBeatWord) .none kV_B dc_B pm_B an_B cd_B ct_B), sl_B⟩) (c_B : PySem.W.codeIn K cd_B "Beat.word" = true) (k_B : PySem.W.keepIn K (.ref f_B) = true)
    (i_B : PySem.W.isFn K (.ref f_B) = true)
    (a_I : PySem.W.findIn K (.ref CT) "__init__" = some (some (.ref f_I))) (l_I : K.lookup f_I = some ⟨oc_I, od_I, .func (PySem.W.fnOf "__init__" "Table.__init__" (defArgs sTabInit) (defBody sTabInit) (defScope sTabInit) .none kV_I dc_I pm_I an_I cd_I ct_I), sl_I⟩) (c_I : PySem.W.codeIn K cd_I "Table.__init__" = true) (k_I : PySem.W.keepIn K (.ref f_I) = true)
    (i_I : PySem.W.isFn K (.ref f_I) = true)
    (a_X : PySem.W.findIn K (.ref CT) "text" = some (some (.ref f_X))) (l_X : K.lookup f_X = some ⟨oc_X, od_X, .func (PySem.W.fnOf "text" "Table.text" (defArgs sTabText) (defBody sTabText) (defScope sTabText) .none kV_X dc_X pm_X an_X cd_X ct_X), sl_X⟩) (c_X : PySem.W.codeIn K cd_X "Table.text" = true) (k_X : PySem.W.keepIn K (.ref f_X) = true)
    (i_X : PySem.W.isFn K (.ref f_X) = true)
    (g1 : PySem.W.nsIn K mainGlobals "LETTERS" = some (some (.str "abcd" t1)))
    (g2 : PySem.W.nsIn K mainGlobals "FIGURES" = some (some (.str "12345678" t2)))
    (z1 : PySem.W.nsIn K mainGlobals "len" = some none)
    (z2 : PySem.W.nsIn K mainGlobals "range" = some none)
    (z3 : PySem.W.nsIn K mainGlobals "isinstance" = some none)
    (z4 : PySem.W.nsIn K mainGlobals "int" = some none)
    (z5 : PySem.W.nsIn K mainGlobals "str" = some none)
    (z6 : PySem.W.nsIn K mainGlobals "list" = some none)
    (z7 : PySem.W.nsIn K mainGlobals "tuple" = some none)
    (z8 : PySem.W.nsIn K mainGlobals "sorted" = some none)
    (z9 : PySem.W.nsIn K mainGlobals "ValueError" = some none)
    (hCE : PySem.W.nsIn K mainGlobals "TrickError" = some (some (.ref CE)))
    (hCN : PySem.W.nsIn K mainGlobals "NoTable" = some (some (.ref CN)))
    (he0 : PySem.W.nsIn K mainGlobals "BadPlay" = some (some (.ref e0)))
    (he1 : PySem.W.nsIn K mainGlobals "NoCall" = some (some (.ref e1)))
    (he2 : PySem.W.nsIn K mainGlobals "NoCard" = some (some (.ref e2)))
    (he3 : PySem.W.nsIn K mainGlobals "NoDeal" = some (some (.ref e3)))
    (he4 : PySem.W.nsIn K mainGlobals "NoHand" = some (some (.ref e4)))
    (he5 : PySem.W.nsIn K mainGlobals "NoPlay" = some (some (.ref e5)))
    (he6 : PySem.W.nsIn K mainGlobals "NoRecord" = some (some (.ref e6)))
    (he7 : PySem.W.nsIn K mainGlobals "NoRow" = some (some (.ref e7)))
    (he8 : PySem.W.nsIn K mainGlobals "NoShare" = some (some (.ref e8)))
    (he9 : PySem.W.nsIn K mainGlobals "NoSheet" = some (some (.ref e9)))
    (he10 : PySem.W.nsIn K mainGlobals "NotNow" = some (some (.ref e10)))
    (he11 : PySem.W.nsIn K mainGlobals "NotYet" = some (some (.ref e11)))
    (he12 : PySem.W.nsIn K mainGlobals "NoView" = some (some (.ref e12)))
    (he13 : PySem.W.nsIn K mainGlobals "TooMany" = some (some (.ref e13)))
    (he14 : PySem.W.nsIn K mainGlobals "TooMuch" = some (some (.ref e14)))
    (hCF : PySem.W.nsIn K mainGlobals "Free" = some (some (.ref CF)))
    (hCL : PySem.W.nsIn K mainGlobals "Follow" = some (some (.ref CL)))
    (hCC : PySem.W.nsIn K mainGlobals "Cut" = some (some (.ref CC)))
    (hCB : PySem.W.nsIn K mainGlobals "Beat" = some (some (.ref CB)))
    (hCT : PySem.W.nsIn K mainGlobals "Table" = some (some (.ref CT)))
    (x1 : PySem.W.excIn K CN veTail "ValueError.__new__" = true)
    (x2 : PySem.W.exmOne K (.ref CN) (.ref CE) = some true)
    (y1 : PySem.W.clsIn K CN = some cdN)
    (y2 : PySem.W.findIn K (.ref CN) "__getattribute__" = some (some (.builtin "BaseException.__getattribute__")))
    (y3 : PySem.W.findIn K (.ref CN) "__getattr__" = some none)
    (y4 : PySem.W.findIn K (.ref CN) "__class__" = some (some (.builtin "object.__class__")))
    (y5 : PySem.W.specialIn K (.builtin "object.__class__") "__get__" = some (some (.builtin "getset_descriptor.__get__")))
    (y6 : PySem.W.takesIn K (.builtin "object.__class__") = some true)
    (y7 : PySem.W.mroIn K CN (.type "object") = some true)
    (y8 : PySem.W.mroIn K CN (.type "BaseException") = some true)
    (j1 : PySem.W.kitOne K (.ref CN) (.ref CN) = some true)
    (j2 : PySem.W.kitOne K (.ref CN) (.type "ValueError") = some true)
    (ke0 : PySem.W.kitOne K (.ref CN) (.ref e0) = some false)
    (ke1 : PySem.W.kitOne K (.ref CN) (.ref e1) = some false)
    (ke2 : PySem.W.kitOne K (.ref CN) (.ref e2) = some false)
    (ke3 : PySem.W.kitOne K (.ref CN) (.ref e3) = some false)
    (ke4 : PySem.W.kitOne K (.ref CN) (.ref e4) = some false)
    (ke5 : PySem.W.kitOne K (.ref CN) (.ref e5) = some false)
    (ke6 : PySem.W.kitOne K (.ref CN) (.ref e6) = some false)
    (ke7 : PySem.W.kitOne K (.ref CN) (.ref e7) = some false)
    (ke8 : PySem.W.kitOne K (.ref CN) (.ref e8) = some false)
    (ke9 : PySem.W.kitOne K (.ref CN) (.ref e9) = some false)
    (ke10 : PySem.W.kitOne K (.ref CN) (.ref e10) = some false)
    (ke11 : PySem.W.kitOne K (.ref CN) (.ref e11) = some false)
    (ke12 : PySem.W.kitOne K (.ref CN) (.ref e12) = some false)
    (ke13 : PySem.W.kitOne K (.ref CN) (.ref e13) = some false)
    (ke14 : PySem.W.kitOne K (.ref CN) (.ref e14) = some false)
    (pgCF : PySem.W.plainGet K CF Str.empty = true)
    (hdCF : PySem.W.hasDictIn K CF = true)
    (poCF : PySem.W.plainOver K CF = true)
    (saCF : PySem.W.findIn K (.ref CF) "__setattr__" = some (some (.builtin "object.__setattr__")))
    (mkCF : PySem.W.makesIn K CF = true)
    (kcCF : PySem.W.keepIn K (.ref CF) = true)
    (oiCF : PySem.W.findIn K (.ref CF) "__init__" = some (some (.builtin "object.__init__")))
    (pgCL : PySem.W.plainGet K CL Str.empty = true)
    (hdCL : PySem.W.hasDictIn K CL = true)
    (poCL : PySem.W.plainOver K CL = true)
    (saCL : PySem.W.findIn K (.ref CL) "__setattr__" = some (some (.builtin "object.__setattr__")))
    (mkCL : PySem.W.makesIn K CL = true)
    (kcCL : PySem.W.keepIn K (.ref CL) = true)
    (oiCL : PySem.W.findIn K (.ref CL) "__init__" = some (some (.builtin "object.__init__")))
    (pgCC : PySem.W.plainGet K CC Str.empty = true)
    (hdCC : PySem.W.hasDictIn K CC = true)
    (poCC : PySem.W.plainOver K CC = true)
    (saCC : PySem.W.findIn K (.ref CC) "__setattr__" = some (some (.builtin "object.__setattr__")))
    (mkCC : PySem.W.makesIn K CC = true)
    (kcCC : PySem.W.keepIn K (.ref CC) = true)
    (oiCC : PySem.W.findIn K (.ref CC) "__init__" = some (some (.builtin "object.__init__")))
    (pgCB : PySem.W.plainGet K CB Str.empty = true)
    (hdCB : PySem.W.hasDictIn K CB = true)
    (poCB : PySem.W.plainOver K CB = true)
    (saCB : PySem.W.findIn K (.ref CB) "__setattr__" = some (some (.builtin "object.__setattr__")))
    (mkCB : PySem.W.makesIn K CB = true)
    (kcCB : PySem.W.keepIn K (.ref CB) = true)
    (oiCB : PySem.W.findIn K (.ref CB) "__init__" = some (some (.builtin "object.__init__")))
    (pgCT : PySem.W.plainGet K CT Str.empty = true)
    (hdCT : PySem.W.hasDictIn K CT = true)
    (poCT : PySem.W.plainOver K CT = true)
    (saCT : PySem.W.findIn K (.ref CT) "__setattr__" = some (some (.builtin "object.__setattr__")))
    (mkCT : PySem.W.makesIn K CT = true)
    (kcCT : PySem.W.keepIn K (.ref CT) = true)
    (nTS : PySem.W.findIn K (.ref CT) "suits" = some none)
    (nTH : PySem.W.findIn K (.ref CT) "heights" = some none)
    (nTN : PySem.W.findIn K (.ref CT) "seats" = some none)
    (nTD : PySem.W.findIn K (.ref CT) "duty_word" = some none)
    (nTP : PySem.W.findIn K (.ref CT) "plain_order" = some none)
    (nTT : PySem.W.findIn K (.ref CT) "trump_order" = some none)
    (nTW : PySem.W.findIn K (.ref CT) "written" = some none)
    (w1 : PySem.W.nsIn K mainGlobals "MARKS" = some (some (.ref aM)))
    (w2 : K.lookup aM = some ⟨.type "tuple", wd, .seq #[.str "pack" tw1, .str "seats" tw2, .str "duty" tw3, .str "plain" tw4, .str "trump" tw5] wn, wsl⟩)
    : ∃ fd : FuncData, (∀ (s : Shared) (v : Value), BindsTo s fd ⟨[v], []⟩ [("_law_script", v)]) ∧ ∀ base : Heap, K.In base → base.Ns mainGlobals mg → FnOk l.prog w K mg base CX0 20 fa fd ["_law_script"] (spLaw K) := by
  have e := hfa.symm.trans (PySem.W.mg_of X G a15)
  cases e
  have F1 := fun_mk (st := sDutyOf) l1 c1 k1
  have b1 := F1.binds (ps := ["word"]) fun _ _ _ _ _ _ us hl => match us, hl with | [_], _ => rfl
  have m1 := PySem.W.mg_of X G a1
  have F2 := fun_mk (st := sMarks) l2 c2 k2
  have b2 := F2.binds (ps := ["text"]) fun _ _ _ _ _ _ us hl => match us, hl with | [_], _ => rfl
  have m2 := PySem.W.mg_of X G a2
  have F3 := fun_mk (st := sReadSize) l3 c3 k3
  have b3 := F3.binds (ps := ["word"]) fun _ _ _ _ _ _ us hl => match us, hl with | [_], _ => rfl
  have m3 := PySem.W.mg_of X G a3
  have F4 := fun_mk (st := sReadSeats) l4 c4 k4
  have b4 := F4.binds (ps := ["word"]) fun _ _ _ _ _ _ us hl => match us, hl with | [_], _ => rfl
  have m4 := PySem.W.mg_of X G a4
  have F5 := fun_mk (st := sReadOrder) l5 c5 k5
  have b5 := F5.binds (ps := ["word", "heights"]) fun _ _ _ _ _ _ us hl => match us, hl with | [_, _], _ => rfl
  have m5 := PySem.W.mg_of X G a5
  have F6 := fun_mk (st := sCell) l6 c6 k6
  have b6 := F6.binds (ps := pCell) fun _ _ _ _ _ _ us hl => match us, hl with | [_, _], _ => rfl
  have m6 := PySem.W.mg_of X G a6
  have F7 := fun_mk (st := sMixed) l7 c7 k7
  have b7 := F7.binds (ps := ["_law_cell_here", "_law_k"]) fun _ _ _ _ _ _ us hl => match us, hl with | [_, _], _ => rfl
  have m7 := PySem.W.mg_of X G a7
  have F8 := fun_mk (st := sOrder) l8 c8 k8
  have b8 := F8.binds (ps := ["_law_cell_here", "_law_heights"]) fun _ _ _ _ _ _ us hl => match us, hl with | [_, _], _ => rfl
  have m8 := PySem.W.mg_of X G a8
  have F9 := fun_mk (st := sTable) l9 c9 k9
  have b9 := F9.binds (ps := ["_law_script"]) fun _ _ _ _ _ _ us hl => match us, hl with | [_], _ => rfl
  have m9 := PySem.W.mg_of X G a9
  have F10 := fun_mk (st := sText) l10 c10 k10
  have b10 := F10.binds (ps := ["_law_facts"]) fun _ _ _ _ _ _ us hl => match us, hl with | [_], _ => rfl
  have m10 := PySem.W.mg_of X G a10
  have F11 := fun_mk (st := sOthers) l11 c11 k11
  have b11 := F11.binds (ps := ["_law_error"]) fun _ _ _ _ _ _ us hl => match us, hl with | [_], _ => rfl
  have m11 := PySem.W.mg_of X G a11
  have F12 := fun_mk (st := sRefused) l12 c12 k12
  have b12 := F12.binds (ps := ["_law_text_here"]) fun _ _ _ _ _ _ us hl => match us, hl with | [_], _ => rfl
  have m12 := PySem.W.mg_of X G a12
  have F13 := fun_mk (st := sBadO) l13 c13 k13
  have b13 := F13.binds (ps := pBadO) fun _ _ _ _ _ _ us hl => match us, hl with | [_, _, _], _ => rfl
  have m13 := PySem.W.mg_of X G a13
  have F14 := fun_mk (st := sFaulty) l14 c14 k14
  have b14 := F14.binds (ps := pFaulty) fun _ _ _ _ _ _ us hl => match us, hl with | [_, _, _], _ => rfl
  have m14 := PySem.W.mg_of X G a14
  have F15 := fun_mk (st := sLaw) l15 c15 k15
  have m15 := PySem.W.mg_of X G a15
  have F_F := fun_mk (st := sFreeWord) l_F c_F k_F
  have b_F := F_F.binds (ps := ["self"]) fun _ _ _ _ _ _ us hl => match us, hl with | [_], _ => rfl
  have m_F : Meth K CF "word" f_F := ⟨a_F, i_F, k_F⟩
  have F_L := fun_mk (st := sFollowWord) l_L c_L k_L
  have b_L := F_L.binds (ps := ["self"]) fun _ _ _ _ _ _ us hl => match us, hl with | [_], _ => rfl
  have m_L : Meth K CL "word" f_L := ⟨a_L, i_L, k_L⟩
  have F_C := fun_mk (st := sCutWord) l_C c_C k_C
  have b_C := F_C.binds (ps := ["self"]) fun _ _ _ _ _ _ us hl => match us, hl with | [_], _ => rfl
  have m_C : Meth K CC "word" f_C := ⟨a_C, i_C, k_C⟩
  have F_B := fun_mk (st := sBeatWord) l_B c_B k_B
  have b_B := F_B.binds (ps := ["self"]) fun _ _ _ _ _ _ us hl => match us, hl with | [_], _ => rfl
  have m_B : Meth K CB "word" f_B := ⟨a_B, i_B, k_B⟩
  have F_I := fun_mk (st := sTabInit) l_I c_I k_I
  have b_I := F_I.binds (ps := ["self", "text"]) fun _ _ _ _ _ _ us hl => match us, hl with | [_, _], _ => rfl
  have m_I : Meth K CT "__init__" f_I := ⟨a_I, i_I, k_I⟩
  have F_X := fun_mk (st := sTabText) l_X c_X k_X
  have b_X := F_X.binds (ps := ["self"]) fun _ _ _ _ _ _ us hl => match us, hl with | [_], _ => rfl
  have m_X : Meth K CT "text" f_X := ⟨a_X, i_X, k_X⟩
  have mg1 := PySem.W.mg_of X G g1
  have mg2 := PySem.W.mg_of X G g2
  have mn_len := PySem.W.mg_none_of X G z1
  have mn_range := PySem.W.mg_none_of X G z2
  have mn_isinstance := PySem.W.mg_none_of X G z3
  have mn_int := PySem.W.mg_none_of X G z4
  have mn_str := PySem.W.mg_none_of X G z5
  have mn_list := PySem.W.mg_none_of X G z6
  have mn_tuple := PySem.W.mg_none_of X G z7
  have mn_sorted := PySem.W.mg_none_of X G z8
  have mn_ValueError := PySem.W.mg_none_of X G z9
  refine ⟨PySem.W.fnOf "law" "law" (defArgs sLaw) (defBody sLaw) (defScope sLaw) .none kV15 dc15 pm15 an15 cd15 ct15, fun s v => .of_eq rfl, fun base _ _ => ?_⟩
  let cs : Fin 4 → Addr := p4 CF CL CC CB
  let fw : Fin 4 → Addr := p4 f_F f_L f_C f_B
  let ec : Fin 15 → Addr := fun i => match i with | 0 => e0 | 1 => e1 | 2 => e2 | 3 => e3 | 4 => e4 | 5 => e5 | 6 => e6 | 7 => e7 | 8 => e8 | 9 => e9 | 10 => e10 | 11 => e11 | 12 => e12 | 13 => e13 | 14 => e14
  have mN := PySem.W.mg_of X G hCN
  have C : ClsR K mg CE CN ec := ⟨⟨by rw [y1]; rfl, y2, y3, y4, y5, y6, y7, y8⟩, PySem.W.mg_of X G hCE, mN, x2, PySem.W.mg_of X G he0, PySem.W.mg_of X G he1, PySem.W.mg_of X G he2, PySem.W.mg_of X G he3, PySem.W.mg_of X G he4, PySem.W.mg_of X G he5, PySem.W.mg_of X G he6, PySem.W.mg_of X G he7, PySem.W.mg_of X G he8, PySem.W.mg_of X G he9, PySem.W.mg_of X G he10, PySem.W.mg_of X G he11, PySem.W.mg_of X G he12, PySem.W.mg_of X G he13, PySem.W.mg_of X G he14, j1, j2, fun i => match i with | 0 => ke0 | 1 => ke1 | 2 => ke2 | 3 => ke3 | 4 => ke4 | 5 => ke5 | 6 => ke6 | 7 => ke7 | 8 => ke8 | 9 => ke9 | 10 => ke10 | 11 => ke11 | 12 => ke12 | 13 => ke13 | 14 => ke14⟩
  have D : DutyC K mg cs CN := ⟨PySem.W.mg_of X G hCF, PySem.W.mg_of X G hCL, PySem.W.mg_of X G hCC, PySem.W.mg_of X G hCB, fun i => match i with | 0 => ⟨mkCF, oiCF, kcCF⟩ | 1 => ⟨mkCL, oiCL, kcCL⟩ | 2 => ⟨mkCC, oiCC, kcCC⟩ | 3 => ⟨mkCB, oiCB, kcCB⟩, mN, x1⟩
  have W : ∀ k, ∃ fdw, WordF l.prog w K mg base (k + 1) cs fw fdw := fun k => ⟨p4 _ _ _ _, fun i => match i with | 0 => ⟨pgCF, hdCF, poCF, saCF⟩ | 1 => ⟨pgCL, hdCL, poCL, saCL⟩ | 2 => ⟨pgCC, hdCC, poCC, saCC⟩ | 3 => ⟨pgCB, hdCB, poCB, saCB⟩, fun i => match i with | 0 => m_F | 1 => m_L | 2 => m_C | 3 => m_B, fun i => match i with | 0 => ok_freeWord F_F | 1 => ok_followWord F_L | 2 => ok_cutWord F_C | 3 => ok_beatWord F_B, fun i => match i with | 0 => b_F | 1 => b_L | 2 => b_C | 3 => b_B⟩
  have TC : TabC K mg CT := ⟨⟨pgCT, hdCT, poCT, saCT⟩, PySem.W.mg_of X G hCT, nTS, nTH, nTN, nTD, nTP, nTT, nTW⟩
  have hM : ∀ H, SqT K H aM (vS marks) := fun H => .inr ⟨_, _, _, w2, rfl, rfl, fits3 5 (by decide), .cons ⟨_, rfl⟩ (.cons ⟨_, rfl⟩ (.cons ⟨_, rfl⟩ (.cons ⟨_, rfl⟩ (.cons ⟨_, rfl⟩ .nil))))⟩
  have FI : ∀ k, FnOk l.prog w K mg base (CX1 l.prog w) (k + 3) f_I _ ["self", "text"] (spTabX K CT CN) := fun k => by
    obtain ⟨_, W1⟩ := W k
    obtain ⟨_, W2⟩ := W (k + 1)
    exact ok_tab (k := k + 2) F_I TC ⟨ok_marks (k := k + 1) F2 (PySem.W.mg_of X G w1) hM mN x1 mn_isinstance mn_str mn_len mn_tuple, b2, k2, m2⟩ ⟨ok_size F3 mg2 mg1 mN x1 mn_len, b3, k3, m3⟩ ⟨ok_seats F4 mN x1 mn_int, b4, k4, m4⟩ ⟨ok_ord F5 mg2 mN x1 mn_sorted mn_list mn_tuple, b5, k5, m5⟩ ⟨ok_dutyOf (k := k + 1) F1 D W1, b1, k1, m1⟩ W2
  have LC : ∀ k, Lib l.prog w K mg base (k + 1) "_law_cell" pCell (spCell K) f6 _ := fun k => ⟨ok_cell F6 mn_len, b6, k6, m6⟩
  exact ok_law (k := 18) F15 TC ⟨ok_table (k := 18) F9 (LC 17) ⟨ok_mixed F7, b7, k7, m7⟩ ⟨ok_order F8 mn_range, b8, k8, m8⟩ mn_range, b9, k9, m9⟩ ⟨ok_text F10 mn_str, b10, k10, m10⟩
    ⟨ok_faulty (k := 18) F14 (LC 17) ⟨ok_badO F13 mn_str, b13, k13, m13⟩ mn_list mn_tuple, b14, k14, m14⟩ ⟨ok_refused (k := 17) F12 TC C ⟨mkCT, a_I, i_I, kcCT⟩ (FI 14) b_I ⟨ok_others (k := 16) F11 C mn_isinstance, b11, k11, m11⟩ mn_isinstance mn_ValueError, b12, k12, m12⟩
    ⟨mkCT, a_I, i_I, kcCT⟩ (FI 15) b_I m_X (ok_ttext F_X TC) b_X
theorem walk {l : PySem.W.OpenLaw} {q : Program} {loose : List Str} {XP : (Str → Option Value) → Heap → Prop} {YP : World → Heap → Prop} {d : DefRec} {K : Params → PySem.W.Frag} (hn : l.most = some 63) (hdf : d.params.defaults = [])
    (hY : ∀ (w : World) (h : Heap), YP w h → (K w.params).In h)
    (F : ∀ (w : World) (mg : Str → Option Value) (fa : Addr) (h : Heap), (K w.params).In h → h.Ns mainGlobals mg → mg d.name = some (.ref fa) →
      ∃ fd : FuncData, (∀ (s : Shared) (u : Value), BindsTo s fd ⟨[u], []⟩ [("_law_script", u)]) ∧ ∀ base : Heap, (K w.params).In base → base.Ns mainGlobals mg → FnOk l.prog w (K w.params) mg base CX0 20 fa fd ["_law_script"] (spLaw (K w.params))) :
    PySem.W.WalkO q loose XP YP l.row.toRowW d [] (fun f vs => PySem.call f vs) :=
  L2.walk_of (n := 63) (k := 20) (x := "_law_script") (CX := fun _ => CX0) (sp := fun w => spLaw (K w.params)) hn (by decide) hdf ⟨rfl, by decide, by decide⟩ hY F (fun _ _ a ns hl _ hS => ⟨a, ns, rfl, hS, hl, fun _ => rfl⟩) fun _ _ _ _ _ z => z
end My
namespace PySem.W.Fast
theorem tw13653590507533313744 : True := trivial
theorem tw3386991025958842746 : True := trivial
theorem tw11099335706929724531 : True := trivial
theorem tw18368040926515104175 : True := trivial
theorem tw10968189583598160095 : True := trivial
theorem tw15949162843561076987 : True := trivial
theorem tw1642935128887748690 : True := trivial
theorem tw7163949085712008575 : True := trivial
theorem tw4433116686780300750 : True := trivial
theorem tw2609057355422890629 : True := trivial
theorem tw6833363061878583698 : True := trivial
theorem tw11903739483853220404 : True := trivial
theorem tw16983926511125151847 : True := trivial
theorem tw17379297949684949319 : True := trivial
theorem tw15653235688924964576 : True := trivial
theorem tw11491470178223647161 : True := trivial
theorem tw7583270967464206332 : True := trivial
theorem tw12664205071023988196 : True := trivial
theorem tw12642085026748995654 : True := trivial
theorem tw15898486512604209404 : True := trivial
theorem tw2759536137030965955 : True := trivial
theorem tw6903145330944595403 : True := trivial
theorem tw11654537388874461412 : True := trivial
theorem tw13212621332720041077 : True := trivial
theorem tw893292797134930773 : True := trivial
theorem tw16336576204360829242 : True := trivial
theorem tw14515991833858270119 : True := trivial
theorem tw15777038649305214480 : True := trivial
theorem tw14312607477274512196 : True := trivial
theorem tw13769781675912597970 : True := trivial
theorem tw2443875260799020518 : True := trivial
theorem tw7906453161906635307 : True := trivial
theorem tw13079201240301818911 : True := trivial
theorem tw8734320351789686577 : True := trivial
theorem tw5207576063889270203 : True := trivial
theorem tw8220590572326197486 : True := trivial
theorem tw8395765845384426617 : True := trivial
theorem tw6488112109389360034 : True := trivial
theorem tw6319736453414379157 : True := trivial
theorem tw9521728197581279932 : True := trivial
theorem tw8925329005657482734 : True := trivial
theorem tw15462657808428581904 : True := trivial
theorem tw14127109174059807884 : True := trivial
theorem tw17220839549062662885 : True := trivial
theorem tw3674517988932465495 : True := trivial
theorem tw12436445605126785215 : True := trivial
theorem tw3315007934258511458 : True := trivial
theorem tw4593393926429364692 : True := trivial
theorem tw3739878163472990618 : True := trivial
theorem tw7156643734259066851 : True := trivial
theorem tw12271781437837767401 : True := trivial
theorem tw18281357344677897514 : True := trivial
theorem tw12853253144026488638 : True := trivial
theorem tw6591808906634385613 : True := trivial
theorem tw17597039731440731877 : True := trivial
theorem tw1274149958880759870 : True := trivial
theorem tw5304727614335595496 : True := trivial
theorem tw8302398184814299300 : True := trivial
theorem tw12290544369719300331 : True := trivial
theorem tw9239225987566365344 : True := trivial
theorem tw5817985553849293555 : True := trivial
theorem tw13183598995292123909 : True := trivial
theorem tw124675532393863227 : True := trivial
theorem tw16154413326578488559 : True := trivial
theorem tw8254001969519858226 : True := trivial
theorem tw4626747537491073374 : True := trivial
theorem tw15195769948357912639 : True := trivial
theorem tw323702841225864079 : True := trivial
theorem tw8651640824593740362 : True := trivial
theorem tw4036847042950935110 : True := trivial
theorem tw16192423384288288836 : True := trivial
theorem tw9100502281098599070 : True := trivial
theorem tw1645071676493525667 : True := trivial
theorem tw9515076303837846172 : True := trivial
theorem tw9836126457369779950 : True := trivial
theorem tw7235635916163116558 : True := trivial
theorem tw4122047080938511154 : True := trivial
theorem tw526945106163251349 : True := trivial
theorem tw2484827493788539747 : True := trivial
theorem tw4730790051180790726 : True := trivial
theorem tw3908334559739877702 : True := trivial
theorem tw1600290806324279996 : True := trivial
theorem tw13701856589199011775 : True := trivial
theorem tw10377257892614665999 : True := trivial
theorem tw5186915296083942562 : True := trivial
theorem tw1078662161704012645 : True := trivial
theorem tw6310839874600179120 : True := trivial
theorem tw6898392439906715027 : True := trivial
theorem tw4364250639384799877 : True := trivial
theorem tw15984472117526054577 : True := trivial
theorem tw4677929038821492708 : True := trivial
theorem tw15950370190743673550 : True := trivial
theorem tw7301695300754147404 : True := trivial
theorem tw1947336204289871790 : True := trivial
theorem tw16751814159220287932 : True := trivial
theorem tw10070993568867975973 : True := trivial
theorem tw6198353506914503958 : True := trivial
theorem tw10639043655090265134 : True := trivial
theorem tw1570864038549267578 : True := trivial
theorem tw11598809524935656120 : True := trivial
theorem tw3312029040155441775 : True := trivial
theorem tw2826662970226056571 : True := trivial
theorem tw18196654080779000586 : True := trivial
theorem tw8594366428247040433 : True := trivial
theorem tw16151540393733383724 : True := trivial
theorem tw14910322259034969219 : True := trivial
theorem tw8813383243481828917 : True := trivial
theorem tw6955771922850307197 : True := trivial
theorem tw10467146009381211939 : True := trivial
theorem tw11962198151792162001 : True := trivial
theorem tw13101846730103922477 : True := trivial
theorem tw8207646186395064833 : True := trivial
theorem tw498946718986530483 : True := trivial
theorem tw11745923304380792708 : True := trivial
theorem tw10785525836572115140 : True := trivial
theorem tw11651859663336397888 : True := trivial
theorem tw7645890300695623460 : True := trivial
theorem tw17065710416387635335 : True := trivial
theorem tw7608098442870757831 : True := trivial
theorem tw986848783621869757 : True := trivial
theorem tw5394129446858371042 : True := trivial
theorem tw7660955999906439665 : True := trivial
theorem tw14666558344337358876 : True := trivial
theorem tw1198580137459936721 : True := trivial
theorem tw15390166449815148138 : True := trivial
theorem tw13484903242608732230 : True := trivial
theorem tw11610028247665101297 : True := trivial
theorem tw6606760780301087053 : True := trivial
theorem tw16560255163443447452 : True := trivial
theorem tw10270572353474145315 : True := trivial
theorem tw1821870917921148957 : True := trivial
theorem tw8019332603525620109 : True := trivial
theorem tw750628109594672577 : True := trivial
theorem tw12760382877692132719 : True := trivial
theorem tw3397437543751351150 : True := trivial
theorem tw10707078035585516556 : True := trivial
theorem tw9511020982769172184 : True := trivial
theorem tw3814855629987897030 : True := trivial
theorem tw14589813100193412214 : True := trivial
theorem tw72424654735616951 : True := trivial
theorem tw14919074360686348754 : True := trivial
theorem tw1796534012429857199 : True := trivial
theorem tw17626589338338653964 : True := trivial
theorem tw4356688001205447517 : True := trivial
theorem tw9503101397547287473 : True := trivial
theorem tw17158257829514496413 : True := trivial
theorem tw9534211906469081585 : True := trivial
theorem tw18297485621266495639 : True := trivial
theorem tw4143731783811543576 : True := trivial
theorem tw11934020977686427042 : True := trivial
theorem tw3155252456289180521 : True := trivial
theorem tw1559061588370991134 : True := trivial
theorem tw11722788647576767520 : True := trivial
theorem tw15342063886543269698 : True := trivial
theorem tw15793641025330206712 : True := trivial
theorem tw868956521648795503 : True := trivial
theorem tw3947743632446207559 : True := trivial
theorem tw5315182290784714133 : True := trivial
theorem tw9247211986624677842 : True := trivial
theorem tw10028699544986326385 : True := trivial
theorem tw12954315951811773815 : True := trivial
theorem tw965286626146829127 : True := trivial
theorem tw9313663511058484011 : True := trivial
theorem tw4089182623752210585 : True := trivial
theorem tw12207085369447163969 : True := trivial
theorem tw6445890621772253990 : True := trivial
theorem tw9571985657342396590 : True := trivial
theorem tw14081705992268741384 : True := trivial
theorem tw8076728543889679044 : True := trivial
theorem tw6703059856669211099 : True := trivial
theorem tw9990370616028602695 : True := trivial
theorem tw7355342552389371424 : True := trivial
theorem tw5495543080376116014 : True := trivial
theorem tw14276214302368543230 : True := trivial
theorem tw12456759527266770351 : True := trivial
theorem tw14469647318847793469 : True := trivial
theorem tw15306003664054091802 : True := trivial
theorem tw13707144563357590055 : True := trivial
theorem tw5953344288165913773 : True := trivial
theorem tw5627180854991145863 : True := trivial
theorem tw4359735150415759658 : True := trivial
theorem tw3824157295039169698 : True := trivial
theorem tw16545104621628569950 : True := trivial
theorem tw6376682844094531423 : True := trivial
theorem tw15148127447688171412 : True := trivial
theorem tw9709353115437309464 : True := trivial
theorem tw14695223706002524429 : True := trivial
theorem tw6906270092314936467 : True := trivial
theorem tw7742942941783994575 : True := trivial
theorem tw10007912770649078918 : True := trivial
theorem tw3223721144019697094 : True := trivial
theorem tw12168414646160960452 : True := trivial
theorem tw12597897434908540810 : True := trivial
theorem tw17188148340572146516 : True := trivial
theorem tw18409621926907785665 : True := trivial
theorem tw4966919434503423415 : True := trivial
theorem tw15710784073554652148 : True := trivial
theorem tw13796870205604263597 : True := trivial
theorem tw14784947799247358682 : True := trivial
theorem tw13975496401429167467 : True := trivial
theorem tw15281545094511907116 : True := trivial
theorem tw14375691741125244557 : True := trivial
theorem tw6857352403804814843 : True := trivial
theorem tw13866383925012434441 : True := trivial
theorem tw2566088493864695161 : True := trivial
theorem tw18250690288097879775 : True := trivial
theorem tw82941168710695442 : True := trivial
theorem tw12132076933011877077 : True := trivial
theorem tw11530145399974914884 : True := trivial
theorem tw12134089113391820353 : True := trivial
theorem tw14158583341747560322 : True := trivial
theorem tw1331779689256577421 : True := trivial
theorem tw14488046197783707684 : True := trivial
theorem tw8883826940523589684 : True := trivial
theorem tw18208958713045418937 : True := trivial
theorem tw9894605638731739936 : True := trivial
theorem tw1862366233651486958 : True := trivial
theorem tw11785829211806271196 : True := trivial
theorem tw7273172782880391543 : True := trivial
theorem tw16924458581252287308 : True := trivial
theorem tw2718436601953966496 : True := trivial
theorem tw3411390926970810749 : True := trivial
theorem tw17223406221324697744 : True := trivial
theorem tw11824426602258356712 : True := trivial
theorem tw1853245668965619128 : True := trivial
theorem tw15840075767831997244 : True := trivial
theorem tw5101145312292225393 : True := trivial
theorem tw18283812927456502076 : True := trivial
theorem tw17866766465426794695 : True := trivial
theorem tw2185618110640013731 : True := trivial
theorem tw15163255992827103599 : True := trivial
theorem tw15028137760312415045 : True := trivial
theorem tw12767289765104695020 : True := trivial
theorem tw13991228413890100932 : True := trivial
theorem tw9102401083699259392 : True := trivial
theorem tw1950597332112151252 : True := trivial
theorem tw11633443375575194378 : True := trivial
theorem tw2636802030006852502 : True := trivial
theorem tw6277209106393311528 : True := trivial
theorem tw3183860412768955680 : True := trivial
theorem tw11429488484438251926 : True := trivial
theorem tw16146694196662522767 : True := trivial
theorem tw6859812098787534447 : True := trivial
theorem tw3130172313262950615 : True := trivial
theorem tw9811573637612844755 : True := trivial
theorem tw5859317603836537644 : True := trivial
theorem tw17284322461429213946 : True := trivial
theorem tw7032794702105629947 : True := trivial
theorem tw14459905650033573553 : True := trivial
theorem tw5516435118030400157 : True := trivial
theorem tw13521612337625246672 : True := trivial
theorem tw16194049101753523217 : True := trivial
theorem tw8345060618594798644 : True := trivial
theorem tw2781592036812031097 : True := trivial
theorem tw11851785653941612081 : True := trivial
theorem tw4474123899249915231 : True := trivial
theorem tw19679795787891660 : True := trivial
theorem tw13805937865188488543 : True := trivial
theorem tw16988220067366844797 : True := trivial
theorem tw6350012986135620736 : True := trivial
theorem tw5573005903008932694 : True := trivial
theorem tw4201948570946351850 : True := trivial
theorem tw4656218379066632903 : True := trivial
theorem tw8917886041212022894 : True := trivial
theorem tw1267238008905328142 : True := trivial
theorem tw3204963504834529323 : True := trivial
theorem tw652271859936797727 : True := trivial
theorem tw6380133958634251770 : True := trivial
theorem tw3516619889018555243 : True := trivial
theorem tw11736358148177727735 : True := trivial
theorem tw1279745614510253007 : True := trivial
theorem tw6553696884661664800 : True := trivial
theorem tw5403458572107337215 : True := trivial
theorem tw6090633344238636263 : True := trivial
theorem tw10694598380213193894 : True := trivial
theorem tw7179358624107389155 : True := trivial
theorem tw14129871488819856184 : True := trivial
theorem tw17750970355100337676 : True := trivial
theorem tw7115495466087021 : True := trivial
theorem tw14110625501990045354 : True := trivial
theorem tw5015992715760204970 : True := trivial
theorem tw9744379093069479317 : True := trivial
theorem tw12041801427591686090 : True := trivial
theorem tw16181562635139608793 : True := trivial
theorem tw6803378263628287892 : True := trivial
theorem tw1795542546473189029 : True := trivial
theorem tw16324455194762833804 : True := trivial
theorem tw10409364528232571879 : True := trivial
theorem tw17067359303179761957 : True := trivial
theorem tw16036132390172918199 : True := trivial
theorem tw976224674508918939 : True := trivial
theorem tw6601420997808824543 : True := trivial
theorem tw2042195819136621874 : True := trivial
theorem tw10332392562963896047 : True := trivial
theorem tw11010950279755812877 : True := trivial
theorem tw8849667308830436442 : True := trivial
theorem tw9904435479315845169 : True := trivial
theorem tw10198419423748217383 : True := trivial
theorem tw7673902085472373448 : True := trivial
theorem tw16655740221943134992 : True := trivial
theorem tw8408922936096454598 : True := trivial
theorem tw251663390694008773 : True := trivial
theorem tw9462440036383389753 : True := trivial
theorem tw15171177223437285156 : True := trivial
theorem tw10859303926615048339 : True := trivial
theorem tw1511092651031889114 : True := trivial
theorem tw4400748076343064296 : True := trivial
theorem tw11467890973013892617 : True := trivial
theorem tw3023795027239114389 : True := trivial
theorem tw3183001710100429602 : True := trivial
theorem tw16188647150516048118 : True := trivial
theorem tw13804719121767790659 : True := trivial
theorem tw4462653573829758147 : True := trivial
theorem tw2797842237918485717 : True := trivial
theorem tw7107763224552150528 : True := trivial
theorem tw4085170036730680318 : True := trivial
theorem tw2057566023584146794 : True := trivial
theorem tw8942156950146213004 : True := trivial
theorem tw7785169540406805534 : True := trivial
theorem tw4826372931141953600 : True := trivial
theorem tw6204590705207908439 : True := trivial
theorem tw8565118097587164379 : True := trivial
theorem tw7288622193593159919 : True := trivial
theorem tw9686184062346556940 : True := trivial
theorem tw901907756373095559 : True := trivial
theorem tw7394028172656426905 : True := trivial
theorem tw12956635504448230857 : True := trivial
theorem tw2093788885545748804 : True := trivial
theorem tw6162729628482005669 : True := trivial
theorem tw5344120818444589163 : True := trivial
theorem tw2342016728290708720 : True := trivial
theorem tw10273583060580229226 : True := trivial
theorem tw2690319523462423550 : True := trivial
theorem tw10766218844019602910 : True := trivial
theorem tw15298087414240963156 : True := trivial
theorem tw18268815730321161702 : True := trivial
theorem tw4062185705517597724 : True := trivial
theorem tw17319847272913788321 : True := trivial
theorem tw5789969680704242153 : True := trivial
theorem tw4367659427704191984 : True := trivial
theorem tw8808605372540208094 : True := trivial
theorem tw13140447789820024186 : True := trivial
theorem tw14500824674406364993 : True := trivial
theorem tw14830371535657523425 : True := trivial
theorem tw16041595088945764049 : True := trivial
theorem tw5412696987458243025 : True := trivial
theorem tw1782989400228389447 : True := trivial
theorem tw9427040201321339565 : True := trivial
theorem tw11878240446026782232 : True := trivial
theorem tw902195657457514233 : True := trivial
theorem tw8366213374453011648 : True := trivial
theorem tw13596890139852835699 : True := trivial
theorem tw10114362440499304889 : True := trivial
theorem tw9416377451823872052 : True := trivial
theorem tw10059863773604363610 : True := trivial
theorem tw10842867641643736952 : True := trivial
theorem tw6679223172568403501 : True := trivial
theorem tw17843718691469729313 : True := trivial
theorem tw3755521828244911635 : True := trivial
theorem tw10077875344767883620 : True := trivial
theorem tw8968656770785115104 : True := trivial
theorem tw12196133324448854045 : True := trivial
theorem tw8428273108039496668 : True := trivial
theorem tw16439302704139011370 : True := trivial
theorem tw9373773244885746523 : True := trivial
theorem tw3439153887413410941 : True := trivial
theorem tw835913554692127253 : True := trivial
theorem tw16143389060903392413 : True := trivial
theorem tw6460915904222991521 : True := trivial
theorem tw16979554981421834771 : True := trivial
theorem tw2509984874339493018 : True := trivial
theorem tw3189980867152463304 : True := trivial
theorem tw12773672216974407801 : True := trivial
theorem tw2451012771691831824 : True := trivial
theorem tw16908705699286411658 : True := trivial
theorem tw7960522328248178189 : True := trivial
theorem tw12227293398850443500 : True := trivial
theorem tw4548318587407937883 : True := trivial
theorem tw17738660505466461749 : True := trivial
theorem tw8875578069772938550 : True := trivial
theorem tw9310819354940569370 : True := trivial
theorem tw18000152963403556072 : True := trivial
theorem tw16505480372576261579 : True := trivial
theorem tw14025642252146769562 : True := trivial
theorem tw13775170649524484224 : True := trivial
theorem tw9441786853472048325 : True := trivial
theorem tw408496425625419448 : True := trivial
theorem tw14393023743783511220 : True := trivial
theorem tw18148632631096104180 : True := trivial
theorem tw1918143139523394976 : True := trivial
theorem tw11567426231507889785 : True := trivial
theorem tw11398924775396094219 : True := trivial
theorem tw5887108061906715542 : True := trivial
theorem tw3258977115668893546 : True := trivial
theorem tw8198903899677941746 : True := trivial
theorem tw15680748565907367219 : True := trivial
theorem tw8119833950193137388 : True := trivial
theorem tw3418315206545472603 : True := trivial
theorem tw14255061679167672296 : True := trivial
theorem tw7684759352606230619 : True := trivial
theorem tw5488599394089412228 : True := trivial
theorem tw985154268028486838 : True := trivial
theorem tw6128225251675338740 : True := trivial
theorem tw15909305496465364590 : True := trivial
theorem tw10514753586436912208 : True := trivial
theorem tw4196001431770348242 : True := trivial
theorem tw13703356358299354423 : True := trivial
theorem tw17453042439502715325 : True := trivial
theorem tw14555170448855989987 : True := trivial
theorem tw870454013193222242 : True := trivial
theorem tw8775833730361201154 : True := trivial
theorem tw4833028794270568934 : True := trivial
theorem tw15256559138910946369 : True := trivial
theorem tw11442639697166753256 : True := trivial
theorem tw13603327887587412976 : True := trivial
theorem tw6992555954002850641 : True := trivial
theorem tw9549497090858286684 : True := trivial
theorem tw7961053590103686271 : True := trivial
theorem tw1602610726808720501 : True := trivial
theorem tw3842852428434401454 : True := trivial
theorem tw84339215038398978 : True := trivial
theorem tw2062198258958973033 : True := trivial
theorem tw1926238189643852249 : True := trivial
theorem tw7208663358456409371 : True := trivial
theorem tw15583510682101785832 : True := trivial
theorem tw8589622331633543399 : True := trivial
theorem tw1002953610218094038 : True := trivial
theorem tw5959193539898358397 : True := trivial
theorem tw13298978782143224109 : True := trivial
theorem tw13154789546409623988 : True := trivial
theorem tw15532801005808037932 : True := trivial
theorem tw2378964385418540540 : True := trivial
theorem tw7716055682914838448 : True := trivial
theorem tw17877767908552357060 : True := trivial
theorem tw7470260448669555809 : True := trivial
theorem tw481817784790561770 : True := trivial
theorem tw129594984089504411 : True := trivial
theorem tw714347980261538750 : True := trivial
theorem tw8960043721664011156 : True := trivial
theorem tw8805967564762590510 : True := trivial
theorem tw11067048677726388614 : True := trivial
theorem tw14125188043357472807 : True := trivial
theorem tw2709773313288681166 : True := trivial
theorem tw18373335177620534451 : True := trivial
theorem tw5040673046134179046 : True := trivial
theorem tw8878242878197094181 : True := trivial
theorem tw4772554309481502086 : True := trivial
theorem tw10456024534447206937 : True := trivial
theorem tw14506069050533165125 : True := trivial
theorem tw3368458519084209600 : True := trivial
theorem tw17768188551495507783 : True := trivial
theorem tw11553448387020896157 : True := trivial
theorem tw10914396049214586313 : True := trivial
theorem tw3323859629537081459 : True := trivial
theorem tw8005727961159459102 : True := trivial
theorem tw14745460074114997931 : True := trivial
theorem tw3261099636749308596 : True := trivial
theorem tw8705729559500050921 : True := trivial
theorem tw10272851985014819535 : True := trivial
theorem tw8458233208613000997 : True := trivial
theorem tw7887566338591111405 : True := trivial
theorem tw13304980001603583221 : True := trivial
theorem tw3901862861977324757 : True := trivial
theorem tw5594541959987504664 : True := trivial
theorem tw3867249265160685556 : True := trivial
theorem tw16321792055034688793 : True := trivial
theorem tw7690877049260415135 : True := trivial
theorem tw9849763753645895526 : True := trivial
theorem tw16438479781064722215 : True := trivial
theorem tw11863183304896027028 : True := trivial
theorem tw4578982678189403255 : True := trivial
theorem tw9762999042785686553 : True := trivial
theorem tw15530181664265011072 : True := trivial
theorem tw7200853121479592267 : True := trivial
theorem tw11670502230715476973 : True := trivial
theorem tw12288699785937187210 : True := trivial
theorem tw2864572922560690389 : True := trivial
theorem tw3319086721382175592 : True := trivial
theorem tw12666701719786390471 : True := trivial
theorem tw6869947300124342443 : True := trivial
theorem tw1098909260716916443 : True := trivial
theorem tw1133610678578247681 : True := trivial
theorem tw16145164680810479617 : True := trivial
theorem tw14192905597778314122 : True := trivial
theorem tw4989076022690023494 : True := trivial
theorem tw15980504831966502618 : True := trivial
theorem tw1954364092949466961 : True := trivial
theorem tw16845677348472152756 : True := trivial
theorem tw9610868844834377450 : True := trivial
theorem tw6612188462440997040 : True := trivial
theorem tw18280002154114688362 : True := trivial
theorem tw1779593030184685526 : True := trivial
theorem tw5155771283129745510 : True := trivial
theorem tw10257756098129353592 : True := trivial
theorem tw1696050272959388241 : True := trivial
theorem tw678544202269470152 : True := trivial
theorem tw5495417123596339775 : True := trivial
theorem tw17554150158232214488 : True := trivial
theorem tw10838258242427548491 : True := trivial
theorem tw11092279427461341644 : True := trivial
theorem tw1786316315819532005 : True := trivial
theorem tw3052355316361961648 : True := trivial
theorem tw6304998308464242361 : True := trivial
theorem tw13581110151758311726 : True := trivial
theorem tw10192897657571048014 : True := trivial
theorem tw18337463392448934183 : True := trivial
theorem tw6817595379742974404 : True := trivial
theorem tw18037583386452410736 : True := trivial
theorem tw2312775892763905700 : True := trivial
theorem tw1419643508495235102 : True := trivial
theorem tw6933087970905357522 : True := trivial
theorem tw2460614488492235689 : True := trivial
theorem tw4437526470972460060 : True := trivial
theorem tw18115418923537278730 : True := trivial
theorem tw6636658061330679480 : True := trivial
theorem tw14923699811504236914 : True := trivial
theorem tw11250844177954836051 : True := trivial
theorem tw14418132852943771618 : True := trivial
theorem tw14847382248421493948 : True := trivial
theorem tw11824302983978258446 : True := trivial
theorem tw14477390534850194757 : True := trivial
theorem tw12728602190089909913 : True := trivial
theorem tw14571561255681411085 : True := trivial
theorem tw9964286169720876299 : True := trivial
theorem tw5612527763854427385 : True := trivial
theorem tw12190004661070425241 : True := trivial
theorem tw18107338071251457340 : True := trivial
theorem tw2095373950155236581 : True := trivial
theorem tw11424029272451964453 : True := trivial
theorem tw12006958016226314147 : True := trivial
theorem tw6977175758796006373 : True := trivial
theorem tw2968497405221463570 : True := trivial
theorem tw11541652730106501193 : True := trivial
theorem tw2095779747076627700 : True := trivial
theorem tw4228987017525272093 : True := trivial
theorem tw2584732195341713096 : True := trivial
theorem tw12435774696601052923 : True := trivial
theorem tw16590565113227279507 : True := trivial
theorem tw10347857635010668213 : True := trivial
theorem tw14847079499957691164 : True := trivial
theorem tw4538822906479013495 : True := trivial
theorem tw18249025141062344330 : True := trivial
theorem tw1162197290104132136 : True := trivial
theorem tw4287908077893480085 : True := trivial
theorem tw710734304569863114 : True := trivial
theorem tw6574190279500049997 : True := trivial
theorem tw4937552257134658654 : True := trivial
theorem tw16427783413700383573 : True := trivial
theorem tw11213223807646666373 : True := trivial
theorem tw1674880084692427354 : True := trivial
theorem tw17936455076609456209 : True := trivial
theorem tw10574829875640812052 : True := trivial
theorem tw15027351944165809753 : True := trivial
theorem tw1977318514312578315 : True := trivial
theorem tw3807908951456224728 : True := trivial
theorem tw3008700416097834956 : True := trivial
theorem tw16963529669596427515 : True := trivial
theorem tw15712211225574731234 : True := trivial
theorem tw17638980417020869061 : True := trivial
theorem tw11909542853702109659 : True := trivial
theorem tw8401331097679012013 : True := trivial
theorem tw2758694822284216708 : True := trivial
theorem tw17319253037165019364 : True := trivial
theorem tw6221029582569478714 : True := trivial
theorem tw15891101500472384751 : True := trivial
theorem tw2734153709033154225 : True := trivial
theorem tw5009711194983111487 : True := trivial
theorem tw8131031735676958369 : True := trivial
theorem tw3221881412860471252 : True := trivial
theorem tw18228168710923601399 : True := trivial
theorem tw8408723944566764093 : True := trivial
theorem tw9415914009310961216 : True := trivial
theorem tw13278241883301348991 : True := trivial
theorem tw17823029578276159266 : True := trivial
theorem tw6822053599680706964 : True := trivial
theorem tw16641818215138119857 : True := trivial
theorem tw6300184852251562739 : True := trivial
theorem tw16421408504115715298 : True := trivial
theorem tw1088596478332374135 : True := trivial
theorem tw16813949286714323743 : True := trivial
theorem tw3986937680909497936 : True := trivial
theorem tw8699187463095279949 : True := trivial
theorem tw10566737659274184830 : True := trivial
theorem tw16869260459696764425 : True := trivial
theorem tw12754640311571409868 : True := trivial
theorem tw1518805573007751169 : True := trivial
theorem tw5351120949276418084 : True := trivial
theorem tw11914124688596348523 : True := trivial
theorem tw12751053441486755169 : True := trivial
theorem tw620995654211312118 : True := trivial
theorem tw9747800179814640547 : True := trivial
theorem tw15870018144090983112 : True := trivial
theorem tw2006619650754816209 : True := trivial
theorem tw12906828721614737856 : True := trivial
theorem tw6937635219195027786 : True := trivial
theorem tw15495396679886159640 : True := trivial
theorem tw8697945272856615066 : True := trivial
theorem tw8122994391296967967 : True := trivial
theorem tw10693492105014557036 : True := trivial
theorem tw12171256076671087450 : True := trivial
theorem tw4288182353564224602 : True := trivial
theorem tw4098761139765558235 : True := trivial
theorem tw370543914853322691 : True := trivial
theorem tw15384789796804335370 : True := trivial
theorem tw5036353501891632991 : True := trivial
theorem tw10680577787874159633 : True := trivial
theorem tw562138056311965593 : True := trivial
theorem tw17438743457158853136 : True := trivial
theorem tw1524249739588173138 : True := trivial
theorem tw11272651138331329265 : True := trivial
theorem tw14148708252366600634 : True := trivial
theorem tw9513972957557547707 : True := trivial
theorem tw4116582032676060491 : True := trivial
theorem tw7603503873863074267 : True := trivial
theorem tw8114686601548667668 : True := trivial
theorem tw3349061706994730150 : True := trivial
theorem tw4773939012399997672 : True := trivial
theorem tw11756088702509093112 : True := trivial
theorem tw1148739218120048542 : True := trivial
theorem tw6364876907792184276 : True := trivial
theorem tw14823143582003661066 : True := trivial
theorem tw12076895245810952954 : True := trivial
theorem tw15124078192692970389 : True := trivial
theorem tw16177369955966340383 : True := trivial
theorem tw6541469875769825629 : True := trivial
theorem tw10860315574931500882 : True := trivial
theorem tw13326549097602722696 : True := trivial
theorem tw3353656463968908896 : True := trivial
theorem tw11043468751843695885 : True := trivial
theorem tw251912168622768547 : True := trivial
theorem tw16625761514603467727 : True := trivial
theorem tw16077098450354841165 : True := trivial
theorem tw11418717208662883194 : True := trivial
theorem tw6159295372236938468 : True := trivial
theorem tw1687727915725500358 : True := trivial
theorem tw17849962602816920566 : True := trivial
theorem tw12685970916384956775 : True := trivial
theorem tw2590864507662726262 : True := trivial
theorem tw18216092913109877199 : True := trivial
theorem tw10113959446958742083 : True := trivial
theorem tw6331982275445484498 : True := trivial
theorem tw943339890968503792 : True := trivial
theorem tw14322441885659610835 : True := trivial
theorem tw1727727524035830990 : True := trivial
theorem tw13990335743353642852 : True := trivial
theorem tw750806312455140038 : True := trivial
theorem tw1969974170178412398 : True := trivial
theorem tw13146263833201740736 : True := trivial
theorem tw17932272055323421799 : True := trivial
theorem tw7028459727398565091 : True := trivial
theorem tw4908990722417373025 : True := trivial
theorem tw1220212062920845960 : True := trivial
theorem tw13713909346614121130 : True := trivial
theorem tw14387793541907008330 : True := trivial
theorem tw2422431225362550878 : True := trivial
theorem tw13882414173930006616 : True := trivial
theorem tw4986543175161065897 : True := trivial
theorem tw5225804512736517813 : True := trivial
theorem tw13915760577646485487 : True := trivial
theorem tw14533904991016062274 : True := trivial
theorem tw9692474300876570380 : True := trivial
theorem tw9173944368492352348 : True := trivial
theorem tw10281599549198507052 : True := trivial
theorem tw5652389853567202656 : True := trivial
theorem tw17845910337103672506 : True := trivial
theorem tw15997161326031491064 : True := trivial
theorem tw11249183281264066129 : True := trivial
theorem tw17897826269295476156 : True := trivial
theorem tw4119002405943383956 : True := trivial
theorem tw16235141689647812321 : True := trivial
theorem tw12072941937610852368 : True := trivial
theorem tw3002741210439834437 : True := trivial
theorem tw6049091820482378890 : True := trivial
theorem tw1860906643749717367 : True := trivial
theorem tw13514594049677259988 : True := trivial
theorem tw7266275393377313025 : True := trivial
theorem tw17070324136249039743 : True := trivial
theorem tw8627816663976870551 : True := trivial
theorem tw9951323371119932541 : True := trivial
theorem tw17583111246829504159 : True := trivial
theorem tw12954707705864797085 : True := trivial
theorem tw4017295089129379861 : True := trivial
theorem tw15749020724315830914 : True := trivial
theorem tw11619966991626053497 : True := trivial
theorem tw15688099562450861087 : True := trivial
theorem tw6138748902600794558 : True := trivial
theorem tw1045654200039488859 : True := trivial
theorem tw6909850196875295903 : True := trivial
theorem tw9989770793010131018 : True := trivial
theorem tw8272132056064855541 : True := trivial
theorem tw7960261397505918044 : True := trivial
theorem tw2883566962451466288 : True := trivial
theorem tw12394767048261128252 : True := trivial
theorem tw15727604474049746780 : True := trivial
theorem tw830956975520897614 : True := trivial
theorem tw5924696076488490714 : True := trivial
theorem tw9438899961132401612 : True := trivial
theorem tw7965326947819918584 : True := trivial
theorem tw18341852844681820057 : True := trivial
theorem tw11162316596962168201 : True := trivial
theorem tw12335621205094992478 : True := trivial
theorem tw11349164840943837108 : True := trivial
theorem tw1416142450877407251 : True := trivial
theorem tw67284751548623009 : True := trivial
theorem tw1832402279993255423 : True := trivial
theorem tw9015551790654386473 : True := trivial
theorem tw4584154885145037771 : True := trivial
theorem tw8246740865034324420 : True := trivial
theorem tw16828904510636052625 : True := trivial
theorem tw9795358772242253758 : True := trivial
theorem tw17916160364995359274 : True := trivial
theorem tw10396929190548547063 : True := trivial
theorem tw10691015594486759237 : True := trivial
theorem tw14170676640513572160 : True := trivial
theorem tw17272467191218089149 : True := trivial
theorem tw5580244861549419597 : True := trivial
theorem tw11003055991059656688 : True := trivial
theorem tw4953008782606483057 : True := trivial
theorem tw6631245257579494014 : True := trivial
theorem tw5663691762936942631 : True := trivial
theorem tw11136721712584238998 : True := trivial
theorem tw12622427636166988166 : True := trivial
theorem tw11235256204231217793 : True := trivial
theorem tw14751077012924000719 : True := trivial
theorem tw4613081048795679939 : True := trivial
theorem tw16802845700536162293 : True := trivial
theorem tw15396409121472251810 : True := trivial
theorem tw7704921387728652775 : True := trivial
theorem tw6602224810286167305 : True := trivial
theorem tw3790563984616017346 : True := trivial
theorem tw3903057976720435337 : True := trivial
theorem tw5477710487181050139 : True := trivial
theorem tw3994978485291450798 : True := trivial
theorem tw17380951395618280900 : True := trivial
theorem tw9561774941695047545 : True := trivial
theorem tw15248560631783352640 : True := trivial
theorem tw7890005559891973363 : True := trivial
theorem tw11677298039635682988 : True := trivial
theorem tw8271474617751866970 : True := trivial
theorem tw13474241265493690248 : True := trivial
theorem tw5560547065065868597 : True := trivial
theorem tw7588034672993160567 : True := trivial
theorem tw2563344560352941982 : True := trivial
theorem tw15543140543018017190 : True := trivial
theorem tw7198521425678110774 : True := trivial
theorem tw2955510066476216994 : True := trivial
theorem tw2111972647898324118 : True := trivial
theorem tw15694145640614747104 : True := trivial
theorem tw1892838874906256674 : True := trivial
theorem tw7381765680446013882 : True := trivial
theorem tw11260320920872909661 : True := trivial
theorem tw4218966416889521409 : True := trivial
theorem tw10096951085490742971 : True := trivial
theorem tw232255116504279322 : True := trivial
theorem tw17102976463108588423 : True := trivial
theorem tw8796194302024041220 : True := trivial
theorem tw17201510296763692122 : True := trivial
theorem tw16809553348087145637 : True := trivial
theorem tw29440213854145462 : True := trivial
theorem tw6157727033196825727 : True := trivial
theorem tw17231767550729867458 : True := trivial
theorem tw11081607575124699023 : True := trivial
theorem tw17433461762177018466 : True := trivial
theorem tw1180744755043475543 : True := trivial
theorem tw15421819228987038251 : True := trivial
theorem tw13003703872389999376 : True := trivial
theorem tw16660988106122517607 : True := trivial
theorem tw13334462187804547439 : True := trivial
theorem tw12821474965195749659 : True := trivial
theorem tw8181221175855154206 : True := trivial
theorem tw9165622004088995529 : True := trivial
theorem tw1467771511627742008 : True := trivial
theorem tw16575696110026108351 : True := trivial
theorem tw18361840205434134642 : True := trivial
theorem tw19257232881313554 : True := trivial
theorem tw1869574441824179262 : True := trivial
theorem tw17440599052909152661 : True := trivial
theorem tw13062508203860540310 : True := trivial
theorem tw10259489150490568800 : True := trivial
theorem tw6084797601702146990 : True := trivial
theorem tw14914574591216885525 : True := trivial
theorem tw4728685127862181487 : True := trivial
theorem tw17816454435860718156 : True := trivial
theorem tw18086509208189957296 : True := trivial
theorem tw13451092439131094523 : True := trivial
theorem tw17165586928897187209 : True := trivial
theorem tw16923821598505278895 : True := trivial
theorem tw17730891059964374042 : True := trivial
theorem tw18291650356105738945 : True := trivial
theorem tw8644755051418286353 : True := trivial
theorem tw17275743775946520234 : True := trivial
theorem tw14547697477461196558 : True := trivial
theorem tw17818406548948890719 : True := trivial
theorem tw17072818035800781301 : True := trivial
theorem tw2102347404199926194 : True := trivial
theorem tw12242632109430416245 : True := trivial
theorem tw9448263566850701449 : True := trivial
theorem tw15808187751490770539 : True := trivial
theorem tw16401957760667227330 : True := trivial
theorem tw12622280609235034497 : True := trivial
theorem tw17211124975789775603 : True := trivial
theorem tw5825355656479879640 : True := trivial
theorem tw5038966277225133794 : True := trivial
theorem tw1660743968607544696 : True := trivial
theorem tw123208147161755545 : True := trivial
theorem tw16045829152895998370 : True := trivial
theorem tw16718184590815313880 : True := trivial
theorem tw9837182705755800448 : True := trivial
theorem tw11043499486057580455 : True := trivial
theorem tw14682088962732443214 : True := trivial
theorem tw566966652899637050 : True := trivial
theorem tw6823631554040428562 : True := trivial
theorem tw11698973462223887533 : True := trivial
theorem tw12442088832027570162 : True := trivial
theorem tw11473849460181404075 : True := trivial
theorem tw14818318982166067586 : True := trivial
theorem tw16861206846402411815 : True := trivial
theorem tw14794446971286474736 : True := trivial
theorem tw12618879817788855451 : True := trivial
theorem tw13187195542044618849 : True := trivial
theorem tw3820514176679600763 : True := trivial
theorem tw15287261195145223328 : True := trivial
theorem tw17029428282021553586 : True := trivial
theorem tw9723820419743372926 : True := trivial
theorem tw8202014740668566032 : True := trivial
theorem tw8770412807120123591 : True := trivial
theorem tw12981281619472588589 : True := trivial
theorem tw11657914000967806735 : True := trivial
theorem tw9346616336953416722 : True := trivial
theorem tw3491608275699344942 : True := trivial
theorem tw17362195080893727001 : True := trivial
theorem tw5254092984252139494 : True := trivial
theorem tw8777197099303131496 : True := trivial
theorem tw789078239389294133 : True := trivial
theorem tw11265750898013961461 : True := trivial
theorem tw15262705093367521698 : True := trivial
theorem tw17969854304507164523 : True := trivial
theorem tw1193398917640971413 : True := trivial
theorem tw13991339658888413779 : True := trivial
theorem tw5543581356190258080 : True := trivial
theorem tw17721883856351661685 : True := trivial
theorem tw14400486297298421082 : True := trivial
theorem tw6440763922393708539 : True := trivial
theorem tw2442926521914517486 : True := trivial
theorem tw11790686660128731690 : True := trivial
theorem tw9672097125520157870 : True := trivial
theorem tw3352306923562187578 : True := trivial
theorem tw13309438295200318561 : True := trivial
theorem tw8642396523966431575 : True := trivial
theorem tw7939190183025289896 : True := trivial
theorem tw7355824883390070504 : True := trivial
theorem tw3330234038505495509 : True := trivial
theorem tw12007441278159797361 : True := trivial
theorem tw5281361400231701766 : True := trivial
theorem tw12848153467105250402 : True := trivial
theorem tw16041100819180118487 : True := trivial
theorem tw9721268595737762527 : True := trivial
theorem tw16376421796617386840 : True := trivial
theorem tw13897595210446863949 : True := trivial
theorem tw12131187745311794021 : True := trivial
theorem tw8345691208884056970 : True := trivial
theorem tw15008443481330833289 : True := trivial
theorem tw3293337544415668712 : True := trivial
theorem tw3434278570592119688 : True := trivial
theorem tw12262088540389687852 : True := trivial
theorem tw7873917254084136989 : True := trivial
theorem tw10803018597323517636 : True := trivial
theorem tw1950999894925631620 : True := trivial
theorem tw4558264215213296081 : True := trivial
theorem tw5261451631763505105 : True := trivial
theorem tw15375481317225989057 : True := trivial
theorem tw11394072040019758038 : True := trivial
theorem tw12985297709368520846 : True := trivial
theorem tw8859686490090589085 : True := trivial
theorem tw8308155922210255752 : True := trivial
theorem tw17835813006478773106 : True := trivial
theorem tw6408841191030158746 : True := trivial
theorem tw5030154998877089871 : True := trivial
theorem tw10959125442691199456 : True := trivial
theorem tw15870010907265095649 : True := trivial
theorem tw3803859777815290704 : True := trivial
theorem tw14187412411401545032 : True := trivial
theorem tw2349584837810142057 : True := trivial
theorem tw10647226202803254784 : True := trivial
theorem tw6141653248923907068 : True := trivial
theorem tw13085552834522157470 : True := trivial
theorem tw3478295062939226003 : True := trivial
theorem tw5344181962739381275 : True := trivial
theorem tw11692879036011163853 : True := trivial
theorem tw9340585344256066482 : True := trivial
theorem tw17302275013220137156 : True := trivial
theorem tw6611791934116073532 : True := trivial
theorem tw2936900469367441798 : True := trivial
theorem tw5338083997755892205 : True := trivial
theorem tw1426567124366333447 : True := trivial
theorem tw758056884685281281 : True := trivial
theorem tw1697240928977543005 : True := trivial
theorem tw4318653392342300507 : True := trivial
theorem tw10462316425968706746 : True := trivial
theorem tw6635959657266966862 : True := trivial
theorem tw2191194830406037068 : True := trivial
theorem tw7146850960313749126 : True := trivial
theorem tw3435495802831963655 : True := trivial
theorem tw13411620287866313293 : True := trivial
theorem tw9385340648581716176 : True := trivial
theorem tw9537470947879988346 : True := trivial
theorem tw11066166910114033499 : True := trivial
theorem tw15855865459016471737 : True := trivial
theorem tw16659923459626751599 : True := trivial
theorem tw996295226420221254 : True := trivial
theorem tw13068545410636023793 : True := trivial
theorem tw7976655308014415817 : True := trivial
theorem tw14918848707741784268 : True := trivial
theorem tw2395822346435248767 : True := trivial
theorem tw15967350929907463403 : True := trivial
theorem tw15058495851173138576 : True := trivial
theorem tw7820764334191186834 : True := trivial
theorem tw15527394404173148100 : True := trivial
theorem tw4713483718728069634 : True := trivial
theorem tw12829413088085798257 : True := trivial
theorem tw9372618254212066184 : True := trivial
theorem tw12983392914396119408 : True := trivial
theorem tw10916726813250742194 : True := trivial
theorem tw17141122422410301275 : True := trivial
theorem tw13052926720081471672 : True := trivial
theorem tw7638558207457257913 : True := trivial
theorem tw3932017893634006408 : True := trivial
theorem tw15562184674607920955 : True := trivial
theorem tw8750304071037541447 : True := trivial
theorem tw11756353602565171927 : True := trivial
theorem tw13029487658075498394 : True := trivial
theorem tw15270666587542161937 : True := trivial
theorem tw10276301209916408482 : True := trivial
theorem tw5438966598474498363 : True := trivial
theorem tw9320839991358794708 : True := trivial
theorem tw943520324488400049 : True := trivial
theorem tw11709542000364787885 : True := trivial
theorem tw11769493656680383939 : True := trivial
theorem tw9150957550006650369 : True := trivial
theorem tw8905383560852915554 : True := trivial
theorem tw15272338588025565952 : True := trivial
theorem tw8970474012244569345 : True := trivial
theorem tw10095872611314342817 : True := trivial
theorem tw4637758680417548354 : True := trivial
theorem tw18040756809665802881 : True := trivial
theorem tw5103160364851347438 : True := trivial
theorem tw8250312628731931867 : True := trivial
theorem tw13725839976258548311 : True := trivial
theorem tw13535075658930200257 : True := trivial
theorem tw14658340744467320393 : True := trivial
theorem tw15327107318494058639 : True := trivial
theorem tw15569708525917341359 : True := trivial
theorem tw16103279593533081567 : True := trivial
theorem tw16019154664087499604 : True := trivial
theorem tw4084230479516375086 : True := trivial
theorem tw14126990678897487676 : True := trivial
theorem tw7805001593461631404 : True := trivial
theorem tw16998301891369549226 : True := trivial
theorem tw14712654991769787187 : True := trivial
theorem tw1189468747518653941 : True := trivial
theorem tw16664646492266043293 : True := trivial
theorem tw16222735623036046787 : True := trivial
theorem tw14636997321826738264 : True := trivial
theorem tw15631001174878861242 : True := trivial
theorem tw16159985568739787506 : True := trivial
theorem tw14338859745984878051 : True := trivial
theorem tw11201079405326953620 : True := trivial
theorem tw14877367068961704237 : True := trivial
theorem tw13614483258469855779 : True := trivial
theorem tw17947656408326810215 : True := trivial
theorem tw6694321952270040896 : True := trivial
theorem tw15736863600122661561 : True := trivial
theorem tw13259226147587378790 : True := trivial
theorem tw10404333210385012257 : True := trivial
theorem tw14197611587626479687 : True := trivial
theorem tw15248920121180953060 : True := trivial
theorem tw10823379418987092951 : True := trivial
theorem tw8863353142112249096 : True := trivial
theorem tw16985899744724981819 : True := trivial
theorem tw1127813912822139175 : True := trivial
theorem tw7002988961145529018 : True := trivial
theorem tw18079630338677875984 : True := trivial
theorem tw2741707038985062179 : True := trivial
theorem tw7626194517860589678 : True := trivial
theorem tw7917025492065669294 : True := trivial
theorem tw15438478169619304660 : True := trivial
theorem tw743864486341577966 : True := trivial
theorem tw13248884596097216842 : True := trivial
theorem tw9617272839602474524 : True := trivial
theorem tw6991141314801618608 : True := trivial
theorem tw14005635911082394927 : True := trivial
theorem tw4267925280782836810 : True := trivial
theorem tw6642236013919270225 : True := trivial
theorem tw14230464417081459285 : True := trivial
theorem tw8450657010294480481 : True := trivial
theorem tw10669946026767887865 : True := trivial
theorem tw3943669039701963526 : True := trivial
theorem tw5734629440038484655 : True := trivial
theorem tw1434430422271862680 : True := trivial
theorem tw10018856012104428394 : True := trivial
theorem tw9196246401416144030 : True := trivial
theorem tw11688854742804381429 : True := trivial
theorem tw16944898161901527281 : True := trivial
theorem tw6035454445553659623 : True := trivial
theorem tw17143419084649271932 : True := trivial
theorem tw5643181548100546129 : True := trivial
theorem tw2248296803680417085 : True := trivial
theorem tw9321005647923091341 : True := trivial
theorem tw12921683791626535934 : True := trivial
theorem tw15624088569479727878 : True := trivial
theorem tw8251729734438758282 : True := trivial
theorem tw17395350985504745432 : True := trivial
theorem tw2529639612245303992 : True := trivial
theorem tw15878292544288068440 : True := trivial
theorem tw6762917892271225687 : True := trivial
theorem tw686600494526468612 : True := trivial
theorem tw3325279688792266294 : True := trivial
theorem tw5957305423174963222 : True := trivial
theorem tw14684173415249500200 : True := trivial
theorem tw3424181863092223832 : True := trivial
theorem tw7763656125026581819 : True := trivial
theorem tw9223786692802028847 : True := trivial
theorem tw15021249074637897154 : True := trivial
theorem tw2991181420686091969 : True := trivial
theorem tw6952975401962961246 : True := trivial
theorem tw1153150882444869074 : True := trivial
theorem tw2957306960792427754 : True := trivial
theorem tw3576739023188348929 : True := trivial
theorem tw8178165622943778115 : True := trivial
theorem tw7760086907632763599 : True := trivial
theorem tw7172685698478639995 : True := trivial
theorem tw12978156464894572142 : True := trivial
theorem tw9473770988631465176 : True := trivial
theorem tw17627200498375201602 : True := trivial
theorem tw16554982288352537373 : True := trivial
theorem tw10976974907310250316 : True := trivial
theorem tw2965168383531639987 : True := trivial
theorem tw5278954116004151261 : True := trivial
theorem tw16851082913748455106 : True := trivial
theorem tw14715507381590086052 : True := trivial
theorem tw17762587214257780060 : True := trivial
theorem tw8185867287983449829 : True := trivial
theorem tw13935246579918843546 : True := trivial
theorem tw3187754375017057818 : True := trivial
theorem tw4365968037610211270 : True := trivial
theorem tw4826803814500395166 : True := trivial
theorem tw9267061085777067335 : True := trivial
theorem tw17929070582322033172 : True := trivial
theorem tw5838840668974690286 : True := trivial
theorem tw16326976122642530209 : True := trivial
theorem tw5340289541583739311 : True := trivial
theorem tw814344431800344555 : True := trivial
theorem tw9991984228361097233 : True := trivial
theorem tw2297091343671615862 : True := trivial
theorem tw6273066508210897840 : True := trivial
theorem tw768131446298595092 : True := trivial
theorem tw60248999943372747 : True := trivial
theorem tw1082690624655103967 : True := trivial
theorem tw8983779021418779346 : True := trivial
theorem tw4778843263976365831 : True := trivial
theorem tw8386178664404039873 : True := trivial
theorem tw4947287679236048607 : True := trivial
theorem tw14791223838764700632 : True := trivial
theorem tw5423233182712995698 : True := trivial
theorem tw1214308246202921791 : True := trivial
theorem tw4914040452205283075 : True := trivial
theorem tw16043128003878932872 : True := trivial
theorem tw8493062432548296467 : True := trivial
theorem tw16970279202722819815 : True := trivial
theorem tw15076465763464496395 : True := trivial
theorem tw5739580893166267087 : True := trivial
theorem tw7921013131215819533 : True := trivial
theorem tw16164912960443413775 : True := trivial
theorem tw9958469272713019797 : True := trivial
theorem tw749941471124664573 : True := trivial
theorem tw8676467636142764932 : True := trivial
theorem tw9070468869568930931 : True := trivial
theorem tw14560417203017400121 : True := trivial
theorem tw1790033973222245416 : True := trivial
theorem tw8501879026038504820 : True := trivial
theorem tw7824634232914929211 : True := trivial
theorem tw13379996127979278987 : True := trivial
theorem tw12798880579876290792 : True := trivial
theorem tw7208433610963095538 : True := trivial
theorem tw6181775830004729443 : True := trivial
theorem tw7571404837821772060 : True := trivial
theorem tw609274417999931013 : True := trivial
theorem tw17130970615975046386 : True := trivial
theorem tw894922826360108504 : True := trivial
theorem tw2602627552478836109 : True := trivial
theorem tw12655623246274022650 : True := trivial
theorem tw11574851559809107485 : True := trivial
theorem tw9529359029792608784 : True := trivial
theorem tw11023215916544799238 : True := trivial
theorem tw7533876180981937810 : True := trivial
theorem tw12494369952559773747 : True := trivial
theorem tw17935522821683218849 : True := trivial
theorem tw7814442540627842350 : True := trivial
theorem tw6581811773368293322 : True := trivial
theorem tw1439338609704737660 : True := trivial
theorem tw11754638058814799532 : True := trivial
theorem tw13911160197344317745 : True := trivial
theorem tw1248636948519869099 : True := trivial
theorem tw13037690511040284193 : True := trivial
theorem tw17057999700363463685 : True := trivial
theorem tw18437379695432210785 : True := trivial
theorem tw4638076533306253306 : True := trivial
theorem tw11853916414971128317 : True := trivial
theorem tw9897806313518133573 : True := trivial
theorem tw1340091388380745807 : True := trivial
theorem tw3324868659277163888 : True := trivial
theorem tw669264962758249389 : True := trivial
theorem tw11779995004468179539 : True := trivial
theorem tw7004088552379878498 : True := trivial
theorem tw13758104999284062633 : True := trivial
theorem tw1209602058486226020 : True := trivial
theorem tw13312718631160241864 : True := trivial
theorem tw1892653767862703532 : True := trivial
theorem tw5804362352849039455 : True := trivial
theorem tw5967889151666511172 : True := trivial
theorem tw4724634370642051625 : True := trivial
theorem tw10846718649864498605 : True := trivial
theorem tw17362337471350116794 : True := trivial
theorem tw3154285286593715542 : True := trivial
theorem tw14932122740992043322 : True := trivial
theorem tw17967545003298789303 : True := trivial
theorem tw6388736860845154116 : True := trivial
theorem tw12177489709301395353 : True := trivial
theorem tw18360555203768851199 : True := trivial
theorem tw5142350403020098730 : True := trivial
theorem tw13528794393134433507 : True := trivial
theorem tw6724529952108941603 : True := trivial
theorem tw17208671659966140547 : True := trivial
theorem tw1995365064442368625 : True := trivial
theorem tw763571289758371378 : True := trivial
theorem tw13969295036927782980 : True := trivial
theorem tw11213920351220821787 : True := trivial
theorem tw9761785385892603963 : True := trivial
theorem tw12471914221596654163 : True := trivial
theorem tw13663967629731539708 : True := trivial
theorem tw6919410321778990050 : True := trivial
theorem tw7274922365314461927 : True := trivial
theorem tw13682366387394175862 : True := trivial
theorem tw2140347075682085445 : True := trivial
theorem tw2848190862666538677 : True := trivial
theorem tw12257833701746278090 : True := trivial
theorem tw13506729434193049233 : True := trivial
theorem tw1378498958745293560 : True := trivial
theorem tw7997846899189524576 : True := trivial
theorem tw16374549686675455108 : True := trivial
theorem tw10760760291502255210 : True := trivial
theorem tw6667403889102006901 : True := trivial
theorem tw13788199628704888721 : True := trivial
theorem tw6060210141986864939 : True := trivial
theorem tw16400866811272946662 : True := trivial
theorem tw17137423314417050450 : True := trivial
theorem tw10842412869348620885 : True := trivial
theorem tw14778617200525885894 : True := trivial
theorem tw17830071206175748797 : True := trivial
theorem tw5868643703046923730 : True := trivial
theorem tw10064676099338461323 : True := trivial
theorem tw11333851452874323409 : True := trivial
theorem tw7101622405578967764 : True := trivial
theorem tw7672673325159984739 : True := trivial
theorem tw3813862985304555986 : True := trivial
theorem tw10189476038683161572 : True := trivial
theorem tw8443078186987379117 : True := trivial
theorem tw11543451767847048882 : True := trivial
theorem tw6617349373678009841 : True := trivial
theorem tw13907157011014219378 : True := trivial
theorem tw13428222665130700984 : True := trivial
theorem tw5928715063022476300 : True := trivial
theorem tw4919532730761234654 : True := trivial
theorem tw8598146721014734481 : True := trivial
theorem tw17355806734807042283 : True := trivial
theorem tw10599515767277485432 : True := trivial
theorem tw17510600680897545805 : True := trivial
theorem tw4140842297357766639 : True := trivial
theorem tw8133656713851973401 : True := trivial
theorem tw14781669524303633110 : True := trivial
theorem tw13152034837074090792 : True := trivial
theorem tw10078195768318299359 : True := trivial
theorem tw9191820422710413584 : True := trivial
theorem tw9853354723100270323 : True := trivial
theorem tw6029568444612229065 : True := trivial
theorem tw8217072056479678936 : True := trivial
theorem tw15877759023608115319 : True := trivial
theorem tw7546575343605352177 : True := trivial
theorem tw6097037326985931632 : True := trivial
theorem tw12247020970272801105 : True := trivial
theorem tw990688976868229742 : True := trivial
theorem tw13655509879498676100 : True := trivial
theorem tw7897369922491740277 : True := trivial
theorem tw18309690406494955933 : True := trivial
theorem tw825754542426412356 : True := trivial
theorem tw2117452006971340201 : True := trivial
theorem tw125063225104181845 : True := trivial
theorem tw6468866030460391229 : True := trivial
theorem tw7090974538588117688 : True := trivial
theorem tw243803679577701557 : True := trivial
theorem tw16669174027012112553 : True := trivial
theorem tw3357264804234169816 : True := trivial
theorem tw17602670779008198929 : True := trivial
theorem tw11424327026971616613 : True := trivial
theorem tw9118068009547768660 : True := trivial
theorem tw8979521307139822413 : True := trivial
theorem tw8624037039226018429 : True := trivial
theorem tw9591657458481594443 : True := trivial
theorem tw2146348532010945834 : True := trivial
theorem tw16682657593310148535 : True := trivial
theorem tw6471160275779380537 : True := trivial
theorem tw6408078708651964107 : True := trivial
theorem tw10913886629528803021 : True := trivial
theorem tw2792743529934308778 : True := trivial
theorem tw3627755313738430260 : True := trivial
theorem tw8308581940709825414 : True := trivial
theorem tw11317812346560977970 : True := trivial
theorem tw14462223479271478399 : True := trivial
theorem tw10244307530160622978 : True := trivial
theorem tw491547086513799400 : True := trivial
theorem tw8899633517505559404 : True := trivial
theorem tw5670287479119803520 : True := trivial
theorem tw14282817310448916361 : True := trivial
theorem tw8313493645093434177 : True := trivial
theorem tw12318158973233342493 : True := trivial
theorem tw17925648887184274559 : True := trivial
theorem tw5312490564043402486 : True := trivial
theorem tw1165959425105646985 : True := trivial
theorem tw13059156978861936226 : True := trivial
theorem tw1836382077282942863 : True := trivial
theorem tw7765943528125426672 : True := trivial
theorem tw7271444621709137038 : True := trivial
theorem tw17151999202176741099 : True := trivial
theorem tw8304234294180149899 : True := trivial
theorem tw8272901633660091079 : True := trivial
theorem tw15524581054040893555 : True := trivial
theorem tw18050501807936431775 : True := trivial
theorem tw16171470711229222152 : True := trivial
theorem tw1085360064835219189 : True := trivial
theorem tw13254937982456171653 : True := trivial
theorem tw2291207059491790484 : True := trivial
theorem tw16671705634279443772 : True := trivial
theorem tw13928678417393934044 : True := trivial
theorem tw16822273892581103300 : True := trivial
theorem tw3528090357855373330 : True := trivial
theorem tw10338141859302220343 : True := trivial
theorem tw12007546553810703260 : True := trivial
theorem tw15496298626810771054 : True := trivial
theorem tw7468610570355481176 : True := trivial
theorem tw14189501823486891786 : True := trivial
theorem tw18104394668967373062 : True := trivial
theorem tw17278603112056307979 : True := trivial
theorem tw1059794458131230103 : True := trivial
theorem tw9823441838781694239 : True := trivial
theorem tw9430522442178741856 : True := trivial
theorem tw14305932449579167576 : True := trivial
theorem tw13601872111037053738 : True := trivial
theorem tw8004299928228398477 : True := trivial
theorem tw17270887438037141089 : True := trivial
theorem tw12990669901157772259 : True := trivial
theorem tw13899150640269346946 : True := trivial
theorem tw8232209597556789315 : True := trivial
theorem tw8383905543545738487 : True := trivial
theorem tw15280703230960776269 : True := trivial
theorem tw13149297174014197493 : True := trivial
theorem tw12602546160805165900 : True := trivial
theorem tw55575884577355299 : True := trivial
theorem tw10186064807368385248 : True := trivial
theorem tw18079472859513179711 : True := trivial
theorem tw238902620885778058 : True := trivial
theorem tw13587768492967590526 : True := trivial
theorem tw3196649016450881362 : True := trivial
theorem tw187701465500682535 : True := trivial
theorem tw599719928187179079 : True := trivial
theorem tw9308775385798713465 : True := trivial
theorem tw6194569433896176002 : True := trivial
theorem tw10553390335988773732 : True := trivial
theorem tw4257422660153131443 : True := trivial
theorem tw5093018826383988293 : True := trivial
theorem tw6891916172612723225 : True := trivial
theorem tw3385198079687031385 : True := trivial
theorem tw16218632453376299914 : True := trivial
theorem tw11682089538712337510 : True := trivial
theorem tw7718004221955479594 : True := trivial
theorem tw8062747348983523464 : True := trivial
theorem tw10629506458262698384 : True := trivial
theorem tw18337278169554365755 : True := trivial
theorem tw7248037104154503656 : True := trivial
theorem tw4318181062004679739 : True := trivial
theorem tw2872978349308428171 : True := trivial
theorem tw7145434289148710901 : True := trivial
theorem tw6163788047722253967 : True := trivial
theorem tw18258351738347267164 : True := trivial
theorem tw12203144308696378894 : True := trivial
theorem tw17835155495272354597 : True := trivial
theorem tw10037467945604053438 : True := trivial
theorem tw2333758083161506745 : True := trivial
theorem tw224020612461722253 : True := trivial
theorem tw13986595673896599360 : True := trivial
theorem tw12948197385045769762 : True := trivial
theorem tw4080537553305372106 : True := trivial
theorem tw1863532449136054060 : True := trivial
theorem tw1406051219867449917 : True := trivial
theorem tw4496250863724254386 : True := trivial
theorem tw15659911059890780581 : True := trivial
theorem tw6113555657823855128 : True := trivial
theorem tw7002208256619856183 : True := trivial
theorem tw8359850603967809767 : True := trivial
theorem tw1888118557655391031 : True := trivial
theorem tw446929015014153565 : True := trivial
theorem tw10309487731259923061 : True := trivial
theorem tw4267424405417084069 : True := trivial
theorem tw17578946203108529415 : True := trivial
theorem tw7605767542516643097 : True := trivial
theorem tw9718383442131122486 : True := trivial
theorem tw11582428993681797980 : True := trivial
theorem tw16353783775972880657 : True := trivial
theorem tw6436386779905728153 : True := trivial
theorem tw17879338799009038994 : True := trivial
theorem tw3084262158607380210 : True := trivial
theorem tw15326675642927268910 : True := trivial
theorem tw16667963014370957564 : True := trivial
theorem tw15050916259360216754 : True := trivial
theorem tw5167781197575140762 : True := trivial
theorem tw6793012173802763713 : True := trivial
theorem tw2972731112127457265 : True := trivial
theorem tw16434666512972318686 : True := trivial
theorem tw13180261971441875683 : True := trivial
theorem tw13111441217565126237 : True := trivial
theorem tw12536312739877432228 : True := trivial
theorem tw8315775411164062598 : True := trivial
theorem tw3339503157652777963 : True := trivial
theorem tw685737576340806824 : True := trivial
theorem tw11952211270754153782 : True := trivial
theorem tw2623003806223805105 : True := trivial
theorem tw623186409975488623 : True := trivial
theorem tw5990859367041162747 : True := trivial
theorem tw8107008723338624738 : True := trivial
theorem tw941749136438361368 : True := trivial
theorem tw14519650924485959231 : True := trivial
theorem tw539391899651033637 : True := trivial
theorem tw16861343302363544362 : True := trivial
theorem tw4412513615590323809 : True := trivial
theorem tw15205418854417296594 : True := trivial
theorem tw1456866979627248341 : True := trivial
theorem tw12093038531590971351 : True := trivial
theorem tw6202848426230395886 : True := trivial
theorem tw6852967891673766978 : True := trivial
theorem tw7388176681531313780 : True := trivial
theorem tw15284205261743312893 : True := trivial
theorem tw2927068627985268897 : True := trivial
theorem tw16602566093356937783 : True := trivial
theorem tw5564516435496440944 : True := trivial
theorem tw10401161546113449603 : True := trivial
theorem tw16813585032145232634 : True := trivial
theorem tw7728276052072322407 : True := trivial
theorem tw6891853792964946092 : True := trivial
theorem tw13383228144188181768 : True := trivial
theorem tw12238850592336722837 : True := trivial
theorem tw8139155590123781476 : True := trivial
theorem tw5381702760596284877 : True := trivial
theorem tw189443305598470189 : True := trivial
theorem tw115931321116277091 : True := trivial
theorem tw13178334091334815420 : True := trivial
theorem tw8222573929496793528 : True := trivial
theorem tw8762580651432495897 : True := trivial
theorem tw18100596268229326289 : True := trivial
theorem tw2504482296624363275 : True := trivial
theorem tw11445329878787434678 : True := trivial
theorem tw13924139981912489258 : True := trivial
theorem tw1122820552990220149 : True := trivial
theorem tw3424621724239357523 : True := trivial
theorem tw2066624069546969174 : True := trivial
theorem tw11603870410270663373 : True := trivial
theorem tw5984511255706749833 : True := trivial
theorem tw4048866906731018538 : True := trivial
theorem tw3724291133761583040 : True := trivial
theorem tw16569935727716610092 : True := trivial
theorem tw10688593339112430694 : True := trivial
theorem tw13518808446990963395 : True := trivial
theorem tw15845322905729546475 : True := trivial
theorem tw6955844737260914618 : True := trivial
theorem tw17515877214422835182 : True := trivial
theorem tw11919518748665893794 : True := trivial
theorem tw5731083272272451035 : True := trivial
theorem tw15451076128467563829 : True := trivial
theorem tw1777937171476252239 : True := trivial
theorem tw2500835668885164644 : True := trivial
theorem tw9125498188421940419 : True := trivial
theorem tw15869828253055373530 : True := trivial
theorem tw2273913728105527738 : True := trivial
theorem tw14551215901383410216 : True := trivial
theorem tw12689373841424809853 : True := trivial
theorem tw1828732048411617559 : True := trivial
theorem tw15713007364570734127 : True := trivial
theorem tw11682897012113354859 : True := trivial
theorem tw14192560617689742726 : True := trivial
theorem tw12584501217897375244 : True := trivial
theorem tw15781653882313721139 : True := trivial
theorem tw915317946067069134 : True := trivial
theorem tw12058911013343104205 : True := trivial
theorem tw7770052143093905115 : True := trivial
theorem tw16442491857512449814 : True := trivial
theorem tw10466222807417197629 : True := trivial
theorem tw4820698062827977340 : True := trivial
theorem tw9934498677344268384 : True := trivial
theorem tw832141075323052923 : True := trivial
theorem tw7917648834454058817 : True := trivial
theorem tw8543811282284184414 : True := trivial
theorem tw1392682270352946051 : True := trivial
theorem tw16096179725983058816 : True := trivial
theorem tw4270994568282241939 : True := trivial
theorem tw2066094502088862217 : True := trivial
theorem tw14285340345915293853 : True := trivial
theorem tw10961380788516027037 : True := trivial
theorem tw15241972222081848123 : True := trivial
theorem tw2498270946336462948 : True := trivial
theorem tw5406667097444840235 : True := trivial
theorem tw15805903763354599021 : True := trivial
theorem tw8411492912746036115 : True := trivial
theorem tw1469685326372862575 : True := trivial
theorem tw6505310371430037627 : True := trivial
theorem tw3695813259846599682 : True := trivial
theorem tw16740653354525549567 : True := trivial
theorem tw10215967965932089657 : True := trivial
theorem tw16628841135810478387 : True := trivial
theorem tw10328651908154609204 : True := trivial
theorem tw4411503309175606398 : True := trivial
theorem tw2246373143190498850 : True := trivial
theorem tw4168164811435931465 : True := trivial
theorem tw9632721745108035449 : True := trivial
theorem tw3416475366319490372 : True := trivial
theorem tw7589333454948981011 : True := trivial
theorem tw11446791344706035909 : True := trivial
theorem tw15658291508142514563 : True := trivial
theorem tw11795968722744156650 : True := trivial
theorem tw5461044325185292549 : True := trivial
theorem tw2354986260332190368 : True := trivial
theorem tw2754432303067320470 : True := trivial
theorem tw17287859065756231917 : True := trivial
theorem tw1524107046753900090 : True := trivial
theorem tw8645369259587295385 : True := trivial
theorem tw12355939866154068119 : True := trivial
theorem tw12629902412064840248 : True := trivial
theorem tw13412321026437832934 : True := trivial
theorem tw12683658286926171014 : True := trivial
theorem tw13007997643263549254 : True := trivial
theorem tw4053390734236249102 : True := trivial
theorem tw6222487271316909010 : True := trivial
theorem tw5211845765366856057 : True := trivial
theorem tw7474033532194974904 : True := trivial
theorem tw14319455477981382161 : True := trivial
theorem tw2324829790758891858 : True := trivial
theorem tw6917610069591004273 : True := trivial
theorem tw13612421050599607672 : True := trivial
theorem tw575361109530951213 : True := trivial
theorem tw17604637287085552610 : True := trivial
theorem tw12365335593045106589 : True := trivial
theorem tw17461684337120780551 : True := trivial
theorem tw6203958687699686858 : True := trivial
theorem tw6601911305490804866 : True := trivial
theorem tw3696505485144761137 : True := trivial
theorem tw15397190697520942577 : True := trivial
theorem tw6579821456817829763 : True := trivial
theorem tw16859056630417704042 : True := trivial
theorem tw2124194029229079071 : True := trivial
theorem tw5424984618657829955 : True := trivial
theorem tw5052107832139190151 : True := trivial
theorem tw812979384234900196 : True := trivial
theorem tw47260812003903375 : True := trivial
theorem tw14633885347665246397 : True := trivial
theorem tw10011308902888611969 : True := trivial
theorem tw12624995931213798442 : True := trivial
theorem tw60369134360148368 : True := trivial
theorem tw13184916315644223970 : True := trivial
theorem tw11023951057224920927 : True := trivial
theorem tw17256160631598552111 : True := trivial
theorem tw2957980996484878272 : True := trivial
theorem tw13864875008083518236 : True := trivial
theorem tw10048583235282297697 : True := trivial
theorem tw2317421149332610965 : True := trivial
theorem tw16360354435019867515 : True := trivial
theorem tw7396761167591631341 : True := trivial
theorem tw5237742628502322040 : True := trivial
theorem tw12645499783599060850 : True := trivial
theorem tw4290950182466403339 : True := trivial
theorem tw3815413190657074043 : True := trivial
theorem tw3640705985039052234 : True := trivial
theorem tw13567469949228606301 : True := trivial
theorem tw7837590826268665328 : True := trivial
theorem tw15028656542127007028 : True := trivial
theorem tw11829064373147656268 : True := trivial
theorem tw14015704973792765494 : True := trivial
theorem tw10889924357217518728 : True := trivial
theorem tw7543899357503800322 : True := trivial
theorem tw3601582798280744495 : True := trivial
theorem tw5971432642901324712 : True := trivial
theorem tw6636423280372177358 : True := trivial
theorem tw10233741310016098651 : True := trivial
theorem tw9383010994550976155 : True := trivial
theorem tw17783272050996784108 : True := trivial
theorem tw10708197184530514665 : True := trivial
theorem tw835440835028233430 : True := trivial
theorem tw6284121643693207186 : True := trivial
theorem tw16602255631717829881 : True := trivial
theorem tw3643620020511862150 : True := trivial
theorem tw1088503322413977476 : True := trivial
theorem tw13666808785768177892 : True := trivial
theorem tw11212709842194745254 : True := trivial
theorem tw18394987988677482784 : True := trivial
theorem tw9098969291095718099 : True := trivial
theorem tw6732832836514601904 : True := trivial
theorem tw15807832869326608189 : True := trivial
theorem tw8237906620986759840 : True := trivial
theorem tw2247838075172890571 : True := trivial
theorem tw1711420561345868361 : True := trivial
theorem tw834521752645255062 : True := trivial
theorem tw2921807001167057990 : True := trivial
theorem tw298044123140547109 : True := trivial
theorem tw9786948698482316825 : True := trivial
theorem tw5500867567614590609 : True := trivial
theorem tw10211314311814268371 : True := trivial
theorem tw12597194781753373465 : True := trivial
theorem tw5602981928128588500 : True := trivial
theorem tw9034732938766972421 : True := trivial
theorem tw13774613382397565671 : True := trivial
theorem tw11186210060806079608 : True := trivial
theorem tw14966728557966544904 : True := trivial
theorem tw5742464662276797244 : True := trivial
theorem tw3011993840341273496 : True := trivial
theorem tw1903126844464253160 : True := trivial
theorem tw9214792634172240327 : True := trivial
theorem tw8291637949884095944 : True := trivial
theorem tw295687864667640630 : True := trivial
theorem tw15051436266204956407 : True := trivial
theorem tw8164200053554240946 : True := trivial
theorem tw3151759270513510310 : True := trivial
theorem tw9260997704327206787 : True := trivial
theorem tw11471391150559286401 : True := trivial
theorem tw17302165867905190821 : True := trivial
theorem tw11792598462595110125 : True := trivial
theorem tw3120748143432453068 : True := trivial
theorem tw6252648490473121089 : True := trivial
theorem tw7289504551800508495 : True := trivial
theorem tw5069835942510597947 : True := trivial
theorem tw13385477972907032569 : True := trivial
theorem tw14517647830581101545 : True := trivial
theorem tw13689213635293587615 : True := trivial
theorem tw5929574395911528584 : True := trivial
theorem tw7189229505082090474 : True := trivial
theorem tw11872252470985474304 : True := trivial
theorem tw1083585635940092469 : True := trivial
theorem tw3494347711973509879 : True := trivial
theorem tw12858008597620471682 : True := trivial
theorem tw11214237804722173042 : True := trivial
theorem tw4982103091409383979 : True := trivial
theorem tw549488396348431204 : True := trivial
theorem tw9145201363773796231 : True := trivial
theorem tw6133034086383367985 : True := trivial
theorem tw11272827833253115568 : True := trivial
theorem tw5013984369250966728 : True := trivial
theorem tw11029325010382031655 : True := trivial
theorem tw14600238092386383759 : True := trivial
theorem tw3682843642570351678 : True := trivial
theorem tw10869792573752915474 : True := trivial
theorem tw11958846599625439625 : True := trivial
theorem tw2110895282463012334 : True := trivial
theorem tw15093819321957745111 : True := trivial
theorem tw16564675573931261084 : True := trivial
theorem tw11306829053199039545 : True := trivial
theorem tw5208817206105345044 : True := trivial
theorem tw10992725351810105734 : True := trivial
theorem tw12197913681981117496 : True := trivial
theorem tw13470570029066519941 : True := trivial
theorem tw6975354939567143142 : True := trivial
theorem tw15820530576642595893 : True := trivial
theorem tw1613688883495529274 : True := trivial
theorem tw9414899711065164351 : True := trivial
theorem tw7234407637049784280 : True := trivial
theorem tw637404679308216598 : True := trivial
theorem tw3297363926676678579 : True := trivial
theorem tw289847660614478458 : True := trivial
theorem tw17942673031794126883 : True := trivial
theorem tw12343361137633381039 : True := trivial
theorem tw11316988873159761465 : True := trivial
theorem tw10708532052669832160 : True := trivial
theorem tw5439402843344189111 : True := trivial
theorem tw1523443323186072475 : True := trivial
theorem tw10812645630213304446 : True := trivial
theorem tw17795241381401279052 : True := trivial
theorem tw10534836643961073093 : True := trivial
theorem tw9464711607303094000 : True := trivial
theorem tw1217684513510304228 : True := trivial
theorem tw3939511683231581569 : True := trivial
theorem tw12214179700700805377 : True := trivial
theorem tw4117297808845000413 : True := trivial
theorem tw16498935249487721606 : True := trivial
theorem tw13444363543098114313 : True := trivial
theorem tw8112114288472737286 : True := trivial
theorem tw13944848844028967184 : True := trivial
theorem tw3076350293551708218 : True := trivial
theorem tw11026199129218776979 : True := trivial
theorem tw11592049633527305819 : True := trivial
theorem tw12355720646599278921 : True := trivial
theorem tw15480147652179456234 : True := trivial
theorem tw3805128165021910748 : True := trivial
theorem tw1832331414103263873 : True := trivial
theorem tw5484738866682849412 : True := trivial
theorem tw12823332406793788197 : True := trivial
theorem tw6748841942102957483 : True := trivial
theorem tw17287385523327954551 : True := trivial
theorem tw10820587973557455277 : True := trivial
theorem tw17774371434274419150 : True := trivial
theorem tw12794566853129186953 : True := trivial
theorem tw7921455381097922958 : True := trivial
theorem tw13590842665457710628 : True := trivial
theorem tw8984110607339691876 : True := trivial
theorem tw2674533584777637098 : True := trivial
theorem tw1335678799075487767 : True := trivial
theorem tw7600495581477202394 : True := trivial
theorem tw15245039629436956381 : True := trivial
theorem tw11045259806506791852 : True := trivial
theorem tw17373989767750086961 : True := trivial
theorem tw14196144895369055101 : True := trivial
theorem tw6370319027886130611 : True := trivial
theorem tw15245583614052349853 : True := trivial
theorem tw8593621454343025630 : True := trivial
theorem tw537340594022059478 : True := trivial
theorem tw18252979792407251262 : True := trivial
theorem tw13825892371049556304 : True := trivial
theorem tw8395475043024062852 : True := trivial
theorem tw6453288881566384361 : True := trivial
theorem tw13409917631412430623 : True := trivial
theorem tw7066250442104406777 : True := trivial
theorem tw5411773420583486622 : True := trivial
theorem tw7523704662908963891 : True := trivial
theorem tw17340587106081386296 : True := trivial
theorem tw11952647384539411571 : True := trivial
theorem tw9492981641760082346 : True := trivial
theorem tw11323119446354151258 : True := trivial
theorem tw715578365120547235 : True := trivial
theorem tw6202416112963186827 : True := trivial
theorem tw10003891374113296524 : True := trivial
theorem tw6190969782382185674 : True := trivial
theorem tw10988924741061958690 : True := trivial
theorem tw4686751121898383431 : True := trivial
theorem tw18093248169816021860 : True := trivial
theorem tw15382404399010809926 : True := trivial
theorem tw6102043304680965562 : True := trivial
theorem tw1377055578886267119 : True := trivial
theorem tw10680979116331742221 : True := trivial
theorem tw4349117318772512241 : True := trivial
theorem tw2352880269191699839 : True := trivial
theorem tw3696161928551708582 : True := trivial
theorem tw1340613055416465357 : True := trivial
theorem tw4498682091431873775 : True := trivial
theorem tw15444145049043937662 : True := trivial
theorem tw6341458783682384439 : True := trivial
theorem tw9743720448104740000 : True := trivial
theorem tw5165010489031789944 : True := trivial
theorem tw11745022294611340509 : True := trivial
theorem tw2001346108261656748 : True := trivial
theorem tw4599731334000149759 : True := trivial
theorem tw17402525379342512284 : True := trivial
theorem tw16358783141282992426 : True := trivial
theorem tw10910236049706663076 : True := trivial
theorem tw7273406615038283346 : True := trivial
theorem tw5657084065801716985 : True := trivial
theorem tw15017270300675494379 : True := trivial
theorem tw13890339742350222786 : True := trivial
theorem tw2876628751009987101 : True := trivial
theorem tw10026839694114379740 : True := trivial
theorem tw9347141720643942042 : True := trivial
theorem tw17498441008734084760 : True := trivial
theorem tw15246621772387100842 : True := trivial
theorem tw10142713573335287664 : True := trivial
theorem tw12920562543323810869 : True := trivial
theorem tw7032711315542536433 : True := trivial
theorem tw6160809673653906839 : True := trivial
theorem tw5639303055894778114 : True := trivial
theorem tw2326392436646508965 : True := trivial
theorem tw8732930976212298579 : True := trivial
theorem tw788680648006996285 : True := trivial
theorem tw7606868010233909670 : True := trivial
theorem tw17772621973444308639 : True := trivial
theorem tw9509268697123916633 : True := trivial
theorem tw13494202025078157014 : True := trivial
theorem tw17346821544654622533 : True := trivial
theorem tw1960972948279181978 : True := trivial
theorem tw7745491368954958598 : True := trivial
theorem tw6210413527289915677 : True := trivial
theorem tw15576762758071401460 : True := trivial
theorem tw13947347695795081062 : True := trivial
theorem tw10913280645832050473 : True := trivial
theorem tw13447042635165762174 : True := trivial
theorem tw17150166527487560991 : True := trivial
theorem tw6353595563711267209 : True := trivial
theorem tw10583190015275988002 : True := trivial
theorem tw3599373987714611783 : True := trivial
theorem tw17076116351484426346 : True := trivial
theorem tw10785959933189654423 : True := trivial
theorem tw11431166253900734276 : True := trivial
theorem tw4979447054393204487 : True := trivial
theorem tw16883457096269365422 : True := trivial
theorem tw7999794797545205605 : True := trivial
theorem tw18434172791410671395 : True := trivial
theorem tw1272928744871316818 : True := trivial
theorem tw16954962873779134188 : True := trivial
theorem tw7151600404235282471 : True := trivial
theorem tw1629946578731411488 : True := trivial
theorem tw11136582056444788665 : True := trivial
theorem tw13574942548063344855 : True := trivial
theorem tw10474469548614883269 : True := trivial
theorem tw2510509152150301933 : True := trivial
theorem tw8716423980293052446 : True := trivial
theorem tw15806318164556635928 : True := trivial
theorem tw255878154369038103 : True := trivial
theorem tw9453001967356249961 : True := trivial
theorem tw12421227170970948737 : True := trivial
theorem tw14183904693012560346 : True := trivial
theorem tw11670492897587111964 : True := trivial
theorem tw5762902614604337796 : True := trivial
theorem tw14988800757026413566 : True := trivial
theorem tw322651229130840905 : True := trivial
theorem tw4621656996839892831 : True := trivial
theorem tw6522721379416429445 : True := trivial
theorem tw199042324093797382 : True := trivial
theorem tw6017222254253665869 : True := trivial
theorem tw15911867551709107221 : True := trivial
theorem tw11553593990720193255 : True := trivial
theorem tw6774858754264308694 : True := trivial
theorem tw3909790720122759268 : True := trivial
theorem tw5697875696559938181 : True := trivial
theorem tw15852461706509486467 : True := trivial
theorem tw14231437515964488866 : True := trivial
theorem tw3920013044426998082 : True := trivial
theorem tw13406281243757393599 : True := trivial
theorem tw11976025195444731249 : True := trivial
theorem tw10789035483180819964 : True := trivial
theorem tw3358117243806257934 : True := trivial
theorem tw17987822582847684270 : True := trivial
theorem tw4043597640475942826 : True := trivial
theorem tw12332619922482782246 : True := trivial
theorem tw4530191193471052497 : True := trivial
theorem tw16473792764978298907 : True := trivial
theorem tw11543566808441988264 : True := trivial
theorem tw4356664871039853559 : True := trivial
theorem tw36851044974902821 : True := trivial
theorem tw3620203946518738745 : True := trivial
theorem tw9842727291242110312 : True := trivial
theorem tw11900607588347431357 : True := trivial
theorem tw11926073745948561357 : True := trivial
theorem tw17554221998847070189 : True := trivial
theorem tw12874024815051306157 : True := trivial
theorem tw4476423978211628332 : True := trivial
theorem tw17115904512082870257 : True := trivial
theorem tw15723532747481514162 : True := trivial
theorem tw15191576379127185550 : True := trivial
theorem tw8346790926470617119 : True := trivial
theorem tw18419858534276155299 : True := trivial
theorem tw13183294908654238501 : True := trivial
theorem tw4161552918322224464 : True := trivial
theorem tw12553501009482521621 : True := trivial
theorem tw15735770030479653580 : True := trivial
theorem tw12948925476983563610 : True := trivial
theorem tw11292349620702223936 : True := trivial
theorem tw6638247809115632679 : True := trivial
theorem tw2957776686140707888 : True := trivial
theorem tw10024136235334614525 : True := trivial
theorem tw4100424995353973157 : True := trivial
theorem tw10904863349243373897 : True := trivial
theorem tw2020375716756868875 : True := trivial
theorem tw9125685971648665789 : True := trivial
theorem tw1867965998668865667 : True := trivial
theorem tw14034807285749236371 : True := trivial
theorem tw17319053043249365484 : True := trivial
theorem tw11341386241785635492 : True := trivial
theorem tw8820830896526940043 : True := trivial
theorem tw6435163685886261131 : True := trivial
theorem tw4752710136117871239 : True := trivial
theorem tw8870228758284433985 : True := trivial
theorem tw14859012033668638921 : True := trivial
theorem tw4080316292242042344 : True := trivial
theorem tw8604949314400563209 : True := trivial
theorem tw16358587833939327331 : True := trivial
theorem tw7456412950188083401 : True := trivial
theorem tw197609834366344613 : True := trivial
theorem tw18165403822727361394 : True := trivial
theorem tw18320496017070253423 : True := trivial
theorem tw182165688777355997 : True := trivial
theorem tw13677730829885571445 : True := trivial
theorem tw15465364748599836183 : True := trivial
theorem tw13209731738575582675 : True := trivial
theorem tw6847133620607197688 : True := trivial
theorem tw15249176201342980476 : True := trivial
theorem tw16872319454400487633 : True := trivial
theorem tw16353977574649639859 : True := trivial
theorem tw17153960171693267047 : True := trivial
theorem tw3700052639477700828 : True := trivial
theorem tw16601382693009094106 : True := trivial
end PySem.W.Fast
open PySem PySem.W PyProof.Rows
set_option maxRecDepth 100000 in
set_option maxHeartbeats 0 in
theorem PySem.Challenge.cw_trickproof_k09_no_table_holds : PySem.Challenge.rw_trickproof_k09_no_table.Holds := by
  w_on; o_law; k_head; (case hw => w_witness2)
  k_fill
  refine My.walk (l := PySem.Challenge.rw_trickproof_k09_no_table) rfl rfl (fun w h Y => PySem.W.kIn_of Y) ?F
  case F =>
    intro w mg fa h KX G hmg
    refine' My.all_mk KX G hmg ?a1 ?l1 ?c1 ?k1 ?a2 ?l2 ?c2 ?k2 ?a3 ?l3 ?c3 ?k3 ?a4 ?l4 ?c4 ?k4 ?a5 ?l5 ?c5 ?k5 ?a6 ?l6 ?c6 ?k6 ?a7 ?l7 ?c7 ?k7 ?a8 ?l8 ?c8 ?k8 ?a9 ?l9 ?c9 ?k9 ?a10 ?l10 ?c10 ?k10 ?a11 ?l11 ?c11 ?k11 ?a12 ?l12 ?c12 ?k12 ?a13 ?l13 ?c13 ?k13 ?a14 ?l14 ?c14 ?k14 ?a15 ?l15 ?c15 ?k15 ?a_F ?l_F ?c_F ?k_F ?i_F ?a_L ?l_L ?c_L ?k_L ?i_L ?a_C ?l_C ?c_C ?k_C ?i_C ?a_B ?l_B ?c_B ?k_B ?i_B ?a_I ?l_I ?c_I ?k_I ?i_I ?a_X ?l_X ?c_X ?k_X ?i_X ?g1 ?g2 ?z1 ?z2 ?z3 ?z4 ?z5 ?z6 ?z7 ?z8 ?z9 ?hCE ?hCN ?he0 ?he1 ?he2 ?he3 ?he4 ?he5 ?he6 ?he7 ?he8 ?he9 ?he10 ?he11 ?he12 ?he13 ?he14 ?hCF ?hCL ?hCC ?hCB ?hCT ?x1 ?x2 ?y1 ?y2 ?y3 ?y4 ?y5 ?y6 ?y7 ?y8 ?j1 ?j2 ?ke0 ?ke1 ?ke2 ?ke3 ?ke4 ?ke5 ?ke6 ?ke7 ?ke8 ?ke9 ?ke10 ?ke11 ?ke12 ?ke13 ?ke14 ?pgCF ?hdCF ?poCF ?saCF ?mkCF ?kcCF ?oiCF ?pgCL ?hdCL ?poCL ?saCL ?mkCL ?kcCL ?oiCL ?pgCC ?hdCC ?poCC ?saCC ?mkCC ?kcCC ?oiCC ?pgCB ?hdCB ?poCB ?saCB ?mkCB ?kcCB ?oiCB ?pgCT ?hdCT ?poCT ?saCT ?mkCT ?kcCT ?nTS ?nTH ?nTN ?nTD ?nTP ?nTT ?nTW ?w1 ?w2
    (case hCE => k_is)
    (case hCN => k_is)
    (case he0 => k_is)
    (case he1 => k_is)
    (case he2 => k_is)
    (case he3 => k_is)
    (case he4 => k_is)
    (case he5 => k_is)
    (case he6 => k_is)
    (case he7 => k_is)
    (case he8 => k_is)
    (case he9 => k_is)
    (case he10 => k_is)
    (case he11 => k_is)
    (case he12 => k_is)
    (case he13 => k_is)
    (case he14 => k_is)
    (case hCF => k_is)
    (case hCL => k_is)
    (case hCC => k_is)
    (case hCB => k_is)
    (case hCT => k_is)
    (case w1 => k_is)
    (case a1 => k_is)
    (case l1 => k_is)
    (case c1 => k_is)
    (case k1 => k_is)
    (case a2 => k_is)
    (case l2 => k_is)
    (case c2 => k_is)
    (case k2 => k_is)
    (case a3 => k_is)
    (case l3 => k_is)
    (case c3 => k_is)
    (case k3 => k_is)
    (case a4 => k_is)
    (case l4 => k_is)
    (case c4 => k_is)
    (case k4 => k_is)
    (case a5 => k_is)
    (case l5 => k_is)
    (case c5 => k_is)
    (case k5 => k_is)
    (case a6 => k_is)
    (case l6 => k_is)
    (case c6 => k_is)
    (case k6 => k_is)
    (case a7 => k_is)
    (case l7 => k_is)
    (case c7 => k_is)
    (case k7 => k_is)
    (case a8 => k_is)
    (case l8 => k_is)
    (case c8 => k_is)
    (case k8 => k_is)
    (case a9 => k_is)
    (case l9 => k_is)
    (case c9 => k_is)
    (case k9 => k_is)
    (case a10 => k_is)
    (case l10 => k_is)
    (case c10 => k_is)
    (case k10 => k_is)
    (case a11 => k_is)
    (case l11 => k_is)
    (case c11 => k_is)
    (case k11 => k_is)
    (case a12 => k_is)
    (case l12 => k_is)
    (case c12 => k_is)
    (case k12 => k_is)
    (case a13 => k_is)
    (case l13 => k_is)
    (case c13 => k_is)
    (case k13 => k_is)
    (case a14 => k_is)
    (case l14 => k_is)
    (case c14 => k_is)
    (case k14 => k_is)
    (case a15 => k_is)
    (case l15 => k_is)
    (case c15 => k_is)
    (case k15 => k_is)
    (case a_F => k_is)
    (case l_F => k_is)
    (case c_F => k_is)
    (case k_F => k_is)
    (case i_F => k_is)
    (case a_L => k_is)
    (case l_L => k_is)
    (case c_L => k_is)
    (case k_L => k_is)
    (case i_L => k_is)
    (case a_C => k_is)
    (case l_C => k_is)
    (case c_C => k_is)
    (case k_C => k_is)
    (case i_C => k_is)
    (case a_B => k_is)
    (case l_B => k_is)
    (case c_B => k_is)
    (case k_B => k_is)
    (case i_B => k_is)
    (case a_I => k_is)
    (case l_I => k_is)
    (case c_I => k_is)
    (case k_I => k_is)
    (case i_I => k_is)
    (case a_X => k_is)
    (case l_X => k_is)
    (case c_X => k_is)
    (case k_X => k_is)
    (case i_X => k_is)
    (case g1 => k_is)
    (case g2 => k_is)
    (case z1 => k_is)
    (case z2 => k_is)
    (case z3 => k_is)
    (case z4 => k_is)
    (case z5 => k_is)
    (case z6 => k_is)
    (case z7 => k_is)
    (case z8 => k_is)
    (case z9 => k_is)
    (case x1 => k_exc)
    (case x2 => kts_exm)
    (case y1 => k_is)
    (case y2 => k_is)
    (case y3 => k_is)
    (case y4 => k_is)
    (case y5 => k_is)
    (case y6 => k_is)
    (case y7 => k_is)
    (case y8 => k_is)
    (case j1 => kit_is)
    (case j2 => kit_is)
    (case ke0 => kit_is)
    (case ke1 => kit_is)
    (case ke2 => kit_is)
    (case ke3 => kit_is)
    (case ke4 => kit_is)
    (case ke5 => kit_is)
    (case ke6 => kit_is)
    (case ke7 => kit_is)
    (case ke8 => kit_is)
    (case ke9 => kit_is)
    (case ke10 => kit_is)
    (case ke11 => kit_is)
    (case ke12 => kit_is)
    (case ke13 => kit_is)
    (case ke14 => kit_is)
    (case pgCF => k_is)
    (case hdCF => k_is)
    (case poCF => k_is)
    (case saCF => k_is)
    (case mkCF => k_is)
    (case kcCF => k_is)
    (case oiCF => k_is)
    (case pgCL => k_is)
    (case hdCL => k_is)
    (case poCL => k_is)
    (case saCL => k_is)
    (case mkCL => k_is)
    (case kcCL => k_is)
    (case oiCL => k_is)
    (case pgCC => k_is)
    (case hdCC => k_is)
    (case poCC => k_is)
    (case saCC => k_is)
    (case mkCC => k_is)
    (case kcCC => k_is)
    (case oiCC => k_is)
    (case pgCB => k_is)
    (case hdCB => k_is)
    (case poCB => k_is)
    (case saCB => k_is)
    (case mkCB => k_is)
    (case kcCB => k_is)
    (case oiCB => k_is)
    (case pgCT => k_is)
    (case hdCT => k_is)
    (case poCT => k_is)
    (case saCT => k_is)
    (case mkCT => k_is)
    (case kcCT => k_is)
    (case nTS => k_is)
    (case nTH => k_is)
    (case nTN => k_is)
    (case nTD => k_is)
    (case nTP => k_is)
    (case nTT => k_is)
    (case nTW => k_is)
    (case w2 => k_is)
#print axioms PySem.Challenge.cw_trickproof_k09_no_table_holds

