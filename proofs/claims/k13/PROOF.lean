import PyProof.Rows.All
import Wide.All
import OpenK.AllK
import Wide.FinOn
import Lean
import PyProof.EqAt
import PyProof.EqKinds
import PyProof.TupleCall
import PyProof.NeKinds
import PyProof.ListStr
import PyProof.Rows.SortStr
import KE.KIntText
import PySem.Challenge.RW_trickproof_k13_whole_duties_one_in_anoth
set_option Elab.async false
set_option linter.all false
set_option maxRecDepth 100000
/-! THE HAND LAYER, for ints, bools, texts, own classes, LISTS and tuples (index, slices, in, append, pop ..), calls, loops. Paste it whole ahead of your own text; what your proof does not reach may be deleted. -/
namespace L2
open PySem PySem.Spec PyProof.Rows

/-- a key: an int or a str -/
abbrev Key := Sum Int Str
def keyIs : Key → Value → Bool
  | .inl k, v => Value.isInt k v
  | .inr x, v => Value.isStrOf x v
def keyH (w : World) : Key → Int
  | .inl k => hashInt k
  | .inr x => hashStr w x
theorem keyIs_shape : ∀ {k : Key} {v : Value}, keyIs k v = true → (∃ i t, k = Sum.inl i ∧ v = Value.int i t) ∨ (∃ x t, k = Sum.inr x ∧ v = Value.str x t)
  | .inl i, v, h => by
    obtain ⟨t, e⟩ := Value.isInt_shape (k := i) (v := v) h
    exact .inl ⟨i, t, rfl, e⟩
  | .inr x, v, h => by
    obtain ⟨t, e⟩ := Value.isStrOf_shape (x := x) (v := v) h
    exact .inr ⟨x, t, rfl, e⟩
theorem keyIs_int (i : Int) (t : Tok) : keyIs (.inl i) (.int i t) = true := by simp [keyIs, Value.isInt]
theorem keyIs_str (x : Str) (t : Tok) : keyIs (.inr x) (.str x t) = true := by simp [keyIs, Value.isStrOf]
theorem key_ll (a b : Int) : decide ((Sum.inl a : Key) = Sum.inl b) = (a == b) := by
  by_cases e : a = b
  · subst e; simp
  · have h : ¬ (Sum.inl a : Key) = Sum.inl b := fun q => e (Sum.inl.inj q)
    rw [decide_eq_false h]
    exact (beq_eq_false_iff_ne.mpr e).symm
theorem key_rr (a b : Str) : decide ((Sum.inr a : Key) = Sum.inr b) = decide (a = b) := by
  by_cases e : a = b
  · subst e; simp
  · have h : ¬ (Sum.inr a : Key) = Sum.inr b := fun q => e (Sum.inr.inj q)
    rw [decide_eq_false h, decide_eq_false e]
theorem key_lr (a : Int) (b : Str) : decide ((Sum.inl a : Key) = Sum.inr b) = false := decide_eq_false (fun q => nomatch q)
theorem key_rl (a : Str) (b : Int) : decide ((Sum.inr a : Key) = Sum.inl b) = false := decide_eq_false (fun q => nomatch q)

def mixKind (prog : Program) (w : World) : PySem.KeyKind prog w Key where
  is := keyIs
  hash := keyH w
  inj := fun v a b ha hb => by
    rcases keyIs_shape ha with ⟨i, t, rfl, rfl⟩ | ⟨x, t, rfl, rfl⟩
    · rcases keyIs_shape hb with ⟨j, u, rfl, e⟩ | ⟨y, u, rfl, e⟩
      · injection e with e1 _; rw [e1]
      · exact nomatch e
    · rcases keyIs_shape hb with ⟨j, u, rfl, e⟩ | ⟨y, u, rfl, e⟩
      · exact nomatch e
      · injection e with e1 _; rw [e1]
  byValue := fun k v h => by
    rcases keyIs_shape h with ⟨i, t, rfl, rfl⟩ | ⟨x, t, rfl, rfl⟩ <;> rfl
  pyHash := fun hv h => by
    rcases keyIs_shape hv with ⟨i, t, rfl, rfl⟩ | ⟨x, t, rfl, rfl⟩
    · exact wpAny_pyHash_int h
    · exact wpAny_pyHash_str h
  eqBool := fun hu hv h => by
    rcases keyIs_shape hu with ⟨i, t, rfl, rfl⟩ | ⟨x, t, rfl, rfl⟩
    · rcases keyIs_shape hv with ⟨j, u, rfl, rfl⟩ | ⟨y, u, rfl, rfl⟩
      · rw [key_ll] at h; exact wpAny_eqBool_int h
      · rw [key_lr] at h; exact SeqAt.EqAt.int_str i t y u _ _ _ _ h
    · rcases keyIs_shape hv with ⟨j, u, rfl, rfl⟩ | ⟨y, u, rfl, rfl⟩
      · rw [key_rl] at h; exact SeqAt.EqAt.str_int x t j u _ _ _ _ h
      · rw [key_rr] at h; exact wpAny_eqBool_str h
  «strs» := fun k x t v h => by
    rcases keyIs_shape h with ⟨i, u, rfl, e⟩ | ⟨y, u, rfl, e⟩
    · exact nomatch e
    · injection e with e1 _
      subst e1
      cases v <;> rfl

theorem mixKind_int (prog : Program) (w : World) (i : Int) (t : Tok) : (mixKind prog w).is (.inl i) (.int i t) = true := keyIs_int i t
theorem mixKind_str (prog : Program) (w : World) (x : Str) (t : Tok) : (mixKind prog w).is (.inr x) (.str x t) = true := keyIs_str x t
end L2

namespace L2
open PySem PySem.Spec PyProof.Rows

/-- a value, without the heap -/
inductive V where
  | non | bl (b : Bool) | int (i : Int) | str (x : Str) | byt (b : Array UInt8) | flt (b : UInt64) | ref (a : Addr) | ty (n : String)
  deriving DecidableEq

def RelV : V → Value → Prop
  | .non, u => u = Value.none
  | .bl b, u => u = Value.bool b
  | .int i, u => ∃ t, u = Value.int i t
  | .str x, u => ∃ t, u = Value.str x t
  | .byt b, u => ∃ t, u = Value.bytes b t
  | .flt b, u => ∃ t, u = Value.float b t
  | .ref a, u => u = Value.ref a
  | .ty n, u => u = Value.type n

abbrev Vals : List V → List Value → Prop := Paired RelV
theorem Vals.length {xs : List V} {us : List Value} (r : Vals xs us) : xs.length = us.length := Paired.length r
theorem Vals.get : ∀ {xs : List V} {us : List Value} {i : Nat} {x : V}, Vals xs us → xs[i]? = some x → ∃ u, us[i]? = some u ∧ RelV x u
  | _, _, _, _, .nil, e => by simp at e
  | _, _, 0, _, .cons r _, e => by simp at e; subst e; exact ⟨_, rfl, r⟩
  | _, _, i + 1, x, .cons _ t, e => by
    obtain ⟨u, h1, h2⟩ := Vals.get (i := i) (x := x) t (by simpa using e)
    exact ⟨u, by simpa using h1, h2⟩
theorem Vals.set {x : V} {u : Value} (r : RelV x u) : ∀ {xs : List V} {us : List Value} (i : Nat), Vals xs us → Vals (xs.set i x) (us.set i u)
  | _, _, _, .nil => .nil
  | _, _, 0, .cons _ t => .cons r t
  | _, _, i + 1, .cons q t => .cons q (Vals.set r i t)
theorem Vals.append : ∀ {xs ys : List V} {us ws : List Value}, Vals xs us → Vals ys ws → Vals (xs ++ ys) (us ++ ws)
  | _, _, _, _, .nil, s => s
  | _, _, _, _, .cons r t, s => .cons r (Vals.append t s)
def RelO : Option V → Option Value → Prop
  | some v, some u => RelV v u
  | none, none => True
  | _, _ => False
def KV {κ : Type} : List (κ × V) → List (κ × Value) → Prop := Paired fun (p : κ × V) (q : κ × Value) => p.1 = q.1 ∧ RelV p.2 q.2

/-- a key of a dict (00_mix): an int or a text -/
def kV : Key → V
  | .inl i => .int i
  | .inr x => .str x

/-- what stands at a tracked address -/
inductive HO where
  /-- a list -/
  | lst (xs : List V)
  /-- a tuple (never changes) -/
  | tup (xs : List V)
  /-- a dict whose keys are ints and texts; one whose keys are tuples of ints and texts (the empty one is both) -/
  | dK (kvs : List (Key × V)) | dT (kvs : List (List Key × V))
  /-- a set of ints: its members, its size -/
  | set (S : Int → Bool) (n : Nat)
  /-- an instance of the class at C, its dict at dx, its attributes -/
  | ins (C dx : Addr) (fs : List (Str × V))
  /-- the dict of the instance at x -/
  | own (x : Addr)
  /-- the dict of an exception -/
  | xd (fs : List (Str × V))
  /-- a bound method, f of x -/
  | met (f x : Addr)
  /-- a range object lo, lo + 1, .. below hi -/
  | rng (lo hi : Int)
  /-- a thing that is known to the object (the script; a dict while a loop walks it): read, never written while it is so -/
  | frz (o : Obj) (u : HO)
  /-- a code object's table -/
  | tbl (ps : Array Value)
  /-- any other thing, by what is true of its one object (a def of one's own: SetO a S n := HO.ext fun h => ..) -/
  | ext (φ : Heap → Prop)

abbrev Hp := Addr → Option HO
def upd (H : Hp) (a : Addr) (o : HO) : Hp := fun b => if b = a then some o else H b
theorem upd_same {H : Hp} {a : Addr} {o : HO} : upd H a o a = some o := by unfold upd; rw [if_pos rfl]
theorem upd_ne {H : Hp} {a b : Addr} {o : HO} (h : b ≠ a) : upd H a o b = H b := by unfold upd; rw [if_neg h]
theorem upd_upd {H : Hp} {a : Addr} {o u : HO} : upd (upd H a o) a u = upd H a u := by
  funext b; unfold upd; split <;> rfl
/-- two objects of different content stand apart -/
theorem ne_of {H : Hp} {a b : Addr} {o u : HO} (h : H a = some o) (h' : H b = some u) (d : o ≠ u) : a ≠ b := by
  intro e; subst e; rw [h] at h'; exact d (Option.some.inj h')
theorem ne_of_none {H : Hp} {a b : Addr} {o : HO} (h : H a = some o) (h' : H b = none) : a ≠ b := by
  intro e; subst e; rw [h] at h'; cases h'

section
variable (P : Program) (w : World)
def ObjOk (H : Hp) (h : Heap) (a : Addr) : HO → Prop
  | .lst xs => xs.length ≤ sizeLine ∧ ∃ (its : List Value) (n : Nat), Vals xs its ∧ h.get? a = some { cls := .type "list", data := .seq its.toArray n }
  | .tup xs => xs.length ≤ sizeLine ∧ ∃ its : List Value, Vals xs its ∧ IsTup h a its.toArray
  | .dK kvs => kvs.length ≤ sizeLine ∧ (a == sysModules) = false ∧ ∃ vs, KV kvs vs ∧ h.DictOf (mixKind P w) a vs
  | .dT kvs => kvs.length ≤ sizeLine ∧ (a == sysModules) = false ∧ ∃ xs : List (List Key × Addr × Value),
      Paired (fun (p : List Key × V) (q : List Key × Addr × Value) => p.1 = q.1 ∧ H q.2.1 = some (.tup (p.1.map kV)) ∧ RelV p.2 q.2.2) kvs xs ∧
      ∃ o es ep, h.get? a = some o ∧ o.ExactDict ∧ o.data = .dict es ep ∧ es.toList = xs.map (entryOfKey (tupleKind (mixKind P w))) ∧ (xs.map (·.1)).Nodup
  | .set S n => h.SetOf (intKind P w) a S n
  | .ins C dx fs => H dx = some (.own a) ∧ fs.length ≤ 1000 ∧ dx ≠ a ∧ h.get? a = some (PySem.W.instObj C dx) ∧
      ∃ mA, h.Ns1 dx mA ∧ (∀ f, RelO (fs.lookup f) (mA f)) ∧ PySem.Within mA (fs.map (·.1))
  | .own _ => ∃ o, h.get? a = some o
  | .xd fs => ∃ mA, h.Ns1 a mA ∧ ∀ f, RelO (fs.lookup f) (mA f)
  | .rng lo hi => ∃ t u v, h.get? a = some { cls := .type "range", data := .fields #[.int lo t, .int hi u, .int 1 v] }
  | .frz o u => h.get? a = some o ∧ ObjOk H h a u
  | .tbl ps => h.get? a = some { cls := .none, data := .fields ps }
  | .met f x => h.get? a = some (PySem.W.methodObj (.ref f) (.ref x))
  | .ext φ => φ h ∧ (∃ o, h.get? a = some o) ∧ ∀ h1 h2 : Heap, φ h1 → (∀ o, h1.get? a = some o → h2.get? a = some o) → φ h2
/-- the abstract heap is held -/
def HOk (H : Hp) (h : Heap) : Prop := ∀ a o, H a = some o → ObjOk P w H h a o
end

section
variable {P : Program} {w : World} {H H' : Hp} {h h' : Heap} {a : Addr} {o : HO}
theorem ObjOk.lt (x : ObjOk P w H h a o) : a < h.objs.size := by
  cases o with
  | lst xs => obtain ⟨_, _, _, _, e⟩ := x; exact Heap.lt_size e
  | tup xs => obtain ⟨_, _, _, p⟩ := x; exact p.lt
  | dK kvs => obtain ⟨_, _, _, _, o, _, _, e, _⟩ := x; exact Heap.lt_size e
  | dT kvs => obtain ⟨_, _, _, _, o, _, _, e, _⟩ := x; exact Heap.lt_size e
  | set S n => obtain ⟨o, _, _, _, e, _⟩ := x; exact Heap.lt_size e
  | ins C dx fs => obtain ⟨_, _, _, e, _⟩ := x; exact Heap.lt_size e
  | own y => obtain ⟨_, e⟩ := x; exact Heap.lt_size e
  | xd fs => obtain ⟨_, ⟨_, _, _, e, _⟩, _⟩ := x; exact Heap.lt_size e
  | rng lo hi => obtain ⟨_, _, _, e⟩ := x; exact Heap.lt_size e
  | frz ob u => obtain ⟨e, _⟩ := x; exact Heap.lt_size e
  | tbl ps => exact Heap.lt_size (show h.get? a = some _ from x)
  | met f y => exact Heap.lt_size (show h.get? a = some _ from x)
  | ext φ => obtain ⟨_, ⟨_, e⟩, _⟩ := x; exact Heap.lt_size e
theorem Paired.mapP {α β : Type} {F G : α → β → Prop} : ∀ {l₁ : List α} {l₂ : List β}, Paired F l₁ l₂ → (∀ a b, F a b → G a b) → Paired G l₁ l₂
  | _, _, .nil, _ => .nil
  | _, _, .cons r t, f => .cons (f _ _ r) (Paired.mapP t f)
/-- what an object's description leans on: its own object, its own dict, the tuples -/
theorem ObjOk.stay (x : ObjOk P w H h a o) (k : ∀ b u, (b = a ∨ H b = some (.own a)) → h.get? b = some u → h'.get? b = some u)
    (ho : ∀ b, H b = some (.own a) → H' b = some (.own a)) (ht : ∀ b xs, H b = some (.tup xs) → H' b = some (.tup xs)) : ObjOk P w H' h' a o := by
  induction o with
  | lst xs => obtain ⟨z, its, n, r, e⟩ := x; exact ⟨z, its, n, r, k _ _ (.inl rfl) e⟩
  | tup xs => obtain ⟨z, its, r, ob, e, c⟩ := x; exact ⟨z, its, r, ob, k _ _ (.inl rfl) e, c⟩
  | dK kvs => obtain ⟨z, y, vs, r, ob, es, ep, e, c⟩ := x; exact ⟨z, y, vs, r, ob, es, ep, k _ _ (.inl rfl) e, c⟩
  | dT kvs =>
    obtain ⟨z, y, xs, r, ob, es, ep, e, c⟩ := x
    exact ⟨z, y, xs, Paired.mapP r fun p q z => ⟨z.1, ht _ _ z.2.1, z.2.2⟩, ob, es, ep, k _ _ (.inl rfl) e, c⟩
  | set S n => obtain ⟨ob, es, ep, t, e, c⟩ := x; exact ⟨ob, es, ep, t, k _ _ (.inl rfl) e, c⟩
  | ins C dx fs =>
    obtain ⟨d, z, ne, e, mA, ⟨od, es, ep, e2, c⟩, r⟩ := x
    exact ⟨ho _ d, z, ne, k _ _ (.inl rfl) e, mA, ⟨od, es, ep, k _ _ (.inr d) e2, c⟩, r⟩
  | own y => obtain ⟨ob, e⟩ := x; exact ⟨ob, k _ _ (.inl rfl) e⟩
  | xd fs => obtain ⟨mA, ⟨od, es, ep, e, c⟩, r⟩ := x; exact ⟨mA, ⟨od, es, ep, k _ _ (.inl rfl) e, c⟩, r⟩
  | rng lo hi => obtain ⟨t, u, v, e⟩ := x; exact ⟨t, u, v, k _ _ (.inl rfl) e⟩
  | frz ob u ih => obtain ⟨e, q⟩ := x; exact ⟨k _ _ (.inl rfl) e, ih q⟩
  | tbl ps =>
    have e : h.get? a = some { cls := .none, data := .fields ps } := x
    show h'.get? a = some { cls := .none, data := .fields ps }
    exact k a _ (.inl rfl) e
  | met f y =>
    have e : h.get? a = some (PySem.W.methodObj (.ref f) (.ref y)) := x
    show h'.get? a = some (PySem.W.methodObj (.ref f) (.ref y))
    exact k a _ (.inl rfl) e
  | ext φ => obtain ⟨p, ⟨o, e⟩, st⟩ := x; exact ⟨st _ _ p fun o q => k _ _ (.inl rfl) q, ⟨o, k _ _ (.inl rfl) e⟩, st⟩
theorem HOk.lt (x : HOk P w H h) (e : H a = some o) : a < h.objs.size := (x a o e).lt
theorem HOk.fresh (x : HOk P w H h) (e : h.objs.size ≤ a) : H a = none := by
  cases q : H a with
  | none => rfl
  | some u => exact absurd (Nat.lt_of_lt_of_le (x.lt q) e) (Nat.lt_irrefl _)
/-- every object of the heap is kept -/
theorem HOk.kept (x : HOk P w H h) (k : ∀ b u, h.get? b = some u → h'.get? b = some u) : HOk P w H h' := fun a o e =>
  (x a o e).stay (fun b u _ q => k b u q) (fun _ q => q) fun _ _ q => q
/-- a new object is laid and tracked -/
theorem HOk.laid (x : HOk P w H h) (k : ∀ b u, h.get? b = some u → h'.get? b = some u) (hp : h.objs.size ≤ a) (new : ObjOk P w (upd H a o) h' a o) : HOk P w (upd H a o) h' := fun b u e => by
  have hn := x.fresh hp
  by_cases hb : b = a
  · subst hb; rw [upd_same] at e; cases e; exact new
  · rw [upd_ne hb] at e
    exact (x b u e).stay (fun c v _ q => k c v q) (fun c q => by rw [upd_ne (ne_of_none q hn)]; exact q) fun c xs q => by rw [upd_ne (ne_of_none q hn)]; exact q
end

/-- what may be read as u: it is u, or a known u -/
def Rd (H : Hp) (a : Addr) (u : HO) : Prop := H a = some u ∨ ∃ o, H a = some (.frz o u)
theorem Rd.ok {P : Program} {w : World} {H : Hp} {h : Heap} {a : Addr} {u : HO} (r : Rd H a u) (x : HOk P w H h) : ObjOk P w H h a u := by
  rcases r with r | ⟨o, r⟩
  · exact x a u r
  · obtain ⟨_, q⟩ := x a _ r
    exact q
/-- what may be written -/
def Mut : Option HO → Prop
  | some (.lst _) => True
  | some (.dK _) => True
  | some (.dT _) => True
  | some (.set _ _) => True
  | some (.ins _ _ _) => True
  | some (.ext _) => True
  | _ => False
section
variable {P : Program} {w : World} {H : Hp} {h h' : Heap} {x e : Addr} {o' : HO}
/-- the object at e is changed: x itself, or the dict of the instance x -/
theorem HOk.write (ok : HOk P w H h) (mu : Mut (H x)) (he : e = x ∨ H e = some (.own x)) (k : ∀ b u, b ≠ e → h.get? b = some u → h'.get? b = some u) (heo : ∃ u, h'.get? e = some u)
    (new : ObjOk P w (upd H x o') h' x o') : HOk P w (upd H x o') h' := fun b u q => by
  have nown : ∀ c y, H c = some (.own y) → c ≠ x := fun c y r z => by subst z; rw [r] at mu; exact mu
  have ntup : ∀ c xs, H c = some (.tup xs) → c ≠ x := fun c xs r z => by subst z; rw [r] at mu; exact mu
  by_cases hb : b = x
  · subst hb; rw [upd_same] at q; cases q; exact new
  · rw [upd_ne hb] at q
    by_cases hbe : b = e
    · have q' : H b = some (.own x) := by
        rcases he with z | z
        · exact absurd (hbe.trans z) hb
        · rw [hbe]; exact z
      rw [q] at q'; cases q'
      obtain ⟨v, hv⟩ := heo
      exact ⟨v, by rw [hbe]; exact hv⟩
    · refine (ok b u q).stay (fun c v hc r => k c v ?_ r) (fun c r => by rw [upd_ne (nown c b r)]; exact r) fun c xs r => by rw [upd_ne (ntup c xs r)]; exact r
      rcases hc with rfl | hc
      · exact hbe
      · rintro rfl
        rcases he with z | z
        · exact nown c b hc z
        · rw [hc] at z; cases z; exact hb rfl
end

/-! ### kept unless tracked; of the frames at fs (the callers') the slots may change (an exception that passes writes there); of the records at ex (iterators) nothing is said -/
structure Un (fs ex : List Addr) (H H' : Hp) (h h' : Heap) : Prop where
  keep : ∀ b o, h.get? b = some o → H b = none → b ∉ fs → b ∉ ex → h'.get? b = some o
  slot : ∀ b o, h.get? b = some o → H b = none → b ∈ fs → b ∉ ex → ∃ sl, h'.get? b = some { o with slots := sl }
  free : ∀ b o, h.get? b = some o → H b = none → b ∉ ex → H' b = none
  there : ∀ b o, h.get? b = some o → b ∉ ex → ∃ o', h'.get? b = some o'
  tups : ∀ b xs, H b = some (.tup xs) → H' b = some (.tup xs)
  frzs : ∀ b o u, H b = some (.frz o u) → H' b = some (.frz o u)
  tbls : ∀ b ps, H b = some (.tbl ps) → ∃ more, H' b = some (.tbl (ps ++ more))
section
variable {fs fs' ex ex' : List Addr} {H H1 H2 : Hp} {h h1 h2 h' : Heap} {a x e : Addr} {o : HO}
theorem Un.any (u : Un fs ex H H1 h h1) {b : Addr} {ob : Obj} (q : h.get? b = some ob) (n : H b = none) (hx : b ∉ ex) : ∃ sl, h1.get? b = some { ob with slots := sl } := by
  by_cases hb : b ∈ fs
  · exact u.slot b ob q n hb hx
  · exact ⟨ob.slots, u.keep b ob q n hb hx⟩
theorem Un.kept (k : ∀ b u, h.get? b = some u → h'.get? b = some u) : Un fs ex H H h h' :=
  ⟨fun b ob q _ _ _ => k b ob q, fun b ob q _ _ _ => ⟨ob.slots, k b ob q⟩, fun _ _ _ n _ => n, fun b ob q _ => ⟨ob, k b ob q⟩, fun _ _ q => q, fun _ _ _ q => q, fun _ ps q => ⟨#[], by rw [q]; simp⟩⟩
theorem Un.refl : Un fs ex H H h h := Un.kept fun _ _ q => q
theorem Un.laid (k : ∀ b u, h.get? b = some u → h'.get? b = some u) (hp : h.objs.size ≤ a) (hn : H a = none) : Un fs ex H (upd H a o) h h' where
  keep := fun b u q _ _ _ => k b u q
  slot := fun b u q _ _ _ => ⟨u.slots, k b u q⟩
  free := fun b u q n _ => by rw [upd_ne (Nat.ne_of_lt (Nat.lt_of_lt_of_le (Heap.lt_size q) hp))]; exact n
  there := fun b u q _ => ⟨u, k b u q⟩
  tups := fun b xs q => by rw [upd_ne (ne_of_none q hn)]; exact q
  frzs := fun b u xs q => by rw [upd_ne (ne_of_none q hn)]; exact q
  tbls := fun b ps q => ⟨#[], by rw [upd_ne (ne_of_none q hn), q]; simp⟩
theorem Un.write (mu : Mut (H x)) (he : e = x ∨ H e = some (.own x)) (k : ∀ b u, b ≠ e → h.get? b = some u → h'.get? b = some u) (heo : ∃ u, h'.get? e = some u) : Un fs ex H (upd H x o) h h' := by
  have hx : ∀ b, H b = none → b ≠ x := fun b n z => by subst z; rw [n] at mu; exact mu
  have hb : ∀ b, H b = none → b ≠ e := fun b n z => by
    subst z
    rcases he with r | r
    · exact hx b n r
    · rw [n] at r; cases r
  have hm : ∀ b u, H b = some u → ¬ Mut (some u) → b ≠ x := fun b u q nm z => by subst z; rw [q] at mu; exact nm mu
  refine ⟨fun b u q n _ _ => k b u (hb b n) q, fun b u q n _ _ => ⟨u.slots, k b u (hb b n) q⟩, fun b u q n _ => by rw [upd_ne (hx b n)]; exact n, fun b u q _ => ?_,
    fun b xs q => by rw [upd_ne (hm b _ q fun z => z)]; exact q, fun b u xs q => by rw [upd_ne (hm b _ q fun z => z)]; exact q, fun b ps q => ⟨#[], by rw [upd_ne (hm b _ q fun z => z), q]; simp⟩⟩
  by_cases hbe : b = e
  · subst hbe; exact heo
  · exact ⟨u, k b u hbe q⟩
end

/-! ### the heap without what is tracked -/
def trk (h : Heap) (H : Hp) : List Addr := (List.range h.objs.size).filter fun a => (H a).isSome
def hidT (h : Heap) (H : Hp) : Heap := PySem.W.hideAll h (trk h H)
theorem hidT_size (h : Heap) (H : Hp) : (hidT h H).objs.size = h.objs.size := PySem.W.hideAll_size _ _
theorem hidT_get {h : Heap} {H : Hp} {b : Addr} {o : Obj} (e : h.get? b = some o) (n : H b = none) : (hidT h H).get? b = some o :=
  PySem.W.hideAll_get _ e fun hm => by
    have q : (H b).isSome = true := (List.mem_filter.mp hm).2
    rw [n] at q; simp at q
theorem of_hidT {h : Heap} {H : Hp} {b : Addr} {o : Obj} (e : (hidT h H).get? b = some o) : h.get? b = some o ∧ H b = none := by
  have e' : h.get? b = some o := PySem.W.of_hideAll (trk h H) e
  refine ⟨e', ?_⟩
  cases q : H b with
  | none => rfl
  | some x =>
    have hm : b ∈ trk h H := List.mem_filter.mpr ⟨List.mem_range.mpr (Heap.lt_size e'), by simp [q]⟩
    have z : (hidT h H).get? b = none := PySem.W.hideAll_none (trk h H) hm
    rw [z] at e; cases e

/-! ### OpenK's ledger, filled with every new object but one -/
def allNews (g h : Heap) (L : Addr) : List (Addr × Obj) := (List.range h.objs.size).filterMap fun a => if a = L ∨ (g.get? a).isSome = true then none else (h.get? a).map fun o => (a, o)
def rest (g h : Heap) (L d : Addr) : List (Addr × Obj) := (allNews g h L).filter fun p => decide (p.1 ≠ d)
end L2

namespace L2
open PySem PySem.Spec PyProof.Rows

/-- the module's facts, over the base: the heap at the law's entry without what is tracked there -/
structure Mod (K : PySem.W.Frag) (mg : Str → Option Value) (base : Heap) : Prop where
  kin : K.In base
  glob : base.Ns mainGlobals mg
  blt : ∃ mb, base.Ns builtinsNs mb ∧ ∀ x : Str, x ≠ "__name__" → mb x = bootBuiltins x
  nolimit : base.NoLimit

/-- the context: a def's body (or a comprehension's block) running. base: fixed through the whole law; s₀, H₀: the entry; outer: the frames whose slots others may change (a def's callers); stack: all frames that run;
   ex: iterators that were made ahead of the entry and are walked here (a comprehension's); fn: the names whose cells were made at the entry (a def: all; a comprehension's block: its own); calm: not within an except suite; pn: pins that every state bears; xe: what is wanted of an exception that leaves the code -/
structure Cx where
  prog : Program
  w : World
  K : PySem.W.Frag
  mg : Str → Option Value
  base : Heap
  A : Around
  N : List Str
  s₀ : Shared
  H₀ : Hp
  env : Env
  outer : List Env
  stack : List Env
  ex : List Addr
  fn : Str → Bool
  calm : Bool
  pn : List (Addr × Obj)
  xe : Value → Shared → Prop
/-- the callers' frames -/
def frs (l : List Env) : List Addr := l.filterMap (·.frame)
abbrev Cx.fs (X : Cx) : List Addr := frs X.outer

def Vis (sc : Scope) (x : Str) : Prop := sc.names.lookup x = some .local ∨ sc.names.lookup x = some .cell ∨ sc.names.lookup x = some .free
def Loc (sc : Scope) (x : Str) : Prop := sc.names.lookup x = some .local ∨ sc.names.lookup x = some .cell
def Look (env : Env) (h : Heap) (m : Str → Option Value) (x : Str) (u : Value) : Prop :=
  (env.kindOf x = some .local ∧ m x = some u) ∨ ((env.kindOf x = some .cell ∨ env.kindOf x = some .free) ∧ ∃ c, env.cells.lookup x = some c ∧ h.IsCell c (some u))

structure Cx.Ok (X : Cx) : Prop where
  mod : Mod X.K X.mg X.base
  kind : X.env.scope.kind = .function
  glob : X.env.globals = mainGlobals
  blt : X.env.builtins = builtinsNs
  above : X.s₀.heap.objs.size ≤ X.env.locals
  inj : ∀ x y c, X.env.cells.lookup x = some c → X.env.cells.lookup y = some c → x = y
  has : ∀ x, (X.env.kindOf x = some .cell ∨ X.env.kindOf x = some .free) → ∃ c, X.env.cells.lookup x = some c
  cab : ∀ x c, X.fn x = true → X.env.cells.lookup x = some c → X.s₀.heap.objs.size ≤ c
  hd : X.calm = true → X.A.handled = none
  frames : X.A.frames = some X.stack
  stk : X.stack = X.outer ∨ (X.stack = X.env :: X.outer ∧ X.env.frame = some X.env.locals)
  exf : ∀ b ∈ X.ex, b ≠ X.env.locals ∧ ∀ x c, X.env.cells.lookup x = some c → c ≠ b
  bs : ∀ b o, X.base.get? b = some o → X.s₀.heap.get? b = some o ∧ X.H₀ b = none
  bsz : X.base.objs.size ≤ X.s₀.heap.objs.size
  noex : ∀ b o, X.base.get? b = some o → b ∉ X.ex
  exfs : ∀ b ∈ X.ex, b ∉ X.fs
  funs : X.s₀.heap.FunFrames X.base X.outer
  frf : ∀ b ∈ X.fs, X.H₀ b = none

structure Inv (X : Cx) (pins : List (Addr × Obj)) (σ : List (Option V)) (H : Hp) (s : Shared) : Prop where
  ok : X.Ok
  os : s.os = X.s₀.os
  bare : AllBare s.gens
  base : Un X.fs X.ex X.H₀ H X.s₀.heap s.heap
  loc : ∃ m, s.heap.Ns X.env.locals m ∧ ∀ (i : Nat) (x : Str) (v : V), X.N[i]? = some x → σ[i]? = some (some v) → Vis X.env.scope x → ∃ u, RelV v u ∧ Look X.env s.heap m x u
  cell : ∀ x c, X.env.cells.lookup x = some c → ∃ v, s.heap.IsCell c v
  free : H X.env.locals = none
  freeC : ∀ x c, X.env.cells.lookup x = some c → H c = none
  pin : ∀ p ∈ X.pn ++ pins, s.heap.get? p.1 = some p.2 ∧ H p.1 = none ∧ p.1 ≠ X.env.locals ∧ p.1 ∉ X.fs ∧ ∀ v, p.2.data ≠ .cell v
  hok : HOk X.prog X.w H s.heap
  len : σ.length = X.N.length

section
variable {X : Cx} {pins : List (Addr × Obj)} {σ : List (Option V)} {H H' : Hp} {s : Shared} {h' : Heap}

theorem Cx.Ok.nofr (ok : X.Ok) {b : Addr} {o : Obj} (e : X.base.get? b = some o) : b ∉ X.fs := fun hb => by
  have := (ok.funs.mem hb).1
  rw [e] at this; cases this
theorem Inv.bs (I : Inv X pins σ H s) : ∀ b o, X.base.get? b = some o → s.heap.get? b = some o ∧ H b = none := fun b o e =>
  ⟨I.base.keep b o (I.ok.bs b o e).1 (I.ok.bs b o e).2 (I.ok.nofr e) (I.ok.noex b o e), I.base.free b o (I.ok.bs b o e).1 (I.ok.bs b o e).2 (I.ok.noex b o e)⟩
theorem Inv.bk (I : Inv X pins σ H s) : ∀ b o, X.base.get? b = some o → s.heap.get? b = some o := fun b o e => (I.bs b o e).1
theorem Inv.mod (I : Inv X pins σ H s) : Mod X.K X.mg X.base := I.ok.mod
theorem Inv.kIn (I : Inv X pins σ H s) : X.K.In s.heap := I.ok.mod.kin.keeps I.bk
theorem Inv.lt (I : Inv X pins σ H s) : X.env.locals < s.heap.objs.size := let ⟨_, hn, _⟩ := I.loc; hn.lt
theorem Inv.sz (I : Inv X pins σ H s) : X.s₀.heap.objs.size ≤ s.heap.objs.size := Nat.le_trans I.ok.above (Nat.le_of_lt I.lt)
theorem Inv.nofs (I : Inv X pins σ H s) {a : Addr} (h : s.heap.objs.size ≤ a) : a ∉ X.fs := fun hb => by
  obtain ⟨_, o, ho, _⟩ := I.ok.funs.mem hb
  exact absurd (Nat.lt_of_lt_of_le (Heap.lt_size ho) (Nat.le_trans I.sz h)) (Nat.lt_irrefl _)
theorem Inv.cne (I : Inv X pins σ H s) : ∀ x c, X.env.cells.lookup x = some c → c ≠ X.env.locals := fun x c e z => by
  obtain ⟨v, o, ho, hd⟩ := I.cell x c e
  obtain ⟨m, ⟨o', es, ep, ho', hd', _⟩, _⟩ := I.loc
  rw [z, ho'] at ho; cases ho; rw [hd'] at hd; cases hd
theorem Inv.funs (I : Inv X pins σ H s) : s.heap.FunFrames X.base X.outer := by
  have all : ∀ (l : List Env), (∀ b ∈ frs l, b ∈ X.fs) → X.s₀.heap.FunFrames X.base l → s.heap.FunFrames X.base l := by
    intro l
    induction l with
    | nil => intro _ _; trivial
    | cons env r ih =>
      intro hs hl
      obtain ⟨hk, ⟨L, o, hf, hn, ho, hd⟩, hr⟩ := hl
      have hL : L ∈ X.fs := hs L (by unfold frs; rw [List.filterMap_cons, hf]; exact List.mem_cons_self)
      obtain ⟨sl, e⟩ := I.base.slot L o ho (I.ok.frf L hL) hL fun z => I.ok.exfs L z hL
      exact ⟨hk, ⟨L, _, hf, hn, e, hd⟩, ih (fun b hb => hs b (by unfold frs; rw [List.filterMap_cons, hf]; exact List.mem_cons_of_mem _ hb)) hr⟩
  exact all X.outer (fun _ hb => hb) I.ok.funs

/-- the frames that run, for a call -/
theorem Inv.stack (I : Inv X pins σ H s) : s.heap.FunFrames X.base X.stack := by
  rcases I.ok.stk with e | ⟨e, hf⟩
  · rw [e]; exact I.funs
  · rw [e]
    obtain ⟨m, hn, _⟩ := I.loc
    refine .cons (by rw [I.ok.kind]; decide) hf hn ?_ I.funs
    exact Heap.get?_none_of_le (Nat.le_trans I.ok.bsz I.ok.above)
theorem Inv.stkSub (I : Inv X pins σ H s) : ∀ b ∈ frs X.stack, b ∈ X.env.locals :: X.fs := fun b hb => by
  rcases I.ok.stk with e | ⟨e, hf⟩
  · rw [e] at hb; exact List.mem_cons_of_mem _ hb
  · rw [e] at hb
    unfold frs at hb
    rw [List.filterMap_cons, hf] at hb
    exact hb
theorem Inv.stkFree (I : Inv X pins σ H s) : ∀ b ∈ frs X.stack, H b = none := fun b hb => by
  rcases List.mem_cons.mp (I.stkSub b hb) with e | hb
  · rw [e]; exact I.free
  · obtain ⟨_, o, ho, _⟩ := I.ok.funs.mem hb
    exact I.base.free b o ho (I.ok.frf b hb) fun z => I.ok.exfs b z hb

/-- THE STEP: the untracked objects but the frame and the records at ch are kept (the callers' frames up to slots), the frame's map is kept, the new abstract heap is held -/
theorem Inv.step {g' : Array GenState} {t' : Nat} {d' : Drawn} {ch : List Addr} (I : Inv X pins σ H s)
    (hch : ∀ b ∈ ch, (b ∈ X.ex ∨ X.s₀.heap.objs.size ≤ b) ∧ b ≠ X.env.locals ∧ (∀ x c, X.env.cells.lookup x = some c → c ≠ b) ∧ ∀ p ∈ X.pn ++ pins, p.1 ≠ b)
    (keep : ∀ b o, b ≠ X.env.locals → b ∉ X.fs → b ∉ ch → s.heap.get? b = some o → H b = none → h'.get? b = some o)
    (slot : ∀ b o, b ≠ X.env.locals → b ∈ X.fs → b ∉ ch → s.heap.get? b = some o → H b = none → ∃ sl, h'.get? b = some { o with slots := sl }) (free : ∀ b o, b ∉ ch → s.heap.get? b = some o → H b = none → H' b = none)
    (there : ∀ b o, b ∉ ch → s.heap.get? b = some o → ∃ o', h'.get? b = some o')
    (tups : ∀ b xs, H b = some (.tup xs) → H' b = some (.tup xs)) (frzs : ∀ b o u, H b = some (.frz o u) → H' b = some (.frz o u)) (tbls : ∀ b ps, H b = some (.tbl ps) → ∃ more, H' b = some (.tbl (ps ++ more)))
    (ns : ∀ m, s.heap.Ns X.env.locals m → h'.Ns X.env.locals m) (hok : HOk X.prog X.w H' h') (hg : AllBare g') :
    Inv X pins σ H' { s with heap := h', gens := g', drawn := d', toks := t' } := by
  have neL : ∀ b o, X.s₀.heap.get? b = some o → b ≠ X.env.locals := fun b o e => Nat.ne_of_lt (Nat.lt_of_lt_of_le (Heap.lt_size e) I.ok.above)
  have neC : ∀ b o, X.s₀.heap.get? b = some o → b ∉ X.ex → b ∉ ch := fun b o e hx hb => by
    rcases (hch b hb).1 with z | z
    · exact hx z
    · exact absurd (Nat.lt_of_lt_of_le (Heap.lt_size e) z) (Nat.lt_irrefl _)
  have cellK : ∀ x c, X.env.cells.lookup x = some c → ∀ v, s.heap.IsCell c v → h'.IsCell c v := fun x c e v ⟨o, ho, hd⟩ => by
    have nch : c ∉ ch := fun z => (hch c z).2.2.1 x c e rfl
    by_cases hc : c ∈ X.fs
    · obtain ⟨sl, q⟩ := slot c o (I.cne x c e) hc nch ho (I.freeC x c e)
      exact ⟨_, q, hd⟩
    · exact ⟨o, keep c o (I.cne x c e) hc nch ho (I.freeC x c e), hd⟩
  refine ⟨I.ok, I.os, hg, ⟨fun b o e n hb hx => ?_, fun b o e n hb hx => ?_, fun b o e n hx => ?_, fun b o e hx => ?_, fun b xs e => tups b xs (I.base.tups b xs e), fun b o xs e => frzs b o xs (I.base.frzs b o xs e), fun b ps e => ?_⟩, ?_, fun x c e => ?_, ?_, fun x c e => ?_, fun p hp => ?_, hok, I.len⟩
  · exact keep b o (neL b o e) hb (neC b o e hx) (I.base.keep b o e n hb hx) (I.base.free b o e n hx)
  · obtain ⟨sl, e1⟩ := I.base.slot b o e n hb hx
    obtain ⟨sl', e2⟩ := slot b _ (neL b o e) hb (neC b o e hx) e1 (I.base.free b o e n hx)
    exact ⟨sl', e2⟩
  · obtain ⟨o', e1⟩ := I.base.there b o e hx
    exact free b o' (neC b o e hx) e1 (I.base.free b o e n hx)
  · obtain ⟨o', e1⟩ := I.base.there b o e hx
    exact there b o' (neC b o e hx) e1
  · obtain ⟨m1, e1⟩ := I.base.tbls b ps e
    obtain ⟨m2, e2⟩ := tbls b _ e1
    exact ⟨m1 ++ m2, by rw [e2, Array.append_assoc]⟩
  · obtain ⟨m, hn, hl⟩ := I.loc
    refine ⟨m, ns m hn, fun i x v e1 e2 e3 => ?_⟩
    obtain ⟨u, r, l⟩ := hl i x v e1 e2 e3
    refine ⟨u, r, ?_⟩
    rcases l with l | ⟨k, c, e, z⟩
    · exact .inl l
    · exact .inr ⟨k, c, e, cellK x c e _ z⟩
  · obtain ⟨v, z⟩ := I.cell x c e
    exact ⟨v, cellK x c e v z⟩
  · obtain ⟨m, ⟨o, _, _, ho, _⟩, _⟩ := I.loc
    exact free _ o (fun z => (hch _ z).2.1 rfl) ho I.free
  · obtain ⟨v, o, ho, hd⟩ := I.cell x c e
    exact free c o (fun z => (hch c z).2.2.1 x c e rfl) ho (I.freeC x c e)
  · obtain ⟨e, n, ne, nf, d⟩ := I.pin p hp
    have nch : p.1 ∉ ch := fun z => (hch p.1 z).2.2.2 p hp rfl
    exact ⟨keep p.1 p.2 ne nf nch e n, free p.1 p.2 nch e n, ne, nf, d⟩
/-- .. where the frame's own object is kept too -/
theorem Inv.un {t' : Nat} (I : Inv X pins σ H s) (u : Un X.fs [] H H' s.heap h') (hok : HOk X.prog X.w H' h') : Inv X pins σ H' { s with heap := h', toks := t' } := by
  obtain ⟨m, ⟨o, es, ep, ho, r⟩, _⟩ := id I.loc
  obtain ⟨sl, hL⟩ := u.any ho I.free (by simp)
  exact I.step (g' := s.gens) (d' := s.drawn) (ch := []) (fun _ z => nomatch z) (fun b o _ hb _ e n => u.keep b o e n hb (by simp)) (fun b o _ hb _ e n => u.slot b o e n hb (by simp)) (fun b o _ e n => u.free b o e n (by simp)) (fun b o _ e => u.there b o e (by simp)) u.tups u.frzs u.tbls (fun m' hm => by
    obtain ⟨o', es', ep', ho', r'⟩ := hm
    rw [ho] at ho'; cases ho'
    exact ⟨_, es', ep', hL, r'⟩) hok I.bare
/-- behind a call (or a comprehension's block): the slots of this frame may have changed too, the records at ch may have turned -/
theorem Inv.call {g' : Array GenState} {t' : Nat} {d' : Drawn} {ch : List Addr} (I : Inv X pins σ H s) (u : Un (frs X.stack) ch H H' s.heap h') (hok : HOk X.prog X.w H' h') (hg : AllBare g')
    (hch : ∀ b ∈ ch, (b ∈ X.ex ∨ X.s₀.heap.objs.size ≤ b) ∧ b ≠ X.env.locals ∧ (∀ x c, X.env.cells.lookup x = some c → c ≠ b) ∧ ∀ p ∈ X.pn ++ pins, p.1 ≠ b) :
    Inv X pins σ H' { s with heap := h', gens := g', drawn := d', toks := t' } := by
  obtain ⟨m, ⟨o, es, ep, ho, r⟩, _⟩ := id I.loc
  obtain ⟨sl, hL⟩ := u.any ho I.free fun z => (hch _ z).2.1 rfl
  exact I.step (ch := ch) hch (fun b o hL hb hc e n => u.keep b o e n (fun z => (List.mem_cons.mp (I.stkSub b z)).elim hL hb) hc) (fun b o _ _ hc e n => u.any e n hc) (fun b o hc e n => u.free b o e n hc) (fun b o hc e => u.there b o e hc) u.tups u.frzs u.tbls (fun m' hm => by
    obtain ⟨o', es', ep', ho', r'⟩ := hm
    rw [ho] at ho'; cases ho'
    exact ⟨_, es', ep', hL, r'⟩) hok hg
/-- an untracked record of ours (an iterator) has turned -/
theorem Inv.turned {t' : Nat} {it : Addr} (I : Inv X pins σ H s) (k : ∀ b o, b ≠ it → s.heap.get? b = some o → h'.get? b = some o) (hn : H it = none) (hL : it ≠ X.env.locals)
    (h1 : it ∈ X.ex ∨ X.s₀.heap.objs.size ≤ it) (h2 : ∀ x c, X.env.cells.lookup x = some c → c ≠ it) (h3 : ∀ p ∈ X.pn ++ pins, p.1 ≠ it) : Inv X pins σ H { s with heap := h', toks := t' } := by
  have nit : ∀ b u, H b = some u → b ≠ it := fun b u e z => by rw [z, hn] at e; cases e
  refine I.step (g' := s.gens) (d' := s.drawn) (ch := [it]) (fun b hb => ?_) (fun b o _ _ hc e _ => k b o (fun z => hc (by simp [z])) e) (fun b o _ _ hc e _ => ⟨o.slots, k b o (fun z => hc (by simp [z])) e⟩) (fun _ _ _ _ n => n)
    (fun b o hc e => ⟨o, k b o (fun z => hc (by simp [z])) e⟩) (fun _ _ e => e) (fun _ _ _ e => e) (fun b ps e => ⟨#[], by rw [e]; simp⟩) (fun m hm => ?_) (fun b u e => ?_) I.bare
  · have e : b = it := by simpa using hb
    subst e
    exact ⟨h1, hL, h2, h3⟩
  · obtain ⟨o, es, ep, ho, r⟩ := hm
    exact ⟨o, es, ep, k _ o (Ne.symm hL) ho, r⟩
  · refine (I.hok b u e).stay (fun c v hc q => k c v ?_ q) (fun _ q => q) fun _ _ q => q
    rcases hc with z | z
    · rw [z]; exact nit b u e
    · exact nit c _ z
theorem Inv.tok (I : Inv X pins σ H s) (t : Nat) : Inv X pins σ H { s with toks := t } := I.un (h' := s.heap) (t' := t) Un.refl I.hok
/-- all objects kept -/
theorem Inv.kept {t' : Nat} (I : Inv X pins σ H s) (k : ∀ b u, s.heap.get? b = some u → h'.get? b = some u) : Inv X pins σ H { s with heap := h', toks := t' } := I.un (Un.kept k) (I.hok.kept k)
/-- a new object laid and tracked -/
theorem Inv.laid {a : Addr} {o : HO} {t' : Nat} (I : Inv X pins σ H s) (k : ∀ b u, s.heap.get? b = some u → h'.get? b = some u) (hp : s.heap.objs.size ≤ a) (new : ObjOk X.prog X.w (upd H a o) h' a o) :
    Inv X pins σ (upd H a o) { s with heap := h', toks := t' } := I.un (Un.laid k hp (I.hok.fresh hp)) (I.hok.laid k hp new)
/-- an object written -/
theorem Inv.write {x e : Addr} {o : HO} {t' : Nat} (I : Inv X pins σ H s) (mu : Mut (H x)) (he : e = x ∨ H e = some (.own x)) (k : ∀ b u, b ≠ e → s.heap.get? b = some u → h'.get? b = some u) (heo : ∃ u, h'.get? e = some u)
    (new : ObjOk X.prog X.w (upd H x o) h' x o) : Inv X pins σ (upd H x o) { s with heap := h', toks := t' } := I.un (Un.write mu he k heo) (I.hok.write mu he k heo new)
theorem Inv.pins_of {pins' : List (Addr × Obj)} (I : Inv X pins σ H s) (h : ∀ p ∈ pins', s.heap.get? p.1 = some p.2 ∧ H p.1 = none ∧ p.1 ≠ X.env.locals ∧ p.1 ∉ X.fs ∧ ∀ v, p.2.data ≠ .cell v) : Inv X pins' σ H s :=
  ⟨I.ok, I.os, I.bare, I.base, I.loc, I.cell, I.free, I.freeC, fun p hp => (List.mem_append.mp hp).elim (fun z => I.pin p (List.mem_append_left _ z)) (h p), I.hok, I.len⟩

theorem nodup_ix {N : List Str} (hN : N.Nodup) {i j : Nat} {x : Str} (a : N[i]? = some x) (b : N[j]? = some x) : i = j := by
  obtain ⟨h1, e1⟩ := List.getElem?_eq_some_iff.mp a
  obtain ⟨h2, e2⟩ := List.getElem?_eq_some_iff.mp b
  exact (List.getElem_inj hN).mp (e1.trans e2.symm)

/-- a name is stored; what changed -/
theorem store_ok2 {M : Model} {A : Around} {E : Value → Shared → Prop} {i : Nat} {x : Str} {v : V} {u : Value} {Q : Unit → Shared → Prop} (I : Inv X pins σ H s) (hN : X.N.Nodup) (hi : X.N[i]? = some x) (hx : Loc X.env.scope x) (r : RelV v u)
    (h : ∀ s', Inv X pins (σ.set i (some v)) H s' → (∃ a, Heap.SameBut a s.heap s'.heap ∧ (a = X.env.locals ∨ X.env.cells.lookup x = some a)) → Q () s') (hf : X.fn x = true ∨ X.env.scope.names.lookup x = some .local := by first | exact .inl rfl | exact .inr rfl | assumption) : wpAny M A (storeName X.env x u) Q E s := by
  obtain ⟨m, hn, hl⟩ := id I.loc
  have hcls : (X.env.scope.kind == .class || (X.env.scope.kind == .module && X.env.locals != X.env.globals)) = false := by rw [I.ok.kind]; rfl
  have hiσ : i < σ.length := by rw [I.len]; exact (List.getElem?_eq_some_iff.mp hi).1
  have cne := I.cne
  have tracked : ∀ {a : Addr} {h' : Heap}, (∃ o, s.heap.get? a = some o ∧ H a = none) → Heap.SameBut a s.heap h' → HOk X.prog X.w H h' := fun {a h'} ha hs b ob e => by
    obtain ⟨_, _, hfree⟩ := ha
    refine (I.hok b ob e).stay (fun c w' hc q => (hs.2 c ?_).trans q) (fun _ q => q) fun _ _ q => q
    rintro rfl
    rcases hc with rfl | hc
    · rw [hfree] at e; cases e
    · rw [hfree] at hc; cases hc
  rcases hx with hk | hk
  · refine wpAny_storeName_local hk hn (fun h' hn' hs => ?_) hcls
    obtain ⟨oL, _, _, hoL, _⟩ := id hn
    refine h _ ⟨I.ok, I.os, I.bare, ⟨fun b o e n hb hx => ?_, fun b o e n hb hx => ?_, I.base.free, fun b o e hx => ?_, I.base.tups, I.base.frzs, I.base.tbls⟩, ⟨_, hn', fun j y v' e1 e2 e3 => ?_⟩, fun y c e => ?_, I.free, I.freeC, fun p hp => ?_, tracked ⟨oL, hoL, I.free⟩ hs, by simpa using I.len⟩ ⟨_, hs, .inl rfl⟩
    · exact (hs.2 b (Nat.ne_of_lt (Nat.lt_of_lt_of_le (Heap.lt_size e) I.ok.above))).trans (I.base.keep b o e n hb hx)
    · obtain ⟨sl, e1⟩ := I.base.slot b o e n hb hx
      exact ⟨sl, (hs.2 b (Nat.ne_of_lt (Nat.lt_of_lt_of_le (Heap.lt_size e) I.ok.above))).trans e1⟩
    · obtain ⟨o', e1⟩ := I.base.there b o e hx
      exact ⟨o', (hs.2 b (Nat.ne_of_lt (Nat.lt_of_lt_of_le (Heap.lt_size e) I.ok.above))).trans e1⟩
    · by_cases hj : j = i
      · subst hj
        rw [hi] at e1; cases e1
        rw [List.getElem?_set_self hiσ] at e2
        cases e2
        exact ⟨u, r, .inl ⟨hk, by simp⟩⟩
      · rw [List.getElem?_set_ne (Ne.symm hj)] at e2
        obtain ⟨u', r', q⟩ := hl j y v' e1 e2 e3
        refine ⟨u', r', ?_⟩
        rcases q with ⟨k, e⟩ | ⟨k, c, e, z⟩
        · refine .inl ⟨k, ?_⟩
          have : y ≠ x := fun e => hj (nodup_ix hN e1 (e ▸ hi))
          simp [this, e]
        · exact .inr ⟨k, c, e, z.sameBut hs (cne y c e)⟩
    · obtain ⟨w', z⟩ := I.cell y c e
      exact ⟨w', z.sameBut hs (cne y c e)⟩
    · obtain ⟨e, n, ne, nf, d⟩ := I.pin p hp
      exact ⟨(hs.2 p.1 ne).trans e, n, ne, nf, d⟩
  · have hfn : X.fn x = true := by
      rcases hf with z | z
      · exact z
      · rw [z] at hk; cases hk
    obtain ⟨c, hc⟩ := I.ok.has x (.inl hk)
    obtain ⟨w', z⟩ := I.cell x c hc
    refine wpAny_storeName_cell I.ok.kind hk hc z (fun h' hc' hs => ?_)
    obtain ⟨oc, hoc, hocd⟩ := id z
    refine h { s with heap := h' } ⟨I.ok, I.os, I.bare, ⟨fun b o e n hb hx => ?_, fun b o e n hb hx => ?_, I.base.free, fun b o e hx => ?_, I.base.tups, I.base.frzs, I.base.tbls⟩, ⟨m, hn.sameBut hs (Ne.symm (cne x c hc)), fun j y v' e1 e2 e3 => ?_⟩, fun y c' e => ?_, I.free, I.freeC, fun p hp => ?_, tracked ⟨oc, hoc, I.freeC x c hc⟩ hs, by simpa using I.len⟩ ⟨c, hs, .inr hc⟩
    · exact (hs.2 b (Nat.ne_of_lt (Nat.lt_of_lt_of_le (Heap.lt_size e) (I.ok.cab x c hfn hc)))).trans (I.base.keep b o e n hb hx)
    · obtain ⟨sl, e1⟩ := I.base.slot b o e n hb hx
      exact ⟨sl, (hs.2 b (Nat.ne_of_lt (Nat.lt_of_lt_of_le (Heap.lt_size e) (I.ok.cab x c hfn hc)))).trans e1⟩
    · obtain ⟨o', e1⟩ := I.base.there b o e hx
      exact ⟨o', (hs.2 b (Nat.ne_of_lt (Nat.lt_of_lt_of_le (Heap.lt_size e) (I.ok.cab x c hfn hc)))).trans e1⟩
    · by_cases hj : j = i
      · subst hj
        rw [hi] at e1; cases e1
        rw [List.getElem?_set_self hiσ] at e2
        cases e2
        exact ⟨u, r, .inr ⟨.inl hk, c, hc, hc'⟩⟩
      · rw [List.getElem?_set_ne (Ne.symm hj)] at e2
        obtain ⟨u', r', q⟩ := hl j y v' e1 e2 e3
        refine ⟨u', r', ?_⟩
        rcases q with q | ⟨k, c', e, z'⟩
        · exact .inl q
        · refine .inr ⟨k, c', e, z'.sameBut hs ?_⟩
          rintro rfl
          exact hj (nodup_ix hN e1 (I.ok.inj _ _ _ e hc ▸ hi))
    · by_cases hcc : c' = c
      · subst hcc; exact ⟨_, hc'⟩
      · obtain ⟨w2, z2⟩ := I.cell y c' e
        exact ⟨w2, z2.sameBut hs hcc⟩
    · obtain ⟨e, n, ne, nf, d⟩ := I.pin p hp
      refine ⟨(hs.2 p.1 ?_).trans e, n, ne, nf, d⟩
      intro q
      rw [q, hoc] at e
      have q' : oc = p.2 := Option.some.inj e
      exact d w' (by rw [← q']; exact hocd)
theorem store_ok {M : Model} {A : Around} {E : Value → Shared → Prop} {i : Nat} {x : Str} {v : V} {u : Value} {Q : Unit → Shared → Prop} (I : Inv X pins σ H s) (hN : X.N.Nodup) (hi : X.N[i]? = some x) (hx : Loc X.env.scope x) (r : RelV v u)
    (h : ∀ s', Inv X pins (σ.set i (some v)) H s' → Q () s') (hf : X.fn x = true ∨ X.env.scope.names.lookup x = some .local := by first | exact .inl rfl | exact .inr rfl | assumption) : wpAny M A (storeName X.env x u) Q E s :=
  store_ok2 I hN hi hx r (fun s' I' _ => h s' I') hf
/-- behind a call or a block, the state as it is -/
theorem Inv.call' {s' : Shared} {ch : List Addr} (I : Inv X pins σ H s) (ho : s'.os = s.os) (u : Un (frs X.stack) ch H H' s.heap s'.heap) (hok : HOk X.prog X.w H' s'.heap) (hg : AllBare s'.gens)
    (hch : ∀ b ∈ ch, (b ∈ X.ex ∨ X.s₀.heap.objs.size ≤ b) ∧ b ≠ X.env.locals ∧ (∀ x c, X.env.cells.lookup x = some c → c ≠ b) ∧ ∀ p ∈ X.pn ++ pins, p.1 ≠ b) : Inv X pins σ H' s' := by
  obtain ⟨h', g', d', t', o'⟩ := s'
  have e : o' = s.os := ho
  subst e
  exact I.call (g' := g') (t' := t') (d' := d') u hok hg hch
end

/-! ### the judgements -/
/-- an exception: its class, its own dict's address (where it has one), the abstract heap behind it -/
abbrev XK := Value → Option Addr → Hp → Prop
abbrev St := List (Option V)
abbrev VK := V → Hp → Prop
/-- an expression's reading; a test's; an argument list's -/
abbrev TE := St → Hp → VK → Prop
abbrev TT := St → Hp → (Bool → Hp → Prop) → Prop
abbrev TA := St → Hp → (List V → Hp → Prop) → Prop
/-- what is wanted behind a statement -/
structure Ends where
  nx : St → Hp → Prop
  rt : VK
  bk : St → Hp → Prop := fun _ _ => False
  ct : St → Hp → Prop := fun _ _ => False
abbrev TS := Ends → St → Hp → Prop

def EP (X : Cx) (pins : List (Addr × Obj)) (σ : St) (Q : VK) (u : Value) (s' : Shared) : Prop := ∃ v H', Inv X pins σ H' s' ∧ RelV v u ∧ Q v H'
def TP (X : Cx) (pins : List (Addr × Obj)) (σ : St) (Q : Bool → Hp → Prop) (b : Bool) (s' : Shared) : Prop := ∃ H', Inv X pins σ H' s' ∧ Q b H'
def AP (X : Cx) (pins : List (Addr × Obj)) (σ : St) (Q : List V → Hp → Prop) (us : List Value) (s' : Shared) : Prop := ∃ vs H', Inv X pins σ H' s' ∧ Vals vs us ∧ Q vs H'
def SP (X : Cx) (pins : List (Addr × Obj)) (D : Ends) (f : Flow) (s' : Shared) : Prop :=
  match f with
  | .next => ∃ σ' H', Inv X pins σ' H' s' ∧ D.nx σ' H'
  | .brk => ∃ σ' H', Inv X pins σ' H' s' ∧ D.bk σ' H'
  | .cont => ∃ σ' H', Inv X pins σ' H' s' ∧ D.ct σ' H'
  | .ret u => ∃ v σ' H', Inv X pins σ' H' s' ∧ RelV v u ∧ D.rt v H'

def PE (X : Cx) (e : Expr) (t : TE) : Prop :=
  ∀ (pins : List (Addr × Obj)) (s : Shared) (σ : St) (H : Hp) (Q : VK), Inv X pins σ H s → t σ H Q → wpAny (model X.prog X.w) X.A (eval e X.env) (EP X pins σ Q) X.xe s
def PT (X : Cx) (e : Expr) (t : TT) : Prop :=
  ∀ (pins : List (Addr × Obj)) (s : Shared) (σ : St) (H : Hp) (Q : Bool → Hp → Prop), Inv X pins σ H s → t σ H Q → wpAny (model X.prog X.w) X.A (isTrue e X.env (eval e X.env)) (TP X pins σ Q) X.xe s
/-- a test whatever its 'whole' is (and, or) -/
def PW (X : Cx) (e : Expr) (t : TT) : Prop :=
  ∀ (whole : Sem Value) (pins : List (Addr × Obj)) (s : Shared) (σ : St) (H : Hp) (Q : Bool → Hp → Prop), Inv X pins σ H s → t σ H Q → wpAny (model X.prog X.w) X.A (isTrue e X.env whole) (TP X pins σ Q) X.xe s
theorem PW.pt {X : Cx} {e : Expr} {t : TT} (h : PW X e t) : PT X e t := h _
/-- an argument list (no star), from the left -/
def PA (X : Cx) (es : List Expr) (t : TA) : Prop :=
  ∀ (pos : Pos) (pins : List (Addr × Obj)) (s : Shared) (σ : St) (H : Hp) (Q : List V → Hp → Prop), Inv X pins σ H s → t σ H Q → wpAny (model X.prog X.w) X.A (spliced (backTo pos (starEach es X.env))) (AP X pins σ Q) X.xe s
def PS (X : Cx) (st : Stmt) (t : TS) : Prop :=
  ∀ (pins : List (Addr × Obj)) (s : Shared) (σ : St) (H : Hp) (D : Ends), Inv X pins σ H s → t D σ H → wpAny (model X.prog X.w) X.A (exec st X.env) (SP X pins D) X.xe s
def PSs (X : Cx) (st : List Stmt) (t : TS) : Prop :=
  ∀ (pins : List (Addr × Obj)) (s : Shared) (σ : St) (H : Hp) (D : Ends), Inv X pins σ H s → t D σ H → wpAny (model X.prog X.w) X.A (execs st X.env) (SP X pins D) X.xe s
/-- weaken the end -/
theorem thn {α : Type} {t : Sem α} {Q Q' : α → Shared → Prop} {M : Model} {A : Around} {E : Value → Shared → Prop} {s : Shared} (h : wpAny M A t Q E s) (hQ : ∀ a s, Q a s → Q' a s) : wpAny M A t Q' E s := wpAny_mono h hQ fun _ _ x => x
end L2

namespace L2
open PySem PySem.Spec PyProof.Rows
section
variable {X : Cx}

/-! ### names and constants -/
def tVar (i : Nat) : TE := fun σ H Q => ∃ v, σ[i]? = some (some v) ∧ Q v H
def tC (v : V) : TE := fun _ H Q => Q v H
theorem pe_var {i : Nat} {x : Str} {pos : Pos} (hN : X.N[i]? = some x) (hv : Vis X.env.scope x) (hd : (x == ("__debug__" : Str)) = false := by decide) (hcd : (x == ("__classdict__" : Str)) = false := by decide) : PE X (.Name x pos) (tVar i) := by
  intro pins s σ H Q I h
  obtain ⟨v, e, h⟩ := h
  obtain ⟨m, hn, hl⟩ := I.loc
  obtain ⟨u, r, l⟩ := hl i x v hN e hv
  have fin : EP X pins σ Q u s := ⟨v, H, I, r, h⟩
  rcases l with ⟨hk, hm⟩ | ⟨hk, c, hc, hcell⟩
  · exact wpAny_Name (wpAny_loadName_local I.ok.kind hk hn hm fin) hd
  · rcases hk with hk | hk
    · exact wpAny_Name (wpAny_loadName_cell I.ok.kind hk hc hcell fin) hd
    · exact wpAny_Name (wpAny_loadName_free I.ok.kind hk hc hcell fin hcd) hd
theorem pe_int {i j pos} : PE X (.Constant (.int i) j pos) (tC (.int i)) := fun _ _ _ H _ I h => wpAny_Constant_int ⟨.int i, H, I.tok _, ⟨_, rfl⟩, h⟩
theorem pe_bl {b j pos} : PE X (.Constant (.bool b) j pos) (tC (.bl b)) := fun _ _ _ H _ I h => Constant_bool ⟨.bl b, H, I, rfl, h⟩
theorem pe_non {j pos} : PE X (.Constant .none j pos) (tC .non) := fun _ _ _ H _ I h => Constant_none ⟨.non, H, I, rfl, h⟩
theorem pe_str {x j pos} : PE X (.Constant (.str x) j pos) (tC (.str x)) := fun _ _ _ H _ I h => Calls.Constant_str ⟨.str x, H, I.tok _, ⟨_, rfl⟩, h⟩

/-- a global name of the def -/
def Gl (X : Cx) (x : Str) : Prop := X.env.kindOf x = some .globalImplicit
theorem ld_glob {E : Value → Shared → Prop} {pins : List (Addr × Obj)} {s : Shared} {σ : St} {H : Hp} {x : Str} {u : Value} {pos : Pos} {Q : Value → Shared → Prop} (I : Inv X pins σ H s) (hg : Gl X x) (hm : X.mg x = some u) (h : Q u s)
    (hd : (x == ("__debug__" : Str)) = false := by decide) : wpAny (model X.prog X.w) X.A (eval (.Name x pos) X.env) Q E s :=
  Calls.Name_function_global I.ok.kind hg (Calls.loadGlobal_global (by rw [I.ok.glob]; exact I.mod.glob.keeps I.bk) hm h) hd
theorem ld_blt {E : Value → Shared → Prop} {pins : List (Addr × Obj)} {s : Shared} {σ : St} {H : Hp} {x : Str} {u : Value} {pos : Pos} {Q : Value → Shared → Prop} (I : Inv X pins σ H s) (hg : Gl X x) (hm : X.mg x = none) (hv : bootBuiltins x = some u) (h : Q u s)
    (hn : x ≠ "__name__" := by decide) (hd : (x == ("__debug__" : Str)) = false := by decide) : wpAny (model X.prog X.w) X.A (eval (.Name x pos) X.env) Q E s := by
  obtain ⟨mb, h1, h2⟩ := I.mod.blt
  exact Calls.Name_function_global I.ok.kind hg (Calls.loadGlobal_builtin (by rw [I.ok.glob]; exact I.mod.glob.keeps I.bk) hm (by rw [I.ok.blt]; exact h1.keeps I.bk) ((h2 x hn).trans hv) h) hd
/-- a module's constant, a class, a function, as a value -/
theorem pe_glob {x : Str} {v : V} {u : Value} {pos : Pos} (hg : Gl X x) (hm : X.mg x = some u) (r : RelV v u) (hd : (x == ("__debug__" : Str)) = false := by decide) : PE X (.Name x pos) (tC v) :=
  fun _ _ _ H _ I h => ld_glob I hg hm ⟨v, H, I, r, h⟩ hd
theorem pe_bltn {x : Str} {v : V} {u : Value} {pos : Pos} (hg : Gl X x) (hm : X.mg x = none) (hv : bootBuiltins x = some u) (r : RelV v u) (hn : x ≠ "__name__" := by decide) (hd : (x == ("__debug__" : Str)) = false := by decide) : PE X (.Name x pos) (tC v) :=
  fun _ _ _ H _ I h => ld_blt I hg hm hv ⟨v, H, I, r, h⟩ hn hd

/-! ### arithmetic -/
/-- two ints -/
def t2I (ta tb : TE) (k : Int → Int → Hp → Prop) : St → Hp → Prop := fun σ H => ta σ H fun x H1 => tb σ H1 fun y H2 => ∃ i j, x = .int i ∧ y = .int j ∧ k i j H2
def tAdd (ta tb : TE) : TE := fun σ H Q => t2I ta tb (fun i j H2 => Q (.int (i + j)) H2) σ H
def tSub (ta tb : TE) : TE := fun σ H Q => t2I ta tb (fun i j H2 => Q (.int (i - j)) H2) σ H
/-- the left factor below 2^64 -/
def tMul (ta tb : TE) : TE := fun σ H Q => t2I ta tb (fun i j H2 => (-(2 ^ 64) < i ∧ i < 2 ^ 64) ∧ Q (.int (i * j)) H2) σ H
variable {a b : Expr} {ta tb : TE} {pos : Pos}
/-! ### comparisons -/
def PC (X : Cx) (op : CmpOp) (a b : Expr) (t : TE) : Prop :=
  ∀ (pins : List (Addr × Obj)) (s : Shared) (σ : St) (H : Hp) (Q : VK), Inv X pins σ H s → t σ H Q →
    wpAny (model X.prog X.w) X.A (eval a X.env) (fun v s₁ => wpAny (model X.prog X.w) X.A (eval b X.env) (fun u s₂ => wpAny (model X.prog X.w) X.A (compareOp op v u) (EP X pins σ Q) X.xe s₂) X.xe s₁) X.xe s
def tCmp (p : Int → Int → Bool) (ta tb : TE) : TE := fun σ H Q => t2I ta tb (fun i j H2 => Q (.bl (p i j)) H2) σ H
abbrev tLt : TE → TE → TE := tCmp fun i j => decide (i < j)
abbrev tLe : TE → TE → TE := tCmp fun i j => decide (i ≤ j)
abbrev tGt : TE → TE → TE := tCmp fun i j => decide (j < i)
abbrev tGe : TE → TE → TE := tCmp fun i j => decide (j ≤ i)
abbrev tEqI : TE → TE → TE := tCmp fun i j => decide (i = j)
abbrev tNeI : TE → TE → TE := tCmp fun i j => !decide (i = j)
/-- is None -/
def tIsN (ta : TE) : TE := fun σ H Q => ta σ H fun x H1 => Q (.bl (decide (x = .non))) H1
def tNotN (ta : TE) : TE := fun σ H Q => ta σ H fun x H1 => Q (.bl (!decide (x = .non))) H1
/-- a comparison as a value, as a test -/
def tB (t : TE) : TT := fun σ H Q => t σ H fun x H1 => ∃ c, x = .bl c ∧ Q c H1
/-! ### and, or, not -/
variable {tA tB' : TT} {rest : List Expr}
def tAnd (t u : TT) : TT := fun σ H Q => t σ H fun c H1 => if c = true then u σ H1 Q else Q false H1
def tOr (t u : TT) : TT := fun σ H Q => t σ H fun c H1 => if c = true then Q true H1 else u σ H1 Q
def tNot (t : TT) : TT := fun σ H Q => t σ H fun c H1 => Q (!c) H1
theorem pw_and1 (ha : PT X a tA) : PW X (.BoolOp .And [a] pos) tA := by
  intro wh pins s σ H Q I h
  refine isTrue_and (thn (ha pins s σ H Q I h) fun c s1 e => ?_)
  cases c with
  | true => exact isTrue_and_nil e
  | false => exact e
theorem pw_or1 (ha : PT X a tA) : PW X (.BoolOp .Or [a] pos) tA := by
  intro wh pins s σ H Q I h
  refine isTrue_or (thn (ha pins s σ H Q I h) fun c s1 e => ?_)
  cases c with
  | false => exact isTrue_or_nil e
  | true => exact e
theorem pw_and (ha : PT X a tA) (hb : PW X (.BoolOp .And (b :: rest) pos) tB') : PW X (.BoolOp .And (a :: b :: rest) pos) (tAnd tA tB') := by
  intro wh pins s σ H Q I h
  refine isTrue_and (thn (ha pins s σ H _ I h) fun c s1 ⟨H1, I1, q1⟩ => ?_)
  cases c with
  | true => exact hb wh pins s1 σ H1 Q I1 q1
  | false => exact ⟨H1, I1, q1⟩
theorem pw_or (ha : PT X a tA) (hb : PW X (.BoolOp .Or (b :: rest) pos) tB') : PW X (.BoolOp .Or (a :: b :: rest) pos) (tOr tA tB') := by
  intro wh pins s σ H Q I h
  refine isTrue_or (thn (ha pins s σ H _ I h) fun c s1 ⟨H1, I1, q1⟩ => ?_)
  cases c with
  | true => exact ⟨H1, I1, q1⟩
  | false => exact hb wh pins s1 σ H1 Q I1 q1
theorem pt_not (ha : PT X a tA) : PT X (.UnaryOp .Not a pos) (tNot tA) := by
  intro pins s σ H Q I h
  exact isTrue_not (ha pins s σ H (fun c H1 => Q (!c) H1) I h)
/-- .. as values (bools) -/
def tAndV (ta tb : TE) : TE := fun σ H Q => ta σ H fun x H1 => ∃ c, x = .bl c ∧ if c = true then tb σ H1 Q else Q (.bl false) H1
def tOrV (ta tb : TE) : TE := fun σ H Q => ta σ H fun x H1 => ∃ c, x = .bl c ∧ if c = true then Q (.bl true) H1 else tb σ H1 Q
def tNotV (ta : TE) : TE := fun σ H Q => ta σ H fun x H1 => ∃ c, x = .bl c ∧ Q (.bl (!c)) H1
theorem pe_one {op} {t : TE} (h : PE X a t) : PE X (.BoolOp op [a] pos) t := fun pins s σ H Q I hw => BoolOp_one (h pins s σ H Q I hw)
theorem pe_and (ha : PE X a ta) (hb : PE X (.BoolOp .And (b :: rest) pos) tb) : PE X (.BoolOp .And (a :: b :: rest) pos) (tAndV ta tb) := by
  intro pins s σ H Q I h
  refine BoolOp_and (thn (ha pins s σ H _ I h) fun v s1 ⟨x, H1, I1, r1, q1⟩ => ?_)
  obtain ⟨c, rfl, q1⟩ := q1
  cases r1
  refine wpAny_truthy_bool ?_
  cases c with
  | true => exact hb pins s1 σ H1 Q I1 q1
  | false => exact ⟨.bl false, H1, I1, rfl, q1⟩
theorem pe_or (ha : PE X a ta) (hb : PE X (.BoolOp .Or (b :: rest) pos) tb) : PE X (.BoolOp .Or (a :: b :: rest) pos) (tOrV ta tb) := by
  intro pins s σ H Q I h
  refine BoolOp_or (thn (ha pins s σ H _ I h) fun v s1 ⟨x, H1, I1, r1, q1⟩ => ?_)
  obtain ⟨c, rfl, q1⟩ := q1
  cases r1
  refine wpAny_truthy_bool ?_
  cases c with
  | false => exact hb pins s1 σ H1 Q I1 q1
  | true => exact ⟨.bl true, H1, I1, rfl, q1⟩
/-- a if t else b -/
def tIf (t : TT) (ta tb : TE) : TE := fun σ H Q => t σ H fun c H1 => if c = true then ta σ H1 Q else tb σ H1 Q
theorem pe_ifExp {c : Expr} (hc : PT X c tA) (ha : PE X a ta) (hb : PE X b tb) : PE X (.IfExp c a b pos) (tIf tA ta tb) := by
  intro pins s σ H Q I h
  refine wpAny_IfExp (thn (hc pins s σ H _ I h) fun d s1 ⟨H1, I1, q1⟩ => ?_)
  cases d with
  | true => exact ha pins s1 σ H1 Q I1 q1
  | false => exact hb pins s1 σ H1 Q I1 q1
end
end L2

namespace L2
open PySem PySem.Spec PyProof.Rows

/-! ### a list, a tuple that is read: tracked, frozen, or an object of the module -/
def SqL (K : PySem.W.Frag) (H : Hp) (a : Addr) (xs : List V) : Prop :=
  Rd H a (.lst xs) ∨
    ∃ (o : Obj) (its : Array Value) (n : Nat), K.lookup a = some o ∧ o.cls = .type "list" ∧ o.dict = none ∧ o.data = .seq its n ∧ its.size ≤ sizeLine ∧ Vals xs its.toList
def SqT (K : PySem.W.Frag) (H : Hp) (a : Addr) (xs : List V) : Prop :=
  Rd H a (.tup xs) ∨
    ∃ (o : Obj) (its : Array Value) (n : Nat), K.lookup a = some o ∧ o.cls = .type "tuple" ∧ o.data = .seq its n ∧ its.size ≤ sizeLine ∧ Vals xs its.toList
def absV : Value → Option V
  | .none => some .non
  | .bool b => some (.bl b)
  | .int i _ => some (.int i)
  | .str x _ => some (.str x)
  | .bytes b _ => some (.byt b)
  | .float b _ => some (.flt b)
  | .ref a => some (.ref a)
  | .type n => some (.ty n)
  | _ => none
theorem RelV.abs {x : V} {u : Value} (r : RelV x u) : absV u = some x := by
  cases x with
  | non => cases r; rfl
  | bl _ => cases r; rfl
  | int _ => obtain ⟨t, rfl⟩ := r; rfl
  | str _ => obtain ⟨t, rfl⟩ := r; rfl
  | byt _ => obtain ⟨t, rfl⟩ := r; rfl
  | flt _ => obtain ⟨t, rfl⟩ := r; rfl
  | ref _ => cases r; rfl
  | ty _ => cases r; rfl
theorem RelV.inj {x y : V} {u : Value} (r : RelV x u) (q : RelV y u) : x = y := Option.some.inj (r.abs.symm.trans q.abs)
theorem Vals.inj : ∀ {xs ys : List V} {us : List Value}, Vals xs us → Vals ys us → xs = ys
  | _, _, _, .nil, .nil => rfl
  | _, _, _, .cons r t, .cons r' t' => by rw [r.inj r', Vals.inj t t']
section
variable {X : Cx} {pins : List (Addr × Obj)} {σ : St} {H : Hp} {s : Shared} {a : Addr} {xs ys : List V}
theorem SqL.of {K : PySem.W.Frag} (h : H a = some (.lst xs)) : SqL K H a xs := .inl (.inl h)
theorem SqT.of {K : PySem.W.Frag} (h : H a = some (.tup xs)) : SqT K H a xs := .inl (.inl h)
theorem Inv.list (I : Inv X pins σ H s) (h : SqL X.K H a xs) : ∃ its : List Value, Vals xs its ∧ PlainL s.heap a its.toArray ∧ xs.length ≤ sizeLine := by
  rcases h with h | ⟨o, its, n, hk, hc, hd, hs, hz, r⟩
  · obtain ⟨z, its, n, r, e⟩ := h.ok I.hok
    exact ⟨its, r, ⟨_, n, e, rfl, rfl, rfl⟩, z⟩
  · refine ⟨its.toList, r, ⟨o, n, I.kIn a o hk, hc, hd, by simpa using hs⟩, ?_⟩
    have e := r.length
    simp only [Array.length_toList] at e
    omega
theorem Inv.tuple (I : Inv X pins σ H s) (h : SqT X.K H a xs) : ∃ its : List Value, Vals xs its ∧ IsTup s.heap a its.toArray ∧ xs.length ≤ sizeLine := by
  rcases h with h | ⟨o, its, n, hk, hc, hs, hz, r⟩
  · obtain ⟨z, its, r, p⟩ := h.ok I.hok
    exact ⟨its, r, p, z⟩
  · refine ⟨its.toList, r, ⟨o, I.kIn a o hk, hc, n, by simpa using hs⟩, ?_⟩
    have e := r.length
    simp only [Array.length_toList] at e
    omega
theorem Inv.list_inj (I : Inv X pins σ H s) (h : SqL X.K H a xs) (h' : SqL X.K H a ys) : xs = ys := by
  obtain ⟨its, r, ⟨o, n, e, _, _, d⟩, _⟩ := I.list h
  obtain ⟨its', r', ⟨o', n', e', _, _, d'⟩, _⟩ := I.list h'
  rw [e] at e'; cases e'
  rw [d] at d'
  injection d' with d1 _
  have : its = its' := by simpa using congrArg Array.toList d1
  subst this
  exact r.inj r'
theorem Inv.tuple_inj (I : Inv X pins σ H s) (h : SqT X.K H a xs) (h' : SqT X.K H a ys) : xs = ys := by
  obtain ⟨its, r, ⟨o, e, _, n, d⟩, _⟩ := I.tuple h
  obtain ⟨its', r', ⟨o', e', _, n', d'⟩, _⟩ := I.tuple h'
  rw [e] at e'; cases e'
  rw [d] at d'
  injection d' with d1 _
  have : its = its' := by simpa using congrArg Array.toList d1
  subst this
  exact r.inj r'
end

/-! ### another wish about exceptions -/
abbrev Cx.wish (X : Cx) (E : Value → Shared → Prop) : Cx := { X with xe := E }
/-- no exception leaves -/
abbrev Cx.nox (X : Cx) : Cx := X.wish fun _ _ => False
theorem Cx.Ok.wish {X : Cx} (ok : X.Ok) (E : Value → Shared → Prop) : (X.wish E).Ok :=
  ⟨ok.mod, ok.kind, ok.glob, ok.blt, ok.above, ok.inj, ok.has, ok.cab, ok.hd, ok.frames, ok.stk, ok.exf, ok.bs, ok.bsz, ok.noex, ok.exfs, ok.funs, ok.frf⟩
theorem Cx.Ok.unwish {X : Cx} {E : Value → Shared → Prop} (ok : (X.wish E).Ok) : X.Ok :=
  ⟨ok.mod, ok.kind, ok.glob, ok.blt, ok.above, ok.inj, ok.has, ok.cab, ok.hd, ok.frames, ok.stk, ok.exf, ok.bs, ok.bsz, ok.noex, ok.exfs, ok.funs, ok.frf⟩
section
variable {X : Cx} {pins : List (Addr × Obj)} {σ : St} {H : Hp} {s : Shared} {E : Value → Shared → Prop}
theorem Inv.wish (I : Inv X pins σ H s) (E : Value → Shared → Prop) : Inv (X.wish E) pins σ H s := ⟨I.ok.wish E, I.os, I.bare, I.base, I.loc, I.cell, I.free, I.freeC, I.pin, I.hok, I.len⟩
theorem Inv.unwish (I : Inv (X.wish E) pins σ H s) : Inv X pins σ H s := ⟨I.ok.unwish, I.os, I.bare, I.base, I.loc, I.cell, I.free, I.freeC, I.pin, I.hok, I.len⟩
theorem SP.unwish {D : Ends} {f : Flow} {s' : Shared} (h : SP (X.wish E) pins D f s') : SP X pins D f s' := by
  cases f with
  | next => obtain ⟨σ', H', I, q⟩ := h; exact ⟨σ', H', I.unwish, q⟩
  | brk => obtain ⟨σ', H', I, q⟩ := h; exact ⟨σ', H', I.unwish, q⟩
  | cont => obtain ⟨σ', H', I, q⟩ := h; exact ⟨σ', H', I.unwish, q⟩
  | ret u => obtain ⟨v, σ', H', I, r, q⟩ := h; exact ⟨v, σ', H', I.unwish, r, q⟩
theorem PSs.nox {st : List Stmt} {t : TS} (h : PSs X.nox st t) : PSs X st t := fun pins s σ H D I hw =>
  wpAny_mono (h pins s σ H D (I.wish _) hw) (fun _ _ q => q.unwish) fun _ _ z => False.elim z
end

/-! ### blocks and small statements -/
section
variable {X : Cx} {st : Stmt} {rest : List Stmt} {t u : TS} {e : Expr} {te : TE} {pos : Pos}
def tNext : TS := fun D σ H => D.nx σ H
def tSeq (t u : TS) : TS := fun D σ H => t { D with nx := u D } σ H
theorem pss_nil : PSs X [] tNext := fun _ _ σ H _ I h => wpAny_execs_nil ⟨σ, H, I, h⟩
theorem pss_cons (h1 : PS X st t) (h2 : PSs X rest u) : PSs X (st :: rest) (tSeq t u) := by
  intro pins s σ H D I h
  refine wpAny_execs_cons (thn (h1 pins s σ H { D with nx := u D } I h) fun f s1 q => ?_)
  cases f with
  | next =>
    obtain ⟨σ', H', I', q⟩ := q
    exact h2 pins s1 σ' H' D I' q
  | ret v => exact q
  | brk => exact q
  | cont => exact q
theorem pss_one (h1 : PS X st t) : PSs X [st] t := by
  intro pins s σ H D I h
  refine wpAny_execs_cons (thn (h1 pins s σ H D I h) fun f s1 q => ?_)
  cases f with
  | next => exact wpAny_execs_nil q
  | ret v => exact q
  | brk => exact q
  | cont => exact q
def tBreak : TS := fun D σ H => D.bk σ H
def tCont : TS := fun D σ H => D.ct σ H
/-- in a def's body nothing is shown -/
theorem Inv.quiet {pins : List (Addr × Obj)} {σ : St} {H : Hp} {s : Shared} (I : Inv X pins σ H s) : interactive X.env = false := by simp [interactive, I.ok.kind]
/-- an expression whose value is dropped -/
def tDrop (te : TE) : TS := fun D σ H => te σ H fun _ H1 => D.nx σ H1
theorem ps_expr (he : PE X e te) (hs : swapsWith e none pos.line X.env = pure false := by rfl) : PS X (.Expr e pos) (tDrop te) := by
  intro pins s σ H D I h
  exact wpAny_Expr_any (thn (he pins s σ H _ I h) fun v s1 ⟨x, H1, I1, r1, q1⟩ => ⟨σ, H1, I1, q1⟩) I.quiet hs
def tRet (te : TE) : TS := fun D σ H => te σ H D.rt
theorem ps_ret (he : PE X e te) : PS X (.Return (some e) pos) (tRet te) := by
  intro pins s σ H D I h
  exact wpAny_Return_some (thn (he pins s σ H _ I h) fun v s1 ⟨x, H1, I1, r1, q1⟩ => ⟨x, σ, H1, I1, r1, q1⟩)
def tRetN : TS := fun D _ H => D.rt .non H
def tIfS (c : TT) (t u : TS) : TS := fun D σ H => c σ H fun b H1 => if b = true then t D σ H1 else u D σ H1
theorem ps_if {c : Expr} {a b : List Stmt} {tc : TT} (hc : PT X c tc) (ha : PSs X a t) (hb : PSs X b u) : PS X (.If c a b pos) (tIfS tc t u) := by
  intro pins s σ H D I h
  refine wpAny_If (thn (hc pins s σ H _ I h) fun d s1 ⟨H1, I1, q1⟩ => ?_)
  cases d with
  | true => exact ha pins s1 σ H1 D I1 q1
  | false => exact hb pins s1 σ H1 D I1 q1
/-- code that the proof never comes to -/
def tNever : TS := fun _ _ _ => False
end

/-! ### targets -/
abbrev TG := V → St → Hp → (St → Hp → Prop) → Prop
abbrev TGs := List V → St → Hp → (St → Hp → Prop) → Prop
def PG (X : Cx) (target : Expr) (t : TG) : Prop :=
  ∀ (pins : List (Addr × Obj)) (s : Shared) (σ : St) (H : Hp) (v : V) (u : Value) (Q : St → Hp → Prop), Inv X pins σ H s → RelV v u → t v σ H Q →
    wpAny (model X.prog X.w) X.A (assign target X.env u) (fun _ s' => ∃ σ' H', Inv X pins σ' H' s' ∧ Q σ' H') X.xe s
/-- several targets, one after another -/
def PGs (X : Cx) (ts : List Expr) (t : TGs) : Prop :=
  ∀ (pins : List (Addr × Obj)) (s : Shared) (σ : St) (H : Hp) (vs : List V) (us : List Value) (Q : St → Hp → Prop), Inv X pins σ H s → Vals vs us → t vs σ H Q →
    wpAny (model X.prog X.w) X.A (assignInOrder ((assignEach ts X.env).map (·.2)) us) (fun _ s' => ∃ σ' H', Inv X pins σ' H' s' ∧ Q σ' H') X.xe s
/-- o[i] = v, by values -/
abbrev TSet := V → V → V → Hp → (Hp → Prop) → Prop
def PSet (X : Cx) (t : TSet) : Prop :=
  ∀ (pins : List (Addr × Obj)) (s : Shared) (σ : St) (H : Hp) (o i v : V) (ov iv u : Value) (Q : Hp → Prop), Inv X pins σ H s → RelV o ov → RelV i iv → RelV v u → t o i v H Q →
    wpAny (model X.prog X.w) X.A (setItem ov iv u) (fun _ s' => ∃ H', Inv X pins σ H' s' ∧ Q H') X.xe s
/-- a op= b, by values -/
abbrev TIp := V → V → Hp → VK → Prop
def PIp (X : Cx) (op : Operator) (t : TIp) : Prop :=
  ∀ (pins : List (Addr × Obj)) (s : Shared) (σ : St) (H : Hp) (x y : V) (v u : Value) (Q : VK), Inv X pins σ H s → RelV x v → RelV y u → t x y H Q →
    wpAny (model X.prog X.w) X.A (inplaceOp op v u) (EP X pins σ Q) X.xe s
section
variable {X : Cx} {pos : Pos}
def gName (i : Nat) : TG := fun v σ H Q => Q (σ.set i (some v)) H
theorem pg_name {i : Nat} {x : Str} (hN : X.N.Nodup) (hi : X.N[i]? = some x) (hx : Loc X.env.scope x) (hf : X.fn x = true ∨ X.env.scope.names.lookup x = some .local := by first | exact .inl rfl | exact .inr rfl | assumption) : PG X (.Name x pos) (gName i) := by
  intro pins s σ H v u Q I r h
  exact wpAny_assign_Name (store_ok I hN hi hx r (fun s' I' => ⟨_, H, I', h⟩) hf)
def gNil : TGs := fun vs σ H Q => vs = [] ∧ Q σ H
def gCons (t : TG) (u : TGs) : TGs := fun vs σ H Q => ∃ v r, vs = v :: r ∧ t v σ H fun σ' H' => u r σ' H' Q
theorem pgs_nil : PGs X [] gNil := by
  intro pins s σ H vs us Q I r h
  obtain ⟨e, h⟩ := h
  subst e
  cases r
  exact assignInOrder_nil ⟨σ, H, I, h⟩
theorem pgs_cons {e : Expr} {es : List Expr} {t : TG} {u : TGs} (h1 : PG X e t) (h2 : PGs X es u)
    (hs : (assignEach (e :: es) X.env).map (·.2) = assign e X.env :: (assignEach es X.env).map (·.2) := by rfl) : PGs X (e :: es) (gCons t u) := by
  intro pins s σ H vs us Q I r h
  obtain ⟨v, vr, e1, h⟩ := h
  subst e1
  cases r with
  | cons r rr =>
    rw [hs]
    refine assignInOrder_cons (thn (h1 pins s σ H _ _ _ I r h) fun _ s1 ⟨σ1, H1, I1, q1⟩ => ?_)
    exact h2 pins s1 σ1 H1 _ _ Q I1 rr q1
/-- (a, b, ..) = a tuple of that length -/
def gTup (K : PySem.W.Frag) (n : Nat) (t : TGs) : TG := fun v σ H Q => ∃ a xs, v = .ref a ∧ SqT K H a xs ∧ xs.length = n ∧ t xs σ H Q
theorem pg_tup {es : List Expr} {k : Nat} {t : TGs} {n : Nat} (hc : X.calm = true) (h : PGs X es t)
    (hn : (assignEach es X.env).length = n := by rfl) (hst : (assignEach es X.env).findIdx? (·.1) = none := by rfl) : PG X (.Tuple es k pos) (gTup X.K n t) := by
  intro pins s σ H v u Q I r hw
  obtain ⟨a, xs, e1, hq, hl, hw⟩ := hw
  subst e1
  cases r
  obtain ⟨its, rv, ht, hz⟩ := I.tuple hq
  refine assign_Tuple_tuple (I.ok.hd hc) ht (by simp [hn, ← hl, rv.length]) hst fun h' hx => ?_
  have I1 : Inv X pins σ H { s with heap := h' } := I.kept (t' := s.toks) fun b o e => hx b o (Nat.ne_of_lt (Heap.lt_size e)) e
  exact h pins _ σ H xs _ Q I1 (by simpa using rv) hw
/-- o[i] = .. -/
def gSub (to ti : TE) (t : TSet) : TG := fun v σ H Q => to σ H fun o H1 => ti σ H1 fun i H2 => t o i v H2 fun H3 => Q σ H3
theorem pg_sub {o i : Expr} {to ti : TE} {t : TSet} (ho : PE X o to) (hi : PE X i ti) (hs : PSet X t)
    (ha : ∀ v, assign (.Subscript o i pos) X.env v = (do
      let ov ← holding [v] (eval o X.env)
      let iv ← holding [v, ov] (eval i X.env)
      standAt pos
      holding [v, ov, iv] (setItem ov iv v)
      release [v, ov, iv] []) := by intro _; rfl) : PG X (.Subscript o i pos) (gSub to ti t) := by
  intro pins s σ H v u Q I r h
  rw [ha]
  refine wpAny_bind (wpAny_holding (thn (ho pins s σ H _ I h) fun ov s1 ⟨x, H1, I1, r1, q1⟩ => ?_))
  refine wpAny_bind (wpAny_holding (thn (hi pins s1 σ H1 _ I1 q1) fun iv s2 ⟨y, H2, I2, r2, q2⟩ => ?_))
  refine wpAny_bind (wpAny_standAt (wpAny_bind (wpAny_holding (thn (hs pins s2 σ H2 x y v ov iv u _ I2 r1 r2 r q2) fun _ s3 ⟨H3, I3, q3⟩ => ?_))))
  exact wpAny_release ⟨σ, H3, I3, q3⟩
/-- target = value -/
def tAsg (te : TE) (g : TG) : TS := fun D σ H => te σ H fun x H1 => g x σ H1 D.nx
theorem ps_asg {tg e : Expr} {te : TE} {g : TG} (he : PE X e te) (hg : PG X tg g) (hs : swapsWithSole [tg] e pos.line X.env = pure false := by rfl) (hw : swappedStores [tg] e X.env = pure none := by rfl)
    (h1 : (assignEach [tg] X.env).map (·.2) = [assign tg X.env] := by rfl) : PS X (.Assign [tg] e pos) (tAsg te g) := by
  intro pins s σ H D I h
  refine wpAny_Assign_stores (thn (he pins s σ H _ I h) fun v s1 ⟨x, H1, I1, r1, q1⟩ => ?_) hs hw
  rw [h1]
  exact thn (hg pins s1 σ H1 x v _ I1 r1 q1) fun _ s2 q => q
/-- name = value -/
theorem ps_set {i : Nat} {x : Str} {e : Expr} {te : TE} {pos' : Pos} (hN : X.N.Nodup) (hi : X.N[i]? = some x) (hx : Loc X.env.scope x) (he : PE X e te) (hs : swapsWith e (some (.Name x pos')) pos.line X.env = pure false := by rfl) (hf : X.fn x = true ∨ X.env.scope.names.lookup x = some .local := by first | exact .inl rfl | exact .inr rfl | assumption) :
    PS X (.Assign [.Name x pos'] e pos) (tAsg te (gName i)) := by
  intro pins s σ H D I h
  refine wpAny_Assign_Name (thn (he pins s σ H _ I h) fun v s1 ⟨y, H1, I1, r1, q1⟩ => ?_) hs
  exact store_ok I1 hN hi hx r1 (fun s2 I2 => ⟨_, H1, I2, q1⟩) hf
/-- a, b = x, y with plain local names: stored from the right; the pair itself is not tracked (the opening rows as in PyProof/Rows/TupAssign.lean:23) -/
def tPar (i j : Nat) (ta : TA) : TS := fun D σ H => ta σ H fun vs H1 => ∃ v w, vs = [v, w] ∧ D.nx ((σ.set i (some v)).set j (some w)) H1
/-- name op= e -/
def tAug (i : Nat) (te : TE) (ti : TIp) : TS := fun D σ H => ∃ x, σ[i]? = some (some x) ∧ te σ H fun y H1 => ti x y H1 fun z H2 => D.nx (σ.set i (some z)) H2
/-- o[i] op= e -/
def tAugS (to ti te : TE) (tget : V → V → Hp → VK → Prop) (tip : TIp) (tset : TSet) : TS := fun D σ H => to σ H fun o H1 => ti σ H1 fun i H2 => tget o i H2 fun x H3 => te σ H3 fun y H4 => tip x y H4 fun z H5 => tset o i z H5 fun H6 => D.nx σ H6
/-- o[i], by values -/
def PGet (X : Cx) (t : V → V → Hp → VK → Prop) : Prop :=
  ∀ (pins : List (Addr × Obj)) (s : Shared) (σ : St) (H : Hp) (o i : V) (ov iv : Value) (Q : VK), Inv X pins σ H s → RelV o ov → RelV i iv → t o i H Q →
    wpAny (model X.prog X.w) X.A (getItem ov iv) (EP X pins σ Q) X.xe s
/-- ints -/
def ipI (f : Int → Int → Int) : TIp := fun x y H Q => ∃ i j, x = .int i ∧ y = .int j ∧ Q (.int (f i j)) H
end

/-! ### while -/
section
variable {X : Cx} {pos : Pos}
/-- the invariant W with its measure -/
def tWhile (c : TT) (tb : TS) : TS := fun D σ H => ∃ W : Nat → St → Hp → Prop, (∃ m, W m σ H) ∧ ∀ m σ H, W m σ H →
  c σ H fun b H1 => if b = true then ∃ N : St → Hp → Prop, (∀ σ' H', N σ' H' → ∃ m', m' < m ∧ W m' σ' H') ∧ tb { D with nx := N, ct := N, bk := D.nx } σ H1 else D.nx σ H1
theorem ps_while {c : Expr} {body : List Stmt} {tc : TT} {tb : TS} (hp : PassesOwn (model X.prog X.w) X.A X.env X.xe) (hc : PT X c tc) (hb : PSs X body tb) : PS X (.While c body [] pos) (tWhile tc tb) := by
  intro pins s σ H D I h
  obtain ⟨W, ⟨m0, w0⟩, turn⟩ := h
  refine wpAny_While (codeAny_whileLoop (fun n s' => ∃ σ' H', Inv X pins σ' H' s' ∧ W n σ' H') ?_ m0 ⟨σ, H, I, w0⟩)
  rintro n s1 ⟨σ1, H1, I1, w1⟩
  refine wpAny_passesOwn hp (thn (hc pins s1 σ1 H1 _ I1 (turn n σ1 H1 w1)) fun b s2 ⟨H2, I2, q2⟩ => ?_)
  cases b with
  | true =>
    obtain ⟨N, hN, q2⟩ := q2
    rw [if_pos rfl]
    refine wpAny_passesOwn hp (thn (hb pins s2 σ1 H2 _ I2 q2) fun f s3 q3 => ?_)
    cases f with
    | next =>
      obtain ⟨σ3, H3, I3, n3⟩ := q3
      obtain ⟨m', hm, w3⟩ := hN σ3 H3 n3
      exact ⟨m', hm, σ3, H3, I3, w3⟩
    | cont =>
      obtain ⟨σ3, H3, I3, n3⟩ := q3
      obtain ⟨m', hm, w3⟩ := hN σ3 H3 n3
      exact ⟨m', hm, σ3, H3, I3, w3⟩
    | brk => exact q3
    | ret v => exact q3
  | false =>
    rw [if_neg Bool.false_ne_true]
    exact wpAny_execs_nil ⟨σ1, H2, I2, q2⟩
end

/-! ### what a loop or a comprehension walks -/
/-- at turn i: it yields x (the heap may grow), or it stops -/
structure It where
  go : Nat → Hp → Prop
  yld : Nat → Hp → V → Hp → Prop
  stop : Nat → Hp → Prop
/-- the iterator's own objects may turn: they are not the frame's, not pinned, younger than the entry (or a comprehension's own) -/
def FpOk (X : Cx) (pins : List (Addr × Obj)) (H : Hp) (b : Addr) : Prop :=
  H b = none ∧ b ≠ X.env.locals ∧ b ∉ X.fs ∧ (b ∈ X.ex ∨ X.s₀.heap.objs.size ≤ b) ∧ (∀ x c, X.env.cells.lookup x = some c → c ≠ b) ∧ ∀ p ∈ X.pn ++ pins, p.1 ≠ b
theorem Inv.fpOk {X : Cx} {pins : List (Addr × Obj)} {σ : St} {H H' : Hp} {s : Shared} {b : Addr} (I : Inv X pins σ H s) (hb : s.heap.objs.size ≤ b) (hn : H' b = none) : FpOk X pins H' b := by
  refine ⟨hn, Nat.ne_of_gt (Nat.lt_of_lt_of_le I.lt hb), I.nofs hb, .inr (Nat.le_trans I.sz hb), fun x c e z => ?_, fun p hp z => ?_⟩
  · obtain ⟨v, q⟩ := I.cell x c e
    exact absurd (Nat.lt_of_lt_of_le q.lt (by rw [z]; exact hb)) (Nat.lt_irrefl _)
  · exact absurd (Nat.lt_of_lt_of_le (Heap.lt_size (I.pin p hp).1) (by rw [z]; exact hb)) (Nat.lt_irrefl _)
structure Turn (P : Program) (w : World) (K : PySem.W.Frag) (tg : Expr) (J : It) (fp : List Addr) (it : Addr) (tn : Nat → Heap → Prop) : Prop where
  mem : it ∈ fp
  obj : ∀ i h, tn i h → ∀ b ∈ fp, ∃ o, h.get? b = some o ∧ ∀ v, o.data ≠ .cell v
  keep : ∀ i h h', tn i h → (∀ b ∈ fp, ∀ o, h.get? b = some o → h'.get? b = some o) → tn i h'
  item : ∀ (X : Cx), X.prog = P → X.w = w → X.K = K → X.calm = true → ∀ (i : Nat) (pins : List (Addr × Obj)) (s : Shared) (σ : St) (H : Hp) (E : Value → Shared → Prop), Inv X pins σ H s → (∀ b ∈ fp, FpOk X pins H b) → tn i s.heap → J.go i H →
    wpAny (model P w) X.A (pyNext (.ref it)) (fun r s1 => ∃ u, r = some u ∧
      wpAny (model P w) X.A (letOwnedTupleGo tg (.ref it) u) (fun _ s2 => ∃ x H', Inv X pins σ H' s2 ∧ RelV x u ∧ J.yld i H x H' ∧ tn (i + 1) s2.heap ∧ ∀ b ∈ fp, H' b = none) E s1) E s
  done : ∀ (X : Cx), X.prog = P → X.w = w → X.K = K → X.calm = true → ∀ (i : Nat) (pins : List (Addr × Obj)) (s : Shared) (σ : St) (H : Hp) (E : Value → Shared → Prop), Inv X pins σ H s → (∀ b ∈ fp, FpOk X pins H b) → tn i s.heap → J.stop i H →
    wpAny (model P w) X.A (pyNext (.ref it)) (fun r s1 => r = none ∧ Inv X pins σ H s1) E s
  self : ∀ (A : Around) (i : Nat) (s : Shared) (Q : Value → Shared → Prop) (E : Value → Shared → Prop), tn i s.heap → Q (.ref it) s → wpAny (model P w) A (pyIter (.ref it)) Q E s
abbrev TI := St → Hp → (It → Hp → Prop) → Prop
/-- an iterator has come -/
def PIE (X : Cx) (pins : List (Addr × Obj)) (σ : St) (tg : Expr) (R : It → Hp → Prop) (itv : Value) (s2 : Shared) : Prop :=
  ∃ (it : Addr) (fp : List Addr) (tn : Nat → Heap → Prop) (J : It) (H' : Hp), itv = .ref it ∧ Inv X pins σ H' s2 ∧ Turn X.prog X.w X.K tg J fp it tn ∧ tn 0 s2.heap ∧ (∀ b ∈ fp, FpOk X pins H' b) ∧ R J H'
def PI (X : Cx) (tg iter : Expr) (wi : TI) : Prop :=
  ∀ (pins : List (Addr × Obj)) (s : Shared) (σ : St) (H : Hp) (R : It → Hp → Prop), Inv X pins σ H s → wi σ H R →
    wpAny (model X.prog X.w) X.A (eval iter X.env) (fun v s1 => wpAny (model X.prog X.w) X.A (pyIter v) (PIE X pins σ tg R) X.xe s1) X.xe s

/-- the step ahead of the store is nothing for an iterator that keeps no tuple -/
theorem go_of {M : Model} {A : Around} {E : Value → Shared → Prop} {s : Shared} {tg : Expr} {it : Addr} {u : Value} {o : Obj} {n : String} {vs : Array Value} {Q : Unit → Shared → Prop} (ho : s.heap.get? it = some o) (hc : o.cls = .type n) (hd : o.data = .fields vs)
    (hn : ["enumerate", "zip", "dict_itemiterator", "dict_reverseitemiterator", "odict_iterator", "itertools.zip_longest", "itertools.pairwise"].contains n = false) (hQ : Q () s) : wpAny M A (letOwnedTupleGo tg (.ref it) u) Q E s := by
  unfold letOwnedTupleGo
  cases tg <;> first
    | exact wpAny_pure hQ
    | (cases u <;> first
        | exact wpAny_pure hQ
        | (refine wpAny_bind (wpAny_load ho ?_)
           rw [hc, hd]
           show wpAny M A (if (["enumerate", "zip", "dict_itemiterator", "dict_reverseitemiterator", "odict_iterator", "itertools.zip_longest", "itertools.pairwise"].contains n && vs[0]? == some (rawInt _)) = true then _ else _) Q E s
           rw [if_neg (by intro h; rw [hn, Bool.false_and] at h; cases h)]
           exact wpAny_pure hQ))

/-- the list at a, as it stands at each turn (a loop may append to it) -/
def Itl (K : PySem.W.Frag) (a : Addr) : It :=
  ⟨fun i H => ∃ xs x, SqL K H a xs ∧ xs[i]? = some x, fun i H x H' => H' = H ∧ ∀ xs, SqL K H a xs → xs[i]? = some x, fun i H => ∃ xs, SqL K H a xs ∧ xs.length ≤ i⟩
def Itt (K : PySem.W.Frag) (a : Addr) : It :=
  ⟨fun i H => ∃ xs x, SqT K H a xs ∧ xs[i]? = some x, fun i H x H' => H' = H ∧ ∀ xs, SqT K H a xs → xs[i]? = some x, fun i H => ∃ xs, SqT K H a xs ∧ xs.length ≤ i⟩
/-- lo, lo + 1, .. (n of them) -/
def Itr (lo : Int) (n : Nat) : It := ⟨fun i _ => i < n, fun i H x H' => H' = H ∧ x = .int (lo + i), fun i _ => n ≤ i⟩
theorem turn_list {P : Program} {w : World} {K : PySem.W.Frag} {tg : Expr} (a it : Addr) : Turn P w K tg (Itl K a) [it] it (fun i h => h.IsListIter it a i) where
  mem := by simp
  obj := fun i h st b hb => by
    have e : b = it := by simpa using hb
    subst e
    obtain ⟨o, e, c, d⟩ := st
    exact ⟨o, e, fun v z => by rw [d] at z; cases z⟩
  keep := fun i h h' st k => st.at fun o e => k it (by simp) o e
  item := by
    intro X hP hw hK hc i pins s σ H E I hf st hg
    subst hP hw hK
    obtain ⟨xs, x, hq, hx⟩ := hg
    obtain ⟨its, rv, p, hz⟩ := I.list hq
    obtain ⟨u, hu, ru⟩ := rv.get hx
    obtain ⟨f0, f1, f2, f3, f4, f5⟩ := hf it (by simp)
    refine wpAny_pyNext_list_item st p.isList (x := u) (by simpa using hu) fun h' st' sb => ?_
    have I1 : Inv X pins σ H { s with heap := h' } := I.turned (t' := s.toks) (fun b o hb e => (sb.2 b hb).trans e) f0 f1 f3 f4 f5
    obtain ⟨o, e, c, d⟩ := id st'
    exact ⟨u, rfl, go_of (s := { s with heap := h' }) e c d (by decide) ⟨x, H, I1, ru, ⟨rfl, fun ys hy => by rw [I.list_inj hy hq]; exact hx⟩, st', fun b hb => (hf b hb).1⟩⟩
  done := by
    intro X hP hw hK hc i pins s σ H E I hf st hg
    subst hP hw hK
    obtain ⟨xs, hq, hx⟩ := hg
    obtain ⟨its, rv, p, hz⟩ := I.list hq
    obtain ⟨f0, f1, f2, f3, f4, f5⟩ := hf it (by simp)
    have hl := rv.length
    exact wpAny_pyNext_list_end (I.ok.hd hc) st p.isList (by simp; omega) fun h' eb => ⟨rfl, I.turned (t' := s.toks) (fun b o hb e => eb b o hb e) f0 f1 f3 f4 f5⟩
  self := fun _ _ _ _ _ st h => wpAny_pyIter_listiter st h
theorem turn_tuple {P : Program} {w : World} {K : PySem.W.Frag} {tg : Expr} (a it : Addr) : Turn P w K tg (Itt K a) [it] it (fun i h => h.IsTupleIter it a i) where
  mem := by simp
  obj := fun i h st b hb => by
    have e : b = it := by simpa using hb
    subst e
    obtain ⟨o, e, c, d⟩ := st
    exact ⟨o, e, fun v z => by rw [d] at z; cases z⟩
  keep := fun i h h' st k => st.at fun o e => k it (by simp) o e
  item := by
    intro X hP hw hK hc i pins s σ H E I hf st hg
    subst hP hw hK
    obtain ⟨xs, x, hq, hx⟩ := hg
    obtain ⟨its, rv, p, hz⟩ := I.tuple hq
    obtain ⟨u, hu, ru⟩ := rv.get hx
    obtain ⟨f0, f1, f2, f3, f4, f5⟩ := hf it (by simp)
    refine wpAny_pyNext_tuple_item st (show s.heap.IsTuple a its.toArray from p) (x := u) (by simpa using hu) fun h' st' sb => ?_
    have I1 : Inv X pins σ H { s with heap := h' } := I.turned (t' := s.toks) (fun b o hb e => (sb.2 b hb).trans e) f0 f1 f3 f4 f5
    obtain ⟨o, e, c, d⟩ := id st'
    exact ⟨u, rfl, go_of (s := { s with heap := h' }) e c d (by decide) ⟨x, H, I1, ru, ⟨rfl, fun ys hy => by rw [I.tuple_inj hy hq]; exact hx⟩, st', fun b hb => (hf b hb).1⟩⟩
  done := by
    intro X hP hw hK hc i pins s σ H E I hf st hg
    subst hP hw hK
    obtain ⟨xs, hq, hx⟩ := hg
    obtain ⟨its, rv, p, hz⟩ := I.tuple hq
    obtain ⟨f0, f1, f2, f3, f4, f5⟩ := hf it (by simp)
    have hl := rv.length
    exact wpAny_pyNext_tuple_end (I.ok.hd hc) st (show s.heap.IsTuple a its.toArray from p) (by simp; omega) fun h' eb => ⟨rfl, I.turned (t' := s.toks) (fun b o hb e => eb b o hb e) f0 f1 f3 f4 f5⟩
  self := fun _ _ _ _ _ st h => wpAny_pyIter_tupleiter st h
theorem turn_range {P : Program} {w : World} {K : PySem.W.Frag} {tg : Expr} (it : Addr) (lo : Int) (n : Nat) : Turn P w K tg (Itr lo n) [it] it (fun i h => IsRangeIter h it (lo + (i : Nat) * 1) ((n : Int) - (i : Nat)) 1) where
  mem := by simp
  obj := fun i h st b hb => by
    have e : b = it := by simpa using hb
    subst e
    exact ⟨_, st, fun v z => by
      have z' : Data.fields _ = Data.cell v := z
      cases z'⟩
  keep := fun i h h' st k => k it (by simp) _ st
  item := by
    intro X hP hw hK hc i pins s σ H E I hf st hg
    subst hP hw hK
    obtain ⟨f0, f1, f2, f3, f4, f5⟩ := hf it (by simp)
    have W := Walks.range (prog := X.prog) (w := X.w) (I.ok.hd hc) it lo 1 n
    refine W.item i s _ _ hg st fun v h' tk hv st' kk => ?_
    obtain ⟨t, rfl⟩ := hv
    have I1 : Inv X pins σ H { s with heap := h', toks := tk } := I.turned (fun b o hb e => kk b o (by simpa using hb) e) f0 f1 f3 f4 f5
    refine ⟨_, rfl, go_of (s := { s with heap := h', toks := tk }) (n := "range_iterator") st' rfl rfl (by decide) ⟨.int (lo + i), H, I1, ⟨t, ?_⟩, ⟨rfl, rfl⟩, st', fun b hb => (hf b hb).1⟩⟩
    rw [Int.mul_one]
  done := by
    intro X hP hw hK hc i pins s σ H E I hf st hg
    subst hP hw hK
    obtain ⟨f0, f1, f2, f3, f4, f5⟩ := hf it (by simp)
    exact wpAny_pyNext_range_end (I.ok.hd hc) st (by have : n ≤ i := hg; omega) fun h' eb => ⟨rfl, I.turned (t' := s.toks) (fun b o hb e => eb b o hb e) f0 f1 f3 f4 f5⟩
  self := fun _ _ _ _ _ st h => wpAny_pyIter_rangeiter st h
end L2

namespace L2
open PySem PySem.Spec PyProof.Rows
section
variable {X : Cx} {tg : Expr}
def iList (K : PySem.W.Frag) (tl : TE) : TI := fun σ H R => tl σ H fun x H1 => ∃ a, x = .ref a ∧ (∃ xs, SqL K H1 a xs) ∧ R (Itl K a) H1
def iTup (K : PySem.W.Frag) (tl : TE) : TI := fun σ H R => tl σ H fun x H1 => ∃ a, x = .ref a ∧ (∃ xs, SqT K H1 a xs) ∧ R (Itt K a) H1
theorem pi_list {l : Expr} {tl : TE} (hl : PE X l tl) : PI X tg l (iList X.K tl) := by
  intro pins s σ H R I h
  refine thn (hl pins s σ H _ I h) fun v s1 ⟨x, H1, I1, r1, q1⟩ => ?_
  obtain ⟨a, e, ⟨xs, hq⟩, q⟩ := q1
  subst e
  cases r1
  obtain ⟨its, rv, p, hz⟩ := I1.list hq
  refine wpAny_pyIter_list p.isList ?_
  refine ⟨s1.heap.objs.size, [s1.heap.objs.size], _, _, H1, rfl, I1.kept (t' := s1.toks) fun b o e => Heap.get?_push_of_some _ e, turn_list a _, ⟨_, Heap.get?_push_size _ rfl, rfl, rfl⟩, fun b hb => ?_, q⟩
  have e : b = s1.heap.objs.size := by simpa using hb
  subst e
  exact I1.fpOk (Nat.le_refl _) (I1.hok.fresh (Nat.le_refl _))
theorem pi_tup {l : Expr} {tl : TE} (hl : PE X l tl) : PI X tg l (iTup X.K tl) := by
  intro pins s σ H R I h
  refine thn (hl pins s σ H _ I h) fun v s1 ⟨x, H1, I1, r1, q1⟩ => ?_
  obtain ⟨a, e, ⟨xs, hq⟩, q⟩ := q1
  subst e
  cases r1
  obtain ⟨its, rv, p, hz⟩ := I1.tuple hq
  refine wpAny_pyIter_tuple (show s1.heap.IsTuple a its.toArray from p) ?_
  refine ⟨s1.heap.objs.size, [s1.heap.objs.size], _, _, H1, rfl, I1.kept (t' := s1.toks) fun b o e => Heap.get?_push_of_some _ e, turn_tuple a _, ⟨_, Heap.get?_push_size _ rfl, rfl, rfl⟩, fun b hb => ?_, q⟩
  have e : b = s1.heap.objs.size := by simpa using hb
  subst e
  exact I1.fpOk (Nat.le_refl _) (I1.hok.fresh (Nat.le_refl _))
/-- a range object just made, walked -/
theorem range_it {pins : List (Addr × Obj)} {σ : St} {H : Hp} {s : Shared} {R : It → Hp → Prop} {E : Value → Shared → Prop} {lo hi : Int} {t u v : Tok} {tk : Nat} (I : Inv X pins σ H s) (h1 : -(2 ^ 62) ≤ lo) (h2 : lo < 2 ^ 62) (h3 : -(2 ^ 62) ≤ hi) (h4 : hi < 2 ^ 62)
    (q : R (Itr lo (hi - lo).toNat) H) : wpAny (model X.prog X.w) X.A (pyIter (.ref s.heap.objs.size)) (PIE X pins σ tg R) E { s with heap := s.heap.push { cls := .type "range", data := .fields #[.int lo t, .int hi u, .int 1 v] }, toks := tk } := by
  refine wpAny_pyIter_range (IsRange.new ..) (small_one h1 h2 h3 h4) ?_
  have I1 : Inv X pins σ H { s with heap := s.heap.push { cls := .type "range", data := .fields #[.int lo t, .int hi u, .int 1 v] }, toks := tk } := I.kept fun b o e => Heap.get?_push_of_some _ e
  refine ⟨(s.heap.push { cls := .type "range", data := .fields #[.int lo t, .int hi u, .int 1 v] }).objs.size, [(s.heap.push { cls := .type "range", data := .fields #[.int lo t, .int hi u, .int 1 v] }).objs.size], _, _, H, rfl,
    I1.kept (t' := tk) fun b o e => Heap.get?_push_of_some _ e, turn_range _ lo (hi - lo).toNat, ?_, fun b hb => ?_, q⟩
  · have e1 : lo + ((0 : Nat) : Int) * 1 = lo := by simp
    have e2 : (((hi - lo).toNat : Nat) : Int) - ((0 : Nat) : Int) = Builtin.Range.rangeSize lo hi 1 := by rw [rangeSize_one]; split <;> omega
    show IsRangeIter _ _ (lo + ((0 : Nat) : Int) * 1) ((((hi - lo).toNat : Nat) : Int) - ((0 : Nat) : Int)) 1
    rw [e1, e2]
    exact Heap.get?_push_size _ rfl
  · have e : b = (s.heap.push { cls := .type "range", data := .fields #[.int lo t, .int hi u, .int 1 v] }).objs.size := by simpa using hb
    subst e
    exact I1.fpOk (Nat.le_refl _) (I1.hok.fresh (Nat.le_refl _))
def iRng1 (ta : TA) : TI := fun σ H R => ta σ H fun vs H1 => ∃ j : Int, vs = [.int j] ∧ -(2 ^ 62) ≤ j ∧ j < 2 ^ 62 ∧ R (Itr 0 j.toNat) H1
def iRng2 (ta : TA) : TI := fun σ H R => ta σ H fun vs H1 => ∃ i j : Int, vs = [.int i, .int j] ∧ (-(2 ^ 62) ≤ i ∧ i < 2 ^ 62 ∧ -(2 ^ 62) ≤ j ∧ j < 2 ^ 62) ∧ R (Itr i (j - i).toNat) H1
theorem pi_range1 {a : Expr} {ta : TA} {p pos : Pos} (hg : Gl X "range") (hm : X.mg "range" = none) (ha : PA X [a] ta) (hs : starEach [a] X.env = [(false, eval a X.env)] := by rfl) : PI X tg (.Call (.Name "range" p) [a] [] pos) (iRng1 ta) := by
  intro pins s σ H R I h
  refine Call_ (ld_blt I hg hm boot_range (PyProof.Rows.callWith_type1 (thn (ha pos pins s σ H _ I h) fun us s1 ⟨vs, H1, I1, r1, q1⟩ => ?_) hs rfl))
  obtain ⟨j, e, q1, q2, q⟩ := q1
  subst e
  cases r1 with
  | cons r rr =>
    cases rr
    obtain ⟨t, rfl⟩ := r
    exact call_range_1 (range_it I1 (by omega) (by omega) q1 q2 (by simpa using q))
/-! ### for -/
/-- W: the invariant by the turn and a measure; N: what the body is to reach -/
def tFor (wi : TI) (g : TG) (tb : TS) : TS := fun D σ H => wi σ H fun J H1 => ∃ W : Nat → Nat → St → Hp → Prop, (∃ m, W 0 m σ H1) ∧ ∀ i m σ H, W i m σ H →
  (J.stop i H ∧ D.nx σ H) ∨ (J.go i H ∧ ∃ N : St → Hp → Prop, (∀ σ' H', N σ' H' → ∃ m', m' < m ∧ W (i + 1) m' σ' H') ∧ ∀ x H', J.yld i H x H' → g x σ H' fun σ2 H2 => tb { D with nx := N, ct := N, bk := D.nx } σ2 H2)
/-- the records at fp as they stand -/
def pinsAt (fp : List Addr) (h : Heap) : List (Addr × Obj) := fp.filterMap fun b => (h.get? b).map fun o => (b, o)
theorem mem_pinsAt {fp : List Addr} {h : Heap} {b : Addr} {o : Obj} (hb : b ∈ fp) (e : h.get? b = some o) : (b, o) ∈ pinsAt fp h := List.mem_filterMap.mpr ⟨b, hb, by rw [e]; rfl⟩
theorem of_pinsAt {fp : List Addr} {h : Heap} {p : Addr × Obj} (hp : p ∈ pinsAt fp h) : p.1 ∈ fp ∧ h.get? p.1 = some p.2 := by
  obtain ⟨b, hb, e⟩ := List.mem_filterMap.mp hp
  cases q : h.get? b with
  | none => rw [q] at e; cases e
  | some o =>
    rw [q] at e
    have e' : (b, o) = p := Option.some.inj e
    subst e'
    exact ⟨hb, q⟩
theorem Inv.pinned {pins : List (Addr × Obj)} {σ : St} {H : Hp} {s : Shared} {fp : List Addr} (I : Inv X pins σ H s) (hf : ∀ b ∈ fp, FpOk X pins H b) (ho : ∀ b ∈ fp, ∃ o, s.heap.get? b = some o ∧ ∀ v, o.data ≠ .cell v) : Inv X (pins ++ pinsAt fp s.heap) σ H s :=
  I.pins_of fun p hp => (List.mem_append.mp hp).elim (fun z => I.pin p (List.mem_append_right _ z)) fun z => by
    obtain ⟨hb, e⟩ := of_pinsAt z
    obtain ⟨f0, f1, f2, _⟩ := hf p.1 hb
    obtain ⟨o, e', d⟩ := ho p.1 hb
    rw [e] at e'; cases e'
    exact ⟨e, f0, f1, f2, d⟩
theorem Inv.unpinned {pins pl : List (Addr × Obj)} {σ : St} {H : Hp} {s : Shared} (I : Inv X (pins ++ pl) σ H s) : Inv X pins σ H s := I.pins_of fun p hp => I.pin p (List.mem_append_right _ (List.mem_append_left _ hp))
theorem ps_for {iter : Expr} {body : List Stmt} {wi : TI} {g : TG} {tb : TS} {pos : Pos} (hp : PassesOwn (model X.prog X.w) X.A X.env X.xe) (hc : X.calm = true) (hi : PI X tg iter wi) (hg : PG X tg g) (hb : PSs X body tb)
    (hs : ∀ x, foldedSetIterable iter X.env x = pure x := by intro _; rfl) : PS X (.For tg iter body [] pos) (tFor wi g tb) := by
  intro pins s σ H D I h
  refine wpAny_For (thn (hi pins s σ H _ I h) fun v s1 h1 => thn h1 fun itv s2 h2 => ?_) hs
  obtain ⟨it, fp, tn, J, H2, e, I2, T, st2, f2, W, ⟨m0, w0⟩, turn⟩ := h2
  subst e
  -- what stays true of the iterator's objects through the loop
  have stat : ∀ {H' : Hp}, (∀ b ∈ fp, H' b = none) → ∀ b ∈ fp, FpOk X pins H' b := fun hn b hb => ⟨hn b hb, (f2 b hb).2⟩
  refine codeAny_forLoop_any (fun n s' => ∃ i σ' H', Inv X pins σ' H' s' ∧ tn i s'.heap ∧ (∀ b ∈ fp, H' b = none) ∧ W i n σ' H') ?_ m0 ⟨0, σ, H2, I2, st2, fun b hb => (f2 b hb).1, w0⟩
  rintro n s3 ⟨i, σ3, H3, I3, st3, fr3, w3⟩
  rcases turn i n σ3 H3 w3 with ⟨stop, qn⟩ | ⟨go, N, hN, step⟩
  · refine wpAny_passesOwn hp (thn (T.done X rfl rfl rfl hc i pins s3 σ3 H3 X.xe I3 (stat fr3) st3 stop) fun r s4 ⟨hr, I4⟩ => ?_)
    subst hr
    exact wpAny_execs_nil ⟨σ3, H3, I4, qn⟩
  · refine wpAny_passesOwn hp (thn (T.item X rfl rfl rfl hc i pins s3 σ3 H3 X.xe I3 (stat fr3) st3 go) fun r s4 ⟨u, hr, h4⟩ => ?_)
    subst hr
    refine wpAny_passesOwn hp (thn h4 fun _ s5 ⟨x, H5, I5, r5, y5, st5, fr5⟩ => ?_)
    have I5' := I5.pinned (stat fr5) (T.obj _ _ st5)
    refine wpAny_passesOwn hp (thn (hg _ s5 σ3 H5 x u _ I5' r5 (step x H5 y5)) fun _ s6 ⟨σ6, H6, I6, q6⟩ => ?_)
    refine wpAny_passesOwn hp (thn (hb _ s6 σ6 H6 _ I6 q6) fun f s7 q7 => ?_)
    have again : ∀ {σ7 : St} {H7 : Hp}, Inv X (pins ++ pinsAt fp s5.heap) σ7 H7 s7 → N σ7 H7 → ∃ m, m < n ∧ ∃ i σ' H', Inv X pins σ' H' s7 ∧ tn i s7.heap ∧ (∀ b ∈ fp, H' b = none) ∧ W i m σ' H' := fun {σ7 H7} I7 n7 => by
      obtain ⟨m', hm, w7⟩ := hN σ7 H7 n7
      refine ⟨m', hm, i + 1, σ7, H7, I7.unpinned, T.keep _ _ _ st5 fun b hb o e => (I7.pin (b, o) (List.mem_append_right _ (List.mem_append_right _ (mem_pinsAt hb e)))).1, fun b hb => ?_, w7⟩
      obtain ⟨o, e, d⟩ := T.obj _ _ st5 b hb
      exact (I7.pin (b, o) (List.mem_append_right _ (List.mem_append_right _ (mem_pinsAt hb e)))).2.1
    cases f with
    | next => obtain ⟨σ7, H7, I7, n7⟩ := q7; exact again I7 n7
    | cont => obtain ⟨σ7, H7, I7, n7⟩ := q7; exact again I7 n7
    | brk => obtain ⟨σ7, H7, I7, q7⟩ := q7; exact ⟨σ7, H7, I7.unpinned, q7⟩
    | ret v => obtain ⟨x7, σ7, H7, I7, r7, q7⟩ := q7; exact ⟨x7, σ7, H7, I7.unpinned, r7, q7⟩
end

/-! ### the forms one uses -/
/-- over a list that the body leaves as it is -/
theorem for_list {K : PySem.W.Frag} {a : Addr} {xs : List V} {g : TG} {tb : TS} {D : Ends} {σ : St} {H : Hp} (Pv : Nat → St → Hp → Prop) (h0 : Pv 0 σ H) (hl : ∀ i σ H, i ≤ xs.length → Pv i σ H → SqL K H a xs)
    (hs : ∀ i x σ H, xs[i]? = some x → Pv i σ H → g x σ H fun σ2 H2 => tb { D with nx := Pv (i + 1), ct := Pv (i + 1), bk := D.nx } σ2 H2) (hd : ∀ σ H, Pv xs.length σ H → D.nx σ H) :
    ∃ W : Nat → Nat → St → Hp → Prop, (∃ m, W 0 m σ H) ∧ ∀ i m σ H, W i m σ H →
      ((Itl K a).stop i H ∧ D.nx σ H) ∨ ((Itl K a).go i H ∧ ∃ N : St → Hp → Prop, (∀ σ' H', N σ' H' → ∃ m', m' < m ∧ W (i + 1) m' σ' H') ∧ ∀ x H', (Itl K a).yld i H x H' → g x σ H' fun σ2 H2 => tb { D with nx := N, ct := N, bk := D.nx } σ2 H2) := by
  refine ⟨fun i m σ H => m = xs.length - i ∧ i ≤ xs.length ∧ Pv i σ H, ⟨xs.length, by simp, Nat.zero_le _, h0⟩, ?_⟩
  rintro i m σ H ⟨rfl, hi, p⟩
  have q := hl i σ H hi p
  by_cases hlt : i < xs.length
  · refine .inr ⟨⟨xs, xs[i], q, by simp [hlt]⟩, Pv (i + 1), fun σ' H' p' => ⟨xs.length - (i + 1), by omega, rfl, hlt, p'⟩, fun x H' y => ?_⟩
    obtain ⟨e, y⟩ := y
    subst e
    exact hs i x σ _ (y xs q) p
  · have e : i = xs.length := by omega
    subst e
    exact .inl ⟨⟨xs, q, Nat.le_refl _⟩, hd σ H p⟩
theorem for_tup {K : PySem.W.Frag} {a : Addr} {xs : List V} {g : TG} {tb : TS} {D : Ends} {σ : St} {H : Hp} (Pv : Nat → St → Hp → Prop) (h0 : Pv 0 σ H) (hl : ∀ i σ H, i ≤ xs.length → Pv i σ H → SqT K H a xs)
    (hs : ∀ i x σ H, xs[i]? = some x → Pv i σ H → g x σ H fun σ2 H2 => tb { D with nx := Pv (i + 1), ct := Pv (i + 1), bk := D.nx } σ2 H2) (hd : ∀ σ H, Pv xs.length σ H → D.nx σ H) :
    ∃ W : Nat → Nat → St → Hp → Prop, (∃ m, W 0 m σ H) ∧ ∀ i m σ H, W i m σ H →
      ((Itt K a).stop i H ∧ D.nx σ H) ∨ ((Itt K a).go i H ∧ ∃ N : St → Hp → Prop, (∀ σ' H', N σ' H' → ∃ m', m' < m ∧ W (i + 1) m' σ' H') ∧ ∀ x H', (Itt K a).yld i H x H' → g x σ H' fun σ2 H2 => tb { D with nx := N, ct := N, bk := D.nx } σ2 H2) := by
  refine ⟨fun i m σ H => m = xs.length - i ∧ i ≤ xs.length ∧ Pv i σ H, ⟨xs.length, by simp, Nat.zero_le _, h0⟩, ?_⟩
  rintro i m σ H ⟨rfl, hi, p⟩
  have q := hl i σ H hi p
  by_cases hlt : i < xs.length
  · refine .inr ⟨⟨xs, xs[i], q, by simp [hlt]⟩, Pv (i + 1), fun σ' H' p' => ⟨xs.length - (i + 1), by omega, rfl, hlt, p'⟩, fun x H' y => ?_⟩
    obtain ⟨e, y⟩ := y
    subst e
    exact hs i x σ _ (y xs q) p
  · have e : i = xs.length := by omega
    subst e
    exact .inl ⟨⟨xs, q, Nat.le_refl _⟩, hd σ H p⟩
theorem for_range {lo : Int} {n : Nat} {g : TG} {tb : TS} {D : Ends} {σ : St} {H : Hp} (Pv : Nat → St → Hp → Prop) (h0 : Pv 0 σ H)
    (hs : ∀ i σ H, i < n → Pv i σ H → g (.int (lo + i)) σ H fun σ2 H2 => tb { D with nx := Pv (i + 1), ct := Pv (i + 1), bk := D.nx } σ2 H2) (hd : ∀ σ H, Pv n σ H → D.nx σ H) :
    ∃ W : Nat → Nat → St → Hp → Prop, (∃ m, W 0 m σ H) ∧ ∀ i m σ H, W i m σ H →
      ((Itr lo n).stop i H ∧ D.nx σ H) ∨ ((Itr lo n).go i H ∧ ∃ N : St → Hp → Prop, (∀ σ' H', N σ' H' → ∃ m', m' < m ∧ W (i + 1) m' σ' H') ∧ ∀ x H', (Itr lo n).yld i H x H' → g x σ H' fun σ2 H2 => tb { D with nx := N, ct := N, bk := D.nx } σ2 H2) := by
  refine ⟨fun i m σ H => m = n - i ∧ i ≤ n ∧ Pv i σ H, ⟨n, by simp, Nat.zero_le _, h0⟩, ?_⟩
  rintro i m σ H ⟨rfl, hi, p⟩
  by_cases hlt : i < n
  · refine .inr ⟨hlt, Pv (i + 1), fun σ' H' p' => ⟨n - (i + 1), by omega, rfl, hlt, p'⟩, fun x H' y => ?_⟩
    obtain ⟨e, y⟩ := y
    subst e y
    exact hs i σ _ hlt p
  · have e : i = n := by omega
    subst e
    exact .inl ⟨Nat.le_refl _, hd σ H p⟩
/-- while, by a word and a measure of the state -/
theorem while_by {c : TT} {tb : TS} {D : Ends} {σ : St} {H : Hp} (Pv : St → Hp → Prop) (μ : St → Hp → Nat) (h0 : Pv σ H)
    (hs : ∀ σ H, Pv σ H → c σ H fun b H1 => if b = true then tb { D with nx := fun σ' H' => Pv σ' H' ∧ μ σ' H' < μ σ H, ct := fun σ' H' => Pv σ' H' ∧ μ σ' H' < μ σ H, bk := D.nx } σ H1 else D.nx σ H1)
    (mono : ∀ σ H Q Q', (∀ b H1, Q b H1 → Q' b H1) → c σ H Q → c σ H Q') : tWhile c tb D σ H := by
  refine ⟨fun m σ H => m = μ σ H ∧ Pv σ H, ⟨_, rfl, h0⟩, ?_⟩
  rintro m σ H ⟨rfl, p⟩
  refine mono σ H _ _ (fun b H1 q => ?_) (hs σ H p)
  cases b with
  | true => exact ⟨_, fun σ' H' ⟨p', l⟩ => ⟨_, l, rfl, p'⟩, q⟩
  | false => exact q
end L2

namespace L2
open PySem PySem.Spec PyProof.Rows

abbrev R2 := V → V → Hp → VK → Prop
/-- a two-place operation on values: f is binaryOp op, inplaceOp op or compareOp op -/
def OpR (X : Cx) (f : Value → Value → Sem Value) (r : R2) : Prop :=
  ∀ (pins : List (Addr × Obj)) (s : Shared) (σ : St) (H : Hp) (x y : V) (v u : Value) (Q : VK), Inv X pins σ H s → RelV x v → RelV y u → r x y H Q →
    wpAny (model X.prog X.w) X.A (f v u) (EP X pins σ Q) X.xe s
/-- a one-place operation -/
def UnR (X : Cx) (f : Value → Sem Value) (r : V → Hp → VK → Prop) : Prop :=
  ∀ (pins : List (Addr × Obj)) (s : Shared) (σ : St) (H : Hp) (x : V) (v : Value) (Q : VK), Inv X pins σ H s → RelV x v → r x H Q →
    wpAny (model X.prog X.w) X.A (f v) (EP X pins σ Q) X.xe s
/-- a call of a value that is known (a builtin, a type) with values -/
def CallR (X : Cx) (f : Value) (r : List V → Hp → VK → Prop) : Prop :=
  ∀ (pins : List (Addr × Obj)) (s : Shared) (σ : St) (H : Hp) (xs : List V) (us : List Value) (Q : VK), Inv X pins σ H s → Vals xs us → r xs H Q →
    wpAny (model X.prog X.w) X.A (call f us) (EP X pins σ Q) X.xe s
/-- a value's truth -/
def TruR (X : Cx) (r : V → Hp → (Bool → Hp → Prop) → Prop) : Prop :=
  ∀ (pins : List (Addr × Obj)) (s : Shared) (σ : St) (H : Hp) (x : V) (v : Value) (Q : Bool → Hp → Prop), Inv X pins σ H s → RelV x v → r x H Q →
    wpAny (model X.prog X.w) X.A (truthy v) (TP X pins σ Q) X.xe s

def tOp (r : R2) (ta tb : TE) : TE := fun σ H Q => ta σ H fun x H1 => tb σ H1 fun y H2 => r x y H2 Q
def tUn (r : V → Hp → VK → Prop) (ta : TE) : TE := fun σ H Q => ta σ H fun x H1 => r x H1 Q
/-- ints in, under C, and a value out -/
def rI (C : Int → Int → Prop) (g : Int → Int → V) : R2 := fun x y H Q => ∃ i j, x = .int i ∧ y = .int j ∧ C i j ∧ Q (g i j) H
def rI0 (g : Int → Int → V) : R2 := fun x y H Q => ∃ i j, x = .int i ∧ y = .int j ∧ Q (g i j) H
def rU (g : Int → V) : V → Hp → VK → Prop := fun x H Q => ∃ i, x = .int i ∧ Q (g i) H

section
variable {X : Cx} {a b c : Expr} {ta tb tc : TE} {pos : Pos}

theorem binT (ha : PE X a ta) (hb : PE X b tb) {pins : List (Addr × Obj)} {s : Shared} {σ : St} {H : Hp} {R : V → V → Hp → Prop} (I : Inv X pins σ H s)
    (h : ta σ H fun x H1 => tb σ H1 fun y H2 => R x y H2) {Q : Value → Shared → Prop} {f : Value → Value → Sem Value}
    (hf : ∀ v u s2 x y H2, Inv X pins σ H2 s2 → RelV x v → RelV y u → R x y H2 → wpAny (model X.prog X.w) X.A (f v u) Q X.xe s2) :
    wpAny (model X.prog X.w) X.A (eval a X.env) (fun v s₁ => wpAny (model X.prog X.w) X.A (eval b X.env) (fun u s₂ => wpAny (model X.prog X.w) X.A (f v u) Q X.xe s₂) X.xe s₁) X.xe s := by
  refine thn (ha pins s σ H _ I h) fun v s1 ⟨x, H1, I1, r1, q1⟩ => ?_
  refine thn (hb pins s1 σ H1 _ I1 q1) fun u s2 ⟨y, H2, I2, r2, q2⟩ => ?_
  exact hf v u s2 x y H2 I2 r1 r2 q2

theorem pe_op {op : Operator} {r : R2} (ho : OpR X (binaryOp op) r) (ha : PE X a ta) (hb : PE X b tb) : PE X (.BinOp a op b pos) (tOp r ta tb) := by
  intro pins s σ H Q I h
  exact wpAny_BinOp (binT ha hb I h fun v u s2 x y H2 I2 rx ry q => ho pins s2 σ H2 x y v u Q I2 rx ry q)
/-! ### ints -/
theorem opI {f : Value → Value → Sem Value} {C : Int → Int → Prop} {g : Int → Int → Int}
    (rule : ∀ (i j : Int) (t u : Tok) (s : Shared) (Q : Value → Shared → Prop) (E : Value → Shared → Prop), C i j → Q (.int (g i j) s.toks) { s with toks := s.toks + 1 } → wpAny (model X.prog X.w) X.A (f (.int i t) (.int j u)) Q E s) :
    OpR X f (rI C fun i j => .int (g i j)) := by
  intro pins s σ H x y v u Q I rx ry h
  obtain ⟨i, j, rfl, rfl, hc, q⟩ := h
  obtain ⟨t, rfl⟩ := rx
  obtain ⟨t', rfl⟩ := ry
  exact rule i j t t' s _ _ hc ⟨.int (g i j), H, I.tok _, ⟨_, rfl⟩, q⟩
theorem opI0 {f : Value → Value → Sem Value} {g : Int → Int → Int}
    (rule : ∀ (i j : Int) (t u : Tok) (s : Shared) (Q : Value → Shared → Prop) (E : Value → Shared → Prop), Q (.int (g i j) s.toks) { s with toks := s.toks + 1 } → wpAny (model X.prog X.w) X.A (f (.int i t) (.int j u)) Q E s) :
    OpR X f (rI0 fun i j => .int (g i j)) := by
  intro pins s σ H x y v u Q I rx ry h
  obtain ⟨i, j, rfl, rfl, q⟩ := h
  obtain ⟨t, rfl⟩ := rx
  obtain ⟨t', rfl⟩ := ry
  exact rule i j t t' s _ _ ⟨.int (g i j), H, I.tok _, ⟨_, rfl⟩, q⟩
theorem opB0 {f : Value → Value → Sem Value} {g : Int → Int → Bool}
    (rule : ∀ (i j : Int) (t u : Tok) (s : Shared) (Q : Value → Shared → Prop) (E : Value → Shared → Prop), Q (.bool (g i j)) s → wpAny (model X.prog X.w) X.A (f (.int i t) (.int j u)) Q E s) :
    OpR X f (rI0 fun i j => .bl (g i j)) := by
  intro pins s σ H x y v u Q I rx ry h
  obtain ⟨i, j, rfl, rfl, q⟩ := h
  obtain ⟨t, rfl⟩ := rx
  obtain ⟨t', rfl⟩ := ry
  exact rule i j t t' s _ _ ⟨.bl (g i j), H, I, rfl, q⟩

def CDiv (i j : Int) : Prop := 0 < j ∧ j < 1073741824
def CDivN (i j : Int) : Prop := j ≠ 0 ∧ j.natAbs < 1073741824
def CPow (i j : Int) : Prop := 0 ≤ j ∧ j ≤ 1000000 ∧ i.natAbs < 2 ^ 64
def CMul (i j : Int) : Prop := (-(2 ^ 64) < i ∧ i < 2 ^ 64) ∨ (-(2 ^ 64) < j ∧ j < 2 ^ 64)
theorem CMul.ok {i j : Int} (h : CMul i j) : IntMulOk i j := by
  rcases h with ⟨h1, h2⟩ | ⟨h1, h2⟩
  · exact .of_left (intBits_le_64 h1 h2)
  · exact .of_right (intBits_le_64 h1 h2)
theorem two_pow_nn (k : Nat) : (0 : Int) ≤ 2 ^ k := by
  rw [two_pow_cast]
  exact Int.natCast_nonneg _

theorem op_add : OpR X (binaryOp .Add) (rI0 fun i j => .int (i + j)) := opI0 fun _ _ _ _ _ _ _ q => add_int q
theorem op_sub : OpR X (binaryOp .Sub) (rI0 fun i j => .int (i - j)) := opI0 fun _ _ _ _ _ _ _ q => sub_int q
theorem op_mul : OpR X (binaryOp .Mult) (rI CMul fun i j => .int (i * j)) := opI fun _ _ _ _ _ _ _ hc q => mul_int q hc.ok
/-- // by a positive divisor -/
theorem op_fdiv : OpR X (binaryOp .FloorDiv) (rI CDiv fun i j => .int (i / j)) := opI fun i j _ _ _ _ _ hc q => by
  have h1 : (0 : Int) < j := hc.1
  have h2 : j < 1073741824 := hc.2
  exact floordiv_int (by omega) (by rw [Int.fdiv_eq_ediv_of_nonneg i (by omega)]; exact q) (.inl (PyProof.noPylong_small (by omega)))
/-- % by a positive divisor of any size -/
theorem op_mod : OpR X (binaryOp .Mod) (rI (fun _ j => 0 < j) fun i j => .int (i % j)) := opI fun i j _ _ _ _ _ hc q => by
  have h1 : (0 : Int) < j := hc
  exact mod_int' (by omega) (by rw [Int.fmod_eq_emod_of_nonneg i (by omega)]; exact q)
theorem op_shl : OpR X (binaryOp .LShift) (rI CPow fun i j => .int (i * 2 ^ j.toNat)) := opI fun _ _ _ _ _ _ _ hc q => lshift_int_small hc.1 hc.2.1 hc.2.2 q
theorem op_shr : OpR X (binaryOp .RShift) (rI (fun _ j => 0 ≤ j) fun i j => .int (i / 2 ^ j.toNat)) := opI fun i j _ _ _ _ _ hc q =>
  rshift_int hc (by rw [Int.fdiv_eq_ediv_of_nonneg i (two_pow_nn _)]; exact q)
theorem op_and : OpR X (binaryOp .BitAnd) (rI0 fun i j => .int (Builtin.bitAnd i j)) := opI0 fun _ _ _ _ _ _ _ q => and_int q
theorem op_or : OpR X (binaryOp .BitOr) (rI0 fun i j => .int (Builtin.bitOr i j)) := opI0 fun _ _ _ _ _ _ _ q => or_int q
/-! ### bools among ints: n += (a < b) -/
end

/-! ### comparisons -/
/-- the scalars that == tells apart as data does -/
def scal : V → V → Bool
  | .non, .non => true | .non, .int _ => true | .int _, .non => true | .non, .bl _ => true | .bl _, .non => true | .non, .str _ => true | .str _, .non => true
  | .int _, .int _ => true | .bl _, .bl _ => true | .str _, .str _ => true | .byt _, .byt _ => true
  | .int _, .str _ => true | .str _, .int _ => true | .bl _, .str _ => true | .str _, .bl _ => true
  | _, _ => false
def rEq : R2 := fun x y H Q => scal x y = true ∧ Q (.bl (decide (x = y))) H
def rNe : R2 := fun x y H Q => scal x y = true ∧ Q (.bl (!decide (x = y))) H

theorem dec_int {i j : Int} : decide (V.int i = V.int j) = (i == j) := by
  rw [Bool.eq_iff_iff]
  simp
theorem dec_bl {i j : Bool} : decide (V.bl i = V.bl j) = (i == j) := by
  rw [Bool.eq_iff_iff]
  simp
theorem dec_str {i j : Str} : decide (V.str i = V.str j) = (i == j) := by
  rw [Bool.eq_iff_iff]
  simp
theorem dec_byt {i j : Array UInt8} : decide (V.byt i = V.byt j) = (i.toList == j.toList) := by
  rw [Bool.eq_iff_iff]
  cases i
  cases j
  simp

section
variable {X : Cx} {a b c : Expr} {ta tb tc : TE} {pos : Pos}
theorem fin_bl {pins : List (Addr × Obj)} {σ : St} {H : Hp} {s : Shared} {Q : VK} {k k' : Bool} (I : Inv X pins σ H s) (q : Q (.bl k) H) (e : k = k') : EP X pins σ Q (.bool k') s := by
  subst e
  exact ⟨.bl k, H, I, rfl, q⟩
theorem op_eq : OpR X (compareOp .Eq) rEq := by
  intro pins s σ H x y v u Q I rx ry h
  obtain ⟨hs, q⟩ := h
  cases x with
  | non =>
    cases rx
    cases y with
    | non => cases ry; exact PySem.EqNone.eq_none_none (fin_bl I q (by simp))
    | bl j => cases ry; exact PySem.EqNone.eq_none_bool (fin_bl I q (by simp))
    | int j => obtain ⟨t', rfl⟩ := ry; exact PySem.EqNone.eq_none_int (fin_bl I q (by simp))
    | str j => obtain ⟨t', rfl⟩ := ry; exact PySem.EqNone.eq_none_str (fin_bl I q (by simp))
    | _ => exact absurd (show false = true from hs) Bool.false_ne_true
  | bl i =>
    cases rx
    cases y with
    | non => cases ry; exact PySem.EqNone.eq_bool_none (fin_bl I q (by simp))
    | bl j => cases ry; exact eq_bool (fin_bl I q dec_bl)
    | str j => obtain ⟨t', rfl⟩ := ry; exact PySem.EqMixed.eq_bool_str (fin_bl I q (by simp))
    | _ => exact absurd (show false = true from hs) Bool.false_ne_true
  | int i =>
    obtain ⟨t, rfl⟩ := rx
    cases y with
    | non => cases ry; exact PySem.EqNone.eq_int_none (fin_bl I q (by simp))
    | int j => obtain ⟨t', rfl⟩ := ry; exact eq_int (fin_bl I q dec_int)
    | str j => obtain ⟨t', rfl⟩ := ry; exact PySem.EqMixed.eq_int_str (fin_bl I q (by simp))
    | _ => exact absurd (show false = true from hs) Bool.false_ne_true
  | str i =>
    obtain ⟨t, rfl⟩ := rx
    cases y with
    | non => cases ry; exact PySem.EqNone.eq_str_none (fin_bl I q (by simp))
    | bl j => cases ry; exact PySem.EqMixed.eq_str_bool (fin_bl I q (by simp))
    | int j => obtain ⟨t', rfl⟩ := ry; exact PySem.EqMixed.eq_str_int (fin_bl I q (by simp))
    | str j => obtain ⟨t', rfl⟩ := ry; exact eq_str (fin_bl I q dec_str)
    | _ => exact absurd (show false = true from hs) Bool.false_ne_true
  | byt i =>
    obtain ⟨t, rfl⟩ := rx
    cases y with
    | byt j => obtain ⟨t', rfl⟩ := ry; exact PySem.W.eq_bytes (fin_bl I q dec_byt)
    | _ => exact absurd (show false = true from hs) Bool.false_ne_true
  | _ => cases y <;> exact absurd (show false = true from hs) Bool.false_ne_true
theorem op_ne : OpR X (compareOp .NotEq) rNe := by
  intro pins s σ H x y v u Q I rx ry h
  obtain ⟨hs, q⟩ := h
  cases x with
  | non =>
    cases rx
    cases y with
    | non => cases ry; exact PySem.EqNone.ne_none_none (fin_bl I q (by simp))
    | bl j => cases ry; exact PySem.EqNone.ne_none_bool (fin_bl I q (by simp))
    | int j => obtain ⟨t', rfl⟩ := ry; exact PySem.EqNone.ne_none_int (fin_bl I q (by simp))
    | str j => obtain ⟨t', rfl⟩ := ry; exact PySem.EqNone.ne_none_str (fin_bl I q (by simp))
    | _ => exact absurd (show false = true from hs) Bool.false_ne_true
  | bl i =>
    cases rx
    cases y with
    | non => cases ry; exact PySem.EqNone.ne_bool_none (fin_bl I q (by simp))
    | bl j => cases ry; exact ne_bool (fin_bl I q (congrArg not dec_bl))
    | str j => obtain ⟨t', rfl⟩ := ry; exact PySem.EqMixed.ne_bool_str (fin_bl I q (by simp))
    | _ => exact absurd (show false = true from hs) Bool.false_ne_true
  | int i =>
    obtain ⟨t, rfl⟩ := rx
    cases y with
    | non => cases ry; exact PySem.EqNone.ne_int_none (fin_bl I q (by simp))
    | int j => obtain ⟨t', rfl⟩ := ry; exact ne_int (fin_bl I q (congrArg not dec_int))
    | str j => obtain ⟨t', rfl⟩ := ry; exact PySem.EqMixed.ne_int_str (fin_bl I q (by simp))
    | _ => exact absurd (show false = true from hs) Bool.false_ne_true
  | str i =>
    obtain ⟨t, rfl⟩ := rx
    cases y with
    | non => cases ry; exact PySem.EqNone.ne_str_none (fin_bl I q (by simp))
    | bl j => cases ry; exact PySem.EqMixed.ne_str_bool (fin_bl I q (by simp))
    | int j => obtain ⟨t', rfl⟩ := ry; exact PySem.EqMixed.ne_str_int (fin_bl I q (by simp))
    | str j => obtain ⟨t', rfl⟩ := ry; exact ne_str (fin_bl I q (congrArg not dec_str))
    | _ => exact absurd (show false = true from hs) Bool.false_ne_true
  | byt i =>
    obtain ⟨t, rfl⟩ := rx
    cases y with
    | byt j => obtain ⟨t', rfl⟩ := ry; exact PySem.W.ne_bytes (fin_bl I q (congrArg not dec_byt))
    | _ => exact absurd (show false = true from hs) Bool.false_ne_true
  | _ => cases y <;> exact absurd (show false = true from hs) Bool.false_ne_true

theorem op_lt : OpR X (compareOp .Lt) (rI0 fun i j => .bl (decide (i < j))) := opB0 fun _ _ _ _ _ _ _ q => lt_int q
theorem op_gt : OpR X (compareOp .Gt) (rI0 fun i j => .bl (decide (j < i))) := opB0 fun _ _ _ _ _ _ _ q => gt_int q
/-- is None, is not None: the right side a value none -/
theorem op_isN : OpR X (compareOp .Is) (fun x y H Q => y = .non ∧ Q (.bl (decide (x = .non))) H) := by
  intro pins s σ H x y v u Q I rx ry h
  obtain ⟨rfl, q⟩ := h
  cases ry
  refine is_none_gen (fin_bl I q ?_)
  cases x <;> first
    | (cases rx; rfl)
    | (obtain ⟨t, rfl⟩ := rx; rfl)
/-- is, is not of two objects that are tracked lists or instances -/
def isObj : HO → Bool
  | .lst _ => true
  | .ins _ _ _ => true
  | _ => false
theorem nomark (b : Expr) {op : CmpOp} (h : op ≠ .In := by decide) (h2 : op ≠ .NotIn := by decide) : behindInMarks op b = false := by
  have e1 : (op == CmpOp.In) = false := by cases op <;> first | rfl | exact absurd rfl h
  have e2 : (op == CmpOp.NotIn) = false := by cases op <;> first | rfl | exact absurd rfl h2
  cases b <;> simp [behindInMarks, e1, e2]
/-- a comparison as a value; hm: nomark b, or (for in, not in) by with_unfolding_all rfl -/
theorem pe_cmpR {op : CmpOp} {r : R2} (ho : OpR X (compareOp op) r) (ha : PE X a ta) (hb : PE X b tb) (hm : behindInMarks op b = false) : PE X (.Compare a [op] [b] pos) (tOp r ta tb) := by
  intro pins s σ H Q I h
  exact wpAny_Compare1 (binT ha hb I h fun v u s2 x y H2 I2 rx ry q => ho pins s2 σ H2 x y v u Q I2 rx ry q) hm
/-- a reading of a value as a test -/
def tTest (t : TE) : TT := fun σ H Q => t σ H fun x H' => ∃ k, x = .bl k ∧ Q k H'
theorem pt_cmpR {op : CmpOp} {r : R2} (ho : OpR X (compareOp op) r) (ha : PE X a ta) (hb : PE X b tb) (hm : behindInMarks op b = false) : PT X (.Compare a [op] [b] pos) (tTest (tOp r ta tb)) := by
  intro pins s σ H Q I h
  refine wpAny_isTrue_Compare1 (thn (ha pins s σ H _ I h) fun v s1 ⟨x, H1, I1, r1, q1⟩ => thn (hb pins s1 σ H1 _ I1 q1) fun u s2 ⟨y, H2, I2, r2, q2⟩ =>
    thn (ho pins s2 σ H2 x y v u _ I2 r1 r2 q2) fun c s3 ⟨z, H3, I3, r3, k, e, q3⟩ => ?_) hm
  subst e
  cases r3
  exact wpAny_truthy_bool ⟨H3, I3, q3⟩
/-- a op1 b op2 c -/
def tChain (r r' : R2) (ta tb tc : TE) : TE := fun σ H Q => ta σ H fun x H1 => tb σ H1 fun y H2 => r x y H2 fun z H3 => ∃ k, z = .bl k ∧
  (if k = true then tc σ H3 fun w' H4 => r' y w' H4 Q else Q (.bl false) H3)
/-! ### truth -/
/-- a value's truth by the abstract heap -/
def TruV (K : PySem.W.Frag) (x : V) (H : Hp) (k : Bool) : Prop :=
  match x with
  | .non => k = false
  | .bl b => k = b
  | .int i => k = (i != 0)
  | .str y => y.length ≤ sizeLine ∧ k = ((y.length : Int) != 0)
  | .byt y => y.size ≤ sizeLine ∧ k = ((y.size : Int) != 0)
  | .ref p => (∃ xs, SqL K H p xs ∧ k = !xs.isEmpty) ∨ (∃ xs, SqT K H p xs ∧ k = !xs.isEmpty) ∨ ∃ kvs, H p = some (.dK kvs) ∧ k = !kvs.isEmpty
  | _ => False
theorem isEmpty_kv {κ : Type} {kvs : List (κ × V)} {vs : List (κ × Value)} (r : KV kvs vs) : (!vs.isEmpty) = !kvs.isEmpty := by
  cases r <;> rfl
theorem isEmpty_of {xs : List V} {its : List Value} (r : Vals xs its) : (!its.toArray.isEmpty) = !xs.isEmpty := by
  cases r <;> simp
theorem line63 : (sizeLine : Nat) < 2 ^ 63 := by rw [sizeLine_eq]; decide
theorem tru_ok : TruR X (fun x H Q => ∃ k, TruV X.K x H k ∧ Q k H) := by
  intro pins s σ H x v Q I rx h
  obtain ⟨k, e, q⟩ := h
  have hl := line63
  have hs : sizeLine = 16777216 := sizeLine_eq
  cases x with
  | non =>
    cases rx
    have e' : k = false := e
    subst e'
    exact truthy_none ⟨H, I, q⟩
  | bl b =>
    cases rx
    have e' : k = b := e
    subst e'
    exact wpAny_truthy_bool ⟨H, I, q⟩
  | int i =>
    obtain ⟨t, rfl⟩ := rx
    have e' : k = (i != 0) := e
    subst e'
    exact PySem.P.truthy_int ⟨H, I, q⟩
  | str y =>
    obtain ⟨t, rfl⟩ := rx
    obtain ⟨hy, e'⟩ : y.length ≤ sizeLine ∧ k = ((y.length : Int) != 0) := e
    subst e'
    exact PySem.P.truthy_str (by omega) ⟨H, I.tok _, q⟩
  | byt y =>
    obtain ⟨t, rfl⟩ := rx
    obtain ⟨hy, e'⟩ : y.size ≤ sizeLine ∧ k = ((y.size : Int) != 0) := e
    subst e'
    exact PySem.W.truthy_bytes (by omega) ⟨H, I.tok _, q⟩
  | ref p =>
    cases rx
    have e' : (∃ xs, SqL X.K H p xs ∧ k = !xs.isEmpty) ∨ (∃ xs, SqT X.K H p xs ∧ k = !xs.isEmpty) ∨ ∃ kvs, H p = some (.dK kvs) ∧ k = !kvs.isEmpty := e
    rcases e' with ⟨xs, hx, e'⟩ | ⟨xs, hx, e'⟩ | ⟨kvs, hx, e'⟩
    · subst e'
      obtain ⟨its, r, pl, hz⟩ := I.list hx
      have hlen := r.length
      exact wpAny_truthy_list pl.isList (by simp only [List.size_toArray]; omega) ⟨H, I.tok _, by rw [isEmpty_of r]; exact q⟩
    · subst e'
      obtain ⟨its, r, pl, hz⟩ := I.tuple hx
      have hlen := r.length
      exact truthy_tuple pl (by simp only [List.size_toArray]; omega) ⟨H, I.tok _, by rw [isEmpty_of r]; exact q⟩
    · subst e'
      obtain ⟨hz, hS, vs, r, m⟩ : kvs.length ≤ sizeLine ∧ (p == sysModules) = false ∧ ∃ vs, KV kvs vs ∧ s.heap.DictOf (mixKind X.prog X.w) p vs := I.hok p _ hx
      have hlen : kvs.length = vs.length := Paired.length r
      exact wpAny_truthy_dict hS m (by omega) ⟨H, I.tok _, by rw [isEmpty_kv r]; exact q⟩
  | _ => exact (show False from e).elim
/-- any expression whose test is its value's truth (a name, a call, a subscript, a field ..: he by fun _ => rfl) -/
theorem pt_truth (ha : PE X a ta) (he : ∀ whole, isTrue a X.env whole = (do let v ← whole; standAt a.pos; holding [v] (truthy v))) :
    PT X a (fun σ H Q => ta σ H fun x H' => ∃ k, TruV X.K x H' k ∧ Q k H') := by
  intro pins s σ H Q I h
  exact isTrue_plain (thn (ha pins s σ H _ I h) fun v s1 ⟨x, H1, I1, r1, q1⟩ => tru_ok pins s1 σ H1 x v Q I1 r1 q1) (he _)

/-! ### strs and bytes -/
theorem op_add_str : OpR X (binaryOp .Add) (fun x y H Q => ∃ i j, x = .str i ∧ y = .str j ∧ i.length + j.length ≤ sizeLine ∧ Q (.str (i ++ j)) H) := by
  intro pins s σ H x y v u Q I rx ry h
  obtain ⟨i, j, rfl, rfl, hz, q⟩ := h
  obtain ⟨t, rfl⟩ := rx
  obtain ⟨t', rfl⟩ := ry
  exact add_str (fun t' tk => ⟨.str (i ++ j), H, I.tok _, ⟨_, rfl⟩, q⟩) hz
def PlainIxT (b : Expr) : Prop := ∀ o i, subscripted b false o i = operate [o, i] (getItem o i)
/-! ### scalar builtins, by CallR -/
theorem vals1 {x : V} {us : List Value} (r : Vals [x] us) : ∃ u, us = [u] ∧ RelV x u := by
  cases r with
  | cons r1 r2 => cases r2; exact ⟨_, rfl, r1⟩
theorem vals2 {x y : V} {us : List Value} (r : Vals [x, y] us) : ∃ u w', us = [u, w'] ∧ RelV x u ∧ RelV y w' := by
  cases r with
  | cons r1 r2 =>
    cases r2 with
    | cons r3 r4 => cases r4; exact ⟨_, _, rfl, r1, r3⟩
theorem call_str_int : CallR X (.type "str") (fun xs H Q => ∃ i, xs = [.int i] ∧ i.natAbs.log2 < 1920 ∧ Q (.str (toString i)) H) := by
  intro pins s σ H xs us Q I r h
  obtain ⟨i, rfl, hz, q⟩ := h
  obtain ⟨u, rfl, t, rfl⟩ := vals1 r
  exact PySem.P.str_of_int hz ⟨.str _, H, I.tok _, ⟨_, rfl⟩, q⟩
/-- len of a str, a bytes, a list, a tuple -/
def LenV (K : PySem.W.Frag) (x : V) (H : Hp) (n : Nat) : Prop :=
  match x with
  | .str y => y.length ≤ sizeLine ∧ n = y.length
  | .byt y => y.size ≤ sizeLine ∧ n = y.size
  | .ref p => (∃ xs, SqL K H p xs ∧ n = xs.length) ∨ ∃ xs, SqT K H p xs ∧ n = xs.length
  | _ => False
end
end L2

namespace L2
open PySem PySem.Spec PyProof.Rows

/-! ### an instance, its attributes a map -/
structure ObjM (h : Heap) (x dx C : Addr) (mA : Str → Option Value) : Prop where
  obj : h.get? x = some (PySem.W.instObj C dx)
  ns : h.Ns1 dx mA
  ne : dx ≠ x

theorem lookIn_ns {h : Heap} {dx : Addr} {mA : Str → Option Value} (n : h.Ns1 dx mA) : ∃ od, h.get? dx = some od ∧ ∀ name, PySem.W.lookIn name od = some (mA name) := by
  obtain ⟨o, es, ep, ho, hd, hk, _, hm⟩ := n
  refine ⟨o, ho, fun name => ?_⟩
  have e := hm name
  unfold nsFind findBy at e
  rw [← Array.find?_toList] at e
  unfold PySem.W.lookIn
  rw [hd]
  dsimp only
  split
  · rename_i y q
    rw [q] at e
    exact congrArg some e
  · rename_i q
    rw [q] at e
    have a : es.toList.any (·.refKey) = false := by
      rw [List.any_eq_false]
      intro y hy
      obtain ⟨z, t, hkey⟩ := hk y (Array.mem_toList_iff.mp hy)
      simp [DictEntry.refKey, hkey]
    have a' : ¬ es.toList.any (·.refKey) = true := by rw [a]; exact Bool.false_ne_true
    rw [if_neg a']
    exact congrArg some e

theorem ObjM.look {h : Heap} {x dx C : Addr} {mA : Str → Option Value} (I : ObjM h x dx C mA) : ∃ od, PySem.W.InstAt h x (PySem.W.instObj C dx) C (some od) ∧ ∀ name, PySem.W.lookIn name od = some (mA name) :=
  let ⟨od, ho, hl⟩ := lookIn_ns I.ns
  ⟨od, ⟨I.obj, rfl, rfl, ho⟩, hl⟩

section
variable {prog : Program} {w : World} {A : Around} {E : Value → Shared → Prop} {s : Shared} {K : PySem.W.Frag} {x dx C f : Addr} {mA : Str → Option Value} {name : Str} {v : Value}

theorem get_map {expr : Bool} {Q : Value → Shared → Prop} (X : K.In s.heap) (I : ObjM s.heap x dx C mA) (hg : PySem.W.plainGet K C name = true) (hh : PySem.W.hasDictIn K C = true)
    (ha : PySem.W.findIn K (.ref C) name = some none) (hv : mA name = some v) (hv' : PySem.W.handedIn v = true) (h : Q v { s with toks := s.toks + 1 }) :
    wpAny (model prog w) A (getAttr (.ref x) name expr) Q E s := by
  obtain ⟨od, J, hl⟩ := I.look
  exact PySem.W.get_value X J (PySem.W.plainGet_of hg).1 (PySem.W.findObj_own hh ha rfl (by rw [hl, hv])) hv' h

theorem get_meth {pl : Sem Bool} {Q : Value × List Value → Shared → Prop} (X : K.In s.heap) (I : ObjM s.heap x dx C mA) (hg : PySem.W.plainGet K C name = true)
    (hf : PySem.W.findIn K (.ref C) name = some (some (.ref f))) (ht : PySem.W.isFn K (.ref f) = true) (hv : mA name = none) (h : Q (.ref f, [.ref x]) s) :
    wpAny (model prog w) A (getMethod (.ref x) name pl) Q E s := by
  obtain ⟨od, J, hl⟩ := I.look
  exact PySem.W.method_fn X J (PySem.W.plainGet_of hg).1 (PySem.W.plainGet_of hg).2 hf (beq_iff_eq.mp ht) (by show (PySem.W.lookIn name od).map (·.isSome) = some false; rw [hl, hv]; rfl) h

theorem set_map {ns : List Str} {Q : Unit → Shared → Prop} (X : K.In s.heap) (I : ObjM s.heap x dx C mA)
    (hs : PySem.W.findIn K (.ref C) "__setattr__" = some (some (.builtin "object.__setattr__"))) (hp : PySem.W.plainOver K C = true) (ht : PySem.W.takerIn K C name = some none) (hh : PySem.W.hasDictIn K C = true)
    (hw : PySem.Within mA ns) (hsz : ns.length ≤ sizeLine)
    (h : ∀ h', ObjM h' x dx C (fun y => if y = name then some v else mA y) → Heap.SameBut dx s.heap h' → Q () { s with heap := h', toks := s.toks + 2 }) :
    wpAny (model prog w) A (setAttr (.ref x) name v) Q E s := by
  obtain ⟨od, J, hl⟩ := I.look
  refine PySem.W.set_plain X J hs (PySem.W.osa_open (s := { s with toks := s.toks + 1 }) (r := none) X J hp ht fun b => ?_)
  obtain ⟨cd, hc, hd'⟩ := PySem.W.any_some hh
  have hx : s.heap.get? x = some ⟨.ref C, some dx, .plain, #[]⟩ := I.obj
  refine wpAny_bind (wpAny_pure (wpAny_bind (wpAny_bind (wpAny_loadPart hx (wpAny_bind (PySem.W.Looks.here (s := { s with toks := s.toks + 1 }) (PySem.W.looks_clsIn X hc) ?_))))))
  rw [hd']
  refine wpAny_pure (a := some dx) (wpAny_bind (wpAny_pure (wpAny_bind ?_)))
  refine wpAny_nsSet1 (s := { s with toks := s.toks + 1 }) I.ns fun h' hn2 hs2 => ?_
  obtain ⟨oD, esD, epD, hoD, hdD, hcD⟩ := hn2.count (PySem.Within.cons name v hw)
  refine wpAny_bind (wpAny_lookBehind hoD (by rw [hdD]; exact pastItsLine_dict (Nat.le_trans hcD (by rw [List.length_cons]; omega))) ?_)
  exact wpAny_pure (h _ ⟨(hs2.2 _ (Ne.symm I.ne)).trans I.obj, hn2, I.ne⟩ hs2)

/-- C(..): the dict at the heap's end, the instance behind it; then its __init__ -/
theorem make_map {R : Result → Shared → Prop} {vs : List Value} {kw : List (Str × Value)} (X : K.In s.heap) (hm : PySem.W.makesIn K C = true)
    (hi : PySem.W.findIn K (.ref C) "__init__" = some (some (.ref f))) (hf : PySem.W.typeIn K (.ref f) = some (.type "function"))
    (h : codeAny (model prog w) (A.under (.builtin "type.__call__" ⟨.ref C :: vs, kw⟩)) (.call (.ref f) ⟨.ref (s.heap.objs.size + 1) :: vs, kw⟩) (PySem.W.InitBack (s.heap.objs.size + 1) R)
      { s with heap := (s.heap.push PySem.W.emptyDict).push (PySem.W.instObj C s.heap.objs.size) }) :
    codeAny (model prog w) A (.call (.ref C) ⟨vs, kw⟩) R s := by
  obtain ⟨hh, g, d, t, os⟩ := s
  exact PySem.W.make_core (PySem.W.makes_of X hm) (PySem.W.looks_findIn X hi) (fun self => PySem.W.bind_fn X self hf) (.inl rfl) h
/-- C() where there is no __init__ but object's -/
theorem make_map0 {R : Result → Shared → Prop} (X : K.In s.heap) (hm : PySem.W.makesIn K C = true)
    (hi : PySem.W.findIn K (.ref C) "__init__" = some (some (.builtin "object.__init__")))
    (hb : ∀ self, PySem.W.Looks (model prog w) s.heap (bindSpecial (.builtin "object.__init__") self) (.builtin "object.__init__", [self]))
    (h : codeAny (model prog w) (A.under (.builtin "type.__call__" ⟨[.ref C], []⟩)) (.call (.builtin "object.__init__") ⟨[.ref (s.heap.objs.size + 1)], []⟩) (PySem.W.InitBack (s.heap.objs.size + 1) R)
      { s with heap := (s.heap.push PySem.W.emptyDict).push (PySem.W.instObj C s.heap.objs.size) }) :
    codeAny (model prog w) A (.call (.ref C) ⟨[], []⟩) R s := by
  obtain ⟨hh, g, d, t, os⟩ := s
  exact PySem.W.make_core (PySem.W.makes_of X hm) (PySem.W.looks_findIn X hi) hb (.inr ⟨rfl, rfl⟩) h
end

/-! ### the attributes as a list of pairs -/
def putF (f : Str) (v : V) : List (Str × V) → List (Str × V)
  | [] => [(f, v)]
  | (g, x) :: r => if g = f then (g, v) :: r else (g, x) :: putF f v r
theorem lookup_putF (f g : Str) (v : V) : ∀ fs : List (Str × V), (putF f v fs).lookup g = if g = f then some v else fs.lookup g
  | [] => by
    show List.lookup g [(f, v)] = _
    by_cases h : g = f
    · have hb : (g == f) = true := beq_iff_eq.mpr h
      simp only [List.lookup, hb, if_pos h]
    · have hb : (g == f) = false := beq_eq_false_iff_ne.mpr h
      simp only [List.lookup, hb, if_neg h]
  | (k, x) :: r => by
    have ih := lookup_putF f g v r
    rw [show putF f v ((k, x) :: r) = (if k = f then (k, v) :: r else (k, x) :: putF f v r) from rfl]
    by_cases hk : k = f
    · rw [if_pos hk]
      by_cases h : g = k
      · have hb : (g == k) = true := beq_iff_eq.mpr h
        simp only [List.lookup, hb, if_pos (h.trans hk)]
      · have hb : (g == k) = false := beq_eq_false_iff_ne.mpr h
        simp only [List.lookup, hb, if_neg (fun e : g = f => h (e.trans hk.symm))]
    · rw [if_neg hk]
      by_cases h : g = k
      · have hb : (g == k) = true := beq_iff_eq.mpr h
        simp only [List.lookup, hb, if_neg (fun e : g = f => hk (h.symm.trans e))]
      · have hb : (g == k) = false := beq_eq_false_iff_ne.mpr h
        simp only [List.lookup, hb]
        exact ih
theorem keys_putF (f : Str) (v : V) : ∀ fs : List (Str × V), f ∈ (putF f v fs).map (·.1) ∧ ∀ g, g ∈ fs.map (·.1) → g ∈ (putF f v fs).map (·.1)
  | [] => ⟨by simp [putF], fun g h => by simp at h⟩
  | (k, x) :: r => by
    obtain ⟨i1, i2⟩ := keys_putF f v r
    rw [show putF f v ((k, x) :: r) = (if k = f then (k, v) :: r else (k, x) :: putF f v r) from rfl]
    by_cases hk : k = f
    · rw [if_pos hk]
      subst hk
      exact ⟨by simp, fun g h => by simpa using h⟩
    · rw [if_neg hk]
      refine ⟨?_, fun g h => ?_⟩
      · rw [List.map_cons]
        exact List.mem_cons_of_mem _ i1
      · rw [List.map_cons] at h ⊢
        rcases List.mem_cons.mp h with e | e
        · exact List.mem_cons.mpr (.inl e)
        · exact List.mem_cons_of_mem _ (i2 g e)
theorem length_putF (f : Str) (v : V) : ∀ fs : List (Str × V), (putF f v fs).length ≤ fs.length + 1
  | [] => by simp [putF]
  | (k, x) :: r => by
    have ih := length_putF f v r
    rw [show putF f v ((k, x) :: r) = (if k = f then (k, v) :: r else (k, x) :: putF f v r) from rfl]
    by_cases hk : k = f
    · rw [if_pos hk, List.length_cons, List.length_cons]; omega
    · rw [if_neg hk, List.length_cons, List.length_cons]; omega

theorem RelO.some_of {v : V} {o : Option Value} (r : RelO (some v) o) : ∃ u, o = some u ∧ RelV v u := by
  cases o with
  | none => exact (show False from r).elim
  | some u => exact ⟨u, rfl, r⟩
theorem RelO.none_of {o : Option Value} (r : RelO none o) : o = none := by
  cases o with
  | none => rfl
  | some u => exact (show False from r).elim
theorem handed_of {v : V} {u : Value} (r : RelV v u) : PySem.W.handedIn u = true := by
  cases v with
  | non => cases (show u = Value.none from r); rfl
  | bl b => cases (show u = Value.bool b from r); rfl
  | int i => obtain ⟨t, e⟩ := (show ∃ t, u = Value.int i t from r); cases e; rfl
  | str x => obtain ⟨t, e⟩ := (show ∃ t, u = Value.str x t from r); cases e; rfl
  | byt b => obtain ⟨t, e⟩ := (show ∃ t, u = Value.bytes b t from r); cases e; rfl
  | flt b => obtain ⟨t, e⟩ := (show ∃ t, u = Value.float b t from r); cases e; rfl
  | ref a => cases (show u = Value.ref a from r); rfl
  | ty n => cases (show u = Value.type n from r); rfl

section
variable {P : Program} {w : World} {H H' : Hp} {h h' : Heap} {a C dx : Addr} {fs fs' : List (Str × V)}
theorem ins_get (hok : HOk P w H h) (e : H a = some (.ins C dx fs)) : ∃ mA, ObjM h a dx C mA ∧ (∀ f, RelO (fs.lookup f) (mA f)) ∧ PySem.Within mA (fs.map (·.1)) ∧ fs.length ≤ 1000 ∧ H dx = some (.own a) := by
  obtain ⟨d, z, ne, ob, mA, n, r, q⟩ := (show ObjOk P w H h a (.ins C dx fs) from hok a _ e)
  exact ⟨mA, ⟨ob, n, ne⟩, r, q, z, d⟩
end

/-! ### what of the text a class must have -/
structure Cls (K : PySem.W.Frag) (C : Addr) : Prop where
  pg : PySem.W.plainGet K C Str.empty = true
  hd : PySem.W.hasDictIn K C = true
  po : PySem.W.plainOver K C = true
  sa : PySem.W.findIn K (.ref C) "__setattr__" = some (some (.builtin "object.__setattr__"))
theorem Cls.get {K : PySem.W.Frag} {C : Addr} (c : Cls K C) (f : Str) : PySem.W.plainGet K C f = true := c.pg
/-- no class of it has the name -/
def NoAttr (K : PySem.W.Frag) (C : Addr) (f : Str) : Prop := PySem.W.findIn K (.ref C) f = some none
theorem NoAttr.taker {K : PySem.W.Frag} {C : Addr} {f : Str} (n : NoAttr K C f) : PySem.W.takerIn K C f = some none := by
  unfold PySem.W.takerIn
  rw [show PySem.W.findIn K (.ref C) f = some none from n]
  rfl
/-- a constant of the class -/
structure Con (K : PySem.W.Frag) (C : Addr) (f : Str) (v : V) (u : Value) : Prop where
  at_ : PySem.W.findIn K (.ref C) f = some (some u)
  rel : RelV v u
  get : PySem.W.specialIn K u "__get__" = some none
  cp : PySem.W.copiedNames.contains f = false
/-- a method: a plain def of the class or of one above it -/
structure Meth (K : PySem.W.Frag) (C : Addr) (m : Str) (f : Addr) : Prop where
  at_ : PySem.W.findIn K (.ref C) m = some (some (.ref f))
  fn : PySem.W.isFn K (.ref f) = true
  kp : PySem.W.keepIn K (.ref f) = true

section
variable {X : Cx} {pins : List (Addr × Obj)} {σ : St} {H : Hp} {s : Shared} {a C dx : Addr} {fs : List (Str × V)} {f : Str} {v : V} {A : Around} {E : Value → Shared → Prop}

theorem getattr_ok {b : Bool} {Q : Value → Shared → Prop} (I : Inv X pins σ H s) (e : H a = some (.ins C dx fs)) (c : Cls X.K C) (n : NoAttr X.K C f) (l : fs.lookup f = some v)
    (h : ∀ u s', Inv X pins σ H s' → RelV v u → Q u s') : wpAny (model X.prog X.w) A (getAttr (.ref a) f b) Q E s := by
  obtain ⟨mA, O, r, _, _, _⟩ := ins_get I.hok e
  obtain ⟨u, hu, ru⟩ := RelO.some_of (v := v) (o := mA f) (by rw [← l]; exact r f)
  exact get_map I.kIn O (c.get f) c.hd n hu (handed_of ru) (h u _ (I.tok _) ru)

theorem getmeth_ok {m : Str} {g : Addr} {pl : Sem Bool} {Q : Value × List Value → Shared → Prop} (I : Inv X pins σ H s) (e : H a = some (.ins C dx fs)) (c : Cls X.K C) (k : Meth X.K C m g) (l : fs.lookup m = none)
    (h : Q (.ref g, [.ref a]) s) : wpAny (model X.prog X.w) A (getMethod (.ref a) m pl) Q E s := by
  obtain ⟨mA, O, r, _, _, _⟩ := ins_get I.hok e
  have hn : mA m = none := RelO.none_of (by rw [← l]; exact r m)
  exact get_meth I.kIn O (c.get m) k.at_ k.fn hn h

theorem setattr_ok {y : V} {u : Value} {Q : Unit → Shared → Prop} (I : Inv X pins σ H s) (e : H a = some (.ins C dx fs)) (c : Cls X.K C) (n : NoAttr X.K C f) (hl : fs.length < 1000) (ry : RelV y u)
    (h : ∀ s', Inv X pins σ (upd H a (.ins C dx (putF f y fs))) s' → Q () s') : wpAny (model X.prog X.w) A (setAttr (.ref a) f u) Q E s := by
  obtain ⟨mA, O, r, wi, _, ho⟩ := ins_get I.hok e
  have hz : (fs.map (·.1)).length ≤ sizeLine := by rw [List.length_map, sizeLine_eq]; omega
  refine set_map I.kIn O c.sa c.po n.taker c.hd wi hz fun h' O' sb => h _ ?_
  have hd : ∃ o, h'.get? dx = some o := let ⟨o, _, _, e', _⟩ := O'.ns; ⟨o, e'⟩
  refine I.write (x := a) (e := dx) (by rw [e]; exact True.intro) (.inr ho) (fun b q hb z => (sb.2 b hb).trans z) hd ?_
  refine ⟨by rw [upd_ne O.ne]; exact ho, ?_, O.ne, O'.obj, _, O'.ns, fun g => ?_, fun g hg => ?_⟩
  · have := length_putF f y fs; omega
  · show RelO ((putF f y fs).lookup g) (if g = f then some u else mA g)
    rw [lookup_putF]
    by_cases q : g = f
    · rw [if_pos q, if_pos q]; exact ry
    · rw [if_neg q, if_neg q]; exact r g
  · by_cases q : g = f
    · rw [q]; exact (keys_putF f y fs).1
    · refine (keys_putF f y fs).2 g (wi g fun z => hg ?_)
      show (if g = f then some u else mA g) = none
      rw [if_neg q]; exact z

/-- a new instance, tracked, without attributes -/
theorem Inv.made (I : Inv X pins σ H s) : Inv X pins σ (upd (upd H s.heap.objs.size (.own (s.heap.objs.size + 1))) (s.heap.objs.size + 1) (.ins C s.heap.objs.size []))
    { s with heap := (s.heap.push PySem.W.emptyDict).push (PySem.W.instObj C s.heap.objs.size) } := by
  have e1 : (s.heap.push PySem.W.emptyDict).get? s.heap.objs.size = some PySem.W.emptyDict := Heap.get?_push_size s.heap rfl
  have e2 : ((s.heap.push PySem.W.emptyDict).push (PySem.W.instObj C s.heap.objs.size)).get? (s.heap.objs.size + 1) = some (PySem.W.instObj C s.heap.objs.size) := by
    have := Heap.get?_push_size (s.heap.push PySem.W.emptyDict) (o := PySem.W.instObj C s.heap.objs.size) rfl
    rwa [Heap.size_push] at this
  have e3 : (s.heap.push PySem.W.emptyDict).Ns s.heap.objs.size (fun _ => none) := ⟨PySem.W.emptyDict, #[], _, e1, rfl, (fun e he => absurd he (by simp)), fun _ => rfl⟩
  have I1 := I.laid (a := s.heap.objs.size) (o := .own (s.heap.objs.size + 1)) (h' := s.heap.push PySem.W.emptyDict) (t' := s.toks) (fun b u q => Heap.get?_push_of_some _ q) (Nat.le_refl _) ⟨_, e1⟩
  refine I1.laid (a := s.heap.objs.size + 1) (o := .ins C s.heap.objs.size []) (t' := s.toks) (fun b u q => Heap.get?_push_of_some _ q) (Nat.le_of_eq (Heap.size_push _ _)) ?_
  have ne : s.heap.objs.size ≠ s.heap.objs.size + 1 := Nat.ne_of_lt (Nat.lt_succ_self _)
  refine ⟨by rw [upd_ne ne, upd_same], Nat.zero_le _, ne, e2, fun _ => none, (Heap.Ns1.of_empty e3).at fun o q => Heap.get?_push_of_some _ q, fun _ => True.intro, fun y hy => absurd rfl hy⟩

/-- e.f where nothing but the object is asked: through attributeBase (super) and the last hold -/
theorem attr_of {prog : Program} {w : World} {env : Env} {e : Expr} {f : Str} {pos : Pos} {s : Shared} {Q : Value → Shared → Prop} (hb : attributeBase e f env (eval e env) = eval e env)
    (h : wpAny (model prog w) A (eval e env) (fun o s₁ => wpAny (model prog w) A (getAttr o f true) Q E s₁) E s) : wpAny (model prog w) A (eval (.Attribute e f pos) env) Q E s :=
  Attribute_any_ h (by rw [arm_eval_Attribute, hb])
end

/-! ### readings and rules -/
/-- e.f, an attribute of the instance -/
def tFld (K : PySem.W.Frag) (ta : TE) (f : Str) : TE := fun σ H Q => ta σ H fun x H1 => ∃ a C dx fs v, x = .ref a ∧ H1 a = some (.ins C dx fs) ∧ Cls K C ∧ NoAttr K C f ∧ fs.lookup f = some v ∧ Q v H1
/-- e.f, a constant of the class -/
def tCon (K : PySem.W.Frag) (ta : TE) (f : Str) : TE := fun σ H Q => ta σ H fun x H1 => ∃ a C dx fs v u, x = .ref a ∧ H1 a = some (.ins C dx fs) ∧ Cls K C ∧ Con K C f v u ∧ fs.lookup f = none ∧ Q v H1
/-- e.f = value -/
def sFld (K : PySem.W.Frag) (ta tv : TE) (f : Str) : TS := fun D σ H => tv σ H fun y H1 => ta σ H1 fun x H2 => ∃ a C dx fs, x = .ref a ∧ H2 a = some (.ins C dx fs) ∧ Cls K C ∧ NoAttr K C f ∧ fs.length < 1000 ∧
  D.nx σ (upd H2 a (.ins C dx (putF f y fs)))
/-- an augmented operator on two values -/
def InOp (X : Cx) (op : Operator) (rd : V → V → Hp → VK → Prop) : Prop :=
  ∀ (pins : List (Addr × Obj)) (s : Shared) (σ : St) (H : Hp) (x y : V) (u v : Value) (Q : VK), Inv X pins σ H s → RelV x u → RelV y v → rd x y H Q → wpAny (model X.prog X.w) X.A (inplaceOp op u v) (EP X pins σ Q) X.xe s
/-- e.f op= value -/
def sFldAug (K : PySem.W.Frag) (ta tv : TE) (rd : V → V → Hp → VK → Prop) (f : Str) : TS := fun D σ H => ta σ H fun x H1 => ∃ a C dx fs v, x = .ref a ∧ H1 a = some (.ins C dx fs) ∧ Cls K C ∧ NoAttr K C f ∧ fs.lookup f = some v ∧
  tv σ H1 fun y H2 => rd v y H2 fun z H3 => ∃ dx' fs', H3 a = some (.ins C dx' fs') ∧ fs'.length < 1000 ∧ D.nx σ (upd H3 a (.ins C dx' (putF f z fs')))

section
variable {X : Cx} {o e value : Expr} {f : Str} {pos pos' tpos : Pos} {ta tv : TE}
theorem pe_fld (he : PE X e ta) (hb : attributeBase e f X.env (eval e X.env) = eval e X.env) : PE X (.Attribute e f pos) (tFld X.K ta f) := by
  intro pins s σ H Q I h
  refine attr_of hb (thn (he pins s σ H _ I h) fun u s1 ⟨x, H1, I1, rx, a, C, dx, fs, v, ex, ea, c, n, l, q⟩ => ?_)
  subst ex
  obtain rfl : u = Value.ref a := rx
  exact getattr_ok I1 ea c n l fun u' s2 I2 ru => ⟨v, H1, I2, ru, q⟩
theorem ps_fld (ha : PE X o ta) (hv : PE X value tv) (hs : swapsWith value (some (.Attribute o f pos')) pos.line X.env = pure false) : PS X (.Assign [.Attribute o f pos'] value pos) (sFld X.K ta tv f) := by
  intro pins s σ H D I h
  refine plainObj_wpAny_Assign_Attribute (thn (hv pins s σ H _ I h) fun u s1 ⟨y, H1, I1, ry, q⟩ => thn (ha pins s1 σ H1 _ I1 q) fun ov s2 ⟨x, H2, I2, rx, a, C, dx, fs, ex, ea, c, n, l, q2⟩ => ?_) hs
  subst ex
  obtain rfl : ov = Value.ref a := rx
  exact setattr_ok I2 ea c n l ry fun s3 I3 => ⟨σ, _, I3, q2⟩
def rAdd : V → V → Hp → VK → Prop := fun x y H Q => ∃ i j, x = .int i ∧ y = .int j ∧ Q (.int (i + j)) H
def rSub : V → V → Hp → VK → Prop := fun x y H Q => ∃ i j, x = .int i ∧ y = .int j ∧ Q (.int (i - j)) H
end

/-! ### isinstance -/
section
variable {X : Cx} {pins : List (Addr × Obj)} {σ : St} {H : Hp} {s : Shared} {A : Around} {E : Value → Shared → Prop} {Q : Value → Shared → Prop} {c : Value} {b : Bool}
/-- the type of a value, as the fragment's deciders take it; for an instance its class -/
inductive TyOf (K : PySem.W.Frag) (H : Hp) : V → Value → Prop where
  | non : TyOf K H .non (.type "NoneType")
  | bl (x : Bool) : TyOf K H (.bl x) (.type "bool")
  | int (i : Int) : TyOf K H (.int i) (.type "int")
  | str (x : Str) : TyOf K H (.str x) (.type "str")
  | flt (x : UInt64) : TyOf K H (.flt x) (.type "float")
  | lst {a : Addr} {xs : List V} (e : H a = some (.lst xs)) : TyOf K H (.ref a) (.type "list")
  | frz {a : Addr} {o : Obj} {xs : List V} (e : H a = some (.frz o (.lst xs))) : TyOf K H (.ref a) (.type "list")
  | tup {a : Addr} {xs : List V} (e : H a = some (.tup xs)) : TyOf K H (.ref a) (.type "tuple")
  | dK {a : Addr} {kvs : List (Key × V)} (e : H a = some (.dK kvs)) : TyOf K H (.ref a) (.type "dict")
  | dT {a : Addr} {kvs : List (List Key × V)} (e : H a = some (.dT kvs)) : TyOf K H (.ref a) (.type "dict")
  | ins {a C dx : Addr} {fs : List (Str × V)} (e : H a = some (.ins C dx fs)) (cl : Cls K C) (ha : PySem.W.findIn K (.ref C) "__class__" = some (some (.builtin "object.__class__")))
      (hn : PySem.W.specialIn K (.builtin "object.__class__") "__get__" = some (some (.builtin "getset_descriptor.__get__"))) (htk : PySem.W.takesIn K (.builtin "object.__class__") = some true)
      (hm : PySem.W.mroIn K C (.type "object") = some true) : TyOf K H (.ref a) (.ref C)
/-- isinstance(x, c) for one class c, a built-in or an own one: kitOne's answer -/
theorem isinst_ok {x : V} {u t : Value} (I : Inv X pins σ H s) (rx : RelV x u) (ty : TyOf X.K H x t) (e : PySem.W.kitOne X.K t c = some b) (h : ∀ tk, Q (.bool b) { s with toks := tk }) :
    wpAny (model X.prog X.w) A (call (.builtin "isinstance") [u, c]) Q E s := by
  cases ty with
  | non => cases (show u = Value.none from rx); exact PySem.W.kia_one PySem.W.kitx_none I.kIn True.intro e (fun z => nomatch z) h
  | bl y => cases (show u = Value.bool y from rx); exact PySem.W.kia_one PySem.W.kitx_bool I.kIn True.intro e (fun z => nomatch z) h
  | int i => obtain ⟨t, q⟩ := (show ∃ t, u = Value.int i t from rx); cases q; exact PySem.W.kia_one PySem.W.kitx_int I.kIn True.intro e (fun z => nomatch z) h
  | str y => obtain ⟨t, q⟩ := (show ∃ t, u = Value.str y t from rx); cases q; exact PySem.W.kia_one PySem.W.kitx_str I.kIn True.intro e (fun z => nomatch z) h
  | flt y => obtain ⟨t, q⟩ := (show ∃ t, u = Value.float y t from rx); cases q; exact PySem.W.kia_one PySem.W.kitx_float I.kIn True.intro e (fun z => nomatch z) h
  | @lst a xs ea =>
    cases (show u = Value.ref a from rx)
    obtain ⟨_, _, n, _, h1⟩ := (show ObjOk X.prog X.w H s.heap a (.lst xs) from I.hok a _ ea)
    exact PySem.W.kia_one PySem.W.kitx_list I.kIn ⟨_, h1, rfl⟩ e (fun z => nomatch z) h
  | @frz a ob xs ea =>
    cases (show u = Value.ref a from rx)
    obtain ⟨_, _, _, n, _, h1⟩ := (show ObjOk X.prog X.w H s.heap a (.frz ob (.lst xs)) from I.hok a _ ea)
    exact PySem.W.kia_one PySem.W.kitx_list I.kIn ⟨_, h1, rfl⟩ e (fun z => nomatch z) h
  | @tup a xs ea =>
    cases (show u = Value.ref a from rx)
    obtain ⟨_, _, _, p⟩ := (show ObjOk X.prog X.w H s.heap a (.tup xs) from I.hok a _ ea)
    obtain ⟨o, h1, h2, _⟩ := p
    exact PySem.W.kia_one PySem.W.kitx_tuple I.kIn ⟨o, h1, h2⟩ e (fun z => nomatch z) h
  | @dK a kvs ea =>
    cases (show u = Value.ref a from rx)
    obtain ⟨_, _, vs, _, p⟩ := (show ObjOk X.prog X.w H s.heap a (.dK kvs) from I.hok a _ ea)
    obtain ⟨o, es, ep, h1, h2, _⟩ := p
    exact PySem.W.kia_one PySem.W.kitx_dict I.kIn ⟨o, h1, h2.1⟩ e (fun z => nomatch z) h
  | @dT a kvs ea =>
    cases (show u = Value.ref a from rx)
    obtain ⟨_, _, xs, _, o, es, ep, h1, h2, _⟩ := (show ObjOk X.prog X.w H s.heap a (.dT kvs) from I.hok a _ ea)
    exact PySem.W.kia_one PySem.W.kitx_dict I.kIn ⟨o, h1, h2.1⟩ e (fun z => nomatch z) h
  | @ins a C dx fs ea cl ha hn htk hm =>
    cases (show u = Value.ref a from rx)
    obtain ⟨mA, O, _⟩ := ins_get I.hok ea
    obtain ⟨od, J, _⟩ := O.look
    exact PySem.W.kia_one (PySem.W.kitx_own (cl.get _) cl.hd ha hn htk hm) I.kIn J e (fun z => nomatch z) h
end
end L2

namespace L2
open PySem PySem.Spec PyProof.Rows

/-! ### room -/
structure Room (k : Nat) (A : Around) : Prop where
  hd : A.handled = none
  dp : A.depth + 3 * k + 5 < recursionLimit
  un : A.units + 16 * k + 200 < cLine
theorem Room.mono {j k : Nat} {A : Around} (r : Room k A) (h : j ≤ k) : Room j A := ⟨r.hd, by have := r.dp; omega, by have := r.un; omega⟩
theorem Room.deeper {k : Nat} {A : Around} (r : Room (k + 1) A) (env : Env) : Room k (A.deeper env) :=
  ⟨r.hd, by have := r.dp; show A.depth + 1 + 3 * k + 5 < _; omega, by have := r.un; show A.units + 3 + 16 * k + 200 < _; omega⟩
theorem make_depth {A : Around} {C : Addr} {us : List Value} {kw : List (Str × Value)} : (A.under (.builtin "type.__call__" ⟨.ref C :: us, kw⟩)).depth = A.depth + 1 := by
  first | rfl | simp [Around.under, Code.weight, Code.isCreation, Code.isGuard, Code.isCaller, Code.frames, Code.isFrame, guardIds]
theorem make_units {A : Around} {C : Addr} {us : List Value} {kw : List (Str × Value)} : (A.under (.builtin "type.__call__" ⟨.ref C :: us, kw⟩)).units = A.units + 1 := by
  first | rfl | simp [Around.under, Code.cUnits, Code.frames, Code.isFrame]
theorem Room.make {k : Nat} {A : Around} (r : Room (k + 1) A) (C : Addr) (us : List Value) (kw : List (Str × Value)) : Room k (A.under (.builtin "type.__call__" ⟨.ref C :: us, kw⟩)) :=
  ⟨r.hd, by have := r.dp; rw [make_depth]; omega, by have := r.un; rw [make_units]; omega⟩
theorem Room.depth {k : Nat} {A : Around} (r : Room k A) : A.depth < recursionLimit := by have := r.dp; omega
theorem Room.units {k : Nat} {A : Around} (r : Room k A) : A.units + 64 < cLine := by have := r.un; omega
/-! ### argument lists and displays -/
def tNil : TA := fun _ H Q => Q [] H
def tCons (ta : TE) (tr : TA) : TA := fun σ H Q => ta σ H fun x H1 => tr σ H1 fun xs H2 => Q (x :: xs) H2
section
variable {X : Cx} {e : Expr} {es : List Expr} {te : TE} {t : TA} {pos : Pos}
theorem pa_nil : PA X [] tNil := fun _ _ _ _ H Q I h => Calls.spliced_nil ⟨[], H, I, .nil, h⟩
theorem pa_cons (ha : PE X e te) (hr : PA X es t) (hs : starEach (e :: es) X.env = (false, eval e X.env) :: starEach es X.env := by rfl) : PA X (e :: es) (tCons te t) := by
  intro pos pins s σ H Q I h
  rw [hs]
  show wpAny _ _ (spliced ((false, eval e X.env) :: backTo pos (starEach es X.env))) _ _ s
  refine Calls.spliced_cons (thn (ha pins s σ H _ I h) fun u s1 ⟨x, H1, I1, r1, q1⟩ => ?_)
  exact thn (hr pos pins s1 σ H1 _ I1 q1) fun us s2 ⟨xs, H2, I2, r2, q2⟩ => ⟨x :: xs, H2, I2, .cons r1 r2, q2⟩

/-- a tuple, a list of written items -/
def tTup (t : TA) : TE := fun σ H Q => t σ H fun xs H1 => xs.length ≤ sizeLine ∧ ∀ p, H1 p = none → Q (.ref p) (upd H1 p (.tup xs))
def tLst (t : TA) : TE := fun σ H Q => t σ H fun xs H1 => xs.length ≤ sizeLine ∧ ∀ p, H1 p = none → Q (.ref p) (upd H1 p (.lst xs))
theorem pe_tup {x1} (h : PA X es t) : PE X (.Tuple es x1 pos) (tTup t) := by
  intro pins s σ H Q I hq
  refine wpAny_Tuple_spliced (thn (h pos pins s σ H _ I hq) fun us s1 ⟨xs, H1, I1, r, z, q⟩ => ⟨by rw [← r.length]; exact z, ?_⟩)
  have hf : H1 s1.heap.objs.size = none := I1.hok.fresh (Nat.le_refl _)
  refine ⟨.ref s1.heap.objs.size, upd H1 s1.heap.objs.size (.tup xs), I1.laid (t' := s1.toks) (fun b u e => Heap.get?_push_of_some _ e) (Nat.le_refl _) ?_, rfl, q _ hf⟩
  exact ⟨z, us, r, ⟨_, Heap.get?_push_size _ rfl, rfl, _, rfl⟩⟩
theorem pe_lst (h : PA X es t) : PE X (.List es pos) (tLst t) := by
  intro pins s σ H Q I hq
  refine wpAny_List_spliced (thn (h pos pins s σ H _ I hq) fun us s1 ⟨xs, H1, I1, r, z, q⟩ => ⟨by rw [← r.length]; exact z, ?_⟩)
  have hf : H1 s1.heap.objs.size = none := I1.hok.fresh (Nat.le_refl _)
  refine ⟨.ref s1.heap.objs.size, upd H1 s1.heap.objs.size (.lst xs), I1.laid (t' := s1.toks) (fun b u e => Heap.get?_push_of_some _ e) (Nat.le_refl _) ?_, rfl, q _ hf⟩
  exact ⟨z, us, 0, r, Heap.get?_push_size _ rfl⟩
end

/-! ### what a def promises -/
/-- a def's promise: the bound arguments in the parameters' order, the heap, the wanted end, the wanted exception -/
abbrev Sp := List V → Hp → VK → XK → Prop
/-- how an exception lies behind a call (file 08 gives it): the callers' frames, abstract heap and state ahead of the call, the wish, the exception, the state -/
abbrev CXT := List Env → Hp → Shared → XK → Value → Shared → Prop

/-- the state at a call -/
structure Env0 (P : Program) (w : World) (K : PySem.W.Frag) (mg : Str → Option Value) (base : Heap) (A : Around) (outer : List Env) (s : Shared) (H : Hp) : Prop where
  frames : A.frames = some outer
  mod : Mod K mg base
  bs : ∀ b o, base.get? b = some o → s.heap.get? b = some o ∧ H b = none
  bsz : base.objs.size ≤ s.heap.objs.size
  funs : s.heap.FunFrames base outer
  frf : ∀ b ∈ frs outer, H b = none
  hok : HOk P w H s.heap
  bare : AllBare s.gens
/-- a call's end -/
def CE (outer : List Env) (P : Program) (w : World) (H : Hp) (s : Shared) (Q : VK) (u : Value) (s' : Shared) : Prop :=
  ∃ v H', s'.os = s.os ∧ AllBare s'.gens ∧ Un (frs outer) [] H H' s.heap s'.heap ∧ HOk P w H' s'.heap ∧ RelV v u ∧ Q v H'
def CR (CX : CXT) (outer : List Env) (P : Program) (w : World) (H : Hp) (s : Shared) (Q : VK) (E : XK) (r : Result) (s' : Shared) : Prop :=
  match r with
  | .ok (.ret u) => CE outer P w H s Q u s'
  | .ok _ => False
  | .error e => CX outer H s E e s'
structure FnOk (P : Program) (w : World) (K : PySem.W.Frag) (mg : Str → Option Value) (base : Heap) (CX : CXT) (k : Nat) (f : Addr) (fd : FuncData) (ps : List Str) (sp : Sp) : Prop where
  len : ∀ vs H Q E, sp vs H Q E → vs.length = ps.length
  run : ∀ (A : Around) (outer : List Env) (s : Shared) (H : Hp) (args : Args) (us : List Value) (vs : List V) (Q : VK) (E : XK), Room k A → Env0 P w K mg base A outer s H → BindsTo s fd args (ps.zip us) → Vals vs us → sp vs H Q E →
    codeAny (model P w) A (.call (.ref f) args) (CR CX outer P w H s Q E) s
theorem FnOk.mono {P : Program} {w : World} {K : PySem.W.Frag} {mg : Str → Option Value} {base : Heap} {CX : CXT} {j k : Nat} {f : Addr} {fd : FuncData} {ps : List Str} {sp : Sp} (F : FnOk P w K mg base CX j f fd ps sp) (h : j ≤ k) :
    FnOk P w K mg base CX k f fd ps sp := ⟨F.len, fun A outer s H args us vs Q E hr => F.run A outer s H args us vs Q E (hr.mono h)⟩
theorem Env0.make {P : Program} {w : World} {K : PySem.W.Frag} {mg : Str → Option Value} {base : Heap} {A : Around} {outer : List Env} {s : Shared} {H : Hp} (e : Env0 P w K mg base A outer s H) (C : Addr) (us : List Value) (kw : List (Str × Value)) :
    Env0 P w K mg base (A.under (.builtin "type.__call__" ⟨.ref C :: us, kw⟩)) outer s H := ⟨by first | exact e.frames | (simpa [Around.under, Code.envs, Code.isFrame, pushEnvs] using e.frames), e.mod, e.bs, e.bsz, e.funs, e.frf, e.hok, e.bare⟩
section
variable {X : Cx} {pins : List (Addr × Obj)} {σ : St} {H : Hp} {s s' : Shared}
/-- from a body: what a callee wants -/
theorem Inv.env0 (I : Inv X pins σ H s) : Env0 X.prog X.w X.K X.mg X.base X.A X.stack s H :=
  ⟨I.ok.frames, I.ok.mod, I.bs, Nat.le_trans I.ok.bsz I.sz, I.stack, I.stkFree, I.hok, I.bare⟩
/-- behind a call -/
theorem Inv.after {Q : VK} {u : Value} (I : Inv X pins σ H s) (h : CE X.stack X.prog X.w H s Q u s') : EP X pins σ Q u s' := by
  obtain ⟨v, H', os, bare, un, hok, r, q⟩ := h
  obtain ⟨hh, g, d, t, os'⟩ := s'
  obtain rfl : os' = s.os := os
  exact ⟨v, H', I.call (h' := hh) (g' := g) (d' := d) (t' := t) (ch := []) un hok bare (fun b z => absurd z (by simp)), r, q⟩
end

/-! ### calls -/
/-- f(..): the written arguments, then the defaults dvs; E: what is wanted of an exception -/
def tCall (sp : Sp) (dvs : List V) (E : XK) (t : TA) : TE := fun σ H Q => t σ H fun vs H1 => sp (vs ++ dvs) H1 Q E
/-- o.m(..) of an instance of the class at C -/
def tMeth (C : Addr) (m : Str) (sp : Sp) (dvs : List V) (E : XK) (ta : TE) (t : TA) : TE := fun σ H Q => ta σ H fun x H1 => ∃ a dx fs, x = .ref a ∧ H1 a = some (.ins C dx fs) ∧ fs.lookup m = none ∧
  t σ H1 fun vs H2 => sp (x :: (vs ++ dvs)) H2 Q E
/-- C(..): a new instance and its dict, then __init__ -/
def tMake (C : Addr) (sp : Sp) (dvs : List V) (E : XK) (t : TA) : TE := fun σ H Q => t σ H fun vs H1 => ∀ x dx, H1 x = none → H1 dx = none → dx ≠ x →
  sp (.ref x :: (vs ++ dvs)) (upd (upd H1 dx (.own x)) x (.ins C dx [])) (fun v H2 => v = .non ∧ Q (.ref x) H2) E

/-- how the parameters are bound: us the positional arguments, kw the keywords' values by name, ds the defaults that fill up -/
def Binds (K : PySem.W.Frag) (fd : FuncData) (ps : List Str) (ds : List Value) : Prop :=
  ∀ (s : Shared) (us : List Value), K.In s.heap → (us ++ ds).length = ps.length → BindsTo s fd ⟨us, []⟩ (ps.zip (us ++ ds))
/-- every parameter is given -/
theorem Binds.all {K : PySem.W.Frag} {fd : FuncData} {ps : List Str} (h : ∀ us : List Value, us.length = ps.length → bindArgs fd ⟨us, []⟩ = pure (ps.zip us)) : Binds K fd ps [] := fun s us _ hl => by
  rw [List.append_nil] at hl ⊢
  exact .of_eq (h us hl)

/-- an exception of a callee reaches what this body wants of exceptions -/
def Passes (CX : CXT) (X : Cx) (E : XK) : Prop := ∀ (pins : List (Addr × Obj)) (σ : St) (H : Hp) (s : Shared) (e : Value) (s' : Shared), Inv X pins σ H s → CX X.stack H s E e s' → X.xe e s'

section
variable {X : Cx} {CX : CXT} {k : Nat} {f C : Addr} {fd : FuncData} {ps : List Str} {sp : Sp} {dvs : List V} {ds : List Value} {E : XK} {x m : Str} {p pos apos : Pos} {e o : Expr} {es : List Expr} {ta : TE} {t : TA}

/-- the callee runs -/
theorem run_fn {pins : List (Addr × Obj)} {σ : St} {H : Hp} {s : Shared} {Q : VK} {us : List Value} {vs : List V} (F : FnOk X.prog X.w X.K X.mg X.base CX k f fd ps sp) (hr : Room k X.A) (hb : Binds X.K fd ps ds) (hd : Vals dvs ds) (hx : Passes CX X E)
    (I : Inv X pins σ H s) (r : Vals vs us) (h : sp (vs ++ dvs) H Q E) : wpAny (model X.prog X.w) X.A (call (.ref f) us) (EP X pins σ Q) X.xe s := by
  have r2 : Vals (vs ++ dvs) (us ++ ds) := r.append hd
  have hl : (us ++ ds).length = ps.length := by rw [← r2.length]; exact F.len _ _ _ _ h
  refine wpAny_call (codeAny_mono (F.run X.A X.stack s H ⟨us, []⟩ (us ++ ds) (vs ++ dvs) Q E hr I.env0 (hb s us I.kIn hl) r2 h) fun r s' hq => ?_)
  cases r with
  | error e => exact hx pins σ H s e s' I hq
  | ok fl =>
    cases fl with
    | ret u => exact I.after hq
    | next => exact False.elim hq
    | brk => exact False.elim hq
    | cont => exact False.elim hq

theorem pe_call (F : FnOk X.prog X.w X.K X.mg X.base CX k f fd ps sp) (hr : Room k X.A) (hg : Gl X x) (hm : X.mg x = some (.ref f)) (hk : PySem.W.keepIn X.K (.ref f) = true) (hb : Binds X.K fd ps ds) (hd : Vals dvs ds) (hx : Passes CX X E)
    (ha : PA X (e :: es) t) (hdb : (x == ("__debug__" : Str)) = false := by decide) (he : starEach (e :: es) X.env = (false, eval e X.env) :: starEach es X.env := by rfl) (hpl : (backTo pos (starEach es X.env)).any (·.1) = false := by rfl) :
    PE X (.Call (.Name x p) (e :: es) [] pos) (tCall sp dvs E t) := by
  intro pins s σ H Q I h
  refine wpAny_Call_Name_kw (ld_glob I hg hm ?_ hdb)
  refine PySem.W.callWith_K (h₀ := X.base) I.ok.mod.kin hk (thn (ha pos pins s σ H _ I h) fun us s1 ⟨vs, H1, I1, r, q⟩ => ⟨I1.kIn, ?_⟩) he hpl
  exact run_fn F hr hb hd hx I1 r q
/-- o.m(e, ..) -/
theorem pe_meth {pl : Sem Bool} (he : PE X o ta) (c : Cls X.K C) (hm : Meth X.K C m f) (F : FnOk X.prog X.w X.K X.mg X.base CX k f fd ps sp) (hr : Room k X.A) (hb : Binds X.K fd ps ds) (hd : Vals dvs ds) (hx : Passes CX X E) (ha : PA X (e :: es) t)
    (hst : starEach (e :: es) X.env = (false, eval e X.env) :: starEach es X.env := by rfl) (hpl : (backTo pos (starEach es X.env)).any (·.1) = false := by rfl)
    (ht : eval (.Call (.Attribute o m apos) (e :: es) [] pos) X.env = (do
      let ov ← eval o X.env
      standAt apos.atName
      let (f, first) ← holding [ov] (getMethod ov m pl)
      callWith pos f first (backTo pos (starEach (e :: es) X.env)) (backToKw pos (keywordEach [] X.env))) := by rfl) :
    PE X (.Call (.Attribute o m apos) (e :: es) [] pos) (tMeth C m sp dvs E ta t) := by
  intro pins s σ H Q I h
  refine PySem.W.methodCall_KW (pl := pl) (thn (he pins s σ H _ I h) fun u s1 ⟨x, H1, I1, rx, a, dx, fs, ex, ea, l, q⟩ => ?_) ht
  subst ex
  obtain rfl : u = Value.ref a := rx
  refine getmeth_ok I1 ea c hm l ?_
  refine PySem.W.callWith_K (first := [.ref a]) (h₀ := X.base) I.ok.mod.kin hm.kp (thn (ha pos pins s1 σ H1 _ I1 q) fun us s2 ⟨vs, H2, I2, r, q2⟩ => ⟨I2.kIn, ?_⟩) hst hpl
  exact run_fn (us := .ref a :: us) (vs := .ref a :: vs) F hr hb hd hx I2 (.cons rfl r) q2
/-- o.m() -/
theorem pe_meth0 {pl : Sem Bool} (he : PE X o ta) (c : Cls X.K C) (hm : Meth X.K C m f) (F : FnOk X.prog X.w X.K X.mg X.base CX k f fd ps sp) (hr : Room k X.A) (hb : Binds X.K fd ps ds) (hd : Vals dvs ds) (hx : Passes CX X E)
    (ht : eval (.Call (.Attribute o m apos) [] [] pos) X.env = (do
      let ov ← eval o X.env
      standAt apos.atName
      let (f, first) ← holding [ov] (getMethod ov m pl)
      callWith pos f first (backTo pos (starEach [] X.env)) (backToKw pos (keywordEach [] X.env))) := by rfl) :
    PE X (.Call (.Attribute o m apos) [] [] pos) (tMeth C m sp dvs E ta tNil) := by
  intro pins s σ H Q I h
  refine PySem.W.methodCall_KW (pl := pl) (thn (he pins s σ H _ I h) fun u s1 ⟨x, H1, I1, rx, a, dx, fs, ex, ea, l, q⟩ => ?_) ht
  subst ex
  obtain rfl : u = Value.ref a := rx
  refine getmeth_ok I1 ea c hm l ?_
  exact PySem.W.callWith_K0 (first := [.ref a]) I1.kIn hm.kp (run_fn (us := [.ref a]) (vs := [.ref a]) F hr hb hd hx I1 (.cons rfl .nil) q)

/-- what a class must have to be made -/
structure Mk (K : PySem.W.Frag) (C f : Addr) : Prop where
  makes : PySem.W.makesIn K C = true
  init : PySem.W.findIn K (.ref C) "__init__" = some (some (.ref f))
  fn : PySem.W.isFn K (.ref f) = true
  kp : PySem.W.keepIn K (.ref C) = true

theorem run_make {pins : List (Addr × Obj)} {σ : St} {H : Hp} {s : Shared} {Q : VK} {us : List Value} {vs : List V} (M : Mk X.K C f) (F : FnOk X.prog X.w X.K X.mg X.base CX k f fd ps sp) (hr : Room (k + 1) X.A) (hb : Binds X.K fd ps ds) (hd : Vals dvs ds)
    (hx : Passes CX X E) (I : Inv X pins σ H s) (r : Vals vs us)
    (h : ∀ x dx, H x = none → H dx = none → dx ≠ x → sp (.ref x :: (vs ++ dvs)) (upd (upd H dx (.own x)) x (.ins C dx [])) (fun v H2 => v = .non ∧ Q (.ref x) H2) E) :
    wpAny (model X.prog X.w) X.A (call (.ref C) us) (EP X pins σ Q) X.xe s := by
  have hq := h (s.heap.objs.size + 1) s.heap.objs.size (I.hok.fresh (Nat.le_succ _)) (I.hok.fresh (Nat.le_refl _)) (Nat.ne_of_lt (Nat.lt_succ_self _))
  have I2 := Inv.made (C := C) I
  have r2 : Vals (V.ref (s.heap.objs.size + 1) :: (vs ++ dvs)) (Value.ref (s.heap.objs.size + 1) :: (us ++ ds)) := .cons rfl (r.append hd)
  have hl : (Value.ref (s.heap.objs.size + 1) :: us ++ ds).length = ps.length := by
    have e := r2.length
    rw [F.len _ _ _ _ hq] at e
    exact e.symm
  refine wpAny_call (make_map (f := f) I.kIn M.makes M.init (beq_iff_eq.mp M.fn) (codeAny_mono (F.run _ X.stack _ _ ⟨Value.ref (s.heap.objs.size + 1) :: us, []⟩ (Value.ref (s.heap.objs.size + 1) :: (us ++ ds)) _ _ E (hr.make C us [])
    (I2.env0.make C us []) (hb _ (Value.ref (s.heap.objs.size + 1) :: us) I2.kIn hl) r2 hq) fun r s' hq' => ?_))
  cases r with
  | error e => exact hx pins σ _ _ e s' I2 hq'
  | ok fl =>
    cases fl with
    | ret u =>
      obtain ⟨v, H', I3, rv, ev, q3⟩ := I2.after hq'
      subst ev
      exact ⟨rv, ⟨V.ref (s.heap.objs.size + 1), H', I3, rfl, q3⟩⟩
    | next => exact False.elim hq'
    | brk => exact False.elim hq'
    | cont => exact False.elim hq'
theorem pe_make (M : Mk X.K C f) (F : FnOk X.prog X.w X.K X.mg X.base CX k f fd ps sp) (hr : Room (k + 1) X.A) (hg : Gl X x) (hm : X.mg x = some (.ref C)) (hb : Binds X.K fd ps ds) (hd : Vals dvs ds) (hx : Passes CX X E)
    (ha : PA X (e :: es) t) (hdb : (x == ("__debug__" : Str)) = false := by decide) (he : starEach (e :: es) X.env = (false, eval e X.env) :: starEach es X.env := by rfl) (hpl : (backTo pos (starEach es X.env)).any (·.1) = false := by rfl) :
    PE X (.Call (.Name x p) (e :: es) [] pos) (tMake C sp dvs E t) := by
  intro pins s σ H Q I h
  refine wpAny_Call_Name_kw (ld_glob I hg hm ?_ hdb)
  refine PySem.W.callWith_K (h₀ := X.base) I.ok.mod.kin M.kp (thn (ha pos pins s σ H _ I h) fun us s1 ⟨vs, H1, I1, r, q⟩ => ⟨I1.kIn, ?_⟩) he hpl
  exact run_make M F hr hb hd hx I1 r q
end

/-! ### keywords -/
/-- the values of the keywords, from the left -/
def PK (X : Cx) (kws : List Keyword) (t : TA) : Prop :=
  ∀ (pos : Pos) (pins : List (Addr × Obj)) (s : Shared) (σ : St) (H : Hp) (Q : List V → Hp → Prop), Inv X pins σ H s → t σ H Q → wpAny (model X.prog X.w) X.A (evalAll ((backToKw pos (keywordEach kws X.env)).map (·.2))) (AP X pins σ Q) X.xe s
section
variable {X : Cx} {CX : CXT} {k : Nat} {f C : Addr} {fd : FuncData} {ps ks : List Str} {sp : Sp} {E : XK} {x m : Str} {p pos apos kpos : Pos} {e o : Expr} {es : List Expr} {kws : List Keyword} {te ta : TE} {t tk : TA} {nm : Option Str}
/-- how a call with keywords binds: g puts the positional values us and the keywords' values ws (names ks) in the parameters' order, defaults among them -/
structure KBinds (K : PySem.W.Frag) (fd : FuncData) (ps ks : List Str) (g : List Value → List Value → List Value) (gV : List V → List V → List V) : Prop where
  to : ∀ (s : Shared) (us ws : List Value), K.In s.heap → (g us ws).length = ps.length → BindsTo s fd ⟨us, ks.zip ws⟩ (ps.zip (g us ws))
  rel : ∀ {vs : List V} {us : List Value} {zs : List V} {ws : List Value}, Vals vs us → Vals zs ws → Vals (gV vs zs) (g us ws)
def tCallK (sp : Sp) (gV : List V → List V → List V) (E : XK) (t tk : TA) : TE := fun σ H Q => t σ H fun vs H1 => tk σ H1 fun zs H2 => sp (gV vs zs) H2 Q E
variable {g : List Value → List Value → List Value} {gV : List V → List V → List V}
end

/-! ### a def's body keeps its promise -/
/-- names: the parameters first -/
structure FnScope (N P : List Str) (sc : Scope) : Prop where
  kind : sc.kind = .function
  co : sc.isCoroutine = false
  gen : sc.isGenerator = false
  nd : N.Nodup
  pre : N.take P.length = P
  par : ∀ x ∈ P, sc.names.lookup x = some .local ∨ sc.names.lookup x = some .cell
  nofree : ∀ y ∈ sc.names, y.2 ≠ .free

theorem bindL_out {kindOf : Str → Option NameKind} {x : Str} : ∀ {binds : List (Str × Value)} {m : Str → Option Value}, (∀ v, (x, v) ∉ binds) → bindL kindOf binds m x = m x
  | [], _, _ => rfl
  | (n, v) :: r, m, h => by
    unfold bindL
    rw [bindL_out fun w hw => h w (List.mem_cons_of_mem _ hw)]
    split
    · have : x ≠ n := by rintro rfl; exact h v List.mem_cons_self
      simp [this]
    · rfl
theorem bindC_out {kindOf : Str → Option NameKind} {x : Str} : ∀ {binds : List (Str × Value)} {m : Str → Option Value}, (∀ v, (x, v) ∉ binds) → bindC kindOf binds m x = m x
  | [], _, _ => rfl
  | (n, v) :: r, m, h => by
    unfold bindC
    rw [bindC_out fun w hw => h w (List.mem_cons_of_mem _ hw)]
    split
    · rfl
    · have : x ≠ n := by rintro rfl; exact h v List.mem_cons_self
      simp [this]
theorem bindL_get {kindOf : Str → Option NameKind} {x : Str} {v : Value} : ∀ {P : List Str} {vs : List Value} {i : Nat} {m : Str → Option Value}, P.Nodup → P[i]? = some x → vs[i]? = some v → kindOf x = some .local →
    bindL kindOf (P.zip vs) m x = some v
  | [], _, _, _, _, h, _, _ => by simp at h
  | _ :: _, [], _, _, _, _, h, _ => by simp at h
  | p :: P, w :: vs, 0, m, nd, h1, h2, hk => by
    simp at h1 h2; subst h1; subst h2
    show bindL kindOf ((p, w) :: P.zip vs) m p = _
    unfold bindL
    rw [bindL_out fun v hv => (List.nodup_cons.mp nd).1 (List.of_mem_zip hv).1, if_pos hk]
    simp
  | p :: P, w :: vs, i + 1, m, nd, h1, h2, hk => by
    show bindL kindOf ((p, w) :: P.zip vs) m x = _
    unfold bindL
    exact bindL_get (i := i) (List.nodup_cons.mp nd).2 (by simpa using h1) (by simpa using h2) hk
theorem bindC_get {kindOf : Str → Option NameKind} {x : Str} {v : Value} : ∀ {P : List Str} {vs : List Value} {i : Nat} {m : Str → Option Value}, P.Nodup → P[i]? = some x → vs[i]? = some v → kindOf x ≠ some .local →
    bindC kindOf (P.zip vs) m x = some v
  | [], _, _, _, _, h, _, _ => by simp at h
  | _ :: _, [], _, _, _, _, h, _ => by simp at h
  | p :: P, w :: vs, 0, m, nd, h1, h2, hk => by
    simp at h1 h2; subst h1; subst h2
    show bindC kindOf ((p, w) :: P.zip vs) m p = _
    unfold bindC
    rw [bindC_out fun v hv => (List.nodup_cons.mp nd).1 (List.of_mem_zip hv).1, if_neg hk]
    simp
  | p :: P, w :: vs, i + 1, m, nd, h1, h2, hk => by
    show bindC kindOf ((p, w) :: P.zip vs) m x = _
    unfold bindC
    exact bindC_get (i := i) (List.nodup_cons.mp nd).2 (by simpa using h1) (by simpa using h2) hk

/-- the names' values at the entry -/
def start (N : List Str) (vs : List V) : St := vs.map some ++ List.replicate (N.length - vs.length) none

/-- the context of a def's body, at its entry; an exception leaves the frame, then lies as CX says -/
def cxOf (CX : CXT) (P : Program) (w : World) (K : PySem.W.Frag) (mg : Str → Option Value) (base : Heap) (N : List Str) (qual : Str) (scope : Scope) (f : Addr) (cd : Value) (A : Around) (outer : List Env) (s : Shared) (H : Hp) (E : XK) : Cx where
  prog := P
  w := w
  K := K
  mg := mg
  base := base
  A := A.deeper (envOfC qual scope s.heap.objs.size f cd)
  N := N
  s₀ := s
  H₀ := H
  env := envOfC qual scope s.heap.objs.size f cd
  outer := outer
  stack := envOfC qual scope s.heap.objs.size f cd :: outer
  ex := []
  calm := true
  fn := fun _ => true
  pn := []
  xe := fun e s' => wpAny (model P w) (A.deeper (envOfC qual scope s.heap.objs.size f cd)) (leaving (envOfC qual scope s.heap.objs.size f cd) e) (fun _ s'' => CX outer H s E e s'') (fun e' s'' => CX outer H s E e' s'') s'

theorem cell_has {sc : Scope} {n : Nat} {x : Str} (h : sc.names.lookup x = some .cell) : ∃ c, (cellsFrom n sc.names []).lookup x = some c := by
  have q := PySem.W.cellsFrom_some sc.names n [] (.inl h)
  exact Option.isSome_iff_exists.mp q

theorem inv_start {CX : CXT} {P : Program} {w : World} {K : PySem.W.Frag} {mg : Str → Option Value} {base : Heap} {N ps : List Str} {qual : Str} {scope : Scope} {f : Addr} {cd : Value} {A : Around} {outer : List Env} {s s1 : Shared} {H : Hp} {E : XK} {us : List Value} {vs : List V}
    (S : FnScope N ps scope) (hd : A.handled = none) (e0 : Env0 P w K mg base A outer s H) (hl : vs.length = ps.length) (r : Vals vs us)
    (x : InCallC s s.heap.objs.size (bindL (envOfC qual scope s.heap.objs.size f cd).kindOf (ps.zip us) fun _ => none) (cellsFrom (s.heap.objs.size + 1) scope.names []) (bindC (envOfC qual scope s.heap.objs.size f cd).kindOf (ps.zip us) fun _ => none) s1) :
    Inv (cxOf CX P w K mg base N qual scope f cd A outer s H E) [] (start N vs) H s1 := by
  have hpl : ps.length ≤ N.length := by have := congrArg List.length S.pre; rw [List.length_take] at this; omega
  obtain ⟨h1, tk, rfl, hk⟩ := x.done
  have noA : ∀ b : Addr, b ∉ (cxOf CX P w K mg base N qual scope f cd A outer s H E).ex := fun b z => absurd (show b ∈ ([] : List Addr) from z) (by simp)
  refine ⟨⟨e0.mod, S.kind, rfl, rfl, Nat.le_refl _, fun y z c h1 h2 => ?_, fun y hy => ?_, fun y c _ h => ?_, fun _ => hd, Around.frames_deeper e0.frames, .inr ⟨rfl, rfl⟩, fun b z => absurd z (noA b), e0.bs, e0.bsz, fun b _ _ => noA b, fun b z => absurd z (noA b), e0.funs, e0.frf⟩,
    rfl, e0.bare, Un.kept hk, ⟨_, x.toInCall.ns, fun i y v h1 h2 h3 => ?_⟩, fun y c h => ⟨_, x.cell y c h⟩, e0.hok.fresh (Nat.le_refl _), fun y c h => ?_, fun p hp => absurd (show p ∈ ([] : List (Addr × Obj)) from hp) (by simp), e0.hok.kept hk, ?_⟩
  · exact name_of_addr x.apart (PySem.mem_of_lookup h1) (PySem.mem_of_lookup h2)
  · have hy : scope.names.lookup y = some .cell ∨ scope.names.lookup y = some .free := hy
    rcases hy with hy | hy
    · exact cell_has hy
    · exact absurd rfl (S.nofree _ (PySem.mem_of_lookup hy))
  · exact Nat.le_of_lt (x.above y c (PySem.mem_of_lookup h))
  · have hi : i < vs.length := by
      unfold start at h2
      by_cases hi : i < vs.length
      · exact hi
      · rw [List.getElem?_append_right (by simpa using hi)] at h2
        rw [List.getElem?_replicate] at h2
        split at h2 <;> cases h2
    have ha : vs[i]? = some v := by
      unfold start at h2
      rw [List.getElem?_append_left (by simpa using hi), List.getElem?_map] at h2
      cases e : vs[i]? with
      | none => rw [e] at h2; cases h2
      | some a => rw [e] at h2; cases h2; rfl
    obtain ⟨u, hu, rv⟩ := r.get ha
    have hp : ps[i]? = some y := by
      rw [← S.pre, List.getElem?_take_of_lt (by omega)]; exact h1
    have ndP : ps.Nodup := by rw [← S.pre]; exact S.nd.sublist (List.take_sublist _ _)
    refine ⟨u, rv, ?_⟩
    rcases S.par y (List.mem_of_getElem? hp) with k | k
    · exact .inl ⟨k, bindL_get ndP hp hu k⟩
    · obtain ⟨c, e⟩ := cell_has (n := s.heap.objs.size + 1) k
      refine .inr ⟨.inl k, c, e, ?_⟩
      have q := x.cell y c e
      rw [bindC_get ndP hp hu (by show scope.names.lookup y ≠ _; rw [k]; decide)] at q
      exact q
  · exact e0.hok.fresh (Nat.le_of_lt (x.above y c (PySem.mem_of_lookup h)))
  · unfold start
    show _ = N.length
    rw [List.length_append, List.length_map, List.length_replicate]
    omega

/-- THE RULE: a def (or a method) of the text, by its body. The body's reading t is chosen for each entry; it is run at the parameters' values -/
theorem fn_of {CX : CXT} {P : Program} {w : World} {K : PySem.W.Frag} {mg : Str → Option Value} {base : Heap} {k : Nat} {f : Addr} {name qual : Str} {params : Arguments} {body : List Stmt} {scope : Scope} {dV kV doc pm cdv ct oc : Value} {an od : Option Addr}
    {osl : Array (Option Value)} {N ps : List Str} {sp : Sp} (lk : K.lookup f = some ⟨oc, od, .func (PySem.W.fnOf name qual params body scope dV kV doc pm an cdv ct), osl⟩) (hcd : PySem.W.codeIn K cdv qual = true) (S : FnScope N ps scope)
    (len : ∀ vs H Q E, sp vs H Q E → vs.length = ps.length)
    (hbody : ∀ (A : Around) (outer : List Env) (s : Shared) (H : Hp) (vs : List V) (Q : VK) (E : XK), Room k (A.deeper (envOfC qual scope s.heap.objs.size f cdv)) → sp vs H Q E →
      ∃ t, PSs (cxOf CX P w K mg base N qual scope f cdv A outer s H E) body t ∧ t { nx := fun _ H' => Q .non H', rt := Q } (start N vs) H) :
    FnOk P w K mg base CX (k + 1) f (PySem.W.fnOf name qual params body scope dV kV doc pm an cdv ct) ps sp := by
  refine ⟨len, fun A outer s H args us vs Q E hr e0 hb r hsp => ?_⟩
  have hl := len _ _ _ _ hsp
  have KX : K.In s.heap := e0.mod.kin.keeps fun b o e => (e0.bs b o e).1
  have lim : s.heap.NoLimit := e0.mod.nolimit.keeps fun b o e => (e0.bs b o e).1
  have hkind : ∀ y ∈ ps.zip us, scope.names.lookup y.1 = some .local ∨ (scope.names.lookup y.1 = some .cell ∧ ((cellsFrom (s.heap.objs.size + 1) scope.names []).lookup y.1).isSome = true) := fun ⟨n, v⟩ hy => by
    rcases S.par n (List.of_mem_zip hy).1 with q | q
    · exact .inl q
    · exact .inr ⟨q, PySem.W.cellsFrom_some _ _ _ (.inl q)⟩
  refine codeAny_call_function hr.depth (KX _ _ lk) rfl S.co S.gen rfl (PySem.W.codeRec_of KX hcd) (hb _ _ _ _ ?_)
  refine wpAny_newFunctionEnv_cells S.kind hkind fun env he s1 x => ?_
  subst he
  refine ⟨lim.keeps x.toInCall.keep, codeAny_func ?_⟩
  obtain ⟨t, ht, hq⟩ := hbody A outer s H vs Q E (hr.deeper _) hsp
  have I : Inv (cxOf CX P w K mg base N qual scope f cdv A outer s H E) [] (start N vs) H s1 := inv_start S hr.hd e0 hl r x
  refine wpAny_mono (ht [] s1 (start N vs) H _ I hq) (fun fl s' hs => ?_) fun e s' hs => hs
  have fin : ∀ {σ' : St} {H' : Hp} {v : V} {u : Value}, Inv (cxOf CX P w K mg base N qual scope f cdv A outer s H E) [] σ' H' s' → RelV v u → Q v H' → CE outer P w H s Q u s' :=
    fun {σ' H' v u} J rv q => ⟨v, H', J.os, J.bare, J.base, J.hok, rv, q⟩
  cases fl with
  | ret u =>
    obtain ⟨v, σ', H', J, rv, q⟩ := hs
    exact fin J rv q
  | next =>
    obtain ⟨σ', H', J, q⟩ := hs
    exact fin (v := V.non) (u := Value.none) J rfl q
  | brk =>
    obtain ⟨_, _, _, q⟩ := hs
    exact False.elim q
  | cont =>
    obtain ⟨_, _, _, q⟩ := hs
    exact False.elim q
end L2

namespace L2
open PySem PySem.Spec PyProof.Rows
section
variable {X : Cx} {x : Str} {p pos : Pos} {e : Expr} {es : List Expr} {t : TA} {id T : String} {r : List V → Hp → VK → Prop}

def tCB (r : List V → Hp → VK → Prop) (t : TA) : TE := fun σ H Q => t σ H fun vs H1 => r vs H1 Q
/-- f(e, ..), f a built-in function -/
theorem pe_callB (hc : CallR X (.builtin id) r) (hg : Gl X x) (hm : X.mg x = none) (hv : bootBuiltins x = some (.builtin id)) (ha : PA X (e :: es) t) (hn : x ≠ "__name__" := by decide) (hdb : (x == ("__debug__" : Str)) = false := by decide)
    (he : starEach (e :: es) X.env = (false, eval e X.env) :: starEach es X.env := by rfl) (hpl : (backTo pos (starEach es X.env)).any (·.1) = false := by rfl) : PE X (.Call (.Name x p) (e :: es) [] pos) (tCB r t) := by
  intro pins s σ H Q I h
  refine wpAny_Call_Name_kw (ld_blt I hg hm hv ?_ hn hdb)
  exact PyProof.Rows.callWith_builtin1 (thn (ha pos pins s σ H _ I h) fun us s1 ⟨vs, H1, I1, r1, q1⟩ => hc pins s1 σ H1 vs us Q I1 r1 q1) he hpl
/-- T(e, ..), T a built-in type -/
theorem pe_callTy (hc : CallR X (.type T) r) (hg : Gl X x) (hm : X.mg x = none) (hv : bootBuiltins x = some (.type T)) (ha : PA X (e :: es) t) (hn : x ≠ "__name__" := by decide) (hdb : (x == ("__debug__" : Str)) = false := by decide)
    (he : starEach (e :: es) X.env = (false, eval e X.env) :: starEach es X.env := by rfl) (hpl : (backTo pos (starEach es X.env)).any (·.1) = false := by rfl) : PE X (.Call (.Name x p) (e :: es) [] pos) (tCB r t) := by
  intro pins s σ H Q I h
  refine wpAny_Call_Name_kw (ld_blt I hg hm hv ?_ hn hdb)
  exact PyProof.Rows.callWith_type1 (thn (ha pos pins s σ H _ I h) fun us s1 ⟨vs, H1, I1, r1, q1⟩ => hc pins s1 σ H1 vs us Q I1 r1 q1) he hpl
end
end L2

namespace HT
open PySem PyProof.Rows

/-- t < u of tuples of ints -/
def lexLt : List Int → List Int → Bool
  | [], [] => false
  | [], _ :: _ => true
  | _ :: _, [] => false
  | x :: xs, y :: ys => if x = y then lexLt xs ys else decide (x < y)
section
open PySem.SeqAt
open PySem.AutoSeq1 (wpAny_loadPart')
open PySem.MeetsSeq PySem.MeetsSeq2 PySem.MeetsSeq3

end

section
variable {prog : Program} {w : World} {A : Around} {E : Value → Shared → Prop} {s : Shared}

/-! ### t[a:b], not the whole -/
/-- a slice's bound as a place among n (d where it is left out) -/
def sIx (n d : Nat) : Option Int → Nat
  | none => d
  | some v => if v < 0 then (v + (n : Int)).toNat else min v.toNat n
end
end HT

namespace L2
open PySem PySem.Spec PyProof.Rows

/-! ### the parts of a slice -/
abbrev TO := St → Hp → (Option Int → Hp → Prop) → Prop
/-- a slice's part (left out, or an int) -/
def PO (X : Cx) (e : Option Expr) (t : TO) : Prop :=
  ∀ (pins : List (Addr × Obj)) (s : Shared) (σ : St) (H : Hp) (Q : Option Int → Hp → Prop), Inv X pins σ H s → t σ H Q →
    wpAny (model X.prog X.w) X.A (evalPart e X.env) (fun u s' => ∃ o H', Inv X pins σ H' s' ∧ IsPart u o ∧ Q o H') X.xe s
def tNoPart : TO := fun _ H Q => Q none H
def tPart (t : TE) : TO := fun σ H Q => t σ H fun x H1 => ∃ i, x = .int i ∧ Q (some i) H1

theorem intsAre_of {ns : List Int} : ∀ {us : List Value}, Vals (ns.map V.int) us → IntsAre us ns := by
  induction ns with
  | nil => intro us r; rw [List.map_nil] at r; cases r; exact .nil
  | cons n ns ih =>
    intro us r
    rw [List.map_cons] at r
    cases r with
    | cons r1 r2 =>
      obtain ⟨t, e⟩ := r1
      subst e
      exact .cons n t (ih r2)

section
variable {X : Cx} {e : Expr} {te : TE} {lo hi : Option Expr} {tl th : TO} {pos p2 : Pos}

theorem po_none : PO X none tNoPart := by
  intro pins s σ H Q I h
  rw [evalPart_none]
  exact wpAny_pure ⟨none, H, I, .none, h⟩
theorem po_some (h : PE X e te) : PO X (some e) (tPart te) := by
  intro pins s σ H Q I hw
  rw [evalPart_some]
  refine thn (h pins s σ H _ I hw) fun u s1 ⟨x, H1, I1, r1, q1⟩ => ?_
  obtain ⟨i, rfl, q⟩ := q1
  obtain ⟨t, rfl⟩ := r1
  exact ⟨some i, H1, I1, .int i t, q⟩

/-- what a slice of a value is, by values: the slice object stands at sl -/
def SlR (X : Cx) (r : V → Option Int → Option Int → Hp → VK → Prop) : Prop :=
  ∀ (pins : List (Addr × Obj)) (s : Shared) (σ : St) (H : Hp) (x : V) (v vl vu : Value) (lo hi : Option Int) (sl : Addr) (Q : VK), Inv X pins σ H s → RelV x v → s.heap.IsSliceOf sl vl vu .none → IsPart vl lo → IsPart vu hi → r x lo hi H Q →
    ∃ T id, typeLookup (.type T) "__getitem__" = pure (some (.builtin id)) ∧ s.TypeIs v T ∧ wpAny (model X.prog X.w) X.A (getItem v (.ref sl)) (EP X pins σ Q) X.xe s
def tSl (r : V → Option Int → Option Int → Hp → VK → Prop) (te : TE) (tl th : TO) : TE := fun σ H Q => te σ H fun x H1 => tl σ H1 fun l H2 => th σ H2 fun u H3 => r x l u H3 Q
/-- a[lo:hi], any a -/
theorem pe_slice {r : V → Option Int → Option Int → Hp → VK → Prop} (hr : SlR X r) (he : PE X e te) (hl : PO X lo tl) (hu : PO X hi th) : PE X (.Subscript e (.Slice lo hi none p2) pos) (tSl r te tl th) := by
  intro pins s σ H Q I h
  refine Subscript_ (thn (he pins s σ H _ I h) fun v s1 ⟨x, H1, I1, r1, q1⟩ => ?_)
  refine wpAny_Slice (thn (hl pins s1 σ H1 _ I1 q1) fun vl s2 ⟨l, H2, I2, pl, q2⟩ => thn (hu pins s2 σ H2 _ I2 q2) fun vu s3 ⟨u, H3, I3, pu, q3⟩ => ?_)
  rw [evalPart_none]
  refine wpAny_pure ?_
  have I4 : Inv X pins σ H3 { s3 with heap := s3.heap.push { cls := .type "slice", data := .fields #[vl, vu, .none] } } := I3.kept (t' := s3.toks) fun b ob q => Heap.get?_push_of_some _ q
  obtain ⟨T, id, hT, ht, hg⟩ := hr pins { s3 with heap := s3.heap.push { cls := .type "slice", data := .fields #[vl, vu, .none] } } σ H3 x v vl vu l u s3.heap.objs.size Q I4 r1 (Heap.IsSliceOf.new ..) pl pu q3
  show wpAny (model X.prog X.w) X.A (subscriptTail e (.Slice lo hi none p2) v (.ref s3.heap.objs.size)) (EP X pins σ Q) X.xe { s3 with heap := s3.heap.push { cls := .type "slice", data := .fields #[vl, vu, .none] } }
  exact tail_any (ops := [.ref s3.heap.objs.size, v]) ht hT hg (by with_unfolding_all rfl)

/-- the items of xs[lo:hi] -/
def cutV (xs : List V) (lo hi : Option Int) : List V := (xs.drop (HT.sIx xs.length 0 lo)).take (HT.sIx xs.length xs.length hi - HT.sIx xs.length 0 lo)
/-- t[lo:hi], not the whole of it (the whole would be t itself) -/
def rSlT (K : PySem.W.Frag) : V → Option Int → Option Int → Hp → VK → Prop := fun x lo hi H Q => ∃ a xs, x = .ref a ∧ SqT K H a xs ∧
  ¬ (HT.sIx xs.length 0 lo = 0 ∧ HT.sIx xs.length xs.length hi = xs.length) ∧ ∀ p, H p = none → Q (.ref p) (upd H p (.tup (cutV xs lo hi)))
/-! ### t < u, t + u -/
def rLtT (K : PySem.W.Frag) : R2 := fun x y H Q => ∃ a b ns ms, x = .ref a ∧ y = .ref b ∧ SqT K H a (ns.map V.int) ∧ SqT K H b (ms.map V.int) ∧ Q (.bl (HT.lexLt ns ms)) H
/-- t + u, t not empty: u empty gives t itself -/
def rCatT (K : PySem.W.Frag) : R2 := fun x y H Q => ∃ a b xs ys, x = .ref a ∧ y = .ref b ∧ SqT K H a xs ∧ SqT K H b ys ∧ xs ≠ [] ∧ xs.length + ys.length ≤ sizeLine ∧
  (ys = [] → Q (.ref a) H) ∧ (ys ≠ [] → ∀ p, H p = none → Q (.ref p) (upd H p (.tup (xs ++ ys))))
end
end L2

namespace L2
open PySem PySem.Spec PyProof.Rows

/-! ### places -/
/-- the place that an index of any sign means -/
def ixN (n : Nat) (i : Int) : Option Nat := if 0 ≤ i then (if i < n then some i.toNat else none) else if -(n : Int) ≤ i then some (i + n).toNat else none
def atI {α : Type} (xs : List α) (i : Int) : Option α := (ixN xs.length i).bind fun j => xs[j]?
theorem ixN_seq {n : Nat} {i : Int} {j : Nat} (h : ixN n i = some j) : seqIndex? i n = some j ∧ j < n ∧ -(n : Int) ≤ i ∧ i < n := by
  unfold ixN at h
  by_cases h0 : 0 ≤ i
  · rw [if_pos h0] at h
    by_cases h1 : i < n
    · rw [if_pos h1] at h
      have e : i.toNat = j := Option.some.inj h
      exact ⟨by rw [seqIndex_of h0 h1, e], by omega, by omega, h1⟩
    · rw [if_neg h1] at h; cases h
  · rw [if_neg h0] at h
    by_cases h1 : -(n : Int) ≤ i
    · rw [if_pos h1] at h
      have e : (i + n).toNat = j := Option.some.inj h
      exact ⟨by rw [seqIndex_neg (by omega) h1, e], by omega, h1, by omega⟩
    · rw [if_neg h1] at h; cases h
theorem atI_get {α : Type} {xs : List α} {i : Int} {v : α} (h : atI xs i = some v) : ∃ j, seqIndex? i xs.length = some j ∧ xs[j]? = some v ∧ j < xs.length ∧ -(xs.length : Int) ≤ i ∧ i < xs.length := by
  unfold atI at h
  cases e : ixN xs.length i with
  | none => rw [e] at h; cases h
  | some j =>
    rw [e] at h
    obtain ⟨h1, h2, h3, h4⟩ := ixN_seq e
    exact ⟨j, h1, h, h2, h3, h4⟩
theorem atI_nat {α : Type} {xs : List α} {j : Nat} {v : α} (h : xs[j]? = some v) : atI xs (j : Int) = some v := by
  have hj : j < xs.length := (List.getElem?_eq_some_iff.mp h).1
  have e : ixN xs.length (j : Int) = some j := by
    unfold ixN
    rw [if_pos (by omega), if_pos (by omega)]; simp
  unfold atI; rw [e]; exact h
/-! ### what may be subscripted -/
/-- what stands as an index of a plain subscript -/
def PlainIx (b : Expr) : Prop := ∀ o i, subscripted b false o i = operate [o, i] (getItem o i)
/-- a subscript by values -/
def IxR (X : Cx) (r : R2) : Prop :=
  ∀ (value slice : Expr) (pins : List (Addr × Obj)) (s : Shared) (σ : St) (H : Hp) (x y : V) (v u : Value) (Q : VK), Inv X pins σ H s → RelV x v → RelV y u → r x y H Q →
    subscripted slice false v u = operate [v, u] (getItem v u) → wpAny (model X.prog X.w) X.A (subscriptTail value slice v u) (EP X pins σ Q) X.xe s
/-- a call of a builtin's method by values: the receiver, the arguments -/
def MtR (X : Cx) (id : String) (r : V → List V → Hp → VK → Prop) : Prop :=
  ∀ (pins : List (Addr × Obj)) (s : Shared) (σ : St) (H : Hp) (x : V) (xs : List V) (v : Value) (us : List Value) (Q : VK), Inv X pins σ H s → RelV x v → Vals xs us → r x xs H Q →
    wpAny (model X.prog X.w) X.A (call (.builtin id) (v :: us)) (EP X pins σ Q) X.xe s
section
variable {X : Cx} {a b : Expr} {ta tb : TE} {pos : Pos}
/-- a[b] -/
theorem pe_ix {r : R2} (hr : IxR X r) (ha : PE X a ta) (hb : PE X b tb) (hs : PlainIx b) : PE X (.Subscript a b pos) (tOp r ta tb) := by
  intro pins s σ H Q I h
  exact Subscript_ (binT ha hb I h fun v u s2 x y H2 I2 rx ry q => hr a b pins s2 σ H2 x y v u Q I2 rx ry q (hs _ _))

def rIxL (K : PySem.W.Frag) : R2 := fun x y H Q => ∃ p xs i v, x = .ref p ∧ y = .int i ∧ SqL K H p xs ∧ atI xs i = some v ∧ Q v H
def rIxT (K : PySem.W.Frag) : R2 := fun x y H Q => ∃ p xs i v, x = .ref p ∧ y = .int i ∧ SqT K H p xs ∧ atI xs i = some v ∧ Q v H
def rIxS : R2 := fun x y H Q => ∃ z i c, x = .str z ∧ y = .int i ∧ z.length ≤ sizeLine ∧ atI z.cps.toList i = some c ∧ Q (.str ⟨#[c]⟩) H
theorem ix_list : IxR X (rIxL X.K) := by
  intro value slice pins s σ H x y v u Q I rx ry h hs
  obtain ⟨p, xs, i, z, rfl, rfl, hq, he, q⟩ := h
  cases rx
  obtain ⟨t, rfl⟩ := ry
  obtain ⟨its, r, pl, hz⟩ := I.list hq
  obtain ⟨j, h1, h2, h3, h4, h5⟩ := atI_get he
  obtain ⟨w, ew, rw'⟩ := r.get h2
  have hl := r.length
  have hn := line63
  have fin : EP X pins σ Q w s := ⟨z, H, I, rw', q⟩
  by_cases h0 : 0 ≤ i
  · have hj : i.toNat = j := by
      rw [seqIndex_of h0 h5] at h1
      exact Option.some.inj h1
    exact item_listR pl.isList h0 (by omega) (by rw [hj]; simpa using ew) fin hs
  · have hj : (i + (its.toArray.size : Int)).toNat = j := by
      rw [seqIndex_neg (by omega) h4] at h1
      rw [List.size_toArray, ← hl]
      exact Option.some.inj h1
    exact subscriptTail_builtinR (x := w) pl.isList.typeIs slot_list_getitem.lookup
      (wpAny_getItem_list_neg (Q := fun r s' => r = w ∧ EP X pins σ Q r s') pl.isList (by omega) (by rw [List.size_toArray] <;> omega) (by omega) (by rw [hj]; simpa using ew) ⟨rfl, fin⟩) hs
theorem ix_tup : IxR X (rIxT X.K) := by
  intro value slice pins s σ H x y v u Q I rx ry h hs
  obtain ⟨p, xs, i, z, rfl, rfl, hq, he, q⟩ := h
  cases rx
  obtain ⟨t, rfl⟩ := ry
  obtain ⟨its, r, pl, hz⟩ := I.tuple hq
  obtain ⟨j, h1, h2, h3, h4, h5⟩ := atI_get he
  obtain ⟨w, ew, rw'⟩ := r.get h2
  have hl := r.length
  have hn := line63
  have fin : EP X pins σ Q w s := ⟨z, H, I, rw', q⟩
  exact subscriptTail_builtinR (x := w) pl.typeIs slot_tuple_getitem.lookup
    (getItem_tuple (j := j) (Q := fun r s' => r = w ∧ EP X pins σ Q r s') pl (by omega) (by omega) (by rw [List.size_toArray, ← hl]; exact h1) (by simpa using ew) ⟨rfl, fin⟩) hs
theorem ix_str : IxR X rIxS := by
  intro value slice pins s σ H x y v u Q I rx ry h hs
  obtain ⟨z, i, c, rfl, rfl, hz, he, q⟩ := h
  obtain ⟨t, rfl⟩ := rx
  obtain ⟨t', rfl⟩ := ry
  obtain ⟨j, h1, h2, h3, h4, h5⟩ := atI_get he
  have hl : z.cps.toList.length = z.length := by simp [Str.length]
  rw [hl] at h1 h4 h5
  have hn := line63
  exact tail_any (typeIs_str s z t) slot_str_getitem.lookup (getItem_str (c := c) (by
    have e1 : decide (i < -(2 ^ 63 : Int)) = false := decide_eq_false (by omega)
    have e2 : decide (i ≥ 2 ^ 63) = false := decide_eq_false (by omega)
    rw [e1, e2, Bool.or_false]) (by rw [h1]; simpa using h2) ⟨.str ⟨#[c]⟩, H, I.tok _, ⟨_, rfl⟩, q⟩) hs
/-- list, tuple or str -/
def rIx (K : PySem.W.Frag) : R2 := fun x y H Q => rIxL K x y H Q ∨ rIxT K x y H Q ∨ rIxS x y H Q
/-! ### xs[i] = v, any sign -/
/-- the list's object behind a store -/
theorem mapSeq_set (its : List Value) (n j : Nat) (u : Value) : Obj.mapSeq (·.setIfInBounds j u) { cls := .type "list", data := .seq its.toArray n } = { cls := .type "list", data := .seq (its.set j u).toArray n } := by
  simp [Obj.mapSeq]
theorem Inv.lst {pins : List (Addr × Obj)} {σ : St} {H : Hp} {s : Shared} {p : Addr} {xs : List V} (I : Inv X pins σ H s) (h : H p = some (.lst xs)) :
    ∃ (its : List Value) (n : Nat), Vals xs its ∧ s.heap.get? p = some { cls := .type "list", data := .seq its.toArray n } ∧ xs.length ≤ sizeLine := by
  obtain ⟨z, its, n, r, e⟩ := I.hok p _ h
  exact ⟨its, n, r, e, z⟩
/-- the list at p is written by an update of its object -/
theorem Inv.lstUpd {pins : List (Addr × Obj)} {σ : St} {H : Hp} {s : Shared} {p : Addr} {xs ys : List V} {its its' : List Value} {n n' : Nat} {f : Obj → Obj} (I : Inv X pins σ H s) (h : H p = some (.lst xs))
    (ho : s.heap.get? p = some { cls := .type "list", data := .seq its.toArray n }) (hf : f { cls := .type "list", data := .seq its.toArray n } = { cls := .type "list", data := .seq its'.toArray n' }) (r : Vals ys its') (hz : ys.length ≤ sizeLine) (t : Nat) :
    Inv X pins σ (upd H p (.lst ys)) { s with heap := s.heap.update p f, toks := t } := by
  have e : (s.heap.update p f).get? p = some { cls := .type "list", data := .seq its'.toArray n' } := by
    rw [Heap.get?_update_self f ho (by rw [hf] <;> rfl), hf]
  refine I.write (x := p) (e := p) (by rw [h]; trivial) (.inl rfl) (fun b u hb q => (Heap.get?_update_other _ _ (Ne.symm hb)).trans q) ⟨_, e⟩ ?_
  exact ⟨hz, its', n', r, e⟩
def rSetL : V → V → V → Hp → (Hp → Prop) → Prop := fun o i v H Q => ∃ p xs k j, o = .ref p ∧ i = .int k ∧ H p = some (.lst xs) ∧ ixN xs.length k = some j ∧ Q (upd H p (.lst (xs.set j v)))
theorem set_list : PSet X rSetL := by
  intro pins s σ H o i v ov iv u Q I ro ri rv h
  obtain ⟨p, xs, k, j, rfl, rfl, hp, hj, q⟩ := h
  cases ro
  obtain ⟨t, rfl⟩ := ri
  obtain ⟨its, n, r, ho, hz⟩ := I.lst hp
  obtain ⟨h1, h2, h3, h4⟩ := ixN_seq hj
  have hl := r.length
  have hn := line63
  have I' : Inv X pins σ (upd H p (.lst (xs.set j v))) { s with heap := s.heap.update p (Obj.mapSeq (·.setIfInBounds j u)) } :=
    I.lstUpd hp ho (mapSeq_set its n j u) (r.set rv j) (by rw [List.length_set]; exact hz) s.toks
  by_cases h0 : 0 ≤ k
  · have hk : k.toNat = j := by
      rw [seqIndex_of h0 h4] at h1
      exact Option.some.inj h1
    exact PySem.W.ki_setAt ho h0 (by omega) (by rw [List.size_toArray, ← hl]; exact h4) (by rw [hk]; exact ⟨_, I', q⟩)
  · have hk : (k + (its.toArray.size : Int)).toNat = j := by
      rw [seqIndex_neg (by omega) h3] at h1
      rw [List.size_toArray, ← hl]
      exact Option.some.inj h1
    exact PySem.W.ki_setBack ho (by omega) (by rw [List.size_toArray, ← hl]; exact h3) (by omega) (by rw [hk]; exact ⟨_, I', q⟩)

/-! ### slices -/
/-- xs[lo:hi] of a list: a new list -/
def rSlL (K : PySem.W.Frag) : V → Option Int → Option Int → Hp → VK → Prop := fun x lo hi H Q => ∃ a xs, x = .ref a ∧ SqL K H a xs ∧ ∀ p, H p = none → Q (.ref p) (upd H p (.lst (cutV xs lo hi)))
/-! ### in, not in: flat items -/
def flatV : V → Bool
  | .non => true
  | .bl _ => true
  | .int _ => true
  | .str _ => true
  | _ => false
/-- == of flat values -/
def eqV : V → V → Bool
  | .non, .non => true
  | .bl a, .bl b => a == b
  | .bl a, .int b => (if a then 1 else 0) == b
  | .int a, .bl b => a == (if b then 1 else 0)
  | .int a, .int b => a == b
  | .str a, .str b => a == b
  | _, _ => false
theorem eqAt_V {A : Around} {s : Shared} {y x : V} {u v : Value} (ry : RelV y u) (rx : RelV x v) (fy : flatV y = true) (fx : flatV x = true) : SeqAt.EqAt A s u v (eqV y x) := by
  cases y with
  | non =>
    cases ry
    cases x with
    | non => cases rx; exact SeqAt.EqAt.same _
    | bl b => cases rx; exact SeqAt.EqAt.none_bool b
    | int b => obtain ⟨t, rfl⟩ := rx; exact SeqAt.EqAt.none_int b t
    | str b => obtain ⟨t, rfl⟩ := rx; exact SeqAt.EqAt.none_str b t
    | _ => exact absurd (show false = true from fx) Bool.false_ne_true
  | bl a =>
    cases ry
    cases x with
    | non => cases rx; exact SeqAt.EqAt.bool_none a
    | bl b => cases rx; exact SeqAt.EqAt.bool_bool a b
    | int b => obtain ⟨t, rfl⟩ := rx; exact SeqAt.EqAt.bool_int a b t
    | str b => obtain ⟨t, rfl⟩ := rx; exact SeqAt.EqAt.bool_str a b t
    | _ => exact absurd (show false = true from fx) Bool.false_ne_true
  | int a =>
    obtain ⟨t', rfl⟩ := ry
    cases x with
    | non => cases rx; exact SeqAt.EqAt.int_none a t'
    | bl b => cases rx; exact SeqAt.EqAt.int_bool a t' b
    | int b => obtain ⟨t, rfl⟩ := rx; exact SeqAt.EqAt.int_int a t' b t
    | str b => obtain ⟨t, rfl⟩ := rx; exact SeqAt.EqAt.int_str a t' b t
    | _ => exact absurd (show false = true from fx) Bool.false_ne_true
  | str a =>
    obtain ⟨t', rfl⟩ := ry
    cases x with
    | non => cases rx; exact SeqAt.EqAt.str_none a t'
    | bl b => cases rx; exact SeqAt.EqAt.str_bool a t' b
    | int b => obtain ⟨t, rfl⟩ := rx; exact SeqAt.EqAt.str_int a t' b t
    | str b => obtain ⟨t, rfl⟩ := rx; exact SeqAt.EqAt.str_str a t' b t
    | _ => exact absurd (show false = true from fx) Bool.false_ne_true
  | _ => exact absurd (show false = true from fy) Bool.false_ne_true
/-- the items' answers, read off the values (a value's own answer does not lean on its token) -/
def eqU (x : V) (u : Value) : Bool := match u with
  | .none => eqV .non x
  | .bool b => eqV (.bl b) x
  | .int i _ => eqV (.int i) x
  | .str z _ => eqV (.str z) x
  | _ => false
theorem eqU_of {x y : V} {u : Value} (r : RelV y u) (f : flatV y = true) : eqU x u = eqV y x := by
  cases y with
  | non => cases r; rfl
  | bl b => cases r; rfl
  | int i => obtain ⟨t, rfl⟩ := r; rfl
  | str z => obtain ⟨t, rfl⟩ := r; rfl
  | _ => exact absurd (show false = true from f) Bool.false_ne_true
theorem any_eqU {x : V} : ∀ {xs : List V} {us : List Value}, Vals xs us → xs.all flatV = true → us.any (eqU x) = xs.any fun y => eqV y x
  | _, _, .nil, _ => rfl
  | y :: xs, u :: us, .cons r t, f => by
    rw [List.all_cons, Bool.and_eq_true] at f
    rw [List.any_cons, List.any_cons, eqU_of r f.1, any_eqU t f.2]
theorem mem_eqAt {A : Around} {s : Shared} {x : V} {v : Value} (rx : RelV x v) (fx : flatV x = true) : ∀ {xs : List V} {us : List Value}, Vals xs us → xs.all flatV = true → ∀ u ∈ us, SeqAt.EqAt A s u v (eqU x u)
  | _, _, .nil, _ => fun u hu => by cases hu
  | y :: xs, u :: us, .cons r t, f => fun u' hu => by
    rw [List.all_cons, Bool.and_eq_true] at f
    rcases List.mem_cons.mp hu with rfl | hu
    · rw [eqU_of r f.1]; exact eqAt_V r rx f.1 fx
    · exact mem_eqAt rx fx t f.2 u' hu
def inV (x : V) (xs : List V) : Bool := xs.any fun y => eqV y x
/-- x in a list or tuple of flat items -/
def rIn (K : PySem.W.Frag) (neg : Bool) : R2 := fun x y H Q => ∃ p xs, y = .ref p ∧ (SqL K H p xs ∨ SqT K H p xs) ∧ flatV x = true ∧ xs.all flatV = true ∧ Q (.bl (if neg then !inV x xs else inV x xs)) H
theorem op_in_seq : OpR X (compareOp .In) (rIn X.K false) := by
  intro pins s σ H x y v u Q I rx ry h
  obtain ⟨p, xs, rfl, hq, fx, fs, q⟩ := h
  cases ry
  rcases hq with hq | hq
  · obtain ⟨its, r, pl, hz⟩ := I.list hq
    refine SeqAt.in_listAt (eqU x) pl.isList (fun w hw => mem_eqAt rx fx r fs w (by simpa using hw)) ⟨.bl _, H, I, rfl, ?_⟩
    rw [show its.toArray.any (eqU x) = its.any (eqU x) by simp, any_eqU r fs]
    exact q
  · obtain ⟨its, r, pl, hz⟩ := I.tuple hq
    refine SeqAt.in_tupleAt (eqU x) pl (fun w hw => mem_eqAt rx fx r fs w (by simpa using hw)) ⟨.bl _, H, I, rfl, ?_⟩
    rw [show its.toArray.any (eqU x) = its.any (eqU x) by simp, any_eqU r fs]
    exact q
theorem op_notIn_seq : OpR X (compareOp .NotIn) (rIn X.K true) := by
  intro pins s σ H x y v u Q I rx ry h
  obtain ⟨p, xs, rfl, hq, fx, fs, q⟩ := h
  cases ry
  rcases hq with hq | hq
  · obtain ⟨its, r, pl, hz⟩ := I.list hq
    refine SeqAt.notIn_listAt (eqU x) pl.isList (fun w hw => mem_eqAt rx fx r fs w (by simpa using hw)) ⟨.bl _, H, I, rfl, ?_⟩
    rw [show its.toArray.any (eqU x) = its.any (eqU x) by simp, any_eqU r fs]
    exact q
  · obtain ⟨its, r, pl, hz⟩ := I.tuple hq
    refine SeqAt.notIn_tupleAt (eqU x) pl (fun w hw => mem_eqAt rx fx r fs w (by simpa using hw)) ⟨.bl _, H, I, rfl, ?_⟩
    rw [show its.toArray.any (eqU x) = its.any (eqU x) by simp, any_eqU r fs]
    exact q
/-! ### len, list(x), tuple(x) of any list or tuple that is read -/
theorem call_len_seq : CallR X (.builtin "len") (fun xs H Q => ∃ p ys, xs = [.ref p] ∧ (SqL X.K H p ys ∨ SqT X.K H p ys) ∧ Q (.int ys.length) H) := by
  intro pins s σ H xs us Q I r h
  obtain ⟨p, ys, rfl, hq, q⟩ := h
  obtain ⟨u, rfl, rx⟩ := vals1 r
  cases rx
  have hn := line63
  rcases hq with hq | hq
  · obtain ⟨its, r', pl, hz⟩ := I.list hq
    have hlen := r'.length
    exact Calls.call_len_list pl.isList (by simp only [List.size_toArray] <;> omega) ⟨.int ys.length, H, I.tok _, ⟨s.toks + 1, by rw [List.size_toArray, hlen]⟩, q⟩
  · obtain ⟨its, r', pl, hz⟩ := I.tuple hq
    have hlen := r'.length
    exact len_tuple pl (by simp only [List.size_toArray] <;> omega) ⟨.int ys.length, H, I.tok _, ⟨s.toks + 1, by rw [List.size_toArray, hlen]⟩, q⟩
theorem call_len_str : CallR X (.builtin "len") (fun xs H Q => ∃ z, xs = [.str z] ∧ z.length ≤ sizeLine ∧ Q (.int z.length) H) := by
  intro pins s σ H xs us Q I r h
  obtain ⟨z, rfl, hz, q⟩ := h
  obtain ⟨u, rfl, t, rfl⟩ := vals1 r
  have hn := line63
  exact len_str (by omega) ⟨.int z.length, H, I.tok _, ⟨_, rfl⟩, q⟩
theorem call_list_of : CallR X (.type "list") (fun xs H Q => ∃ p ys, xs = [.ref p] ∧ (SqL X.K H p ys ∨ SqT X.K H p ys) ∧ ∀ l, H l = none → Q (.ref l) (upd H l (.lst ys))) := by
  intro pins s σ H xs us Q I r h
  obtain ⟨p, ys, rfl, hq, q⟩ := h
  obtain ⟨u, rfl, rx⟩ := vals1 r
  cases rx
  have fin : ∀ (its : List Value), Vals ys its → ys.length ≤ sizeLine → ∀ (h' : Heap) (c' : Nat), (∀ b o', s.heap.get? b = some o' → h'.get? b = some o') →
      h'.get? s.heap.objs.size = some { cls := .type "list", dict := none, data := .seq its.toArray c', slots := #[] } → EP X pins σ Q (.ref s.heap.objs.size) { s with heap := h' } := fun its r' hz h' c' kp e =>
    ⟨.ref s.heap.objs.size, _, I.laid (t' := s.toks) kp (Nat.le_refl _) (show ObjOk X.prog X.w _ h' _ (.lst ys) from ⟨hz, its, c', r', e⟩), rfl, q _ (I.hok.fresh (Nat.le_refl _))⟩
  rcases hq with hq | hq
  · obtain ⟨its, r', pl, hz⟩ := I.list hq
    have hlen := r'.length
    obtain ⟨o, ho, hc, n, hd⟩ := pl.isList
    exact call_list_seq p (.inl rfl) ho hc hd (fun h' c' kp e => fin its r' hz h' c' kp e) (by simp only [List.size_toArray] <;> omega)
  · obtain ⟨its, r', pl, hz⟩ := I.tuple hq
    have hlen := r'.length
    obtain ⟨o, ho, hc, n, hd⟩ := pl
    exact call_list_seq p (.inr rfl) ho hc hd (fun h' c' kp e => fin its r' hz h' c' kp e) (by simp only [List.size_toArray] <;> omega)
theorem call_tuple_of : CallR X (.type "tuple") (fun xs H Q => ∃ p ys, xs = [.ref p] ∧ ((SqL X.K H p ys ∧ ∀ l, H l = none → Q (.ref l) (upd H l (.tup ys))) ∨ (SqT X.K H p ys ∧ Q (.ref p) H))) := by
  intro pins s σ H xs us Q I r h
  obtain ⟨p, ys, rfl, h⟩ := h
  obtain ⟨u, rfl, rx⟩ := vals1 r
  cases rx
  rcases h with ⟨hq, q⟩ | ⟨hq, q⟩
  · obtain ⟨its, r', pl, hz⟩ := I.list hq
    have hlen := r'.length
    refine call_tuple_list pl.isList (fun h' kp => ?_) (by simp only [List.size_toArray] <;> omega)
    have I1 : Inv X pins σ H { s with heap := h' } := I.kept (t' := s.toks) kp
    have I2 : Inv X pins σ (upd H h'.objs.size (.tup ys)) { s with heap := h'.push { cls := .type "tuple", data := .seq its.toArray } } :=
      I1.laid (t' := s.toks) (fun b o e => Heap.get?_push_of_some _ e) (Nat.le_refl _) (show ObjOk X.prog X.w _ _ _ (.tup ys) from ⟨hz, its, r', IsTup.new _ _⟩)
    exact ⟨.ref h'.objs.size, _, I2, rfl, q _ (I1.hok.fresh (Nat.le_refl _))⟩
  · obtain ⟨its, r', pl, hz⟩ := I.tuple hq
    exact call_tuple_same pl ⟨.ref p, H, I, rfl, q⟩

/-! ### the call of a builtin's method: o.m(..) -/
/-- the value is of that builtin type -/
def tyV (K : PySem.W.Frag) (T : String) (x : V) (H : Hp) : Prop := match x with
  | .str _ => T = "str"
  | .int _ => T = "int"
  | .ref p => (T = "list" ∧ ∃ xs, SqL K H p xs) ∨ (T = "tuple" ∧ ∃ o, K.lookup p = some o ∧ o.cls = .type "tuple" ∧ o.dict = none) ∨
      (T = "dict" ∧ ((∃ kvs, H p = some (.dK kvs)) ∨ ∃ kvs, H p = some (.dT kvs))) ∨ (T = "set" ∧ ∃ S n, H p = some (.set S n))
  | _ => False
theorem tyV_is {pins : List (Addr × Obj)} {σ : St} {H : Hp} {s : Shared} {T : String} {x : V} {v : Value} (I : Inv X pins σ H s) (r : RelV x v) (ty : tyV X.K T x H) :
    s.TypeIs v T ∧ ∀ a, v = .ref a → ∃ ob, s.heap.get? a = some ob ∧ ob.dict = none := by
  cases x with
  | str z =>
    obtain ⟨t, rfl⟩ := r
    cases (show T = "str" from ty)
    exact ⟨typeIs_str s z t, fun _ e => nomatch e⟩
  | int i =>
    obtain ⟨t, rfl⟩ := r
    cases (show T = "int" from ty)
    exact ⟨typeIs_int s i t, fun _ e => nomatch e⟩
  | ref p =>
    cases r
    rcases ty with ⟨rfl, xs, hq⟩ | ⟨rfl, o, hk, hc, hd⟩ | ⟨rfl, hk⟩ | ⟨rfl, S, n, hk⟩
    · obtain ⟨its, _, pl, _⟩ := I.list hq
      refine ⟨pl.isList.typeIs, fun a e => ?_⟩
      cases e
      obtain ⟨o, n, e, c, hd, _⟩ := pl
      exact ⟨o, e, hd⟩
    · refine ⟨⟨o, I.kIn p o hk, hc⟩, fun a e => ?_⟩
      cases e
      exact ⟨o, I.kIn _ o hk, hd⟩
    · have z : ∃ o, s.heap.get? p = some o ∧ o.ExactDict := by
        rcases hk with ⟨kvs, hk⟩ | ⟨kvs, hk⟩
        · obtain ⟨_, _, _, _, o, _, _, e, ex, _⟩ := I.hok p _ hk
          exact ⟨o, e, ex⟩
        · obtain ⟨_, _, _, _, o, _, _, e, ex, _⟩ := I.hok p _ hk
          exact ⟨o, e, ex⟩
      obtain ⟨o, e, ex⟩ := z
      refine ⟨⟨o, e, ex.1⟩, fun a e2 => ?_⟩
      cases e2
      exact ⟨o, e, ex.2.1⟩
    · obtain ⟨o, _, _, _, e, ex, _⟩ := I.hok p _ hk
      refine ⟨⟨o, e, ex.1⟩, fun a e2 => ?_⟩
      cases e2
      exact ⟨o, e, ex.2.1⟩
  | _ => exact False.elim ty
def tBM0 (K : PySem.W.Frag) (T : String) (r : V → List V → Hp → VK → Prop) (to : TE) : TE := fun σ H Q => to σ H fun x H1 => tyV K T x H1 ∧ r x [] H1 Q
def tBM (K : PySem.W.Frag) (T : String) (r : V → List V → Hp → VK → Prop) (to : TE) (t : TA) : TE := fun σ H Q => to σ H fun x H1 => tyV K T x H1 ∧ t σ H1 fun xs H2 => r x xs H2 Q
variable {o e : Expr} {es : List Expr} {to : TE} {t : TA} {name : Str} {apos cpos : Pos} {T id : String} {r : V → List V → Hp → VK → Prop}
theorem pe_bm (pa : PlainAttrs T) (slot : Slot T name id) (hty : typeOf (.builtin id) = pure (.type "method_descriptor")) (hm : MtR X id r) (ho : PE X o to) (ha : PA X (e :: es) t)
    (hbase : attributeBase o name X.env (eval o X.env) = eval o X.env := by rfl)
    (hfew : ((backTo cpos (starEach (e :: es) X.env)).all (fun x => !x.1) && (backToKw cpos (keywordEach [] X.env)).all (fun x => x.1.isSome)
      && decide ((e :: es).length + ([] : List Keyword).length + (if ([] : List Keyword).isEmpty then 0 else 1) < 30)) = true := by rfl)
    (hline : (apos.endLine == cpos.line) = true := by rfl) (hs : starEach (e :: es) X.env = (false, eval e X.env) :: starEach es X.env := by rfl) (hplain : (backTo cpos (starEach es X.env)).any (·.1) = false := by rfl) :
    PE X (.Call (.Attribute o name apos) (e :: es) [] cpos) (tBM X.K T r to t) := by
  intro pins s σ H Q I h
  refine wpAny_Call_method_late hbase hfew hline rfl (thn (ho pins s σ H _ I h) fun v s1 ⟨x, H1, I1, r1, ty, q1⟩ => ?_)
  obtain ⟨h1, h2⟩ := tyV_is I1 r1 ty
  refine ⟨T, id, pa, slot, hty, h1, h2, ?_⟩
  have hA := ha cpos pins s1 σ H1 _ I1 q1
  rw [hs] at hA ⊢
  refine Calls.callWith_builtin (by show (false || (backTo cpos (starEach es X.env)).any (·.1)) = false; rw [hplain] <;> rfl) (Calls.evalArgs_plain ?_)
  exact thn hA fun us s2 ⟨vs, H2, I2, r2, q2⟩ => hm pins s2 σ H2 x vs v us Q I2 r1 r2 q2
/- xs.append(e), list.index on a module's tuple .. are MtR facts of 06m -/
end
end L2

namespace L2
open PySem PySem.Spec PyProof.Rows

def MtM (X : Cx) (id : String) (r : V → List V → Hp → VK → Prop) : Prop :=
  ∀ (pins : List (Addr × Obj)) (s : Shared) (σ : St) (H : Hp) (x : V) (xs : List V) (v : Value) (us : List Value) (Q : VK), Inv X pins σ H s → RelV x v → Vals xs us → r x xs H Q →
    wpAny (model X.prog X.w) X.A (call (.builtin id) (v :: us)) (EP X pins σ Q) X.xe s

/-! ### lists of values -/
theorem Vals.one : ∀ {x : V} {us : List Value}, Vals [x] us → ∃ u, us = [u] ∧ RelV x u
  | _, _, .cons r .nil => ⟨_, rfl, r⟩
theorem Vals.eraseIdx : ∀ {xs : List V} {us : List Value} (i : Nat), Vals xs us → Vals (xs.eraseIdx i) (us.eraseIdx i)
  | _, _, _, .nil => .nil
  | _, _, 0, .cons _ t => t
  | _, _, i + 1, .cons r t => .cons r (Vals.eraseIdx i t)
theorem len_erase {α : Type} : ∀ (l : List α) (i : Nat), (l.eraseIdx i).length ≤ l.length
  | [], _ => Nat.le_refl _
  | _ :: _, 0 => Nat.le_succ _
  | _ :: r, i + 1 => Nat.succ_le_succ (len_erase r i)
section
variable {X : Cx} {pins : List (Addr × Obj)} {σ : St} {H : Hp} {s : Shared} {l b : Addr} {xs ys zs : List V}

/-! ### the two steps: a tracked list is rewritten, a new list is laid -/
theorem Inv.lset {its its' : List Value} {n : Nat} {f : Array Value → Array Value} {t' : Nat} (I : Inv X pins σ H s) (hH : H l = some (.lst xs))
    (e : s.heap.get? l = some { cls := .type "list", data := .seq its.toArray n }) (hf : f its.toArray = its'.toArray) (hv : Vals ys its') (hz : ys.length ≤ sizeLine) :
    Inv X pins σ (upd H l (.lst ys)) { s with heap := s.heap.update l (Obj.mapSeq f), toks := t' } := by
  have q := PySem.IsL.update e f
  rw [hf] at q
  refine I.write (x := l) (e := l) (by rw [hH]; exact trivial) (.inl rfl) (fun b' u hb hu => (Heap.get?_update_other s.heap (Obj.mapSeq f) (Ne.symm hb)).trans hu) ⟨_, q⟩ ?_
  exact ⟨hz, its', _, hv, q⟩
theorem Inv.lnew {its : List Value} {t' : Nat} (I : Inv X pins σ H s) (hv : Vals ys its) (hz : ys.length ≤ sizeLine) :
    Inv X pins σ (upd H s.heap.objs.size (.lst ys)) { s with heap := s.heap.push { cls := .type "list", data := .seq its.toArray }, toks := t' } :=
  I.laid (fun _ _ q => Heap.get?_push_of_some _ q) (Nat.le_refl _) ⟨hz, its, 0, hv, Heap.get?_push_size _ rfl⟩
theorem Inv.fresh (I : Inv X pins σ H s) : H s.heap.objs.size = none := I.hok.fresh (Nat.le_refl _)
theorem Inv.lstM (I : Inv X pins σ H s) (hH : H l = some (.lst xs)) : xs.length ≤ sizeLine ∧ ∃ (its : List Value) (n : Nat), Vals xs its ∧ xs.length = its.length ∧ s.heap.get? l = some { cls := .type "list", data := .seq its.toArray n } := by
  obtain ⟨z, its, n, r, e⟩ := I.hok l _ hH
  exact ⟨z, its, n, r, r.length, e⟩

end

section
variable {X : Cx}

/-! ### methods -/
def rAppend : V → List V → Hp → VK → Prop := fun x vs H Q => ∃ l xs y, x = .ref l ∧ vs = [y] ∧ H l = some (.lst xs) ∧ xs.length < sizeLine ∧ Q .non (upd H l (.lst (xs ++ [y])))
theorem mt_append : MtM X "list.append" rAppend := by
  intro pins s σ H x vs v us Q I rx rv h
  obtain ⟨l, xs, y, rfl, rfl, hH, hz, q⟩ := h
  cases rx
  obtain ⟨u, rfl, ru⟩ := rv.one
  obtain ⟨z, its, n, r, hl, e⟩ := I.lstM hH
  refine call_meets F.slot_list_append ⟨_, e, rfl⟩ F.entry_list_append (F.args_list_append_2 _ _) (PySem.list_append l its.toArray n u (by rw [List.size_toArray]; omega)) ⟨e, ?_⟩
  refine ⟨.non, _, I.lset (its' := its ++ [u]) hH e (by simp) (r.append (.cons ru .nil)) ?_, rfl, q⟩
  rw [List.length_append, List.length_singleton]
  omega

def rExtend : V → List V → Hp → VK → Prop := fun x vs H Q => ∃ l b xs zs, x = .ref l ∧ vs = [.ref b] ∧ H l = some (.lst xs) ∧ H b = some (.lst zs) ∧ xs.length + zs.length ≤ sizeLine ∧ Q .non (upd H l (.lst (xs ++ zs)))
def rPop : V → List V → Hp → VK → Prop := fun x vs H Q => ∃ l xs y, x = .ref l ∧ vs = [] ∧ H l = some (.lst xs) ∧ xs[xs.length - 1]? = some y ∧ Q y (upd H l (.lst xs.dropLast))
def rPopAt : V → List V → Hp → VK → Prop := fun x vs H Q => ∃ l xs i k y, x = .ref l ∧ vs = [.int i] ∧ H l = some (.lst xs) ∧ -(2 ^ 63) ≤ i ∧ i < 2 ^ 63 ∧ seqIndex? i xs.length = some k ∧ xs[k]? = some y ∧ Q y (upd H l (.lst (xs.eraseIdx k)))
theorem mt_popAt : MtM X "list.pop" rPopAt := by
  intro pins s σ H x vs v us Q I rx rv h
  obtain ⟨l, xs, i, k, y, rfl, rfl, hH, h1, h2, hk, hy, q⟩ := h
  cases rx
  obtain ⟨u, rfl, ru⟩ := rv.one
  obtain ⟨t, rfl⟩ := ru
  obtain ⟨z, its, n, r, hl, e⟩ := I.lstM hH
  obtain ⟨w, hw, rw'⟩ := r.get hy
  refine call_meets F.slot_list_pop ⟨_, e, rfl⟩ F.entry_list_pop (F.args_list_pop_2 _ _)
    (MeetsSeq.list_pop_at l its.toArray n i t k w (fitsIndex_both h1 h2) (by rw [List.size_toArray, ← hl]; exact hk) (by rw [← Array.getElem?_toList]; exact hw) (by rw [List.size_toArray]; omega)) ⟨e, ?_⟩
  refine ⟨y, _, I.lset (its' := its.eraseIdx k) hH e ?_ (r.eraseIdx k) ?_, rw', q⟩
  · show its.toArray.eraseIdxIfInBounds k = (its.eraseIdx k).toArray
    rw [List.eraseIdxIfInBounds_toArray]
  · have := len_erase xs k
    omega

def rReverse : V → List V → Hp → VK → Prop := fun x vs H Q => ∃ l xs, x = .ref l ∧ vs = [] ∧ H l = some (.lst xs) ∧ Q .non (upd H l (.lst xs.reverse))
def rClear : V → List V → Hp → VK → Prop := fun x vs H Q => ∃ l xs, x = .ref l ∧ vs = [] ∧ H l = some (.lst xs) ∧ Q .non (upd H l (.lst []))
/-! ### list + list, list += list, list * int -/
def rCat : R2 := fun x y H Q => ∃ l b xs zs, x = .ref l ∧ y = .ref b ∧ H l = some (.lst xs) ∧ H b = some (.lst zs) ∧ xs.length + zs.length ≤ sizeLine ∧ ∀ p, H p = none → Q (.ref p) (upd H p (.lst (xs ++ zs)))
theorem op_cat : OpR X (binaryOp .Add) rCat := by
  intro pins s σ H x y v u Q I rx ry h
  obtain ⟨l, b, xs, zs, rfl, rfl, hH, hB, hz, q⟩ := h
  cases rx
  cases ry
  obtain ⟨z, its, n, r, hl, e⟩ := I.lstM hH
  obtain ⟨z2, its2, n2, r2, hl2, e2⟩ := I.lstM hB
  refine PySem.P.add_list e e2 ?_ (by rw [List.size_toArray, List.size_toArray]; omega)
  have ea : its.toArray ++ its2.toArray = (its ++ its2).toArray := by simp
  rw [ea]
  exact ⟨.ref _, _, I.lnew (t' := s.toks) (r.append r2) (by rw [List.length_append]; omega), rfl, q _ I.fresh⟩
/-- a list times an int (a negative one is nothing) -/
def rRep : R2 := fun x y H Q => ∃ l k xs, x = .ref l ∧ y = .int k ∧ H l = some (.lst xs) ∧ -(2 ^ 63) ≤ k ∧ k < 2 ^ 63 ∧ xs.length * k.toNat ≤ sizeLine ∧
  ∀ p, H p = none → Q (.ref p) (upd H p (.lst (List.replicate k.toNat xs).flatten))
/-! ### del xs[i] -/
end

/-! ### xs[a:b] = ys -/
section
variable {prog : Program} {w : World} {A : Around} {E : Value → Shared → Prop} {s : Shared}
end

section
variable {X : Cx}
end
end L2

namespace Att
open PySem PySem.W PySem.Calls PyProof.Rows

/-! ### the script -/
theorem ints_of_wellAll {P : Params} {h : Heap} : ∀ (ns : List Int) (vs : List Value), WellAll P h vs (ns.map WData.int) → IntsAre vs ns := by
  intro ns
  induction ns with
  | nil =>
    intro vs w
    rw [List.map_nil] at w
    cases w
    exact .nil
  | cons n ns ih =>
    intro vs w
    rw [List.map_cons] at w
    cases w with
    | cons a b =>
      cases a
      exact .cons _ _ (ih _ b)

theorem script_of {l : OpenLaw} {n : Nat} (hn : l.most = some n) {P : Params} {h : Heap} {args : List WData} {vals : List Value}
    (hpre : l.row.toRowW.claim.pre args = true) (hwl : WellAll P h vals args) :
    ∃ a vs ns, vals = [Value.ref a] ∧ args = [WData.list (ns.map WData.int)] ∧ h.get? a = some { cls := .type "list", data := .seq vs.toArray } ∧ IntsAre vs ns ∧ ns.length ≤ n := by
  have hsh : WShape.hasAll [] args [.list .int] = true := (pre_splitW hpre).1
  have hc : l.pre.holds [] { args := args } = true := (pre_splitW hpre).2
  obtain ⟨d, r, rfl, h1, h2⟩ := hasAllW_cons hsh
  obtain rfl := hasAllW_nil h2
  obtain ⟨xs, rfl, h3⟩ := hasW_list h1
  obtain ⟨ns, rfl⟩ := items_int h3
  have hlen : ns.length ≤ n := by
    unfold OpenLaw.pre at hc
    have h4 : (WTm.not (.lt (.lit (.int (n : Int))) (.len (.arg 0)))).holds [] { args := [.list (ns.map .int)] } = true := by
      have h4 := (holds_andW hc).1
      rw [hn] at h4
      exact h4
    have h5 := condW_of h4 (w_not (w_lt w_lit (w_len_list (w_arg rfl))))
    rw [List.length_map] at h5
    refine Nat.le_of_not_lt fun q => ?_
    have q' : (n : Int) < ((ns.length : Nat) : Int) := by omega
    first
      | (rw [decide_eq_true q'] at h5; exact absurd h5 (by decide))
      | (simp at h5; omega)
  cases hwl with
  | cons w1 w2 =>
    cases w2
    cases w1 with
    | list ho hall => exact ⟨_, _, ns, rfl, rfl, ho, ints_of_wellAll ns _ hall, hlen⟩

theorem post_true (l : OpenLaw) (args : List WData) : l.row.toRowW.claim.post args (.bool true) args = true :=
  postW_of (r := l.row.toRowW) (X := (true == true))
    (show WShape.has [] (.bool true) .bool = true by first | rfl | decide | simp [WShape.has, WShape.arms, WShape.armsAll])
    (show (WTm.eq .res (.lit (.bool true))).value [] { args := args, res := some (.bool true), after := args } = some (.bool (true == true)) from w_eq_bool (w_res rfl) w_lit) rfl

/-! ### the attachment: holds_open's last premise (the goal 'hc' behind k_head) from a wpAny of the law's body -/
/-- the same from a codeAny of the CALL (for a layer whose function contracts speak of calls) -/
theorem attach_call {l : OpenLaw} {n : Nat} {q : Program} {loose : List Str} {XP : (Str → Option Value) → Heap → Prop} {YP : World → Heap → Prop} {d : DefRec}
    (hn : l.most = some n) (hdf : d.params.defaults = [])
    (call : ∀ (w : World) (s₀ s₁ : Shared) (mg mb : Str → Option Value) (fa : Addr) (o : Obj) (pm cd doc : Value) (a : Addr) (vs : List Value) (ns : List Int),
      Ground q loose [] XP w s₀ mg mb s₁.heap → YP w s₁.heap →
      s₁.heap.get? fa = some o → o.data = .func (docDef d.name d.params d.body d.scope pm cd doc) → s₁.heap.CodeRec cd d.name → mg d.name = some (.ref fa) →
      s₁.heap.get? a = some { cls := .type "list", data := .seq vs.toArray } → IntsAre vs ns → ns.length ≤ n → s₁.gens = #[] →
      codeAny (model l.prog w) callerA (.call (.ref fa) ⟨[.ref a], []⟩) (fun r s' => r = .ok (.ret (.bool true)) ∧ OldK s₁.heap s'.heap ∧ s'.os = s₁.os ∧ AllBare s'.gens) s₁) :
    WalkO q loose XP YP l.row.toRowW d [] (fun f vs => PySem.call f vs) := by
  intro w s₀ s₁ mg mb G Y fa o pm cd doc dV kV ho hd hcd hD hmg hg args vals as hpre hlay hrd hwl hlo
  obtain rfl : dV = .none := Dflts.none hD hdf
  obtain rfl : kV = .none := Dflts.noKw hD
  obtain ⟨a, vs, ns, rfl, rfl, hobj, hints, hlen⟩ := script_of hn hpre hwl
  refine enter_call (codeAny_mono (call w s₀ s₁ mg mb fa o pm cd doc a vs ns G Y ho (fd_plain hd) hcd hmg hobj hints hlen hg) fun r s' hq => ?_)
  obtain ⟨rfl, h2, h3, h4⟩ := hq
  exact ⟨.inl ⟨.bool true, .bool true, [], rfl, fun _ => rfl, .bool true, post_true l _, fun _ => ⟨List.Pairwise.nil, fun _ hm => (nomatch hm)⟩⟩, h2, h3, h4⟩

/-! ### rules over ANY heap (no ledger) from facts about the written part K: the library's own take a ledger (News) for what they write -/
section
variable {prog : Program} {w : World} {A : Around} {E : Value → Shared → Prop} {s : Shared} {K : Frag}

/-! the whole heap as the ledger: makes every rule that writes through a ledger a rule over any heap -/
def noObjs (h : Heap) : Heap := { h with objs := #[] }
def ledger (h : Heap) (L d : Addr) : List (Addr × Obj) := (List.range h.objs.size).filterMap fun a => if a = L ∨ a = d then none else (h.get? a).map fun o => (a, o)
end
end Att

namespace L2
open PySem PySem.Spec PyProof.Rows

theorem vals_ints : ∀ {vs : List Value} {ns : List Int}, IntsAre vs ns → Vals (ns.map V.int) vs
  | _, _, .nil => .nil
  | _, _, .cons n t h => .cons ⟨t, rfl⟩ (vals_ints h)

/-- nothing is tracked but the script, known to the object (or it is an object of the module) -/
def Only (H : Hp) : Prop := ∀ b, H b = none ∨ ∃ o xs, H b = some (.frz o (.lst xs))

/-- THE HEAD: the law's promise, at the heap behind the top. F, the promise of the law's def, may use that base is part of the heap (so K.In base, base.Ns mainGlobals mg stand in Mod) -/
theorem law_call {P : Program} {w : World} {K : PySem.W.Frag} {mg mb : Str → Option Value} {CX : CXT} {k : Nat} {fa a : Addr} {fd : FuncData} {x : Str} {sp : Sp} {s₁ : Shared} {vs : List Value} {ns : List Int}
    (KX : K.In s₁.heap) (hns : s₁.heap.Ns mainGlobals mg) (hb : s₁.heap.Ns builtinsNs mb) (hbb : ∀ x : Str, x ≠ "__name__" → mb x = bootBuiltins x) (hlim : s₁.heap.NoLimit) (hg : s₁.gens = #[])
    (ha : s₁.heap.get? a = some { cls := .type "list", data := .seq vs.toArray }) (hi : IntsAre vs ns) (hl : ns.length ≤ sizeLine) (hr : Room k callerA)
    (F : ∀ base : Heap, K.In base → base.Ns mainGlobals mg → FnOk P w K mg base CX k fa fd [x] sp) (hbind : ∀ (s : Shared) (u : Value), BindsTo s fd ⟨[u], []⟩ [(x, u)])
    (hsp : ∀ H : Hp, Only H → SqL K H a (ns.map V.int) → sp [.ref a] H (fun v _ => v = .bl true) fun _ _ _ => False)
    (hCX : ∀ H e s', CX [] H s₁ (fun _ _ _ => False) e s' → False) :
    codeAny (model P w) callerA (.call (.ref fa) ⟨[.ref a], []⟩) (fun r s' => r = .ok (.ret (.bool true)) ∧ OldK s₁.heap s'.heap ∧ s'.os = s₁.os ∧ AllBare s'.gens) s₁ := by
  have rv := vals_ints hi
  have lenV := hi.length
  -- from an abstract heap in which nothing but the script may be tracked
  have core : ∀ H : Hp, Only H → SqL K H a (ns.map V.int) → HOk P w H s₁.heap → (∀ b, H b ≠ none → b = a) → (H a ≠ none → K.lookup a = none) →
      codeAny (model P w) callerA (.call (.ref fa) ⟨[.ref a], []⟩) (fun r s' => r = .ok (.ret (.bool true)) ∧ OldK s₁.heap s'.heap ∧ s'.os = s₁.os ∧ AllBare s'.gens) s₁ := by
    intro H hO hS hok hA hK
    have base_of : ∀ {b : Addr} {o : Obj}, s₁.heap.get? b = some o → H b = none → (hidT s₁.heap H).get? b = some o := fun e n => hidT_get e n
    have noA : ∀ {b : Addr} {o : Obj} {es : Array DictEntry} {ep : Nat}, s₁.heap.get? b = some o → o.data = .dict es ep → H b = none := fun {b o es ep} e d => by
      cases q : H b with
      | none => rfl
      | some u =>
        have e' : b = a := hA b (by rw [q]; simp)
        subst e'
        rw [ha] at e; cases e
        have d' : Data.seq vs.toArray _ = Data.dict es ep := d
        cases d'
    have nsK : ∀ {b : Addr} {m : Str → Option Value}, s₁.heap.Ns b m → (hidT s₁.heap H).Ns b m := fun {b m} ⟨o, es, ep, e, d, r⟩ => ⟨o, es, ep, base_of e (noA e d), d, r⟩
    have hKb : K.In (hidT s₁.heap H) := fun b o e => base_of (KX b o e) (by
      cases q : H b with
      | none => rfl
      | some u =>
        have e' : b = a := hA b (by rw [q]; simp)
        subst e'
        rw [hK (by rw [q]; simp)] at e; cases e)
    have hM : Mod K mg (hidT s₁.heap H) := ⟨hKb, nsK hns, ⟨mb, nsK hb, hbb⟩, let ⟨mc, h1, h2⟩ := hlim; ⟨mc, nsK h1, h2⟩⟩
    have e0 : Env0 P w K mg (hidT s₁.heap H) callerA [] s₁ H := ⟨rfl, hM, fun b o e => of_hidT e, Nat.le_of_eq (hidT_size _ _), trivial, fun b hb => absurd (show b ∈ ([] : List Addr) from hb) (by simp), hok, .of_eq hg⟩
    refine codeAny_mono ((F _ hKb (nsK hns)).run callerA [] s₁ H ⟨[.ref a], []⟩ [.ref a] [.ref a] _ _ hr e0 (hbind s₁ (.ref a)) (.cons rfl .nil) (hsp H hO hS)) fun r s' h => ?_
    cases r with
    | error e => exact (hCX H e s' h).elim
    | ok fl =>
      cases fl with
      | next => exact False.elim h
      | brk => exact False.elim h
      | cont => exact False.elim h
      | ret u =>
        obtain ⟨v, H', os, bare, un, hok', r', q⟩ := h
        have q' : v = .bl true := q
        subst q'
        obtain rfl : u = Value.bool true := r'
        refine ⟨rfl, OldK.of_keep fun b o e => ?_, os, bare⟩
        cases q : H b with
        | none => exact un.keep b o e q (by intro z; exact absurd (show b ∈ ([] : List Addr) from z) (by simp)) (by simp)
        | some u =>
          rcases hO b with z | ⟨ob, xs, z⟩
          · rw [q] at z; cases z
          · have z2 := un.frzs b ob _ z
            obtain ⟨e1, _⟩ := hok b _ z
            obtain ⟨e2, _⟩ := hok' b _ z2
            rw [e] at e1; cases e1
            exact e2
  cases hk : K.lookup a with
  | some o =>
    -- the script is one of the module's own objects
    have e := KX a o hk
    rw [ha] at e
    cases e
    refine core (fun _ => none) (fun _ => .inl rfl) (.inr ⟨_, vs.toArray, _, hk, rfl, rfl, rfl, by rw [List.size_toArray, lenV]; exact hl, by simpa using rv⟩) (fun b u z => by have z' : (none : Option HO) = some u := z; cases z') (fun b z => absurd rfl z) fun z => absurd rfl z
  | none =>
    refine core (fun b => if b = a then some (.frz { cls := .type "list", data := .seq vs.toArray } (.lst (ns.map V.int))) else none) (fun b => ?_) (.inl (.inr ⟨{ cls := .type "list", data := .seq vs.toArray }, if_pos rfl⟩)) (fun b u z => ?_) (fun b z => ?_) fun _ => hk
    · by_cases hb : b = a
      · exact .inr ⟨_, _, if_pos hb⟩
      · exact .inl (if_neg hb)
    · by_cases hb : b = a
      · have z' := (if_pos hb).symm.trans z
        cases z'
        subst hb
        exact ⟨ha, by rw [List.length_map]; exact hl, vs, _, rv, ha⟩
      · have z' := (if_neg hb).symm.trans z
        cases z'
    · by_cases hb : b = a
      · exact hb
      · exact absurd (if_neg hb) z
end L2

namespace L2
open PySem PySem.Spec PyProof.Rows

abbrev KOf {K : PySem.W.Frag} {h : Heap} (_ : K.In h) : PySem.W.Frag := K

/-- the goal that k_head leaves (case hc), from the law's promise. F gives the function object fd (K's own) once, then the promise over every base -/
theorem walk_of {l : PySem.W.OpenLaw} {n k : Nat} {q : Program} {loose : List Str} {XP : (Str → Option Value) → Heap → Prop} {YP : World → Heap → Prop} {d : DefRec} {K : Params → PySem.W.Frag} {CX : World → CXT} {sp : World → Sp} {x : Str}
    (hn : l.most = some n) (hn2 : n ≤ sizeLine) (hdf : d.params.defaults = []) (hr : Room k callerA)
    (hY : ∀ (w : World) (h : Heap), YP w h → (K w.params).In h)
    (F : ∀ (w : World) (mg : Str → Option Value) (fa : Addr) (h : Heap), (K w.params).In h → h.Ns mainGlobals mg → mg d.name = some (.ref fa) →
      ∃ fd : FuncData, (∀ (s : Shared) (u : Value), BindsTo s fd ⟨[u], []⟩ [(x, u)]) ∧
        ∀ base : Heap, (K w.params).In base → base.Ns mainGlobals mg → FnOk l.prog w (K w.params) mg base (CX w) k fa fd [x] (sp w))
    (hsp : ∀ (w : World) (H : Hp) (a : Addr) (ns : List Int), ns.length ≤ n → Only H → SqL (K w.params) H a (ns.map V.int) → sp w [.ref a] H (fun v _ => v = .bl true) fun _ _ _ => False)
    (hCX : ∀ (w : World) (H : Hp) (s : Shared) (e : Value) (s' : Shared), CX w [] H s (fun _ _ _ => False) e s' → False) :
    PySem.W.WalkO q loose XP YP l.row.toRowW d [] (fun f vs => PySem.call f vs) := by
  refine Att.attach_call hn hdf fun w s₀ s₁ mg mb fa o pm cd doc a vs ns G Y ho hd hcd hmg hobj hints hlen hg => ?_
  have KX := hY w _ Y
  obtain ⟨fd, hb, hF⟩ := F w mg fa _ KX G.T.g hmg
  exact law_call KX G.T.g G.T.b G.T.builtins G.T.nolimit hg hobj hints (Nat.le_trans hlen hn2) hr hF hb (fun H hO hS => hsp w H a ns hlen hO hS) fun H e s' => hCX w H s₁ e s'
end L2

/- THE LAST THEOREM (shape; LID, My.* are yours):
   My.Adr: a structure of the addresses that your layer names (classes, functions); My.Txt K t: a structure (Prop) of the equations over K;
   My.txt_mk : {K} {implicit addresses ..} (e1 : nsIn K mainGlobals "law" = some (some (.ref f))) (e2 : K.lookup f = some ⟨oc, od, .func (fnOf "law" "law" params body scope dV kV doc pm an cdv ct), sl⟩) (e3 : codeIn K cdv "law" = true) .. : ∃ t, My.Txt K t

set_option maxRecDepth 100000 in
set_option maxHeartbeats 0 in
theorem PySem.Challenge.cw_LID_holds : PySem.Challenge.rw_LID.Holds := by
  w_on; o_law; k_head; (case hw => w_witness2)
  k_fill
  refine L2.walk_of (l := PySem.Challenge.rw_LID) (n := 63) (k := 40) (x := "script") (CX := fun w => ..) (sp := fun _ => My.sp_law) rfl (by decide) rfl ⟨rfl, by decide, by decide⟩ (fun w h Y => PySem.W.kIn_of Y) ?F ?S ?C
  case F =>
    intro w mg fa h KX G hmg
    have T : ∃ t, My.Txt (L2.KOf KX) t := by
      dsimp only [L2.KOf]                          -- K must stand as «<heap const> w.params» for k_is
      refine' My.txt_mk ?e1 ?e2 ?e3 ..
      (case e1 => PySem.W.k_is)                    -- in the order: a name -> its address -> its object -> its parts
      (case e2 => PySem.W.k_is)
      ..
    obtain ⟨t, T⟩ := T
    have e0 := hmg.symm.trans (PySem.W.mg_of KX G T.law)
    cases e0                                       -- fa is the law's own address
    exact ⟨_, fun s u => .of_eq rfl, fun base kb nb => My.law_fn T kb nb⟩     -- if «.of_eq rfl» comes too early: refine' ⟨_, ?b, fun base kb nb => My.law_fn T kb nb⟩; exact fun s u => .of_eq rfl
  case S => exact fun w H a ns hl hO hS => ..
  case C => exact ..
(the tactic k_is has no namespace: write k_is) -/

/-! SHORT WORDS over the layer: a def of the text, its body, what a loop and a test want. -/
namespace L2
open PySem PySem.Spec PyProof.Rows

/-! ### the text by places -/
/-- the j-th statement of a class's body -/
def inClass (s : Stmt) (j : Nat) : Stmt := match s with
  | .ClassDef _ _ _ body _ _ _ _ _ _ _ => body.getD j (.Pass ⟨0, 0, 0, 0⟩)
  | _ => .Pass ⟨0, 0, 0, 0⟩
def defArgs (s : Stmt) : Arguments := match s with
  | .FunctionDef _ a _ _ _ _ _ _ _ _ => a
  | _ => { posonlyargs := [], args := [], vararg := none, kwonlyargs := [], kw_defaults := [], kwarg := none, defaults := [] }
def defBody (s : Stmt) : List Stmt := match s with
  | .FunctionDef _ _ b _ _ _ _ _ _ _ => b
  | _ => []
def defScope (s : Stmt) : Scope := match s with
  | .FunctionDef _ _ _ _ _ _ sc _ _ _ => sc
  | _ => { kind := .function, names := [], isGenerator := false, isCoroutine := false }

/-! ### no exception leaves a def -/
abbrev CX0 : CXT := fun _ _ _ _ _ _ => False
abbrev E0 : XK := fun _ _ _ => False
theorem pass0 {X : Cx} : Passes CX0 X E0 := fun _ _ _ _ _ _ _ h => h.elim

/-! ### a def (or method) of the text as it stands behind the top -/
structure Fun (K : PySem.W.Frag) (x qual : Str) (st : Stmt) (f : Addr) (fd : FuncData) : Prop where
  ex : ∃ (oc : Value) (od : Option Addr) (kV doc pm : Value) (an : Option Addr) (cdv ct : Value) (osl : Array (Option Value)),
    fd = PySem.W.fnOf x qual (defArgs st) (defBody st) (defScope st) .none kV doc pm an cdv ct ∧ K.lookup f = some ⟨oc, od, .func fd, osl⟩ ∧ PySem.W.codeIn K cdv qual = true
  kp : PySem.W.keepIn K (.ref f) = true
section
variable {P : Program} {w : World} {K : PySem.W.Frag} {mg : Str → Option Value} {base : Heap}
/-- THE RULE for a def: its body as a term of rules, and the reading of that term -/
theorem Fun.ok {x qual : Str} {st : Stmt} {f : Addr} {fd : FuncData} {N ps : List Str} {k : Nat} {sp : Sp} (F : Fun K x qual st f fd) (S : FnScope N ps (defScope st)) (len : ∀ vs H Q E, sp vs H Q E → vs.length = ps.length)
    (hbody : ∀ (cdv : Value) (A : Around) (outer : List Env) (s : Shared) (H : Hp) (vs : List V) (Q : VK) (E : XK), Room k (A.deeper (envOfC qual (defScope st) s.heap.objs.size f cdv)) → sp vs H Q E →
      ∃ t, PSs (cxOf CX0 P w K mg base N qual (defScope st) f cdv A outer s H E).nox (defBody st) t ∧ t { nx := fun _ H' => Q .non H', rt := Q } (start N vs) H) : FnOk P w K mg base CX0 (k + 1) f fd ps sp := by
  obtain ⟨oc, od, kV, doc, pm, an, cdv, ct, osl, rfl, lk, hcd⟩ := F.ex
  refine fn_of lk hcd S len fun A outer s H vs Q E hr hsp => ?_
  obtain ⟨t, h, q⟩ := hbody cdv A outer s H vs Q E hr hsp
  exact ⟨t, h.nox, q⟩
/-- how its arguments bind (no defaults): h is «fun _ _ _ _ _ _ us hl => match us, hl with | [_, _], _ => rfl», one _ a parameter -/
theorem Fun.binds {x qual : Str} {st : Stmt} {f : Addr} {fd : FuncData} {ps : List Str} (F : Fun K x qual st f fd)
    (h : ∀ (kV doc pm : Value) (an : Option Addr) (cdv ct : Value) (us : List Value), us.length = ps.length → bindArgs (PySem.W.fnOf x qual (defArgs st) (defBody st) (defScope st) .none kV doc pm an cdv ct) ⟨us, []⟩ = pure (ps.zip us)) : Binds K fd ps [] := by
  obtain ⟨oc, od, kV, doc, pm, an, cdv, ct, osl, rfl, lk, hcd⟩ := F.ex
  exact .all (h kV doc pm an cdv ct)
theorem fun_mk {x qual : Str} {st : Stmt} {f : Addr} {oc : Value} {od an : Option Addr} {osl : Array (Option Value)} {kV doc pm cdv ct : Value} (l : K.lookup f = some ⟨oc, od, .func (PySem.W.fnOf x qual (defArgs st) (defBody st) (defScope st) .none kV doc pm an cdv ct), osl⟩)
    (c : PySem.W.codeIn K cdv qual = true) (k : PySem.W.keepIn K (.ref f) = true) : Fun K x qual st f (PySem.W.fnOf x qual (defArgs st) (defBody st) (defScope st) .none kV doc pm an cdv ct) := ⟨⟨oc, od, kV, doc, pm, an, cdv, ct, osl, rfl, l, c⟩, k⟩
end
theorem small1000 {n : Nat} (h : n ≤ 1000) : n < sizeLine := Nat.lt_of_le_of_lt h (by decide)

/-! ### expressions in short: the name that stands in the i-th slot -/
section
variable {X : Cx}
theorem pv (i : Nat) {x : Str} {pos : Pos} (hN : X.N[i]? = some x := by rfl) (hv : Vis X.env.scope x := by first | exact Or.inl rfl | exact Or.inr (Or.inl rfl) | exact Or.inr (Or.inr rfl)) (hd : (x == ("__debug__" : Str)) = false := by decide)
    (hcd : (x == ("__classdict__" : Str)) = false := by decide) : PE X (.Name x pos) (tVar i) := pe_var hN hv hd hcd
end

/-! ### tests -/
theorem iteF {A B : Prop} (h : B) : if false = true then A else B := by
  rw [if_neg Bool.false_ne_true]
  exact h
theorem iteT {A B : Prop} (h : A) : if true = true then A else B := by
  rw [if_pos rfl]
  exact h
theorem ite2 {c A B : Prop} [Decidable c] (h1 : c → A) (h2 : ¬ c → B) : if c then A else B := by
  by_cases h : c
  · rw [if_pos h]
    exact h1 h
  · rw [if_neg h]
    exact h2 h
/-! ### heaps -/
/-- all that was tracked is as it was -/
def Same (H H' : Hp) : Prop := ∀ b o, H b = some o → H' b = some o
theorem Same.refl (H : Hp) : Same H H := fun _ _ h => h
theorem Same.trans {H H1 H2 : Hp} (a : Same H H1) (b : Same H1 H2) : Same H H2 := fun c o h => b c o (a c o h)
theorem Same.free {H H' : Hp} (e : Same H H') {l : Addr} (h : H' l = Option.none) : H l = Option.none := by
  cases q : H l with
  | none => rfl
  | some o =>
    rw [e l o q] at h
    cases h
theorem Same.seq {K : PySem.W.Frag} {H H' : Hp} {a : Addr} {xs : List V} (e : Same H H') (h : SqL K H a xs) : SqL K H' a xs := by
  rcases h with (h | ⟨o, h⟩) | h
  · exact .inl (.inl (e _ _ h))
  · exact .inl (.inr ⟨o, e _ _ h⟩)
  · exact .inr h

end L2

set_option maxHeartbeats 4000000
namespace L2
open PySem PySem.Spec PyProof.Rows

/-! ### a comprehension's block -/
def clOf (env : Env) : List (Str × NameKind) → List (Str × Addr) → List (Str × Addr)
  | [], acc => acc
  | (n, k) :: r, acc => clOf env r (if k == NameKind.free then (match env.cells.lookup n with | some c => (n, c) :: acc | none => acc) else acc)

theorem clo_fold {env : Env} {f : Str × NameKind → List (Str × Addr) → Sem (ForInStep (List (Str × Addr)))}
    (hf : ∀ n k acc, f (n, k) acc = if (k == NameKind.free) = true then (do let c ← cellOf env n; pure (ForInStep.yield ((n, c) :: acc))) else pure (ForInStep.yield acc)) :
    ∀ (l : List (Str × NameKind)) (acc : List (Str × Addr)), (∀ y ∈ l, y.2 = .free → ∃ c, env.cells.lookup y.1 = some c) → forIn l acc f = (pure (clOf env l acc) : Sem _)
  | [], acc, _ => rfl
  | (n, k) :: r, acc, h => by
    rw [List.forIn_cons, hf]
    have ih := clo_fold hf r
    by_cases hk : (k == NameKind.free) = true
    · have hk' : k = .free := by simpa using hk
      obtain ⟨c, hc⟩ := h (n, k) List.mem_cons_self hk'
      have e : cellOf env n = (pure c : Sem _) := by unfold cellOf; rw [hc]
      rw [if_pos hk, e, pure_bind, pure_bind]
      show forIn r ((n, c) :: acc) f = _
      rw [ih _ fun y hy => h y (List.mem_cons_of_mem _ hy)]
      unfold clOf
      rw [if_pos hk]
      have hc2 : List.lookup n env.cells = some c := hc
      simp only [hc2]
      cases r <;> rfl
    · rw [if_neg hk, pure_bind]
      show forIn r acc f = _
      rw [ih _ fun y hy => h y (List.mem_cons_of_mem _ hy)]
      conv => rhs; unfold clOf
      rw [if_neg hk]
theorem clo_eq {scope : Scope} {env : Env} (h : ∀ y ∈ scope.names, y.2 = .free → ∃ c, env.cells.lookup y.1 = some c) : closureFor scope env = (pure (clOf env scope.names []) : Sem _) := by
  have e : closureFor scope env = (forIn scope.names ([] : List (Str × Addr)) (fun x cs => match x with
      | (name, kind) => if (kind == NameKind.free) = true then (do let c ← cellOf env name; pure (ForInStep.yield ((name, c) :: cs))) else pure (ForInStep.yield cs)) >>= fun cs => pure cs) := rfl
  rw [e, clo_fold (env := env) (fun n k acc => rfl) scope.names [] h]
  rfl
theorem cl_sub {env : Env} : ∀ {l : List (Str × NameKind)} {acc : List (Str × Addr)}, (∀ x c, acc.lookup x = some c → env.cells.lookup x = some c) → ∀ x c, (clOf env l acc).lookup x = some c → env.cells.lookup x = some c
  | [], acc, h, x, c, e => h x c e
  | (n, k) :: r, acc, h, x, c, e => by
    unfold clOf at e
    refine cl_sub (l := r) (fun y d hd => ?_) x c e
    by_cases hk : (k == NameKind.free) = true
    · rw [if_pos hk] at hd
      cases hc : env.cells.lookup n with
      | none => rw [hc] at hd; exact h y d hd
      | some c' =>
        rw [hc] at hd
        simp only [List.lookup_cons] at hd
        by_cases hy : (y == n) = true
        · rw [hy] at hd
          have e1 : y = n := by simpa using hy
          cases hd
          rw [e1]; exact hc
        · have hy' : (y == n) = false := by simpa using hy
          rw [hy'] at hd
          exact h y d hd
    · rw [if_neg hk] at hd; exact h y d hd
theorem cl_mono {env : Env} : ∀ {l : List (Str × NameKind)} {acc : List (Str × Addr)} {x : Str}, (acc.lookup x).isSome = true → ((clOf env l acc).lookup x).isSome = true
  | [], acc, x, h => h
  | (n, k) :: r, acc, x, h => by
    unfold clOf
    refine cl_mono (l := r) ?_
    by_cases hk : (k == NameKind.free) = true
    · rw [if_pos hk]
      cases hc : env.cells.lookup n with
      | none => exact h
      | some c' =>
        simp only [List.lookup_cons]
        by_cases hy : (x == n) = true
        · rw [hy]; rfl
        · have hy' : (x == n) = false := by simpa using hy
          rw [hy']; exact h
    · rw [if_neg hk]; exact h
theorem cl_has {env : Env} : ∀ {l : List (Str × NameKind)} {acc : List (Str × Addr)} {x : Str} {c : Addr}, (x, NameKind.free) ∈ l → env.cells.lookup x = some c → ((clOf env l acc).lookup x).isSome = true
  | (n, k) :: r, acc, x, c, hm, hc => by
    unfold clOf
    rcases List.mem_cons.mp hm with e | hm
    · cases e
      rw [if_pos (by rfl)]
      rw [hc]
      refine cl_mono ?_
      simp
    · exact cl_has hm hc

/-- the names of a block as its scope has them behind the relabelling -/
theorem relabel_of {env : Env} : ∀ {names : List (Str × NameKind)} {x : Str} {k : NameKind}, (∀ y ∈ names, y.2 ≠ .cell) →
    (names.map fun (n, k) => if (k == NameKind.free && env.scope.kind == .function && env.kindOf n == some .cell) then (n, NameKind.cell) else (n, k)).lookup x = some k → (k = .cell ∨ k = .free) → (x, NameKind.free) ∈ names
  | [], _, _, _, h, _ => by simp at h
  | (n, j) :: r, x, k, hn, h, hk => by
    rw [List.map_cons] at h
    cases hx : x == n with
    | true =>
      have hxe : x = n := by simpa using hx
      subst hxe
      by_cases hc : (j == NameKind.free && env.scope.kind == .function && env.kindOf x == some .cell) = true
      · have hj : j = .free := by
          simp only [Bool.and_eq_true] at hc
          simpa using hc.1.1
        subst hj
        exact List.mem_cons_self
      · rw [show (match ((x, j) : Str × NameKind) with | (n, k) => if (k == NameKind.free && env.scope.kind == .function && env.kindOf n == some .cell) = true then (n, NameKind.cell) else (n, k)) = (x, j) from if_neg hc] at h
        simp only [List.lookup_cons, beq_self_eq_true] at h
        cases h
        rcases hk with e | e
        · exact absurd e (hn (x, j) List.mem_cons_self)
        · rw [e]; exact List.mem_cons_self
    | false =>
      refine List.mem_cons_of_mem _ (relabel_of (env := env) (fun y hy => hn y (List.mem_cons_of_mem _ hy)) ?_ hk)
      by_cases hc : (j == NameKind.free && env.scope.kind == .function && env.kindOf n == some .cell) = true
      · rw [show (match ((n, j) : Str × NameKind) with | (n, k) => if (k == NameKind.free && env.scope.kind == .function && env.kindOf n == some .cell) = true then (n, NameKind.cell) else (n, k)) = (n, NameKind.cell) from if_pos hc] at h
        simp only [List.lookup_cons, hx] at h
        exact h
      · rw [show (match ((n, j) : Str × NameKind) with | (n, k) => if (k == NameKind.free && env.scope.kind == .function && env.kindOf n == some .cell) = true then (n, NameKind.cell) else (n, k)) = (n, j) from if_neg hc] at h
        simp only [List.lookup_cons, hx] at h
        exact h

theorem relabel_free {env : Env} : ∀ {names : List (Str × NameKind)} {x : Str}, names.lookup x = some .free →
    (names.map fun (n, k) => if (k == NameKind.free && env.scope.kind == .function && env.kindOf n == some .cell) then (n, NameKind.cell) else (n, k)).lookup x = some .cell ∨
    (names.map fun (n, k) => if (k == NameKind.free && env.scope.kind == .function && env.kindOf n == some .cell) then (n, NameKind.cell) else (n, k)).lookup x = some .free
  | [], _, h => by simp at h
  | (n, j) :: r, x, h => by
    rw [List.map_cons]
    cases hx : x == n with
    | true =>
      simp only [List.lookup_cons, hx] at h
      cases h
      by_cases hc : (NameKind.free == NameKind.free && env.scope.kind == .function && env.kindOf n == some .cell) = true
      · refine .inl ?_
        rw [show (match ((n, NameKind.free) : Str × NameKind) with | (n, k) => if (k == NameKind.free && env.scope.kind == .function && env.kindOf n == some .cell) = true then (n, NameKind.cell) else (n, k)) = (n, NameKind.cell) from if_pos hc]
        simp only [List.lookup_cons, hx]
      · refine .inr ?_
        rw [show (match ((n, NameKind.free) : Str × NameKind) with | (n, k) => if (k == NameKind.free && env.scope.kind == .function && env.kindOf n == some .cell) = true then (n, NameKind.cell) else (n, k)) = (n, NameKind.free) from if_neg hc]
        simp only [List.lookup_cons, hx]
    | false =>
      simp only [List.lookup_cons, hx] at h
      have ih := relabel_free (env := env) h
      by_cases hc : (j == NameKind.free && env.scope.kind == .function && env.kindOf n == some .cell) = true
      · rw [show (match ((n, j) : Str × NameKind) with | (n, k) => if (k == NameKind.free && env.scope.kind == .function && env.kindOf n == some .cell) = true then (n, NameKind.cell) else (n, k)) = (n, NameKind.cell) from if_pos hc]
        simp only [List.lookup_cons, hx]
        exact ih
      · rw [show (match ((n, j) : Str × NameKind) with | (n, k) => if (k == NameKind.free && env.scope.kind == .function && env.kindOf n == some .cell) = true then (n, NameKind.cell) else (n, k)) = (n, j) from if_neg hc]
        simp only [List.lookup_cons, hx]
        exact ih
theorem lookup_mem {x : Str} {k : NameKind} : ∀ {l : List (Str × NameKind)}, l.lookup x = some k → (x, k) ∈ l
  | [], h => by simp at h
  | (n, j) :: r, h => by
    cases hx : x == n with
    | true =>
      simp only [List.lookup_cons, hx] at h
      cases h
      have e : x = n := by simpa using hx
      rw [e]; exact List.mem_cons_self
    | false =>
      simp only [List.lookup_cons, hx] at h
      exact List.mem_cons_of_mem _ (lookup_mem h)
/-- the block's context -/
def blk (X : Cx) (N : List Str) (scope : Scope) (C : Addr) (s₀ : Shared) (H₀ : Hp) (ex : List Addr) (xe : Value → Shared → Prop) : Cx :=
  { X with N := N, s₀ := s₀, H₀ := H₀, env := compEnvC scope (clOf X.env scope.names []) C X.env, outer := X.stack, stack := X.stack, ex := ex, fn := fun _ => false, pn := [], xe := xe }
/-- what of the text a block must have: N its names, those at caps.. taken from the outer names -/
structure Blk (X : Cx) (N : List Str) (caps : List (Option Nat)) (scope : Scope) : Prop where
  kind : scope.kind = .function
  nocell : ∀ y ∈ scope.names, y.2 ≠ .cell
  names : ∀ y ∈ scope.names, y.2 = .local → scope.names.lookup y.1 = some .local
  free : ∀ y ∈ scope.names, y.2 = .free → X.env.kindOf y.1 = some .cell ∨ X.env.kindOf y.1 = some .free
  len : caps.length = N.length
  cap : ∀ (i j : Nat) (x : Str), caps[i]? = some (some j) → N[i]? = some x → X.N[j]? = some x ∧ Vis X.env.scope x ∧ scope.names.lookup x = some .free
/-- the block's names' values at its start -/
def capSt (caps : List (Option Nat)) (σ : St) : St := caps.map fun c => match c with | some j => (σ[j]?).join | none => none

section
variable {X : Cx} {pins : List (Addr × Obj)} {σ : St} {H : Hp} {s : Shared}
theorem blk_ok {N : List Str} {caps : List (Option Nat)} {scope : Scope} {fp : List Addr} {xe : Value → Shared → Prop} (B : Blk X N caps scope) (I : Inv X pins σ H s) (hlt : ∀ b ∈ fp, b < s.heap.objs.size) (hf : ∀ b ∈ fp, FpOk X pins H b) :
    (blk X N scope s.heap.objs.size s H fp xe).Ok where
  mod := I.ok.mod
  kind := B.kind
  glob := I.ok.glob
  blt := I.ok.blt
  above := Nat.le_refl _
  inj := fun x y c hx hy => I.ok.inj x y c (cl_sub (fun _ _ e => by simp at e) x c hx) (cl_sub (fun _ _ e => by simp at e) y c hy)
  has := fun x hk => by
    have hm : (x, NameKind.free) ∈ scope.names := hk.elim (fun e => relabel_of B.nocell e (.inl rfl)) fun e => relabel_of B.nocell e (.inr rfl)
    obtain ⟨c, hc⟩ := I.ok.has x (B.free _ hm rfl)
    exact Option.isSome_iff_exists.mp (cl_has hm hc)
  cab := fun x c h _ => by cases h
  hd := I.ok.hd
  frames := I.ok.frames
  stk := .inl rfl
  exf := fun b hb => ⟨Nat.ne_of_lt (hlt b hb), fun x c hc => (hf b hb).2.2.2.2.1 x c (cl_sub (fun _ _ e => by simp at e) x c hc)⟩
  bs := I.bs
  bsz := Nat.le_trans I.ok.bsz I.sz
  noex := fun b o e hb => by
    rcases (hf b hb).2.2.2.1 with h | h
    · exact I.ok.noex b o e h
    · exact absurd (Heap.lt_size (I.ok.bs b o e).1) (Nat.not_lt.mpr h)
  exfs := fun b hb hs => by
    rcases List.mem_cons.mp (I.stkSub b hs) with e | e
    · exact (hf b hb).2.1 e
    · exact (hf b hb).2.2.1 e
  funs := I.stack
  frf := I.stkFree

theorem blk_inv {N : List Str} {caps : List (Option Nat)} {scope : Scope} {fp : List Addr} {xe : Value → Shared → Prop} {h₁ : Heap} {t' : Nat} (B : Blk X N caps scope) (I : Inv X pins σ H s) (hlt : ∀ b ∈ fp, b < s.heap.objs.size) (hf : ∀ b ∈ fp, FpOk X pins H b)
    {m : Str → Option Value} (hn : h₁.Ns s.heap.objs.size m) (hk : ∀ b o, s.heap.get? b = some o → h₁.get? b = some o) :
    Inv (blk X N scope s.heap.objs.size s H fp xe) [] (capSt caps σ) H { s with heap := h₁, toks := t' } where
  ok := blk_ok B I hlt hf
  os := rfl
  bare := I.bare
  base := Un.kept hk
  loc := by
    refine ⟨m, hn, fun i x v hN hσ hv => ?_⟩
    unfold capSt at hσ
    rw [List.getElem?_map] at hσ
    cases hc : caps[i]? with
    | none => rw [hc] at hσ; cases hσ
    | some oj =>
      rw [hc] at hσ
      cases oj with
      | none => cases hσ
      | some j =>
        have hσ' : (σ[j]?).join = some v := Option.some.inj hσ
        have hj : σ[j]? = some (some v) := by
          cases q : σ[j]? with
          | none => rw [q] at hσ'; cases hσ'
          | some o => rw [q] at hσ'; have : o = some v := hσ'; rw [this]
        obtain ⟨hNj, hVis, hfr⟩ := B.cap i j x hc hN
        obtain ⟨m', _, hl⟩ := I.loc
        obtain ⟨u, ru, lk⟩ := hl j x v hNj hj hVis
        have hm := lookup_mem hfr
        have hkX := B.free _ hm rfl
        refine ⟨u, ru, .inr ⟨relabel_free hfr, ?_⟩⟩
        rcases lk with ⟨e, _⟩ | ⟨_, c, hc1, hc2⟩
        · rcases hkX with e' | e'
          · rw [e] at e'; cases e'
          · rw [e] at e'; cases e'
        · obtain ⟨c', hc'⟩ := Option.isSome_iff_exists.mp (cl_has (env := X.env) (acc := []) hm hc1)
          have h2 := cl_sub (fun _ _ e => by simp at e) x c' hc'
          rw [hc1] at h2
          cases h2
          exact ⟨c, hc', hc2.keeps hk⟩
  cell := fun x c hc => by
    obtain ⟨v, hv⟩ := I.cell x c (cl_sub (fun _ _ e => by simp at e) x c hc)
    exact ⟨v, hv.keeps hk⟩
  free := I.hok.fresh (Nat.le_refl _)
  freeC := fun x c hc => I.freeC x c (cl_sub (fun _ _ e => by simp at e) x c hc)
  pin := fun p hp => by cases hp
  hok := I.hok.kept hk
  len := by unfold capSt; rw [List.length_map]; exact B.len
end
end L2

namespace L2
open PySem PySem.Spec PyProof.Rows
section
variable {prog : Program} {w : World} {A : Around} {R : Result → Shared → Prop} {s : Shared}
abbrev testsOf (ifs : List Expr) (env : Env) : Sem Bool := forIn ifs true fun c r => if r = true then do let ok ← isTrue c env (eval c env); pure (ForInStep.yield ok) else pure (ForInStep.yield r)
theorem comp_loop {elt target iter : Expr} {ifs : List Expr} {scope : Scope} {pos : Pos} {it acc : Value} {env : Env} (I : Nat → Shared → Prop)
    (turn : ∀ n s, I n s → wpAny (model prog w) A (pyNext it) (fun r s₁ => match r with
      | none => R (.ok .next) s₁
      | some v => wpAny (model prog w) A (letOwnedTupleGo target it v) (fun _ s₁' => wpAny (model prog w) A (assign target env v) (fun _ s₂ =>
          wpAny (model prog w) A (testsOf ifs env) (fun ok s₃ =>
            if ok = true then wpAny (model prog w) A (eval elt env) (fun x s₄ =>
              wpAny (model prog w) A (call (.builtin "list.append") [acc, x]) (fun _ s₅ => ∃ m, m < n ∧ I m s₅) (notedBy (model prog w) A env fun e s' => R (.error e) s') s₄) (notedBy (model prog w) A env fun e s' => R (.error e) s') s₃
            else ∃ m, m < n ∧ I m s₃) (notedBy (model prog w) A env fun e s' => R (.error e) s') s₂) (notedBy (model prog w) A env fun e s' => R (.error e) s') s₁') (notedBy (model prog w) A env fun e s' => R (.error e) s') s₁) (notedBy (model prog w) A env fun e s' => R (.error e) s') s)
    (n : Nat) (h : I n s) : codeAny (model prog w) A (.compLoop (.ListComp elt [⟨target, iter, ifs, 0⟩] scope pos) 0 it acc env) R s := by
  refine codeAny_loop rfl I (fun n s hI => ?_) n h
  show wpAny _ A ((compTurn (.ListComp elt [⟨target, iter, ifs, 0⟩] scope pos) 0 it acc env).onRaise (fun x => do noteFrame x env; theTreesLotGoes x)) _ _ s
  refine wpAny_noted ?_
  rw [compTurn_list]
  refine wpAny_bind (wpAny_standAt (wpAny_bind (wpAny_mono (turn n s hI) (fun r s₁ h₁ => ?_) fun _ _ h' => h')))
  cases r with
  | none => exact wpAny_pure h₁
  | some v =>
    refine wpAny_bind (wpAny_mono h₁ (fun _ s₁' h₁' => ?_) fun _ _ h' => h')
    refine wpAny_bind (wpAny_mono h₁' (fun _ s₂ h₂ => wpAny_bind (wpAny_mono h₂ (fun ok s₃ h₃ => ?_) fun _ _ h' => h')) fun _ _ h' => h')
    cases ok with
    | false => exact wpAny_pure ⟨rfl, h₃⟩
    | true =>
      exact wpAny_bind (wpAny_bind (wpAny_mono h₃ (fun x s₄ h₄ => wpAny_bind (wpAny_mono h₄ (fun _ s₅ h₅ => wpAny_pure (wpAny_pure ⟨rfl, h₅⟩)) fun _ _ h' => h')) fun _ _ h' => h'))
end

/-! ### the tests of a clause -/
def PF (X : Cx) (ifs : List Expr) (t : TT) : Prop :=
  ∀ (pins : List (Addr × Obj)) (s : Shared) (σ : St) (H : Hp) (Q : Bool → Hp → Prop), Inv X pins σ H s → t σ H Q → wpAny (model X.prog X.w) X.A (testsOf ifs X.env) (TP X pins σ Q) X.xe s
def tYes : TT := fun _ H Q => Q true H
theorem pf_nil {X : Cx} : PF X [] tYes := fun pins s σ H Q I h => wpAny_tests_nil ⟨H, I, h⟩
theorem pf_one {X : Cx} {c : Expr} {t : TT} (h : PT X c t) : PF X [c] t := fun pins s σ H Q I q => wpAny_tests_one (h pins s σ H Q I q)

/-- what a comprehension reads as: l is the new list -/
def tCompR (g : TG) (tt : TT) (te : TE) (σ0 : St) (J : It) (H1 : Hp) (Q : V → Hp → Prop) : Prop :=
  ∀ l, H1 l = none → ∃ W : Nat → Nat → St → Hp → Prop, (∃ m, W 0 m σ0 (upd H1 l (.lst []))) ∧ ∀ i m σ H, W i m σ H →
    (J.stop i H ∧ Q (.ref l) H) ∨ (J.go i H ∧ ∀ x H', J.yld i H x H' → g x σ H' fun σ2 H2 => tt σ2 H2 fun c H3 =>
      if c = true then te σ2 H3 fun v H4 => ∃ xs, H4 l = some (.lst xs) ∧ xs.length < sizeLine ∧ ∃ m', m' < m ∧ W (i + 1) m' σ2 (upd H4 l (.lst (xs ++ [v])))
      else ∃ m', m' < m ∧ W (i + 1) m' σ2 H3)
def tComp (caps : List (Option Nat)) (wi : TI) (g : TG) (tt : TT) (te : TE) : TE := fun σ H Q => wi σ H fun J H1 => tCompR g tt te (capSt caps σ) J H1 Q

/-- the block's own frame, behind the block: nobody's -/
structure Loose (X : Cx) (pins : List (Addr × Obj)) (H : Hp) (C : Addr) : Prop where
  un : H C = none
  loc : C ≠ X.env.locals
  ab : X.s₀.heap.objs.size ≤ C
  cel : ∀ x c, X.env.cells.lookup x = some c → c ≠ C
  pin : ∀ p ∈ X.pn ++ pins, p.1 ≠ C
section
variable {X : Cx} {pins : List (Addr × Obj)} {σ : St} {H : Hp} {s : Shared}
/-- what the block's exceptions are to reach -/
def blkX (X : Cx) (N : List Str) (scope : Scope) (use : Option (Value → Sem Unit)) (Q : Value → Shared → Prop) (acc : Value) (C : Addr) : Value → Shared → Prop :=
  notedBy (model X.prog X.w) X.A (compEnvC scope (clOf X.env scope.names []) C X.env) fun e s' => compPost (model X.prog X.w) X.A X.xe use Q acc C (.error e) s'

theorem comp_core {tg elt iter : Expr} {ifs : List Expr} {scope : Scope} {pos pos' : Pos} {N : List Str} {caps : List (Option Nat)} {wi : TI} {g : TG} {tt : TT} {te : TE} {use : Option (Value → Sem Unit)} {Q : Value → Shared → Prop} {Qv : V → Hp → Prop}
    {xe : Value → Shared → Prop} (hc : X.calm = true) (B : Blk X N caps scope) (hi : PI X tg iter wi)
    (hg : ∀ C s₀ H₀ ex, PG (blk X N scope C s₀ H₀ ex xe) tg g) (ht : ∀ C s₀ H₀ ex, PF (blk X N scope C s₀ H₀ ex xe) ifs tt) (he : ∀ C s₀ H₀ ex, PE (blk X N scope C s₀ H₀ ex xe) elt te)
    (I : Inv X pins σ H s) (h : wi σ H fun J H1 => tCompR g tt te (capSt caps σ) J H1 Qv)
    (fin : ∀ l C H' s5, Inv X pins σ H' s5 → (∃ m, s5.heap.Ns C m) → Loose X pins H' C → Qv (.ref l) H' → compPost (model X.prog X.w) X.A X.xe use Q (.ref l) C (.ok .next) s5)
    (hx : ∀ acc C e s', xe e s' → blkX X N scope use Q acc C e s')
    (hs : ∀ x, foldedSetIterable iter X.env x = pure x := by intro _; rfl) :
    wpAny (model X.prog X.w) X.A (comprehension (.ListComp elt [⟨tg, iter, ifs, 0⟩] scope pos) scope X.env pos' (newList []) false (eval iter X.env) use) Q X.xe s := by
  have hclos : closureFor scope X.env = (pure (clOf X.env scope.names []) : Sem _) := clo_eq fun y hy hf => I.ok.has y.1 (B.free y hy hf)
  refine wpAny_comprehension_free rfl hs hclos B.kind B.names (thn (hi pins s σ H _ I h) fun v s1 h1 => thn h1 fun itv s2 h2 => ?_)
  obtain ⟨it, fp, tn, J, H2, e, I2, T, st2, f2, hJ⟩ := h2
  subst e
  -- the list
  have I3 : Inv X pins σ (upd H2 s2.heap.objs.size (.lst [])) { s2 with heap := s2.heap.push { cls := .type "list", data := .seq ([] : List Value).toArray }, toks := s2.toks } := I2.lnew (ys := []) (its := []) .nil (Nat.zero_le _)
  have hfr2 : H2 s2.heap.objs.size = none := I2.fresh
  obtain ⟨W, ⟨m0, w0⟩, turn⟩ := hJ s2.heap.objs.size hfr2
  refine wpAny_newList ?_
  generalize hs3 : ({ s2 with heap := s2.heap.push { cls := .type "list", data := .seq ([] : List Value).toArray } } : Shared) = s3
  have es3 : ({ s2 with heap := s2.heap.push { cls := .type "list", data := .seq ([] : List Value).toArray }, toks := s2.toks } : Shared) = s3 := hs3
  rw [es3] at I3
  have keep3 : ∀ b o, s2.heap.get? b = some o → s3.heap.get? b = some o := fun b o e => by rw [← hs3]; exact Heap.get?_push_of_some _ e
  have fpo : ∀ b ∈ fp, ∃ o, s2.heap.get? b = some o ∧ ∀ v, o.data ≠ .cell v := T.obj _ _ st2
  have hlt2 : ∀ b ∈ fp, b < s2.heap.objs.size := fun b hb => by obtain ⟨o, e, _⟩ := fpo b hb; exact Heap.lt_size e
  have hlt3 : ∀ b ∈ fp, b < s3.heap.objs.size := fun b hb => by obtain ⟨o, e, _⟩ := fpo b hb; exact Heap.lt_size (keep3 b o e)
  have hf3 : ∀ b ∈ fp, FpOk X pins (upd H2 s2.heap.objs.size (.lst [])) b := fun b hb => ⟨by rw [upd_ne (Nat.ne_of_lt (hlt2 b hb))]; exact (f2 b hb).1, (f2 b hb).2⟩
  refine wpAny_newFunctionEnv B.nocell (by intro y hy; simp at hy) (fun h₁ hns₁ hsb₁ => ?_) B.kind
  try dsimp only at hns₁ hsb₁ ⊢
  have keep4 : ∀ b o, s3.heap.get? b = some o → h₁.get? b = some o := fun b o e => hsb₁.extBut b o (Nat.ne_of_lt (Heap.lt_size e)) (Heap.get?_push_of_some _ e)
  have I4 : ∀ t', Inv (blk X N scope s3.heap.objs.size s3 (upd H2 s2.heap.objs.size (.lst [])) fp xe) [] (capSt caps σ) (upd H2 s2.heap.objs.size (.lst [])) { s3 with heap := h₁, toks := t' } := fun t' => blk_inv B I3 hlt3 hf3 hns₁ keep4
  generalize hY : blk X N scope s3.heap.objs.size s3 (upd H2 s2.heap.objs.size (.lst [])) fp xe = Y at I4
  have Yp : Y.prog = X.prog := by rw [← hY]; rfl
  have Yw : Y.w = X.w := by rw [← hY]; rfl
  have YK : Y.K = X.K := by rw [← hY]; rfl
  have Yc : Y.calm = true := by rw [← hY]; exact hc
  have YA : Y.A = X.A := by rw [← hY]; rfl
  have Yx : Y.xe = xe := by rw [← hY]; rfl
  have Ye : Y.env = compEnvC scope (clOf X.env scope.names []) s3.heap.objs.size X.env := by rw [← hY]; rfl
  have hgY : PG Y tg g := by rw [← hY]; exact hg _ _ _ _
  have htY : PF Y ifs tt := by rw [← hY]; exact ht _ _ _ _
  have heY : PE Y elt te := by rw [← hY]; exact he _ _ _ _
  have stat : ∀ {H' : Hp}, (∀ b ∈ fp, H' b = none) → ∀ b ∈ fp, FpOk Y [] H' b := fun {H'} hn b hb => by
    refine ⟨hn b hb, ?_, ?_, .inl (by rw [← hY]; exact hb), ?_, ?_⟩
    · rw [Ye]; exact Nat.ne_of_lt (hlt3 b hb)
    · intro hm
      rw [← hY] at hm
      rcases List.mem_cons.mp (I3.stkSub b hm) with e | e
      · exact (f2 b hb).2.1 e
      · exact (f2 b hb).2.2.1 e
    · intro x c hcl
      rw [Ye] at hcl
      exact (f2 b hb).2.2.2.2.1 x c (cl_sub (fun _ _ e => by simp at e) x c hcl)
    · intro p hp
      rw [← hY] at hp
      cases hp
  have st4 : tn 0 h₁ := T.keep _ _ _ st2 fun b hb o e => keep4 b o (keep3 b o e)
  have toX : ∀ e s', xe e s' → notedBy (model X.prog X.w) X.A (compEnvC scope (clOf X.env scope.names []) s3.heap.objs.size X.env) (fun e s' => compPost (model X.prog X.w) X.A X.xe use Q (.ref s2.heap.objs.size) s3.heap.objs.size (.error e) s') e s' := fun e s' hxe => hx _ _ e s' hxe
  have loop : ∀ tk, codeAny (model X.prog X.w) X.A (.compLoop (.ListComp elt [⟨tg, iter, ifs, 0⟩] scope pos) 0 (.ref it) (.ref s2.heap.objs.size) (compEnvC scope (clOf X.env scope.names []) s3.heap.objs.size X.env))
      (compPost (model X.prog X.w) X.A X.xe use Q (.ref s2.heap.objs.size) s3.heap.objs.size) { s3 with heap := h₁, toks := tk } := by
    intro tk
    refine comp_loop (fun n s' => ∃ i σ' H', Inv Y [] σ' H' s' ∧ tn i s'.heap ∧ (∀ b ∈ fp, H' b = none) ∧ W i n σ' H') ?_ m0 ⟨0, _, _, I4 tk, st4, fun b hb => (hf3 b hb).1, w0⟩
    rintro n s5 ⟨i, σ5, H5, I5, st5, fr5, w5⟩
    have moX : ∀ {α : Type} {t : Sem α} {Q1 : α → Shared → Prop} {s : Shared}, wpAny (model X.prog X.w) X.A t Q1 xe s → wpAny (model X.prog X.w) X.A t Q1
        (notedBy (model X.prog X.w) X.A (compEnvC scope (clOf X.env scope.names []) s3.heap.objs.size X.env) (fun e s' => compPost (model X.prog X.w) X.A X.xe use Q (.ref s2.heap.objs.size) s3.heap.objs.size (.error e) s')) s :=
      fun h => wpAny_mono h (fun _ _ q => q) toX
    rcases turn i n σ5 H5 w5 with ⟨stop, q⟩ | ⟨go, step⟩
    · have z := T.done Y Yp Yw YK Yc i [] s5 σ5 H5 xe I5 (stat fr5) st5 stop
      rw [YA] at z
      refine moX (thn z fun r s6 ⟨hr, I6⟩ => ?_)
      subst hr
      -- behind the block
      obtain ⟨m, hm, _⟩ := I6.loc
      have hCn : H5 s3.heap.objs.size = none := by have z := I6.free; rw [Ye] at z; exact z
      have un : Un (frs X.stack) fp (upd H2 s2.heap.objs.size (.lst [])) H5 s3.heap s6.heap := by have z := I6.base; rw [← hY] at z; exact z
      have hos : s6.os = s3.os := by have z := I6.os; rw [← hY] at z; exact z
      have hok : HOk X.prog X.w H5 s6.heap := by have z := I6.hok; rw [Yp, Yw] at z; exact z
      have IX : Inv X pins σ H5 s6 := I3.call' (ch := fp) hos un hok I6.bare fun b hb => ⟨(f2 b hb).2.2.2.1, (f2 b hb).2.1, (f2 b hb).2.2.2.2.1, (f2 b hb).2.2.2.2.2⟩
      refine fin _ _ H5 s6 IX ⟨m, by rw [Ye] at hm; exact hm⟩ ⟨hCn, ?_, I3.sz, ?_, ?_⟩ q
      · exact Nat.ne_of_gt I3.lt
      · intro x c hcl
        obtain ⟨v, hv⟩ := I3.cell x c hcl
        exact Nat.ne_of_lt hv.lt
      · intro p hp
        exact Nat.ne_of_lt (Heap.lt_size (I3.pin p hp).1)
    · have z := T.item Y Yp Yw YK Yc i [] s5 σ5 H5 xe I5 (stat fr5) st5 go
      rw [YA] at z
      refine moX (thn z fun r s6 ⟨u, hr, h6⟩ => ?_)
      subst hr
      refine moX (thn h6 fun _ s7 ⟨x, H7, I7, r7, y7, st7, fr7⟩ => ?_)
      have I7' := I7.pinned (stat fr7) (T.obj _ _ st7)
      have hN := step x H7 y7
      have again : ∀ {σ' : St} {H' : Hp} {s' : Shared} {m' : Nat}, m' < n → Inv Y ([] ++ pinsAt fp s7.heap) σ' H' s' → W (i + 1) m' σ' H' → ∃ m, m < n ∧ ∃ i σ'' H'', Inv Y [] σ'' H'' s' ∧ tn i s'.heap ∧ (∀ b ∈ fp, H'' b = none) ∧ W i m σ'' H'' := fun {σ' H' s' m'} hm I' w' => by
        refine ⟨m', hm, i + 1, σ', H', I'.unpinned, T.keep _ _ _ st7 fun b hb o e => (I'.pin (b, o) (List.mem_append_right _ (List.mem_append_right _ (mem_pinsAt hb e)))).1, fun b hb => ?_, w'⟩
        obtain ⟨o, e, d⟩ := T.obj _ _ st7 b hb
        exact (I'.pin (b, o) (List.mem_append_right _ (List.mem_append_right _ (mem_pinsAt hb e)))).2.1
      have z := hgY _ s7 σ5 H7 x u _ I7' r7 hN
      rw [Yp, Yw, YA, Ye, Yx] at z
      refine moX (thn z fun _ s8 ⟨σ8, H8, I8, q8⟩ => ?_)
      have z := htY _ s8 σ8 H8 _ I8 q8
      rw [Yp, Yw, YA, Ye, Yx] at z
      refine moX (thn z fun ok s9 ⟨H9, I9, q9⟩ => ?_)
      cases ok with
      | false =>
        obtain ⟨m', hm, w'⟩ := q9
        exact again hm I9 w'
      | true =>
        have q9' : te σ8 H9 fun v H4 => ∃ xs, H4 s2.heap.objs.size = some (.lst xs) ∧ xs.length < sizeLine ∧ ∃ m', m' < n ∧ W (i + 1) m' σ8 (upd H4 s2.heap.objs.size (.lst (xs ++ [v]))) := q9
        have z := heY _ s9 σ8 H9 _ I9 q9'
        rw [Yp, Yw, YA, Ye, Yx] at z
        refine moX (thn z fun u10 s10 ⟨v10, H10, I10, r10, q10⟩ => ?_)
        obtain ⟨xs, hl, hz, m', hm, w'⟩ := q10
        have ap := mt_append (X := Y) _ s10 σ8 H10 (.ref s2.heap.objs.size) [v10] (.ref s2.heap.objs.size) [u10] (fun _ H' => W (i + 1) m' σ8 H') I10 rfl (.cons r10 .nil) ⟨_, xs, v10, rfl, rfl, hl, hz, w'⟩
        rw [Yp, Yw, YA, Yx] at ap
        refine moX (thn ap fun _ s11 ⟨_, H11, I11, _, w11⟩ => again hm I11 w11)
  exact codeAny_compStart_list (loop _) (T.self _ 0 _ _ _ st4 (loop _))

/-- [elt for tg in iter if ..] as a value; nothing is raised within -/
theorem pe_comp {tg elt iter : Expr} {ifs : List Expr} {scope : Scope} {pos : Pos} (N : List Str) (caps : List (Option Nat)) {wi : TI} {g : TG} {tt : TT} {te : TE} (hc : X.calm = true) (B : Blk X N caps scope) (hi : PI X tg iter wi)
    (hg : ∀ C s₀ H₀ ex, PG (blk X N scope C s₀ H₀ ex fun _ _ => False) tg g) (ht : ∀ C s₀ H₀ ex, PF (blk X N scope C s₀ H₀ ex fun _ _ => False) ifs tt) (he : ∀ C s₀ H₀ ex, PE (blk X N scope C s₀ H₀ ex fun _ _ => False) elt te)
    (hs : ∀ x, foldedSetIterable iter X.env x = pure x := by intro _; rfl) : PE X (.ListComp elt [⟨tg, iter, ifs, 0⟩] scope pos) (tComp caps wi g tt te) := by
  intro pins s σ H Q I h
  rw [eval_ListComp]
  refine comp_core (use := none) (Qv := Q) hc B hi hg ht he I h (fun l C H' s5 I5 ⟨m, hm⟩ lo q => ?_) (fun _ _ _ _ f => f.elim) hs
  refine ⟨m, hm, fun h' hs' => ⟨.ref l, H', ?_, rfl, q⟩⟩
  exact I5.turned (it := C) (t' := s5.toks) (fun b o hb e => hs'.extBut b o hb e) lo.un lo.loc (.inr lo.ab) lo.cel lo.pin
/-- name = [elt for tg in iter if ..] -/
theorem ps_setcomp {i : Nat} {x : Str} {pos' : Pos} {tg elt iter : Expr} {ifs : List Expr} {scope : Scope} {pos spos : Pos} (N : List Str) (caps : List (Option Nat)) {wi : TI} {g : TG} {tt : TT} {te : TE} (hc : X.calm = true)
    (hN : X.N.Nodup) (hi' : X.N[i]? = some x) (hx : Loc X.env.scope x) (B : Blk X N caps scope) (hi : PI X tg iter wi)
    (hg : ∀ C s₀ H₀ ex, PG (blk X N scope C s₀ H₀ ex fun _ _ => False) tg g) (ht : ∀ C s₀ H₀ ex, PF (blk X N scope C s₀ H₀ ex fun _ _ => False) ifs tt) (he : ∀ C s₀ H₀ ex, PE (blk X N scope C s₀ H₀ ex fun _ _ => False) elt te)
    (hsw : swapsWith (.ListComp elt [⟨tg, iter, ifs, 0⟩] scope pos) (some (.Name x pos')) spos.line X.env = pure true := by rfl)
    (hs : ∀ x, foldedSetIterable iter X.env x = pure x := by intro _; rfl) (hf : X.fn x = true ∨ X.env.scope.names.lookup x = some .local := by first | exact .inl rfl | exact .inr rfl | assumption) :
    PS X (.Assign [.Name x pos'] (.ListComp elt [⟨tg, iter, ifs, 0⟩] scope pos) spos) (tAsg (tComp caps wi g tt te) (gName i)) := by
  intro pins s σ H D I h
  rw [exec_Assign_Name_used _ _ _ _ hsw]
  refine wpAny_bind (wpAny_standAt (wpAny_bind ?_))
  show wpAny _ X.A (do let _ ← comprehension (.ListComp elt [⟨tg, iter, ifs, 0⟩] scope pos) scope X.env _ (newList []) false (eval iter X.env) (some (assign (.Name x pos') X.env))) _ _ s
  refine wpAny_bind (wpAny_mono (comp_core (use := some (assign (.Name x pos') X.env)) (Q := fun _ s' => SP X pins D .next s') (Qv := fun v H1 => gName i v σ H1 D.nx) hc B hi hg ht he I h (fun l C H' s5 I5 ⟨m, hm⟩ lo q => ?_) (fun _ _ _ _ f => f.elim) hs)
    (fun _ s' hq => wpAny_pure (wpAny_pure hq)) fun _ _ e => e)
  show wpAny _ X.A (assign (.Name x pos') X.env (.ref l)) _ _ _
  refine wpAny_assign_Name (store_ok2 I5 hN hi' hx (v := .ref l) rfl (fun s6 I6 ⟨a, sb, ha⟩ => ?_) hf)
  have hCa : C ≠ a := by
    rcases ha with e | e
    · rw [e]; exact lo.loc
    · exact Ne.symm (lo.cel x a e)
  refine ⟨m, hm.sameBut sb hCa, fun h' hs' => ⟨_, H', ?_, q⟩⟩
  exact I6.turned (it := C) (t' := s6.toks) (fun b o hb e => hs'.extBut b o hb e) lo.un lo.loc (.inr lo.ab) lo.cel lo.pin
end
end L2

namespace L2
open PySem PySem.Spec PyProof.Rows
section
variable {X : Cx}
/-! ### wider numbers -/
/-- below 2 ^ 4000 either way -/
def Wide (i : Int) : Prop := i.natAbs < 2 ^ 4000
def CMulW (i j : Int) : Prop := Wide i ∧ Wide j
def CDivW (i j : Int) : Prop := 0 < j ∧ Wide j
/-! ### == and != of lists of ints -/
def rEqL (K : PySem.W.Frag) (neg : Bool) : R2 := fun x y H Q => ∃ (a b : Addr) (ns ms : List Int), x = .ref a ∧ y = .ref b ∧ SqL K H a (ns.map V.int) ∧ SqL K H b (ms.map V.int) ∧ Q (.bl (if neg then !decide (ns = ms) else decide (ns = ms))) H
theorem isL_of {h : Heap} {a : Addr} {its : Array Value} (p : PlainL h a its) : h.IsList a its := by
  obtain ⟨o, n, e, c, _, d⟩ := p
  exact ⟨o, e, c, n, d⟩
theorem op_eqL (hu : X.A.units + 64 < cLine) : OpR X (compareOp .Eq) (rEqL X.K false) := by
  intro pins s σ H x y v u Q I rx ry h
  obtain ⟨a, b, ns, ms, rfl, rfl, hA, hB, q⟩ := h
  cases rx
  cases ry
  obtain ⟨ia, va, pa, _⟩ := I.list hA
  obtain ⟨ib, vb, pb, _⟩ := I.list hB
  exact PySem.W.ke_eq_ints (isL_of pa) (isL_of pb) (intsAre_of va) (intsAre_of vb) hu ⟨.bl _, H, I, rfl, q⟩
theorem op_neL (hu : X.A.units + 64 < cLine) : OpR X (compareOp .NotEq) (rEqL X.K true) := by
  intro pins s σ H x y v u Q I rx ry h
  obtain ⟨a, b, ns, ms, rfl, rfl, hA, hB, q⟩ := h
  cases rx
  cases ry
  obtain ⟨ia, va, pa, _⟩ := I.list hA
  obtain ⟨ib, vb, pb, _⟩ := I.list hB
  exact PySem.W.ke_ne_ints (isL_of pa) (isL_of pb) (intsAre_of va) (intsAre_of vb) hu ⟨.bl _, H, I, rfl, q⟩
/-! ### isinstance(x, T), T a built-in type or an own class -/
def rIsT (K : PySem.W.Frag) : List V → Hp → VK → Prop := fun xs H Q => ∃ x n t b, xs = [x, .ty n] ∧ TyOf K H x t ∧ PySem.W.kitOne K t (.type n) = some b ∧ Q (.bl b) H
theorem call_isT : CallR X (.builtin "isinstance") (rIsT X.K) := by
  intro pins s σ H xs us Q I r h
  obtain ⟨x, n, t, b, rfl, ty, e, q⟩ := h
  obtain ⟨u, w', rfl, r1, r2⟩ := vals2 r
  cases r2
  exact isinst_ok I r1 ty e fun tk => ⟨.bl b, H, I.tok tk, rfl, q⟩
end

/-! ### a block's facts by computing -/
def blkOk (sc : Scope) (N0 N : List Str) (caps : List (Option Nat)) (scope : Scope) : Bool :=
  decide (scope.kind = .function) && scope.names.all (fun y => decide (y.2 ≠ .cell)) && scope.names.all (fun y => decide (y.2 ≠ .local) || decide (scope.names.lookup y.1 = some .local)) &&
  scope.names.all (fun y => decide (y.2 ≠ .free) || (decide (sc.names.lookup y.1 = some .cell) || decide (sc.names.lookup y.1 = some .free))) && decide (caps.length = N.length) &&
  (List.range caps.length).all fun i => match caps[i]?, N[i]? with
    | some (some j), some x => decide (N0[j]? = some x) && (decide (sc.names.lookup x = some .cell) || decide (sc.names.lookup x = some .free)) && decide (scope.names.lookup x = some .free)
    | _, _ => true
theorem Blk.by {X : Cx} {N : List Str} {caps : List (Option Nat)} {scope : Scope} {sc : Scope} {N0 : List Str} (hsc : X.env.scope = sc) (hN : X.N = N0) (h : blkOk sc N0 N caps scope = true) : Blk X N caps scope := by
  unfold blkOk at h
  simp only [Bool.and_eq_true, decide_eq_true_eq, List.all_eq_true, Bool.or_eq_true] at h
  obtain ⟨⟨⟨⟨⟨h1, h2⟩, h3⟩, h4⟩, h5⟩, h6⟩ := h
  subst hsc
  subst hN
  refine ⟨h1, h2, fun y hy e => (h3 y hy).elim (fun z => absurd e z) id, fun y hy e => (h4 y hy).elim (fun z => absurd e z) id, h5, fun i j x e1 e2 => ?_⟩
  have hi : i < caps.length := (List.getElem?_eq_some_iff.mp e1).1
  have z := h6 i (List.mem_range.mpr hi)
  rw [e1, e2] at z
  simp only [Bool.and_eq_true, decide_eq_true_eq, Bool.or_eq_true] at z
  exact ⟨z.1.1, .inr z.1.2, z.2⟩
/-! ### comprehensions, the forms one uses -/
theorem same_upd {H : Hp} {p : Addr} (h : H p = none) (o : HO) : Same H (upd H p o) := fun b u q => by rw [upd_ne (ne_of_none q h)]; exact q
theorem same_upd2 {H0 H : Hp} {p : Addr} (h : H0 p = none) (s : Same H0 H) (o : HO) : Same H0 (upd H p o) := fun b u q => by rw [upd_ne (ne_of_none q h)]; exact s b u q
theorem comp_any {tt : TT} {te : TE} {σ0 : St} {H1 : Hp} {Q : V → Hp → Prop} {J : It} (n : Nat) (xs : Nat → V) (p : Nat → Bool) (f : Nat → V) (hn : n ≤ sizeLine)
    (hgo : ∀ i H, Same H1 H → i < n → J.go i H) (hstop : ∀ H, Same H1 H → J.stop n H) (hy : ∀ i H x H', Same H1 H → i < n → J.yld i H x H' → H' = H ∧ x = xs i)
    (hT : ∀ i H, i < n → Same H1 H → ∀ R : Bool → Hp → Prop, (∀ H', Same H H' → R (p i) H') → tt (σ0.set 0 (some (xs i))) H R)
    (hE : ∀ i H, i < n → p i = true → Same H1 H → ∀ R : V → Hp → Prop, (∀ H', Same H H' → R (f i) H') → te (σ0.set 0 (some (xs i))) H R)
    (hQ : ∀ l H, Same H1 H → H1 l = none → H l = some (.lst (((List.range n).filter p).map f)) → Q (.ref l) H) : tCompR (gName 0) tt te σ0 J H1 Q := by
  intro l hl
  refine ⟨fun i m σ H => m = n - i ∧ i ≤ n ∧ Same H1 H ∧ H l = some (.lst (((List.range i).filter p).map f)) ∧ ∀ o, σ.set 0 o = σ0.set 0 o, ⟨n, by simp, Nat.zero_le _, same_upd hl _, upd_same, fun _ => rfl⟩, ?_⟩
  rintro i m σ H ⟨rfl, hi, sm, hL, hσ⟩
  by_cases hlt : i < n
  · refine .inr ⟨hgo i H sm hlt, fun x H' y => ?_⟩
    obtain ⟨rfl, rfl⟩ := hy i H x H' sm hlt y
    show tt (σ.set 0 (some (xs i))) H' _
    rw [hσ]
    refine hT i H' hlt sm _ fun H2 s2 => ?_
    have er : (List.range (i + 1)).filter p = (List.range i).filter p ++ (if p i = true then [i] else []) := by
      rw [List.range_succ, List.filter_append]
      by_cases hp : p i = true
      · rw [if_pos hp, List.filter_cons_of_pos hp, List.filter_nil]
      · rw [if_neg hp, List.filter_cons_of_neg hp, List.filter_nil]
    have hσ2 : ∀ o, (σ0.set 0 (some (xs i))).set 0 o = σ0.set 0 o := fun o => List.set_set _
    by_cases hp : p i = true
    · rw [if_pos hp]
      refine hE i H2 hlt hp (sm.trans s2) _ fun H3 s3 => ?_
      refine ⟨_, s3 _ _ (s2 _ _ hL), ?_, n - (i + 1), by omega, rfl, hlt, ?_, ?_, hσ2⟩
      · rw [List.length_map]
        have := List.length_filter_le p (List.range i)
        rw [List.length_range] at this
        omega
      · exact same_upd2 hl (sm.trans (s2.trans s3)) _
      · rw [upd_same, er, if_pos hp, List.map_append]
        rfl
    · rw [if_neg hp]
      refine ⟨n - (i + 1), by omega, rfl, hlt, sm.trans s2, ?_, hσ2⟩
      rw [er, if_neg hp, List.append_nil]
      exact s2 _ _ hL
  · have e : i = n := by omega
    subst e
    exact .inl ⟨hstop H sm, hQ l H sm hl hL⟩
theorem comp_range {tt : TT} {te : TE} {σ0 : St} {H1 : Hp} {Q : V → Hp → Prop} {lo : Int} {n : Nat} (p : Nat → Bool) (f : Nat → V) (hn : n ≤ sizeLine)
    (hT : ∀ i H, i < n → Same H1 H → ∀ R : Bool → Hp → Prop, (∀ H', Same H H' → R (p i) H') → tt (σ0.set 0 (some (.int (lo + (i : Nat))))) H R)
    (hE : ∀ i H, i < n → p i = true → Same H1 H → ∀ R : V → Hp → Prop, (∀ H', Same H H' → R (f i) H') → te (σ0.set 0 (some (.int (lo + (i : Nat))))) H R)
    (hQ : ∀ l H, Same H1 H → H1 l = none → H l = some (.lst (((List.range n).filter p).map f)) → Q (.ref l) H) : tCompR (gName 0) tt te σ0 (Itr lo n) H1 Q :=
  comp_any n (fun i => .int (lo + (i : Nat))) p f hn (fun _ _ _ h => h) (fun _ _ => Nat.le_refl _) (fun _ _ _ _ _ _ y => y) hT hE hQ
theorem filter_map_range {α β : Type} (xs : List α) (p : α → Bool) (f : α → β) (d : α) : ((List.range xs.length).filter fun i => p (xs.getD i d)).map (fun i => f (xs.getD i d)) = (xs.filter p).map f := by
  have e : (List.range xs.length).map (fun i => xs.getD i d) = xs := by
    apply List.ext_getElem
    · simp
    · intro i h1 h2
      simp
      rw [List.getElem?_eq_getElem (by simpa using h2)]
      rfl
  have h : (((List.range xs.length).map (fun i => xs.getD i d)).filter p).map f = ((List.range xs.length).filter fun i => p (xs.getD i d)).map (fun i => f (xs.getD i d)) := by
    rw [List.filter_map, List.map_map]
    rfl
  rw [e] at h
  exact h.symm
theorem comp_list {K : PySem.W.Frag} {tt : TT} {te : TE} {σ0 : St} {H1 : Hp} {Q : V → Hp → Prop} {a : Addr} {xs : List V} (p : V → Bool) (f : V → V) (hS : SqL K H1 a xs) (hn : xs.length ≤ sizeLine)
    (hT : ∀ x H, x ∈ xs → Same H1 H → ∀ R : Bool → Hp → Prop, (∀ H', Same H H' → R (p x) H') → tt (σ0.set 0 (some x)) H R)
    (hE : ∀ x H, x ∈ xs → p x = true → Same H1 H → ∀ R : V → Hp → Prop, (∀ H', Same H H' → R (f x) H') → te (σ0.set 0 (some x)) H R)
    (hQ : ∀ l H, Same H1 H → H1 l = none → H l = some (.lst ((xs.filter p).map f)) → Q (.ref l) H) : tCompR (gName 0) tt te σ0 (Itl K a) H1 Q := by
  have at_ : ∀ i, i < xs.length → xs[i]? = some (xs.getD i .non) := fun i h => by
    rw [List.getD_eq_getElem?_getD, List.getElem?_eq_getElem h]
    rfl
  have mem : ∀ i, i < xs.length → xs.getD i .non ∈ xs := fun i h => by
    have := at_ i h
    exact List.mem_of_getElem? this
  refine comp_any xs.length (fun i => xs.getD i .non) (fun i => p (xs.getD i .non)) (fun i => f (xs.getD i .non)) hn (fun i H sm h => ⟨xs, _, sm.seq hS, at_ i h⟩) (fun H sm => ⟨xs, sm.seq hS, Nat.le_refl _⟩)
    (fun i H x H' sm h y => ⟨y.1, ?_⟩) (fun i H h sm => hT _ H (mem i h) sm) (fun i H h hp sm => hE _ H (mem i h) hp sm) (fun l H sm hl hL => hQ l H sm hl ?_)
  · have e := y.2 xs (sm.seq hS)
    rw [at_ i h] at e
    exact (Option.some.inj e).symm
  · rw [hL, filter_map_range]
end L2

namespace L2
open PySem PySem.Spec PyProof.Rows
section
variable {X : Cx} {e st : Expr} {te : TE} {ts : TO} {pos p2 : Pos}
/-! ### xs[::-1] -/
def tRev (K : PySem.W.Frag) (te : TE) (ts : TO) : TE := fun σ H Q => te σ H fun x H1 => ts σ H1 fun o H2 => o = some (-1) ∧ ∃ a xs, x = .ref a ∧ SqL K H2 a xs ∧ ∀ p, H2 p = none → Q (.ref p) (upd H2 p (.lst xs.reverse))
/-! ### all(xs) of bools -/
theorem truth_bls {prog : Program} {w : World} {A : Around} {bs : List Bool} {its : List Value} (r : Vals (bs.map V.bl) its) : TruthOf prog w A (fun i v => its.toArray[i]? = some v) fun i => bs.getD i true := by
  intro i v s Q E hP hQ
  have hP' : its[i]? = some v := by simpa using hP
  have hi : i < bs.length := by
    have := (List.getElem?_eq_some_iff.mp hP').1
    have h2 := r.length
    rw [List.length_map] at h2
    omega
  obtain ⟨u, hu, ru⟩ := r.get (i := i) (x := .bl bs[i]) (by rw [List.getElem?_map, List.getElem?_eq_getElem hi]; rfl)
  rw [hP'] at hu
  cases hu
  cases ru
  have e : bs.getD i true = bs[i] := by rw [List.getD_eq_getElem?_getD, List.getElem?_eq_getElem hi]; rfl
  have hQ' : Q (bs.getD i true) s := hQ
  rw [e] at hQ'
  exact wpAny_truthy_bool hQ'
theorem call_allL (hc : X.calm = true) : CallR X (.builtin "all") (fun xs H Q => ∃ (a : Addr) (bs : List Bool), xs = [.ref a] ∧ SqL X.K H a (bs.map V.bl) ∧ Q (.bl (bs.all id)) H) := by
  intro pins s σ H xs us Q I r h
  obtain ⟨a, bs, rfl, hS, q⟩ := h
  obtain ⟨u, rfl, ru⟩ := vals1 r
  cases ru
  obtain ⟨its, ri, pl, hz⟩ := I.list hS
  have hl : s.heap.IsList a its.toArray := isL_of pl
  have ha : a < s.heap.objs.size := by obtain ⟨_, e, _⟩ := hl; exact Heap.lt_size e
  have hh : X.A.in1.handled = none := I.ok.hd hc
  refine call_all_walk (wpAny_pyIter_list hl ?_)
  refine ⟨s.heap.objs.size, [s.heap.objs.size, a], [s.heap.objs.size], its.toArray.size, (fun i v => its.toArray[i]? = some v), (fun i h => h.IsListIter s.heap.objs.size a i ∧ h.IsList a its.toArray), (fun i => bs.getD i true), rfl, Walks.list hh s.heap.objs.size a (Nat.ne_of_lt ha) its.toArray,
    ⟨⟨_, Heap.get?_push_size _ rfl, rfl, rfl⟩, hl.push _⟩, truth_bls ri, fun h' tk hk => ?_⟩
  have e : (List.range its.toArray.size).all (fun i => bs.getD i true) = bs.all id := by
    have h2 := ri.length
    rw [List.length_map] at h2
    have h3 : its.toArray.size = bs.length := by simp [h2]
    rw [h3]
    have e1 : (List.range bs.length).map (fun i => bs.getD i true) = bs := by
      apply List.ext_getElem
      · simp
      · intro i h1 h2
        simp
        rw [List.getElem?_eq_getElem (by simpa using h2)]
        rfl
    conv => rhs; rw [← e1]
    rw [List.all_map]
    rfl
  rw [e]
  refine ⟨.bl _, H, I.kept (t' := tk) fun b o eb => hk b o ?_ (Heap.get?_push_of_some _ eb), rfl, q⟩
  intro hm
  have : b = s.heap.objs.size := by simpa using hm
  rw [this] at eb
  exact absurd (Heap.lt_size eb) (Nat.lt_irrefl _)
end
end L2

namespace L2
open PySem PySem.Spec PyProof.Rows
/-! ### an exception's record with its context: what the frames' notes leave of it -/
/-- the record at e: its class, its context ctx, a traceback's entry at T whose flight is fl -/
def RecAt (base : Heap) (e : Addr) (cls ctx fl : Value) (h : Heap) : Prop :=
  ∃ oe vs T oT ts, (h.get? e = some oe ∧ oe.cls = cls ∧ oe.data = .fields vs ∧ vs[1]? = some (.ref T) ∧ vs[2]? = some ctx) ∧ base.get? T = none ∧ T ≠ e ∧ h.get? T = some oT ∧ oT.data = .fields ts ∧ ts[3]? = some fl
structure FlyC (base : Heap) (l : List Env) (e : Addr) (cls ctx fl : Value) (h : Heap) : Prop where
  stays : base.StaysIn h
  new : base.get? e = none
  frames : h.FunFrames base l
  rcd : RecAt base e cls ctx fl h
section
variable {M : Model} {A : Around} {E : Value → Shared → Prop} {s : Shared} {base : Heap} {env : Env} {outer : List Env} {L e : Addr} {cls ctx : Value} {Q : Unit → Shared → Prop}
theorem noFields {h : Heap} {a : Addr} {o : Obj} {vs : Array Value} (ho : h.get? a = some o) (hd : o.data = .fields vs) {b : Addr} {u : Obj} (hb : h.get? b = some u) (hn : ∀ ws, u.data ≠ .fields ws) : b ≠ a := by
  rintro rfl
  have z := hb.symm.trans ho
  cases z
  exact hn vs hd
/-- a field of a record that is not of the base is set: what stays -/
theorem setRec {h : Heap} {a : Addr} {i : Nat} {v : Value} (hk : base.StaysIn h) (ha : base.get? a = none) {l : List Env} (hl : h.FunFrames base l) {o : Obj} {vs : Array Value} (ho : h.get? a = some o) (hd : o.data = .fields vs) :
    let h' := h.update a (Obj.mapFields (·.setIfInBounds i v))
    base.StaysIn h' ∧ h'.FunFrames base l ∧ h.UpToSlots h' ∧ (∀ b, b ≠ a → h'.get? b = h.get? b) ∧ ∃ o', h'.get? a = some o' ∧ o'.cls = o.cls ∧ o'.data = .fields (vs.setIfInBounds i v) := by
  intro h'
  have oth : ∀ b, b ≠ a → h'.get? b = h.get? b := fun b hb => Heap.get?_update_other _ _ (Ne.symm hb)
  have hd' := Obj.data_mapFields hd (·.setIfInBounds i v)
  refine ⟨fun b u hb => ?_, hl.of_keeps fun b u hb hn => ?_, fun b u hb hn => ?_, oth, _, Heap.get?_update_self _ ho (Obj.isFreed_of_fields hd'), Obj.cls_mapFields _ _, hd'⟩
  · rw [oth b (fun z => by rw [z, ha] at hb; cases hb)]
    exact hk b u hb
  · exact ⟨u, (oth b (noFields ho hd hb hn)).trans hb, rfl⟩
  · exact ⟨u.slots, (oth b (noFields ho hd hb hn)).trans hb⟩
/-- a new entry of the traceback -/
theorem entryC {head : Value} {hadNext : Bool} {oe : Obj} {vs : Array Value} (hfr : A.frames = some (env :: outer)) (hl : s.heap.FunFrames base (env :: outer)) (hf : env.frame = some L) (hk : base.StaysIn s.heap) (hn : base.get? e = none)
    (he : s.heap.get? e = some oe) (hc : oe.cls = cls) (hd : oe.data = .fields vs) (h2 : vs[2]? = some ctx)
    (h : ∀ h', FlyC base (env :: outer) e cls ctx (rawInt L) h' → s.heap.UpToSlots h' → Q () { s with heap := h' }) :
    wpAny M A (do let a ← frameOf env; let pl ← entryPlaceOf L hadNext; let b ← EntryCells.newEntry head a .none (rawInt L) .none pl; setField (.ref e) 1 b) Q E s := by
  have hef : e ∉ (env :: outer).filterMap (·.frame) := fun hm => by
    obtain ⟨_, o, ho, hnf⟩ := hl.mem hm
    exact noFields he hd ho hnf rfl
  refine wpAny_bind (wpAny_frameOf_fun hfr hl hf fun g1 so => wpAny_bind (wpAny_entryPlaceOf fun pl hpl => ?_))
  unfold EntryCells.newEntry
  unfold newFields
  refine wpAny_bind (wpAny_newObj_type ?_ (hpl.sizeOk5 _ _ _ _ _))
  generalize hob : ({ cls := .type "traceback", dict := none, data := .fields ([head, Value.ref L, .none, rawInt L, .none] ++ (if pl.isEmpty then List.replicate 6 Value.none else pl)).toArray } : Obj) = ob
  have obd : ∃ ts : Array Value, ob.data = .fields ts ∧ ts[3]? = some (rawInt L) := by
    rw [← hob]
    refine ⟨_, rfl, ?_⟩
    simp
  have e1 : g1.get? e = some oe := (so.2.1 e hef).trans he
  have k1 : base.StaysIn g1 := fun b o hb => (so.2.1 b fun hm => by rw [(hl.mem hm).1] at hb; cases hb).trans (hk b o hb)
  have l1 : g1.FunFrames base (env :: outer) := hl.of_keeps fun b o hb _ => by
    obtain ⟨sl, q⟩ := so.2.2 b o hb
    exact ⟨_, q, rfl⟩
  have up1 : s.heap.UpToSlots g1 := fun b o hb _ => so.2.2 b o hb
  have e2 : (g1.push ob).get? e = some oe := Heap.get?_push_of_some _ e1
  have k2 : base.StaysIn (g1.push ob) := fun b o hb => Heap.get?_push_of_some _ (k1 b o hb)
  have l2 : (g1.push ob).FunFrames base (env :: outer) := l1.of_keeps fun b o hb _ => ⟨o, Heap.get?_push_of_some _ hb, rfl⟩
  have up2 : g1.UpToSlots (g1.push ob) := Heap.UpToSlots.of_keeps fun b o hb => Heap.get?_push_of_some _ hb
  have hT : (g1.push ob).get? g1.objs.size = some ob := Heap.get?_push_size _ (by obtain ⟨ts, z, _⟩ := obd; exact Obj.isFreed_of_fields z)
  have hsz : 1 < vs.size := Nat.lt_trans (by decide) (Array.getElem?_eq_some_iff.mp h2).1
  obtain ⟨k3, l3, up3, oth, oe3, e3, c3, d3⟩ := setRec (i := 1) (v := .ref g1.objs.size) k2 hn l2 e2 hd
  refine wpAny_setField e2 hd hsz (h _ ⟨k3, hn, l3, oe3, vs.setIfInBounds 1 (.ref g1.objs.size), g1.objs.size, ob, ?_⟩ ((up1.trans up2).trans up3))
  obtain ⟨ts, z1, z2⟩ := obd
  have hTe : g1.objs.size ≠ e := Nat.ne_of_gt (Heap.lt_size e1)
  refine ⟨ts, ⟨e3, c3.trans hc, d3, by simp [hsz], ?_⟩, k1.fresh, hTe, (oth _ hTe).trans hT, z1, z2⟩
  rw [Array.getElem?_setIfInBounds_ne (by decide)]
  exact h2
/-- the frame is noted at an exception that has no entry yet -/
theorem noteC0 {oe : Obj} {vs : Array Value} (hfr : A.frames = some (env :: outer)) (hl : s.heap.FunFrames base (env :: outer)) (hf : env.frame = some L) (hk : base.StaysIn s.heap) (hn : base.get? e = none)
    (he : s.heap.get? e = some oe) (hc : oe.cls = cls) (hd : oe.data = .fields vs) (h1 : vs[1]? = some .none) (h2 : vs[2]? = some ctx)
    (h : ∀ h', FlyC base (env :: outer) e cls ctx (rawInt L) h' → s.heap.UpToSlots h' → Q () { s with heap := h' }) : wpAny M A (noteFrame (.ref e) env) Q E s := by
  unfold noteFrame
  simp only [hf]
  refine wpAny_bind (wpAny_field he hd h1 ?_)
  rw [if_neg (by decide)]
  exact entryC hfr hl hf hk hn he hc hd h2 h
/-- .. at one that flies -/
theorem noteC (hfr : A.frames = some (env :: outer)) (hf : env.frame = some L) (x : FlyC base (env :: outer) e cls ctx .none s.heap)
    (h : ∀ h', FlyC base (env :: outer) e cls ctx (rawInt L) h' → s.heap.UpToSlots h' → Q () { s with heap := h' }) : wpAny M A (noteFrame (.ref e) env) Q E s := by
  obtain ⟨oe, vs, T, oT, ts, ⟨he, hc, hd, h1, h2⟩, hT0, hTe, hT, hdT, h3⟩ := x.rcd
  unfold noteFrame
  simp only [hf]
  refine wpAny_bind (wpAny_field he hd h1 ?_)
  rw [if_pos (by simp : (Value.ref T != Value.none) = true)]
  refine wpAny_bind (wpAny_field hT hdT h3 ?_)
  rw [if_neg (by simp [rawInt] : ¬ ((Value.none == rawInt L) = true))]
  obtain ⟨k3, l3, up3, oth, _⟩ := setRec (i := 3) (v := .none) x.stays hT0 x.frames hT hdT
  refine wpAny_bind (wpAny_setField hT hdT (Array.getElem?_eq_some_iff.mp h3).1 ?_)
  exact entryC hfr l3 hf k3 x.new ((oth e (Ne.symm hTe)).trans he) hc hd h2 fun h' y up => h h' y (up3.trans up)
/-- it lands -/
theorem landC {fl : Value} {l : List Env} (x : FlyC base l e cls ctx fl s.heap) (h : ∀ h', FlyC base l e cls ctx .none h' → s.heap.UpToSlots h' → Q () { s with heap := h' }) : wpAny M A (setFlight (.ref e) none) Q E s := by
  obtain ⟨oe, vs, T, oT, ts, ⟨he, hc, hd, h1, h2⟩, hT0, hTe, hT, hdT, h3⟩ := x.rcd
  have hsz := (Array.getElem?_eq_some_iff.mp h3).1
  obtain ⟨k3, l3, up3, oth, oT3, e3, c3, d3⟩ := setRec (i := 3) (v := .none) x.stays hT0 x.frames hT hdT
  unfold setFlight
  refine wpAny_bind (wpAny_field he hd h1 ?_)
  rw [if_pos (by simp : (Value.ref T != Value.none) = true)]
  refine wpAny_setField hT hdT hsz (h _ ⟨k3, x.new, l3, oe, vs, T, oT3, _, ⟨(oth e (Ne.symm hTe)).trans he, hc, hd, h1, h2⟩, hT0, hTe, e3, d3, by simp [hsz]⟩ up3)
theorem FlyC.pop {fl : Value} {h : Heap} (x : FlyC base (env :: outer) e cls ctx fl h) : FlyC base outer e cls ctx fl h := ⟨x.stays, x.new, x.frames.2.2, x.rcd⟩
/-- a frame is left: by a new exception, by one that flies -/
theorem leaveC0 {oe : Obj} {vs : Array Value} (hfr : A.frames = some (env :: outer)) (hl : s.heap.FunFrames base (env :: outer)) (hf : env.frame = some L) (hk : base.StaysIn s.heap) (hn : base.get? e = none)
    (he : s.heap.get? e = some oe) (hc : oe.cls = cls) (hd : oe.data = .fields vs) (h1 : vs[1]? = some .none) (h2 : vs[2]? = some ctx)
    (h : ∀ h', FlyC base outer e cls ctx .none h' → s.heap.UpToSlots h' → Q () { s with heap := h' }) : wpAny M A (leaving env (.ref e)) Q E s := by
  unfold leaving
  exact wpAny_bind (noteC0 hfr hl hf hk hn he hc hd h1 h2 fun g1 x1 u1 => landC (s := { s with heap := g1 }) x1 fun g2 x2 u2 => h g2 x2.pop (u1.trans u2))
theorem leaveC (hfr : A.frames = some (env :: outer)) (hf : env.frame = some L) (x : FlyC base (env :: outer) e cls ctx .none s.heap)
    (h : ∀ h', FlyC base outer e cls ctx .none h' → s.heap.UpToSlots h' → Q () { s with heap := h' }) : wpAny M A (leaving env (.ref e)) Q E s := by
  unfold leaving
  exact wpAny_bind (noteC hfr hf x fun g1 x1 u1 => landC (s := { s with heap := g1 }) x1 fun g2 x2 u2 => h g2 x2.pop (u1.trans u2))
end
end L2

namespace L2
open PySem PySem.Spec PyProof.Rows
/-! ### exceptions: how one lies behind a call -/
section
variable {P : Program} {w : World} {H : Hp} {h h'' B : Heap} {a : Addr} {o : HO}
theorem ObjOk.there (x : ObjOk P w H h a o) : ∃ ob, h.get? a = some ob := by
  cases o with
  | lst xs => obtain ⟨_, _, _, _, e⟩ := x; exact ⟨_, e⟩
  | tup xs => obtain ⟨_, _, _, ob, e, _⟩ := x; exact ⟨ob, e⟩
  | dK kvs => obtain ⟨_, _, _, _, ob, _, _, e, _⟩ := x; exact ⟨ob, e⟩
  | dT kvs => obtain ⟨_, _, _, _, ob, _, _, e, _⟩ := x; exact ⟨ob, e⟩
  | set S n => obtain ⟨ob, _, _, _, e, _⟩ := x; exact ⟨ob, e⟩
  | ins C dx fs => obtain ⟨_, _, _, e, _⟩ := x; exact ⟨_, e⟩
  | own y => exact x
  | xd fs => obtain ⟨_, ⟨_, _, _, e, _⟩, _⟩ := x; exact ⟨_, e⟩
  | rng lo hi => obtain ⟨_, _, _, e⟩ := x; exact ⟨_, e⟩
  | frz ob u => exact ⟨_, x.1⟩
  | tbl ps => exact ⟨_, (show h.get? a = some _ from x)⟩
  | met f y => exact ⟨_, (show h.get? a = some _ from x)⟩
  | ext φ => exact x.2.1
/-- what is tracked lies in B, and B stays -/
theorem HOk.stays (x : HOk P w H h) (trk : ∀ b o, H b = some o → ∃ ob, B.get? b = some ob) (b1 : B.StaysIn h) (b2 : B.StaysIn h'') : HOk P w H h'' := fun a o e =>
  (x a o e).stay (fun b u hb q => by
    have z : ∃ ob, B.get? b = some ob := hb.elim (fun z => z ▸ trk a o e) fun z => trk b _ z
    obtain ⟨ob, e1⟩ := z
    have e2 := (b1 _ _ e1).symm.trans q
    cases e2
    exact b2 _ _ e1) (fun _ q => q) fun _ _ q => q
end
/-- the contexts of an exception, to their end -/
inductive Chn (B : Heap) : Value → Prop where
  | nil : Chn B .none
  | cons {c : Addr} {o : Obj} {vs : Array Value} {ctx : Value} : B.get? c = some o → o.data = .fields vs → vs[2]? = some ctx → Chn B ctx → Chn B (.ref c)
/-- the exception at e flies over the frames l; B: what stood when it was made, but the frames -/
structure Fly (l : List Env) (H : Hp) (e : Addr) (cls : Value) (B h : Heap) : Prop where
  fly : ∃ ctx, FlyC B l e cls ctx .none h ∧ Chn B ctx
  trk : ∀ b o, H b = some o → ∃ ob, B.get? b = some ob
  noe : H e = none
def CX1 (P : Program) (w : World) : CXT := fun outer H s E e s' => ∃ (ea : Addr) (cls : Value) (H' : Hp) (B : Heap), e = .ref ea ∧ s'.os = s.os ∧ AllBare s'.gens ∧ Un (frs outer) [] H H' s.heap s'.heap ∧ HOk P w H' s'.heap ∧
  Fly outer H' ea cls B s'.heap ∧ (∀ b o, s.heap.get? b = some o → b ∉ frs outer → ∃ ob, B.get? b = some ob) ∧ E cls none H'
section
variable {X : Cx} {pins : List (Addr × Obj)} {σ : St} {H : Hp} {s : Shared} {B h'' : Heap}
theorem Inv.un_fly (J : Inv X pins σ H s) (hex : X.ex = []) (b1 : B.StaysIn s.heap) (b2 : B.StaysIn h'') (up : s.heap.UpToSlots h'') (inB : ∀ b o, X.s₀.heap.get? b = some o → b ∉ X.fs → ∃ ob, B.get? b = some ob) :
    Un X.fs [] X.H₀ H X.s₀.heap h'' where
  keep := fun b o e n hb _ => by
    have e1 := J.base.keep b o e n hb (by rw [hex]; simp)
    obtain ⟨ob, eb⟩ := inB b o e hb
    have e2 := (b1 _ _ eb).symm.trans e1
    cases e2
    exact b2 _ _ eb
  slot := fun b o e n hb _ => by
    obtain ⟨sl, e1⟩ := J.base.slot b o e n hb (by rw [hex]; simp)
    obtain ⟨_, o2, ho2, hd⟩ := J.funs.mem hb
    rw [e1] at ho2
    cases ho2
    obtain ⟨sl2, e2⟩ := up b _ e1 hd
    exact ⟨sl2, e2⟩
  free := fun b o e n _ => J.base.free b o e n (by rw [hex]; simp)
  there := fun b o e _ => by
    by_cases hb : b ∈ X.fs
    · obtain ⟨_, o2, ho2, hd⟩ := J.funs.mem hb
      obtain ⟨sl, e2⟩ := up b o2 ho2 hd
      exact ⟨_, e2⟩
    · obtain ⟨ob, eb⟩ := inB b o e hb
      exact ⟨ob, b2 _ _ eb⟩
  tups := J.base.tups
  frzs := J.base.frzs
  tbls := J.base.tbls
theorem Inv.notFr (J : Inv X pins σ H s) {b : Addr} {o : Obj} (e : X.s₀.heap.get? b = some o) (hb : b ∉ X.fs) : b ∉ frs X.stack := fun z => by
  rcases List.mem_cons.mp (J.stkSub b z) with q | q
  · exact absurd (Nat.lt_of_lt_of_le (Heap.lt_size e) J.ok.above) (by rw [q]; exact Nat.lt_irrefl _)
  · exact hb q
/-- all but the frames that run -/
def under (X : Cx) (s : Shared) : Heap := PySem.W.hideAll s.heap (frs X.stack)
theorem under_in {b : Addr} {o : Obj} (e : s.heap.get? b = some o) (hb : b ∉ frs X.stack) : (under X s).get? b = some o := PySem.W.hideAll_get _ e hb
theorem under_stays : (under X s).StaysIn s.heap := fun b o q => PySem.W.of_hideAll _ q
theorem Inv.under_frames (J : Inv X pins σ H s) : s.heap.FunFrames (under X s) X.stack := PySem.W.funFrames_hide J.stack fun env he a ha => List.mem_filterMap.mpr ⟨env, he, ha⟩
theorem Inv.under_trk (J : Inv X pins σ H s) : ∀ b o, H b = some o → ∃ ob, (under X s).get? b = some ob := fun b o e => by
  obtain ⟨ob, q⟩ := (J.hok b o e).there
  exact ⟨ob, under_in q fun z => by rw [J.stkFree b z] at e; cases e⟩
end
/-- a new exception: all else is kept -/
structure MadeC (h h' : Heap) (e : Addr) (cls ctx : Value) : Prop where
  keeps : ∀ b o, h.get? b = some o → h'.get? b = some o
  new : h.get? e = none
  rcd : ∃ oe vs, h'.get? e = some oe ∧ oe.cls = cls ∧ oe.data = .fields vs ∧ vs[1]? = some .none ∧ vs[2]? = some ctx
theorem MadeC.of {h h' : Heap} {e : Addr} {cls : Value} {args : List Value} (x : Heap.MadeExcOf h h' e cls args) : MadeC h h' e cls .none := by
  obtain ⟨t, he, _⟩ := x.there
  exact ⟨x.keeps, x.new, _, _, he, rfl, rfl, rfl, rfl⟩
/-- the body of a def, whose exceptions leave it -/
structure Thr (X : Cx) (E : XK) : Prop where
  new : ∀ (pins : List (Addr × Obj)) (σ : St) (H : Hp) (s : Shared) (h' : Heap) (e C : Addr) (ctx : Value), Inv X pins σ H s → MadeC s.heap h' e (.ref C) ctx → Chn (under X s) ctx → E (.ref C) none H → X.xe (.ref e) { s with heap := h' }
  on : Passes (CX1 X.prog X.w) X E
  own : PassesOwn (model X.prog X.w) X.A X.env X.xe
  ownAt : ∀ hd, PassesOwnAt (model X.prog X.w) (X.A.mark hd) X.A X.env X.xe
theorem thr_def {P : Program} {w : World} {K : PySem.W.Frag} {mg : Str → Option Value} {base : Heap} {N : List Str} {qual : Str} {scope : Scope} {f : Addr} {cd : Value} {A : Around} {outer : List Env} {s : Shared} {H : Hp} {E : XK} :
    Thr (cxOf (CX1 P w) P w K mg base N qual scope f cd A outer s H E) E where
  own := PassesOwn.leaving
  ownAt := fun _ => PassesOwnAt.leaving
  new := by
    intro pins σ H1 s1 h' e C ctx I hx hch hE
    have fr : (under (cxOf (CX1 P w) P w K mg base N qual scope f cd A outer s H E) s1).StaysIn s1.heap := under_stays
    have hn : (under (cxOf (CX1 P w) P w K mg base N qual scope f cd A outer s H E) s1).get? e = none := by
      cases q : (under (cxOf (CX1 P w) P w K mg base N qual scope f cd A outer s H E) s1).get? e with
      | none => rfl
      | some o =>
        have z := fr _ _ q
        rw [hx.new] at z
        cases z
    obtain ⟨oe, vs, he, hc, hd, h1, h2⟩ := hx.rcd
    refine leaveC0 (outer := outer) I.ok.frames (I.under_frames.of_keeps fun b o hb _ => ⟨o, hx.keeps b o hb, rfl⟩) rfl (fun b o q => hx.keeps b o (fr b o q)) hn he hc hd h1 h2 fun h'' x1 x4 => ?_
    have up : s1.heap.UpToSlots h'' := (Heap.UpToSlots.of_keeps hx.keeps).trans x4
    have inB : ∀ b o, s.heap.get? b = some o → b ∉ frs outer → ∃ ob, (under (cxOf (CX1 P w) P w K mg base N qual scope f cd A outer s H E) s1).get? b = some ob := fun b o eb hb => by
      obtain ⟨o', e'⟩ := I.base.there b o eb (by intro z; cases z)
      exact ⟨o', under_in e' (I.notFr eb hb)⟩
    refine ⟨e, .ref C, H1, _, rfl, I.os, I.bare, I.un_fly rfl fr x1.stays up inB, I.hok.stays I.under_trk fr x1.stays, ⟨⟨ctx, x1, hch⟩, I.under_trk, ?_⟩, inB, hE⟩
    cases q : H1 e with
    | none => rfl
    | some o =>
      obtain ⟨ob, z⟩ := (I.hok e o q).there
      rw [hx.new] at z
      cases z
  on := by
    intro pins σ H1 s1 e s' I hc
    obtain ⟨ea, cls, H', B, rfl, os, bare, un, hok, F, inB, hE⟩ := hc
    have J := I.call' os un hok bare fun b z => absurd z (by simp)
    obtain ⟨ctx, fl, hch⟩ := F.fly
    refine leaveC (outer := outer) I.ok.frames rfl fl fun h'' x1 x2 => ?_
    have inB' : ∀ b o, s.heap.get? b = some o → b ∉ frs outer → ∃ ob, B.get? b = some ob := fun b o eb hb => by
      obtain ⟨o', e'⟩ := I.base.there b o eb (by intro z; cases z)
      exact inB b o' e' (I.notFr eb hb)
    exact ⟨ea, cls, H', B, rfl, J.os, J.bare, J.un_fly rfl fl.stays x1.stays x2 inB', hok.stays F.trk fl.stays x1.stays, ⟨⟨ctx, x1, hch⟩, F.trk, F.noe⟩, inB', hE⟩
/-- THE RULE for a def that may raise -/
theorem Fun.okX {P : Program} {w : World} {K : PySem.W.Frag} {mg : Str → Option Value} {base : Heap} {x qual : Str} {st : Stmt} {f : Addr} {fd : FuncData} {N ps : List Str} {k : Nat} {sp : Sp} (F : Fun K x qual st f fd) (S : FnScope N ps (defScope st)) (len : ∀ vs H Q E, sp vs H Q E → vs.length = ps.length)
    (hbody : ∀ (cdv : Value) (A : Around) (outer : List Env) (s : Shared) (H : Hp) (vs : List V) (Q : VK) (E : XK), Room k (A.deeper (envOfC qual (defScope st) s.heap.objs.size f cdv)) → sp vs H Q E →
      Thr (cxOf (CX1 P w) P w K mg base N qual (defScope st) f cdv A outer s H E) E →
      ∃ t, PSs (cxOf (CX1 P w) P w K mg base N qual (defScope st) f cdv A outer s H E) (defBody st) t ∧ t { nx := fun _ H' => Q .non H', rt := Q } (start N vs) H) : FnOk P w K mg base (CX1 P w) (k + 1) f fd ps sp := by
  obtain ⟨oc, od, kV, doc, pm, an, cdv, ct, osl, rfl, lk, hcd⟩ := F.ex
  exact fn_of lk hcd S len fun A outer s H vs Q E hr hsp => hbody cdv A outer s H vs Q E hr hsp thr_def

/-! ### raise C("..") of an own class under ValueError -/
abbrev veTail : List Value := [.type "ValueError", .type "Exception", .type "BaseException", .type "object"]
theorem exc_obj {K : PySem.W.Frag} {h : Heap} {C : Addr} {bmB : List Value} {newId : String} (X : K.In h) (q : PySem.W.excIn K C bmB newId = true) :
    ∃ bm N nm qn bs hdct sn sub ab col dd k0 k1 k2 k3 k5 mN, h.get? C = some (excClassObj nm qn C N bs bm hdct sn sub ab col dd k0 k1 k2 k3 k5 newId) ∧ h.Ns N mN ∧ mN "__init__" = none ∧ OwnTail h bmB bm := by
  unfold PySem.W.excIn at q
  split at q
  · rename_i ddx cdx slx hlook
    split at q
    · rename_i Cx bmx j0 j1 j2 j3 nx j5 hmro hslots
      simp only [beq_iff_eq, Bool.and_eq_true, Bool.not_eq_true'] at q
      obtain ⟨⟨⟨⟨⟨eC, eN⟩, edel⟩, etl⟩, eok⟩, eni⟩ := q
      subst eC
      subst eN
      obtain ⟨f1, f2, f3, f4, f5, f6, f7, f8, f9, f10, f11⟩ := cdx
      have e1 : f3 = _ := hmro
      have e2 : f11 = false := edel
      subst e1
      subst e2
      obtain ⟨lst⟩ := slx
      have e3 : lst = _ := hslots
      subst e3
      exact ⟨bmx, f4, f1, f5, f2, f6, f7, f8, f9, f10, ddx, j0, j1, j2, j3, j5, _, X _ _ hlook, .of_isNs (PySem.W.isNs_of_in X eok), PySem.W.nsMap_none_of_in X eok eni, PySem.W.tail_of_in X etl⟩
    · cases q
  · cases q
def tRaise (C : Addr) (E : XK) (t : TA) : TS := fun _ σ H => t σ H fun vs H1 => vs.length ≤ sizeLine ∧ E (.ref C) none H1
theorem ps_raise {X : Cx} {x : Str} {np cpos pos : Pos} {e : Expr} {es : List Expr} {t : TA} {C : Addr} {E : XK} (T : Thr X E) (hh : X.A.handled = none) (hg : Gl X x) (hm : X.mg x = some (.ref C)) (hc : PySem.W.excIn X.K C veTail "ValueError.__new__" = true) (ha : PA X (e :: es) t)
    (hdb : (x == ("__debug__" : Str)) = false := by decide) (he : starEach (e :: es) X.env = (false, eval e X.env) :: starEach es X.env := by rfl) (hpl : (backTo cpos (starEach es X.env)).any (·.1) = false := by rfl) :
    PS X (.Raise (some (.Call (.Name x np) (e :: es) [] cpos)) none pos) (tRaise C E t) := by
  intro pins s σ H D I h
  obtain ⟨bm, N, nm, qn, bs, hdct, sn, sub, ab, col, dd, k0, k1, k2, k3, k5, mN, hC, hN, hni, hT⟩ := exc_obj I.mod.kin hc
  have hB : bm.contains (.type "BaseException") = true := hT.hasType PySem.F.excBase_ValueError.hasBase
  refine wpAny_Raise_call_subT (k5 := k5) (k3 := k3) (k2 := k2) (k1 := k1) (k0 := k0) (dd := dd) (col := col) (ab := ab) (sub := sub) (sn := sn) (hdct := hdct) (bs := bs) (N := N) (q := qn) (nm := nm) (bm := bm) (C := C) PySem.F.excBase_ValueError (mN := mN) hB hh (by rw [he]; show (false || (backTo cpos (starEach es X.env)).any (·.1)) = false; rw [hpl]; rfl) hni (ld_glob I hg hm ⟨rfl, ?_⟩ hdb)
  have hA := ha cpos pins s σ H _ I h
  rw [he] at hA ⊢
  refine Calls.evalArgs_plain (thn hA fun us s2 q2 => ?_)
  obtain ⟨vs, H2, I2, r, hz, hE⟩ := q2
  exact ⟨rfl, by rw [← r.length]; exact hz, I2.bk _ _ hC, hN.keeps I2.bk, hT.keeps I2.bk, fun h' e' hx => T.new pins σ H2 s2 h' e' C .none I2 (.of hx) .nil hE⟩
end L2

namespace L2
open PySem PySem.Spec PyProof.Rows
/-! ### what may raise, asked at one state -/
def Held (X : Cx) (pins : List (Addr × Obj)) (B : Heap) : Prop := (∀ b o, X.s₀.heap.get? b = some o → b ∉ X.ex → b ∉ X.fs → ∃ ob, B.get? b = some ob) ∧ ∀ p ∈ X.pn ++ pins, ∃ ob, B.get? p.1 = some ob
def XP (X : Cx) (pins : List (Addr × Obj)) (σ : St) (Ex : XK) (e : Value) (s' : Shared) : Prop :=
  ∃ (ea : Addr) (cls : Value) (H' : Hp) (B : Heap), e = .ref ea ∧ Inv X pins σ H' s' ∧ Fly X.stack H' ea cls B s'.heap ∧ Held X pins B ∧ Ex cls none H'
section
variable {X : Cx} {pins : List (Addr × Obj)} {σ : St} {H : Hp} {s : Shared} {B h'' : Heap}
/-- an exception that was caught: its class -/
def excO (a C : Addr) : HO := .ext fun h => ∃ o vs, h.get? a = some o ∧ o.cls = .ref C ∧ o.data = .fields vs
/-- the context of an except suite from which nothing is raised -/
def hCx (X : Cx) (e : Addr) : Cx := { X with A := X.A.mark (some (.ref e)), calm := false, xe := fun _ _ => False }
end
/-! ### the judgements with an exception's wish -/
def PEX (X : Cx) (e : Expr) (t : XK → TE) : Prop :=
  ∀ (pins : List (Addr × Obj)) (s : Shared) (σ : St) (H : Hp) (Q : VK) (Ex : XK), Inv X pins σ H s → t Ex σ H Q → wpAny (model X.prog X.w) X.A (eval e X.env) (EP X pins σ Q) (XP X pins σ Ex) s
def PSX (X : Cx) (st : List Stmt) (t : XK → TS) : Prop :=
  ∀ (pins : List (Addr × Obj)) (s : Shared) (σ : St) (H : Hp) (D : Ends) (Ex : XK), Inv X pins σ H s → t Ex D σ H → wpAny (model X.prog X.w) X.A (execs st X.env) (SP X pins D) (XP X pins σ Ex) s
section
variable {X : Cx} {k : Nat} {f : Addr} {fd : FuncData} {ps : List Str} {sp : Sp} {dvs : List V} {ds : List Value} {x : Str} {p pos : Pos} {e : Expr} {es : List Expr} {t : TA}
end
/-! ### try: .. except T as n: .. -/
def tTryAs (K : PySem.W.Frag) (tb : XK → TS) (i : Nat) (CT : Value) (th : TS) : TS := fun D σ H =>
  tb (fun cls _ H1 => PySem.W.exmOne K cls CT = some true ∧ ∃ C, cls = .ref C ∧ ∀ ea, H1 ea = none →
    th { nx := fun σ' H' => D.nx (σ'.set i none) H', rt := D.rt, bk := fun σ' H' => D.bk (σ'.set i none) H', ct := fun σ' H' => D.ct (σ'.set i none) H' } (σ.set i (some (.ref ea))) (upd H1 ea (excO ea C))) D σ H
end L2

namespace L2
open PySem PySem.Spec PyProof.Rows Builtin Builtin.ObjectAttr Builtin.Getset_descriptor
/-! ### the class of an exception that was caught -/
structure ExcF (K : PySem.W.Frag) (C : Addr) : Prop where
  cl : (PySem.W.clsIn K C).isSome = true
  ga : PySem.W.findIn K (.ref C) "__getattribute__" = some (some (.builtin "BaseException.__getattribute__"))
  hk : PySem.W.findIn K (.ref C) "__getattr__" = some none
  cs : PySem.W.findIn K (.ref C) "__class__" = some (some (.builtin "object.__class__"))
  gt : PySem.W.specialIn K (.builtin "object.__class__") "__get__" = some (some (.builtin "getset_descriptor.__get__"))
  tk : PySem.W.takesIn K (.builtin "object.__class__") = some true
  mo : PySem.W.mroIn K C (.type "object") = some true
  mb : PySem.W.mroIn K C (.type "BaseException") = some true
def ExcAt (a C : Addr) (h : Heap) : Prop := ∃ o, h.get? a = some o ∧ o.cls = .ref C
section
variable {prog : Program} {w : World} {A : Around} {E : Value → Shared → Prop} {K : PySem.W.Frag} {a C : Addr}
end
end L2

namespace L2
open PySem PySem.Spec PyProof.Rows Builtin Builtin.ObjectAttr Builtin.Getset_descriptor
section
variable {prog : Program} {w : World} {A : Around} {E : Value → Shared → Prop} {K : PySem.W.Frag} {a C : Addr}
end
/-! ### isinstance(e, T) of a caught exception -/
def isC : V → Bool | .ref _ => true | .ty _ => true | _ => false
def toC : V → Value | .ref D => .ref D | .ty n => .type n | _ => .none
end L2

namespace L2
open PySem PySem.Spec PyProof.Rows
/-! ### texts -/
section
variable {X : Cx} {pos : Pos}
theorem mt_find : MtR X "str.find" (fun x xs H Q => ∃ i j, x = .str i ∧ xs = [.str j] ∧ Q (.int (Txt.find i j)) H) := by
  intro pins s σ H x xs v us Q I rx rv h
  obtain ⟨i, j, rfl, rfl, q⟩ := h
  obtain ⟨t, rfl⟩ := rx
  obtain ⟨u, rfl, ru⟩ := rv.one
  obtain ⟨t', rfl⟩ := ru
  exact SC.find ⟨.int _, H, I.tok _, ⟨_, rfl⟩, q⟩
/-! ### {} -/
def tDNew : TE := fun _ H Q => ∀ p, H p = none → Q (.ref p) (upd H p (.dK []))
/-! ### a callee that may raise, asked where it does not -/
theorem pass1 {P : Program} {w : World} : Passes (CX1 P w) X E0 := fun _ _ _ _ _ _ _ h => by
  obtain ⟨_, _, _, _, _, _, _, _, _, _, _, z⟩ := h
  exact z.elim
end
end L2

namespace L2
open PySem PySem.Spec PyProof.Rows
/-! ### lists of texts -/
def vS (ys : List Str) : List V := ys.map V.str
theorem vS_len (ys : List Str) : (vS ys).length = ys.length := List.length_map _
theorem vals_values : ∀ l : List (Str × Tok), Vals (vS (l.map (·.1))) (strValues l)
  | [] => .nil
  | (x, t) :: r => .cons ⟨t, rfl⟩ (vals_values r)
theorem vals_from (tk : Nat) (xs : List Str) : Vals (vS xs) (strsFrom tk xs) := by
  rw [strsFrom_eq]
  have := vals_values (numbered tk xs)
  rwa [numbered_texts] at this
theorem strsAre_of : ∀ {ys : List Str} {us : List Value}, Vals (vS ys) us → StrsAre us ys
  | [], _, .nil => .nil
  | y :: r, _, .cons h t => by
    obtain ⟨tk, rfl⟩ := h
    exact .cons _ _ (strsAre_of t)
section
variable {X : Cx}
/-! ### join, split -/
theorem mt_join : MtR X "str.join" (fun x xs H Q => ∃ sep a ys, x = .str sep ∧ xs = [.ref a] ∧ SqL X.K H a (vS ys) ∧ (ys.map (·.length)).sum + ys.length * sep.length ≤ 16777216 ∧ Q (.str (Txt.join sep ys)) H) := by
  intro pins s σ H x xs v us Q I rx rv h
  obtain ⟨sep, a, ys, rfl, rfl, hS, hok, q⟩ := h
  obtain ⟨t, rfl⟩ := rx
  obtain ⟨u, rfl, ru⟩ := rv.one
  cases ru
  obtain ⟨its, r, pl, hz⟩ := I.list hS
  exact join_list (isL_of pl) (by simpa using strsAre_of r) hok fun t' k => ⟨.str _, H, I.tok k, ⟨_, rfl⟩, q⟩
theorem mt_split : MtR X "str.split" (fun x xs H Q => ∃ i j, x = .str i ∧ xs = [.str j] ∧ (j.length == 0) = false ∧ i.length ≤ 10000 ∧ ∀ l, H l = none → Q (.ref l) (upd H l (.lst (vS (Txt.split i j))))) := by
  intro pins s σ H x xs v us Q I rx rv h
  obtain ⟨i, j, rfl, rfl, hj, hi, q⟩ := h
  obtain ⟨t, rfl⟩ := rx
  obtain ⟨u, rfl, ru⟩ := rv.one
  obtain ⟨t', rfl⟩ := ru
  have sl := sizeLine_eq
  have hsz : i.length ≤ sizeLine := by omega
  have same : Txt.split i j = [i] → (∀ h' tk, h' = s.heap.push { cls := .type "list", data := .seq ([.str i t] : List Value).toArray } → EP X pins σ Q (.ref s.heap.objs.size) { s with heap := h', toks := tk }) := fun e h' tk eh => by
    subst eh
    refine ⟨.ref s.heap.objs.size, _, I.lnew (t' := tk) (ys := vS (Txt.split i j)) (its := [.str i t]) ?_ ?_, rfl, q _ I.fresh⟩
    · rw [e]
      exact .cons ⟨t, rfl⟩ .nil
    · rw [e]
      show 1 ≤ sizeLine
      omega
  by_cases h1 : (decide (i.length < j.length) || decide (Builtin.Str.strKind i < Builtin.Str.strKind j)) = true
  · refine call_meets F.slot_str_split (typeIs_str _ _ _) F.entry_str_split (F.args_str_split_2 _ _) (meets_str_split_cannot_occur i j t t' h1) ?_
    exact same (if_pos h1) _ s.toks rfl
  · have h1' := Bool.eq_false_iff.mpr h1
    by_cases hf : (Builtin.Str.occurrences i j 0 i.length (i.length + 1)).isEmpty = true
    · refine call_meets F.slot_str_split (typeIs_str _ _ _) F.entry_str_split (F.args_str_split_2 _ _) (meets_str_split_not_found i j t t' h1' hj hf) ?_
      exact same ((if_neg h1).trans (if_pos hf)) _ s.toks rfl
    · have hf' := Bool.eq_false_iff.mpr hf
      have hp : Txt.split i j = Builtin.Str.partsBetween i (Builtin.Str.occurrences i j 0 i.length (i.length + 1)) j.length := (if_neg h1).trans (if_neg hf)
      have hn : (Builtin.Str.partsBetween i (Builtin.Str.occurrences i j 0 i.length (i.length + 1)) j.length).length ≤ sizeLine := by
        rw [len_partsBetween]
        have := StrLaws.occ_length_le i j 0 i.length (i.length + 1)
        omega
      refine call_meets F.slot_str_split (typeIs_str _ _ _) F.entry_str_split (F.args_str_split_2 _ _) (meets_str_split_sep i j t t' h1' hj hf' hsz hn) ?_
      refine ⟨.ref s.heap.objs.size, _, I.lnew (ys := vS (Txt.split i j)) (its := strsFrom s.toks (Builtin.Str.partsBetween i (Builtin.Str.occurrences i j 0 i.length (i.length + 1)) j.length)) ?_ ?_, rfl, q _ I.fresh⟩
      · rw [hp]
        exact vals_from _ _
      · rw [vS_len, hp]
        exact hn
/-! ### slices of texts -/
def rSlS : V → Option Int → Option Int → Hp → VK → Prop := fun x lo hi H Q => ∃ z, x = .str z ∧ z.length ≤ 10000 ∧ Q (.str (Txt.slice z lo hi)) H
theorem isPart_of {v : Value} {o : Option Int} (p : IsPart v o) : ∃ l : Option (Int × Tok), partValue l = v ∧ l.map (·.1) = o := by
  cases p with
  | none => exact ⟨none, rfl, rfl⟩
  | int i t => exact ⟨some (i, t), rfl, rfl⟩
theorem sl_str : SlR X rSlS := by
  intro pins s σ H x v vl vu lo hi sl Q I rx hs pl pu h
  obtain ⟨z, rfl, hz, q⟩ := h
  obtain ⟨t, rfl⟩ := rx
  obtain ⟨l, rfl, el⟩ := isPart_of pl
  obtain ⟨u, rfl, eu⟩ := isPart_of pu
  refine ⟨"str", _, F.slot_str_getitem.lookup, typeIs_str _ _ _, ?_⟩
  refine wpAny_getItem_str_slice (l := l) (u := u) (st := none) hs rfl (post_val_or_str ⟨?_, fun t' k => ?_⟩)
  · have e := Txt.slice_le z lo hi
    rw [← el, ← eu] at e
    have sl' := sizeLine_eq
    refine Nat.le_trans e ?_
    omega
  · refine ⟨.str _, H, I.tok k, ⟨_, rfl⟩, ?_⟩
    rw [← el, ← eu] at q
    exact q
/-! ### for c in a text -/
def Its (x : Str) : It := ⟨fun i _ => i < x.cps.size, fun i H v H' => H' = H ∧ ∃ c, x.cps[i]? = some c ∧ v = .str ⟨#[c]⟩, fun i _ => x.cps.size ≤ i⟩
theorem turn_strA {P : Program} {w : World} {K : PySem.W.Frag} {tg : Expr} (x : Str) (t : Tok) (it : Addr) : Turn P w K tg (Its x) [it] it (fun i h => h.IsStrIter it "str_ascii_iterator" x t i) where
  mem := by simp
  obj := fun i h st b hb => by
    have e : b = it := by simpa using hb
    subst e
    obtain ⟨o, e, c, d⟩ := st
    exact ⟨o, e, fun v z => by rw [d] at z; cases z⟩
  keep := fun i h h' st k => by
    obtain ⟨o, e, r⟩ := st
    exact ⟨o, k it (by simp) o e, r⟩
  item := by
    intro X hP hw hK hc i pins s σ H E I hf st hg
    subst hP hw hK
    have hi : i < x.cps.size := hg
    obtain ⟨f0, f1, f2, f3, f4, f5⟩ := hf it (by simp)
    refine wpAny_pyNext_ascii_item st (c := x.cps[i]) (by simp [hi]) fun h' st' sb => ?_
    have I1 : Inv X pins σ H { s with heap := h', toks := s.toks + 1 } := I.turned (t' := s.toks + 1) (fun b o hb e => (sb.2 b hb).trans e) f0 f1 f3 f4 f5
    obtain ⟨o, e, c, d⟩ := id st'
    exact ⟨_, rfl, go_of (s := { s with heap := h', toks := s.toks + 1 }) e c d (by decide) ⟨.str _, H, I1, ⟨_, rfl⟩, ⟨rfl, x.cps[i], by simp [hi], rfl⟩, st', fun b hb => (hf b hb).1⟩⟩
  done := by
    intro X hP hw hK hc i pins s σ H E I hf st hg
    subst hP hw hK
    have hi : x.cps.size ≤ i := hg
    obtain ⟨f0, f1, f2, f3, f4, f5⟩ := hf it (by simp)
    exact wpAny_pyNext_ascii_end (I.ok.hd hc) st (by simp [hi]) fun h' eb => ⟨rfl, I.turned (t' := s.toks) (fun b o hb e => eb b o hb e) f0 f1 f3 f4 f5⟩
  self := fun _ _ _ _ _ st h => wpAny_pyIter_striter_ascii st h
theorem turn_strW {P : Program} {w : World} {K : PySem.W.Frag} {tg : Expr} (x : Str) (t : Tok) (it : Addr) : Turn P w K tg (Its x) [it] it (fun i h => h.IsStrIter it "str_iterator" x t i) where
  mem := by simp
  obj := fun i h st b hb => by
    have e : b = it := by simpa using hb
    subst e
    obtain ⟨o, e, c, d⟩ := st
    exact ⟨o, e, fun v z => by rw [d] at z; cases z⟩
  keep := fun i h h' st k => by
    obtain ⟨o, e, r⟩ := st
    exact ⟨o, k it (by simp) o e, r⟩
  item := by
    intro X hP hw hK hc i pins s σ H E I hf st hg
    subst hP hw hK
    have hi : i < x.cps.size := hg
    obtain ⟨f0, f1, f2, f3, f4, f5⟩ := hf it (by simp)
    refine wpAny_pyNext_wide_item st (c := x.cps[i]) (by simp [hi]) fun h' st' sb => ?_
    have I1 : Inv X pins σ H { s with heap := h', toks := s.toks + 1 } := I.turned (t' := s.toks + 1) (fun b o hb e => (sb.2 b hb).trans e) f0 f1 f3 f4 f5
    obtain ⟨o, e, c, d⟩ := id st'
    exact ⟨_, rfl, go_of (s := { s with heap := h', toks := s.toks + 1 }) e c d (by decide) ⟨.str _, H, I1, ⟨_, rfl⟩, ⟨rfl, x.cps[i], by simp [hi], rfl⟩, st', fun b hb => (hf b hb).1⟩⟩
  done := by
    intro X hP hw hK hc i pins s σ H E I hf st hg
    subst hP hw hK
    have hi : x.cps.size ≤ i := hg
    obtain ⟨f0, f1, f2, f3, f4, f5⟩ := hf it (by simp)
    exact wpAny_pyNext_wide_end (I.ok.hd hc) st (by simp [hi]) fun h' eb => ⟨rfl, I.turned (t' := s.toks) (fun b o hb e => eb b o hb e) f0 f1 f3 f4 f5⟩
  self := fun _ _ _ _ _ st h => wpAny_pyIter_striter_wide st h
def iStr (tl : TE) : TI := fun σ H R => tl σ H fun x H1 => ∃ z, x = .str z ∧ R (Its z) H1
theorem pi_str {tg l : Expr} {tl : TE} (hl : PE X l tl) : PI X tg l (iStr tl) := by
  intro pins s σ H R I h
  refine thn (hl pins s σ H _ I h) fun v s1 ⟨x, H1, I1, r1, q1⟩ => ?_
  obtain ⟨z, rfl, q⟩ := q1
  obtain ⟨t, rfl⟩ := r1
  have fp : ∀ b ∈ [s1.heap.objs.size], FpOk X pins H1 b := fun b hb => by
    have e : b = s1.heap.objs.size := by simpa using hb
    subst e
    exact I1.fpOk (Nat.le_refl _) (I1.hok.fresh (Nat.le_refl _))
  cases ha : z.cps.all (· < 128)
  · exact wpAny_pyIter_wide ha ⟨s1.heap.objs.size, [s1.heap.objs.size], _, _, H1, rfl, I1.kept (t' := s1.toks) fun b o e => Heap.get?_push_of_some _ e, turn_strW z t _, ⟨_, Heap.get?_push_size _ rfl, rfl, rfl⟩, fp, q⟩
  · exact wpAny_pyIter_ascii ha ⟨s1.heap.objs.size, [s1.heap.objs.size], _, _, H1, rfl, I1.kept (t' := s1.toks) fun b o e => Heap.get?_push_of_some _ e, turn_strA z t _, ⟨_, Heap.get?_push_size _ rfl, rfl, rfl⟩, fp, q⟩
end
end L2

namespace L2
open PySem PySem.Spec PyProof.Rows
/-! ### raise C("..") from None, in an except suite -/
inductive Pth (h : Heap) : Addr → Addr → Prop where
  | here (a : Addr) : Pth h a a
  | step {a b c : Addr} {o : Obj} {vs : Array Value} : h.get? a = some o → o.data = .fields vs → vs[2]? = some (.ref b) → Pth h b c → Pth h a c
section
variable {prog : Program} {w : World}
end
end L2

namespace L2
open PySem PySem.Spec PyProof.Rows
section
variable {X : Cx} {pins : List (Addr × Obj)} {σ : St} {H : Hp} {s : Shared} {x : Str} {np cp cp2 cpos rpos : Pos} {msg : Str} {j j2 : Nat} {C e1 : Addr}
end
end L2

namespace L2
open PySem PySem.Spec PyProof.Rows
/-! ### try: .. except T: raise C("..") from None -/
def tTryR (K : PySem.W.Frag) (tb : XK → TS) (CT : Value) (C2 : Addr) (E : XK) : TS := fun D σ H => tb (fun cls _ H1 => PySem.W.exmOne K cls CT = some true ∧ E (.ref C2) none H1) D σ H
/-! ### f(a), where a may raise and f not -/
/-! ### xs == [] -/
theorem op_eqNil {X : Cx} (hu : X.A.units + 64 < cLine) : OpR X (compareOp .Eq) (fun x y H Q => ∃ (a b : Addr) (xs : List V), x = .ref a ∧ y = .ref b ∧ SqL X.K H a xs ∧ SqL X.K H b [] ∧ Q (.bl xs.isEmpty) H) := by
  intro pins s σ H x y v u Q I rx ry h
  obtain ⟨a, b, xs, rfl, rfl, hA, hB, q⟩ := h
  cases xs with
  | nil => exact op_eqL hu pins s σ H _ _ v u Q I rx ry ⟨a, b, [], [], rfl, rfl, hA, hB, q⟩
  | cons x0 xr =>
    cases rx
    cases ry
    obtain ⟨ia, va, pa, _⟩ := I.list hA
    obtain ⟨ib, vb, pb, _⟩ := I.list hB
    have l1 := va.length
    have l2 := vb.length
    refine PySem.SeqAt.eq_list_lengthsAt (isL_of pa) (isL_of pb) ?_ (by omega) ⟨.bl false, H, I, rfl, q⟩
    simp only [List.size_toArray, ← l1, ← l2, List.length_cons, List.length_nil]
    simp
end L2

namespace L2
open PySem PySem.Spec PyProof.Rows
/-! ### sorted(..): what comes is the same things in some order, whatever the comparisons answer -/
section
variable {P : Program} {w : World} {A : Around} {E : Value → Shared → Prop} {s : Shared} {kd : SortKind} {a0 : Array Keyed}
/-- comparisons of these keys answer, and change nothing -/
def Cmp (P : Program) (w : World) (A : Around) (s : Shared) (kd : SortKind) (ks : List Value) : Prop :=
  ∀ x ∈ ks, ∀ y ∈ ks, ∀ (E : Value → Shared → Prop) (Q : Bool → Shared → Prop), (∀ b, Q b s) → wpAny (model P w) A (keyLt' kd x y) Q E s
structure SB (kd : SortKind) (a0 : Array Keyed) (st : SortSt) : Prop where
  pm : (arrOf st).Perm a0
  kn : kindOf st = kd
  fl : failedOf st = none
  pn : pendingOf st = #[]
variable (hC : Cmp P w A s kd (a0.toList.map (·.1)))
include hC
end
section
variable {P : Program} {w : World} {A : Around} {E : Value → Shared → Prop} {s : Shared} {kd : SortKind}
/-- what sorting needs to know of the keys, in any state that keeps what is there -/
structure Keys (P : Program) (w : World) (A : Around) (s : Shared) (kd : SortKind) (vs : List Value) : Prop where
  kind : 2 ≤ vs.length → ∀ (E : Value → Shared → Prop) (Q : SortKind → Shared → Prop), Q kd s → wpAny (model P w) A (keyKind' vs.toArray) Q E s
  cmp : Cmp P w A s kd vs
end
end L2

namespace L2
open PySem PySem.Spec PyProof.Rows
/-! ### sorted(..) of pairs of whole numbers -/
section
variable {P : Program} {w : World} {A : Around} {E : Value → Shared → Prop} {s : Shared}
/-- a pair of whole numbers on the heap -/
def PairAt (h : Heap) (v : Value) : Prop := ∃ (a : Addr) (i j : Int) (t u : Tok) (o : Obj) (n : Nat), v = .ref a ∧ h.get? a = some o ∧ o.cls = .type "tuple" ∧ o.data = .seq #[.int i t, .int j u] n
end
end L2

namespace L2
open PySem PySem.Spec PyProof.Rows
section
variable {X : Cx}
/-! ### sum(xs), xs.count(k) -/
theorem call_sum (hc : X.calm = true) : CallR X (.builtin "sum") (fun xs H Q => ∃ (a : Addr) (ns : List Int), xs = [.ref a] ∧ SqL X.K H a (ns.map V.int) ∧ Q (.int ns.sum) H) := by
  intro pins s σ H xs us Q I r h
  obtain ⟨a, ns, rfl, hS, q⟩ := h
  obtain ⟨u, rfl, ru⟩ := vals1 r
  cases ru
  obtain ⟨its, vi, pl, hz⟩ := I.list hS
  have hi := intsAre_of vi
  obtain ⟨xs, hx⟩ := hi.allInts.items
  have hl : s.heap.IsList a (intItems xs) := hx ▸ isL_of pl
  refine sum_intListG (I.ok.hd hc) hl fun h' tk t' hk => ?_
  have e1 : ns = xs.toList.map (·.1) := by
    rw [← nums_intItems, ← hx]
    exact hi.numsOf.symm
  have e2 : preSum (numAt xs) xs.size = ns.sum := by
    rw [e1, preSum_eq, List.take_of_length_le (by simp)]
  rw [e2]
  exact ⟨.int ns.sum, H, I.kept hk, ⟨_, rfl⟩, q⟩
/-! ### e as a row of its own, where e may raise -/
end
/-! ### for i, x in enumerate(xs) -/
def Ite (K : PySem.W.Frag) (a : Addr) : It :=
  ⟨fun i H => ∃ xs x, SqL K H a xs ∧ xs[i]? = some x, fun i H v H' => ∃ p x, v = .ref p ∧ H p = none ∧ H' = upd H p (.tup [.int (i : Nat), x]) ∧ ∀ xs, SqL K H a xs → xs[i]? = some x, fun i H => ∃ xs, SqL K H a xs ∧ xs.length ≤ i⟩
section
variable {X : Cx}
def iEnum (K : PySem.W.Frag) (ta : TA) : TI := fun σ H R => ta σ H fun vs H1 => ∃ a xs, vs = [.ref a] ∧ H1 a = some (.lst xs) ∧ R (Ite K a) H1
end
end L2

namespace L2
open PySem PySem.Spec PyProof.Rows
section
open PySem.SeqAt
open PySem.AutoSeq1 (wpAny_loadPart')
open PySem.MeetsSeq PySem.MeetsSeq2 PySem.MeetsSeq3
/-! ### xs < ys of lists of whole numbers -/
end
section
variable {X : Cx}
end
end L2

namespace L2
open PySem PySem.Spec PyProof.Rows
/-! ### [.. for k in range(n)], where of each item only something is known -/
end L2

namespace L2
open PySem PySem.Spec PyProof.Rows
section
variable {X : Cx} {pins : List (Addr × Obj)} {σ : St} {H : Hp} {s : Shared}
end
/-! ### for x, y in zip(xs, ys) -/
def Itz (K : PySem.W.Frag) (a b : Addr) : It :=
  ⟨fun i H => ∃ xs ys x y, SqL K H a xs ∧ SqL K H b ys ∧ xs[i]? = some x ∧ ys[i]? = some y, fun i H v H' => ∃ p x y, v = .ref p ∧ H p = none ∧ H' = upd H p (.tup [x, y]) ∧ (∀ xs, SqL K H a xs → xs[i]? = some x) ∧ ∀ ys, SqL K H b ys → ys[i]? = some y,
    fun i H => ∃ xs ys, SqL K H a xs ∧ SqL K H b ys ∧ (xs.length ≤ i ∨ ys.length ≤ i)⟩
section
variable {X : Cx}
def iZip (K : PySem.W.Frag) (ta : TA) : TI := fun σ H R => ta σ H fun vs H1 => ∃ a b xs ys, vs = [.ref a, .ref b] ∧ SqL K H1 a xs ∧ SqL K H1 b ys ∧ R (Itz K a b) H1
/-! ### max(xs), xs.index(k) -/
theorem mt_index : MtR X "list.index" (fun x xs H Q => ∃ (a : Addr) (k : Int) (ns : List Int) (j : Nat), x = .ref a ∧ xs = [.int k] ∧ SqL X.K H a (ns.map V.int) ∧ ns.length ≤ 1000 ∧ ns[j]? = some k ∧ (∀ m < j, ns[m]? ≠ some k) ∧ Q (.int (j : Nat)) H) := by
  intro pins s σ H x xs v us Q I rx rv h
  obtain ⟨a, k, ns, j, rfl, rfl, hS, hl, hj, hno, q⟩ := h
  cases rx
  obtain ⟨u, rfl, t, rfl⟩ := vals1 rv
  obtain ⟨its, vi, pl, hz⟩ := I.list hS
  have hi := intsAre_of vi
  obtain ⟨⟨cls, dd, data, sl⟩, ho, hc, n, hd⟩ := isL_of pl
  simp only at hc hd
  subst hc hd
  have len : its.length = ns.length := hi.length
  have at_ : ∀ m (hm : m < its.toArray.size), isInt k its.toArray[m] = decide (ns[m]? = some k) := fun m hm => by
    have hm' : m < ns.length := by rw [← len]; simpa using hm
    obtain ⟨t0, e0⟩ := PyProof.Rows.IntsAre.get hi m ns[m] (List.getElem?_eq_getElem hm')
    have e1 : its.toArray[m] = .int ns[m] t0 := by
      have hm2 : m < its.length := by simpa using hm
      have e2 : its[m]? = some its[m] := List.getElem?_eq_getElem hm2
      have e3 : its[m] = .int ns[m] t0 := by
        rw [e0] at e2
        exact (Option.some.inj e2).symm
      simpa using e3
    rw [e1, List.getElem?_eq_getElem hm']
    show (_ == _) = _
    by_cases c : ns[m] = k
    · rw [c]
      simp
    · have c2 : ¬ k = ns[m] := fun z => c z.symm
      simp [c, c2]
  have jl : j < its.toArray.size := by
    have := (List.getElem?_eq_some_iff.mp hj).1
    simp [len, this]
  refine call_meets PySem.F.slot_list_index ⟨_, ho, rfl⟩ PySem.F.entry_list_index (PySem.F.args_list_index_2 _ _) (PySem.SeqAt.list_indexAt a its.toArray n dd sl (.int k t) (isInt k) j jl ?_ ?_ ?_) ⟨ho, fun y hy => (eq_isInt k t hi y (by simpa using hy)).at _ _, ⟨.int (j : Nat), H, I.tok _, ⟨_, rfl⟩, q⟩⟩
  · have : ns.length ≤ 1000 := hl
    have := (List.getElem?_eq_some_iff.mp hj).1
    omega
  · rw [at_ j jl, hj]
    exact decide_eq_true rfl
  · intro m hm hmj
    rw [at_ m hm]
    exact decide_eq_false (hno m hmj)
end
/-! ### [.. for k in range(n) if p(k)], where of each item only something is known -/
end L2

namespace L2
open PySem PySem.Spec PyProof.Rows
/-! ### xs != [] -/
theorem op_neNil {X : Cx} (hu : X.A.units + 64 < cLine) : OpR X (compareOp .NotEq) (fun x y H Q => ∃ (a b : Addr) (xs : List V), x = .ref a ∧ y = .ref b ∧ SqL X.K H a xs ∧ SqL X.K H b [] ∧ Q (.bl (!xs.isEmpty)) H) := by
  intro pins s σ H x y v u Q I rx ry h
  obtain ⟨a, b, xs, rfl, rfl, hA, hB, q⟩ := h
  cases xs with
  | nil => exact op_neL hu pins s σ H _ _ v u Q I rx ry ⟨a, b, [], [], rfl, rfl, hA, hB, q⟩
  | cons x0 xr =>
    cases rx
    cases ry
    obtain ⟨ia, va, pa, _⟩ := I.list hA
    obtain ⟨ib, vb, pb, _⟩ := I.list hB
    have l1 := va.length
    have l2 := vb.length
    obtain ⟨⟨cls, dd, data, sl⟩, ho, hc, n, hd⟩ := isL_of pa
    obtain ⟨⟨cls2, dd2, data2, sl2⟩, ho2, hc2, n2, hd2⟩ := isL_of pb
    simp only at hc hd hc2 hd2
    subst hc hd hc2 hd2
    refine richCompare_meets_room (op := .NotEq) ⟨_, ho, rfl⟩ ⟨_, ho2, rfl⟩ PySem.F.slot_list_ne PySem.F.entry_list_ne (PySem.F.args_list_ne_2 _ _) (PySem.SeqAt.list_ne_lengthsAt a b ia.toArray ib.toArray n n2 dd dd2 sl sl2 ?_) ⟨ho, ho2, (fun z => nomatch z), .bl true, H, I, rfl, q⟩ (by omega)
    simp only [List.size_toArray, ← l1, ← l2, List.length_cons, List.length_nil]
    simp
end L2

namespace L2
open PySem PySem.Spec PyProof.Rows
/-! ### t > u of tuples of whole numbers -/
section
open PySem.SeqAt
open PySem.AutoSeq1 (wpAny_loadPart')
open PySem.MeetsSeq PySem.MeetsSeq2 PySem.MeetsSeq3
end
section
variable {X : Cx}
/-! ### ==, != of lists and of tuples of flat items -/
def eqVs : List V → List V → Bool
  | [], [] => true
  | x :: xs, y :: ys => eqV x y && eqVs xs ys
  | _, _ => false
theorem eqVs_all : ∀ (xs ys : List V), ((List.range (min xs.length ys.length)).all (fun j => eqV (xs.getD j .non) (ys.getD j .non)) && xs.length == ys.length) = eqVs xs ys
  | [], [] => rfl
  | [], _ :: _ => rfl
  | _ :: _, [] => rfl
  | x :: xs, y :: ys => by
    have e : min (x :: xs).length (y :: ys).length = min xs.length ys.length + 1 := by simp only [List.length_cons]; omega
    rw [e, List.range_succ_eq_map, List.all_cons, List.all_map]
    show _ = (eqV x y && eqVs xs ys)
    rw [← eqVs_all xs ys, Bool.and_assoc]
    have e2 : ((x :: xs).length == (y :: ys).length) = (xs.length == ys.length) := by simp
    rw [e2]
    rfl
theorem flat_at {xs : List V} {us : List Value} (r : Vals xs us) (f : xs.all flatV = true) {j : Nat} (h : j < us.toArray.size) : RelV (xs.getD j .non) us.toArray[j] ∧ flatV (xs.getD j .non) = true := by
  have hj : j < us.length := by simpa using h
  have hx : j < xs.length := by rw [r.length]; exact hj
  obtain ⟨u, e, ru⟩ := r.get (List.getElem?_eq_getElem hx)
  rw [List.getElem?_eq_getElem hj] at e
  have g : xs.getD j .non = xs[j] := by rw [List.getD_eq_getElem?_getD, List.getElem?_eq_getElem hx]; rfl
  rw [g]
  have eu : us[j] = u := Option.some.inj e
  refine ⟨?_, List.all_eq_true.mp f _ (List.getElem_mem hx)⟩
  show RelV xs[j] us.toArray[j]
  rw [List.getElem_toArray, eu]
  exact ru
def rEqF (K : PySem.W.Frag) (tup neg : Bool) : R2 := fun x y H Q => ∃ (a b : Addr) (xs ys : List V), x = .ref a ∧ y = .ref b ∧ (if tup then SqT K H a xs ∧ SqT K H b ys else SqL K H a xs ∧ SqL K H b ys) ∧ xs.all flatV = true ∧ ys.all flatV = true ∧ Q (.bl (if neg then !eqVs xs ys else eqVs xs ys)) H
theorem op_neFT (hu : X.A.units + 64 < cLine) : OpR X (compareOp .NotEq) (rEqF X.K true true) := by
  intro pins s σ H x y v u Q I rx ry h
  obtain ⟨a, b, xs, ys, rfl, rfl, ⟨ha, hb⟩, fx, fy, q⟩ := h
  cases rx
  cases ry
  obtain ⟨its, r1, p1, _⟩ := I.tuple ha
  obtain ⟨its2, r2, p2, _⟩ := I.tuple hb
  refine SeqAt.RcNeAt.tuples (e := fun j => eqV (xs.getD j .non) (ys.getD j .non)) p1 p2 (by omega) (fun j h1 h2 => eqAt_V (flat_at r1 fx h1).1 (flat_at r2 fy h2).1 (flat_at r1 fx h1).2 (flat_at r2 fy h2).2) _ _ _ _ ⟨.bl _, H, I, rfl, ?_⟩
  have z := eqVs_all xs ys
  rw [r1.length, r2.length] at z
  rw [List.size_toArray, List.size_toArray, z]
  exact q
theorem eqVs_len : ∀ {xs ys : List V}, xs.length ≠ ys.length → eqVs xs ys = false
  | [], [], h => absurd rfl h
  | [], _ :: _, _ => rfl
  | _ :: _, [], _ => rfl
  | x :: xs, y :: ys, h => by
    show (eqV x y && eqVs xs ys) = false
    rw [eqVs_len (xs := xs) (ys := ys) (fun z => h (by simp [z])), Bool.and_false]
theorem op_eqFL (hu : X.A.units + 64 < cLine) : OpR X (compareOp .Eq) (rEqF X.K false false) := by
  intro pins s σ H x y v u Q I rx ry h
  obtain ⟨a, b, xs, ys, rfl, rfl, ⟨ha, hb⟩, fx, fy, q⟩ := h
  cases rx
  cases ry
  obtain ⟨its, r1, p1, _⟩ := I.list ha
  obtain ⟨its2, r2, p2, _⟩ := I.list hb
  by_cases e : xs.length = ys.length
  · refine SeqAt.RcAt.lists (e := fun j => eqV (xs.getD j .non) (ys.getD j .non)) p1.isList p2.isList (by simp [← r1.length, ← r2.length, e]) (by omega) (fun j h1 h2 => eqAt_V (flat_at r1 fx h1).1 (flat_at r2 fy h2).1 (flat_at r1 fx h1).2 (flat_at r2 fy h2).2) _ _ _ _ ⟨.bl _, H, I, rfl, ?_⟩
    have z := eqVs_all xs ys
    rw [e, Nat.min_self, beq_self_eq_true, Bool.and_true, ← e, r1.length] at z
    rw [List.size_toArray, z]
    exact q
  · refine SeqAt.RcAt.lists_lengths p1.isList p2.isList (by simp [← r1.length, ← r2.length, e]) (by omega) _ _ _ _ ⟨.bl false, H, I, rfl, ?_⟩
    have q' : Q (.bl (eqVs xs ys)) H := q
    rw [eqVs_len e] at q'
    exact q'
theorem op_neFL (hu : X.A.units + 64 < cLine) : OpR X (compareOp .NotEq) (rEqF X.K false true) := by
  intro pins s σ H x y v u Q I rx ry h
  obtain ⟨a, b, xs, ys, rfl, rfl, ⟨ha, hb⟩, fx, fy, q⟩ := h
  cases rx
  cases ry
  obtain ⟨its, r1, p1, _⟩ := I.list ha
  obtain ⟨its2, r2, p2, _⟩ := I.list hb
  by_cases e : xs.length = ys.length
  · refine SeqAt.RcNeAt.lists (e := fun j => eqV (xs.getD j .non) (ys.getD j .non)) p1.isList p2.isList (by simp [← r1.length, ← r2.length, e]) (by omega) (fun j h1 h2 => eqAt_V (flat_at r1 fx h1).1 (flat_at r2 fy h2).1 (flat_at r1 fx h1).2 (flat_at r2 fy h2).2) _ _ _ _ ⟨.bl _, H, I, rfl, ?_⟩
    have z := eqVs_all xs ys
    rw [e, Nat.min_self, beq_self_eq_true, Bool.and_true, ← e, r1.length] at z
    rw [List.size_toArray, z]
    exact q
  · refine SeqAt.RcNeAt.lists_lengths p1.isList p2.isList (by simp [← r1.length, ← r2.length, e]) (by omega) _ _ _ _ ⟨.bl true, H, I, rfl, ?_⟩
    have q' : Q (.bl (!eqVs xs ys)) H := q
    rw [eqVs_len e] at q'
    exact q'
/-! ### list.index of flat items -/
end
/-! ### [.. for x in ..], where of each item only something is known -/
theorem Same.seqT {K : PySem.W.Frag} {H H' : Hp} {a : Addr} {xs : List V} (e : Same H H') (h : SqT K H a xs) : SqT K H' a xs := by
  rcases h with (h | ⟨o, h⟩) | h
  · exact .inl (.inl (e _ _ h))
  · exact .inl (.inr ⟨o, e _ _ h⟩)
  · exact .inr h
end L2

namespace L2
open PySem PySem.Spec PyProof.Rows
/-! ### isinstance(e, (C1, C2, ..)) of a caught exception -/
def rIsX (K : PySem.W.Frag) : List V → Hp → VK → Prop := fun xs H Q => ∃ a C c b, xs = [.ref a, c] ∧ isC c = true ∧ H a = some (excO a C) ∧ ExcF K C ∧ PySem.W.kitOne K (.ref C) (toC c) = some b ∧ Q (.bl b) H
def rIsXT (K : PySem.W.Frag) : List V → Hp → VK → Prop := fun xs H Q => ∃ a C p cs b, xs = [.ref a, .ref p] ∧ H p = some (.tup cs) ∧ cs.all isC = true ∧ H a = some (excO a C) ∧ ExcF K C ∧ PySem.W.kitAny K (.ref C) (cs.map toC) = some b ∧ Q (.bl b) H
/-! ### text.index(text), where it is found -/
end L2

namespace L2
open PySem PySem.Spec PyProof.Rows
/-! ### C() of a class without an __init__ of its own -/
structure Mk0 (K : PySem.W.Frag) (C : Addr) : Prop where
  makes : PySem.W.makesIn K C = true
  init : PySem.W.findIn K (.ref C) "__init__" = some (some (.builtin "object.__init__"))
  kp : PySem.W.keepIn K (.ref C) = true
def tMake0 (C : Addr) : TE := fun σ H Q => ∀ x dx, H x = none → H dx = none → dx ≠ x → Q (.ref x) (upd (upd H dx (.own x)) x (.ins C dx []))
section
variable {X : Cx} {CX : CXT} {k : Nat} {C : Addr} {E : XK} {x m : Str} {p pos apos : Pos} {e o : Expr} {es : List Expr} {ta : TE} {t : TA}
theorem run_make0 {pins : List (Addr × Obj)} {σ : St} {H : Hp} {s : Shared} {Q : VK} (M : Mk0 X.K C) (I : Inv X pins σ H s)
    (h : ∀ x dx, H x = none → H dx = none → dx ≠ x → Q (.ref x) (upd (upd H dx (.own x)) x (.ins C dx []))) :
    wpAny (model X.prog X.w) X.A (call (.ref C) []) (EP X pins σ Q) X.xe s := by
  have hq := h (s.heap.objs.size + 1) s.heap.objs.size (I.hok.fresh (Nat.le_succ _)) (I.hok.fresh (Nat.le_refl _)) (Nat.ne_of_lt (Nat.lt_succ_self _))
  have I2 := Inv.made (C := C) I
  have Y := PySem.W.makes_of (M := model X.prog X.w) I.kIn M.makes
  refine wpAny_call (make_map0 I.kIn M.makes M.init (fun self => PySem.W.Looks.of_pure (PySem.W.oi_bind self)) ?_)
  obtain ⟨hh, g, d, tk, os⟩ := s
  have hx : ((hh.push PySem.W.emptyDict).push (PySem.W.instObj C hh.objs.size)).get? (hh.objs.size + 1) = some (PySem.W.instObj C hh.objs.size) := by heap_get
  have t1 : PySem.W.Looks (model X.prog X.w) ((hh.push PySem.W.emptyDict).push (PySem.W.instObj C hh.objs.size)) (typeOf (.ref (hh.objs.size + 1))) (.ref C) := (PySem.W.Looks.ld hx).andThen .now
  have t2 : PySem.W.Looks (model X.prog X.w) ((hh.push PySem.W.emptyDict).push (PySem.W.instObj C hh.objs.size)) (isInstance (.ref (hh.objs.size + 1)) (.type "object")) true := t1.andThen (Y.top.keeps fun b o e => Heap.get?_push_of_some _ (Heap.get?_push_of_some _ e))
  refine codeAny_call_builtin PySem.W.oi_plain PySem.W.entry_oi (@PySem.W.check_slot (model X.prog X.w) _ _ _ "object.__init__" "object" "__init__" (.ref (hh.objs.size + 1)) [] [] _ PySem.W.oi_kind PySem.W.oi_split t2 (PySem.W.oi_args (.ref (hh.objs.size + 1))) ?_)
  rw [PySem.W.oi_run]
  exact wpAny_pure (And.intro rfl ⟨.ref (hh.objs.size + 1), _, I2, rfl, hq⟩)
theorem pe_makeO (M : Mk0 X.K C) (hg : Gl X x) (hm : X.mg x = some (.ref C)) (hdb : (x == ("__debug__" : Str)) = false := by decide) : PE X (.Call (.Name x p) [] [] pos) (tMake0 C) := by
  intro pins s σ H Q I h
  refine wpAny_Call_Name_kw (ld_glob I hg hm ?_ hdb)
  exact PySem.W.callWith_K0 I.kIn M.kp (run_make0 M I h)
/-! ### o.m(..) of an instance of one of several classes -/
structure MethF (P : Program) (w : World) (K : PySem.W.Frag) (mg : Str → Option Value) (base : Heap) (CX : CXT) (k : Nat) (ι : Type) (m : Str) (ps : List Str) (sp : ι → Sp) (cs : ι → Addr) (f : ι → Addr) (fd : ι → FuncData) : Prop where
  c : ∀ i, Cls K (cs i)
  hm : ∀ i, Meth K (cs i) m (f i)
  F : ∀ i, FnOk P w K mg base CX k (f i) (fd i) ps (sp i)
  hb : ∀ i, Binds K (fd i) ps []
def tMethF {ι : Type} (m : Str) (sp : ι → Sp) (cs : ι → Addr) (E : XK) (ta : TE) (t : TA) : TE := fun σ H Q => ta σ H fun x H1 => ∃ i a dx fs, x = .ref a ∧ H1 a = some (.ins (cs i) dx fs) ∧ fs.lookup m = none ∧ t σ H1 fun vs H2 => sp i (x :: vs) H2 Q E
theorem pe_methF {ι : Type} {ps : List Str} {sp : ι → Sp} {cs f : ι → Addr} {fd : ι → FuncData} {pl : Sem Bool} (he : PE X o ta) (M : MethF X.prog X.w X.K X.mg X.base CX k ι m ps sp cs f fd) (hr : Room k X.A) (hx : Passes CX X E) (ha : PA X (e :: es) t)
    (hst : starEach (e :: es) X.env = (false, eval e X.env) :: starEach es X.env := by rfl) (hpl : (backTo pos (starEach es X.env)).any (·.1) = false := by rfl)
    (ht : eval (.Call (.Attribute o m apos) (e :: es) [] pos) X.env = (do
      let ov ← eval o X.env
      standAt apos.atName
      let (f, first) ← holding [ov] (getMethod ov m pl)
      callWith pos f first (backTo pos (starEach (e :: es) X.env)) (backToKw pos (keywordEach [] X.env))) := by rfl) :
    PE X (.Call (.Attribute o m apos) (e :: es) [] pos) (tMethF m sp cs E ta t) := by
  intro pins s σ H Q I h
  refine PySem.W.methodCall_KW (pl := pl) (thn (he pins s σ H _ I h) fun u s1 ⟨x, H1, I1, rx, i, a, dx, fs, ex, ea, l, q⟩ => ?_) ht
  subst ex
  obtain rfl : u = Value.ref a := rx
  refine getmeth_ok I1 ea (M.c i) (M.hm i) l ?_
  refine PySem.W.callWith_K (first := [.ref a]) (h₀ := X.base) I.ok.mod.kin (M.hm i).kp (thn (ha pos pins s1 σ H1 _ I1 q) fun us s2 ⟨vs, H2, I2, r, q2⟩ => ⟨I2.kIn, ?_⟩) hst hpl
  exact run_fn (us := .ref a :: us) (vs := .ref a :: vs) (dvs := []) (M.F i) hr (M.hb i) .nil hx I2 (.cons rfl r) (by rw [List.append_nil]; exact q2)
theorem pe_methF0 {ι : Type} {ps : List Str} {sp : ι → Sp} {cs f : ι → Addr} {fd : ι → FuncData} {pl : Sem Bool} (he : PE X o ta) (M : MethF X.prog X.w X.K X.mg X.base CX k ι m ps sp cs f fd) (hr : Room k X.A) (hx : Passes CX X E)
    (ht : eval (.Call (.Attribute o m apos) [] [] pos) X.env = (do
      let ov ← eval o X.env
      standAt apos.atName
      let (f, first) ← holding [ov] (getMethod ov m pl)
      callWith pos f first (backTo pos (starEach [] X.env)) (backToKw pos (keywordEach [] X.env))) := by rfl) :
    PE X (.Call (.Attribute o m apos) [] [] pos) (tMethF m sp cs E ta tNil) := by
  intro pins s σ H Q I h
  refine PySem.W.methodCall_KW (pl := pl) (thn (he pins s σ H _ I h) fun u s1 ⟨x, H1, I1, rx, i, a, dx, fs, ex, ea, l, q⟩ => ?_) ht
  subst ex
  obtain rfl : u = Value.ref a := rx
  refine getmeth_ok I1 ea (M.c i) (M.hm i) l ?_
  exact PySem.W.callWith_K0 (first := [.ref a]) I1.kIn (M.hm i).kp (run_fn (us := [.ref a]) (vs := [.ref a]) (dvs := []) (M.F i) hr (M.hb i) .nil hx I1 (.cons rfl .nil) q)
end
/-! ### isinstance(x, C), C an own class -/
def rIsO (K : PySem.W.Frag) : List V → Hp → VK → Prop := fun xs H Q => ∃ x c t b, xs = [x, c] ∧ isC c = true ∧ TyOf K H x t ∧ PySem.W.kitOne K t (toC c) = some b ∧ Q (.bl b) H
end L2

namespace My
open PySem L2
/-! ### small helpers of the laws -/
theorem cut_if {c : Bool} {t u : TS} {D : Ends} {σ : St} {H : Hp} (Pv : St → Hp → Prop) (h1 : c = true → ∀ D' : Ends, D'.rt = D.rt → (∀ σ H, Pv σ H → D'.nx σ H) → t D' σ H)
    (h2 : c = false → ∀ D' : Ends, D'.rt = D.rt → (∀ σ H, Pv σ H → D'.nx σ H) → u D' σ H) (h3 : ∀ σ H, Pv σ H → D.nx σ H) : if c = true then t D σ H else u D σ H := by
  cases c with
  | true => exact iteT (h1 rfl D rfl h3)
  | false => exact iteF (h2 rfl D rfl h3)
theorem pickA {α : Type} (xs : List α) (m : Int) (hm : m = (xs.length : Int)) (h0 : 0 < xs.length) (z : Int) : ∃ v, v ∈ xs ∧ atI xs (z % m) = some v := by
  subst hm
  have a0 : 0 ≤ z % (xs.length : Int) := Int.emod_nonneg _ (by omega)
  have a1 : z % (xs.length : Int) < xs.length := Int.emod_lt_of_pos _ (by omega)
  obtain ⟨k, hk⟩ := Int.eq_ofNat_of_zero_le a0
  rw [hk] at a1 ⊢
  have hk' : k < xs.length := by omega
  exact ⟨xs[k], List.getElem_mem hk', atI_nat (List.getElem?_eq_getElem hk')⟩
theorem str_app_len (i j : Str) : (i ++ j).length = i.length + j.length := by
  show (i.cps ++ j.cps).size = _
  rw [Array.size_append]
  rfl
theorem app_le {i j : Str} {a b : Nat} (h1 : i.length ≤ a) (h2 : j.length ≤ b) : (i ++ j).length ≤ a + b := by rw [str_app_len]; omega
theorem fitsAB {i j : Str} {a b : Nat} (h1 : i.length ≤ a) (h2 : j.length ≤ b) (h : a + b ≤ 1000) : i.length + j.length ≤ sizeLine := by rw [sizeLine_eq]; omega
theorem fits3 (n : Nat) (h : n ≤ 1000) : n ≤ sizeLine := by rw [sizeLine_eq]; omega
theorem all_nil {α : Type} {p : α → Prop} : ∀ x ∈ ([] : List α), p x := fun _ h => nomatch h
theorem all_cons {α : Type} {p : α → Prop} {a : α} {l : List α} (h : p a) (r : ∀ x ∈ l, p x) : ∀ x ∈ a :: l, p x := fun x hx => by
  rcases List.mem_cons.mp hx with e | e
  · rw [e]; exact h
  · exact r x e
theorem item_at {ns : List Int} {k : Int} (h : 0 < ns.length) : ∃ v : Int, atI (ns.map V.int) (k % (((ns.map V.int).length : Nat) : Int)) = some (.int v) := by
  obtain ⟨v, hv, e⟩ := pickA (ns.map V.int) _ rfl (by rw [List.length_map]; exact h) k
  obtain ⟨n, _, rfl⟩ := List.mem_map.mp hv
  exact ⟨n, e⟩
section
variable {P : Program} {w : World} {K : PySem.W.Frag} {mg : Str → Option Value} {base : Heap}
structure Lib (P : Program) (w : World) (K : PySem.W.Frag) (mg : Str → Option Value) (base : Heap) (k : Nat) (x : Str) (ps : List Str) (sp : Sp) (f : Addr) (fd : FuncData) : Prop where
  ok : FnOk P w K mg base CX0 k f fd ps sp
  bd : Binds K fd ps []
  kp : PySem.W.keepIn K (.ref f) = true
  mg : mg x = some (.ref f)
structure LibX (P : Program) (w : World) (K : PySem.W.Frag) (mg : Str → Option Value) (base : Heap) (k : Nat) (x : Str) (ps : List Str) (sp : Sp) (f : Addr) (fd : FuncData) : Prop where
  ok : FnOk P w K mg base (CX1 P w) k f fd ps sp
  bd : Binds K fd ps []
  kp : PySem.W.keepIn K (.ref f) = true
  mg : mg x = some (.ref f)
end
end My

namespace My
open PySem L2
/-! ### four classes, four words -/
def p4 {α : Type} (a b c d : α) : Fin 4 → α := fun i => match i with | 0 => a | 1 => b | 2 => c | 3 => d
def wd : Fin 4 → Str := p4 "free" "follow" "cut" "beat"
def wds : List Str := ["free", "follow", "cut", "beat"]
theorem wd_at (i : Fin 4) : wds[i.val]? = some (wd i) := match i with | 0 => rfl | 1 => rfl | 2 => rfl | 3 => rfl
theorem wd_mem {t : Str} (h : t ∈ wds) : ∃ i, t = wd i := by
  rcases List.mem_cons.mp h with h | h
  · exact ⟨0, h⟩
  rcases List.mem_cons.mp h with h | h
  · exact ⟨1, h⟩
  rcases List.mem_cons.mp h with h | h
  · exact ⟨2, h⟩
  rcases List.mem_cons.mp h with h | h
  · exact ⟨3, h⟩
  · exact nomatch h
theorem mem_wd (i : Fin 4) : wd i ∈ wds := List.mem_of_getElem? (wd_at i)
theorem wd_inj : ∀ i j : Fin 4, wd i = wd j → i = j := by decide +kernel
theorem wd_len : ∀ i : Fin 4, 3 ≤ (wd i).length ∧ (wd i).length ≤ 6 := by decide +kernel
section
variable {P : Program} {w : World} {K : PySem.W.Frag} {mg : Str → Option Value} {base : Heap} {f g : Addr} {fd gd : FuncData}
/-- what an instance's class must have for isinstance -/
structure ClsI (K : PySem.W.Frag) (C : Addr) : Prop where
  cl : Cls K C
  ha : PySem.W.findIn K (.ref C) "__class__" = some (some (.builtin "object.__class__"))
  hn : PySem.W.specialIn K (.builtin "object.__class__") "__get__" = some (some (.builtin "getset_descriptor.__get__"))
  htk : PySem.W.takesIn K (.builtin "object.__class__") = some true
  hm : PySem.W.mroIn K C (.type "object") = some true
def spWord (i : Fin 4) : Sp := fun vs H Q _ => ∃ a, vs = [.ref a] ∧ Q (.str (wd i)) H
abbrev WordF (P : Program) (w : World) (K : PySem.W.Frag) (mg : Str → Option Value) (base : Heap) (k : Nat) (cs f : Fin 4 → Addr) (fd : Fin 4 → FuncData) : Prop := MethF P w K mg base CX0 k (Fin 4) "word" ["self"] spWord cs f fd
/-- duty_of: the duty of a word, or refused -/
def spDuty (cs : Fin 4 → Addr) (CN : Addr) : Sp := fun vs H Q E => ∃ t : Str, vs = [.str t] ∧ (∀ i, t = wd i → ∀ x dx H', Same H H' → H x = none → H' x = some (.ins (cs i) dx []) → Q (.ref x) H') ∧ (t ∉ wds → ∀ H', Same H H' → E (.ref CN) none H')
structure DutyC (K : PySem.W.Frag) (mg : Str → Option Value) (cs : Fin 4 → Addr) (CN : Addr) : Prop where
  mF : mg "Free" = some (.ref (cs 0))
  mL : mg "Follow" = some (.ref (cs 1))
  mC : mg "Cut" = some (.ref (cs 2))
  mB : mg "Beat" = some (.ref (cs 3))
  mak : ∀ i, Mk0 K (cs i)
  mN : mg "NoTable" = some (.ref CN)
  hN : PySem.W.excIn K CN veTail "ValueError.__new__" = true
theorem same_make {H : Hp} {x dx : Addr} {o : HO} (hx : H x = none) (hd : H dx = none) (n : dx ≠ x) : Same H (upd (upd H dx (.own x)) x o) := fun b u q => by
  rw [upd_ne (ne_of_none q hx), upd_ne (ne_of_none q hd)]
  exact q
theorem ok_word {st : Stmt} {qual wx : Str} {k : Nat} {sp : Sp} (F : Fun K "word" qual st f fd) (sc : FnScope ["self"] ["self"] (defScope st)) {p1 p2 : Pos} {j : Nat} (hb : defBody st = [.Return (some (.Constant (.str wx) j p1)) p2]) (hs : ∀ vs H Q E, sp vs H Q E → ∃ a, vs = [V.ref a] ∧ Q (.str wx) H) : FnOk P w K mg base CX0 (k + 1) f fd ["self"] sp := by
  refine F.ok sc (fun vs H Q E h => ?_) (fun cdv A outer s H vs Q E hr h => ?_)
  · obtain ⟨a, rfl, _⟩ := hs vs H Q E h
    rfl
  obtain ⟨a, rfl, q⟩ := hs vs H Q E h
  rw [hb]
  exact ⟨_, pss_one (ps_ret pe_str), q⟩
end
end My

namespace My
open PySem L2
/-! ### a card's text -/
def cardL : List Nat → Option Nat
  | [l, f] => if 97 ≤ l ∧ l ≤ 100 ∧ 49 ≤ f ∧ f ≤ 56 then some (8 * (l - 97) + (f - 49)) else none
  | _ => none
def cardOf (t : Str) : Option Nat := cardL t.cps.toList
def cardT (c : Nat) : Str := ⟨#[97 + c / 8, 49 + c % 8]⟩
abbrev sLet : Str := "abcd"
abbrev sFig : Str := "12345678"
theorem fig_mem (c : Nat) : c ∈ sFig.cps.toList ↔ 49 ≤ c ∧ c ≤ 56 := by
  have e : sFig.cps.toList = [49, 50, 51, 52, 53, 54, 55, 56] := by decide +kernel
  rw [e]
  simp only [List.mem_cons, List.not_mem_nil, or_false]
  omega
theorem find_fig (c : Nat) : Txt.find sFig ⟨#[c]⟩ = if 49 ≤ c ∧ c ≤ 56 then ((c - 49 : Nat) : Int) else -1 := by
  by_cases h : 49 ≤ c ∧ c ≤ 56
  · rw [if_pos h]
    have h4 : c = 49 ∨ c = 50 ∨ c = 51 ∨ c = 52 ∨ c = 53 ∨ c = 54 ∨ c = 55 ∨ c = 56 := by omega
    rcases h4 with rfl | rfl | rfl | rfl | rfl | rfl | rfl | rfl <;> decide +kernel
  · rw [if_neg h]
    have e := PyProof.Rows.empty_one sFig c
    rw [decide_eq_false (fun z => h ((fig_mem c).mp z))] at e
    unfold Txt.find
    cases q : Builtin.Str.occurrences sFig ⟨#[c]⟩ 0 sFig.length 1 with
    | nil => rfl
    | cons a b => rw [q] at e; cases e
end My

namespace L2
open PySem PySem.Spec PyProof.Rows
section
variable {prog : Program} {w : World} {A : Around} {E : Value → Shared → Prop} {s : Shared}
theorem IsList.ext {h h' : Heap} {l : Addr} {items : Array Value} (x : h.IsList l items) (e : ∀ o, h.get? l = some o → h'.get? l = some o) : h'.IsList l items := let ⟨o, ho, r⟩ := x; ⟨o, e _ ho, r⟩
/-! ### a, b, .. = a list -/
theorem draw_list {it t : Addr} {items : Array Value} (hne : t ≠ it) : ∀ (n i : Nat) (s : Shared) (Q : List Value → Shared → Prop), s.heap.IsListIter it t i → s.heap.IsList t items → i + n ≤ items.size →
    (∀ h', h'.IsListIter it t (i + n) → Heap.SameBut it s.heap h' → Q ((items.toList.drop i).take n) { s with heap := h' }) → wpAny (model prog w) A (draw (.ref it) n) Q E s
  | 0, i, s, Q, hit, _, _, hQ => by
    show wpAny _ _ (pure []) Q E s
    exact wpAny_pure (by simpa using hQ s.heap hit (Heap.SameBut.refl ..))
  | n + 1, i, s, Q, hit, ht, hle, hQ => by
    have hlt : i < items.size := by omega
    show wpAny _ _ (pyNext (.ref it) >>= _) Q E s
    refine wpAny_bind (wpAny_pyNext_list_item hit ht (x := items[i]) (by simp [hlt]) fun h₁ hit₁ hs₁ => ?_)
    refine wpAny_bind (wpAny_holding (draw_list hne n (i + 1) _ _ hit₁ (IsList.ext ht fun o e => hs₁.extBut t o hne e) (by omega) fun h₂ hit₂ hs₂ => wpAny_pure ?_))
    have hd : items.toList.drop i = items[i] :: items.toList.drop (i + 1) := by simp [List.drop_eq_getElem_cons, hlt]
    have := hQ h₂ (by rw [show i + (n + 1) = i + 1 + n by omega]; exact hit₂) (hs₁.trans hs₂)
    rw [hd, List.take_succ_cons] at this
    exact this
theorem unpackItems_list {t : Addr} {items : Array Value} {Q : List Value → Shared → Prop} (hh : A.handled = none) (ht : s.heap.IsList t items)
    (hQ : ∀ h', Heap.ExtBut s.heap.objs.size s.heap h' → Q items.toList { s with heap := h' }) : wpAny (model prog w) A (unpackItems (.ref t) items.size none) Q E s := by
  have hlt : t ≠ s.heap.objs.size := by obtain ⟨o, ho, _⟩ := ht; exact Nat.ne_of_lt (Heap.lt_size ho)
  unfold unpackItems
  refine wpAny_bind ?_
  · unfold notIterableAtAll
    refine wpAny_bind (wpAny_specialOf ht.typeIs slot_list_iter.lookup ?_)
    refine wpAny_pure ?_
    simp only [Bool.false_eq_true, if_false]
    refine wpAny_bind (wpAny_holding (wpAny_pyIter_list ht ?_))
    refine wpAny_bind (wpAny_holding (draw_list hlt items.size 0 _ _ ⟨_, Heap.get?_push_size _ rfl, rfl, rfl⟩ (IsList.ext ht fun o e => Heap.get?_push_of_some _ e) (by omega) fun h₁ hit₁ hs₁ => ?_))
    have hall : List.take items.size (List.drop 0 items.toList) = items.toList := by
      rw [List.drop_zero]; exact List.take_of_length_le (by simp)
    rw [hall]
    rw [if_neg (by simp)]
    have ht₁ : h₁.IsList t items := IsList.ext ht fun o e => hs₁.extBut t o hlt (Heap.get?_push_of_some _ e)
    refine wpAny_bind (wpAny_holding (wpAny_pyNext_list_end hh hit₁ ht₁ (by simp) fun h₂ he₂ => ?_))
    simp only [Option.isSome_none, Bool.false_eq_true, if_false]
    refine wpAny_pure (hQ h₂ fun b o hb e => he₂ b o hb (hs₁.extBut b o hb (Heap.get?_push_of_some _ e)))
theorem assign_Tuple_list {env : Env} {elts : List Expr} {x1} {pos : Pos} {t : Addr} {items : Array Value} {Q : Unit → Shared → Prop} (hh : A.handled = none) (ht : s.heap.IsList t items)
    (hn : (assignEach elts env).length = items.size) (hstar : (assignEach elts env).findIdx? (·.1) = none)
    (h : ∀ h', Heap.ExtBut s.heap.objs.size s.heap h' → wpAny (model prog w) A (assignInOrder ((assignEach elts env).map (·.2)) items.toList) Q E { s with heap := h' }) :
    wpAny (model prog w) A (assign (.Tuple elts x1 pos) env (.ref t)) Q E s := by
  rw [assign_Tuple]
  refine wpAny_bind (wpAny_standAt ?_)
  unfold unpack
  rw [hn, hstar]
  exact wpAny_bind (wpAny_holding (unpackItems_list hh ht h))
end
section
variable {X : Cx} {e st : Expr} {te : TE} {lo : Option Expr} {tl ts : TO} {pos p2 : Pos}
def gLst (K : PySem.W.Frag) (n : Nat) (t : TGs) : TG := fun v σ H Q => ∃ a xs, v = .ref a ∧ SqL K H a xs ∧ xs.length = n ∧ t xs σ H Q
theorem pg_lst {es : List Expr} {k : Nat} {t : TGs} {n : Nat} (hc : X.calm = true) (h : PGs X es t)
    (hn : (assignEach es X.env).length = n := by rfl) (hst : (assignEach es X.env).findIdx? (·.1) = none := by rfl) : PG X (.Tuple es k pos) (gLst X.K n t) := by
  intro pins s σ H v u Q I r hw
  obtain ⟨a, xs, e1, hq, hl, hw⟩ := hw
  subst e1
  cases r
  obtain ⟨its, rv, ht, hz⟩ := I.list hq
  refine assign_Tuple_list (I.ok.hd hc) ht.isList (by simp [hn, ← hl, rv.length]) hst fun h' hx => ?_
  have I1 : Inv X pins σ H { s with heap := h' } := I.kept (t' := s.toks) fun b o e => hx b o (Nat.ne_of_lt (Heap.lt_size e)) e
  exact h pins _ σ H xs _ Q I1 (by simpa using rv) hw
/-! ### xs[lo::2] of a list of ten items -/
def tStep (K : PySem.W.Frag) (te : TE) (tl ts : TO) : TE := fun σ H Q => te σ H fun x H1 => tl σ H1 fun o H2 => ts σ H2 fun o2 H3 => o2 = some 2 ∧ ∃ a x0 x1 x2 x3 x4 x5 x6 x7 x8 x9, x = .ref a ∧ SqL K H3 a [x0, x1, x2, x3, x4, x5, x6, x7, x8, x9] ∧
  ((o = some 0 ∧ ∀ p, H3 p = none → Q (.ref p) (upd H3 p (.lst [x0, x2, x4, x6, x8]))) ∨ (o = some 1 ∧ ∀ p, H3 p = none → Q (.ref p) (upd H3 p (.lst [x1, x3, x5, x7, x9]))))
theorem pick_of {ys zs : List Value} {n : Nat} {lo hi st : Option Int} {ix : List Nat} (hn : ys.length = n) (h : sliceRange (sliceBounds lo hi st n).1 (sliceBounds lo hi st n).2.1 (sliceBounds lo hi st n).2.2 = ix) (hz : ix.filterMap (ys[·]?) = zs) : slicePick ys.toArray lo hi st = zs.toArray := by
  unfold slicePick
  rw [List.size_toArray, hn, h, ← hz]
  congr 2
  funext i
  simp
theorem ten {xs : List Value} (h : xs.length = 10) : ∃ a b c d e f g i j k, xs = [a, b, c, d, e, f, g, i, j, k] := match xs, h with | [a, b, c, d, e, f, g, i, j, k], _ => ⟨a, b, c, d, e, f, g, i, j, k, rfl⟩
theorem pe_step (he : PE X e te) (hl : PO X lo tl) (hst : PO X (some st) ts) : PE X (.Subscript e (.Slice lo none (some st) p2) pos) (tStep X.K te tl ts) := by
  intro pins s σ H Q I h
  refine Subscript_ (thn (he pins s σ H _ I h) fun v s1 ⟨x, H1, I1, r1, q1⟩ => ?_)
  refine wpAny_Slice (thn (hl pins s1 σ H1 _ I1 q1) fun vl s2 ⟨l, H2, I2, pl, q2⟩ => ?_)
  rw [evalPart_none]
  refine wpAny_pure (thn (hst pins s2 σ H2 _ I2 q2) fun vs s3 ⟨o, H3, I3, po, q3⟩ => ?_)
  obtain ⟨rfl, a, x0, x1, x2, x3, x4, x5, x6, x7, x8, x9, rfl, hx, q⟩ := q3
  cases r1
  have I4 : Inv X pins σ H3 { s3 with heap := s3.heap.push { cls := .type "slice", data := .fields #[vl, .none, vs] } } := I3.kept (t' := s3.toks) fun b ob q => Heap.get?_push_of_some _ q
  obtain ⟨its, r, ht, hz⟩ := I4.list hx
  have hlen := r.length
  obtain ⟨y0, y1, y2, y3, y4, y5, y6, y7, y8, y9, rfl⟩ := ten hlen.symm
  cases r with | cons r0 r => cases r with | cons r1 r => cases r with | cons r2 r => cases r with | cons r3 r => cases r with | cons r4 r => cases r with | cons r5 r => cases r with | cons r6 r => cases r with | cons r7 r => cases r with | cons r8 r => cases r with | cons r9 r =>
  show wpAny (model X.prog X.w) X.A (subscriptTail e (.Slice lo none (some st) p2) (.ref a) (.ref s3.heap.objs.size)) (EP X pins σ Q) X.xe { s3 with heap := s3.heap.push { cls := .type "slice", data := .fields #[vl, .none, vs] } }
  refine PyProof.Rows.tail_any (ops := [.ref a, .ref s3.heap.objs.size]) ht.isList.typeIs slot_list_getitem.lookup ?_ (by with_unfolding_all rfl)
  refine wpAny_getItem_list_slice ht.isList (Heap.IsSliceOf.new ..) pl .none po (by decide) ?_ (by rw [List.size_toArray] <;> exact Nat.le_of_lt (small1000 (show 10 ≤ 1000 by decide)))
  rcases q with ⟨rfl, q⟩ | ⟨rfl, q⟩
  · have ep : slicePick [y0, y1, y2, y3, y4, y5, y6, y7, y8, y9].toArray (some 0) none (some 2) = [y0, y2, y4, y6, y8].toArray := pick_of (n := 10) (ix := [0, 2, 4, 6, 8]) rfl (by decide +kernel) rfl
    rw [ep]
    exact ⟨.ref _, _, I4.lnew (t' := s3.toks) (ys := [x0, x2, x4, x6, x8]) (its := [y0, y2, y4, y6, y8]) (.cons r0 (.cons r2 (.cons r4 (.cons r6 (.cons r8 .nil))))) (Nat.le_of_lt (small1000 (show 5 ≤ 1000 by decide))), rfl, q _ I4.fresh⟩
  · have ep : slicePick [y0, y1, y2, y3, y4, y5, y6, y7, y8, y9].toArray (some 1) none (some 2) = [y1, y3, y5, y7, y9].toArray := pick_of (n := 10) (ix := [1, 3, 5, 7, 9]) rfl (by decide +kernel) rfl
    rw [ep]
    exact ⟨.ref _, _, I4.lnew (t' := s3.toks) (ys := [x1, x3, x5, x7, x9]) (its := [y1, y3, y5, y7, y9]) (.cons r1 (.cons r3 (.cons r5 (.cons r7 (.cons r9 .nil))))) (Nat.le_of_lt (small1000 (show 5 ≤ 1000 by decide))), rfl, q _ I4.fresh⟩
/-! ### int(text), list(text), sorted(text) -/
theorem call_int_str : CallR X (.type "int") (fun xs H Q => ∃ x n, xs = [.str x] ∧ PySem.intText? x = some n ∧ x.length ≤ 640 ∧ Q (.int n) H) := by
  intro pins s σ H xs us Q I r h
  obtain ⟨x, n, rfl, hn, hl, q⟩ := h
  obtain ⟨u, rfl, t, rfl⟩ := vals1 r
  exact PySem.W.KIN.call_text hn hl ⟨.int n, H, I.tok _, ⟨_, rfl⟩, q⟩
def chars (t : Str) : List Str := t.cps.toList.map fun c => ⟨#[c]⟩
theorem chars_len (t : Str) : (chars t).length = t.length := by unfold chars; rw [List.length_map]; rfl
theorem vals_chars {t : Str} {acc : Array Value} (h : ItemsOf (SignAt t) acc t.cps.size) : Vals (vS (chars t)) acc.toList := by
  obtain ⟨hs, hi⟩ := h
  have key : ∀ (cs : List Nat) (us : List Value), us.length = cs.length → (∀ (j : Nat) v, us[j]? = some v → ∃ c u, cs[j]? = some c ∧ v = .str ⟨#[c]⟩ u) → Vals ((cs.map fun c => (⟨#[c]⟩ : Str)).map V.str) us := by
    intro cs
    induction cs with
    | nil =>
      intro us hl _
      have e : us = [] := List.eq_nil_of_length_eq_zero hl
      subst e
      exact .nil
    | cons c cs ih =>
      intro us hl hu
      cases us with
      | nil => cases hl
      | cons u us =>
        obtain ⟨c', t', hc, hv⟩ := hu 0 u rfl
        have e : c = c' := Option.some.inj hc
        subst e
        exact .cons ⟨_, hv⟩ (ih us (Nat.succ.inj hl) fun j v hj => hu (j + 1) v hj)
  refine key t.cps.toList acc.toList (by simpa using hs) fun j v hj => ?_
  obtain ⟨c, u, h1, h2⟩ := hi j v (by simpa using hj)
  exact ⟨c, u, by simpa using h1, h2⟩
theorem call_list_strL (hc : X.calm = true) : CallR X (.type "list") (fun xs H Q => ∃ t, xs = [.str t] ∧ t.length ≤ 1000 ∧ ∀ l, H l = none → Q (.ref l) (upd H l (.lst (vS (chars t))))) := by
  intro pins s σ H xs us Q I r h
  obtain ⟨x, rfl, hl, q⟩ := h
  obtain ⟨u, rfl, t, rfl⟩ := vals1 r
  have hz : x.length ≤ sizeLine := Nat.le_of_lt (small1000 hl)
  refine call_list_str (I.ok.hd hc) x t (fun h' tk acc' c' kp e hi => ?_) hz
  have hv := vals_chars hi
  exact ⟨.ref s.heap.objs.size, _, I.laid (t' := tk) kp (Nat.le_refl _) (show ObjOk X.prog X.w _ h' _ (.lst (vS (chars x))) from ⟨by rw [vS_len, chars_len]; exact hz, acc'.toList, c', hv, by simpa using e⟩), rfl, q _ (I.hok.fresh (Nat.le_refl _))⟩
theorem vals_strs : ∀ {us : List Value} {ss : List Str}, StrsAre us ss → Vals (vS ss) us
  | _, _, .nil => .nil
  | _, _, .cons x t h => .cons ⟨t, rfl⟩ (vals_strs h)
theorem call_sorted_str (hc : X.calm = true) : CallR X (.builtin "sorted") (fun xs H Q => ∃ t, xs = [.str t] ∧ t.length < 64 ∧ ∀ l ss, H l = none → ss.Perm (chars t) → sortedS ss = true → Q (.ref l) (upd H l (.lst (vS ss)))) := by
  intro pins s σ H xs us Q I r h
  obtain ⟨x, rfl, hl, q⟩ := h
  obtain ⟨u, rfl, t, rfl⟩ := vals1 r
  have hz : x.length ≤ sizeLine := Nat.le_of_lt (small1000 (by omega))
  refine Calls.call_function_entry kind_sorted plain_sorted entry_sorted (args_sorted1 _) ?_
  unfold Builtin.«sorted»
  refine wpAny_bind (m := checkCount "sorted" 1 1 _) (wpAny_pure ?_)
  refine wpAny_bind (wpAny_collect_str (A := X.A.in1) (show X.A.in1.handled = none from I.ok.hd hc) x t (fun s1 acc kp hg hd ho hi => ?_) hz)
  have hv := vals_chars hi
  have hS : StrsAre acc.toList (chars x) := strsAre_of hv
  have hlen : acc.toList.length < 64 := by rw [← hv.length, vS_len, chars_len]; exact hl
  obtain ⟨hp1, g1, d1, t1, o1⟩ := s1
  simp only at hg hd ho kp
  subst hg hd ho
  have I1 : Inv X pins σ H { s with heap := hp1, toks := t1 } := I.kept (t' := t1) kp
  refine wpAny_bind (wpAny_newList ?_)
  have hoL : (hp1.push (seqObj "list" acc.toList.toArray 0)).get? hp1.objs.size = some (seqObj "list" acc.toList.toArray 0) := Heap.get?_push_size _ rfl
  refine wpAny_bind (wpAny_holding (wpAny_call_entry slot_list_sort ⟨_, hoL, rfl⟩ entry_list_sort (list_sort_treeK (κ := strKind) strKind_oneLt hoL hS.keysOf (fun v₁ v₂ rest e => keyKind_strs (by rw [← e]; exact hS)) hlen fun st' hp hs => ⟨_, rfl, wpAny_pure ⟨_, rfl, ?_⟩⟩) (args_list_sort _)))
  obtain ⟨ss', h1, h2, h3⟩ := sorted_out_str hS hp hs
  obtain ⟨ep, he⟩ := sortedHeap_at (out := (arrOf st').map (·.2)) hoL
  have hl2 : ss'.length = x.length := by rw [h2.length_eq, chars_len]
  refine ⟨.ref hp1.objs.size, _, I1.laid (t' := t1) (a := hp1.objs.size) (o := .lst (vS ss')) (h' := sortedHeap (hp1.push (seqObj "list" acc.toList.toArray 0)) hp1.objs.size acc.toList ((arrOf st').map (·.2))) (fun b u e => ?_) (Nat.le_refl _) ?_, rfl, q _ ss' (I1.hok.fresh (Nat.le_refl _)) h2 h3⟩
  · have hb := Heap.lt_size e
    rw [sortedHeap_old (Nat.ne_of_lt hb) (by rw [size_push']; exact Nat.lt_succ_of_lt hb)]
    exact Heap.get?_push_of_some _ e
  · refine ⟨by rw [vS_len, hl2]; exact hz, ((arrOf st').map (·.2)).toList, ep, vals_strs h1, ?_⟩
    rw [Array.toArray_toList]
    exact he
end
/-! ### text.find(..) within a comprehension's block -/
def rFind : V → List V → Hp → VK → Prop := fun x xs H Q => ∃ i j, x = .str i ∧ xs = [.str j] ∧ Q (.int (Txt.find i j)) H
theorem pe_findK {X : Cx} {K : PySem.W.Frag} {o e : Expr} {to : TE} {t : TA} {apos cpos : Pos} (hK : X.K = K) (ho : PE X o to) (ha : PA X [e] t)
    (hbase : attributeBase o "find" X.env (eval o X.env) = eval o X.env := by rfl)
    (hfew : ((backTo cpos (starEach [e] X.env)).all (fun x => !x.1) && (backToKw cpos (keywordEach [] X.env)).all (fun x => x.1.isSome) && decide ([e].length + ([] : List Keyword).length + (if ([] : List Keyword).isEmpty then 0 else 1) < 30)) = true := by rfl)
    (hline : (apos.endLine == cpos.line) = true := by rfl) (hs : starEach [e] X.env = [(false, eval e X.env)] := by rfl) : PE X (.Call (.Attribute o "find" apos) [e] [] cpos) (tBM K "str" rFind to t) := by
  subst hK
  exact pe_bm PySem.F.plainAttrs_str PySem.F.slot_str_find PySem.F.type_str_find mt_find ho ha hbase hfew hline hs rfl
/-! ### a def with a default -/
structure FunD (K : PySem.W.Frag) (x qual : Str) (st : Stmt) (f : Addr) (fd : FuncData) : Prop where
  ex : ∃ (oc : Value) (od : Option Addr) (dV kV doc pm : Value) (an : Option Addr) (cdv ct : Value) (osl : Array (Option Value)),
    fd = PySem.W.fnOf x qual (defArgs st) (defBody st) (defScope st) dV kV doc pm an cdv ct ∧ K.lookup f = some ⟨oc, od, .func fd, osl⟩ ∧ PySem.W.codeIn K cdv qual = true
  kp : PySem.W.keepIn K (.ref f) = true
theorem FunD.ok {P : Program} {w : World} {K : PySem.W.Frag} {mg : Str → Option Value} {base : Heap} {x qual : Str} {st : Stmt} {f : Addr} {fd : FuncData} {N ps : List Str} {k : Nat} {sp : Sp} (F : FunD K x qual st f fd) (S : FnScope N ps (defScope st)) (len : ∀ vs H Q E, sp vs H Q E → vs.length = ps.length)
    (hbody : ∀ (cdv : Value) (A : Around) (outer : List Env) (s : Shared) (H : Hp) (vs : List V) (Q : VK) (E : XK), Room k (A.deeper (envOfC qual (defScope st) s.heap.objs.size f cdv)) → sp vs H Q E →
      ∃ t, PSs (cxOf CX0 P w K mg base N qual (defScope st) f cdv A outer s H E).nox (defBody st) t ∧ t { nx := fun _ H' => Q .non H', rt := Q } (start N vs) H) : FnOk P w K mg base CX0 (k + 1) f fd ps sp := by
  obtain ⟨oc, od, dV, kV, doc, pm, an, cdv, ct, osl, rfl, lk, hcd⟩ := F.ex
  refine fn_of lk hcd S len fun A outer s H vs Q E hr hsp => ?_
  obtain ⟨t, h, q⟩ := hbody cdv A outer s H vs Q E hr hsp
  exact ⟨t, h.nox, q⟩
theorem funD_mk {K : PySem.W.Frag} {x qual : Str} {st : Stmt} {f : Addr} {oc : Value} {od an : Option Addr} {osl : Array (Option Value)} {dV kV doc pm cdv ct : Value} (l : K.lookup f = some ⟨oc, od, .func (PySem.W.fnOf x qual (defArgs st) (defBody st) (defScope st) dV kV doc pm an cdv ct), osl⟩)
    (c : PySem.W.codeIn K cdv qual = true) (k : PySem.W.keepIn K (.ref f) = true) : FunD K x qual st f (PySem.W.fnOf x qual (defArgs st) (defBody st) (defScope st) dV kV doc pm an cdv ct) := ⟨⟨oc, od, dV, kV, doc, pm, an, cdv, ct, osl, rfl, l, c⟩, k⟩
end L2

namespace My
open PySem L2 PySem.Spec PyProof.Rows
def joinL : List (List Nat) → List Nat
  | [] => []
  | [x] => x
  | x :: y :: r => x ++ 32 :: joinL (y :: r)
theorem cut_eq : ∀ (x y a b : List Nat), 32 ∉ x → 32 ∉ y → x ++ 32 :: a = y ++ 32 :: b → x = y ∧ a = b
  | [], [], a, b, _, _, h => by
    injection h with _ h
    exact ⟨rfl, h⟩
  | [], c :: y, a, b, _, hy, h => by
    injection h with h _
    exact absurd (h ▸ List.mem_cons_self) hy
  | c :: x, [], a, b, hx, _, h => by
    injection h with h _
    exact absurd (h ▸ List.mem_cons_self) hx
  | c :: x, d :: y, a, b, hx, hy, h => by
    injection h with h1 h2
    obtain ⟨e1, e2⟩ := cut_eq x y a b (fun z => hx (List.mem_cons_of_mem _ z)) (fun z => hy (List.mem_cons_of_mem _ z)) h2
    exact ⟨by rw [h1, e1], e2⟩
theorem joinL_inj : ∀ xs ys : List (List Nat), xs ≠ [] → ys ≠ [] → (∀ x ∈ xs, 32 ∉ x) → (∀ y ∈ ys, 32 ∉ y) → joinL xs = joinL ys → xs = ys
  | [], _, h, _, _, _, _ => absurd rfl h
  | _, [], _, h, _, _, _ => absurd rfl h
  | [x], [y], _, _, _, _, h => by
    have e : x = y := h
    rw [e]
  | [x], y :: y2 :: r, _, _, hx, _, h => by
    have e : x = y ++ 32 :: joinL (y2 :: r) := h
    refine absurd ?_ (hx x List.mem_cons_self)
    rw [e]
    exact List.mem_append_right _ List.mem_cons_self
  | x :: x2 :: r, [y], _, _, _, hy, h => by
    have e : x ++ 32 :: joinL (x2 :: r) = y := h
    refine absurd ?_ (hy y List.mem_cons_self)
    rw [← e]
    exact List.mem_append_right _ List.mem_cons_self
  | x :: x2 :: r, y :: y2 :: r2, _, _, hx, hy, h => by
    obtain ⟨e1, e2⟩ := cut_eq x y _ _ (hx x List.mem_cons_self) (hy y List.mem_cons_self) h
    have e3 := joinL_inj (x2 :: r) (y2 :: r2) (List.cons_ne_nil _ _) (List.cons_ne_nil _ _) (fun z hz => hx z (List.mem_cons_of_mem _ hz)) (fun z hz => hy z (List.mem_cons_of_mem _ hz)) e2
    rw [e1, e3]
/-! ### texts -/
abbrev blank : Str := " "
abbrev ofL (l : List Nat) : Str := ⟨l.toArray⟩
theorem blank_cps : blank = ⟨#[32]⟩ := by decide +kernel
theorem join_toList : ∀ ws : List Str, (Txt.join blank ws).cps.toList = joinL (ws.map fun w => w.cps.toList) := by
  intro ws
  unfold Txt.join
  rw [StrLaws.glued_eq_join]
  induction ws with
  | nil => rfl
  | cons x r ih =>
    cases r with
    | nil => rfl
    | cons y r =>
      show (x ++ blank ++ Str.join blank (y :: r)).cps.toList = x.cps.toList ++ 32 :: joinL ((y :: r).map fun w => w.cps.toList)
      rw [← ih, blank_cps]
      show ((x.cps ++ #[32]) ++ (Str.join ⟨#[32]⟩ (y :: r)).cps).toList = _
      rw [Array.toList_append, Array.toList_append, List.append_assoc]
      rfl
theorem str_ext {a b : Str} (h : a.cps.toList = b.cps.toList) : a = b := by
  obtain ⟨⟨a⟩⟩ := a
  obtain ⟨⟨b⟩⟩ := b
  cases h
  rfl
theorem split_ne (x : Str) : Txt.split x blank ≠ [] := by
  unfold Txt.split
  split
  · exact List.cons_ne_nil _ _
  · split
    · exact List.cons_ne_nil _ _
    · intro z
      have l := PyProof.Rows.len_partsBetween x (Builtin.Str.occurrences x blank 0 x.length (x.length + 1)) blank.length
      rw [z] at l
      cases l
theorem split_join (ws : List Str) (h : ws ≠ []) (hf : ∀ w ∈ ws, 32 ∉ w.cps.toList) : Txt.split (Txt.join blank ws) blank = ws := by
  have e1 : Txt.join blank (Txt.split (Txt.join blank ws) blank) = Txt.join blank ws := by
    have z := StrLaws.join_split (Txt.join blank ws) blank
    rw [← StrLaws.glued_eq_join] at z
    exact z
  have e2 := congrArg (fun s : Str => s.cps.toList) e1
  rw [join_toList, join_toList] at e2
  have e3 := joinL_inj _ _ (fun z => split_ne _ (List.map_eq_nil_iff.mp z)) (fun z => h (List.map_eq_nil_iff.mp z)) (fun x hx => ?_) (fun y hy => ?_) e2
  · have inj : ∀ a b : List Str, (a.map fun w => w.cps.toList) = (b.map fun w => w.cps.toList) → a = b := by
      intro a
      induction a with
      | nil => intro b hb; cases b with
        | nil => rfl
        | cons y r => cases hb
      | cons x r ih => intro b hb; cases b with
        | nil => cases hb
        | cons y r2 =>
          injection hb with h1 h2
          rw [str_ext h1, ih r2 h2]
    exact inj _ _ e3
  · obtain ⟨w, hw, rfl⟩ := List.mem_map.mp hx
    rw [blank_cps] at hw
    exact StrLaws.split_free _ 32 w hw
  · obtain ⟨w, hw, rfl⟩ := List.mem_map.mp hy
    exact hf w hw
/-! ### a hand's text -/
theorem join_len (sep : Str) (ws : List Str) : (Txt.join sep ws).length ≤ (ws.map (·.length)).sum + ws.length * sep.length := by
  unfold Txt.join
  rw [StrLaws.glued_eq_join]
  exact StrLaws.join_length_le sep ws
theorem blank_len : blank.length = 1 := by decide +kernel
def vN (ys : List Nat) : List V := ys.map fun c => V.int (c : Nat)
theorem vN_len (ys : List Nat) : (vN ys).length = ys.length := List.length_map _
theorem vN_ints (ys : List Nat) : vN ys = (ys.map fun c => ((c : Nat) : Int)).map V.int := by unfold vN; rw [List.map_map]; rfl
theorem vS_flat : ∀ (ys : List Str), (vS ys).all flatV = true
  | [] => rfl
  | _ :: ys => by
    show (true && (vS ys).all flatV) = true
    rw [vS_flat ys]
    rfl
/-! ### orders -/
def sgn (i : Nat) : Str := ⟨#[49 + i]⟩
def figS (l : List Nat) : Str := ⟨(l.map (49 + ·)).toArray⟩
theorem figS_len (l : List Nat) : (figS l).length = l.length := by
  show ((l.map (49 + ·)).toArray).size = _
  rw [List.size_toArray, List.length_map]
theorem chars_fig (l : List Nat) : chars (figS l) = l.map sgn := by
  unfold chars figS
  rw [show (⟨(l.map (49 + ·)).toArray⟩ : Str).cps.toList = l.map (49 + ·) from rfl, List.map_map]
  rfl
theorem perm_sorted : ∀ {xs ys : List Nat}, xs.Perm ys → xs.Pairwise (· ≤ ·) → ys.Pairwise (· ≤ ·) → xs = ys
  | [], ys, p, _, _ => p.nil_eq
  | x :: xs, [], p, _, _ => by have := p.length_eq; cases this
  | x :: xs, y :: ys, p, hx, hy => by
    obtain ⟨hx1, hx2⟩ := List.pairwise_cons.mp hx
    obtain ⟨hy1, hy2⟩ := List.pairwise_cons.mp hy
    have e : x = y := by
      have a : x ∈ y :: ys := p.subset (List.mem_cons_self ..)
      have b : y ∈ x :: xs := p.symm.subset (List.mem_cons_self ..)
      rcases List.mem_cons.mp a with a | a
      · exact a
      · rcases List.mem_cons.mp b with b | b
        · exact b.symm
        · have := hx1 y b
          have := hy1 x a
          omega
    subst e
    rw [perm_sorted p.cons_inv hx2 hy2]
theorem sgn_le {a b : Nat} (h : ltCps (sgn b).cps.toList (sgn a).cps.toList = false) : a ≤ b := by
  rw [PyProof.Rows.ltCps_eq] at h
  have h2 : ¬ ([49 + b] : List Nat) < [49 + a] := of_decide_eq_false h
  rcases Nat.lt_or_ge b a with z | z
  · exact absurd (List.cons_lt_cons_iff.mpr (.inl (by omega))) h2
  · exact z
theorem rising_le : ∀ {a : Nat} {l : List Nat}, risingS (sgn a) (l.map sgn) = true → (a :: l).Pairwise (· ≤ ·)
  | a, [], _ => List.pairwise_singleton ..
  | a, b :: l, h => by
    have h' : (!ltCps (sgn b).cps.toList (sgn a).cps.toList && risingS (sgn b) (l.map sgn)) = true := h
    rw [Bool.and_eq_true] at h'
    have ab : a ≤ b := sgn_le (by simpa using h'.1)
    have r := rising_le (a := b) (l := l) h'.2
    refine List.pairwise_cons.mpr ⟨fun c hc => ?_, r⟩
    rcases List.mem_cons.mp hc with e | hc
    · omega
    · have := (List.pairwise_cons.mp r).1 c hc
      omega
theorem sorted_le : ∀ {l : List Nat}, sortedS (l.map sgn) = true → l.Pairwise (· ≤ ·)
  | [], _ => .nil
  | a :: l, h => rising_le (show risingS (sgn a) (l.map sgn) = true from h)
theorem of_perm_map : ∀ {ss : List Str} {l : List Nat}, ss.Perm (l.map sgn) → ∃ ks : List Nat, ss = ks.map sgn ∧ ks.Perm l := by
  intro ss l p
  have inj : ∀ a b, sgn a = sgn b → a = b := fun a b e => by
    unfold sgn at e
    injection e with e
    have e1 : [49 + a] = [49 + b] := congrArg Array.toList e
    injection e1 with e1
    omega
  refine ⟨ss.map (fun s => s.cps.toList.headD 0 - 49), ?_, ?_⟩
  · rw [List.map_map]
    have : ∀ s ∈ ss, (sgn ∘ fun s : Str => s.cps.toList.headD 0 - 49) s = s := fun s hs => by
      obtain ⟨i, _, rfl⟩ := List.mem_map.mp (p.subset hs)
      show sgn ((49 + i) - 49) = sgn i
      congr 1
      omega
    exact ((List.map_congr_left this).trans (List.map_id' ss)).symm
  · have q := p.map (fun s : Str => s.cps.toList.headD 0 - 49)
    rw [List.map_map] at q
    have : l.map ((fun s : Str => s.cps.toList.headD 0 - 49) ∘ sgn) = l := by
      have : ∀ i ∈ l, ((fun s : Str => s.cps.toList.headD 0 - 49) ∘ sgn) i = i := fun i _ => by
        show (49 + i) - 49 = i
        omega
      exact (List.map_congr_left this).trans (List.map_id' _)
    rw [this] at q
    exact q
theorem range_sorted (h : Nat) : (List.range h).Pairwise (· ≤ ·) := (List.pairwise_lt_range).imp fun h => Nat.le_of_lt h
theorem order_sorted {ss : List Str} {l : List Nat} {h : Nat} (hl : l.Perm (List.range h)) (p : ss.Perm (chars (figS l))) (s : sortedS ss = true) : ss = (List.range h).map sgn := by
  rw [chars_fig] at p
  obtain ⟨ks, rfl, pk⟩ := of_perm_map p
  rw [perm_sorted (pk.trans hl) (sorted_le s) (range_sorted h)]
theorem fig_slice : ∀ h ≤ 8, chars (Txt.slice sFig none (some ((h : Nat) : Int))) = (List.range h).map sgn := by decide +kernel
theorem find_sgn : ∀ i < 8, Txt.find sFig (sgn i) = ((i : Nat) : Int) := by decide +kernel
theorem eqVs_str : ∀ (ys : List Str), eqVs (vS ys) (vS ys) = true
  | [] => rfl
  | y :: ys => by
    show ((y == y) && eqVs (vS ys) (vS ys)) = true
    rw [eqVs_str ys, beq_self_eq_true]
    rfl
theorem perm_erase {α : Type} : ∀ (l : List α) (i : Nat) (x : α), l[i]? = some x → l.Perm (x :: l.eraseIdx i)
  | [], i, x, h => by simp at h
  | y :: l, 0, x, h => by
    have e : y = x := Option.some.inj h
    subst e
    exact List.Perm.refl _
  | y :: l, i + 1, x, h => by
    have r := perm_erase l i x h
    exact (r.cons y).trans (List.Perm.swap ..)
/-! ### a table's facts and text -/
structure Fx where
  s : Nat
  h : Nat
  n : Nat
  d : _root_.Fin 4
  pl : List Nat
  tr : List Nat
structure Fx.Ok (f : Fx) : Prop where
  s1 : 1 ≤ f.s
  s4 : f.s ≤ 4
  h1 : 1 ≤ f.h
  h8 : f.h ≤ 8
  n34 : f.n = 3 ∨ f.n = 4
  pp : f.pl.Perm (List.range f.h)
  pt : f.tr.Perm (List.range f.h)
def sizeT (f : Fx) : Str := ⟨#[48 + f.s, 120, 48 + f.h]⟩
def seatT (f : Fx) : Str := ⟨#[48 + f.n]⟩
def tabW (f : Fx) : List Str := ["pack", sizeT f, "seats", seatT f, "duty", wd f.d, "plain", figS f.pl, "trump", figS f.tr]
def tabT (f : Fx) : Str := Txt.join blank (tabW f)
theorem perm_lt {l : List Nat} {h : Nat} (p : l.Perm (List.range h)) : ∀ i ∈ l, i < h := fun i hi => List.mem_range.mp (p.subset hi)
theorem perm_len {l : List Nat} {h : Nat} (p : l.Perm (List.range h)) : l.length = h := by rw [p.length_eq, List.length_range]
theorem fig_free (l : List Nat) : 32 ∉ (figS l).cps.toList := by
  rw [show (figS l).cps.toList = l.map (49 + ·) from rfl]
  intro z
  obtain ⟨i, _, e⟩ := List.mem_map.mp z
  omega
theorem wd_free : ∀ i : _root_.Fin 4, 32 ∉ (wd i).cps.toList := by decide +kernel
theorem tab_split (f : Fx) : Txt.split (tabT f) blank = tabW f := by
  refine split_join (tabW f) (by unfold tabW; exact List.cons_ne_nil _ _) ?_
  refine all_cons (by decide +kernel) (all_cons ?_ (all_cons (by decide +kernel) (all_cons ?_ (all_cons (by decide +kernel) (all_cons (wd_free _) (all_cons (by decide +kernel) (all_cons (fig_free _) (all_cons (by decide +kernel) (all_cons (fig_free _) all_nil)))))))))
  · show 32 ∉ [48 + f.s, 120, 48 + f.h]
    simp
    omega
  · show 32 ∉ [48 + f.n]
    simp
    omega
theorem tab_len {f : Fx} (ok : f.Ok) : (tabT f).length ≤ 99 := by
  have j := join_len blank (tabW f)
  have e : ((tabW f).map (·.length)).sum ≤ 4 + (3 + (5 + (1 + (4 + (6 + (5 + (8 + (5 + (8 + 0))))))))) := by
    have a := (wd_len f.d).2
    have b : (figS f.pl).length ≤ 8 := by rw [figS_len, perm_len ok.pp]; exact ok.h8
    have c : (figS f.tr).length ≤ 8 := by rw [figS_len, perm_len ok.pt]; exact ok.h8
    show 4 + (3 + (5 + (1 + (4 + ((wd f.d).length + (5 + ((figS f.pl).length + (5 + ((figS f.tr).length + 0))))))))) ≤ _
    omega
  have e2 : (tabW f).length = 10 := rfl
  rw [e2, blank_len] at j
  have : (tabT f).length = (Txt.join blank (tabW f)).length := rfl
  omega
theorem str_num : ∀ i ≤ 8, (toString ((i : Nat) : Int) : Str) = ⟨#[48 + i]⟩ := by decide +kernel
theorem joinE_toList : ∀ ws : List Str, (Txt.join "" ws).cps.toList = (ws.map fun w => w.cps.toList).flatten := by
  intro ws
  unfold Txt.join
  rw [StrLaws.glued_eq_join]
  induction ws with
  | nil => rfl
  | cons x r ih =>
    cases r with
    | nil =>
      show x.cps.toList = x.cps.toList ++ []
      rw [List.append_nil]
    | cons y r =>
      show (x ++ "" ++ Str.join "" (y :: r)).cps.toList = x.cps.toList ++ ((y :: r).map fun w => w.cps.toList).flatten
      rw [← ih]
      show ((x.cps ++ ("" : Str).cps) ++ (Str.join "" (y :: r)).cps).toList = _
      rw [Array.toList_append, Array.toList_append]
      have e : ("" : Str).cps.toList = [] := by decide +kernel
      rw [e, List.append_nil]
theorem join_sgn (l : List Nat) : Txt.join "" (l.map sgn) = figS l := by
  refine str_ext ?_
  rw [joinE_toList, List.map_map]
  show ((l.map fun i => [49 + i]).flatten) = l.map (49 + ·)
  induction l with
  | nil => rfl
  | cons i l ih => rw [List.map_cons, List.flatten_cons, ih]; rfl
def sgV (x : V) : V := match x with | .int i => .str ⟨#[48 + (i + 1).toNat]⟩ | _ => .non
theorem sgV_int (i : Nat) : sgV (.int (i : Nat)) = .str ⟨#[48 + (i + 1)]⟩ := by
  show V.str ⟨#[48 + (((i : Nat) : Int) + 1).toNat]⟩ = _
  have e : (((i : Nat) : Int) + 1).toNat = i + 1 := by omega
  rw [e]
theorem sgV_list (l : List Nat) : ((vN l).filter fun _ => true).map sgV = vS (l.map sgn) := by
  rw [List.filter_eq_self.mpr (fun _ _ => rfl)]
  unfold vN vS
  rw [List.map_map, List.map_map]
  refine List.map_congr_left fun i _ => ?_
  show sgV (.int (i : Nat)) = .str (sgn i)
  rw [sgV_int]
  unfold sgn
  rw [show 48 + (i + 1) = 49 + i by omega]
theorem sgn_sum {l : List Nat} {h : Nat} (p : l.Perm (List.range h)) (h8 : h ≤ 8) : ((l.map sgn).map (·.length)).sum + (l.map sgn).length * ("" : Str).length ≤ 16777216 := by
  have e : ∀ l : List Nat, ((l.map sgn).map (·.length)).sum = l.length := fun l => by
    induction l with
    | nil => rfl
    | cons i l ih =>
      show 1 + ((l.map sgn).map (·.length)).sum = _
      rw [ih, List.length_cons]
      omega
  have z : ("" : Str).length = 0 := by decide +kernel
  rw [e, z, perm_len p]
  omega
theorem text_eq (f : Fx) : (("pack " : Str) ++ ⟨#[48 + f.s]⟩ ++ "x" ++ ⟨#[48 + f.h]⟩ ++ " seats " ++ ⟨#[48 + f.n]⟩ ++ " duty " ++ wd f.d ++ " plain " ++ figS f.pl ++ " trump " ++ figS f.tr) = tabT f := by
  refine str_ext ?_
  unfold tabT
  rw [join_toList]
  have ap : ∀ a b : Str, (a ++ b).cps.toList = a.cps.toList ++ b.cps.toList := fun a b => by
    show (a.cps ++ b.cps).toList = _
    rw [Array.toList_append]
  rw [ap, ap, ap, ap, ap, ap, ap, ap, ap, ap, ap]
  show _ = ("pack" : Str).cps.toList ++ 32 :: ([48 + f.s, 120, 48 + f.h] ++ 32 :: (("seats" : Str).cps.toList ++ 32 :: ([48 + f.n] ++ 32 :: (("duty" : Str).cps.toList ++ 32 :: ((wd f.d).cps.toList ++ 32 :: (("plain" : Str).cps.toList ++ 32 :: ((figS f.pl).cps.toList ++ 32 :: (("trump" : Str).cps.toList ++ 32 :: (figS f.tr).cps.toList))))))))
  have e1 : ("pack " : Str).cps.toList = ("pack" : Str).cps.toList ++ [32] := by decide +kernel
  have e2 : ("x" : Str).cps.toList = [120] := by decide +kernel
  have e3 : (" seats " : Str).cps.toList = 32 :: (("seats" : Str).cps.toList ++ [32]) := by decide +kernel
  have e4 : (" duty " : Str).cps.toList = 32 :: (("duty" : Str).cps.toList ++ [32]) := by decide +kernel
  have e5 : (" plain " : Str).cps.toList = 32 :: (("plain" : Str).cps.toList ++ [32]) := by decide +kernel
  have e6 : (" trump " : Str).cps.toList = 32 :: (("trump" : Str).cps.toList ++ [32]) := by decide +kernel
  rw [e1, e2, e3, e4, e5, e6]
  simp [List.append_assoc]
end My

namespace My
open PySem L2
def top (i : Nat) : Stmt := PySem.Challenge.pw_trickproof_k13_whole_duties_one_in_anoth.main.body.getD i (.Pass ⟨0, 0, 0, 0⟩)
abbrev sFreeWord : Stmt := inClass (top 15) 0
abbrev sFollowWord : Stmt := inClass (top 16) 0
abbrev sCutWord : Stmt := inClass (top 17) 0
abbrev sBeatWord : Stmt := inClass (top 18) 0
abbrev sDutyOf : Stmt := top 19
abbrev sMarks : Stmt := top 24
abbrev sReadSize : Stmt := top 25
abbrev sReadSeats : Stmt := top 26
abbrev sReadOrder : Stmt := top 27
section
variable {P : Program} {w : World} {K : PySem.W.Frag} {mg : Str → Option Value} {base : Heap} {f g : Addr} {fd gd : FuncData}
/-! ### the words of the duties -/
theorem scFreeWord : FnScope ["self"] ["self"] (defScope sFreeWord) := ⟨rfl, rfl, rfl, by decide +kernel, rfl, by decide +kernel, by decide +kernel⟩
theorem scFollowWord : FnScope ["self"] ["self"] (defScope sFollowWord) := ⟨rfl, rfl, rfl, by decide +kernel, rfl, by decide +kernel, by decide +kernel⟩
theorem scCutWord : FnScope ["self"] ["self"] (defScope sCutWord) := ⟨rfl, rfl, rfl, by decide +kernel, rfl, by decide +kernel, by decide +kernel⟩
theorem scBeatWord : FnScope ["self"] ["self"] (defScope sBeatWord) := ⟨rfl, rfl, rfl, by decide +kernel, rfl, by decide +kernel, by decide +kernel⟩
theorem ok_freeWord {k : Nat} (F : Fun K "word" "Free.word" sFreeWord f fd) : FnOk P w K mg base CX0 (k + 1) f fd ["self"] (spWord 0) := ok_word F scFreeWord rfl fun _ _ _ _ h => h
theorem ok_followWord {k : Nat} (F : Fun K "word" "Follow.word" sFollowWord f fd) : FnOk P w K mg base CX0 (k + 1) f fd ["self"] (spWord 1) := ok_word F scFollowWord rfl fun _ _ _ _ h => h
theorem ok_cutWord {k : Nat} (F : Fun K "word" "Cut.word" sCutWord f fd) : FnOk P w K mg base CX0 (k + 1) f fd ["self"] (spWord 2) := ok_word F scCutWord rfl fun _ _ _ _ h => h
theorem ok_beatWord {k : Nat} (F : Fun K "word" "Beat.word" sBeatWord f fd) : FnOk P w K mg base CX0 (k + 1) f fd ["self"] (spWord 3) := ok_word F scBeatWord rfl fun _ _ _ _ h => h
/-! ### duty_of -/
theorem scDutyOf : FnScope ["word", "duty"] ["word"] (defScope sDutyOf) := ⟨rfl, rfl, rfl, by decide +kernel, rfl, by decide +kernel, by decide +kernel⟩
theorem ok_dutyOf {k : Nat} {CN : Addr} {cs fw : Fin 4 → Addr} {fdw : Fin 4 → FuncData} (F : Fun K "duty_of" "duty_of" sDutyOf f fd) (D : DutyC K mg cs CN) (W : WordF P w K mg base k cs fw fdw) : FnOk P w K mg base (CX1 P w) (k + 1) f fd ["word"] (spDuty cs CN) := by
  refine F.okX scDutyOf (fun vs H Q E h => ?_) (fun cdv A outer s H vs Q E hr h T => ?_)
  · obtain ⟨x, rfl, _⟩ := h
    rfl
  obtain ⟨t, rfl, q, qn⟩ := h
  refine ⟨_, pss_cons (ps_for T.own rfl (pi_tup (pe_tup (pa_cons (pe_makeO (D.mak 0) rfl D.mF) (pa_cons (pe_makeO (D.mak 1) rfl D.mL) (pa_cons (pe_makeO (D.mak 2) rfl D.mC) (pa_cons (pe_makeO (D.mak 3) rfl D.mB) pa_nil)))))) (pg_name (i := 1) scDutyOf.nd rfl (Or.inl rfl))
      (pss_one (ps_if (pt_cmpR op_eq (pe_methF0 (pv 1) W hr pass0) (pv 0) (nomark _)) (pss_one (ps_ret (pv 1))) pss_nil)))
    (pss_one (ps_raise T hr.hd rfl D.mN D.hN (pa_cons pe_str pa_nil))), ?_⟩
  intro x0 d0 hx0 hd0 n0 x1 d1 hx1 hd1 n1 x2 d2 hx2 hd2 n2 x3 d3 hx3 hd3 n3
  refine ⟨fits3 4 (by decide), fun p hp => ?_⟩
  have s0 := same_make (o := .ins (cs 0) d0 []) hx0 hd0 n0
  have s1 := same_make (o := .ins (cs 1) d1 []) hx1 hd1 n1
  have s2 := same_make (o := .ins (cs 2) d2 []) hx2 hd2 n2
  have s3 := same_make (o := .ins (cs 3) d3 []) hx3 hd3 n3
  have sp := same_upd hp (.tup [.ref x0, .ref x1, .ref x2, .ref x3])
  have sA := s0.trans (s1.trans (s2.trans (s3.trans sp)))
  have g0 := sp _ _ (s3 _ _ (s2 _ _ (s1 _ _ (upd_same (a := x0) (o := .ins (cs 0) d0 [])))))
  have g1 := sp _ _ (s3 _ _ (s2 _ _ (upd_same (a := x1) (o := .ins (cs 1) d1 []))))
  have g2 := sp _ _ (s3 _ _ (upd_same (a := x2) (o := .ins (cs 2) d2 [])))
  have g3 := sp _ _ (upd_same (a := x3) (o := .ins (cs 3) d3 []))
  have gp := upd_same (H := upd (upd (upd (upd (upd (upd (upd (upd H d0 (.own x0)) x0 (.ins (cs 0) d0 [])) d1 (.own x1)) x1 (.ins (cs 1) d1 [])) d2 (.own x2)) x2 (.ins (cs 2) d2 [])) d3 (.own x3)) x3 (.ins (cs 3) d3 [])) (a := p) (o := .tup [.ref x0, .ref x1, .ref x2, .ref x3])
  revert g0 g1 g2 g3 gp sA
  generalize upd _ p (.tup [.ref x0, .ref x1, .ref x2, .ref x3]) = H4
  intro sA g0 g1 g2 g3 gp
  have hx1' := s0.free hx1
  have hx2' := s0.free (s1.free hx2)
  have hx3' := s0.free (s1.free (s2.free hx3))
  have G : ∀ (i : Nat) (x : V), ([V.ref x0, V.ref x1, V.ref x2, V.ref x3] : List V)[i]? = some x → ∃ (j : Fin 4) (y dy : Addr), j.val = i ∧ x = .ref y ∧ H y = none ∧ H4 y = some (.ins (cs j) dy []) := fun i x hx => by
    match i, hx with
    | 0, hx => exact ⟨0, x0, d0, rfl, (Option.some.inj hx).symm, hx0, g0⟩
    | 1, hx => exact ⟨1, x1, d1, rfl, (Option.some.inj hx).symm, hx1', g1⟩
    | 2, hx => exact ⟨2, x2, d2, rfl, (Option.some.inj hx).symm, hx2', g2⟩
    | 3, hx => exact ⟨3, x3, d3, rfl, (Option.some.inj hx).symm, hx3', g3⟩
  refine ⟨p, rfl, ⟨_, SqT.of gp⟩, for_tup (xs := [.ref x0, .ref x1, .ref x2, .ref x3]) (fun i σ H' => H' = H4 ∧ (∃ x, σ = [some (.str t), x]) ∧ ∀ j : Fin 4, j.val < i → t ≠ wd j) ⟨rfl, ⟨_, rfl⟩, fun j hj => absurd hj (Nat.not_lt_zero _)⟩ (fun i σ H' _ z => by obtain ⟨rfl, _⟩ := z; exact SqT.of gp) (fun i x σ H' hx z => ?_) (fun σ H' z => ?_)⟩
  · obtain ⟨rfl, ⟨x', rfl⟩, hno⟩ := z
    obtain ⟨j, y, dy, hj, rfl, hy, gy⟩ := G i x hx
    refine ⟨_, rfl, j, y, dy, [], rfl, gy, rfl, y, rfl, _, rfl, rfl, _, rfl, ite2 (fun c => ?_) (fun c => ?_)⟩
    · have c' := of_decide_eq_true c
      injection c' with c'
      exact ⟨_, rfl, q j c'.symm y dy H' sA hy gy⟩
    · refine ⟨rfl, ⟨_, rfl⟩, fun j' hj' e => ?_⟩
      by_cases lt : j'.val < i
      · exact hno j' lt e
      · have ej : j' = j := Fin.ext (by omega)
        subst ej
        exact c (decide_eq_true (by rw [e]))
  · obtain ⟨rfl, ⟨x', rfl⟩, hno⟩ := z
    refine ⟨fits3 1 (by decide), qn (fun z => ?_) _ sA⟩
    obtain ⟨j, hj⟩ := wd_mem z
    exact hno j j.isLt hj
/-! ### the table's text is cut into words -/
def spMarks : Sp := fun vs H Q _ => ∃ f : Fx, vs = [.str (tabT f)] ∧ f.Ok ∧ ∀ l H', Same H H' → H l = none → H' l = some (.lst (vS [sizeT f, seatT f, wd f.d, figS f.pl, figS f.tr])) → Q (.ref l) H'
theorem scMarks : FnScope ["text", "words"] ["text"] (defScope sMarks) := ⟨rfl, rfl, rfl, by decide +kernel, rfl, by decide +kernel, by decide +kernel⟩
def marks : List Str := ["pack", "seats", "duty", "plain", "trump"]
theorem ok_marks {k : Nat} {CN aM : Addr} (F : Fun K "words_behind_marks" "words_behind_marks" sMarks f fd) (mM : mg "MARKS" = some (.ref aM)) (hM : ∀ H, SqT K H aM (vS marks)) (mC : mg "NoTable" = some (.ref CN)) (hC : PySem.W.excIn K CN veTail "ValueError.__new__" = true)
    (mi : mg "isinstance" = none) (ms : mg "str" = none) (ml : mg "len" = none) (mt : mg "tuple" = none) : FnOk P w K mg base (CX1 P w) (k + 1) f fd ["text"] spMarks := by
  refine F.okX scMarks (fun vs H Q E h => ?_) (fun cdv A outer s H vs Q E hr h T => ?_)
  · obtain ⟨x, rfl, _⟩ := h
    rfl
  obtain ⟨fx, rfl, ok, q⟩ := h
  refine ⟨_, pss_cons (ps_if (pt_not (pt_truth (pe_callB call_isT rfl mi PyProof.Rows.boot_isinstance (pa_cons (pv 0) (pa_cons (pe_bltn (v := .ty "str") rfl ms PyProof.Rows.boot_str rfl) pa_nil))) (fun _ => rfl))) (pss_one (ps_raise T hr.hd rfl mC hC (pa_cons pe_str pa_nil))) pss_nil)
    (pss_cons (ps_set (i := 1) scMarks.nd rfl (Or.inl rfl) (pe_bm PySem.F.plainAttrs_str PySem.F.slot_str_split PySem.F.type_str_split mt_split (pv 0) (pa_cons pe_str pa_nil)))
    (pss_cons (ps_if (PW.pt (pw_or (pt_cmpR op_ne (pe_callB call_len_seq rfl ml PySem.boot_len (pa_cons (pv 1) pa_nil)) (pe_op op_mul pe_int (pe_callB call_len_seq rfl ml PySem.boot_len (pa_cons (pe_glob (v := .ref aM) rfl mM rfl) pa_nil))) (nomark _))
        (pw_or1 (pt_cmpR (op_neFT hr.units) (pe_callTy call_tuple_of rfl mt PyProof.Rows.boot_tuple (pa_cons (pe_step (pv 1) (po_some pe_int) (po_some pe_int)) pa_nil)) (pe_glob (v := .ref aM) rfl mM rfl) (nomark _))))) (pss_one (ps_raise T hr.hd rfl mC hC (pa_cons pe_str pa_nil))) pss_nil)
    (pss_one (ps_ret (pe_step (pv 1) (po_some pe_int) (po_some pe_int)))))), ?_⟩
  have tl := tab_len ok
  refine ⟨_, rfl, _, _, _, true, rfl, .str _, rfl, true, rfl, iteF ?_⟩
  refine ⟨_, rfl, rfl, tabT fx, blank, rfl, rfl, (by decide +kernel), by omega, fun l hl => ?_⟩
  rw [tab_split]
  have s1 := same_upd hl (.lst (vS (tabW fx)))
  refine ⟨_, rfl, l, _, rfl, .inl (SqL.of upd_same), aM, _, rfl, .inr (hM _), _, _, rfl, rfl, .inl ⟨by decide, by decide⟩, rfl, _, rfl, iteF ?_⟩
  refine ⟨_, rfl, _, rfl, _, rfl, rfl, l, .str "pack", .str (sizeT fx), .str "seats", .str (seatT fx), .str "duty", .str (wd fx.d), .str "plain", .str (figS fx.pl), .str "trump", .str (figS fx.tr), rfl, SqL.of upd_same, .inl ⟨rfl, fun p hp => ?_⟩⟩
  have s2 := same_upd hp (.lst (vS marks))
  refine ⟨p, vS marks, rfl, .inl ⟨SqL.of upd_same, fun p2 hp2 => ?_⟩⟩
  have s3 := same_upd hp2 (.tup (vS marks))
  refine ⟨p2, aM, vS marks, vS marks, rfl, rfl, ⟨SqT.of upd_same, hM _⟩, vS_flat _, vS_flat _, _, rfl, ?_⟩
  show if (!eqVs (vS marks) (vS marks)) = true then _ else _
  rw [eqVs_str]
  refine iteF ?_
  have sA := s1.trans (s2.trans s3)
  refine ⟨_, rfl, _, rfl, _, rfl, rfl, l, .str "pack", .str (sizeT fx), .str "seats", .str (seatT fx), .str "duty", .str (wd fx.d), .str "plain", .str (figS fx.pl), .str "trump", .str (figS fx.tr), rfl, SqL.of (s3 _ _ (s2 _ _ upd_same)), .inr ⟨rfl, fun p3 hp3 => ?_⟩⟩
  exact q p3 _ (sA.trans (same_upd hp3 _)) (sA.free hp3) upd_same
/-! ### the size, the seats, an order -/
def spSize : Sp := fun vs H Q _ => ∃ f : Fx, vs = [.str (sizeT f)] ∧ f.Ok ∧ ∀ p H', Same H H' → H p = none → H' p = some (.tup [.int (f.s : Nat), .int (f.h : Nat)]) → Q (.ref p) H'
theorem scSize : FnScope ["word", "suits", "heights"] ["word"] (defScope sReadSize) := ⟨rfl, rfl, rfl, by decide +kernel, rfl, by decide +kernel, by decide +kernel⟩
theorem ok_size {k : Nat} {CN : Addr} {t1 t2 : Tok} (F : Fun K "read_size" "read_size" sReadSize f fd) (mF : mg "FIGURES" = some (.str sFig t1)) (mL : mg "LETTERS" = some (.str sLet t2)) (mC : mg "NoTable" = some (.ref CN)) (hC : PySem.W.excIn K CN veTail "ValueError.__new__" = true) (ml : mg "len" = none) :
    FnOk P w K mg base (CX1 P w) (k + 1) f fd ["word"] spSize := by
  refine F.okX scSize (fun vs H Q E h => ?_) (fun cdv A outer s H vs Q E hr h T => ?_)
  · obtain ⟨x, rfl, _⟩ := h
    rfl
  obtain ⟨fx, rfl, ok, q⟩ := h
  refine ⟨_, pss_cons (ps_if (PW.pt (pw_or (pt_cmpR op_ne (pe_callB call_len_str rfl ml PySem.boot_len (pa_cons (pv 0) pa_nil)) pe_int (nomark _)) (pw_or1 (pt_cmpR op_ne (pe_ix ix_str (pv 0) pe_int (fun _ _ => rfl)) pe_str (nomark _))))) (pss_one (ps_raise T hr.hd rfl mC hC (pa_cons pe_str pa_nil))) pss_nil)
    (pss_cons (ps_set (i := 1) scSize.nd rfl (Or.inl rfl) (pe_op op_add (pe_bm PySem.F.plainAttrs_str PySem.F.slot_str_find PySem.F.type_str_find mt_find (pe_glob (v := .str sFig) rfl mF ⟨_, rfl⟩) (pa_cons (pe_ix ix_str (pv 0) pe_int (fun _ _ => rfl)) pa_nil)) pe_int))
    (pss_cons (ps_set (i := 2) scSize.nd rfl (Or.inl rfl) (pe_op op_add (pe_bm PySem.F.plainAttrs_str PySem.F.slot_str_find PySem.F.type_str_find mt_find (pe_glob (v := .str sFig) rfl mF ⟨_, rfl⟩) (pa_cons (pe_ix ix_str (pv 0) pe_int (fun _ _ => rfl)) pa_nil)) pe_int))
    (pss_cons (ps_if (PW.pt (pw_or (pt_cmpR op_eq (pv 1) pe_int (nomark _)) (pw_or (pt_cmpR op_gt (pv 1) (pe_callB call_len_str rfl ml PySem.boot_len (pa_cons (pe_glob (v := .str sLet) rfl mL ⟨_, rfl⟩) pa_nil)) (nomark _)) (pw_or1 (pt_cmpR op_eq (pv 2) pe_int (nomark _)))))) (pss_one (ps_raise T hr.hd rfl mC hC (pa_cons pe_str pa_nil))) pss_nil)
    (pss_one (ps_ret (pe_tup (pa_cons (pv 1) (pa_cons (pv 2) pa_nil)))))))), ?_⟩
  have hz : (sizeT fx).length ≤ sizeLine := fits3 3 (by decide)
  have at0 : atI (sizeT fx).cps.toList 0 = some (48 + fx.s) := atI_nat (j := 0) rfl
  have at1 : atI (sizeT fx).cps.toList 1 = some 120 := atI_nat (j := 1) rfl
  have at2 : atI (sizeT fx).cps.toList 2 = some (48 + fx.h) := atI_nat (j := 2) rfl
  have s1 := ok.s1
  have s4 := ok.s4
  have h1 := ok.h1
  have h8 := ok.h8
  refine ⟨_, rfl, _, rfl, hz, rfl, _, rfl, iteF ⟨_, rfl, _, _, _, rfl, rfl, hz, at1, rfl, _, rfl, ?_⟩⟩
  rw [decide_eq_true (show V.str ⟨#[120]⟩ = V.str "x" by decide +kernel)]
  refine iteF ?_
  refine ⟨rfl, _, rfl, _, _, _, rfl, rfl, hz, at0, _, _, rfl, rfl, _, _, rfl, rfl, ?_⟩
  refine ⟨rfl, _, rfl, _, _, _, rfl, rfl, hz, at2, _, _, rfl, rfl, _, _, rfl, rfl, ?_⟩
  rw [find_fig, find_fig, if_pos (by omega), if_pos (by omega)]
  have e1 : ((48 + fx.s - 49 : Nat) : Int) + 1 = ((fx.s : Nat) : Int) := by omega
  have e2 : ((48 + fx.h - 49 : Nat) : Int) + 1 = ((fx.h : Nat) : Int) := by omega
  dsimp only
  rw [e1, e2]
  refine ⟨_, rfl, rfl, _, rfl, ?_⟩
  rw [decide_eq_false (fun y => by injection y with y; omega)]
  refine iteF ⟨_, rfl, _, rfl, fits3 4 (by decide), _, _, rfl, rfl, _, rfl, ?_⟩
  have l4 : ((sLet.length : Nat) : Int) = 4 := by decide +kernel
  rw [l4, decide_eq_false (show ¬ (4 : Int) < ((fx.s : Nat) : Int) by omega)]
  refine iteF ⟨_, rfl, rfl, _, rfl, ?_⟩
  rw [decide_eq_false (fun y => by injection y with y; omega)]
  refine iteF ⟨_, rfl, _, rfl, fits3 2 (by decide), fun p hp => q p _ (same_upd hp _) hp upd_same⟩
def spSeats : Sp := fun vs H Q _ => ∃ f : Fx, vs = [.str (seatT f)] ∧ f.Ok ∧ ∀ H', Same H H' → Q (.int (f.n : Nat)) H'
theorem scSeats : FnScope ["word"] ["word"] (defScope sReadSeats) := ⟨rfl, rfl, rfl, by decide +kernel, rfl, by decide +kernel, by decide +kernel⟩
theorem ok_seats {k : Nat} {CN : Addr} (F : Fun K "read_seats" "read_seats" sReadSeats f fd) (mC : mg "NoTable" = some (.ref CN)) (hC : PySem.W.excIn K CN veTail "ValueError.__new__" = true) (mI : mg "int" = none) : FnOk P w K mg base (CX1 P w) (k + 1) f fd ["word"] spSeats := by
  refine F.okX scSeats (fun vs H Q E h => ?_) (fun cdv A outer s H vs Q E hr h T => ?_)
  · obtain ⟨x, rfl, _⟩ := h
    rfl
  obtain ⟨fx, rfl, ok, q⟩ := h
  refine ⟨_, pss_cons (ps_if (pt_cmpR op_notIn_seq (pv 0) (pe_tup (pa_cons pe_str (pa_cons pe_str pa_nil))) rfl) (pss_one (ps_raise T hr.hd rfl mC hC (pa_cons pe_str pa_nil))) pss_nil)
    (pss_one (ps_ret (pe_callTy call_int_str rfl mI PyProof.Rows.boot_int (pa_cons (pv 0) pa_nil)))), ?_⟩
  refine ⟨_, rfl, fits3 2 (by decide), fun p hp => ?_⟩
  have s1 := same_upd hp (.tup (vS ["3", "4"]))
  refine ⟨p, vS ["3", "4"], rfl, .inr (SqT.of upd_same), rfl, rfl, _, rfl, ?_⟩
  show if (!inV (.str (seatT fx)) (vS ["3", "4"])) = true then _ else _
  rcases ok.n34 with e | e
  · have es : seatT fx = "3" := by unfold seatT; rw [e]; decide +kernel
    rw [es, show inV (.str "3") (vS ["3", "4"]) = true by decide +kernel]
    refine iteF ⟨_, rfl, _, 3, rfl, by decide +kernel, by decide +kernel, ?_⟩
    have := q _ s1
    rw [e] at this
    exact this
  · have es : seatT fx = "4" := by unfold seatT; rw [e]; decide +kernel
    rw [es, show inV (.str "4") (vS ["3", "4"]) = true by decide +kernel]
    refine iteF ⟨_, rfl, _, 4, rfl, by decide +kernel, by decide +kernel, ?_⟩
    have := q _ s1
    rw [e] at this
    exact this
def spOrd : Sp := fun vs H Q _ => ∃ (l : List Nat) (h : Nat), vs = [.str (figS l), .int (h : Nat)] ∧ h ≤ 8 ∧ l.Perm (List.range h) ∧ ∀ p H', Same H H' → H p = none → H' p = some (.tup (vN l)) → Q (.ref p) H'
theorem scOrd : FnScope ["word", "heights"] ["word", "heights"] (defScope sReadOrder) := ⟨rfl, rfl, rfl, by decide +kernel, rfl, by decide +kernel, by decide +kernel⟩
theorem ok_ord {k : Nat} {CN : Addr} {t1 : Tok} (F : Fun K "read_order" "read_order" sReadOrder f fd) (mF : mg "FIGURES" = some (.str sFig t1)) (mC : mg "NoTable" = some (.ref CN)) (hC : PySem.W.excIn K CN veTail "ValueError.__new__" = true) (mS : mg "sorted" = none) (mLi : mg "list" = none) (mt : mg "tuple" = none) :
    FnOk P w K mg base (CX1 P w) (k + 1) f fd ["word", "heights"] spOrd := by
  refine F.okX scOrd (fun vs H Q E h => ?_) (fun cdv A outer s H vs Q E hr h T => ?_)
  · obtain ⟨l, h, rfl, _⟩ := h
    rfl
  obtain ⟨l, h, rfl, h8, pm, q⟩ := h
  refine ⟨_, pss_cons (ps_if (pt_cmpR (op_neFL hr.units) (pe_callB (call_sorted_str rfl) rfl mS PyProof.Rows.boot_sorted (pa_cons (pv 0) pa_nil)) (pe_callTy (call_list_strL rfl) rfl mLi PyProof.Rows.boot_list (pa_cons (pe_slice sl_str (pe_glob (v := .str sFig) rfl mF ⟨_, rfl⟩) po_none (po_some (pv 1))) pa_nil)) (nomark _)) (pss_one (ps_raise T hr.hd rfl mC hC (pa_cons pe_str pa_nil))) pss_nil)
    (pss_one (ps_ret (pe_callTy call_tuple_of rfl mt PyProof.Rows.boot_tuple (pa_cons (pe_comp ["figure"] [none] rfl (Blk.by (sc := defScope sReadOrder) (N0 := ["word", "heights"]) rfl rfl (by decide +kernel)) (pi_str (pv 0)) (fun C s₀ H₀ ex => pg_name (i := 0) (show (["figure"] : List Str).Nodup by decide +kernel) rfl (Or.inl rfl))
      (fun C s₀ H₀ ex => pf_nil) (fun C s₀ H₀ ex => pe_findK (K := K) rfl (pe_glob (v := .str sFig) rfl mF ⟨_, rfl⟩) (pa_cons (pv 0) pa_nil))) pa_nil)))), ?_⟩
  have ll : l.length = h := perm_len pm
  refine ⟨_, rfl, figS l, rfl, (by rw [figS_len]; omega), fun l1 ss hl1 hp hs => ?_⟩
  have es := order_sorted pm hp hs
  subst es
  have s1 := same_upd hl1 (.lst (vS ((List.range h).map sgn)))
  refine ⟨_, rfl, _, rfl, sFig, rfl, (by decide +kernel), _, rfl, Nat.le_trans (Txt.slice_le _ _ _) (by decide +kernel), fun l2 hl2 => ?_⟩
  rw [fig_slice h h8]
  have s2 := same_upd hl2 (.lst (vS ((List.range h).map sgn)))
  refine ⟨l1, l2, _, _, rfl, rfl, ⟨SqL.of (s2 _ _ upd_same), SqL.of upd_same⟩, vS_flat _, vS_flat _, _, rfl, ?_⟩
  show if (!eqVs (vS ((List.range h).map sgn)) (vS ((List.range h).map sgn))) = true then _ else _
  rw [eqVs_str]
  refine iteF ⟨_, rfl, figS l, rfl, ?_⟩
  have sA := s1.trans s2
  refine comp_any l.length (fun i => .str (sgn (l.getD i 0))) (fun _ => true) (fun i => .int ((l.getD i 0 : Nat) : Int)) (fits3 _ (by omega)) (fun i H3 s3 hi => ?_) (fun H3 s3 => ?_) (fun i H3 x H4 s3 hi y => ?_) (fun i H3 hi sm R hR => hR H3 (Same.refl H3)) (fun i H3 hi hp sm R hR => ?_) (fun l3 H3 s3 hl3 hL3 => ?_)
  · show i < (figS l).cps.size
    have := figS_len l
    unfold Str.length at this
    omega
  · show (figS l).cps.size ≤ l.length
    have := figS_len l
    unfold Str.length at this
    omega
  · obtain ⟨rfl, c, hc, rfl⟩ := y
    refine ⟨rfl, ?_⟩
    have e : (figS l).cps.toList[i]? = some c := by rw [← hc]; simp
    rw [show (figS l).cps.toList = l.map (49 + ·) from rfl, List.getElem?_map, List.getElem?_eq_getElem hi] at e
    have e2 : 49 + l[i] = c := Option.some.inj e
    rw [List.getD_eq_getElem?_getD, List.getElem?_eq_getElem hi, ← e2]
    rfl
  · have lt : l.getD i 0 < 8 := by
      rw [List.getD_eq_getElem?_getD, List.getElem?_eq_getElem hi]
      have := perm_lt pm l[i] (List.getElem_mem hi)
      show l[i] < 8
      omega
    refine ⟨rfl, _, rfl, _, _, rfl, rfl, ?_⟩
    show R (.int (Txt.find sFig (sgn (l.getD i 0)))) H3
    rw [find_sgn _ lt]
    exact hR H3 (Same.refl H3)
  · have e : ((List.range l.length).filter fun _ => true).map (fun i => V.int ((l.getD i 0 : Nat) : Int)) = vN l := by
      have z := filter_map_range l (fun _ => true) (fun c => V.int ((c : Nat) : Int)) 0
      rw [z, List.filter_eq_self.mpr (fun _ _ => rfl)]
      rfl
    rw [e] at hL3
    refine ⟨l3, _, rfl, .inl ⟨SqL.of hL3, fun p hp => ?_⟩⟩
    have sB := sA.trans s3
    exact q p _ (sB.trans (same_upd hp _)) (sB.free hp) upd_same
end
end My

namespace My
open PySem L2
/-! ### tables and games as objects -/
def Keep (x : Addr) (H H' : Hp) : Prop := ∀ b o, b ≠ x → H b = some o → H' b = some o
theorem Keep.trans {x : Addr} {H H1 H2 : Hp} (a : Keep x H H1) (b : Keep x H1 H2) : Keep x H H2 := fun c o n h => b c o n (a c o n h)
theorem Keep.of {x : Addr} {H H' : Hp} (s : Same H H') : Keep x H H' := fun b o _ h => s b o h
theorem Keep.upd {x : Addr} {H : Hp} {o : HO} : Keep x H (upd H x o) := fun b u n h => by rw [upd_ne n]; exact h
def tF1 (f : Fx) (po to : Addr) : List (Str × V) := putF "suits" (.int (f.s : Nat)) []
def tF2 (f : Fx) (po to : Addr) : List (Str × V) := putF "heights" (.int (f.h : Nat)) (tF1 f po to)
def tF3 (f : Fx) (po to : Addr) : List (Str × V) := putF "seats" (.int (f.n : Nat)) (tF2 f po to)
def tF4 (f : Fx) (po to : Addr) : List (Str × V) := putF "duty_word" (.str (wd f.d)) (tF3 f po to)
def tF5 (f : Fx) (po to : Addr) : List (Str × V) := putF "plain_order" (.ref po) (tF4 f po to)
def tF6 (f : Fx) (po to : Addr) : List (Str × V) := putF "trump_order" (.ref to) (tF5 f po to)
def tF7 (f : Fx) (po to : Addr) : List (Str × V) := putF "written" (.str (tabT f)) (tF6 f po to)
abbrev tabF := tF7
theorem tF1_len (f : Fx) (po to : Addr) : (tF1 f po to).length ≤ 1 := length_putF _ _ _
theorem tF2_len (f : Fx) (po to : Addr) : (tF2 f po to).length ≤ 2 := Nat.le_trans (length_putF _ _ _) (Nat.succ_le_succ (tF1_len f po to))
theorem tF3_len (f : Fx) (po to : Addr) : (tF3 f po to).length ≤ 3 := Nat.le_trans (length_putF _ _ _) (Nat.succ_le_succ (tF2_len f po to))
theorem tF4_len (f : Fx) (po to : Addr) : (tF4 f po to).length ≤ 4 := Nat.le_trans (length_putF _ _ _) (Nat.succ_le_succ (tF3_len f po to))
theorem tF5_len (f : Fx) (po to : Addr) : (tF5 f po to).length ≤ 5 := Nat.le_trans (length_putF _ _ _) (Nat.succ_le_succ (tF4_len f po to))
theorem tF6_len (f : Fx) (po to : Addr) : (tF6 f po to).length ≤ 6 := Nat.le_trans (length_putF _ _ _) (Nat.succ_le_succ (tF5_len f po to))
theorem look7_duty_word (f : Fx) (po to : Addr) : (tF7 f po to).lookup ("duty_word" : Str) = some (V.str (wd f.d)) := by
  unfold tF7
  rw [lookup_putF]
  rw [if_neg (by decide +kernel)]
  unfold tF6
  rw [lookup_putF]
  rw [if_neg (by decide +kernel)]
  unfold tF5
  rw [lookup_putF]
  rw [if_neg (by decide +kernel)]
  unfold tF4
  rw [lookup_putF]
  rw [if_pos rfl]
theorem look7_plain_order (f : Fx) (po to : Addr) : (tF7 f po to).lookup ("plain_order" : Str) = some (V.ref po) := by
  unfold tF7
  rw [lookup_putF]
  rw [if_neg (by decide +kernel)]
  unfold tF6
  rw [lookup_putF]
  rw [if_neg (by decide +kernel)]
  unfold tF5
  rw [lookup_putF]
  rw [if_pos rfl]
theorem look7_trump_order (f : Fx) (po to : Addr) : (tF7 f po to).lookup ("trump_order" : Str) = some (V.ref to) := by
  unfold tF7
  rw [lookup_putF]
  rw [if_neg (by decide +kernel)]
  unfold tF6
  rw [lookup_putF]
  rw [if_pos rfl]
theorem look4_heights (f : Fx) (po to : Addr) : (tF4 f po to).lookup ("heights" : Str) = some (V.int (f.h : Nat)) := by
  unfold tF4
  rw [lookup_putF]
  rw [if_neg (by decide +kernel)]
  unfold tF3
  rw [lookup_putF]
  rw [if_neg (by decide +kernel)]
  unfold tF2
  rw [lookup_putF]
  rw [if_pos rfl]
theorem look5_heights (f : Fx) (po to : Addr) : (tF5 f po to).lookup ("heights" : Str) = some (V.int (f.h : Nat)) := by
  unfold tF5
  rw [lookup_putF]
  rw [if_neg (by decide +kernel)]
  unfold tF4
  rw [lookup_putF]
  rw [if_neg (by decide +kernel)]
  unfold tF3
  rw [lookup_putF]
  rw [if_neg (by decide +kernel)]
  unfold tF2
  rw [lookup_putF]
  rw [if_pos rfl]
theorem look7_duty (f : Fx) (po to : Addr) : (tF7 f po to).lookup ("duty" : Str) = none := by
  unfold tF7
  rw [lookup_putF]
  rw [if_neg (by decide +kernel)]
  unfold tF6
  rw [lookup_putF]
  rw [if_neg (by decide +kernel)]
  unfold tF5
  rw [lookup_putF]
  rw [if_neg (by decide +kernel)]
  unfold tF4
  rw [lookup_putF]
  rw [if_neg (by decide +kernel)]
  unfold tF3
  rw [lookup_putF]
  rw [if_neg (by decide +kernel)]
  unfold tF2
  rw [lookup_putF]
  rw [if_neg (by decide +kernel)]
  unfold tF1
  rw [lookup_putF]
  rw [if_neg (by decide +kernel)]
  rfl
theorem look7_order (f : Fx) (po to : Addr) : (tF7 f po to).lookup ("order" : Str) = none := by
  unfold tF7
  rw [lookup_putF]
  rw [if_neg (by decide +kernel)]
  unfold tF6
  rw [lookup_putF]
  rw [if_neg (by decide +kernel)]
  unfold tF5
  rw [lookup_putF]
  rw [if_neg (by decide +kernel)]
  unfold tF4
  rw [lookup_putF]
  rw [if_neg (by decide +kernel)]
  unfold tF3
  rw [lookup_putF]
  rw [if_neg (by decide +kernel)]
  unfold tF2
  rw [lookup_putF]
  rw [if_neg (by decide +kernel)]
  unfold tF1
  rw [lookup_putF]
  rw [if_neg (by decide +kernel)]
  rfl
structure TabC (K : PySem.W.Frag) (mg : Str → Option Value) (CT : Addr) : Prop where
  cl : Cls K CT
  mT : mg "Table" = some (.ref CT)
  nS : NoAttr K CT "suits"
  nH : NoAttr K CT "heights"
  nN : NoAttr K CT "seats"
  nD : NoAttr K CT "duty_word"
  nP : NoAttr K CT "plain_order"
  nT : NoAttr K CT "trump_order"
  nW : NoAttr K CT "written"
/-- a table of these facts stands at x -/
def IsTab (CT : Addr) (f : Fx) (H : Hp) (x : Addr) : Prop := ∃ dx po to, H x = some (.ins CT dx (tabF f po to)) ∧ H po = some (.tup (vN f.pl)) ∧ H to = some (.tup (vN f.tr))
theorem IsTab.same {CT x : Addr} {f : Fx} {H H' : Hp} (h : IsTab CT f H x) (s : Same H H') : IsTab CT f H' x := by
  obtain ⟨dx, po, to, a, b, c⟩ := h
  exact ⟨dx, po, to, s _ _ a, s _ _ b, s _ _ c⟩
def gamF (x : Addr) (tv : V) : List (Str × V) := putF "trump" tv (putF "table" (.ref x) [])
theorem gam_table (x : Addr) (tv : V) : (gamF x tv).lookup ("table" : Str) = some (V.ref x) := by
  unfold gamF
  rw [lookup_putF, if_neg (by decide +kernel), lookup_putF, if_pos rfl]
theorem gam_trump (x : Addr) (tv : V) : (gamF x tv).lookup ("trump" : Str) = some tv := by
  unfold gamF
  rw [lookup_putF, if_pos rfl]
theorem gam_none (x : Addr) (tv : V) (m : Str) (h1 : m ≠ "trump") (h2 : m ≠ "table") : (gamF x tv).lookup m = none := by
  unfold gamF
  rw [lookup_putF, if_neg h1, lookup_putF, if_neg h2]
  rfl
structure GamC (K : PySem.W.Frag) (mg : Str → Option Value) (CG : Addr) : Prop where
  cl : Cls K CG
  mG : mg "Game" = some (.ref CG)
  nT : NoAttr K CG "table"
  nU : NoAttr K CG "trump"
/-- a game of the table at x with the trump tv stands at g -/
def IsGam (CG x : Addr) (tv : V) (H : Hp) (g : Addr) : Prop := ∃ dg, H g = some (.ins CG dg (gamF x tv))
theorem IsGam.same {CG x g : Addr} {tv : V} {H H' : Hp} (h : IsGam CG x tv H g) (s : Same H H') : IsGam CG x tv H' g := by
  obtain ⟨dg, a⟩ := h
  exact ⟨dg, s _ _ a⟩
end My

namespace My
open PySem L2
abbrev sTabInit : Stmt := inClass (top 29) 0
theorem fromH {F : Hp → Prop} {H H' : Hp} (e : H' = H) (h : F H) : F H' := by rw [e]; exact h
section
variable {P : Program} {w : World} {K : PySem.W.Frag} {mg : Str → Option Value} {base : Heap} {f g : Addr} {fd gd : FuncData}
/-! ### Table -/
def spTab (CT : Addr) : Sp := fun vs H Q _ => ∃ (x dx : Addr) (f : Fx), vs = [.ref x, .str (tabT f)] ∧ f.Ok ∧ H x = some (.ins CT dx []) ∧ ∀ po to H', Keep x H H' → H' x = some (.ins CT dx (tabF f po to)) → H' po = some (.tup (vN f.pl)) → H' to = some (.tup (vN f.tr)) → Q .non H'
theorem scTab : FnScope ["self", "text", "words", "size"] ["self", "text"] (defScope sTabInit) := ⟨rfl, rfl, rfl, by decide +kernel, rfl, by decide +kernel, by decide +kernel⟩
theorem ok_tab {k : Nat} {CT CN f1 f2 f3 f4 f5 : Addr} {d1 d2 d3 d4 d5 : FuncData} {cs fw : Fin 4 → Addr} {fdw : Fin 4 → FuncData} (F : Fun K "__init__" "Table.__init__" sTabInit f fd) (C : TabC K mg CT) (LM : LibX P w K mg base k "words_behind_marks" ["text"] spMarks f1 d1) (LZ : LibX P w K mg base k "read_size" ["word"] spSize f2 d2)
    (LS : LibX P w K mg base k "read_seats" ["word"] spSeats f3 d3) (LO : LibX P w K mg base k "read_order" ["word", "heights"] spOrd f4 d4) (LD : LibX P w K mg base k "duty_of" ["word"] (spDuty cs CN) f5 d5) (W : WordF P w K mg base k cs fw fdw) : FnOk P w K mg base CX0 (k + 1) f fd ["self", "text"] (spTab CT) := by
  refine F.ok scTab (fun vs H Q E h => ?_) (fun cdv A outer s H vs Q E hr h => ?_)
  · obtain ⟨x, dx, fx, rfl, _⟩ := h
    rfl
  obtain ⟨x, dx, fx, rfl, ok, hx, q⟩ := h
  refine ⟨_, pss_cons (ps_set (i := 2) scTab.nd rfl (Or.inl rfl) (pe_call LM.ok hr rfl LM.mg LM.kp LM.bd .nil pass1 (pa_cons (pv 1) pa_nil)))
    (pss_cons (ps_set (i := 3) scTab.nd rfl (Or.inl rfl) (pe_call LZ.ok hr rfl LZ.mg LZ.kp LZ.bd .nil pass1 (pa_cons (pe_ix ix_list (pv 2) pe_int (fun _ _ => rfl)) pa_nil)))
    (pss_cons (ps_fld (pv 0) (pe_ix ix_tup (pv 3) pe_int (fun _ _ => rfl)) rfl)
    (pss_cons (ps_fld (pv 0) (pe_ix ix_tup (pv 3) pe_int (fun _ _ => rfl)) rfl)
    (pss_cons (ps_fld (pv 0) (pe_call LS.ok hr rfl LS.mg LS.kp LS.bd .nil pass1 (pa_cons (pe_ix ix_list (pv 2) pe_int (fun _ _ => rfl)) pa_nil)) rfl)
    (pss_cons (ps_fld (pv 0) (pe_methF0 (pe_call LD.ok hr rfl LD.mg LD.kp LD.bd .nil pass1 (pa_cons (pe_ix ix_list (pv 2) pe_int (fun _ _ => rfl)) pa_nil)) W hr pass0) rfl)
    (pss_cons (ps_fld (pv 0) (pe_call LO.ok hr rfl LO.mg LO.kp LO.bd .nil pass1 (pa_cons (pe_ix ix_list (pv 2) pe_int (fun _ _ => rfl)) (pa_cons (pe_fld (pv 0) rfl) pa_nil))) rfl)
    (pss_cons (ps_fld (pv 0) (pe_call LO.ok hr rfl LO.mg LO.kp LO.bd .nil pass1 (pa_cons (pe_ix ix_list (pv 2) pe_int (fun _ _ => rfl)) (pa_cons (pe_fld (pv 0) rfl) pa_nil))) rfl)
    (pss_one (ps_fld (pv 0) (pv 1) rfl))))))))), ?_⟩
  refine ⟨_, rfl, fx, rfl, ok, fun l H1 s1 hl hL => ?_⟩
  have hx1 := s1 _ _ hx
  have nlx : l ≠ x := ne_of hL hx1 (by intro z; cases z)
  refine ⟨_, rfl, l, _, 0, .str (sizeT fx), rfl, rfl, SqL.of hL, rfl, fx, rfl, ok, fun p H2 s2 hp hP => ?_⟩
  have hx2 := s2 _ _ hx1
  have hL2 := s2 _ _ hL
  have npx : p ≠ x := ne_of hP hx2 (by intro z; cases z)
  refine ⟨_, rfl, p, _, 0, .int (fx.s : Nat), rfl, rfl, SqT.of hP, rfl, _, rfl, x, CT, dx, [], rfl, hx2, C.cl, C.nS, by decide, ?_⟩
  refine ⟨_, rfl, p, [.int (fx.s : Nat), .int (fx.h : Nat)], 1, .int (fx.h : Nat), rfl, rfl, SqT.of (by rw [upd_ne npx]; exact hP), rfl, _, rfl, x, CT, dx, tF1 fx 0 0, rfl, upd_same, C.cl, C.nH, Nat.lt_of_le_of_lt (tF1_len _ _ _) (by decide), ?_⟩
  have k2 : Keep x H (upd H2 x (.ins CT dx (tF2 fx 0 0))) := (Keep.of (s1.trans s2)).trans Keep.upd
  have hL3 : (upd H2 x (.ins CT dx (tF2 fx 0 0))) l = some (.lst (vS [sizeT fx, seatT fx, wd fx.d, figS fx.pl, figS fx.tr])) := by rw [upd_ne nlx]; exact hL2
  have hx3 : (upd H2 x (.ins CT dx (tF2 fx 0 0))) x = some (.ins CT dx (tF2 fx 0 0)) := upd_same
  refine fromH (H := upd H2 x (.ins CT dx (tF2 fx 0 0))) ?_ ?_
  · first | rfl | exact upd_upd | (rw [upd_upd]; rfl)
  revert k2 hL3 hx3
  generalize upd H2 x (.ins CT dx (tF2 fx 0 0)) = H3
  intro k2 hL3 hx3
  refine ⟨_, rfl, l, _, 1, .str (seatT fx), rfl, rfl, SqL.of hL3, rfl, fx, rfl, ok, fun H4 s4 => ⟨_, rfl, x, CT, dx, tF2 fx 0 0, rfl, s4 _ _ hx3, C.cl, C.nN, Nat.lt_of_le_of_lt (tF2_len _ _ _) (by decide), ?_⟩⟩
  have k4 : Keep x H (upd H4 x (.ins CT dx (tF3 fx 0 0))) := k2.trans ((Keep.of s4).trans Keep.upd)
  have hL5 : (upd H4 x (.ins CT dx (tF3 fx 0 0))) l = some (.lst (vS [sizeT fx, seatT fx, wd fx.d, figS fx.pl, figS fx.tr])) := by rw [upd_ne nlx]; exact s4 _ _ hL3
  have hx5 : (upd H4 x (.ins CT dx (tF3 fx 0 0))) x = some (.ins CT dx (tF3 fx 0 0)) := upd_same
  refine fromH (H := upd H4 x (.ins CT dx (tF3 fx 0 0))) ?_ ?_
  · first | rfl | exact upd_upd | (rw [upd_upd]; rfl)
  revert k4 hL5 hx5
  generalize upd H4 x (.ins CT dx (tF3 fx 0 0)) = H5
  intro k4 hL5 hx5
  refine ⟨_, rfl, l, _, 2, .str (wd fx.d), rfl, rfl, SqL.of hL5, rfl, wd fx.d, rfl, fun i e y dy H6 s6 hy h6 => ?_, fun z => absurd (mem_wd _) z⟩
  have ei := wd_inj _ _ e
  subst ei
  refine ⟨fx.d, y, dy, [], rfl, h6, rfl, y, rfl, _, rfl, x, CT, dx, tF3 fx 0 0, rfl, s6 _ _ hx5, C.cl, C.nD, Nat.lt_of_le_of_lt (tF3_len _ _ _) (by decide), ?_⟩
  have k6 : Keep x H (upd H6 x (.ins CT dx (tF4 fx 0 0))) := k4.trans ((Keep.of s6).trans Keep.upd)
  have hL7 : (upd H6 x (.ins CT dx (tF4 fx 0 0))) l = some (.lst (vS [sizeT fx, seatT fx, wd fx.d, figS fx.pl, figS fx.tr])) := by rw [upd_ne nlx]; exact s6 _ _ hL5
  have hx7 : (upd H6 x (.ins CT dx (tF4 fx 0 0))) x = some (.ins CT dx (tF4 fx 0 0)) := upd_same
  refine fromH (H := upd H6 x (.ins CT dx (tF4 fx 0 0))) ?_ ?_
  · first | rfl | exact upd_upd | (rw [upd_upd]; rfl)
  revert k6 hL7 hx7
  generalize upd H6 x (.ins CT dx (tF4 fx 0 0)) = H7
  intro k6 hL7 hx7
  refine ⟨_, rfl, l, _, 3, .str (figS fx.pl), rfl, rfl, SqL.of hL7, rfl, _, rfl, x, CT, dx, _, _, rfl, hx7, C.cl, C.nH, look4_heights _ _ _, fx.pl, fx.h, rfl, ok.h8, ok.pp, fun po H8 s8 hpo hP8 => ⟨_, rfl, x, CT, dx, tF4 fx po 0, rfl, s8 _ _ hx7, C.cl, C.nP, Nat.lt_of_le_of_lt (tF4_len _ _ _) (by decide), ?_⟩⟩
  have nox : po ≠ x := fun z => by
    rw [z, hx7] at hpo
    cases hpo
  have k8 : Keep x H (upd H8 x (.ins CT dx (tF5 fx po 0))) := k6.trans ((Keep.of s8).trans Keep.upd)
  have hL9 : (upd H8 x (.ins CT dx (tF5 fx po 0))) l = some (.lst (vS [sizeT fx, seatT fx, wd fx.d, figS fx.pl, figS fx.tr])) := by rw [upd_ne nlx]; exact s8 _ _ hL7
  have hP9 : (upd H8 x (.ins CT dx (tF5 fx po 0))) po = some (.tup (vN fx.pl)) := by rw [upd_ne nox]; exact hP8
  have hx9 : (upd H8 x (.ins CT dx (tF5 fx po 0))) x = some (.ins CT dx (tF5 fx po 0)) := upd_same
  refine fromH (H := upd H8 x (.ins CT dx (tF5 fx po 0))) ?_ ?_
  · first | rfl | exact upd_upd | (rw [upd_upd]; rfl)
  revert k8 hL9 hP9 hx9
  generalize upd H8 x (.ins CT dx (tF5 fx po 0)) = H9
  intro k8 hL9 hP9 hx9
  refine ⟨_, rfl, l, _, 4, .str (figS fx.tr), rfl, rfl, SqL.of hL9, rfl, _, rfl, x, CT, dx, _, _, rfl, hx9, C.cl, C.nH, look5_heights _ _ _, fx.tr, fx.h, rfl, ok.h8, ok.pt, fun to H10 s10 hto hT10 => ⟨_, rfl, x, CT, dx, tF5 fx po to, rfl, s10 _ _ hx9, C.cl, C.nT, Nat.lt_of_le_of_lt (tF5_len _ _ _) (by decide), ?_⟩⟩
  have ntx : to ≠ x := fun z => by
    rw [z, hx9] at hto
    cases hto
  refine ⟨_, rfl, _, rfl, x, CT, dx, tF6 fx po to, rfl, upd_same, C.cl, C.nW, Nat.lt_of_le_of_lt (tF6_len _ _ _) (by decide), ?_⟩
  rw [upd_upd]
  refine q po to _ (k8.trans ((Keep.of s10).trans Keep.upd)) upd_same ?_ ?_
  · rw [upd_ne nox]; exact s10 _ _ hP9
  · rw [upd_ne ntx]; exact hT10
end
end My

namespace My
open PySem L2
abbrev sTabText : Stmt := inClass (top 29) 1
abbrev sTabDuty : Stmt := inClass (top 29) 2
abbrev sTabOrder : Stmt := inClass (top 29) 3
abbrev sGamInit : Stmt := inClass (top 30) 0
abbrev sCell : Stmt := top 32
abbrev sMixed : Stmt := top 33
abbrev sOrder : Stmt := top 34
section
variable {P : Program} {w : World} {K : PySem.W.Frag} {mg : Str → Option Value} {base : Heap} {f g : Addr} {fd gd : FuncData}
/-! ### a table's answers -/
def spTText (CT : Addr) : Sp := fun vs H Q _ => ∃ (x : Addr) (f : Fx), vs = [.ref x] ∧ IsTab CT f H x ∧ Q (.str (tabT f)) H
def spTDuty (CT : Addr) : Sp := fun vs H Q _ => ∃ (x : Addr) (f : Fx), vs = [.ref x] ∧ IsTab CT f H x ∧ Q (.str (wd f.d)) H
theorem scTDuty : FnScope ["self"] ["self"] (defScope sTabDuty) := ⟨rfl, rfl, rfl, by decide +kernel, rfl, by decide +kernel, by decide +kernel⟩
theorem ok_tduty {k : Nat} {CT : Addr} (F : Fun K "duty" "Table.duty" sTabDuty f fd) (C : TabC K mg CT) : FnOk P w K mg base CX0 (k + 1) f fd ["self"] (spTDuty CT) := by
  refine F.ok scTDuty (fun vs H Q E h => ?_) (fun cdv A outer s H vs Q E hr h => ?_)
  · obtain ⟨x, fx, rfl, _⟩ := h
    rfl
  obtain ⟨x, fx, rfl, ⟨dx, po, to, hx, _, _⟩, q⟩ := h
  refine ⟨_, pss_one (ps_ret (pe_fld (pv 0) rfl)), ?_⟩
  exact ⟨_, rfl, x, CT, dx, _, _, rfl, hx, C.cl, C.nD, look7_duty_word _ _ _, q⟩
def ordOf (f : Fx) (b : Bool) : List Nat := if b then f.tr else f.pl
def spTOrder (CT : Addr) : Sp := fun vs H Q _ => ∃ (x : Addr) (f : Fx) (b : Bool), vs = [.ref x, .bl b] ∧ IsTab CT f H x ∧ ∀ l H', Same H H' → H l = none → H' l = some (.lst (vN (ordOf f b))) → Q (.ref l) H'
theorem scTOrder : FnScope ["self", "is_trump"] ["self", "is_trump"] (defScope sTabOrder) := ⟨rfl, rfl, rfl, by decide +kernel, rfl, by decide +kernel, by decide +kernel⟩
theorem ok_torder {k : Nat} {CT : Addr} (F : Fun K "order" "Table.order" sTabOrder f fd) (C : TabC K mg CT) (mLi : mg "list" = none) : FnOk P w K mg base CX0 (k + 1) f fd ["self", "is_trump"] (spTOrder CT) := by
  refine F.ok scTOrder (fun vs H Q E h => ?_) (fun cdv A outer s H vs Q E hr h => ?_)
  · obtain ⟨x, fx, b, rfl, _⟩ := h
    rfl
  obtain ⟨x, fx, b, rfl, ⟨dx, po, to, hx, hp, ht⟩, q⟩ := h
  refine ⟨_, pss_one (ps_ret (pe_callTy call_list_of rfl mLi PyProof.Rows.boot_list (pa_cons (pe_ifExp (pt_truth (pv 1) (fun _ => rfl)) (pe_fld (pv 0) rfl) (pe_fld (pv 0) rfl)) pa_nil))), ?_⟩
  refine ⟨_, rfl, b, rfl, ?_⟩
  cases b with
  | true => exact iteT ⟨_, rfl, x, CT, dx, _, _, rfl, hx, C.cl, C.nT, look7_trump_order _ _ _, to, _, rfl, .inr (SqT.of ht), fun l hl => q l _ (same_upd hl _) hl upd_same⟩
  | false => exact iteF ⟨_, rfl, x, CT, dx, _, _, rfl, hx, C.cl, C.nP, look7_plain_order _ _ _, po, _, rfl, .inr (SqT.of hp), fun l hl => q l _ (same_upd hl _) hl upd_same⟩
/-! ### Game -/
def spGam (CG : Addr) : Sp := fun vs H Q _ => ∃ (g dg x : Addr) (tv : V), vs = [.ref g, .ref x, tv] ∧ H g = some (.ins CG dg []) ∧ Q .non (upd H g (.ins CG dg (gamF x tv)))
theorem scGam : FnScope ["self", "table", "trump"] ["self", "table", "trump"] (defScope sGamInit) := ⟨rfl, rfl, rfl, by decide +kernel, rfl, by decide +kernel, by decide +kernel⟩
theorem ok_gam {k : Nat} {CG : Addr} (F : FunD K "__init__" "Game.__init__" sGamInit f fd) (C : GamC K mg CG) : FnOk P w K mg base CX0 (k + 1) f fd ["self", "table", "trump"] (spGam CG) := by
  refine F.ok scGam (fun vs H Q E h => ?_) (fun cdv A outer s H vs Q E hr h => ?_)
  · obtain ⟨g, dg, x, tv, rfl, _⟩ := h
    rfl
  obtain ⟨g, dg, x, tv, rfl, hg, q⟩ := h
  refine ⟨_, pss_cons (ps_fld (pv 0) (pv 1) rfl) (pss_one (ps_fld (pv 0) (pv 2) rfl)), ?_⟩
  refine ⟨_, rfl, _, rfl, g, CG, dg, [], rfl, hg, C.cl, C.nT, by decide, ?_⟩
  refine ⟨_, rfl, _, rfl, g, CG, dg, putF "table" (.ref x) [], rfl, upd_same, C.cl, C.nU, Nat.lt_of_le_of_lt (length_putF _ _ _) (by decide), ?_⟩
  rw [upd_upd]
  exact q
/-! ### the law's own drawings -/
def spCell (K : PySem.W.Frag) : Sp := fun vs H Q _ => ∃ (a : Addr) (ns : List Int) (k : Nat), vs = [.ref a, .int (k : Nat)] ∧ SqL K H a (ns.map V.int) ∧ k ≤ 1000 ∧ ∀ z : Int, Q (.int z) H
abbrev pCell : List Str := ["_law_script", "_law_k"]
theorem scCell : FnScope ["_law_script", "_law_k", "_law_number"] pCell (defScope sCell) := ⟨rfl, rfl, rfl, by decide +kernel, rfl, by decide +kernel, by decide +kernel⟩
theorem ok_cell {k : Nat} (F : Fun K "_law_cell" "_law_cell" sCell f fd) (ml : mg "len" = none) : FnOk P w K mg base CX0 (k + 1) f fd pCell (spCell K) := by
  refine F.ok scCell (fun vs H Q E h => ?_) (fun cdv A outer s H vs Q E hr h => ?_)
  · obtain ⟨a, ns, k, rfl, _⟩ := h
    rfl
  obtain ⟨a, ns, j, rfl, hS, h1, q⟩ := h
  refine ⟨_, pss_cons (ps_if (pt_cmpR op_lt (pv 1) (pe_callB call_len_seq rfl ml PySem.boot_len (pa_cons (pv 0) pa_nil)) (nomark _)) (pss_one (ps_ret (pe_ix ix_list (pv 0) (pv 1) (fun _ _ => rfl)))) pss_nil)
    (pss_cons (ps_set (i := 2) scCell.nd rfl (Or.inl rfl) (pe_op op_add (pe_op op_mul (pv 1) pe_int) pe_int))
    (pss_cons (ps_if (pt_cmpR op_gt (pe_callB call_len_seq rfl ml PySem.boot_len (pa_cons (pv 0) pa_nil)) pe_int (nomark _))
      (pss_one (ps_set (i := 2) scCell.nd rfl (Or.inl rfl) (pe_op op_mod (pe_op op_add (pe_op op_mul (pe_ix ix_list (pv 0) (pe_op op_mod (pe_op op_mul (pv 1) pe_int) (pe_callB call_len_seq rfl ml PySem.boot_len (pa_cons (pv 0) pa_nil))) (fun _ _ => rfl)) pe_int) (pe_op op_mul (pv 1) pe_int)) pe_int))) pss_nil)
    (pss_one (ps_ret (pe_op op_mod (pe_op op_mul (pv 2) (pv 2)) pe_int))))), ?_⟩
  have hl : (ns.map V.int).length = ns.length := List.length_map _
  refine ⟨_, rfl, _, rfl, a, _, rfl, .inl hS, _, _, rfl, rfl, _, rfl, ite2 (fun c => ?_) (fun c => ?_)⟩
  · have c' : ((j : Nat) : Int) < (((ns.map V.int).length : Nat) : Int) := of_decide_eq_true c
    have hj : j < ns.length := by rw [hl] at c'; omega
    exact ⟨_, rfl, _, rfl, a, _, _, _, rfl, rfl, hS, atI_nat (by rw [List.getElem?_map, List.getElem?_eq_getElem hj]; rfl), q _⟩
  refine ⟨_, rfl, _, _, rfl, rfl, .inr ⟨by decide, by decide⟩, _, _, rfl, rfl, ?_⟩
  refine ⟨_, rfl, a, _, rfl, .inl hS, _, _, rfl, rfl, _, rfl, ?_⟩
  refine cut_if (fun σ H' => H' = H ∧ ∃ z : Int, 0 ≤ z ∧ z < 4294967296 ∧ σ = [some (.ref a), some (.int (j : Nat)), some (.int z)]) (fun c D' _ nx => ?_) (fun c D' _ nx => ?_) (fun σ H' z => ?_)
  · have c' : (((ns.map V.int).length : Nat) : Int) > 0 := of_decide_eq_true c
    rw [hl] at c'
    obtain ⟨v, hv⟩ := item_at (ns := ns) (k := (j : Int) * 7) (by omega)
    refine ⟨_, rfl, _, rfl, _, _, rfl, rfl, .inr ⟨by decide, by decide⟩, _, rfl, a, _, rfl, .inl hS, _, _, rfl, rfl, (by rw [hl]; omega), a, _, _, _, rfl, rfl, hS, hv, _, _, rfl, rfl, .inr ⟨by decide, by decide⟩, _, rfl, _, _, rfl, rfl, .inr ⟨by decide, by decide⟩, _, _, rfl, rfl, _, _, rfl, rfl, (show (0 : Int) < 2147483647 by decide), ?_⟩
    refine nx _ _ ⟨rfl, _, Int.emod_nonneg _ (by decide), ?_, rfl⟩
    have := Int.emod_lt_of_pos (v * 48271 + (j : Int) * 7919) (show (0 : Int) < 2147483647 by decide)
    omega
  · exact nx _ _ ⟨rfl, (j : Int) * 7919 + 5, by omega, by omega, rfl⟩
  · obtain ⟨rfl, z, z0, z1, rfl⟩ := z
    exact ⟨_, rfl, _, rfl, _, _, rfl, rfl, .inl ⟨by omega, by omega⟩, _, _, rfl, rfl, (show (0 : Int) < 2147483629 by decide), q _⟩
def spMixed : Sp := fun vs H Q _ => ∃ (c : Int) (k : Nat), vs = [.int c, .int (k : Nat)] ∧ k ≤ 1000 ∧ ∀ z : Int, 0 ≤ z → Q (.int z) H
theorem scMixed : FnScope ["_law_cell_here", "_law_k", "_law_number"] ["_law_cell_here", "_law_k"] (defScope sMixed) := ⟨rfl, rfl, rfl, by decide +kernel, rfl, by decide +kernel, by decide +kernel⟩
theorem ok_mixed {k : Nat} (F : Fun K "_law_mixed" "_law_mixed" sMixed f fd) : FnOk P w K mg base CX0 (k + 1) f fd ["_law_cell_here", "_law_k"] spMixed := by
  refine F.ok scMixed (fun vs H Q E h => ?_) (fun cdv A outer s H vs Q E hr h => ?_)
  · obtain ⟨c, k, rfl, _⟩ := h
    rfl
  obtain ⟨c, j, rfl, h1, q⟩ := h
  refine ⟨_, pss_cons (ps_set (i := 2) scMixed.nd rfl (Or.inl rfl) (pe_op op_mod (pe_op op_mul (pe_op op_add (pe_op op_mod (pv 0) pe_int) pe_int) (pe_op op_add (pe_op op_mul (pv 1) (pv 1)) pe_int)) pe_int))
    (pss_one (ps_ret (pe_op op_mod (pe_op op_mul (pv 2) (pe_op op_add (pv 2) (pv 1))) pe_int))), ?_⟩
  have a0 := Int.emod_nonneg c (show (2147483647 : Int) ≠ 0 by decide)
  have a1 := Int.emod_lt_of_pos c (show (0 : Int) < 2147483647 by decide)
  refine ⟨_, rfl, _, _, rfl, rfl, (show (0 : Int) < 2147483647 by decide), _, _, rfl, rfl, _, rfl, _, rfl, _, _, rfl, rfl, .inl ⟨by omega, by omega⟩, _, _, rfl, rfl, _, _, rfl, rfl, .inl ⟨by omega, by omega⟩, _, _, rfl, rfl, (show (0 : Int) < 2147483629 by decide), ?_⟩
  have b0 := Int.emod_nonneg ((c % 2147483647 + 1) * ((j : Int) * (j : Int) + 48271)) (show (2147483629 : Int) ≠ 0 by decide)
  have b1 := Int.emod_lt_of_pos ((c % 2147483647 + 1) * ((j : Int) * (j : Int) + 48271)) (show (0 : Int) < 2147483629 by decide)
  exact ⟨_, rfl, _, rfl, _, rfl, _, _, rfl, rfl, _, _, rfl, rfl, .inl ⟨by omega, by omega⟩, _, _, rfl, rfl, (show (0 : Int) < 2147483587 by decide), q _ (Int.emod_nonneg _ (by decide))⟩
def spOrder (K : PySem.W.Frag) : Sp := fun vs H Q _ => ∃ (c : Int) (h : Nat), vs = [.int c, .int (h : Nat)] ∧ 1 ≤ h ∧ h ≤ 8 ∧ ∀ l ls H', Same H H' → H l = none → H' l = some (.lst (vN ls)) → ls.Perm (List.range h) → Q (.ref l) H'
abbrev nOrder : List Str := ["_law_cell_here", "_law_heights", "_law_spare", "_law_order_here", "_law_k"]
theorem scOrder : FnScope nOrder ["_law_cell_here", "_law_heights"] (defScope sOrder) := ⟨rfl, rfl, rfl, by decide +kernel, rfl, by decide +kernel, by decide +kernel⟩
theorem erase_map {α β : Type} (f : α → β) : ∀ (l : List α) (i : Nat), (l.map f).eraseIdx i = (l.eraseIdx i).map f
  | [], i => rfl
  | x :: l, 0 => rfl
  | x :: l, i + 1 => by
    show f x :: (l.map f).eraseIdx i = f x :: (l.eraseIdx i).map f
    rw [erase_map f l i]
theorem range_vN (h : Nat) : ((List.range h).filter fun _ => true).map (fun i => V.int ((0 : Int) + (i : Nat))) = vN (List.range h) := by
  rw [List.filter_eq_self.mpr (fun _ _ => rfl)]
  unfold vN
  refine List.map_congr_left fun i _ => ?_
  rw [Int.zero_add]
theorem ok_order {k : Nat} (F : Fun K "_law_order" "_law_order" sOrder f fd) (mr : mg "range" = none) : FnOk P w K mg base CX0 (k + 1) f fd ["_law_cell_here", "_law_heights"] (spOrder K) := by
  refine F.ok scOrder (fun vs H Q E h => ?_) (fun cdv A outer s H vs Q E hr h => ?_)
  · obtain ⟨c, h, rfl, _⟩ := h
    rfl
  obtain ⟨c, h, rfl, h1, h8, q⟩ := h
  refine ⟨_, pss_cons (ps_setcomp (i := 2) ["_law_height"] [none] rfl scOrder.nd rfl (Or.inl rfl) (Blk.by (sc := defScope sOrder) (N0 := nOrder) rfl rfl (by decide +kernel)) (pi_range1 rfl mr (pa_cons (pv 1) pa_nil)) (fun C s₀ H₀ ex => pg_name (i := 0) (show (["_law_height"] : List Str).Nodup by decide +kernel) rfl (Or.inl rfl)) (fun C s₀ H₀ ex => pf_nil) (fun C s₀ H₀ ex => pv 0))
    (pss_cons (ps_set (i := 3) scOrder.nd rfl (Or.inl rfl) (pe_lst pa_nil))
    (pss_cons (ps_for PassesOwn.never rfl (pi_range1 rfl mr (pa_cons (pv 1) pa_nil)) (pg_name (i := 4) scOrder.nd rfl (Or.inl rfl))
      (pss_cons (ps_expr (pe_bm PySem.F.plainAttrs_list PySem.F.slot_list_append PySem.F.type_list_append mt_append (pv 3) (pa_cons (pe_bm PySem.F.plainAttrs_list PySem.F.slot_list_pop PySem.F.type_list_pop mt_popAt (pv 2) (pa_cons (pe_op op_mod (pv 0) (pe_op op_sub (pv 1) (pv 4))) pa_nil)) pa_nil)))
      (pss_one (ps_set (i := 0) scOrder.nd rfl (Or.inl rfl) (pe_op op_fdiv (pv 0) (pe_op op_sub (pv 1) (pv 4)))))))
    (pss_one (ps_ret (pv 3))))), ?_⟩
  refine ⟨_, rfl, (h : Int), rfl, by omega, by omega, ?_⟩
  refine comp_range (n := h) (lo := 0) (fun _ => true) (fun i => .int ((0 : Int) + (i : Nat))) (fits3 _ (by omega)) (fun i H2 hi sm R hR => hR H2 (Same.refl H2)) (fun i H2 hi hp sm R hR => ⟨_, rfl, hR H2 (Same.refl H2)⟩) (fun l1 H1 s1 hl1 hL1 => ?_)
  rw [range_vN] at hL1
  refine ⟨fits3 0 (by decide), fun l2 hl2 => ?_⟩
  have n12 : l1 ≠ l2 := ne_of_none hL1 hl2
  refine ⟨_, rfl, (h : Int), rfl, by omega, by omega, ?_⟩
  refine for_range (n := h) (fun i σ H' => Same H H' ∧ ∃ (c : Int) (sp od : List Nat) (x4 : Option V), σ = [some (.int c), some (.int (h : Nat)), some (.ref l1), some (.ref l2), x4] ∧ H' l1 = some (.lst (vN sp)) ∧ H' l2 = some (.lst (vN od)) ∧ (od ++ sp).Perm (List.range h) ∧ sp.length + i = h ∧ od.length = i)
    ⟨s1.trans (same_upd hl2 _), c, List.range h, [], _, rfl, same_upd hl2 _ _ _ hL1, upd_same, List.Perm.refl _, List.length_range, rfl⟩ (fun i σ H2 hi z => ?_) (fun σ H2 z => ?_)
  · obtain ⟨s2, c, sp, od, x4, rfl, g1, g2, pm, hsp, hod⟩ := z
    have hd : (0 : Int) < ((h : Nat) : Int) - (0 + (i : Nat)) := by omega
    have m0 := Int.emod_nonneg c (show ((h : Nat) : Int) - (0 + (i : Nat)) ≠ 0 by omega)
    have m1 := Int.emod_lt_of_pos c hd
    obtain ⟨j, hj⟩ := Int.eq_ofNat_of_zero_le m0
    have hj2 : j < sp.length := by omega
    have ex : (vN sp)[j]? = some (.int ((sp[j] : Nat) : Int)) := by
      unfold vN
      rw [List.getElem?_map, List.getElem?_eq_getElem hj2]
      rfl
    refine ⟨_, rfl, .inl ⟨rfl, _, SqL.of g2⟩, _, rfl, .inl ⟨rfl, _, SqL.of g1⟩, _, rfl, _, rfl, _, rfl, _, _, rfl, rfl, _, _, rfl, rfl, hd, l1, vN sp, _, j, _, rfl, rfl, g1, by omega, by omega, (by rw [hj, vN_len, seqIndex_of (by omega) (by omega)]; rfl), ex, ?_⟩
    refine ⟨l2, vN od, _, rfl, rfl, (by rw [upd_ne n12.symm]; exact g2), (by rw [vN_len]; have := fits3 100 (by decide); omega), ?_⟩
    refine ⟨_, rfl, _, rfl, _, rfl, _, _, rfl, rfl, _, _, rfl, rfl, ⟨hd, by omega⟩, ?_⟩
    have e1 : (vN sp).eraseIdx j = vN (sp.eraseIdx j) := by exact erase_map _ _ _
    have e2 : vN od ++ [.int ((sp[j] : Nat) : Int)] = vN (od ++ [sp[j]]) := by unfold vN; rw [List.map_append]; rfl
    refine ⟨?_, _, sp.eraseIdx j, od ++ [sp[j]], _, rfl, ?_, ?_, ?_, ?_, ?_⟩
    · intro b o hb
      have hb1 : b ≠ l1 := fun z => by rw [z, hl1] at hb; cases hb
      have hb2 : b ≠ l2 := fun z => by rw [z, s1.free hl2] at hb; cases hb
      rw [upd_ne hb2, upd_ne hb1]
      exact s2 _ _ hb
    · rw [upd_ne n12, upd_same, e1]
    · rw [upd_same, e2]
    · rw [List.append_assoc]
      exact ((perm_erase sp j sp[j] (List.getElem?_eq_getElem hj2)).append_left od).symm.trans pm
    · rw [List.length_eraseIdx, if_pos hj2]
      omega
    · rw [List.length_append]
      simp [hod]
  · obtain ⟨s2, c, sp, od, x4, rfl, g1, g2, pm, hsp, hod⟩ := z
    have e : sp = [] := List.eq_nil_of_length_eq_zero (by omega)
    subst e
    rw [List.append_nil] at pm
    exact ⟨_, rfl, q l2 od H2 s2 (s1.free hl2) g2 pm⟩
end
end My

namespace My
open PySem L2
abbrev sTable : Stmt := top 35
abbrev sText : Stmt := top 36
section
variable {P : Program} {w : World} {K : PySem.W.Frag} {mg : Str → Option Value} {base : Heap} {f g : Addr} {fd gd : FuncData}
/-! ### a table's facts, drawn, and their text -/
def IsFx (f : Fx) (H : Hp) (l : Addr) : Prop := ∃ pl tr, H l = some (.lst [.int (f.s : Nat), .int (f.h : Nat), .int (f.n : Nat), .str (wd f.d), .ref pl, .ref tr]) ∧ H pl = some (.lst (vN f.pl)) ∧ H tr = some (.lst (vN f.tr))
theorem IsFx.same {f : Fx} {H H' : Hp} {l : Addr} (h : IsFx f H l) (s : Same H H') : IsFx f H' l := by
  obtain ⟨pl, tr, a, b, c⟩ := h
  exact ⟨pl, tr, s _ _ a, s _ _ b, s _ _ c⟩
def spTable (K : PySem.W.Frag) : Sp := fun vs H Q _ => ∃ (a : Addr) (ns : List Int), vs = [.ref a] ∧ SqL K H a (ns.map V.int) ∧ ∀ l f H', f.Ok → Same H H' → H l = none → IsFx f H' l → Q (.ref l) H'
abbrev nTable : List Str := ["_law_script", "_law_cell_here", "_law_heights", "_law_plain", "_law_trump_here", "_law_word"]
theorem scTable : FnScope nTable ["_law_script"] (defScope sTable) := ⟨rfl, rfl, rfl, by decide +kernel, rfl, by decide +kernel, by decide +kernel⟩
theorem ok_table {k : Nat} {f1 f2 f3 : Addr} {d1 d2 d3 : FuncData} (F : Fun K "_law_table" "_law_table" sTable f fd) (LC : Lib P w K mg base k "_law_cell" pCell (spCell K) f1 d1) (LX : Lib P w K mg base k "_law_mixed" ["_law_cell_here", "_law_k"] spMixed f2 d2)
    (LO : Lib P w K mg base k "_law_order" ["_law_cell_here", "_law_heights"] (spOrder K) f3 d3) (mr : mg "range" = none) : FnOk P w K mg base CX0 (k + 1) f fd ["_law_script"] (spTable K) := by
  refine F.ok scTable (fun vs H Q E h => ?_) (fun cdv A outer s H vs Q E hr h => ?_)
  · obtain ⟨a, ns, rfl, _⟩ := h
    rfl
  obtain ⟨a, ns, rfl, hS, q⟩ := h
  refine ⟨_, pss_cons (ps_set (i := 1) scTable.nd rfl (Or.inl rfl) (pe_call LC.ok hr rfl LC.mg LC.kp LC.bd .nil pass0 (pa_cons (pv 0) (pa_cons pe_int pa_nil))))
    (pss_cons (ps_set (i := 2) scTable.nd rfl (Or.inl rfl) (pe_op op_add pe_int (pe_op op_mod (pe_op op_fdiv (pv 1) pe_int) pe_int)))
    (pss_cons (ps_setcomp (i := 3) ["_law_height"] [none] rfl scTable.nd rfl (Or.inl rfl) (Blk.by (sc := defScope sTable) (N0 := nTable) rfl rfl (by decide +kernel)) (pi_range1 rfl mr (pa_cons (pv 2) pa_nil)) (fun C s₀ H₀ ex => pg_name (i := 0) (show (["_law_height"] : List Str).Nodup by decide +kernel) rfl (Or.inl rfl)) (fun C s₀ H₀ ex => pf_nil) (fun C s₀ H₀ ex => pv 0))
    (pss_cons (ps_if (pt_cmpR op_gt (pe_op op_mod (pe_op op_fdiv (pv 1) pe_int) pe_int) pe_int (nomark _)) (pss_one (ps_set (i := 3) scTable.nd rfl (Or.inl rfl) (pe_call LO.ok hr rfl LO.mg LO.kp LO.bd .nil pass0 (pa_cons (pe_call LX.ok hr rfl LX.mg LX.kp LX.bd .nil pass0 (pa_cons (pv 1) (pa_cons pe_int pa_nil))) (pa_cons (pv 2) pa_nil))))) pss_nil)
    (pss_cons (ps_set (i := 4) scTable.nd rfl (Or.inl rfl) (pe_call LO.ok hr rfl LO.mg LO.kp LO.bd .nil pass0 (pa_cons (pe_call LX.ok hr rfl LX.mg LX.kp LX.bd .nil pass0 (pa_cons (pv 1) (pa_cons pe_int pa_nil))) (pa_cons (pv 2) pa_nil))))
    (pss_cons (ps_set (i := 5) scTable.nd rfl (Or.inl rfl) (pe_ix ix_list (pe_lst (pa_cons pe_str (pa_cons pe_str (pa_cons pe_str (pa_cons pe_str pa_nil))))) (pe_op op_mod (pe_op op_fdiv (pv 1) pe_int) pe_int) (fun _ _ => rfl)))
    (pss_one (ps_ret (pe_lst (pa_cons (pe_op op_add pe_int (pe_op op_mod (pv 1) pe_int)) (pa_cons (pv 2) (pa_cons (pe_op op_add pe_int (pe_op op_mod (pe_op op_fdiv (pv 1) pe_int) pe_int)) (pa_cons (pv 5) (pa_cons (pv 3) (pa_cons (pv 4) pa_nil)))))))))))))), ?_⟩
  refine ⟨_, rfl, a, ns, 0, rfl, hS, by decide, fun c => ?_⟩
  refine ⟨_, rfl, _, _, rfl, rfl, ⟨by decide, by decide⟩, _, _, rfl, rfl, (show (0 : Int) < 8 by decide), _, _, rfl, rfl, ?_⟩
  have a0 := Int.emod_nonneg (c / 8) (show (8 : Int) ≠ 0 by decide)
  have a1 := Int.emod_lt_of_pos (c / 8) (show (0 : Int) < 8 by decide)
  obtain ⟨h, eh, h1, h8⟩ : ∃ h : Nat, 1 + c / 8 % 8 = ((h : Nat) : Int) ∧ 1 ≤ h ∧ h ≤ 8 := ⟨(1 + c / 8 % 8).toNat, by omega, by omega, by omega⟩
  dsimp only
  rw [eh]
  refine ⟨_, rfl, (h : Int), rfl, by omega, by omega, ?_⟩
  refine comp_range (n := h) (lo := 0) (fun _ => true) (fun i => .int ((0 : Int) + (i : Nat))) (fits3 _ (by omega)) (fun i H2 hi sm R hR => hR H2 (Same.refl H2)) (fun i H2 hi hp sm R hR => ⟨_, rfl, hR H2 (Same.refl H2)⟩) (fun l1 H1 s1 hl1 hL1 => ?_)
  rw [range_vN] at hL1
  refine ⟨_, rfl, _, _, rfl, rfl, ⟨by decide, by decide⟩, _, _, rfl, rfl, (show (0 : Int) < 4 by decide), _, _, rfl, rfl, _, rfl, ?_⟩
  refine cut_if (fun σ H' => Same H H' ∧ ∃ (l : Addr) (ls : List Nat), ls.Perm (List.range h) ∧ H' l = some (.lst (vN ls)) ∧ σ = [some (.ref a), some (.int c), some (.int (h : Nat)), some (.ref l), none, none]) (fun _ D' _ nx => ?_) (fun _ D' _ nx => nx _ _ ⟨s1, l1, _, List.Perm.refl _, hL1, rfl⟩) (fun σ H2 z => ?_)
  · refine ⟨_, rfl, c, 1, rfl, by decide, fun z hz => ⟨_, rfl, z, h, rfl, h1, h8, fun l ls H2 s2 hl hL pm => nx _ _ ⟨s1.trans s2, l, ls, pm, hL, rfl⟩⟩⟩
  obtain ⟨s2, lp, ls, pp, hP, rfl⟩ := z
  refine ⟨_, rfl, c, 2, rfl, by decide, fun z hz => ⟨_, rfl, z, h, rfl, h1, h8, fun lt lts H3 s3 hlt hT pt => ?_⟩⟩
  refine ⟨fits3 4 (by decide), fun lw hlw => ?_⟩
  have s4 := same_upd hlw (.lst (vS wds))
  obtain ⟨v, hv, ev⟩ := pickA (vS wds) 4 rfl (by decide) (c / 256)
  obtain ⟨t, ht, rfl⟩ := List.mem_map.mp hv
  obtain ⟨d, rfl⟩ := wd_mem ht
  refine ⟨_, rfl, _, _, rfl, rfl, ⟨by decide, by decide⟩, _, _, rfl, rfl, (show (0 : Int) < 4 by decide), lw, _, _, _, rfl, rfl, SqL.of upd_same, ev, ?_⟩
  refine ⟨_, rfl, _, _, rfl, rfl, (show (0 : Int) < 4 by decide), _, _, rfl, rfl, _, rfl, _, rfl, _, _, rfl, rfl, ⟨by decide, by decide⟩, _, _, rfl, rfl, (show (0 : Int) < 2 by decide), _, _, rfl, rfl, _, rfl, _, rfl, _, rfl, fits3 6 (by decide), fun l hl => ?_⟩
  have b0 := Int.emod_nonneg c (show (4 : Int) ≠ 0 by decide)
  have b1 := Int.emod_lt_of_pos c (show (0 : Int) < 4 by decide)
  have d0 := Int.emod_nonneg (c / 4) (show (2 : Int) ≠ 0 by decide)
  have d1 := Int.emod_lt_of_pos (c / 4) (show (0 : Int) < 2 by decide)
  obtain ⟨sN, es, s1', s4'⟩ : ∃ n : Nat, 1 + c % 4 = ((n : Nat) : Int) ∧ 1 ≤ n ∧ n ≤ 4 := ⟨(1 + c % 4).toNat, by omega, by omega, by omega⟩
  obtain ⟨nN, en, n34⟩ : ∃ n : Nat, 3 + c / 4 % 2 = ((n : Nat) : Int) ∧ (n = 3 ∨ n = 4) := ⟨(3 + c / 4 % 2).toNat, by omega, by omega⟩
  have sA := s2.trans (s3.trans s4)
  have s5 := same_upd hl (.lst [.int (1 + c % 4), .int (h : Nat), .int (3 + c / 4 % 2), .str (wd d), .ref lp, .ref lt])
  refine q l ⟨sN, h, nN, d, ls, lts⟩ _ ⟨s1', s4', h1, h8, n34, pp, pt⟩ (sA.trans s5) (sA.free hl) ⟨lp, lt, ?_, s5 _ _ (s4 _ _ (s3 _ _ hP)), s5 _ _ (s4 _ _ hT)⟩
  show (upd _ l (.lst [.int (1 + c % 4), .int (h : Nat), .int (3 + c / 4 % 2), .str (wd d), .ref lp, .ref lt])) l = _
  rw [upd_same, es, en]
def spText (K : PySem.W.Frag) : Sp := fun vs H Q _ => ∃ (l : Addr) (f : Fx), vs = [.ref l] ∧ f.Ok ∧ IsFx f H l ∧ ∀ H', Same H H' → Q (.str (tabT f)) H'
abbrev nText : List Str := ["_law_facts", "_law_suits", "_law_heights", "_law_seats", "_law_word", "_law_plain", "_law_trump_here", "_law_line"]
theorem scText : FnScope nText ["_law_facts"] (defScope sText) := ⟨rfl, rfl, rfl, by decide +kernel, rfl, by decide +kernel, by decide +kernel⟩
theorem ok_text {k : Nat} (F : Fun K "_law_text" "_law_text" sText f fd) (ms : mg "str" = none) : FnOk P w K mg base CX0 (k + 1) f fd ["_law_facts"] (spText K) := by
  refine F.ok scText (fun vs H Q E h => ?_) (fun cdv A outer s H vs Q E hr h => ?_)
  · obtain ⟨l, f, rfl, _⟩ := h
    rfl
  obtain ⟨l, fx, rfl, ok, ⟨pl, tr, hL, hP, hT⟩, q⟩ := h
  refine ⟨_, pss_cons (ps_asg (pv 0) (pg_lst rfl (pgs_cons (pg_name (i := 1) scText.nd rfl (Or.inl rfl)) (pgs_cons (pg_name (i := 2) scText.nd rfl (Or.inl rfl)) (pgs_cons (pg_name (i := 3) scText.nd rfl (Or.inl rfl)) (pgs_cons (pg_name (i := 4) scText.nd rfl (Or.inl rfl)) (pgs_cons (pg_name (i := 5) scText.nd rfl (Or.inl rfl)) (pgs_cons (pg_name (i := 6) scText.nd rfl (Or.inl rfl)) pgs_nil))))))))
    (pss_cons (ps_set (i := 7) scText.nd rfl (Or.inl rfl) (pe_op op_add_str (pe_op op_add_str (pe_op op_add_str (pe_op op_add_str (pe_op op_add_str pe_str (pe_callTy call_str_int rfl ms PyProof.Rows.boot_str (pa_cons (pv 1) pa_nil))) pe_str) (pe_callTy call_str_int rfl ms PyProof.Rows.boot_str (pa_cons (pv 2) pa_nil))) pe_str) (pe_callTy call_str_int rfl ms PyProof.Rows.boot_str (pa_cons (pv 3) pa_nil))))
    (pss_cons (ps_set (i := 7) scText.nd rfl (Or.inl rfl) (pe_op op_add_str (pe_op op_add_str (pe_op op_add_str (pe_op op_add_str (pv 7) pe_str) (pv 4)) pe_str) (pe_bm PySem.F.plainAttrs_str PySem.F.slot_str_join PySem.F.type_str_join mt_join pe_str (pa_cons (pe_comp ["_law_height"] [none] rfl (Blk.by (sc := defScope sText) (N0 := nText) rfl rfl (by decide +kernel)) (pi_list (pv 5)) (fun C s₀ H₀ ex => pg_name (i := 0) (show (["_law_height"] : List Str).Nodup by decide +kernel) rfl (Or.inl rfl)) (fun C s₀ H₀ ex => pf_nil)
        (fun C s₀ H₀ ex => pe_callTy call_str_int rfl ms PyProof.Rows.boot_str (pa_cons (pe_op op_add (pv 0) pe_int) pa_nil))) pa_nil))))
    (pss_one (ps_ret (pe_op op_add_str (pe_op op_add_str (pv 7) pe_str) (pe_bm PySem.F.plainAttrs_str PySem.F.slot_str_join PySem.F.type_str_join mt_join pe_str (pa_cons (pe_comp ["_law_height"] [none] rfl (Blk.by (sc := defScope sText) (N0 := nText) rfl rfl (by decide +kernel)) (pi_list (pv 6)) (fun C s₀ H₀ ex => pg_name (i := 0) (show (["_law_height"] : List Str).Nodup by decide +kernel) rfl (Or.inl rfl)) (fun C s₀ H₀ ex => pf_nil)
        (fun C s₀ H₀ ex => pe_callTy call_str_int rfl ms PyProof.Rows.boot_str (pa_cons (pe_op op_add (pv 0) pe_int) pa_nil))) pa_nil))))))), ?_⟩
  refine ⟨_, rfl, l, _, rfl, SqL.of hL, rfl, _, _, rfl, _, _, rfl, _, _, rfl, _, _, rfl, _, _, rfl, _, _, rfl, rfl, ?_⟩
  have sm : ∀ i : Nat, i ≤ 8 → (((i : Nat) : Int).natAbs).log2 < 1920 := fun i hi => by
    have : ((i : Nat) : Int).natAbs = i := rfl
    rw [this]
    exact Nat.lt_of_le_of_lt (Nat.log2_le_self i) (by omega)
  have s4 := ok.s4
  have h8 := ok.h8
  have n4 : fx.n ≤ 8 := by rcases ok.n34 with e | e <;> omega
  have one : ∀ x : Nat, (⟨#[x]⟩ : Str).length ≤ 1 := fun _ => Nat.le_refl 1
  have w1 : ("pack " : Str).length ≤ 5 := by decide +kernel
  have w2 : ("x" : Str).length ≤ 1 := by decide +kernel
  have w3 : (" seats " : Str).length ≤ 7 := by decide +kernel
  have w4 : (" duty " : Str).length ≤ 6 := by decide +kernel
  have w5 : (" plain " : Str).length ≤ 7 := by decide +kernel
  have w6 : (" trump " : Str).length ≤ 7 := by decide +kernel
  have wl := (wd_len fx.d).2
  refine ⟨_, rfl, _, rfl, sm _ (by omega), ?_⟩
  rw [str_num _ (by omega)]
  refine ⟨_, _, rfl, rfl, fitsAB w1 (one _) (by decide), _, _, rfl, rfl, fitsAB (app_le w1 (one _)) w2 (by decide), _, rfl, _, rfl, sm _ h8, ?_⟩
  rw [str_num _ h8]
  refine ⟨_, _, rfl, rfl, fitsAB (app_le (app_le w1 (one _)) w2) (one _) (by decide), _, _, rfl, rfl, fitsAB (app_le (app_le (app_le w1 (one _)) w2) (one _)) w3 (by decide), _, rfl, _, rfl, sm _ n4, ?_⟩
  rw [str_num _ n4]
  refine ⟨_, _, rfl, rfl, fitsAB (app_le (app_le (app_le (app_le w1 (one _)) w2) (one _)) w3) (one _) (by decide), ?_⟩
  have L1 := app_le (app_le (app_le (app_le (app_le w1 (one (48 + fx.s))) w2) (one (48 + fx.h))) w3) (one (48 + fx.n))
  refine ⟨_, rfl, _, _, rfl, rfl, fitsAB L1 w4 (by decide), _, rfl, _, _, rfl, rfl, fitsAB (app_le L1 w4) wl (by decide), _, _, rfl, rfl, fitsAB (app_le (app_le L1 w4) wl) w5 (by decide), ?_⟩
  have L2 := app_le (app_le (app_le L1 w4) wl) w5
  have num : ∀ (ls : List Nat) (x : V), ls.Perm (List.range fx.h) → x ∈ vN ls → ∃ i : Nat, i + 1 ≤ 8 ∧ x = .int (i : Nat) := fun ls x pm hx => by
    obtain ⟨i, hi, rfl⟩ := List.mem_map.mp hx
    have := perm_lt pm i hi
    exact ⟨i, by omega, rfl⟩
  refine ⟨rfl, _, rfl, pl, rfl, ⟨_, SqL.of hP⟩, comp_list (K := K) (xs := vN fx.pl) (fun _ => true) sgV (SqL.of hP) (by rw [vN_len, perm_len ok.pp]; exact fits3 _ (by omega)) (fun x H3 hx s3 R hR => hR H3 (Same.refl H3)) (fun x H3 hx hp s3 R hR => ?_) (fun l1 H1 s1 hl1 hL1 => ?_)⟩
  · obtain ⟨i, hi, rfl⟩ := num _ x ok.pp hx
    refine ⟨_, rfl, _, _, rfl, rfl, _, rfl, sm (i + 1) hi, ?_⟩
    show R (.str (toString (((i + 1 : Nat) : Nat) : Int))) H3
    rw [str_num _ hi]
    have := hR H3 (Same.refl H3)
    rwa [sgV_int] at this
  rw [sgV_list] at hL1
  have j1 := join_sgn fx.pl
  have jl : (Txt.join "" (fx.pl.map sgn)).length ≤ 8 := by rw [j1, figS_len, perm_len ok.pp]; exact h8
  refine ⟨_, l1, fx.pl.map sgn, rfl, rfl, SqL.of hL1, sgn_sum ok.pp h8, _, _, rfl, rfl, fitsAB L2 jl (by decide), ?_⟩
  refine ⟨_, rfl, _, _, rfl, rfl, fitsAB (app_le L2 jl) w6 (by decide), ?_⟩
  have L3 := app_le (app_le L2 jl) w6
  have hT1 := s1 _ _ hT
  refine ⟨rfl, _, rfl, tr, rfl, ⟨_, SqL.of hT1⟩, comp_list (K := K) (xs := vN fx.tr) (fun _ => true) sgV (SqL.of hT1) (by rw [vN_len, perm_len ok.pt]; exact fits3 _ (by omega)) (fun x H3 hx s3 R hR => hR H3 (Same.refl H3)) (fun x H3 hx hp s3 R hR => ?_) (fun l2 H2 s2 hl2 hL2 => ?_)⟩
  · obtain ⟨i, hi, rfl⟩ := num _ x ok.pt hx
    refine ⟨_, rfl, _, _, rfl, rfl, _, rfl, sm (i + 1) hi, ?_⟩
    show R (.str (toString (((i + 1 : Nat) : Nat) : Int))) H3
    rw [str_num _ hi]
    have := hR H3 (Same.refl H3)
    rwa [sgV_int] at this
  rw [sgV_list] at hL2
  have j2 := join_sgn fx.tr
  have jl2 : (Txt.join "" (fx.tr.map sgn)).length ≤ 8 := by rw [j2, figS_len, perm_len ok.pt]; exact h8
  refine ⟨_, l2, fx.tr.map sgn, rfl, rfl, SqL.of hL2, sgn_sum ok.pt h8, _, _, rfl, rfl, fitsAB L3 jl2 (by decide), ?_⟩
  have et : (("pack " : Str) ++ ⟨#[48 + fx.s]⟩ ++ "x" ++ ⟨#[48 + fx.h]⟩ ++ " seats " ++ ⟨#[48 + fx.n]⟩ ++ " duty " ++ wd fx.d ++ " plain " ++ Txt.join "" (fx.pl.map sgn) ++ " trump " ++ Txt.join "" (fx.tr.map sgn)) = tabT fx := by
    rw [j1, j2]
    exact text_eq fx
  rw [et]
  exact q _ (s1.trans s2)
end
end My

namespace My
open PySem L2
/-! ### the pack -/
def packL (s h : Nat) : List Nat := (List.range s).flatMap fun u => (List.range h).map fun v => 8 * u + v
def packN (s h : Nat) : Nat := ((packL s h).map (2 ^ ·)).sum
end My

namespace L2
open PySem PySem.Spec PyProof.Rows
/-! ### x is True, x is False, of a truth -/
end L2

namespace My
open PySem L2
/-! ### which card goes over which -/
def pos (x : Nat) : List Nat → Nat
  | [] => 0
  | y :: l => if y = x then 0 else pos x l + 1
theorem pos_at {x : Nat} : ∀ {l : List Nat}, x ∈ l → l[pos x l]? = some x ∧ ∀ m < pos x l, l[m]? ≠ some x
  | [], h => nomatch h
  | y :: l, h => by
    unfold pos
    by_cases c : y = x
    · rw [if_pos c]
      exact ⟨by rw [c]; rfl, fun m hm => absurd hm (Nat.not_lt_zero _)⟩
    · rw [if_neg c]
      have hl : x ∈ l := by
        rcases List.mem_cons.mp h with e | e
        · exact absurd e.symm c
        · exact e
      obtain ⟨a, b⟩ := pos_at hl
      refine ⟨a, fun m hm => ?_⟩
      cases m with
      | zero => exact fun z => c (Option.some.inj z)
      | succ m => exact b m (by omega)
theorem pos_inj {l : List Nat} {x y : Nat} (hx : x ∈ l) (hy : y ∈ l) (e : pos x l = pos y l) : x = y := by
  have a := (pos_at hx).1
  have b := (pos_at hy).1
  rw [e, b] at a
  exact (Option.some.inj a).symm
def tvV : Option Nat → V
  | none => .non
  | some t => .int (t : Nat)
theorem tv_eq (t : Option Nat) (s : Nat) : decide (V.int (s : Nat) = tvV t) = decide (t = some s) := by
  cases t with
  | none =>
    rw [decide_eq_false (fun z => nomatch z), decide_eq_false (fun z => nomatch z)]
  | some u =>
    by_cases c : s = u
    · subst c
      rw [decide_eq_true (show V.int (s : Nat) = tvV (some s) from rfl), decide_eq_true rfl]
    · rw [decide_eq_false (fun z => c (by injection z with z; omega)), decide_eq_false (fun z => c (Option.some.inj z).symm)]
theorem tv_scal (t : Option Nat) (s : Int) : scal (.int s) (tvV t) = true := by cases t <;> rfl
theorem tv_flat (t : Option Nat) : flatV (tvV t) = true := by cases t <;> rfl
def overB (f : Fx) (t : Option Nat) (c o led : Nat) : Bool :=
  if c / 8 = o / 8 then decide (c / 8 = led ∨ t = some (c / 8)) && decide (pos (o % 8) (if t = some (c / 8) then f.tr else f.pl) < pos (c % 8) (if t = some (c / 8) then f.tr else f.pl))
  else if t = some (c / 8) then true else decide (c / 8 = led) && !decide (t = some (o / 8))
theorem ov_same {f : Fx} {t : Option Nat} {c o led : Nat} (h : c / 8 = o / 8) : overB f t c o led = (decide (c / 8 = led ∨ t = some (c / 8)) && decide (pos (o % 8) (if t = some (c / 8) then f.tr else f.pl) < pos (c % 8) (if t = some (c / 8) then f.tr else f.pl))) := if_pos h
theorem ov_diff {f : Fx} {t : Option Nat} {c o led : Nat} (h : ¬ c / 8 = o / 8) : overB f t c o led = (if t = some (c / 8) then true else decide (c / 8 = led) && !decide (t = some (o / 8))) := if_neg h
theorem over_not_both (f : Fx) (t : Option Nat) (c o led : Nat) : overB f t c o led = true → overB f t o c led = true → False := by
  by_cases s : c / 8 = o / 8
  · rw [ov_same s, ov_same s.symm, ← s]
    intro a b
    rw [Bool.and_eq_true, decide_eq_true_eq, decide_eq_true_eq] at a b
    omega
  · rw [ov_diff s, ov_diff (fun z => s z.symm)]
    by_cases c1 : t = some (c / 8)
    · have c2 : ¬ t = some (o / 8) := fun z => s (by rw [c1] at z; exact Option.some.inj z)
      rw [if_neg c2]
      intro _ b
      rw [decide_eq_true c1] at b
      simp at b
    · rw [if_neg c1]
      by_cases c2 : t = some (o / 8)
      · intro a _
        rw [decide_eq_true c2] at a
        simp at a
      · rw [if_neg c2]
        intro a b
        rw [Bool.and_eq_true, decide_eq_true_eq] at a b
        omega
theorem over_strong {f : Fx} (ok : f.Ok) {t : Option Nat} {c o led : Nat} (hc : c % 8 < f.h) (ho : o % 8 < f.h) (ne : c ≠ o) (s1 : c / 8 = led ∨ t = some (c / 8)) (s2 : o / 8 = led ∨ t = some (o / 8)) : overB f t c o led = true ∨ overB f t o c led = true := by
  by_cases s : c / 8 = o / 8
  · rw [ov_same s, ov_same s.symm, ← s, decide_eq_true s1, Bool.true_and, Bool.true_and, decide_eq_true_eq, decide_eq_true_eq]
    have hmem : ∀ x, x < f.h → x ∈ (if t = some (c / 8) then f.tr else f.pl) := fun x hx => by
      split
      · exact ok.pt.symm.subset (List.mem_range.mpr hx)
      · exact ok.pp.symm.subset (List.mem_range.mpr hx)
    have np : pos (c % 8) (if t = some (c / 8) then f.tr else f.pl) ≠ pos (o % 8) (if t = some (c / 8) then f.tr else f.pl) := fun z => by
      have := pos_inj (hmem _ hc) (hmem _ ho) z
      omega
    omega
  · rw [ov_diff s, ov_diff (fun z => s z.symm)]
    by_cases c1 : t = some (c / 8)
    · exact .inl (if_pos c1)
    · by_cases c2 : t = some (o / 8)
      · exact .inr (if_pos c2)
      · exfalso
        rcases s1 with s1 | s1
        · rcases s2 with s2 | s2
          · omega
          · exact c2 s2
        · exact c1 s1
theorem inV_two (s led : Nat) (t : Option Nat) : inV (.int (s : Nat)) [tvV t, .int (led : Nat)] = decide (s = led ∨ t = some s) := by
  have e : inV (.int (s : Nat)) [tvV t, .int (led : Nat)] = (eqV (tvV t) (.int (s : Nat)) || (eqV (.int (led : Nat)) (.int (s : Nat)) || false)) := rfl
  rw [e]
  have e1 : eqV (tvV t) (.int (s : Nat)) = decide (t = some s) := by
    cases t with
    | none => rw [decide_eq_false (fun z => nomatch z)]; rfl
    | some u =>
      show (((u : Nat) : Int) == (s : Nat)) = _
      by_cases c : u = s
      · subst c; simp
      · rw [decide_eq_false (fun z => c (Option.some.inj z))]
        exact beq_eq_false_iff_ne.mpr (by omega)
  have e2 : eqV (.int (led : Nat)) (.int (s : Nat)) = decide (s = led) := by
    show (((led : Nat) : Int) == (s : Nat)) = _
    by_cases c : s = led
    · subst c; simp
    · rw [decide_eq_false c]
      exact beq_eq_false_iff_ne.mpr (by omega)
  rw [e1, e2]
  by_cases a : s = led <;> by_cases b : t = some s <;> simp [a, b]
theorem in_vN (x : Nat) : ∀ (l : List Nat), inV (.int (x : Nat)) (vN l) = decide (x ∈ l)
  | [] => by rw [decide_eq_false (List.not_mem_nil)]; rfl
  | y :: l => by
    have e : inV (.int (x : Nat)) (vN (y :: l)) = ((((y : Nat) : Int) == (x : Nat)) || inV (.int (x : Nat)) (vN l)) := rfl
    rw [e, in_vN x l]
    by_cases c : x = y
    · subst c
      simp
    · have b : (((y : Nat) : Int) == (x : Nat)) = false := beq_eq_false_iff_ne.mpr (by omega)
      rw [b, Bool.false_or]
      by_cases d : x ∈ l
      · rw [decide_eq_true d, decide_eq_true (List.mem_cons_of_mem _ d)]
      · rw [decide_eq_false d, decide_eq_false fun z => by
          rcases List.mem_cons.mp z with z | z
          · exact c z
          · exact d z]
theorem vN_flat : ∀ (l : List Nat), (vN l).all flatV = true
  | [] => rfl
  | _ :: l => by
    show (true && (vN l).all flatV) = true
    rw [vN_flat l]
    rfl
theorem ix_vN {l : List Nat} {x : Nat} (h : x ∈ l) : (l.map fun c => ((c : Nat) : Int))[pos x l]? = some ((x : Nat) : Int) ∧ ∀ m < pos x l, (l.map fun c => ((c : Nat) : Int))[m]? ≠ some ((x : Nat) : Int) := by
  obtain ⟨a, b⟩ := pos_at h
  refine ⟨by rw [List.getElem?_map, a]; rfl, fun m hm z => ?_⟩
  rw [List.getElem?_map] at z
  cases e : l[m]? with
  | none => rw [e] at z; cases z
  | some y =>
    rw [e] at z
    have : ((y : Nat) : Int) = (x : Nat) := Option.some.inj z
    have ey : y = x := by omega
    rw [ey] at e
    exact b m hm e
end My

namespace My
open PySem L2
abbrev sLater : Stmt := top 28
abbrev sStronger : Stmt := inClass (top 30) 2
abbrev sOver : Stmt := inClass (top 30) 3
abbrev sLOver : Stmt := top 37
abbrev sTrump : Stmt := top 38
abbrev sCard : Stmt := top 39
section
variable {P : Program} {w : World} {K : PySem.W.Frag} {mg : Str → Option Value} {base : Heap} {f g : Addr} {fd gd : FuncData}
/-! ### is_later, is_stronger, is_over -/
theorem chg {a b : Bool} {A B : Prop} (e : a = b) (h : if b = true then A else B) : if a = true then A else B := by rw [e]; exact h
theorem chgQ {a b : Bool} {Q : VK} {H : Hp} (e : a = b) (h : Q (.bl b) H) : Q (.bl a) H := by rw [e]; exact h
def spLater (K : PySem.W.Frag) : Sp := fun vs H Q _ => ∃ (l : Addr) (ls : List Nat) (x y : Nat), vs = [.ref l, .int (x : Nat), .int (y : Nat)] ∧ SqL K H l (vN ls) ∧ ls.length ≤ 1000 ∧ x ∈ ls ∧ y ∈ ls ∧ Q (.bl (decide (pos y ls < pos x ls))) H
theorem scLater : FnScope ["order", "height", "other"] ["order", "height", "other"] (defScope sLater) := ⟨rfl, rfl, rfl, by decide +kernel, rfl, by decide +kernel, by decide +kernel⟩
theorem ok_later {k : Nat} (F : Fun K "is_later" "is_later" sLater f fd) : FnOk P w K mg base CX0 (k + 1) f fd ["order", "height", "other"] (spLater K) := by
  refine F.ok scLater (fun vs H Q E h => ?_) (fun cdv A outer s H vs Q E hr h => ?_)
  · obtain ⟨l, ls, x, y, rfl, _⟩ := h
    rfl
  obtain ⟨l, ls, x, y, rfl, hS, hl, hx, hy, q⟩ := h
  refine ⟨_, pss_cons (ps_if (PW.pt (pw_or (pt_cmpR op_notIn_seq (pv 1) (pv 0) rfl) (pw_or1 (pt_cmpR op_notIn_seq (pv 2) (pv 0) rfl)))) (pss_one (ps_ret pe_bl)) pss_nil)
    (pss_one (ps_ret (pe_cmpR op_gt (pe_bm PySem.F.plainAttrs_list PySem.F.slot_list_index PySem.F.type_list_index mt_index (pv 0) (pa_cons (pv 1) pa_nil)) (pe_bm PySem.F.plainAttrs_list PySem.F.slot_list_index PySem.F.type_list_index mt_index (pv 0) (pa_cons (pv 2) pa_nil)) (nomark _)))), ?_⟩
  refine ⟨_, rfl, _, rfl, l, vN ls, rfl, .inl hS, rfl, vN_flat _, _, rfl, ?_⟩
  show (if (!inV (.int (x : Nat)) (vN ls)) = true then _ else _)
  rw [in_vN, decide_eq_true hx]
  refine iteF ⟨_, rfl, _, rfl, l, vN ls, rfl, .inl hS, rfl, vN_flat _, _, rfl, ?_⟩
  show (if (!inV (.int (y : Nat)) (vN ls)) = true then _ else _)
  rw [in_vN, decide_eq_true hy]
  refine iteF ?_
  have hS' : SqL K H l ((ls.map fun c => ((c : Nat) : Int)).map V.int) := by rw [← vN_ints]; exact hS
  have ll : (ls.map fun c => ((c : Nat) : Int)).length ≤ 1000 := by rw [List.length_map]; exact hl
  refine ⟨_, rfl, .inl ⟨rfl, _, hS⟩, _, rfl, l, _, _, pos x ls, rfl, rfl, hS', ll, (ix_vN hx).1, (ix_vN hx).2, ?_⟩
  refine ⟨_, rfl, .inl ⟨rfl, _, hS⟩, _, rfl, l, _, _, pos y ls, rfl, rfl, hS', ll, (ix_vN hy).1, (ix_vN hy).2, _, _, rfl, rfl, ?_⟩
  have e : decide (((pos y ls : Nat) : Int) < ((pos x ls : Nat) : Int)) = decide (pos y ls < pos x ls) := by
    by_cases c : pos y ls < pos x ls
    · rw [decide_eq_true c, decide_eq_true (by omega)]
    · rw [decide_eq_false c, decide_eq_false (by omega)]
  show Q (.bl (decide (((pos y ls : Nat) : Int) < ((pos x ls : Nat) : Int)))) H
  rw [e]
  exact q
def ordT (f : Fx) (t : Option Nat) (c : Nat) : List Nat := if t = some (c / 8) then f.tr else f.pl
theorem ordT_mem {f : Fx} (ok : f.Ok) {t : Option Nat} {c x : Nat} (hx : x < f.h) : x ∈ ordT f t c := by
  unfold ordT
  split
  · exact ok.pt.symm.subset (List.mem_range.mpr hx)
  · exact ok.pp.symm.subset (List.mem_range.mpr hx)
theorem ordT_len {f : Fx} (ok : f.Ok) {t : Option Nat} {c : Nat} : (ordT f t c).length ≤ 1000 := by
  have h8 := ok.h8
  unfold ordT
  split
  · rw [perm_len ok.pt]; omega
  · rw [perm_len ok.pp]; omega
def spStronger (CT CG : Addr) : Sp := fun vs H Q _ => ∃ (gm x : Addr) (t : Option Nat) (f : Fx) (c o : Nat), vs = [.ref gm, .int (c : Nat), .int (o : Nat)] ∧ f.Ok ∧ IsGam CG x (tvV t) H gm ∧ IsTab CT f H x ∧ c % 8 < f.h ∧ o % 8 < f.h ∧ ∀ H', Same H H' → Q (.bl (decide (pos (o % 8) (ordT f t c) < pos (c % 8) (ordT f t c)))) H'
theorem scStronger : FnScope ["self", "card", "other", "order"] ["self", "card", "other"] (defScope sStronger) := ⟨rfl, rfl, rfl, by decide +kernel, rfl, by decide +kernel, by decide +kernel⟩
theorem ok_stronger {k : Nat} {CT CG f1 m3 : Addr} {d1 e3 : FuncData} {t1 : Tok} (F : Fun K "is_stronger" "Game.is_stronger" sStronger f fd) (C : TabC K mg CT) (CGm : GamC K mg CG) (LL : Lib P w K mg base k "is_later" ["order", "height", "other"] (spLater K) f1 d1)
    (MO : Meth K CT "order" m3) (FO : FnOk P w K mg base CX0 k m3 e3 ["self", "is_trump"] (spTOrder CT)) (BO : Binds K e3 ["self", "is_trump"] []) (mH : mg "HEIGHTS" = some (.int 8 t1)) : FnOk P w K mg base CX0 (k + 1) f fd ["self", "card", "other"] (spStronger CT CG) := by
  refine F.ok scStronger (fun vs H Q E h => ?_) (fun cdv A outer s H vs Q E hr h => ?_)
  · obtain ⟨gm, x, t, fx, c, o, rfl, _⟩ := h
    rfl
  obtain ⟨gm, x, t, fx, c, o, rfl, ok, hg, ht, hc, ho, q⟩ := h
  refine ⟨_, pss_cons (ps_set (i := 3) scStronger.nd rfl (Or.inl rfl) (pe_meth (pe_fld (pv 0) rfl) C.cl MO FO hr BO .nil pass0 (pa_cons (pe_cmpR op_eq (pe_op op_fdiv (pv 1) (pe_glob (v := .int 8) rfl mH ⟨_, rfl⟩)) (pe_fld (pv 0) rfl) (nomark _)) pa_nil)))
    (pss_one (ps_ret (pe_call LL.ok hr rfl LL.mg LL.kp LL.bd .nil pass0 (pa_cons (pv 3) (pa_cons (pe_op op_mod (pv 1) (pe_glob (v := .int 8) rfl mH ⟨_, rfl⟩)) (pa_cons (pe_op op_mod (pv 2) (pe_glob (v := .int 8) rfl mH ⟨_, rfl⟩)) pa_nil)))))), ?_⟩
  obtain ⟨dg, hG⟩ := id hg
  obtain ⟨dx, po, to, hX, _, _⟩ := id ht
  have e1 : ((c : Nat) : Int) / 8 = ((c / 8 : Nat) : Int) := by omega
  refine ⟨_, rfl, gm, CG, dg, _, _, rfl, hG, CGm.cl, CGm.nT, gam_table _ _, x, dx, _, rfl, hX, look7_order _ _ _, ?_⟩
  refine ⟨_, rfl, _, _, rfl, rfl, ⟨by decide, by decide⟩, _, rfl, gm, CG, dg, _, _, rfl, hG, CGm.cl, CGm.nU, gam_trump _ _, tv_scal _ _, x, fx, decide (t = some (c / 8)), ?_, ht, fun l H1 s1 hl hL => ?_⟩
  · show V.ref x :: ([V.bl (decide (V.int (((c : Nat) : Int) / 8) = tvV t))] ++ []) = [V.ref x, V.bl (decide (t = some (c / 8)))]
    rw [e1, tv_eq]
    rfl
  have eo : ordOf fx (decide (t = some (c / 8))) = ordT fx t c := by
    unfold ordOf ordT
    by_cases z : t = some (c / 8)
    · rw [if_pos z, if_pos (decide_eq_true z)]
    · rw [if_neg z, if_neg (by rw [decide_eq_false z]; decide)]
  rw [eo] at hL
  have e2 : ((c : Nat) : Int) % 8 = ((c % 8 : Nat) : Int) := by omega
  have e3 : ((o : Nat) : Int) % 8 = ((o % 8 : Nat) : Int) := by omega
  refine ⟨_, rfl, _, rfl, _, _, rfl, rfl, (show (0 : Int) < 8 by decide), _, rfl, _, _, rfl, rfl, (show (0 : Int) < 8 by decide), l, ordT fx t c, c % 8, o % 8, ?_, SqL.of hL, ordT_len ok, ordT_mem ok hc, ordT_mem ok ho, q _ s1⟩
  dsimp only
  rw [e2, e3]
  rfl
def spOver (CT CG : Addr) : Sp := fun vs H Q _ => ∃ (gm x : Addr) (t : Option Nat) (f : Fx) (c o led : Nat), vs = [.ref gm, .int (c : Nat), .int (o : Nat), .int (led : Nat)] ∧ f.Ok ∧ IsGam CG x (tvV t) H gm ∧ IsTab CT f H x ∧ c % 8 < f.h ∧ o % 8 < f.h ∧ ∀ H', Same H H' → Q (.bl (overB f t c o led)) H'
abbrev pOver : List Str := ["self", "card", "other", "led"]
theorem scOver : FnScope ["self", "card", "other", "led", "suit"] pOver (defScope sOver) := ⟨rfl, rfl, rfl, by decide +kernel, rfl, by decide +kernel, by decide +kernel⟩
theorem dec_nat (a b : Nat) : decide (V.int (a : Nat) = V.int (b : Nat)) = decide (a = b) := by
  by_cases c : a = b
  · subst c
    rw [decide_eq_true rfl, decide_eq_true rfl]
  · rw [decide_eq_false c, decide_eq_false (fun z => c (by injection z with z; omega))]
theorem ok_over {k : Nat} {CT CG m3 : Addr} {e3 : FuncData} {t1 : Tok} (F : Fun K "is_over" "Game.is_over" sOver f fd) (CGm : GamC K mg CG) (MS : Meth K CG "is_stronger" m3) (FS : FnOk P w K mg base CX0 k m3 e3 ["self", "card", "other"] (spStronger CT CG)) (BS : Binds K e3 ["self", "card", "other"] []) (mH : mg "HEIGHTS" = some (.int 8 t1)) :
    FnOk P w K mg base CX0 (k + 1) f fd pOver (spOver CT CG) := by
  refine F.ok scOver (fun vs H Q E h => ?_) (fun cdv A outer s H vs Q E hr h => ?_)
  · obtain ⟨gm, x, t, fx, c, o, led, rfl, _⟩ := h
    rfl
  obtain ⟨gm, x, t, fx, c, o, led, rfl, ok, hg, ht, hc, ho, q⟩ := h
  refine ⟨_, pss_cons (ps_set (i := 4) scOver.nd rfl (Or.inl rfl) (pe_op op_fdiv (pv 1) (pe_glob (v := .int 8) rfl mH ⟨_, rfl⟩)))
    (pss_cons (ps_if (pt_cmpR op_eq (pv 4) (pe_op op_fdiv (pv 2) (pe_glob (v := .int 8) rfl mH ⟨_, rfl⟩)) (nomark _)) (pss_one (ps_ret (pe_and (pe_cmpR op_in_seq (pv 4) (pe_tup (pa_cons (pe_fld (pv 0) rfl) (pa_cons (pv 3) pa_nil))) rfl) (pe_one (pe_meth (pv 0) CGm.cl MS FS hr BS .nil pass0 (pa_cons (pv 1) (pa_cons (pv 2) pa_nil))))))) pss_nil)
    (pss_cons (ps_if (pt_cmpR op_eq (pv 4) (pe_fld (pv 0) rfl) (nomark _)) (pss_one (ps_ret pe_bl)) pss_nil)
    (pss_one (ps_ret (pe_and (pe_cmpR op_eq (pv 4) (pv 3) (nomark _)) (pe_one (pe_cmpR op_ne (pe_op op_fdiv (pv 2) (pe_glob (v := .int 8) rfl mH ⟨_, rfl⟩)) (pe_fld (pv 0) rfl) (nomark _)))))))), ?_⟩
  obtain ⟨dg, hG⟩ := id hg
  have e1 : ((c : Nat) : Int) / 8 = ((c / 8 : Nat) : Int) := by omega
  have e2 : ((o : Nat) : Int) / 8 = ((o / 8 : Nat) : Int) := by omega
  refine ⟨_, rfl, _, _, rfl, rfl, ⟨by decide, by decide⟩, ?_⟩
  dsimp only
  rw [e1]
  refine ⟨_, rfl, _, rfl, _, _, rfl, rfl, ⟨by decide, by decide⟩, rfl, _, rfl, ?_⟩
  refine chg (congrArg (fun z => decide (V.int ((c / 8 : Nat) : Int) = V.int z)) e2) ?_
  rw [dec_nat]
  by_cases sm : c / 8 = o / 8
  · rw [decide_eq_true sm]
    refine iteT ⟨_, rfl, _, rfl, gm, CG, dg, _, _, rfl, hG, CGm.cl, CGm.nU, gam_trump _ _, _, rfl, fits3 2 (by decide), fun p hp => ?_⟩
    have s1 := same_upd hp (.tup [tvV t, .int (led : Nat)])
    have fl : [tvV t, V.int (led : Nat)].all flatV = true := by
      show (flatV (tvV t) && (true && true)) = true
      rw [tv_flat]
      rfl
    refine ⟨p, [tvV t, .int (led : Nat)], rfl, .inr (SqT.of upd_same), rfl, fl, ?_⟩
    show ∃ b, V.bl (inV (.int ((c / 8 : Nat) : Int)) [tvV t, .int (led : Nat)]) = _ ∧ _
    rw [inV_two]
    refine ⟨_, rfl, ?_⟩
    by_cases sg : c / 8 = led ∨ t = some (c / 8)
    · rw [decide_eq_true sg]
      refine iteT ⟨_, rfl, gm, dg, _, rfl, s1 _ _ hG, gam_none _ _ _ (by decide +kernel) (by decide +kernel), _, rfl, _, rfl, gm, x, t, fx, c, o, rfl, ok, hg.same s1, ht.same s1, hc, ho, fun H2 s2 => ?_⟩
      have z := q H2 (s1.trans s2)
      rw [ov_same sm, decide_eq_true sg, Bool.true_and] at z
      exact z
    · rw [decide_eq_false sg]
      refine iteF ?_
      have z := q _ s1
      rw [ov_same sm, decide_eq_false sg, Bool.false_and] at z
      exact z
  · rw [decide_eq_false sm]
    refine iteF ⟨_, rfl, _, rfl, gm, CG, dg, _, _, rfl, hG, CGm.cl, CGm.nU, gam_trump _ _, tv_scal _ _, _, rfl, ?_⟩
    have z := q H (Same.refl _)
    rw [ov_diff sm] at z
    rw [tv_eq]
    by_cases c1 : t = some (c / 8)
    · rw [decide_eq_true c1]
      rw [if_pos c1] at z
      exact iteT z
    · rw [decide_eq_false c1]
      rw [if_neg c1] at z
      refine iteF ⟨_, rfl, _, rfl, rfl, _, rfl, ?_⟩
      rw [dec_nat]
      by_cases c2 : c / 8 = led
      · rw [decide_eq_true c2]
        rw [decide_eq_true c2, Bool.true_and] at z
        refine iteT ⟨_, rfl, _, _, rfl, rfl, ⟨by decide, by decide⟩, _, rfl, gm, CG, dg, _, _, rfl, hG, CGm.cl, CGm.nU, gam_trump _ _, tv_scal _ _, ?_⟩
        refine chgQ (congrArg (fun z => (!decide (V.int z = tvV t))) e2) ?_
        rw [tv_eq]
        exact z
      · rw [decide_eq_false c2]
        rw [decide_eq_false c2, Bool.false_and] at z
        exact iteF z
/-! ### the law's own: over, trump, card -/
def spLOver (K : PySem.W.Frag) : Sp := fun vs H Q _ => ∃ (l : Addr) (f : Fx) (t : Option Nat) (c o led : Nat), vs = [.ref l, tvV t, .int (c : Nat), .int (o : Nat), .int (led : Nat)] ∧ f.Ok ∧ IsFx f H l ∧ c % 8 < f.h ∧ o % 8 < f.h ∧ ∀ H', Same H H' → Q (.bl (overB f t c o led)) H'
abbrev pLOver : List Str := ["_law_facts", "_law_trump_here", "_law_card_here", "_law_other", "_law_led"]
def spTrump (K : PySem.W.Frag) : Sp := fun vs H Q _ => ∃ (a l : Addr) (ns : List Int) (f : Fx), vs = [.ref a, .ref l] ∧ SqL K H a (ns.map V.int) ∧ f.Ok ∧ IsFx f H l ∧ ∀ t : Option Nat, (∀ u, t = some u → u < 4) → Q (tvV t) H
theorem scTrump : FnScope ["_law_script", "_law_facts", "_law_cell_here"] ["_law_script", "_law_facts"] (defScope sTrump) := ⟨rfl, rfl, rfl, by decide +kernel, rfl, by decide +kernel, by decide +kernel⟩
theorem ok_trump {k : Nat} {f1 : Addr} {d1 : FuncData} (F : Fun K "_law_trump" "_law_trump" sTrump f fd) (LC : Lib P w K mg base k "_law_cell" pCell (spCell K) f1 d1) : FnOk P w K mg base CX0 (k + 1) f fd ["_law_script", "_law_facts"] (spTrump K) := by
  refine F.ok scTrump (fun vs H Q E h => ?_) (fun cdv A outer s H vs Q E hr h => ?_)
  · obtain ⟨a, l, ns, fx, rfl, _⟩ := h
    rfl
  obtain ⟨a, l, ns, fx, rfl, hS, ok, ⟨pl, tr, hL, _, _⟩, q⟩ := h
  refine ⟨_, pss_cons (ps_set (i := 2) scTrump.nd rfl (Or.inl rfl) (pe_call LC.ok hr rfl LC.mg LC.kp LC.bd .nil pass0 (pa_cons (pv 0) (pa_cons pe_int pa_nil))))
    (pss_cons (ps_if (pt_cmpR op_eq (pe_op op_mod (pv 2) pe_int) pe_int (nomark _)) (pss_one (ps_ret pe_non)) pss_nil)
    (pss_cons (ps_if (pt_cmpR op_eq (pe_op op_mod (pv 2) pe_int) pe_int (nomark _)) (pss_one (ps_ret (pe_op op_mod (pe_op op_fdiv (pv 2) pe_int) pe_int))) pss_nil)
    (pss_one (ps_ret (pe_op op_mod (pe_op op_fdiv (pv 2) pe_int) (pe_ix ix_list (pv 1) pe_int (fun _ _ => rfl))))))), ?_⟩
  have s1 := ok.s1
  have s4 := ok.s4
  have qi : ∀ z : Int, 0 ≤ z → z < 4 → Q (.int z) H := fun z hz h4 => by
    have := q (some z.toNat) (fun u e => by cases e; omega)
    have e : tvV (some z.toNat) = .int z := by
      show V.int ((z.toNat : Nat) : Int) = .int z
      rw [Int.toNat_of_nonneg hz]
    rw [e] at this
    exact this
  refine ⟨_, rfl, a, ns, 1, rfl, hS, by decide, fun c => ?_⟩
  refine ⟨_, rfl, _, _, rfl, rfl, (show (0 : Int) < 5 by decide), rfl, _, rfl, ite2 (fun _ => q none (fun u e => by cases e)) (fun _ => ?_)⟩
  refine ⟨_, rfl, _, _, rfl, rfl, (show (0 : Int) < 5 by decide), rfl, _, rfl, ite2 (fun _ => ?_) (fun _ => ?_)⟩
  · exact ⟨_, rfl, _, _, rfl, rfl, ⟨by decide, by decide⟩, _, _, rfl, rfl, (show (0 : Int) < 4 by decide), qi _ (Int.emod_nonneg _ (by decide)) (Int.emod_lt_of_pos _ (by decide))⟩
  · exact ⟨_, rfl, _, _, rfl, rfl, ⟨by decide, by decide⟩, _, rfl, l, _, 0, .int (fx.s : Nat), rfl, rfl, SqL.of hL, rfl, _, _, rfl, rfl, (by show (0 : Int) < ((fx.s : Nat) : Int); omega), qi _ (Int.emod_nonneg _ (by omega)) (by have := Int.emod_lt_of_pos (c / 5) (show (0 : Int) < ((fx.s : Nat) : Int) by omega); omega)⟩
def spCard (K : PySem.W.Frag) : Sp := fun vs H Q _ => ∃ (c : Int) (l : Addr) (f : Fx), vs = [.int c, .ref l] ∧ f.Ok ∧ IsFx f H l ∧ ∀ n : Nat, n / 8 < f.s → n % 8 < f.h → Q (.int (n : Nat)) H
theorem scCard : FnScope ["_law_cell_here", "_law_facts"] ["_law_cell_here", "_law_facts"] (defScope sCard) := ⟨rfl, rfl, rfl, by decide +kernel, rfl, by decide +kernel, by decide +kernel⟩
theorem ok_card {k : Nat} (F : Fun K "_law_card" "_law_card" sCard f fd) : FnOk P w K mg base CX0 (k + 1) f fd ["_law_cell_here", "_law_facts"] (spCard K) := by
  refine F.ok scCard (fun vs H Q E h => ?_) (fun cdv A outer s H vs Q E hr h => ?_)
  · obtain ⟨c, l, fx, rfl, _⟩ := h
    rfl
  obtain ⟨c, l, fx, rfl, ok, ⟨pl, tr, hL, _, _⟩, q⟩ := h
  refine ⟨_, pss_one (ps_ret (pe_op op_add (pe_op op_mul pe_int (pe_op op_mod (pv 0) (pe_ix ix_list (pv 1) pe_int (fun _ _ => rfl)))) (pe_op op_mod (pe_op op_fdiv (pv 0) (pe_ix ix_list (pv 1) pe_int (fun _ _ => rfl))) (pe_ix ix_list (pv 1) pe_int (fun _ _ => rfl))))), ?_⟩
  have s1 := ok.s1
  have s4 := ok.s4
  have h1 := ok.h1
  have h8 := ok.h8
  refine ⟨_, rfl, _, rfl, l, _, 0, .int (fx.s : Nat), rfl, rfl, SqL.of hL, rfl, _, _, rfl, rfl, (by show (0 : Int) < ((fx.s : Nat) : Int); omega), _, _, rfl, rfl, .inl ⟨by decide, by decide⟩, ?_⟩
  refine ⟨_, rfl, _, rfl, l, [.int (fx.s : Nat), .int (fx.h : Nat), .int (fx.n : Nat), .str (wd fx.d), .ref pl, .ref tr], 0, .int (fx.s : Nat), rfl, rfl, SqL.of hL, rfl, _, _, rfl, rfl, ⟨by omega, by omega⟩, _, rfl, l, [.int (fx.s : Nat), .int (fx.h : Nat), .int (fx.n : Nat), .str (wd fx.d), .ref pl, .ref tr], 1, .int (fx.h : Nat), rfl, rfl, SqL.of hL, rfl, _, _, rfl, rfl, (by show (0 : Int) < ((fx.h : Nat) : Int); omega), _, _, rfl, rfl, ?_⟩
  have a0 := Int.emod_nonneg c (show ((fx.s : Nat) : Int) ≠ 0 by omega)
  have a1 := Int.emod_lt_of_pos c (show (0 : Int) < ((fx.s : Nat) : Int) by omega)
  have b0 := Int.emod_nonneg (c / ((fx.s : Nat) : Int)) (show ((fx.h : Nat) : Int) ≠ 0 by omega)
  have b1 := Int.emod_lt_of_pos (c / ((fx.s : Nat) : Int)) (show (0 : Int) < ((fx.h : Nat) : Int) by omega)
  dsimp only
  generalize c % ((fx.s : Nat) : Int) = u at *
  generalize c / ((fx.s : Nat) : Int) % ((fx.h : Nat) : Int) = v at *
  have e : (8 : Int) * u + v = (((8 * u + v).toNat : Nat) : Int) := by omega
  rw [e]
  exact q _ (by omega) (by omega)
end
end My

namespace L2
open PySem PySem.Spec PyProof.Rows
open AutoSeq1 (wpAny_loadPart')
/-! ### for i, x in enumerate(t), t a tuple -/
section
variable {prog : Program} {w : World} {A : Around} {E : Value → Shared → Prop} {s : Shared} {it t : Addr} {i : Nat} {items : Array Value}
theorem nextOf_tup {x : Value} {Q : Value → Shared → Prop} (hI : s.heap.IsTupleIter it t i) (hT : s.heap.IsTuple t items) (hx : items[i]? = some x)
    (q : ∀ h', h'.IsTupleIter it t (i + 1) → Heap.SameBut it s.heap h' → Q x { s with heap := h' }) : wpAny (model prog w) A (Builtin.SmallTypes.nextOf (.ref it)) Q E s := by
  obtain ⟨o, g1, g2, g3⟩ := id hI
  obtain ⟨ot, k1, _, _, k2⟩ := hT
  unfold Builtin.SmallTypes.nextOf
  refine wpAny_bind (wpAny_callSpecial?_slot (name := Str.ofString "__next__") hI.typeIs F.slot_tuple_iterator_next (wpAny_call_entry F.slot_tuple_iterator_next hI.typeIs F.entry_tuple_iterator_next ?_ (F.args_tuple_iterator_next_1 _)))
  show wpAny _ _ (field (.ref it) 0 >>= _) _ _ s; refine wpAny_bind (wpAny_field g1 g3 (x := .ref t) rfl ?_)
  show wpAny _ _ (if (Value.ref t == Value.none) = true then _ else _) _ _ s; rw [if_neg (show ¬ ((Value.ref t == Value.none) = true) from Bool.false_ne_true)]
  show wpAny _ _ (field (.ref it) 1 >>= _) _ _ s; refine wpAny_bind (wpAny_field g1 g3 (x := .int i 0) rfl ?_)
  show wpAny _ _ (seqItems? (.ref t) >>= _) _ _ s; refine wpAny_bind (wpAny_seqItems k1 k2 ?_)
  simp only [Int.toNat_natCast, hx]
  exact wpAny_bind (wpAny_setField g1 g3 (by simp) (wpAny_pure ⟨x, rfl, wpAny_pure (q _ ⟨_, Heap.get?_update_self _ g1 (Obj.isFreed_of_fields (Obj.data_mapFields g3 _)), (Obj.cls_mapFields ..).trans g2, by rw [Obj.data_mapFields g3]; simp [rawInt]⟩ (Heap.SameBut.update ..))⟩))
theorem nextOf_tupE {Q : Value → Shared → Prop} (hh : A.handled = none) (hI : s.heap.IsTupleIter it t i) (hT : s.heap.IsTuple t items) (hx : items[i]? = none)
    (q : ∀ h' e, Heap.ExtBut it s.heap h' → (∃ o, h'.get? e = some o ∧ o.cls = .type "StopIteration") → E (.ref e) { s with heap := h' }) : wpAny (model prog w) A (Builtin.SmallTypes.nextOf (.ref it)) Q E s := by
  obtain ⟨o, g1, g2, g3⟩ := id hI
  obtain ⟨ot, k1, _, _, k2⟩ := hT
  unfold Builtin.SmallTypes.nextOf
  refine wpAny_bind (wpAny_callSpecial?_slot (name := Str.ofString "__next__") hI.typeIs F.slot_tuple_iterator_next (wpAny_call_entry F.slot_tuple_iterator_next hI.typeIs F.entry_tuple_iterator_next ?_ (F.args_tuple_iterator_next_1 _)))
  show wpAny _ _ (field (.ref it) 0 >>= _) _ _ s; refine wpAny_bind (wpAny_field g1 g3 (x := .ref t) rfl ?_)
  show wpAny _ _ (if (Value.ref t == Value.none) = true then _ else _) _ _ s; rw [if_neg (show ¬ ((Value.ref t == Value.none) = true) from Bool.false_ne_true)]
  show wpAny _ _ (field (.ref it) 1 >>= _) _ _ s; refine wpAny_bind (wpAny_field g1 g3 (x := .int i 0) rfl ?_)
  show wpAny _ _ (seqItems? (.ref t) >>= _) _ _ s; refine wpAny_bind (wpAny_seqItems k1 k2 ?_)
  simp only [Int.toNat_natCast, hx]
  refine wpAny_bind (wpAny_rule (wpAny_bind (wpAny_setField g1 g3 (by simp) ?_)))
  show wpAny _ _ (newExc (.type "StopIteration") [] >>= _) _ _ _; refine wpAny_bind ?_
  simp only [newExc, newTuple]
  refine wpAny_bind (wpAny_newObj_type (wpAny_bind (m := firstArgMember _ _) (wpAny_of_eq (a := Value.none) (by first | rfl | (simp only [firstArgMember]; rfl)) (wpAny_newObj_type ?_ (by size_fits)))) (by size_fits))
  simp only [raiseNew]
  refine wpAny_bind (wpAny_handled ?_); first | rw [show A.in1.handled = none from hh] | rw [hh]
  exact wpAny_bind (wpAny_pure (wpAny_throw (q _ _ (((Heap.SameBut.update ..).extBut.push _).push _) ⟨_, Heap.get?_push_size _ rfl, rfl⟩)))
end
theorem draws_tup {prog : Program} {w : World} {A : Around} (hh : A.handled = none) (it t : Addr) (hne : t ≠ it) (items : Array Value) :
    Draws prog w A it [it, t] items.size (fun i v => items[i]? = some v) (fun i h => h.IsTupleIter it t i ∧ h.IsTuple t items) where
  live := fun _ _ z => let ⟨o, ho, _⟩ := z.1; ⟨o, ho⟩
  frame := fun _ _ _ z k => ⟨z.1.at fun o e => k it (by simp) o e, let ⟨o, ho, r⟩ := z.2; ⟨o, k t (by simp) o ho, r⟩⟩
  item := fun i s Q E hi z q => by
    refine nextOf_tup z.1 z.2 (x := items[i]) (by simp [hi]) fun h' a b => ?_
    obtain ⟨o, ho, r⟩ := z.2
    exact q _ h' s.toks (by simp [hi]) ⟨a, o, b.extBut t o hne ho, r⟩ b
  done := fun s Q E z q => nextOf_tupE hh z.1 z.2 (by simp) q
theorem meets_enumT (l : Addr) (items : Array Value) (n : Nat) (dct : Option Addr) (sl : Array (Option Value)) :
    Meets (Builtin.«enumerate.__new__» ⟨[.type "enumerate", .ref l], []⟩) (fun _ R s => s.heap.get? l = some { cls := .type "tuple", dict := dct, data := .seq items n, slots := sl } ∧
      R (.ok (.ret (.ref (s.heap.push { cls := .type "tuple_iterator", data := .fields #[.ref l, .int 0 0] }).objs.size)))
        { s with heap := (s.heap.push { cls := .type "tuple_iterator", data := .fields #[.ref l, .int 0 0] }).push { cls := .type "enumerate", data := .fields #[.none, .bool false, .ref s.heap.objs.size, rawInt 0, .none, .none] } }) :=
  .of_wp fun prog w A R s h => by
    obtain ⟨hp, g, d, tk, os⟩ := s
    obtain ⟨hl, h⟩ := h
    have hq := sub_enumerate
    have hT : Heap.IsTuple (Shared.heap ⟨hp, g, d, tk, os⟩) l items := ⟨_, hl, rfl, n, rfl⟩
    wp_walk using wpAny_loadPart' hl
    refine wpAny_stack_any fun _ => wpAny_pure ?_
    split
    · rename_i c _ _ _ _ _
      cases (c == Value.type "enumerate") <;> (wp_walk using wpAny_loadPart' hl, wpAny_pyIter_tuple hT; exact ⟨_, rfl, h⟩)
    · wp_walk using wpAny_loadPart' hl, wpAny_pyIter_tuple hT
      exact ⟨_, rfl, h⟩
theorem call_enumT {prog : Program} {w : World} {A : Around} {E : Value → Shared → Prop} {s : Shared} {l : Addr} {items : Array Value} {Q : Value → Shared → Prop} (hT : s.heap.IsTuple l items)
    (q : ∀ h', IsEnum h' (s.heap.objs.size + 1) s.heap.objs.size 0 .none → h'.IsTupleIter s.heap.objs.size l 0 → h'.objs.size = s.heap.objs.size + 2 → (∀ b o, s.heap.get? b = some o → h'.get? b = some o) → Q (.ref (s.heap.objs.size + 1)) { s with heap := h' }) :
    wpAny (model prog w) A (call (.type "enumerate") [.ref l]) Q E s := by
  obtain ⟨⟨c, dct, dt, sl⟩, hl, hc, n, hd⟩ := hT
  replace hc : c = .type "tuple" := hc
  replace hd : dt = .seq items n := hd
  subst hc hd
  refine callType_new F.called_enumerate (by decide) (F.typeCall_enumerate_1 _) (F.newCall_enumerate_1 _) (fun ob => F.args_object_init_2 ob _) F.entry_enumerate_new (meets_enumT l items n dct sl) ⟨hl, ?_⟩
  have hz : (s.heap.push { cls := .type "tuple_iterator", data := .fields #[.ref l, .int 0 0] }).objs.size = s.heap.objs.size + 1 := Heap.size_push ..
  show _ ∧ _; rw [hz]
  have he : IsEnum ((s.heap.push { cls := .type "tuple_iterator", data := .fields #[.ref l, .int 0 0] }).push { cls := .type "enumerate", data := .fields #[.none, .bool false, .ref s.heap.objs.size, rawInt 0, .none, .none] }) (s.heap.objs.size + 1) s.heap.objs.size 0 .none := by
    have z := Heap.get?_push_size (s.heap.push { cls := .type "tuple_iterator", data := .fields #[.ref l, .int 0 0] }) (o := { cls := .type "enumerate", data := .fields #[.none, .bool false, .ref s.heap.objs.size, rawInt 0, .none, .none] }) rfl
    rw [hz] at z; exact z
  exact ⟨⟨_, he, rfl⟩, q _ he ⟨_, Heap.get?_push_of_some _ (Heap.get?_push_size _ rfl), rfl, rfl⟩ (by rw [Heap.size_push, hz]) fun b o x => Heap.get?_push_of_some _ (Heap.get?_push_of_some _ x)⟩
def IteT (K : PySem.W.Frag) (a : Addr) : It :=
  ⟨fun i H => ∃ xs x, SqT K H a xs ∧ xs[i]? = some x, fun i H v H' => ∃ p x, v = .ref p ∧ H p = none ∧ H' = upd H p (.tup [.int (i : Nat), x]) ∧ ∀ xs, SqT K H a xs → xs[i]? = some x, fun i H => ∃ xs, SqT K H a xs ∧ xs.length ≤ i⟩
theorem turn_enumT {P : Program} {w : World} {K : PySem.W.Frag} {es : List Expr} {x1} {tp : Pos} (a e it : Addr) (hne : e ≠ it) : Turn P w K (.Tuple es x1 tp) (IteT K a) [e, it] e (fun i h => (∃ old, IsEnum h e it i old) ∧ h.IsTupleIter it a i) where
  mem := by simp
  obj := fun i h st b hb => by
    obtain ⟨⟨old, he⟩, ⟨o, ho, c, d⟩⟩ := st
    rcases List.mem_cons.mp hb with rfl | hb
    · exact ⟨_, he, fun v z => by cases z⟩
    · have q : b = it := by simpa using hb
      subst q
      exact ⟨o, ho, fun v z => by rw [d] at z; cases z⟩
  keep := fun i h h' st k => by
    obtain ⟨⟨old, he⟩, hi⟩ := st
    exact ⟨⟨old, k e (by simp) _ he⟩, hi.at fun o q => k it (by simp) o q⟩
  item := by
    intro X hP hw hK hc i pins s σ H E I hf st hg
    subst hP hw hK
    obtain ⟨xs, x, hq, hx⟩ := hg
    obtain ⟨⟨old, he⟩, hit⟩ := st
    obtain ⟨its, rv, p, hz⟩ := I.tuple hq
    obtain ⟨u, hu, ru⟩ := rv.get hx
    obtain ⟨a0, a1, a2, a3, a4, a5⟩ := hf e (by simp)
    obtain ⟨f0, f1, f2, f3, f4, f5⟩ := hf it (by simp)
    have pT : s.heap.IsTuple a its.toArray := p
    obtain ⟨oi, hoi, ci, di⟩ := id hit
    obtain ⟨oa, hoa, ca, _⟩ := id pT
    have n1 : a ≠ it := fun z => by
      rw [z, hoi] at hoa
      cases hoa
      rw [ca] at ci
      exact absurd ci (by decide)
    have n2 : a ≠ e := fun z => by
      rw [z, he] at hoa
      cases hoa
      exact absurd (show Value.type "enumerate" = Value.type "tuple" from ca) (by decide)
    refine wpAny_pyNext_enum_itemD (draws_tup (A := X.A.in1) (I.ok.hd hc) it a n1 its.toArray) he ⟨hit, pT⟩ (by
      have := (List.getElem?_eq_some_iff.mp hu).1
      simpa using this) hne (by
        intro z
        rcases List.mem_cons.mp z with z | z
        · exact hne z
        · exact n2 (List.mem_singleton.mp z).symm) fun x' h' tk hx' eo hst ht hsz hk => ⟨_, rfl, ?_⟩
    have ex : x' = u := by
      have z : its[i]? = some x' := by simpa using hx'
      rw [hu] at z
      exact (Option.some.inj z).symm
    subst ex
    refine wpAny_letOwnedTupleGo_enum eo fun h2 he2 sb2 => ?_
    have sb2' : Heap.SameBut e h' h2 := sb2
    have hn : H s.heap.objs.size = none := I.fresh
    have le : e < s.heap.objs.size := Heap.lt_size he
    have li : it < s.heap.objs.size := Heap.lt_size hoi
    have I1 : Inv X pins σ (upd H s.heap.objs.size (.tup [.int (i : Nat), x])) { s with heap := s.heap.push { cls := .type "tuple", data := .seq #[.int i tk, x'] }, toks := tk + 1 } :=
      I.laid (t' := tk + 1) (fun b ob q => Heap.get?_push_of_some _ q) (Nat.le_refl _) ⟨by rw [sizeLine_eq]; show 2 ≤ _; decide, [.int i tk, x'], .cons ⟨_, rfl⟩ (.cons ru .nil), IsTup.new _ _⟩
    obtain ⟨oi2, hoi2, ci2, di2⟩ := id hst.1
    have hoi3 : h2.get? it = some oi2 := (sb2'.2 it (Ne.symm hne)).trans hoi2
    have gi : ((s.heap.push { cls := .type "tuple", data := .seq #[.int i tk, x'] }).update it (fun _ => oi2)).get? it = some oi2 := Heap.get?_update_self _ (Heap.get?_push_of_some _ hoi) (Obj.isFreed_of_fields di2)
    have I2 := I1.turned (h' := (s.heap.push { cls := .type "tuple", data := .seq #[.int i tk, x'] }).update it (fun _ => oi2)) (t' := tk + 1) (it := it) (fun b o hb q => (Heap.get?_update_other _ _ (Ne.symm hb)).trans q) (by rw [upd_ne (Nat.ne_of_lt li)]; exact f0) f1 f3 f4 f5
    have I3 := I2.turned (h' := h2) (t' := tk + 1) (it := e) (fun b o hb q => by
      by_cases c : b = it
      · subst c
        have q' := gi.symm.trans q
        cases q'
        exact hoi3
      · have q1 : (s.heap.push { cls := .type "tuple", data := .seq #[.int i tk, x'] }).get? b = some o := (Heap.get?_update_other _ _ (Ne.symm c)).symm.trans q
        by_cases d : b = s.heap.objs.size
        · subst d
          have q2 := (Heap.get?_push_size s.heap (o := { cls := .type "tuple", data := .seq #[.int i tk, x'] }) rfl).symm.trans q1
          cases q2
          exact (sb2'.2 _ hb).trans ht
        · rw [Heap.get?_push_ne _ _ _ d] at q1
          exact (sb2'.2 b hb).trans (hk b o hb c q1)) (by rw [upd_ne (Nat.ne_of_lt le)]; exact a0) a1 a3 a4 a5
    refine ⟨.ref s.heap.objs.size, _, I3, rfl, ⟨s.heap.objs.size, x, rfl, hn, rfl, fun ys hy => by rw [I.tuple_inj hy hq]; exact hx⟩, ⟨⟨_, he2⟩, oi2, hoi3, ci2, di2⟩, fun b hb => ?_⟩
    rcases List.mem_cons.mp hb with rfl | hb
    · rw [upd_ne (Nat.ne_of_lt le)]; exact a0
    · have q : b = it := by simpa using hb
      subst q
      rw [upd_ne (Nat.ne_of_lt li)]; exact f0
  done := by
    intro X hP hw hK hc i pins s σ H E I hf st hg
    subst hP hw hK
    obtain ⟨xs, hq, hx⟩ := hg
    obtain ⟨⟨old, he⟩, hit⟩ := st
    obtain ⟨its, rv, p, hz⟩ := I.tuple hq
    have pT : s.heap.IsTuple a its.toArray := p
    obtain ⟨f0, f1, f2, f3, f4, f5⟩ := hf it (by simp)
    have hl := rv.length
    have hT : s.TypeIs (.ref e) "enumerate" := ⟨_, he, rfl⟩
    unfold pyNext
    refine wpAny_bind (wpAny_attempt (wpAny_callSpecial?_slot (name := Str.ofString "__next__") hT F.slot_enumerate_next (wpAny_call_entry F.slot_enumerate_next hT F.entry_enumerate_next ?_ (F.args_enumerate_next_1 _))))
    show wpAny _ _ (field (.ref e) 2 >>= _) _ _ _; refine wpAny_bind (wpAny_field he rfl (x := .ref it) rfl ?_)
    refine wpAny_bind (nextOf_tupE (I.ok.hd hc) hit pT (by simp; omega) fun h' x eb hx' => ?_)
    obtain ⟨o, ho, hc'⟩ := hx'
    exact wpAny_bind (wpAny_isInstance (T := "StopIteration") (b := true) ⟨o, ho, hc'⟩ isSubtype_stop (wpAny_pure ⟨rfl, I.turned (t' := s.toks) (fun b o hb e => eb b o hb e) f0 f1 f3 f4 f5⟩))
  self := fun _ _ _ _ _ st h => by
    obtain ⟨⟨old, he⟩, _⟩ := st
    exact wpAny_pyIter_enum he h
section
variable {X : Cx}
def iEnumT (K : PySem.W.Frag) (ta : TA) : TI := fun σ H R => ta σ H fun vs H1 => ∃ a xs, vs = [.ref a] ∧ SqT K H1 a xs ∧ R (IteT K a) H1
theorem pi_enumT {es : List Expr} {x1} {tp p pos : Pos} {l : Expr} {ta : TA} (hg : Gl X "enumerate") (hm : X.mg "enumerate" = none) (ha : PA X [l] ta) (hs : starEach [l] X.env = [(false, eval l X.env)] := by rfl) : PI X (.Tuple es x1 tp) (.Call (.Name "enumerate" p) [l] [] pos) (iEnumT X.K ta) := by
  intro pins s σ H R I h
  refine Call_ (ld_blt I hg hm boot_enumerate (PyProof.Rows.callWith_type1 (thn (ha pos pins s σ H _ I h) fun us s1 ⟨vs, H1, I1, r1, q1⟩ => ?_) hs rfl))
  obtain ⟨a, xs, rfl, hL, q⟩ := q1
  obtain ⟨u, rfl, ru⟩ := vals1 r1
  cases ru
  obtain ⟨its, rv, pT, hz⟩ := I1.tuple hL
  refine call_enumT (show s1.heap.IsTuple a its.toArray from pT) fun h' en li sz hk => ?_
  have I2 : Inv X pins σ H1 { s1 with heap := h' } := I1.kept (t' := s1.toks) hk
  refine wpAny_pyIter_enum en ⟨s1.heap.objs.size + 1, [s1.heap.objs.size + 1, s1.heap.objs.size], _, IteT X.K a, H1, rfl, I2, turn_enumT a _ _ (Nat.succ_ne_self _), ⟨⟨_, en⟩, li⟩, fun b hb => ?_, q⟩
  have hb' : s1.heap.objs.size ≤ b := by
    rcases List.mem_cons.mp hb with rfl | hb
    · exact Nat.le_succ _
    · have q : b = s1.heap.objs.size := by simpa using hb
      rw [q]
      exact Nat.le_refl _
  exact I1.fpOk (H' := H1) hb' (I1.hok.fresh hb')
end
end L2

namespace My
open PySem L2
/-! ### who wins a trick -/
theorem pos_le (x : Nat) : ∀ l : List Nat, pos x l ≤ l.length
  | [] => Nat.le_refl _
  | y :: l => by
    unfold pos
    have := pos_le x l
    split
    · exact Nat.zero_le _
    · exact Nat.succ_le_succ this
def rk (f : Fx) (t : Option Nat) (led c : Nat) : Nat :=
  if t = some (c / 8) then 20 + pos (c % 8) f.tr else if c / 8 = led then 10 + pos (c % 8) f.pl else 0
theorem over_rk {f : Fx} (ok : f.Ok) (t : Option Nat) (c o led : Nat) : overB f t c o led = decide (rk f t led o < rk f t led c) := by
  have l1 : ∀ x, pos x f.tr ≤ 8 := fun x => Nat.le_trans (pos_le x _) (by rw [perm_len ok.pt]; exact ok.h8)
  have l2 : ∀ x, pos x f.pl ≤ 8 := fun x => Nat.le_trans (pos_le x _) (by rw [perm_len ok.pp]; exact ok.h8)
  have a1 := l1 (c % 8)
  have a2 := l1 (o % 8)
  have a3 := l2 (c % 8)
  have a4 := l2 (o % 8)
  unfold rk
  by_cases s : c / 8 = o / 8
  · rw [ov_same s, ← s]
    by_cases c1 : t = some (c / 8)
    · rw [if_pos c1, if_pos c1, if_pos c1, decide_eq_true (Or.inr c1), Bool.true_and]
      exact decide_eq_decide.mpr ⟨fun h => by omega, fun h => by omega⟩
    · rw [if_neg c1, if_neg c1, if_neg c1]
      by_cases c2 : c / 8 = led
      · rw [if_pos c2, if_pos c2, decide_eq_true (Or.inl c2), Bool.true_and]
        exact decide_eq_decide.mpr ⟨fun h => by omega, fun h => by omega⟩
      · rw [if_neg c2, if_neg c2, decide_eq_false (fun z => z.elim c2 c1), Bool.false_and]
        exact (decide_eq_false (Nat.lt_irrefl 0)).symm
  · rw [ov_diff s]
    by_cases c1 : t = some (c / 8)
    · have c2 : ¬ t = some (o / 8) := fun z => s (by rw [c1] at z; exact Option.some.inj z)
      rw [if_pos c1, if_pos c1, if_neg c2]
      refine (decide_eq_true ?_).symm
      split <;> omega
    · rw [if_neg c1, if_neg c1]
      by_cases c2 : t = some (o / 8)
      · rw [if_pos c2, decide_eq_true c2]
        show (decide (c / 8 = led) && false) = _
        rw [Bool.and_false]
        refine (decide_eq_false ?_).symm
        split <;> omega
      · rw [if_neg c2, decide_eq_false c2]
        show (decide (c / 8 = led) && true) = _
        rw [Bool.and_true]
        by_cases c3 : c / 8 = led
        · rw [if_pos c3, if_neg (fun z => s (c3.trans z.symm)), decide_eq_true c3]
          exact (decide_eq_true (by omega)).symm
        · rw [if_neg c3, decide_eq_false c3]
          exact (decide_eq_false (Nat.not_lt_zero _)).symm
theorem rk_inj {f : Fx} (ok : f.Ok) {t : Option Nat} {led c o : Nat} (hc : c % 8 < f.h) (ho : o % 8 < f.h) (h10 : 10 ≤ rk f t led c) (e : rk f t led c = rk f t led o) : c = o := by
  by_cases ne : c = o
  · exact ne
  · exfalso
    have l1 : ∀ x, pos x f.tr ≤ 8 := fun x => Nat.le_trans (pos_le x _) (by rw [perm_len ok.pt]; exact ok.h8)
    have l2 : ∀ x, pos x f.pl ≤ 8 := fun x => Nat.le_trans (pos_le x _) (by rw [perm_len ok.pp]; exact ok.h8)
    have st : ∀ c, 10 ≤ rk f t led c → c / 8 = led ∨ t = some (c / 8) := fun c h => by
      unfold rk at h
      by_cases c1 : t = some (c / 8)
      · exact .inr c1
      · rw [if_neg c1] at h
        by_cases c2 : c / 8 = led
        · exact .inl c2
        · rw [if_neg c2] at h
          omega
    rcases over_strong ok (t := t) (led := led) hc ho ne (st c h10) (st o (by omega)) with z | z
    · rw [over_rk ok, decide_eq_true_eq] at z
      omega
    · rw [over_rk ok, decide_eq_true_eq] at z
      omega
theorem rk_led (f : Fx) (t : Option Nat) (c : Nat) : 10 ≤ rk f t (c / 8) c := by
  unfold rk
  by_cases c1 : t = some (c / 8)
  · rw [if_pos c1]; omega
  · rw [if_neg c1, if_pos rfl]; omega
/-- the card of that number goes over all others -/
def Win (f : Fx) (t : Option Nat) (led : Nat) (ys : List Nat) (h : Nat) : Prop := ∃ m, ys[h]? = some m ∧ ∀ c ∈ ys, c ≠ m → overB f t m c led = true
structure Trk (f : Fx) (ys : List Nat) : Prop where
  nd : ys.Nodup
  ht : ∀ c ∈ ys, c % 8 < f.h
  ne : 0 < ys.length
def ledOf (ys : List Nat) : Nat := ys.getD 0 0 / 8
theorem win_of {f : Fx} (ok : f.Ok) {t : Option Nat} {ys : List Nat} (T : Trk f ys) {h : Nat} (hh : h < ys.length) (hm : ∀ j, j < ys.length → rk f t (ledOf ys) (ys.getD j 0) ≤ rk f t (ledOf ys) (ys.getD h 0)) : Win f t (ledOf ys) ys h := by
  have at_ : ∀ i, i < ys.length → ys[i]? = some (ys.getD i 0) := fun i hi => by rw [List.getD_eq_getElem?_getD, List.getElem?_eq_getElem hi]; rfl
  refine ⟨_, at_ h hh, fun c hc n => ?_⟩
  obtain ⟨j, hj, e⟩ := List.mem_iff_getElem.mp hc
  have ej : ys.getD j 0 = c := by rw [List.getD_eq_getElem?_getD, List.getElem?_eq_getElem hj, e]; rfl
  have m0 := rk_led f t (ys.getD 0 0)
  have m1 := hm 0 T.ne
  have mj := hm j hj
  rw [ej] at mj
  have hmem : ys.getD h 0 ∈ ys := List.mem_of_getElem? (at_ h hh)
  rw [over_rk ok, decide_eq_true_eq]
  rcases Nat.lt_or_eq_of_le mj with z | z
  · exact z
  · exact absurd (rk_inj ok (T.ht _ hmem) (T.ht c hc) (Nat.le_trans m0 m1) z.symm).symm n
/-- all but the first turned about -/
def turnA : List Nat → List Nat
  | [] => []
  | y :: l => y :: l.reverse
/-! ### for i, x in enumerate(t) -/
theorem for_enumT {K : PySem.W.Frag} {a : Addr} {xs : List V} {g : TG} {tb : TS} {D : Ends} {σ : St} {H : Hp} (Pv : Nat → St → Hp → Prop) (h0 : Pv 0 σ H) (hS : ∀ i σ H, Pv i σ H → SqT K H a xs)
    (hs : ∀ i x p σ H, xs[i]? = some x → Pv i σ H → H p = none → g (.ref p) σ (upd H p (.tup [.int (i : Nat), x])) fun σ2 H2 => tb { D with nx := Pv (i + 1), ct := Pv (i + 1), bk := D.nx } σ2 H2) (hd : ∀ σ H, Pv xs.length σ H → D.nx σ H) :
    ∃ W : Nat → Nat → St → Hp → Prop, (∃ m, W 0 m σ H) ∧ ∀ i m σ H, W i m σ H →
      ((IteT K a).stop i H ∧ D.nx σ H) ∨ ((IteT K a).go i H ∧ ∃ N : St → Hp → Prop, (∀ σ' H', N σ' H' → ∃ m', m' < m ∧ W (i + 1) m' σ' H') ∧ ∀ v H', (IteT K a).yld i H v H' → g v σ H' fun σ2 H2 => tb { D with nx := N, ct := N, bk := D.nx } σ2 H2) := by
  refine ⟨fun i m σ H => m = xs.length - i ∧ i ≤ xs.length ∧ Pv i σ H, ⟨xs.length, by simp, Nat.zero_le _, h0⟩, ?_⟩
  rintro i m σ H ⟨rfl, hi, p⟩
  have sa := hS i σ H p
  by_cases hlt : i < xs.length
  · refine .inr ⟨⟨xs, _, sa, List.getElem?_eq_getElem hlt⟩, Pv (i + 1), fun σ' H' p' => ⟨xs.length - (i + 1), by omega, rfl, hlt, p'⟩, fun v H' y => ?_⟩
    obtain ⟨q, x, rfl, hq, rfl, hx⟩ := y
    exact hs i x q σ H (hx xs sa) p hq
  · have e : i = xs.length := by omega
    subst e
    exact .inl ⟨⟨xs, sa, Nat.le_refl _⟩, hd σ H p⟩
end My

namespace My
open PySem
/-! ### the bits of a hand -/
def cardsN (h : Nat) : List Nat := (List.range 32).filter h.testBit
def pcK (k h : Nat) : Nat := ((List.range k).filter h.testBit).length
/-! ### one suit -/
def part (h s : Nat) : Nat := h &&& (255 * 2 ^ (8 * s))
theorem mask_bit : ∀ s < 4, ∀ c < 32, Nat.testBit (255 * 2 ^ (8 * s)) c = decide (c / 8 = s) := by decide +kernel
theorem cards_lt {h c : Nat} (hc : c ∈ cardsN h) : c < 32 := List.mem_range.mp (List.mem_filter.mp hc).1
end My

namespace My
theorem cards_end {h i : Nat} (hi : i ≤ 32) (hz : h / 2 ^ i = 0) : (List.range i).filter h.testBit = cardsN h := by
  unfold cardsN
  have hl : h < 2 ^ i := by
    rcases Nat.div_eq_zero_iff.mp hz with e | e
    · have : 0 < 2 ^ i := Nat.pow_pos (by decide)
      omega
    · exact e
  have e32 : 32 = i + (32 - i) := by omega
  rw [e32, List.range_add, List.filter_append]
  have e : List.filter h.testBit ((List.range (32 - i)).map (i + ·)) = [] := by
    rw [List.filter_eq_nil_iff]
    intro a ha
    obtain ⟨b, _, rfl⟩ := List.mem_map.mp ha
    rw [Nat.testBit_lt_two_pow (Nat.lt_of_lt_of_le hl (Nat.pow_le_pow_right (by decide) (by omega)))]
    exact Bool.false_ne_true
  rw [e, List.append_nil]
theorem cards_step (h i : Nat) : (List.range (i + 1)).filter h.testBit = (List.range i).filter h.testBit ++ (if h / 2 ^ i % 2 = 1 then [i] else []) := by
  rw [List.range_succ, List.filter_append]
  have e : h.testBit i = decide (h / 2 ^ i % 2 = 1) := Nat.testBit_eq_decide_div_mod_eq
  by_cases o : h / 2 ^ i % 2 = 1
  · rw [if_pos o, List.filter_cons_of_pos (by rw [e]; exact decide_eq_true o), List.filter_nil]
  · rw [if_neg o, List.filter_cons_of_neg (by rw [e, decide_eq_false o]; exact Bool.false_ne_true), List.filter_nil]
theorem small_pos {h i : Nat} (h32 : h < 4294967296) (hi : i ≤ 32) (hp : 0 < h / 2 ^ i) : i < 32 := by
  rcases Nat.lt_or_ge i 32 with e | e
  · exact e
  · have : i = 32 := by omega
    subst this
    have : h / 2 ^ 32 = 0 := Nat.div_eq_of_lt h32
    omega
def orAll (cs : List Nat) (a : Nat) : Nat := cs.foldl (fun a c => a ||| 2 ^ c) a
theorem orAll_bit : ∀ (cs : List Nat) (a i : Nat), (orAll cs a).testBit i = (a.testBit i || decide (i ∈ cs))
  | [], a, i => by simp [orAll]
  | c :: r, a, i => by
    show (orAll r (a ||| 2 ^ c)).testBit i = _
    rw [orAll_bit r, Nat.testBit_or, Nat.testBit_two_pow]
    by_cases e : c = i
    · subst e; simp
    · have e2 : i ≠ c := fun z => e z.symm
      simp [e, e2]
theorem mem_cards {h i : Nat} (hh : h < 4294967296) : i ∈ cardsN h ↔ h.testBit i = true := by
  unfold cardsN
  rw [List.mem_filter, List.mem_range]
  constructor
  · exact fun z => z.2
  · intro z
    refine ⟨?_, z⟩
    rcases Nat.lt_or_ge i 32 with e | e
    · exact e
    · rw [Nat.testBit_lt_two_pow (Nat.lt_of_lt_of_le hh (Nat.pow_le_pow_right (n := 2) (by decide) e))] at z
      cases z
theorem orAll_snoc (cs : List Nat) (c a : Nat) : orAll (cs ++ [c]) a = orAll cs a ||| 2 ^ c := by unfold orAll; rw [List.foldl_append]; rfl
end My

namespace My
open PySem L2
/-! ### hands as numbers, and what may be played -/
def hN (cs : List Nat) : Nat := orAll cs 0
theorem hN_bit (cs : List Nat) (i : Nat) : (hN cs).testBit i = decide (i ∈ cs) := by
  unfold hN
  rw [orAll_bit, Nat.zero_testBit, Bool.false_or]
theorem hN_ext {a b : List Nat} (h : ∀ i, i ∈ a ↔ i ∈ b) : hN a = hN b := by
  refine Nat.eq_of_testBit_eq fun i => ?_
  rw [hN_bit, hN_bit]
  exact decide_eq_decide.mpr (h i)
theorem hN_lt {cs : List Nat} (h : ∀ c ∈ cs, c < 32) : hN cs < 4294967296 := by
  refine Nat.lt_pow_two_of_testBit (n := 32) (hN cs) fun i hi => ?_
  rw [hN_bit]
  exact decide_eq_false fun m => by have := h i m; omega
theorem hN_pos {cs : List Nat} : 0 < hN cs ↔ cs ≠ [] := by
  constructor
  · intro h z
    rw [z] at h
    exact Nat.lt_irrefl 0 h
  · intro h
    cases cs with
    | nil => exact absurd rfl h
    | cons c l =>
      refine Nat.pos_of_ne_zero fun z => ?_
      have e := hN_bit (c :: l) c
      rw [z, Nat.zero_testBit, decide_eq_true List.mem_cons_self] at e
      cases e
theorem hN_part {cs : List Nat} (h : ∀ c ∈ cs, c < 32) {s : Nat} (hs : s < 4) : part (hN cs) s = hN (cs.filter fun c => decide (c / 8 = s)) := by
  refine Nat.eq_of_testBit_eq fun i => ?_
  unfold part
  rw [Nat.testBit_and, hN_bit, hN_bit]
  by_cases m : i ∈ cs
  · rw [mask_bit s hs i (h i m), decide_eq_true m, Bool.true_and]
    refine decide_eq_decide.mpr ⟨fun z => List.mem_filter.mpr ⟨m, decide_eq_true z⟩, fun z => of_decide_eq_true (List.mem_filter.mp z).2⟩
  · rw [decide_eq_false m, Bool.false_and]
    exact (decide_eq_false fun z => m (List.mem_filter.mp z).1).symm
theorem hN_cards {cs : List Nat} (h : ∀ c ∈ cs, c < 32) (i : Nat) : i ∈ cardsN (hN cs) ↔ i ∈ cs := by
  rw [mem_cards (hN_lt h), hN_bit, decide_eq_true_eq]
theorem hN_snoc (cs : List Nat) (c : Nat) : hN (cs ++ [c]) = hN cs ||| 2 ^ c := orAll_snoc cs c 0
theorem hN_cons {c : Nat} {cs : List Nat} (h : c ∉ cs) : hN (c :: cs) = 2 ^ c + hN cs := by
  have e : hN (c :: cs) = hN cs ||| 2 ^ c := by
    rw [← hN_snoc]
    exact hN_ext fun i => by rw [List.mem_cons, List.mem_append, List.mem_singleton]; exact Or.comm
  rw [e]
  have z : hN cs &&& 2 ^ c = 0 := by
    refine Nat.eq_of_testBit_eq fun i => ?_
    rw [Nat.testBit_and, hN_bit, Nat.testBit_two_pow, Nat.zero_testBit]
    by_cases q : c = i
    · subst q
      rw [decide_eq_false h]
      rfl
    · rw [decide_eq_false q, Bool.and_false]
  have k := PyProof.Rows.nat_or_add_and (hN cs) (2 ^ c)
  rw [z] at k
  omega
theorem hN_sum : ∀ {cs : List Nat}, cs.Nodup → (cs.map fun c => 2 ^ c).sum = hN cs
  | [], _ => rfl
  | c :: cs, nd => by
    obtain ⟨n1, n2⟩ := List.nodup_cons.mp nd
    rw [List.map_cons, List.sum_cons, hN_sum n2, hN_cons n1]
def folL (s : Nat) (cs : List Nat) : List Nat := cs.filter fun c => decide (c / 8 = s)
def orL (a b : List Nat) : List Nat := if a = [] then b else a
def trL (t : Option Nat) (cs : List Nat) : List Nat := match t with | none => [] | some u => folL u cs
def cutL (t : Option Nat) (led : Nat) (cs : List Nat) : List Nat := orL (folL led cs) (orL (trL t cs) cs)
def topL (f : Fx) (t : Option Nat) (ys cs : List Nat) : List Nat := cs.filter fun c => ys.all fun o => overB f t c o (ledOf ys)
/-- the cards that may be played to a trick that has begun -/
def alw (d : _root_.Fin 4) (f : Fx) (t : Option Nat) (ys cs : List Nat) : List Nat := match d with
  | 0 => cs
  | 1 => orL (folL (ledOf ys) cs) cs
  | 2 => cutL t (ledOf ys) cs
  | 3 => orL (topL f t ys (cutL t (ledOf ys) cs)) (cutL t (ledOf ys) cs)
theorem orL_sub {a b cs : List Nat} (ha : ∀ c ∈ a, c ∈ cs) (hb : ∀ c ∈ b, c ∈ cs) : ∀ c ∈ orL a b, c ∈ cs := fun c hc => by
  unfold orL at hc
  by_cases z : a = []
  · rw [if_pos z] at hc; exact hb c hc
  · rw [if_neg z] at hc; exact ha c hc
theorem folL_sub (s : Nat) (cs : List Nat) : ∀ c ∈ folL s cs, c ∈ cs := fun c hc => (List.mem_filter.mp hc).1
theorem trL_sub (t : Option Nat) (cs : List Nat) : ∀ c ∈ trL t cs, c ∈ cs := fun c hc => by
  cases t with
  | none => exact nomatch hc
  | some u => exact folL_sub u cs c hc
theorem cutL_sub (t : Option Nat) (led : Nat) (cs : List Nat) : ∀ c ∈ cutL t led cs, c ∈ cs := orL_sub (folL_sub _ _) (orL_sub (trL_sub _ _) fun _ h => h)
theorem hN_orL {a b : List Nat} : hN (orL a b) = if 0 < hN a then hN a else hN b := by
  unfold orL
  by_cases z : a = []
  · rw [if_pos z, if_neg fun q => hN_pos.mp q z]
  · rw [if_neg z, if_pos (hN_pos.mpr z)]
end My

namespace My
open PySem L2
abbrev sCardsIn : Stmt := top 3
abbrev sHandOf : Stmt := top 4
abbrev sOfSuit : Stmt := top 5
def cardsV (h : Nat) : List V := (cardsN h).map fun c => V.int (c : Nat)
theorem cardsV_eq (h : Nat) : cardsV h = vN (cardsN h) := rfl
theorem vN_app (xs ys : List Nat) : vN xs ++ vN ys = vN (xs ++ ys) := (List.map_append).symm
theorem vN_get {ys : List Nat} {i : Nat} {x : V} (h : (vN ys)[i]? = some x) : ∃ c, ys[i]? = some c ∧ x = .int (c : Nat) := by
  unfold vN at h
  rw [List.getElem?_map] at h
  cases e : ys[i]? with
  | none => rw [e] at h; cases h
  | some c => rw [e] at h; cases h; exact ⟨c, rfl, rfl⟩
theorem or_pp {x y : Int} (hx : 0 ≤ x) (hy : 0 ≤ y) : Builtin.bitOr x y = ((x.toNat ||| y.toNat : Nat) : Int) := by
  rw [PyProof.Rows.bitOr_and, PyProof.Rows.bitAnd_pp hx hy]
  have := PyProof.Rows.nat_or_add_and x.toNat y.toNat
  omega
theorem or_nat (a c : Nat) : Builtin.bitOr (a : Int) (1 * 2 ^ ((c : Nat) : Int).toNat) = ((a ||| 2 ^ c : Nat) : Int) := by
  have e : (1 : Int) * 2 ^ ((c : Nat) : Int).toNat = ((2 ^ c : Nat) : Int) := by
    rw [Int.one_mul, Int.toNat_natCast, Int.natCast_pow]; rfl
  rw [e, or_pp (Int.natCast_nonneg _) (Int.natCast_nonneg _), Int.toNat_natCast, Int.toNat_natCast]
theorem and1 (a : Nat) : Builtin.bitAnd (a : Int) 1 = ((a % 2 : Nat) : Int) := by
  rw [PyProof.Rows.bitAnd_pp (Int.natCast_nonneg _) (by decide), Int.toNat_natCast]
  exact congrArg _ (Nat.and_one_is_mod a)
theorem shr1 (h i : Nat) : ((h / 2 ^ i : Nat) : Int) / 2 ^ ((1 : Int).toNat) = ((h / 2 ^ (i + 1) : Nat) : Int) := by
  rw [Nat.pow_succ, ← Nat.div_div_eq_div_mul]
  show ((h / 2 ^ i : Nat) : Int) / 2 = _
  omega
theorem filter_short (h n : Nat) : ((List.range n).filter h.testBit).length ≤ n := by
  have := List.length_filter_le h.testBit (List.range n)
  rwa [List.length_range] at this
section
variable {P : Program} {w : World} {K : PySem.W.Frag} {mg : Str → Option Value} {base : Heap} {f g : Addr} {fd gd : FuncData}
/-! ### cards_in, hand_of -/
def spCardsIn (K : PySem.W.Frag) : Sp := fun vs H Q _ => ∃ h : Nat, vs = [.int h] ∧ h < 4294967296 ∧ ∀ l H', Same H H' → H l = none → H' l = some (.lst (cardsV h)) → Q (.ref l) H'
theorem scCardsIn : FnScope ["hand", "cards", "card"] ["hand"] (defScope sCardsIn) := ⟨rfl, rfl, rfl, by decide +kernel, rfl, by decide +kernel, by decide +kernel⟩
theorem ok_cardsIn {k : Nat} (F : Fun K "cards_in" "cards_in" sCardsIn f fd) : FnOk P w K mg base CX0 (k + 1) f fd ["hand"] (spCardsIn K) := by
  refine F.ok scCardsIn (fun vs H Q E h => ?_) (fun cdv A outer s H vs Q E hr h => ?_)
  · obtain ⟨h, rfl, _⟩ := h
    rfl
  obtain ⟨h, rfl, h32, q⟩ := h
  refine ⟨_, pss_cons (ps_set (i := 1) scCardsIn.nd rfl (Or.inl rfl) (pe_lst pa_nil))
    (pss_cons (ps_set (i := 2) scCardsIn.nd rfl (Or.inl rfl) pe_int)
    (pss_cons (ps_while PassesOwn.never (pt_cmpR op_gt (pv 0) pe_int (nomark _))
      (pss_cons (ps_if (pt_cmpR op_eq (pe_op op_and (pv 0) pe_int) pe_int (nomark _)) (pss_one (ps_expr (pe_bm PySem.F.plainAttrs_list PySem.F.slot_list_append PySem.F.type_list_append mt_append (pv 1) (pa_cons (pv 2) pa_nil)))) pss_nil)
      (pss_cons (ps_set (i := 0) scCardsIn.nd rfl (Or.inl rfl) (pe_op op_shr (pv 0) pe_int))
      (pss_one (ps_set (i := 2) scCardsIn.nd rfl (Or.inl rfl) (pe_op op_add (pv 2) pe_int))))))
    (pss_one (ps_ret (pv 1))))), ?_⟩
  refine ⟨Nat.zero_le _, fun l hl => ?_⟩
  refine while_by (fun σ H' => ∃ i : Nat, σ = [some (.int ((h / 2 ^ i : Nat) : Int)), some (.ref l), some (.int (i : Nat))] ∧ i ≤ 32 ∧ Same H H' ∧ H' l = some (.lst (vN ((List.range i).filter h.testBit))))
    (fun σ _ => match σ with | [_, _, some (.int i)] => 32 - i.toNat | _ => 0) ⟨0, ?_, Nat.zero_le _, same_upd hl _, upd_same⟩ (fun σ H1 z => ?_) (fun σ H1 R R' m ⟨v, e, i, j, e1, e2, b, e3, r⟩ => ⟨v, e, i, j, e1, e2, b, e3, m _ _ r⟩)
  · rw [Nat.pow_zero, Nat.div_one]
    rfl
  obtain ⟨i, rfl, hi, sm, hL⟩ := z
  refine ⟨_, rfl, _, _, rfl, rfl, _, rfl, ite2 (fun c => ?_) fun c => ?_⟩
  · have c' : (0 : Int) < ((h / 2 ^ i : Nat) : Int) := of_decide_eq_true c
    have hi' : i < 32 := small_pos h32 hi (by omega)
    refine ⟨_, rfl, _, _, rfl, rfl, rfl, _, rfl, ite2 (fun c1 => ?_) fun c1 => ?_⟩
    · have o : h / 2 ^ i % 2 = 1 := by
        have c2 : decide (V.int (Builtin.bitAnd ((h / 2 ^ i : Nat) : Int) 1) = V.int 1) = true := c1
        rw [and1] at c2
        have e := of_decide_eq_true c2
        injection e with e
        omega
      refine ⟨_, rfl, .inl ⟨rfl, _, SqL.of hL⟩, _, rfl, l, _, _, rfl, rfl, hL, ?_, ?_⟩
      · rw [vN_len]
        exact small1000 (Nat.le_trans (filter_short h i) (by omega))
      refine ⟨_, rfl, _, _, rfl, rfl, (show (0 : Int) ≤ 1 by decide), _, rfl, _, _, rfl, rfl, ⟨i + 1, ?_, hi', same_upd2 hl sm _, ?_⟩, ?_⟩
      · show [some (V.int (((h / 2 ^ i : Nat) : Int) / 2 ^ ((1 : Int).toNat))), some (V.ref l), some (V.int ((i : Nat) + 1))] = _
        rw [shr1]
        rfl
      · rw [upd_same, cards_step, if_pos o, ← vN_app]
        rfl
      · show 32 - (((i : Nat) : Int) + 1).toNat < 32 - ((i : Nat) : Int).toNat
        omega
    · have o : ¬ h / 2 ^ i % 2 = 1 := by
        intro o
        refine c1 ?_
        show decide (V.int (Builtin.bitAnd ((h / 2 ^ i : Nat) : Int) 1) = V.int 1) = true
        rw [and1, o]
        exact decide_eq_true rfl
      refine ⟨_, rfl, _, _, rfl, rfl, (show (0 : Int) ≤ 1 by decide), _, rfl, _, _, rfl, rfl, ⟨i + 1, ?_, hi', sm, ?_⟩, ?_⟩
      · show [some (V.int (((h / 2 ^ i : Nat) : Int) / 2 ^ ((1 : Int).toNat))), some (V.ref l), some (V.int ((i : Nat) + 1))] = _
        rw [shr1]
        rfl
      · rw [cards_step, if_neg o, List.append_nil]
        exact hL
      · show 32 - (((i : Nat) : Int) + 1).toNat < 32 - ((i : Nat) : Int).toNat
        omega
  · have c' : ¬ (0 : Int) < ((h / 2 ^ i : Nat) : Int) := of_decide_eq_false (Bool.eq_false_iff.mpr c)
    refine ⟨_, rfl, q l H1 sm hl ?_⟩
    have z0 : h / 2 ^ i = 0 := by
      generalize h / 2 ^ i = n at c'
      omega
    rw [hL, cards_end hi z0]
    rfl
def spHandOf (K : PySem.W.Frag) : Sp := fun vs H Q _ => ∃ (a : Addr) (cs : List Nat), vs = [.ref a] ∧ SqL K H a (vN cs) ∧ (∀ c ∈ cs, c < 32) ∧ Q (.int (orAll cs 0 : Nat)) H
theorem scHandOf : FnScope ["cards", "hand", "card"] ["cards"] (defScope sHandOf) := ⟨rfl, rfl, rfl, by decide +kernel, rfl, by decide +kernel, by decide +kernel⟩
theorem ok_handOf {k : Nat} (F : Fun K "hand_of" "hand_of" sHandOf f fd) : FnOk P w K mg base CX0 (k + 1) f fd ["cards"] (spHandOf K) := by
  refine F.ok scHandOf (fun vs H Q E h => ?_) (fun cdv A outer s H vs Q E hr h => ?_)
  · obtain ⟨a, cs, rfl, _⟩ := h
    rfl
  obtain ⟨a, cs, rfl, hS, hc, q⟩ := h
  refine ⟨_, pss_cons (ps_set (i := 1) scHandOf.nd rfl (Or.inl rfl) pe_int)
    (pss_cons (ps_for PassesOwn.never rfl (pi_list (pv 0)) (pg_name (i := 2) scHandOf.nd rfl (Or.inl rfl)) (pss_one (ps_set (i := 1) scHandOf.nd rfl (Or.inl rfl) (pe_op op_or (pv 1) (pe_op op_shl pe_int (pv 2))))))
    (pss_one (ps_ret (pv 1)))), ?_⟩
  refine ⟨_, rfl, a, rfl, ⟨_, hS⟩, for_list (xs := vN cs) (fun i σ H2 => H2 = H ∧ ∃ x, σ = [some (.ref a), some (.int (orAll (cs.take i) 0 : Nat)), x]) ⟨rfl, _, rfl⟩ (fun i σ H2 _ z => z.1 ▸ hS) (fun i x σ H2 hx z => ?_) (fun σ H2 z => ?_)⟩
  · obtain ⟨rfl, y, rfl⟩ := z
    obtain ⟨c, hi, rfl⟩ := vN_get hx
    have c32 := hc c (List.mem_of_getElem? hi)
    refine ⟨_, rfl, _, rfl, _, _, rfl, rfl, ⟨by omega, by omega, by decide⟩, _, _, rfl, rfl, rfl, some (.int (c : Nat)), ?_⟩
    show [some (V.ref a), some (V.int (Builtin.bitOr ((orAll (cs.take i) 0 : Nat) : Int) (1 * 2 ^ ((c : Nat) : Int).toNat))), some (V.int (c : Nat))] = _
    rw [or_nat]
    have e : cs.take (i + 1) = cs.take i ++ [c] := by
      rw [List.take_add_one, hi]
      rfl
    rw [e, orAll_snoc]
  · obtain ⟨rfl, y, rfl⟩ := z
    refine ⟨_, rfl, ?_⟩
    rw [vN_len, List.take_length]
    exact q
def spOfSuit (K : PySem.W.Frag) : Sp := fun vs H Q _ => ∃ h s : Nat, vs = [.int h, .int s] ∧ h < 4294967296 ∧ s < 4 ∧ Q (.int (part h s)) H
theorem scOfSuit : FnScope ["hand", "suit"] ["hand", "suit"] (defScope sOfSuit) := ⟨rfl, rfl, rfl, by decide +kernel, rfl, by decide +kernel, by decide +kernel⟩
theorem ok_ofSuit {k : Nat} {t1 t2 : Tok} (F : Fun K "of_suit" "of_suit" sOfSuit f fd) (mL : mg "LOWEST_SUIT" = some (.int 255 t1)) (mH : mg "HEIGHTS" = some (.int 8 t2)) : FnOk P w K mg base CX0 (k + 1) f fd ["hand", "suit"] (spOfSuit K) := by
  refine F.ok scOfSuit (fun vs H Q E h => ?_) (fun cdv A outer s H vs Q E hr h => ?_)
  · obtain ⟨h, s, rfl, _⟩ := h
    rfl
  obtain ⟨h, u, rfl, h32, hu, q⟩ := h
  refine ⟨_, pss_one (ps_ret (pe_op op_and (pv 0) (pe_op op_shl (pe_glob (v := .int 255) rfl mL ⟨_, rfl⟩) (pe_op op_mul (pe_glob (v := .int 8) rfl mH ⟨_, rfl⟩) (pv 1))))), ?_⟩
  refine ⟨_, rfl, _, rfl, _, _, rfl, rfl, .inl ⟨by decide, by decide⟩, _, _, rfl, rfl, ⟨by omega, by omega, by decide⟩, _, _, rfl, rfl, ?_⟩
  have e : ((8 : Int) * (u : Nat)).toNat = 8 * u := by omega
  have e2 : (255 : Int) * 2 ^ (8 * u) = ((255 * 2 ^ (8 * u) : Nat) : Int) := by rw [Int.natCast_mul, Int.natCast_pow]; rfl
  show Q (V.int (Builtin.bitAnd ((h : Nat) : Int) ((255 : Int) * 2 ^ ((8 : Int) * (u : Nat)).toNat))) H
  rw [e, e2, PyProof.Rows.bitAnd_pp (Int.natCast_nonneg _) (Int.natCast_nonneg _)]
  exact q
end
end My

namespace L2
open PySem PySem.Spec PyProof.Rows
theorem pt_truthB {X : Cx} {a : Expr} {ta : TE} (ha : PE X a ta) (he : ∀ whole, isTrue a X.env whole = (do let v ← whole; standAt a.pos; holding [v] (truthy v))) : PT X a (tTest ta) := by
  intro pins s σ H Q I h
  exact isTrue_plain (thn (ha pins s σ H _ I h) fun v s1 ⟨x, H1, I1, r1, k, e, q1⟩ => tru_ok pins s1 σ H1 x v Q I1 r1 ⟨k, by subst e; rfl, q1⟩) (he _)
theorem comp_tup {K : PySem.W.Frag} {tt : TT} {te : TE} {σ0 : St} {H1 : Hp} {Q : V → Hp → Prop} {a : Addr} {xs : List V} (p : V → Bool) (f : V → V) (hS : SqT K H1 a xs) (hn : xs.length ≤ sizeLine)
    (hT : ∀ x H, x ∈ xs → Same H1 H → ∀ R : Bool → Hp → Prop, (∀ H', Same H H' → R (p x) H') → tt (σ0.set 0 (some x)) H R)
    (hE : ∀ x H, x ∈ xs → p x = true → Same H1 H → ∀ R : V → Hp → Prop, (∀ H', Same H H' → R (f x) H') → te (σ0.set 0 (some x)) H R)
    (hQ : ∀ l H, Same H1 H → H1 l = none → H l = some (.lst ((xs.filter p).map f)) → Q (.ref l) H) : tCompR (gName 0) tt te σ0 (Itt K a) H1 Q := by
  have at_ : ∀ i, i < xs.length → xs[i]? = some (xs.getD i .non) := fun i h => by
    rw [List.getD_eq_getElem?_getD, List.getElem?_eq_getElem h]
    rfl
  have mem : ∀ i, i < xs.length → xs.getD i .non ∈ xs := fun i h => List.mem_of_getElem? (at_ i h)
  refine comp_any xs.length (fun i => xs.getD i .non) (fun i => p (xs.getD i .non)) (fun i => f (xs.getD i .non)) hn (fun i H sm h => ⟨xs, _, sm.seqT hS, at_ i h⟩) (fun H sm => ⟨xs, sm.seqT hS, Nat.le_refl _⟩)
    (fun i H x H' sm h y => ⟨y.1, ?_⟩) (fun i H h sm => hT _ H (mem i h) sm) (fun i H h hp sm => hE _ H (mem i h) hp sm) (fun l H sm hl hL => hQ l H sm hl ?_)
  · have e := y.2 xs (sm.seqT hS)
    rw [at_ i h] at e
    exact (Option.some.inj e).symm
  · rw [hL, filter_map_range]
theorem comp_subL {K : PySem.W.Frag} {tt : TT} {te : TE} {σ0 : St} {H1 : Hp} {Q : V → Hp → Prop} {a : Addr} {xs : List V} (hS : SqL K H1 a xs) (hn : xs.length ≤ sizeLine)
    (hT : ∀ x H, x ∈ xs → Same H1 H → ∀ R : Bool → Hp → Prop, (∀ b H', Same H H' → R b H') → tt (σ0.set 0 (some x)) H R)
    (hE : ∀ x H, x ∈ xs → Same H1 H → ∀ R : V → Hp → Prop, (∀ H', Same H H' → R x H') → te (σ0.set 0 (some x)) H R)
    (hQ : ∀ l ys H, Same H1 H → H1 l = none → ys.Sublist xs → H l = some (.lst ys) → Q (.ref l) H) : tCompR (gName 0) tt te σ0 (Itl K a) H1 Q := by
  intro l hl
  refine ⟨fun i m σ H => m = xs.length - i ∧ i ≤ xs.length ∧ Same H1 H ∧ (∃ ys, H l = some (.lst ys) ∧ ys.Sublist (xs.take i)) ∧ ∀ o, σ.set 0 o = σ0.set 0 o, ⟨xs.length, by simp, Nat.zero_le _, same_upd hl _, ⟨[], upd_same, List.nil_sublist _⟩, fun _ => rfl⟩, ?_⟩
  rintro i m σ H ⟨rfl, hi, sm, ⟨ys, hL, hsub⟩, hσ⟩
  by_cases hlt : i < xs.length
  · have ei : xs[i]? = some xs[i] := List.getElem?_eq_getElem hlt
    refine .inr ⟨⟨xs, _, sm.seq hS, ei⟩, fun x H' y => ?_⟩
    obtain ⟨rfl, hx⟩ := y
    have ex := hx xs (sm.seq hS)
    have mem : x ∈ xs := List.mem_of_getElem? ex
    have et : xs.take (i + 1) = xs.take i ++ [x] := by rw [List.take_add_one, ex]; rfl
    show tt (σ.set 0 (some x)) H' _
    rw [hσ]
    have hσ2 : ∀ o, (σ0.set 0 (some x)).set 0 o = σ0.set 0 o := fun o => List.set_set _
    refine hT x H' mem sm _ fun b H2 s2 => ?_
    cases b with
    | true =>
      rw [if_pos rfl]
      refine hE x H2 mem (sm.trans s2) _ fun H3 s3 => ?_
      refine ⟨_, s3 _ _ (s2 _ _ hL), ?_, xs.length - (i + 1), by omega, rfl, hlt, same_upd2 hl (sm.trans (s2.trans s3)) _, ⟨_, upd_same, ?_⟩, hσ2⟩
      · have := hsub.length_le
        rw [List.length_take] at this
        omega
      · rw [et]
        exact hsub.append (List.Sublist.refl _)
    | false =>
      rw [if_neg Bool.false_ne_true]
      refine ⟨xs.length - (i + 1), by omega, rfl, hlt, sm.trans s2, ⟨ys, s2 _ _ hL, ?_⟩, hσ2⟩
      rw [et]
      exact hsub.trans (List.sublist_append_left _ _)
  · have e : i = xs.length := by omega
    subst e
    rw [List.take_length] at hsub
    exact .inl ⟨⟨xs, sm.seq hS, Nat.le_refl _⟩, hQ l ys H sm hl hsub hL⟩
end L2

namespace My
open PySem L2
abbrev sLedSuit : Stmt := top 12
abbrev sFoc : Stmt := top 13
abbrev sGoesAll : Stmt := top 14
abbrev sFreeAl : Stmt := inClass (top 15) 1
abbrev sFollowAl : Stmt := inClass (top 16) 1
abbrev sCutAl : Stmt := inClass (top 17) 1
abbrev sBeatAl : Stmt := inClass (top 18) 1
abbrev sMay : Stmt := inClass (top 30) 5
theorem at_vN {ys : List Nat} {i : Nat} (h : i < ys.length) : atI (vN ys) (i : Nat) = some (.int ((ys.getD i 0 : Nat) : Int)) := by
  have e : (vN ys)[i]? = some (.int ((ys.getD i 0 : Nat) : Int)) := by
    unfold vN
    rw [List.getElem?_map, List.getElem?_eq_getElem h, List.getD_eq_getElem?_getD, List.getElem?_eq_getElem h]
    rfl
  exact atI_nat e
theorem gtz (n : Nat) : decide ((0 : Int) < ((n : Nat) : Int)) = decide (0 < n) := decide_eq_decide.mpr ⟨fun h => by omega, fun h => by omega⟩
/-- a trick that has begun, and a hand, of the game's pack -/
structure Beg (f : Fx) (ys cs : List Nat) : Prop where
  ne : 0 < ys.length
  len : ys.length ≤ 32
  ys8 : ∀ c ∈ ys, c / 8 < 4 ∧ c % 8 < f.h
  cs8 : ∀ c ∈ cs, c < 32 ∧ c % 8 < f.h
theorem Beg.c32 {f : Fx} {ys cs : List Nat} (B : Beg f ys cs) : ∀ c ∈ cs, c < 32 := fun c h => (B.cs8 c h).1
theorem Beg.led {f : Fx} {ys cs : List Nat} (B : Beg f ys cs) : ledOf ys < 4 := by
  have m : ys.getD 0 0 ∈ ys := by
    rw [List.getD_eq_getElem?_getD, List.getElem?_eq_getElem B.ne]
    exact List.getElem_mem _
  exact (B.ys8 _ m).1
theorem Beg.sub {f : Fx} {ys cs ds : List Nat} (B : Beg f ys cs) (h : ∀ c ∈ ds, c ∈ cs) : Beg f ys ds := ⟨B.ne, B.len, B.ys8, fun c hc => B.cs8 c (h c hc)⟩
section
variable {P : Program} {w : World} {K : PySem.W.Frag} {mg : Str → Option Value} {base : Heap} {f g : Addr} {fd gd : FuncData}
/-! ### of_led_suit, followed_or_cut, goes_over_all -/
def spLed (K : PySem.W.Frag) : Sp := fun vs H Q _ => ∃ (p : Addr) (fx : Fx) (ys cs : List Nat), vs = [.int (hN cs : Nat), .ref p] ∧ SqT K H p (vN ys) ∧ Beg fx ys cs ∧ Q (.int (hN (folL (ledOf ys) cs) : Nat)) H
theorem scLed : FnScope ["hand", "trick"] ["hand", "trick"] (defScope sLedSuit) := ⟨rfl, rfl, rfl, by decide +kernel, rfl, by decide +kernel, by decide +kernel⟩
theorem ok_led {k : Nat} {f1 : Addr} {d1 : FuncData} {t1 : Tok} (F : Fun K "of_led_suit" "of_led_suit" sLedSuit f fd) (LO : Lib P w K mg base k "of_suit" ["hand", "suit"] (spOfSuit K) f1 d1) (mH : mg "HEIGHTS" = some (.int 8 t1)) : FnOk P w K mg base CX0 (k + 1) f fd ["hand", "trick"] (spLed K) := by
  refine F.ok scLed (fun vs H Q E h => ?_) (fun cdv A outer s H vs Q E hr h => ?_)
  · obtain ⟨p, fx, ys, cs, rfl, _⟩ := h
    rfl
  obtain ⟨p, fx, ys, cs, rfl, hT, B, q⟩ := h
  refine ⟨_, pss_one (ps_ret (pe_call LO.ok hr rfl LO.mg LO.kp LO.bd .nil pass0 (pa_cons (pv 0) (pa_cons (pe_op op_fdiv (pe_ix ix_tup (pv 1) pe_int (fun _ _ => rfl)) (pe_glob (v := .int 8) rfl mH ⟨_, rfl⟩)) pa_nil)))), ?_⟩
  have e0 : (((ys.getD 0 0 : Nat) : Int) / 8) = ((ledOf ys : Nat) : Int) := by unfold ledOf; omega
  refine ⟨_, rfl, _, rfl, p, _, _, _, rfl, rfl, hT, at_vN (i := 0) B.ne, _, _, rfl, rfl, ⟨by decide, by decide⟩, hN cs, ledOf ys, (show [V.int (hN cs : Nat), V.int (((ys.getD 0 0 : Nat) : Int) / 8)] = _ by rw [e0]), hN_lt B.c32, B.led, ?_⟩
  rw [hN_part B.c32 B.led]
  exact q
def TrB (t : Option Nat) : Prop := ∀ u, t = some u → u < 4
def spFoc (K : PySem.W.Frag) (CG : Addr) : Sp := fun vs H Q _ => ∃ (gm x p : Addr) (t : Option Nat) (fx : Fx) (ys cs : List Nat), vs = [.ref gm, .int (hN cs : Nat), .ref p] ∧ IsGam CG x (tvV t) H gm ∧ TrB t ∧ SqT K H p (vN ys) ∧ Beg fx ys cs ∧ Q (.int (hN (cutL t (ledOf ys) cs) : Nat)) H
abbrev nFoc : List Str := ["game", "hand", "trick", "followers", "trumps"]
theorem scFoc : FnScope nFoc ["game", "hand", "trick"] (defScope sFoc) := ⟨rfl, rfl, rfl, by decide +kernel, rfl, by decide +kernel, by decide +kernel⟩
theorem ok_foc {k : Nat} {f1 f2 CG : Addr} {d1 d2 : FuncData} (F : Fun K "followed_or_cut" "followed_or_cut" sFoc f fd) (CGm : GamC K mg CG) (LL : Lib P w K mg base k "of_led_suit" ["hand", "trick"] (spLed K) f1 d1) (LO : Lib P w K mg base k "of_suit" ["hand", "suit"] (spOfSuit K) f2 d2) :
    FnOk P w K mg base CX0 (k + 1) f fd ["game", "hand", "trick"] (spFoc K CG) := by
  refine F.ok scFoc (fun vs H Q E h => ?_) (fun cdv A outer s H vs Q E hr h => ?_)
  · obtain ⟨gm, x, p, t, fx, ys, cs, rfl, _⟩ := h
    rfl
  obtain ⟨gm, x, p, t, fx, ys, cs, rfl, ⟨dg, hG⟩, hb, hT, B, q⟩ := h
  refine ⟨_, pss_cons (ps_set (i := 3) scFoc.nd rfl (Or.inl rfl) (pe_call LL.ok hr rfl LL.mg LL.kp LL.bd .nil pass0 (pa_cons (pv 1) (pa_cons (pv 2) pa_nil))))
    (pss_cons (ps_if (pt_cmpR op_gt (pv 3) pe_int (nomark _)) (pss_one (ps_ret (pv 3))) pss_nil)
    (pss_cons (ps_if (pt_cmpR op_isN (pe_fld (pv 0) rfl) pe_non (nomark _)) (pss_one (ps_ret (pv 1))) pss_nil)
    (pss_cons (ps_set (i := 4) scFoc.nd rfl (Or.inl rfl) (pe_call LO.ok hr rfl LO.mg LO.kp LO.bd .nil pass0 (pa_cons (pv 1) (pa_cons (pe_fld (pv 0) rfl) pa_nil))))
    (pss_one (ps_ret (pe_ifExp (pt_cmpR op_gt (pv 4) pe_int (nomark _)) (pv 4) (pv 1))))))), ?_⟩
  refine ⟨_, rfl, _, rfl, p, fx, ys, cs, rfl, hT, B, ?_⟩
  refine ⟨_, rfl, _, _, rfl, rfl, _, rfl, ?_⟩
  refine chg (gtz _) ?_
  unfold cutL at q
  rw [hN_orL] at q
  by_cases c1 : 0 < hN (folL (ledOf ys) cs)
  · rw [decide_eq_true c1]
    rw [if_pos c1] at q
    exact iteT ⟨_, rfl, q⟩
  rw [decide_eq_false c1]
  rw [if_neg c1, hN_orL] at q
  refine iteF ⟨_, rfl, gm, CG, dg, _, _, rfl, hG, CGm.cl, CGm.nU, gam_trump _ _, rfl, _, rfl, ?_⟩
  cases t with
  | none =>
    have z : hN (trL none cs) = 0 := rfl
    rw [z, if_neg (Nat.lt_irrefl 0)] at q
    exact iteT ⟨_, rfl, q⟩
  | some u =>
    refine iteF ⟨_, rfl, _, rfl, gm, CG, dg, _, _, rfl, hG, CGm.cl, CGm.nU, gam_trump _ _, hN cs, u, rfl, hN_lt B.c32, hb u rfl, ?_⟩
    rw [hN_part B.c32 (hb u rfl)]
    have e : hN (trL (some u) cs) = hN (cs.filter fun c => decide (c / 8 = u)) := rfl
    rw [e] at q
    refine ⟨_, rfl, _, _, rfl, rfl, _, rfl, ?_⟩
    refine chg (gtz _) ?_
    by_cases c2 : 0 < hN (cs.filter fun c => decide (c / 8 = u))
    · rw [decide_eq_true c2]
      rw [if_pos c2] at q
      exact iteT ⟨_, rfl, q⟩
    · rw [decide_eq_false c2]
      rw [if_neg c2] at q
      exact iteF ⟨_, rfl, q⟩
end
section
variable {P : Program} {w : World} {K : PySem.W.Frag} {mg : Str → Option Value} {base : Heap} {f g : Addr} {fd gd : FuncData}
def ovV (fx : Fx) (t : Option Nat) (c led : Nat) (x : V) : Bool := match x with | .int i => overB fx t c i.toNat led | _ => false
theorem ovV_list (fx : Fx) (t : Option Nat) (c led : Nat) (ys : List Nat) : (((vN ys).filter fun _ => true).map fun x => V.bl (ovV fx t c led x)) = (ys.map fun o => overB fx t c o led).map V.bl := by
  rw [List.filter_eq_self.mpr fun _ _ => rfl]
  unfold vN
  rw [List.map_map, List.map_map]
  refine List.map_congr_left fun o _ => ?_
  show V.bl (overB fx t c (((o : Nat) : Int).toNat) led) = V.bl (overB fx t c o led)
  rw [Int.toNat_natCast]
def spGoes (K : PySem.W.Frag) (CT CG : Addr) : Sp := fun vs H Q _ => ∃ (gm x p : Addr) (t : Option Nat) (fx : Fx) (ys : List Nat) (c : Nat), vs = [.ref gm, .int (c : Nat), .ref p] ∧ fx.Ok ∧ IsGam CG x (tvV t) H gm ∧ IsTab CT fx H x ∧ SqT K H p (vN ys) ∧ Beg fx ys [] ∧ c % 8 < fx.h ∧ ∀ H', Same H H' → Q (.bl (ys.all fun o => overB fx t c o (ledOf ys))) H'
abbrev nGoes : List Str := ["game", "card", "trick", "led"]
abbrev nGoesB : List Str := ["other", "game", "card", "led"]
theorem scGoes : FnScope nGoes ["game", "card", "trick"] (defScope sGoesAll) := ⟨rfl, rfl, rfl, by decide +kernel, rfl, by decide +kernel, by decide +kernel⟩
theorem ok_goes {k : Nat} {CT CG m3 : Addr} {e3 : FuncData} {t1 : Tok} (F : Fun K "goes_over_all" "goes_over_all" sGoesAll f fd) (CGm : GamC K mg CG) (MV : Meth K CG "is_over" m3) (FV : FnOk P w K mg base CX0 k m3 e3 pOver (spOver CT CG)) (BV : Binds K e3 pOver []) (mH : mg "HEIGHTS" = some (.int 8 t1)) (mA : mg "all" = none) :
    FnOk P w K mg base CX0 (k + 1) f fd ["game", "card", "trick"] (spGoes K CT CG) := by
  refine F.ok scGoes (fun vs H Q E h => ?_) (fun cdv A outer s H vs Q E hr h => ?_)
  · obtain ⟨gm, x, p, t, fx, ys, c, rfl, _⟩ := h
    rfl
  obtain ⟨gm, x, p, t, fx, ys, c, rfl, ok, hg, ht, hT, B, hc, q⟩ := h
  refine ⟨_, pss_cons (ps_set (i := 3) scGoes.nd rfl (Or.inr rfl) (pe_op op_fdiv (pe_ix ix_tup (pv 2) pe_int (fun _ _ => rfl)) (pe_glob (v := .int 8) rfl mH ⟨_, rfl⟩)))
    (pss_one (ps_ret (pe_callB (call_allL rfl) rfl mA PyProof.Rows.boot_all (pa_cons (pe_comp nGoesB [none, some 0, some 1, some 3] rfl (Blk.by (sc := defScope sGoesAll) (N0 := nGoes) rfl rfl (by decide +kernel)) (pi_tup (pv 2)) (fun C s₀ H₀ ex => pg_name (i := 0) (show nGoesB.Nodup by decide +kernel) rfl (Or.inl rfl)) (fun C s₀ H₀ ex => pf_nil)
      (fun C s₀ H₀ ex => pe_meth (pv 1) CGm.cl MV FV hr BV .nil pass0 (pa_cons (pv 2) (pa_cons (pv 0) (pa_cons (pv 3) pa_nil))))) pa_nil)))), ?_⟩
  have e0 : (((ys.getD 0 0 : Nat) : Int) / 8) = ((ledOf ys : Nat) : Int) := by unfold ledOf; omega
  refine ⟨_, rfl, p, _, _, _, rfl, rfl, hT, at_vN (i := 0) B.ne, _, _, rfl, rfl, ⟨by decide, by decide⟩, ?_⟩
  have h32 := B.len
  refine ⟨_, rfl, p, rfl, ⟨_, hT⟩, comp_tup (K := K) (xs := vN ys) (fun _ => true) (fun x => .bl (ovV fx t c (ledOf ys) x)) hT (fits3 _ (by rw [vN_len]; omega)) (fun y H3 hy sm R hR => hR H3 (Same.refl H3)) (fun y H3 hy hp sm R hR => ?_) (fun lq H4 s4 hlq hL4 => ?_)⟩
  · obtain ⟨o, ho, rfl⟩ := List.mem_map.mp hy
    obtain ⟨dg, hG⟩ := id (hg.same sm)
    refine ⟨_, rfl, gm, dg, _, rfl, hG, gam_none _ _ _ (by decide +kernel) (by decide +kernel), _, rfl, _, rfl, _, rfl, gm, x, t, fx, c, o, ledOf ys, (show [V.ref gm, V.int (c : Nat), V.int (o : Nat), V.int (((ys.getD 0 0 : Nat) : Int) / 8)] = _ by rw [e0]), ok, hg.same sm, ht.same sm, hc, (B.ys8 o ho).2, fun H5 s5 => ?_⟩
    have r := hR H5 s5
    have e : ovV fx t c (ledOf ys) (.int (o : Nat)) = overB fx t c o (ledOf ys) := by
      show overB fx t c (((o : Nat) : Int).toNat) (ledOf ys) = _
      rw [Int.toNat_natCast]
    rw [e] at r
    exact r
  · rw [ovV_list] at hL4
    refine ⟨lq, _, rfl, SqL.of hL4, ?_⟩
    have z := q H4 s4
    rw [List.all_map]
    exact z
/-! ### what each duty allows -/
def spAl (K : PySem.W.Frag) (CT CG : Addr) (i : _root_.Fin 4) : Sp := fun vs H Q _ => ∃ (a gm x p : Addr) (t : Option Nat) (fx : Fx) (ys cs : List Nat), vs = [.ref a, .ref gm, .int (hN cs : Nat), .ref p] ∧ fx.Ok ∧ IsGam CG x (tvV t) H gm ∧ IsTab CT fx H x ∧ TrB t ∧ SqT K H p (vN ys) ∧ Beg fx ys cs ∧ ∀ H', Same H H' → Q (.int (hN (alw i fx t ys cs) : Nat)) H'
abbrev pAl : List Str := ["self", "game", "hand", "trick"]
theorem scFreeAl : FnScope pAl pAl (defScope sFreeAl) := ⟨rfl, rfl, rfl, by decide +kernel, rfl, by decide +kernel, by decide +kernel⟩
theorem ok_freeAl {k : Nat} {CT CG : Addr} (F : Fun K "allowed" "Free.allowed" sFreeAl f fd) : FnOk P w K mg base CX0 (k + 1) f fd pAl (spAl K CT CG 0) := by
  refine F.ok scFreeAl (fun vs H Q E h => ?_) (fun cdv A outer s H vs Q E hr h => ?_)
  · obtain ⟨a, gm, x, p, t, fx, ys, cs, rfl, _⟩ := h
    rfl
  obtain ⟨a, gm, x, p, t, fx, ys, cs, rfl, ok, hg, ht, hb, hT, B, q⟩ := h
  exact ⟨_, pss_one (ps_ret (pv 2)), _, rfl, q H (Same.refl H)⟩
abbrev nFollowAl : List Str := ["self", "game", "hand", "trick", "followers"]
theorem scFollowAl : FnScope nFollowAl pAl (defScope sFollowAl) := ⟨rfl, rfl, rfl, by decide +kernel, rfl, by decide +kernel, by decide +kernel⟩
theorem ok_followAl {k : Nat} {CT CG f1 : Addr} {d1 : FuncData} (F : Fun K "allowed" "Follow.allowed" sFollowAl f fd) (LL : Lib P w K mg base k "of_led_suit" ["hand", "trick"] (spLed K) f1 d1) : FnOk P w K mg base CX0 (k + 1) f fd pAl (spAl K CT CG 1) := by
  refine F.ok scFollowAl (fun vs H Q E h => ?_) (fun cdv A outer s H vs Q E hr h => ?_)
  · obtain ⟨a, gm, x, p, t, fx, ys, cs, rfl, _⟩ := h
    rfl
  obtain ⟨a, gm, x, p, t, fx, ys, cs, rfl, ok, hg, ht, hb, hT, B, q⟩ := h
  refine ⟨_, pss_cons (ps_set (i := 4) scFollowAl.nd rfl (Or.inl rfl) (pe_call LL.ok hr rfl LL.mg LL.kp LL.bd .nil pass0 (pa_cons (pv 2) (pa_cons (pv 3) pa_nil))))
    (pss_one (ps_ret (pe_ifExp (pt_cmpR op_gt (pv 4) pe_int (nomark _)) (pv 4) (pv 2)))), ?_⟩
  refine ⟨_, rfl, _, rfl, p, fx, ys, cs, rfl, hT, B, ?_⟩
  refine ⟨_, rfl, _, _, rfl, rfl, _, rfl, ?_⟩
  refine chg (gtz _) ?_
  have q' := q H (Same.refl H)
  have e : hN (alw 1 fx t ys cs) = if 0 < hN (folL (ledOf ys) cs) then hN (folL (ledOf ys) cs) else hN cs := hN_orL
  rw [e] at q'
  by_cases c1 : 0 < hN (folL (ledOf ys) cs)
  · rw [decide_eq_true c1]
    rw [if_pos c1] at q'
    exact iteT ⟨_, rfl, q'⟩
  · rw [decide_eq_false c1]
    rw [if_neg c1] at q'
    exact iteF ⟨_, rfl, q'⟩
theorem scCutAl : FnScope pAl pAl (defScope sCutAl) := ⟨rfl, rfl, rfl, by decide +kernel, rfl, by decide +kernel, by decide +kernel⟩
theorem ok_cutAl {k : Nat} {CT CG f1 : Addr} {d1 : FuncData} (F : Fun K "allowed" "Cut.allowed" sCutAl f fd) (LF : Lib P w K mg base k "followed_or_cut" ["game", "hand", "trick"] (spFoc K CG) f1 d1) : FnOk P w K mg base CX0 (k + 1) f fd pAl (spAl K CT CG 2) := by
  refine F.ok scCutAl (fun vs H Q E h => ?_) (fun cdv A outer s H vs Q E hr h => ?_)
  · obtain ⟨a, gm, x, p, t, fx, ys, cs, rfl, _⟩ := h
    rfl
  obtain ⟨a, gm, x, p, t, fx, ys, cs, rfl, ok, hg, ht, hb, hT, B, q⟩ := h
  exact ⟨_, pss_one (ps_ret (pe_call LF.ok hr rfl LF.mg LF.kp LF.bd .nil pass0 (pa_cons (pv 1) (pa_cons (pv 2) (pa_cons (pv 3) pa_nil))))), _, rfl, _, rfl, _, rfl, gm, x, p, t, fx, ys, cs, rfl, hg, hb, hT, B, q H (Same.refl H)⟩
abbrev nBeatAl : List Str := ["self", "game", "hand", "trick", "choice", "beaters"]
abbrev nBeatB : List Str := ["card", "game", "trick"]
theorem scBeatAl : FnScope nBeatAl pAl (defScope sBeatAl) := ⟨rfl, rfl, rfl, by decide +kernel, rfl, by decide +kernel, by decide +kernel⟩
def topV (fx : Fx) (t : Option Nat) (ys : List Nat) (x : V) : Bool := match x with | .int i => ys.all fun o => overB fx t i.toNat o (ledOf ys) | _ => false
theorem topV_list (fx : Fx) (t : Option Nat) (ys ds : List Nat) : (((vN ds).filter (topV fx t ys)).map fun x => x) = vN (ds.filter fun c => ys.all fun o => overB fx t c o (ledOf ys)) := by
  rw [List.map_id']
  unfold vN
  rw [List.filter_map]
  refine congrArg _ (List.filter_congr fun c _ => ?_)
  show (ys.all fun o => overB fx t (((c : Nat) : Int).toNat) o (ledOf ys)) = _
  rw [Int.toNat_natCast]
theorem ok_beatAl {k : Nat} {CT CG f1 f2 f3 f4 : Addr} {d1 d2 d3 d4 : FuncData} (F : Fun K "allowed" "Beat.allowed" sBeatAl f fd) (LF : Lib P w K mg base k "followed_or_cut" ["game", "hand", "trick"] (spFoc K CG) f1 d1)
    (LH : Lib P w K mg base k "hand_of" ["cards"] (spHandOf K) f2 d2) (LI : Lib P w K mg base k "cards_in" ["hand"] (spCardsIn K) f3 d3) (LG : Lib P w K mg base k "goes_over_all" ["game", "card", "trick"] (spGoes K CT CG) f4 d4) : FnOk P w K mg base CX0 (k + 1) f fd pAl (spAl K CT CG 3) := by
  refine F.ok scBeatAl (fun vs H Q E h => ?_) (fun cdv A outer s H vs Q E hr h => ?_)
  · obtain ⟨a, gm, x, p, t, fx, ys, cs, rfl, _⟩ := h
    rfl
  obtain ⟨a, gm, x, p, t, fx, ys, cs, rfl, ok, hg, ht, hb, hT, B, q⟩ := h
  refine ⟨_, pss_cons (ps_set (i := 4) scBeatAl.nd rfl (Or.inl rfl) (pe_call LF.ok hr rfl LF.mg LF.kp LF.bd .nil pass0 (pa_cons (pv 1) (pa_cons (pv 2) (pa_cons (pv 3) pa_nil)))))
    (pss_cons (ps_set (i := 5) scBeatAl.nd rfl (Or.inl rfl) (pe_call LH.ok hr rfl LH.mg LH.kp LH.bd .nil pass0 (pa_cons (pe_comp nBeatB [none, some 1, some 3] rfl (Blk.by (sc := defScope sBeatAl) (N0 := nBeatAl) rfl rfl (by decide +kernel)) (pi_list (pe_call LI.ok hr rfl LI.mg LI.kp LI.bd .nil pass0 (pa_cons (pv 4) pa_nil))) (fun C s₀ H₀ ex => pg_name (i := 0) (show nBeatB.Nodup by decide +kernel) rfl (Or.inl rfl))
      (fun C s₀ H₀ ex => pf_one (pt_truthB (pe_call LG.ok hr rfl LG.mg LG.kp LG.bd .nil pass0 (pa_cons (pv 1) (pa_cons (pv 0) (pa_cons (pv 2) pa_nil)))) (fun _ => rfl))) (fun C s₀ H₀ ex => pv 0)) pa_nil)))
    (pss_one (ps_ret (pe_ifExp (pt_cmpR op_gt (pv 5) pe_int (nomark _)) (pv 5) (pv 4))))), ?_⟩
  have hsub := cutL_sub t (ledOf ys) cs
  have B2 := B.sub hsub
  refine ⟨_, rfl, _, rfl, _, rfl, gm, x, p, t, fx, ys, cs, rfl, hg, hb, hT, B, ?_⟩
  refine ⟨_, rfl, hN (cutL t (ledOf ys) cs), rfl, hN_lt B2.c32, fun l1 H1 s1 hl1 hL1 => ?_⟩
  rw [cardsV_eq] at hL1
  have hmem := hN_cards B2.c32
  have hlen : (cardsN (hN (cutL t (ledOf ys) cs))).length ≤ 32 := by
    unfold cardsN
    exact Nat.le_trans (List.length_filter_le _ _) (by rw [List.length_range]; exact Nat.le_refl _)
  refine ⟨l1, rfl, ⟨_, SqL.of hL1⟩, comp_list (K := K) (xs := vN (cardsN (hN (cutL t (ledOf ys) cs)))) (topV fx t ys) (fun y => y) (SqL.of hL1) (fits3 _ (by rw [vN_len]; omega)) (fun y H3 hy sm R hR => ?_) (fun y H3 hy hp sm R hR => ⟨_, rfl, hR H3 (Same.refl H3)⟩) (fun lq H4 s4 hlq hL4 => ?_)⟩
  · obtain ⟨c, hc, rfl⟩ := List.mem_map.mp hy
    have s3 := s1.trans sm
    have c8 := (B2.cs8 c ((hmem c).mp hc)).2
    refine ⟨_, rfl, _, rfl, _, rfl, gm, x, p, t, fx, ys, c, rfl, ok, hg.same s3, ht.same s3, s3.seqT hT, B.sub (fun c hc => nomatch hc), c8, fun H5 s5 => ⟨_, rfl, ?_⟩⟩
    have r := hR H5 s5
    have e : topV fx t ys (.int (c : Nat)) = ys.all fun o => overB fx t c o (ledOf ys) := by
      show (ys.all fun o => overB fx t (((c : Nat) : Int).toNat) o (ledOf ys)) = _
      rw [Int.toNat_natCast]
    rw [e] at r
    exact r
  · rw [topV_list] at hL4
    refine ⟨lq, _, rfl, SqL.of hL4, fun c hc => cards_lt (List.mem_filter.mp hc).1, ?_⟩
    have eo : orAll ((cardsN (hN (cutL t (ledOf ys) cs))).filter fun c => ys.all fun o => overB fx t c o (ledOf ys)) 0 = hN (topL fx t ys (cutL t (ledOf ys) cs)) := by
      refine hN_ext fun i => ?_
      unfold topL
      rw [List.mem_filter, List.mem_filter, hmem]
    rw [eo]
    refine ⟨_, rfl, _, _, rfl, rfl, _, rfl, ?_⟩
    refine chg (gtz _) ?_
    have q' := q H4 (s1.trans s4)
    have e : hN (alw 3 fx t ys cs) = if 0 < hN (topL fx t ys (cutL t (ledOf ys) cs)) then hN (topL fx t ys (cutL t (ledOf ys) cs)) else hN (cutL t (ledOf ys) cs) := hN_orL
    rw [e] at q'
    by_cases c1 : 0 < hN (topL fx t ys (cutL t (ledOf ys) cs))
    · rw [decide_eq_true c1]
      rw [if_pos c1] at q'
      exact iteT ⟨_, rfl, q'⟩
    · rw [decide_eq_false c1]
      rw [if_neg c1] at q'
      exact iteF ⟨_, rfl, q'⟩
end
end My

namespace My
open PySem L2
abbrev sTrick : Stmt := top 40
abbrev sBit : Stmt := top 41
abbrev sCards : Stmt := top 42
abbrev sLIn : Stmt := top 43
abbrev sWins : Stmt := top 44
abbrev sLaw : Stmt := top 45
abbrev sWinner : Stmt := inClass (top 30) 4
theorem nd_snoc {ys : List Nat} {c : Nat} (h : c ∉ ys) (nd : ys.Nodup) : (ys ++ [c]).Nodup := (List.perm_append_singleton c ys).nodup_iff.mpr (List.nodup_cons.mpr ⟨h, nd⟩)
theorem vN_snoc (ys : List Nat) (c : Nat) : vN ys ++ [.int (c : Nat)] = vN (ys ++ [c]) := by unfold vN; rw [List.map_append]; rfl
theorem getD_of {ys : List Nat} {i c : Nat} (h : ys[i]? = some c) : ys.getD i 0 = c := by rw [List.getD_eq_getElem?_getD, h]; rfl
theorem lt_of {ys : List Nat} {i c : Nat} (h : ys[i]? = some c) : i < ys.length := (List.getElem?_eq_some_iff.mp h).1
section
variable {P : Program} {w : World} {K : PySem.W.Frag} {mg : Str → Option Value} {base : Heap} {f g : Addr} {fd gd : FuncData}
/-! ### the winner -/
def spWinner (K : PySem.W.Frag) (CT CG : Addr) : Sp := fun vs H Q _ => ∃ (gm x p : Addr) (t : Option Nat) (f : Fx) (ys : List Nat), vs = [.ref gm, .ref p] ∧ f.Ok ∧ IsGam CG x (tvV t) H gm ∧ IsTab CT f H x ∧ SqT K H p (vN ys) ∧ Trk f ys ∧ ∀ h H', Same H H' → Win f t (ledOf ys) ys h → Q (.int (h : Nat)) H'
abbrev nWinner : List Str := ["self", "trick", "led", "highest", "number", "card"]
theorem scWinner : FnScope nWinner ["self", "trick"] (defScope sWinner) := ⟨rfl, rfl, rfl, by decide +kernel, rfl, by decide +kernel, by decide +kernel⟩
theorem ok_winner {k : Nat} {CT CG m3 : Addr} {e3 : FuncData} {t1 : Tok} (F : Fun K "winner" "Game.winner" sWinner f fd) (CGm : GamC K mg CG) (MV : Meth K CG "is_over" m3) (FV : FnOk P w K mg base CX0 k m3 e3 pOver (spOver CT CG)) (BV : Binds K e3 pOver []) (mH : mg "HEIGHTS" = some (.int 8 t1)) (me : mg "enumerate" = none) :
    FnOk P w K mg base CX0 (k + 1) f fd ["self", "trick"] (spWinner K CT CG) := by
  refine F.ok scWinner (fun vs H Q E h => ?_) (fun cdv A outer s H vs Q E hr h => ?_)
  · obtain ⟨gm, x, p, t, fx, ys, rfl, _⟩ := h
    rfl
  obtain ⟨gm, x, p, t, fx, ys, rfl, ok, hg, ht, hT, T, q⟩ := h
  refine ⟨_, pss_cons (ps_set (i := 2) scWinner.nd rfl (Or.inl rfl) (pe_op op_fdiv (pe_ix ix_tup (pv 1) pe_int (fun _ _ => rfl)) (pe_glob (v := .int 8) rfl mH ⟨_, rfl⟩)))
    (pss_cons (ps_set (i := 3) scWinner.nd rfl (Or.inl rfl) pe_int)
    (pss_cons (ps_for PassesOwn.never rfl (pi_enumT rfl me (pa_cons (pv 1) pa_nil)) (pg_tup rfl (pgs_cons (pg_name (i := 4) scWinner.nd rfl (Or.inl rfl)) (pgs_cons (pg_name (i := 5) scWinner.nd rfl (Or.inl rfl)) pgs_nil)))
      (pss_one (ps_if (pt_truth (pe_meth (pv 0) CGm.cl MV FV hr BV .nil pass0 (pa_cons (pv 5) (pa_cons (pe_ix ix_tup (pv 1) (pv 3) (fun _ _ => rfl)) (pa_cons (pv 2) pa_nil)))) (fun _ => rfl)) (pss_one (ps_set (i := 3) scWinner.nd rfl (Or.inl rfl) (pv 4))) pss_nil)))
    (pss_one (ps_ret (pv 3))))), ?_⟩
  have e0 : (((ys.getD 0 0 : Nat) : Int) / 8) = ((ledOf ys : Nat) : Int) := by unfold ledOf; omega
  refine ⟨_, rfl, p, _, _, _, rfl, rfl, hT, at_vN (i := 0) T.ne, _, _, rfl, rfl, ⟨by decide, by decide⟩, ?_⟩
  refine ⟨_, rfl, p, _, rfl, hT, ?_⟩
  refine for_enumT (K := K) (a := p) (xs := vN ys) (fun i σ H' => Same H H' ∧ ∃ (h : Nat) (x4 x5 : Option V), σ = [some (.ref gm), some (.ref p), some (.int ((ledOf ys : Nat) : Int)), some (.int (h : Nat)), x4, x5] ∧ h < ys.length ∧ ∀ j < i, rk fx t (ledOf ys) (ys.getD j 0) ≤ rk fx t (ledOf ys) (ys.getD h 0))
    ⟨Same.refl H, 0, none, none, ?_, T.ne, fun j hj => absurd hj (Nat.not_lt_zero _)⟩ (fun i σ H1 z => z.1.seqT hT) (fun i v r σ H1 hv z hr1 => ?_) (fun σ H1 z => ?_)
  · show [_, _, some (V.int (((ys.getD 0 0 : Nat) : Int) / 8)), _, _, _] = _
    rw [e0]
    rfl
  · obtain ⟨s1, h, x4, x5, rfl, hh, hm⟩ := z
    obtain ⟨c, hc, rfl⟩ := vN_get hv
    have s2 := s1.trans (same_upd hr1 (.tup [.int (i : Nat), .int (c : Nat)]))
    refine ⟨r, _, rfl, SqT.of upd_same, rfl, _, _, rfl, _, _, rfl, rfl, ?_⟩
    obtain ⟨dg, hG⟩ := id (hg.same s2)
    have cm : c ∈ ys := List.mem_of_getElem? hc
    have hmem : ys.getD h 0 ∈ ys := by
      rw [List.getD_eq_getElem?_getD, List.getElem?_eq_getElem hh]
      exact List.getElem_mem _
    refine ⟨_, rfl, gm, dg, _, rfl, hG, gam_none _ _ _ (by decide +kernel) (by decide +kernel), _, rfl, _, rfl, _, rfl, p, _, _, _, rfl, rfl, s2.seqT hT, at_vN hh, _, rfl, gm, x, t, fx, c, ys.getD h 0, ledOf ys, rfl, ok, hg.same s2, ht.same s2, T.ht c cm, T.ht _ hmem, fun H3 s3 => ⟨_, rfl, ?_⟩⟩
    rw [over_rk ok]
    have gc := getD_of hc
    refine ite2 (fun y => ?_) fun y => ?_
    · have y := of_decide_eq_true y
      refine ⟨_, rfl, s2.trans s3, i, _, _, rfl, lt_of hc, fun j hj => ?_⟩
      rw [gc]
      rcases Nat.lt_or_eq_of_le (Nat.le_of_lt_succ hj) with z | z
      · exact Nat.le_trans (hm j z) (Nat.le_of_lt y)
      · rw [z, gc]
        exact Nat.le_refl _
    · have y : ¬ rk fx t (ledOf ys) (ys.getD h 0) < rk fx t (ledOf ys) c := fun z => y (decide_eq_true z)
      refine ⟨s2.trans s3, h, _, _, rfl, hh, fun j hj => ?_⟩
      rcases Nat.lt_or_eq_of_le (Nat.le_of_lt_succ hj) with z | z
      · exact hm j z
      · rw [z, gc]
        exact Nat.le_of_not_lt y
  · obtain ⟨s1, h, x4, x5, rfl, hh, hm⟩ := z
    rw [vN_len] at hm
    exact ⟨_, rfl, q h H1 s1 (win_of ok T hh hm)⟩
/-! ### a trick drawn -/
def spTrick (K : PySem.W.Frag) : Sp := fun vs H Q _ => ∃ (a l : Addr) (ns : List Int) (f : Fx) (at_ most : Nat), vs = [.ref a, .int (at_ : Nat), .ref l, .int (most : Nat)] ∧ SqL K H a (ns.map V.int) ∧ at_ ≤ 100 ∧ f.Ok ∧ IsFx f H l ∧ most ≤ 4 ∧
  ∀ p ys H', Same H H' → H p = none → H' p = some (.lst (vN ys)) → ys.Nodup → (∀ c ∈ ys, c / 8 < f.s ∧ c % 8 < f.h) → ys.length ≤ most → (0 < most → 0 < ys.length) → Q (.ref p) H'
abbrev pTrick : List Str := ["_law_script", "_law_at", "_law_facts", "_law_most"]
abbrev nTrick : List Str := ["_law_script", "_law_at", "_law_facts", "_law_most", "_law_trick_here", "_law_k", "_law_cell_here", "_law_card_here", "_law_turn"]
theorem scTrick : FnScope nTrick pTrick (defScope sTrick) := ⟨rfl, rfl, rfl, by decide +kernel, rfl, by decide +kernel, by decide +kernel⟩
theorem ok_trick {k : Nat} {f1 f2 f3 : Addr} {d1 d2 d3 : FuncData} (F : Fun K "_law_trick" "_law_trick" sTrick f fd) (LC : Lib P w K mg base k "_law_cell" pCell (spCell K) f1 d1) (LX : Lib P w K mg base k "_law_mixed" ["_law_cell_here", "_law_k"] spMixed f2 d2) (LD : Lib P w K mg base k "_law_card" ["_law_cell_here", "_law_facts"] (spCard K) f3 d3) (mr : mg "range" = none) :
    FnOk P w K mg base CX0 (k + 1) f fd pTrick (spTrick K) := by
  refine F.ok scTrick (fun vs H Q E h => ?_) (fun cdv A outer s H vs Q E hr h => ?_)
  · obtain ⟨a, l, ns, fx, at_, most, rfl, _⟩ := h
    rfl
  obtain ⟨a, l, ns, fx, at_, most, rfl, hS, h100, ok, hF, h4, q⟩ := h
  refine ⟨_, pss_cons (ps_set (i := 4) scTrick.nd rfl (Or.inl rfl) (pe_lst pa_nil))
    (pss_cons (ps_for PassesOwn.never rfl (pi_range1 rfl mr (pa_cons (pv 3) pa_nil)) (pg_name (i := 5) scTrick.nd rfl (Or.inl rfl))
      (pss_cons (ps_set (i := 6) scTrick.nd rfl (Or.inl rfl) (pe_call LX.ok hr rfl LX.mg LX.kp LX.bd .nil pass0 (pa_cons (pe_call LC.ok hr rfl LC.mg LC.kp LC.bd .nil pass0 (pa_cons (pv 0) (pa_cons (pe_op op_add (pv 1) (pv 5)) pa_nil))) (pa_cons pe_int pa_nil))))
      (pss_cons (ps_set (i := 7) scTrick.nd rfl (Or.inl rfl) (pe_call LD.ok hr rfl LD.mg LD.kp LD.bd .nil pass0 (pa_cons (pv 6) (pa_cons (pv 2) pa_nil))))
      (pss_cons (ps_for PassesOwn.never rfl (pi_range1 rfl mr (pa_cons (pe_op op_mul (pe_ix ix_list (pv 2) pe_int (fun _ _ => rfl)) (pe_ix ix_list (pv 2) pe_int (fun _ _ => rfl))) pa_nil)) (pg_name (i := 8) scTrick.nd rfl (Or.inl rfl))
        (pss_one (ps_if (pt_cmpR op_in_seq (pv 7) (pv 4) rfl) (pss_one (ps_set (i := 7) scTrick.nd rfl (Or.inl rfl) (pe_call LD.ok hr rfl LD.mg LD.kp LD.bd .nil pass0 (pa_cons (pe_op op_add (pe_op op_add (pv 6) (pv 8)) pe_int) (pa_cons (pv 2) pa_nil))))) pss_nil)))
      (pss_one (ps_if (pt_cmpR op_notIn_seq (pv 7) (pv 4) rfl) (pss_one (ps_expr (pe_bm PySem.F.plainAttrs_list PySem.F.slot_list_append PySem.F.type_list_append mt_append (pv 4) (pa_cons (pv 7) pa_nil)))) pss_nil))))))
    (pss_one (ps_ret (pv 4)))), ?_⟩
  refine ⟨fits3 0 (by decide), fun p hp => ?_⟩
  have s0 := same_upd hp (.lst [])
  refine ⟨_, rfl, ((most : Nat) : Int), rfl, by omega, by omega, ?_⟩
  refine for_range (n := most) (fun i σ H' => Same H H' ∧ ∃ (ys : List Nat) (x5 x6 x7 x8 : Option V), σ = [some (.ref a), some (.int (at_ : Nat)), some (.ref l), some (.int (most : Nat)), some (.ref p), x5, x6, x7, x8] ∧ H' p = some (.lst (vN ys)) ∧ ys.Nodup ∧ (∀ c ∈ ys, c / 8 < fx.s ∧ c % 8 < fx.h) ∧ ys.length ≤ i ∧ (0 < i → 0 < ys.length))
    ⟨s0, [], none, none, none, none, rfl, upd_same, List.nodup_nil, (fun c hc => nomatch hc), Nat.le_refl _, fun z => absurd z (Nat.lt_irrefl _)⟩ (fun i σ H1 hi z => ?_) (fun σ H1 z => ?_)
  · obtain ⟨s1, ys, x5, x6, x7, x8, rfl, g, nd, hb, hl, h0⟩ := z
    have ei : ((at_ : Nat) : Int) + (0 + (i : Nat)) = ((at_ + i : Nat) : Int) := by omega
    refine ⟨_, rfl, _, rfl, _, rfl, _, _, rfl, rfl, a, ns, at_ + i, (show [V.ref a, V.int (((at_ : Nat) : Int) + (0 + (i : Nat)))] = _ by rw [ei]), s1.seq hS, by omega, fun z2 => ⟨z2, 5, rfl, by decide, fun z3 hz3 => ?_⟩⟩
    have hF1 := hF.same s1
    refine ⟨_, rfl, _, rfl, z3, l, fx, rfl, ok, hF1, fun c hc1 hc2 => ?_⟩
    obtain ⟨pl, tr, hL, _, _⟩ := id hF1
    have hsh := Nat.mul_le_mul ok.s4 ok.h8
    have em : ((fx.s : Nat) : Int) * ((fx.h : Nat) : Int) = ((fx.s * fx.h : Nat) : Int) := (Int.natCast_mul _ _).symm
    have s4 := ok.s4
    have h8 := ok.h8
    refine ⟨_, rfl, l, _, 0, .int (fx.s : Nat), rfl, rfl, SqL.of hL, rfl, _, rfl, l, _, 1, .int (fx.h : Nat), rfl, rfl, SqL.of hL, rfl, _, _, rfl, rfl, .inl ⟨by omega, by omega⟩, ((fx.s * fx.h : Nat) : Int), (show [V.int (((fx.s : Nat) : Int) * ((fx.h : Nat) : Int))] = _ by rw [em]), by omega, by omega, ?_⟩
    refine for_range (n := fx.s * fx.h) (fun j σ H' => H' = H1 ∧ ∃ (c : Nat) (x8 : Option V), σ = [some (.ref a), some (.int (at_ : Nat)), some (.ref l), some (.int (most : Nat)), some (.ref p), some (.int (0 + (i : Nat))), some (.int z3), some (.int (c : Nat)), x8] ∧ c / 8 < fx.s ∧ c % 8 < fx.h)
      ⟨rfl, c, _, rfl, hc1, hc2⟩ (fun j σ H2 hj z => ?_) (fun σ H2 z => ?_)
    · obtain ⟨rfl, c, x8, rfl, b1, b2⟩ := z
      refine ⟨_, rfl, _, rfl, p, _, rfl, .inl (SqL.of g), rfl, vN_flat ys, _, rfl, ite2 (fun y => ?_) fun y => ?_⟩
      · exact ⟨_, rfl, _, rfl, _, _, rfl, rfl, _, _, rfl, rfl, _, rfl, _, l, fx, rfl, ok, hF1, fun n n1 n2 => ⟨rfl, n, _, rfl, n1, n2⟩⟩
      · exact ⟨rfl, c, _, rfl, b1, b2⟩
    · obtain ⟨rfl, c, x8, rfl, b1, b2⟩ := z
      refine ⟨_, rfl, _, rfl, p, _, rfl, .inl (SqL.of g), rfl, vN_flat ys, _, rfl, ?_⟩
      show (if (!inV (.int (c : Nat)) (vN ys)) = true then _ else _)
      rw [in_vN]
      by_cases m : c ∈ ys
      · rw [decide_eq_true m]
        exact iteF ⟨s1, ys, _, _, _, _, rfl, g, nd, hb, by omega, fun _ => List.length_pos_of_mem m⟩
      · rw [decide_eq_false m]
        refine iteT ⟨_, rfl, .inl ⟨rfl, _, SqL.of g⟩, _, rfl, p, vN ys, _, rfl, rfl, g, (by rw [vN_len]; have := fits3 100 (by decide); omega), ?_⟩
        rw [vN_snoc]
        refine ⟨fun b o hb' => ?_, ys ++ [c], _, _, _, _, rfl, upd_same, nd_snoc m nd, fun d hd => ?_, ?_, fun _ => ?_⟩
        · rw [upd_ne (fun z => by rw [z, hp] at hb'; cases hb')]
          exact s1 _ _ hb'
        · rcases List.mem_append.mp hd with z | z
          · exact hb d z
          · rw [List.mem_singleton.mp z]
            exact ⟨b1, b2⟩
        · rw [List.length_append]
          show ys.length + 1 ≤ i + 1
          omega
        · rw [List.length_append]
          exact Nat.succ_pos _
  · obtain ⟨s1, ys, x5, x6, x7, x8, rfl, g, nd, hb, hl, h0⟩ := z
    exact ⟨_, rfl, q p ys H1 s1 hp g nd hb hl h0⟩
theorem set_bool {te : TE} {g : TG} {u : TS} {D : Ends} {σ : St} {H : Hp} (h : ∀ R : V → Hp → Prop, (∀ b, R (.bl b) H) → te σ H R) (hu : ∀ b : Bool, g (.bl b) σ H fun σ' H' => u D σ' H') : tSeq (tAsg te g) u D σ H := h _ hu
/-! ### may -/
def spMay (K : PySem.W.Frag) (CT CG : Addr) : Sp := fun vs H Q _ => ∃ (gm x p : Addr) (t : Option Nat) (fx : Fx) (ys cs : List Nat), vs = [.ref gm, .int (hN cs : Nat), .ref p] ∧ fx.Ok ∧ IsGam CG x (tvV t) H gm ∧ IsTab CT fx H x ∧ TrB t ∧ SqT K H p (vN ys) ∧ (ys = [] ∨ Beg fx ys cs) ∧ ∀ H', Same H H' → Q (.int (hN (if ys = [] then cs else alw fx.d fx t ys cs) : Nat)) H'
theorem scMay : FnScope ["self", "hand", "trick"] ["self", "hand", "trick"] (defScope sMay) := ⟨rfl, rfl, rfl, by decide +kernel, rfl, by decide +kernel, by decide +kernel⟩
abbrev AlF (P : Program) (w : World) (K : PySem.W.Frag) (mg : Str → Option Value) (base : Heap) (CT CG : Addr) (k : Nat) (c4 f4 : _root_.Fin 4 → Addr) (d4 : _root_.Fin 4 → FuncData) : Prop := MethF P w K mg base CX0 k (_root_.Fin 4) "allowed" pAl (spAl K CT CG) c4 f4 d4
theorem len0 (ys : List Nat) : decide (V.int (((vN ys).length : Nat) : Int) = V.int 0) = decide (ys = []) := by
  rw [vN_len]
  refine decide_eq_decide.mpr ⟨fun h => ?_, fun h => by rw [h]; rfl⟩
  injection h with h
  exact List.eq_nil_of_length_eq_zero (by omega)
theorem ok_may {k : Nat} {CT CG CN f1 m2 : Addr} {d1 e2 : FuncData} {c4 f4 : _root_.Fin 4 → Addr} {d4 : _root_.Fin 4 → FuncData} (F : Fun K "may" "Game.may" sMay f fd) (C : TabC K mg CT) (CGm : GamC K mg CG) (LD : LibX P w K mg base k "duty_of" ["word"] (spDuty c4 CN) f1 d1)
    (MD : Meth K CT "duty" m2) (FD : FnOk P w K mg base CX0 k m2 e2 ["self"] (spTDuty CT)) (BD : Binds K e2 ["self"] []) (MA : AlF P w K mg base CT CG k c4 f4 d4) (ml : mg "len" = none) :
    FnOk P w K mg base CX0 (k + 1) f fd ["self", "hand", "trick"] (spMay K CT CG) := by
  refine F.ok scMay (fun vs H Q E h => ?_) (fun cdv A outer s H vs Q E hr h => ?_)
  · obtain ⟨gm, x, p, t, fx, ys, cs, rfl, _⟩ := h
    rfl
  obtain ⟨gm, x, p, t, fx, ys, cs, rfl, ok, hg, ht, hb, hT, B, q⟩ := h
  refine ⟨_, pss_cons (ps_if (pt_cmpR op_eq (pe_callB call_len_seq rfl ml PySem.boot_len (pa_cons (pv 2) pa_nil)) pe_int (nomark _)) (pss_one (ps_ret (pv 1))) pss_nil)
    (pss_one (ps_ret (pe_methF (pe_call LD.ok hr rfl LD.mg LD.kp LD.bd .nil pass1 (pa_cons (pe_meth0 (pe_fld (pv 0) rfl) C.cl MD FD hr BD .nil pass0) pa_nil)) MA hr pass0 (pa_cons (pv 0) (pa_cons (pv 1) (pa_cons (pv 2) pa_nil)))))), ?_⟩
  refine ⟨_, rfl, p, _, rfl, .inr hT, rfl, _, rfl, ?_⟩
  refine chg (len0 ys) ?_
  by_cases c0 : ys = []
  · rw [decide_eq_true c0]
    have q' := q H (Same.refl H)
    rw [if_pos c0] at q'
    exact iteT ⟨_, rfl, q'⟩
  · rw [decide_eq_false c0]
    have B' := B.resolve_left c0
    obtain ⟨dg, hG⟩ := id hg
    obtain ⟨dx, po, to, hX, _, _⟩ := id ht
    refine iteF ⟨_, rfl, gm, CG, dg, _, _, rfl, hG, CGm.cl, CGm.nT, gam_table _ _, x, dx, _, rfl, hX, look7_duty _ _ _, x, fx, rfl, ht, wd fx.d, rfl, fun i e y dy H6 s6 hy h6 => ?_, fun z => absurd (mem_wd _) z⟩
    have ei := wd_inj _ _ e
    refine ⟨i, y, dy, [], rfl, h6, rfl, _, rfl, _, rfl, _, rfl, y, gm, x, p, t, fx, ys, cs, rfl, ok, hg.same s6, ht.same s6, hb, s6.seqT hT, B', fun H7 s7 => ?_⟩
    have q' := q H7 (s6.trans s7)
    rw [if_neg c0, ei] at q'
    exact q'
/-! ### a bit, the cards -/
def spBit : Sp := fun vs H Q _ => ∃ c : Nat, vs = [.int (c : Nat)] ∧ c ≤ 1000 ∧ Q (.int ((2 ^ c : Nat) : Int)) H
theorem scBit : FnScope ["_law_card_here", "_law_bit_here", "_law_time"] ["_law_card_here"] (defScope sBit) := ⟨rfl, rfl, rfl, by decide +kernel, rfl, by decide +kernel, by decide +kernel⟩
theorem ok_bit {k : Nat} (F : Fun K "_law_bit" "_law_bit" sBit f fd) (mr : mg "range" = none) : FnOk P w K mg base CX0 (k + 1) f fd ["_law_card_here"] spBit := by
  refine F.ok scBit (fun vs H Q E h => ?_) (fun cdv A outer s H vs Q E hr h => ?_)
  · obtain ⟨c, rfl, _⟩ := h
    rfl
  obtain ⟨c, rfl, hc, q⟩ := h
  refine ⟨_, pss_cons (ps_set (i := 1) scBit.nd rfl (Or.inl rfl) pe_int)
    (pss_cons (ps_for PassesOwn.never rfl (pi_range1 rfl mr (pa_cons (pv 0) pa_nil)) (pg_name (i := 2) scBit.nd rfl (Or.inl rfl)) (pss_one (ps_set (i := 1) scBit.nd rfl (Or.inl rfl) (pe_op op_mul (pv 1) pe_int))))
    (pss_one (ps_ret (pv 1)))), ?_⟩
  refine ⟨_, rfl, ((c : Nat) : Int), rfl, by omega, by omega, ?_⟩
  refine for_range (n := c) (fun i σ H' => H' = H ∧ ∃ x2, σ = [some (.int (c : Nat)), some (.int ((2 ^ i : Nat) : Int)), x2]) ⟨rfl, none, rfl⟩ (fun i σ H1 hi z => ?_) (fun σ H1 z => ?_)
  · obtain ⟨rfl, x2, rfl⟩ := z
    refine ⟨_, rfl, _, _, rfl, rfl, .inr ⟨by decide, by decide⟩, rfl, some (.int (0 + (i : Nat))), ?_⟩
    show [_, some (V.int (((2 ^ i : Nat) : Int) * 2)), _] = _
    rw [show ((2 ^ i : Nat) : Int) * 2 = ((2 ^ (i + 1) : Nat) : Int) by rw [Nat.pow_succ, Int.natCast_mul]; rfl]
  · obtain ⟨rfl, x2, rfl⟩ := z
    exact ⟨_, rfl, q⟩
def spLCards (K : PySem.W.Frag) : Sp := fun vs H Q _ => ∃ (a l p : Addr) (ns : List Int) (fx : Fx) (t : Option Nat) (ys : List Nat), vs = [.ref a, .ref l, .ref p, tvV t] ∧ SqL K H a (ns.map V.int) ∧ fx.Ok ∧ IsFx fx H l ∧ SqL K H p (vN ys) ∧ 0 < ys.length ∧
  ∀ o cs H', Same H H' → H o = none → H' o = some (.lst (vN cs)) → cs.Pairwise (· < ·) → (∀ c ∈ cs, c / 8 < fx.s ∧ c % 8 < fx.h ∧ c ∉ ys) → Q (.ref o) H'
abbrev pLCards : List Str := ["_law_script", "_law_facts", "_law_trick_here", "_law_trump_here"]
abbrev nLCards : List Str := ["_law_script", "_law_facts", "_law_trick_here", "_law_trump_here", "_law_cell_here", "_law_spare", "_law_suit", "_law_height", "_law_card_here", "_law_gone", "_law_kept"]
abbrev nKept : List Str := ["_law_card_here", "_law_script", "_law_cell_here"]
theorem scLCards : FnScope nLCards pLCards (defScope sCards) := ⟨rfl, rfl, rfl, by decide +kernel, rfl, by decide +kernel, by decide +kernel⟩
theorem ok_lcards {k : Nat} {f1 f2 : Addr} {d1 d2 : FuncData} (F : Fun K "_law_cards" "_law_cards" sCards f fd) (LC : Lib P w K mg base k "_law_cell" pCell (spCell K) f1 d1) (LX : Lib P w K mg base k "_law_mixed" ["_law_cell_here", "_law_k"] spMixed f2 d2) (mr : mg "range" = none) (ml : mg "len" = none) :
    FnOk P w K mg base CX0 (k + 1) f fd pLCards (spLCards K) := by
  refine F.ok scLCards (fun vs H Q E h => ?_) (fun cdv A outer s H vs Q E hr h => ?_)
  · obtain ⟨a, l, p, ns, fx, t, ys, rfl, _⟩ := h
    rfl
  obtain ⟨a, l, p, ns, fx, t, ys, rfl, hS, ok, hF, hP, ly, q⟩ := h
  refine ⟨_, pss_cons (ps_set (i := 4) scLCards.nd rfl (Or.inr rfl) (pe_call LC.ok hr rfl LC.mg LC.kp LC.bd .nil pass0 (pa_cons (pv 0) (pa_cons pe_int pa_nil))))
    (pss_cons (ps_set (i := 5) scLCards.nd rfl (Or.inl rfl) (pe_lst pa_nil))
    (pss_cons (ps_for PassesOwn.never rfl (pi_range1 rfl mr (pa_cons (pe_ix ix_list (pv 1) pe_int (fun _ _ => rfl)) pa_nil)) (pg_name (i := 6) scLCards.nd rfl (Or.inl rfl))
      (pss_one (ps_for PassesOwn.never rfl (pi_range1 rfl mr (pa_cons (pe_ix ix_list (pv 1) pe_int (fun _ _ => rfl)) pa_nil)) (pg_name (i := 7) scLCards.nd rfl (Or.inl rfl))
        (pss_cons (ps_set (i := 8) scLCards.nd rfl (Or.inl rfl) (pe_op op_add (pe_op op_mul pe_int (pv 6)) (pv 7)))
        (pss_cons (ps_set (i := 9) scLCards.nd rfl (Or.inl rfl) (pe_and (pe_cmpR op_eq (pe_op op_mod (pv 4) pe_int) pe_int (nomark _)) (pe_one (pe_cmpR op_eq (pv 6) (pe_op op_fdiv (pe_ix ix_list (pv 2) pe_int (fun _ _ => rfl)) pe_int) (nomark _)))))
        (pss_cons (ps_set (i := 9) scLCards.nd rfl (Or.inl rfl) (pe_or (pv 9) (pe_one (pe_and (pe_cmpR op_eq (pe_op op_mod (pv 4) pe_int) pe_int (nomark _)) (pe_one (pe_cmpR op_eq (pv 6) (pv 3) (nomark _)))))))
        (pss_one (ps_if (PW.pt (pw_and (pt_cmpR op_notIn_seq (pv 8) (pv 2) rfl) (pw_and1 (pt_not (pt_truth (pv 9) (fun _ => rfl)))))) (pss_one (ps_expr (pe_bm PySem.F.plainAttrs_list PySem.F.slot_list_append PySem.F.type_list_append mt_append (pv 5) (pa_cons (pv 8) pa_nil)))) pss_nil))))))))
    (pss_cons (ps_setcomp (i := 10) nKept [none, some 0, some 4] rfl scLCards.nd rfl (Or.inl rfl) (Blk.by (sc := defScope sCards) (N0 := nLCards) rfl rfl (by decide +kernel)) (pi_list (pv 5)) (fun C s₀ H₀ ex => pg_name (i := 0) (show nKept.Nodup by decide +kernel) rfl (Or.inl rfl))
        (fun C s₀ H₀ ex => pf_one (pt_cmpR op_lt (pe_op op_mod (pe_call LX.ok hr rfl LX.mg LX.kp LX.bd .nil pass0 (pa_cons (pe_call LC.ok hr rfl LC.mg LC.kp LC.bd .nil pass0 (pa_cons (pv 1) (pa_cons (pe_op op_add pe_int (pv 0)) pa_nil))) (pa_cons pe_int pa_nil))) pe_int) (pe_op op_add pe_int (pe_op op_mod (pe_op op_fdiv (pv 2) pe_int) pe_int)) (nomark _))) (fun C s₀ H₀ ex => pv 0))
    (pss_cons (ps_if (PW.pt (pw_and (pt_cmpR (op_eqNil hr.units) (pv 10) (pe_lst pa_nil) (nomark _)) (pw_and1 (pt_cmpR op_gt (pe_callB call_len_seq rfl ml PySem.boot_len (pa_cons (pv 5) pa_nil)) pe_int (nomark _))))) (pss_one (ps_set (i := 10) scLCards.nd rfl (Or.inl rfl) (pe_lst (pa_cons (pe_ix ix_list (pv 5) (pe_op op_mod (pe_op op_fdiv (pv 4) pe_int) (pe_callB call_len_seq rfl ml PySem.boot_len (pa_cons (pv 5) pa_nil))) (fun _ _ => rfl)) pa_nil)))) pss_nil)
    (pss_one (ps_ret (pv 10))))))), ?_⟩
  refine ⟨_, rfl, a, ns, 9, rfl, hS, by decide, fun z => ?_⟩
  refine ⟨fits3 0 (by decide), fun o ho => ?_⟩
  have s0 := same_upd ho (.lst [])
  obtain ⟨pl, tr, hL, _, _⟩ := id hF
  have s4 := ok.s4
  have h8 := ok.h8
  have no : p ≠ o ∨ True := .inr trivial
  refine ⟨_, rfl, l, _, 0, .int (fx.s : Nat), rfl, rfl, SqL.of (s0 _ _ hL), rfl, ((fx.s : Nat) : Int), rfl, by omega, by omega, ?_⟩
  refine for_range (n := fx.s) (fun i σ H' => Same H H' ∧ ∃ (sp : List Nat) (x6 x7 x8 x9 x10 : Option V), σ = [some (.ref a), some (.ref l), some (.ref p), some (tvV t), some (.int z), some (.ref o), x6, x7, x8, x9, x10] ∧ H' o = some (.lst (vN sp)) ∧ sp.Pairwise (· < ·) ∧ (∀ c ∈ sp, c / 8 < i ∧ c % 8 < fx.h ∧ c ∉ ys) ∧ sp.length ≤ 8 * i)
    ⟨s0, [], none, none, none, none, none, rfl, upd_same, List.Pairwise.nil, (fun c hc => nomatch hc), Nat.le_refl _⟩ (fun i σ H1 hi y => ?_) (fun σ H1 y => ?_)
  · obtain ⟨s1, sp, x6, x7, x8, x9, x10, rfl, g, nd, hb, hl⟩ := y
    refine ⟨_, rfl, l, _, 1, .int (fx.h : Nat), rfl, rfl, SqL.of (s1 _ _ hL), rfl, ((fx.h : Nat) : Int), rfl, by omega, by omega, ?_⟩
    refine for_range (n := fx.h) (fun j σ H' => Same H H' ∧ ∃ (sp : List Nat) (x7 x8 x9 x10 : Option V), σ = [some (.ref a), some (.ref l), some (.ref p), some (tvV t), some (.int z), some (.ref o), some (.int (0 + (i : Nat))), x7, x8, x9, x10] ∧ H' o = some (.lst (vN sp)) ∧ sp.Pairwise (· < ·) ∧ (∀ c ∈ sp, c < 8 * i + j ∧ c % 8 < fx.h ∧ c ∉ ys) ∧ sp.length ≤ 8 * i + j)
      ⟨s1, sp, _, _, _, _, rfl, g, nd, fun c hc => ⟨by have := (hb c hc).1; omega, (hb c hc).2⟩, by omega⟩ (fun j σ H2 hj y => ?_) (fun σ H2 y => ?_)
    · obtain ⟨s2, sp, x7, x8, x9, x10, rfl, g, nd, hb, hl⟩ := y
      have hP2 := s2.seq hP
      have ec : (8 : Int) * (0 + (i : Nat)) + (0 + (j : Nat)) = ((8 * i + j : Nat) : Int) := by omega
      refine ⟨_, rfl, _, _, rfl, rfl, .inl ⟨by decide, by decide⟩, _, rfl, _, _, rfl, rfl, ?_⟩
      dsimp only
      rw [ec]
      refine set_bool (fun R hR => ?_) fun b1 => ?_
      · refine ⟨_, rfl, _, _, rfl, rfl, (show (0 : Int) < 3 by decide), rfl, _, rfl, ite2 (fun _ => ?_) fun _ => hR false⟩
        exact ⟨_, rfl, _, rfl, p, _, _, _, rfl, rfl, hP2, at_vN (i := 0) ly, _, _, rfl, rfl, ⟨by decide, by decide⟩, rfl, hR _⟩
      refine set_bool (fun R hR => ?_) fun b2 => ?_
      · exact ⟨_, rfl, b1, rfl, ite2 (fun _ => hR true) fun _ => ⟨_, rfl, _, _, rfl, rfl, (show (0 : Int) < 9 by decide), rfl, _, rfl, ite2 (fun _ => ⟨_, rfl, _, rfl, tv_scal _ _, hR _⟩) fun _ => hR false⟩⟩
      have skip : ∀ c ∈ sp, c < 8 * i + (j + 1) ∧ c % 8 < fx.h ∧ c ∉ ys := fun c hc => ⟨by have := (hb c hc).1; omega, (hb c hc).2⟩
      refine ⟨_, rfl, _, rfl, p, _, rfl, .inl hP2, rfl, vN_flat ys, _, rfl, ite2 (fun yin => ⟨_, rfl, b2, rfl, ite2 (fun _ => ?_) fun _ => ⟨s2, sp, _, _, _, _, rfl, g, nd, skip, by omega⟩⟩) fun _ => iteF ⟨s2, sp, _, _, _, _, rfl, g, nd, skip, by omega⟩⟩
      have nin : 8 * i + j ∉ ys := fun m => by
        have yin' : (!inV (.int ((8 * i + j : Nat) : Int)) (vN ys)) = true := yin
        rw [in_vN, decide_eq_true m] at yin'
        cases yin'
      refine ⟨_, rfl, .inl ⟨rfl, _, SqL.of g⟩, _, rfl, o, vN sp, _, rfl, rfl, g, (by rw [vN_len]; have := fits3 100 (by decide); omega), ?_⟩
      rw [vN_snoc]
      refine ⟨fun b u hb' => ?_, sp ++ [8 * i + j], _, _, _, _, rfl, upd_same, List.pairwise_append.mpr ⟨nd, List.pairwise_singleton _ _, fun x hx y hy => by rw [List.mem_singleton.mp hy]; exact (hb x hx).1⟩, fun d hd => ?_, ?_⟩
      · rw [upd_ne (fun z => by rw [z, ho] at hb'; cases hb')]
        exact s2 _ _ hb'
      · rcases List.mem_append.mp hd with y | y
        · exact skip d y
        · rw [List.mem_singleton.mp y]
          exact ⟨by omega, by omega, nin⟩
      · rw [List.length_append]
        show sp.length + 1 ≤ 8 * i + (j + 1)
        omega
    · obtain ⟨s2, sp, x7, x8, x9, x10, rfl, g, nd, hb, hl⟩ := y
      exact ⟨s2, sp, _, _, _, _, _, rfl, g, nd, fun c hc => ⟨by have := (hb c hc).1; omega, (hb c hc).2⟩, by omega⟩
  · obtain ⟨s1, sp, x6, x7, x8, x9, x10, rfl, g, nd, hb, hl⟩ := y
    refine ⟨_, rfl, o, rfl, ⟨_, SqL.of g⟩, comp_subL (K := K) (xs := vN sp) (SqL.of g) (fits3 _ (by rw [vN_len]; omega)) (fun y H3 hy sm R hR => ?_) (fun y H3 hy sm R hR => ⟨_, rfl, hR H3 (Same.refl H3)⟩) (fun lq ks H4 s4' hlq hsub hL4 => ?_)⟩
    · obtain ⟨c, hc, rfl⟩ := List.mem_map.mp hy
      have c1 := (hb c hc).1
      have e10 : (10 : Int) + ((c : Nat) : Int) = ((10 + c : Nat) : Int) := by omega
      exact ⟨_, rfl, _, rfl, _, _, rfl, rfl, a, ns, 10 + c, (show [V.ref a, V.int ((10 : Int) + ((c : Nat) : Int))] = _ by rw [e10]), (s1.trans sm).seq hS, by omega, fun z2 => ⟨z2, 6, rfl, by decide, fun z3 hz3 => ⟨_, _, rfl, rfl, (show (0 : Int) < 5 by decide), _, rfl, _, _, rfl, rfl, ⟨by decide, by decide⟩, _, _, rfl, rfl, (show (0 : Int) < 4 by decide), _, _, rfl, rfl, _, _, rfl, rfl, _, rfl, hR _ H3 (Same.refl H3)⟩⟩⟩
    · obtain ⟨ds, dsub, rfl⟩ := List.sublist_map_iff.mp hsub
      have sB := s1.trans s4'
      refine ⟨_, rfl, fits3 0 (by decide), fun ne hne => ?_⟩
      have s5 := same_upd hne (.lst [])
      have done := q lq ds (upd H4 ne (.lst [])) (sB.trans s5) (s1.free hlq) (s5 _ _ hL4) (nd.sublist dsub) fun c hc => hb c (dsub.subset hc)
      refine ⟨lq, ne, _, rfl, rfl, SqL.of (s5 _ _ hL4), SqL.of upd_same, _, rfl, ite2 (fun _ => ?_) fun _ => iteF ⟨_, rfl, done⟩⟩
      have g5 := s5 _ _ (s4' _ _ g)
      refine ⟨_, rfl, o, _, rfl, .inl (SqL.of g5), _, _, rfl, rfl, _, rfl, ite2 (fun y => ?_) fun _ => ⟨_, rfl, done⟩⟩
      have y0 : (0 : Int) < (((vN sp).length : Nat) : Int) := of_decide_eq_true y
      obtain ⟨v, hv, ev⟩ := pickA (vN sp) _ rfl (by omega) (z / 36)
      obtain ⟨u, hu, rfl⟩ := List.mem_map.mp hv
      refine ⟨_, rfl, _, rfl, _, _, rfl, rfl, ⟨by decide, by decide⟩, _, rfl, o, _, rfl, .inl (SqL.of g5), _, _, rfl, rfl, y0, o, _, _, _, rfl, rfl, SqL.of g5, ev, fits3 1 (by decide), fun r hr1 => ?_⟩
      exact ⟨_, rfl, q r [u] _ ((sB.trans s5).trans (same_upd hr1 _)) ((sB.trans s5).free hr1) upd_same (List.pairwise_singleton _ _) fun c hc => by rw [List.mem_singleton.mp hc]; exact hb u hu⟩
end
end My

namespace L2
open PySem PySem.Spec PyProof.Rows

/-! ### lists of pairs as tables -/
section
variable {κ : Type} [DecidableEq κ]
def valV (kvs : List (κ × V)) (k : κ) : Option V := (kvs.find? fun kv => decide (kv.1 = k)).map (·.2)
/-- in its place, or at the end -/
def putK (kvs : List (κ × V)) (k : κ) (v : V) : List (κ × V) :=
  if (kvs.any fun kv => decide (kv.1 = k)) = true then kvs.map (fun kv => if kv.1 = k then (kv.1, v) else kv) else kvs ++ [(k, v)]
def dropK (kvs : List (κ × V)) (k : κ) : List (κ × V) := kvs.filter fun kv => decide (kv.1 ≠ k)

theorem valV_pos {p : κ × V} {r : List (κ × V)} {k : κ} (e : p.1 = k) : valV (p :: r) k = some p.2 := by simp [valV, List.find?_cons, e]
theorem valV_neg {p : κ × V} {r : List (κ × V)} {k : κ} (e : ¬ p.1 = k) : valV (p :: r) k = valV r k := by simp [valV, List.find?_cons, e]
theorem valV_any (k : κ) : ∀ kvs : List (κ × V), (kvs.any fun kv => decide (kv.1 = k)) = (valV kvs k).isSome
  | [] => rfl
  | p :: r => by
    rw [List.any_cons]
    by_cases e : p.1 = k
    · simp only [valV_pos e, decide_eq_true e, Bool.true_or, Option.isSome_some]
    · rw [valV_neg e, decide_eq_false e, Bool.false_or]; exact valV_any k r
theorem valV_map (k j : κ) (y : V) : ∀ kvs : List (κ × V), valV (kvs.map fun kv => if kv.1 = k then (kv.1, y) else kv) j = (valV kvs j).map fun x => if j = k then y else x
  | [] => rfl
  | p :: r => by
    have ih := valV_map k j y r
    rw [List.map_cons]
    by_cases h : p.1 = k
    · rw [if_pos h]
      by_cases e : p.1 = j
      · rw [valV_pos (p := (p.1, y)) e, valV_pos e, Option.map_some, if_pos (e.symm.trans h)]
      · rw [valV_neg (p := (p.1, y)) e, valV_neg e, ih]
    · rw [if_neg h]
      by_cases e : p.1 = j
      · rw [valV_pos (p := p) e, valV_pos e, Option.map_some, if_neg (fun z => h (e.trans z))]
      · rw [valV_neg (p := p) e, valV_neg e, ih]
theorem valV_snoc (k j : κ) (y : V) : ∀ kvs : List (κ × V), valV kvs k = none → valV (kvs ++ [(k, y)]) j = if j = k then some y else valV kvs j
  | [], _ => by
    by_cases e : k = j
    · rw [if_pos e.symm]; exact valV_pos (p := (k, y)) e
    · rw [if_neg (fun z => e z.symm)]; exact valV_neg (p := (k, y)) e
  | p :: r, hn => by
    rw [List.cons_append]
    have hk : ¬ p.1 = k := fun z => by rw [valV_pos z] at hn; cases hn
    rw [valV_neg hk] at hn
    have ih := valV_snoc k j y r hn
    by_cases e : p.1 = j
    · rw [valV_pos e, valV_pos e, if_neg (fun z => hk (e.trans z))]
    · rw [valV_neg e, valV_neg e, ih]
theorem valV_put (kvs : List (κ × V)) (k j : κ) (y : V) : valV (putK kvs k y) j = if j = k then some y else valV kvs j := by
  unfold putK
  by_cases a : (kvs.any fun kv => decide (kv.1 = k)) = true
  · rw [if_pos a, valV_map]
    rw [valV_any] at a
    by_cases e : j = k
    · obtain ⟨x, hx⟩ := Option.isSome_iff_exists.mp a
      rw [if_pos e, e, hx, Option.map_some, if_pos rfl]
    · rw [if_neg e]
      cases valV kvs j with
      | none => rfl
      | some x => rw [Option.map_some, if_neg e]
  · rw [if_neg a]
    refine valV_snoc k j y kvs ?_
    rw [valV_any] at a
    cases q : valV kvs k with
    | none => rfl
    | some x => rw [q] at a; exact (a rfl).elim
theorem length_putK (kvs : List (κ × V)) (k : κ) (v : V) : (putK kvs k v).length ≤ kvs.length + 1 := by
  unfold putK
  split
  · rw [List.length_map]; omega
  · rw [List.length_append, List.length_cons, List.length_nil]; omega
theorem RelO.isSome_eq {o : Option V} {u : Option Value} (r : RelO o u) : o.isSome = u.isSome := by
  cases o with
  | none => cases u with
    | none => rfl
    | some _ => exact (show False from r).elim
  | some _ => cases u with
    | none => exact (show False from r).elim
    | some _ => rfl
/-- raw tables of the same keys -/
theorem KV.val {kvs : List (κ × V)} {vs : List (κ × Value)} (r : KV kvs vs) (k : κ) : RelO (valV kvs k) (valueAt vs k) := by
  unfold KV at r
  induction r with
  | nil => exact True.intro
  | @cons p q ps qs h t ih =>
    obtain ⟨h1, h2⟩ := h
    by_cases e : p.1 = k
    · have e' : q.1 = k := h1.symm.trans e
      have b : valueAt (q :: qs) k = some q.2 := by simp [valueAt, List.find?_cons, e']
      rw [valV_pos e, b]; exact h2
    · have e' : ¬ q.1 = k := fun z => e (h1.trans z)
      have b : valueAt (q :: qs) k = valueAt qs k := by simp [valueAt, List.find?_cons, e']
      rw [valV_neg e, b]; exact ih
theorem KV.any {kvs : List (κ × V)} {vs : List (κ × Value)} (r : KV kvs vs) (k : κ) : (kvs.any fun kv => decide (kv.1 = k)) = vs.any fun kv => decide (kv.1 = k) := by
  unfold KV at r
  induction r with
  | nil => rfl
  | cons h t ih => rw [List.any_cons, List.any_cons, ih, h.1]
theorem KV.repl {kvs : List (κ × V)} {vs : List (κ × Value)} (r : KV kvs vs) (k : κ) {y : V} {u : Value} (ry : RelV y u) :
    KV (kvs.map fun kv => if kv.1 = k then (kv.1, y) else kv) (vs.map fun kv => if kv.1 = k then (kv.1, u) else kv) := by
  unfold KV at r ⊢
  induction r with
  | nil => exact .nil
  | @cons p q ps qs h t ih =>
    rw [List.map_cons, List.map_cons]
    refine .cons ?_ ih
    obtain ⟨h1, h2⟩ := h
    by_cases e : p.1 = k
    · rw [if_pos e, if_pos (h1.symm.trans e)]; exact ⟨h1, ry⟩
    · rw [if_neg e, if_neg (fun z => e (h1.trans z))]; exact ⟨h1, h2⟩
theorem KV.put {kvs : List (κ × V)} {vs : List (κ × Value)} (r : KV kvs vs) (k : κ) {y : V} {u : Value} (ry : RelV y u) : KV (putK kvs k y) (stored vs k u) := by
  unfold putK stored
  rw [r.any k]
  by_cases e : (vs.any fun kv => decide (kv.1 = k)) = true
  · rw [if_pos e, if_pos e]; exact r.repl k ry
  · rw [if_neg e, if_neg e]; exact Paired.snoc r ⟨rfl, ry⟩
theorem KV.length {kvs : List (κ × V)} {vs : List (κ × Value)} (r : KV kvs vs) : kvs.length = vs.length := Paired.length r
end


/-! ### a tracked dict, its keys ints and texts or tuples of these -/
theorem kV_is {P : Program} {w : World} {k : Key} {u : Value} (r : RelV (kV k) u) : (mixKind P w).is k u = true := by
  cases k with
  | inl i => obtain ⟨t, e⟩ := (show ∃ t, u = Value.int i t from r); subst e; exact mixKind_int P w i t
  | inr x => obtain ⟨t, e⟩ := (show ∃ t, u = Value.str x t from r); subst e; exact mixKind_str P w x t
theorem items_are {P : Program} {w : World} : ∀ {ks : List Key} {us : List Value}, Vals (ks.map kV) us → ItemsAre (mixKind P w) ks us
  | [], _, r => by rw [List.map_nil] at r; cases r; exact .nil
  | k :: ks, _, r => by
    rw [List.map_cons] at r
    cases r with
    | cons h t => exact .cons (kV_is h) (items_are t)

/-- raw entries of a dict with tuple keys -/
abbrev KT (H : Hp) : List (List Key × V) → List (List Key × Addr × Value) → Prop := Paired fun p q => p.1 = q.1 ∧ H q.2.1 = some (.tup (p.1.map kV)) ∧ RelV p.2 q.2.2
theorem KT.val {H : Hp} {kvs : List (List Key × V)} {xs : List (List Key × Addr × Value)} (r : KT H kvs xs) (k : List Key) : RelO (valV kvs k) ((atKey xs k).map (·.2)) := by
  induction r with
  | nil => exact True.intro
  | @cons p q ps qs h t ih =>
    obtain ⟨h1, _, h2⟩ := h
    by_cases e : p.1 = k
    · have e' : q.1 = k := h1.symm.trans e
      have b : atKey (q :: qs) k = some q.2 := by simp [atKey, List.find?_cons, e']
      rw [valV_pos e, b]; exact h2
    · have e' : ¬ q.1 = k := fun z => e (h1.trans z)
      have b : atKey (q :: qs) k = atKey qs k := by simp [atKey, List.find?_cons, e']
      rw [valV_neg e, b]; exact ih
theorem KT.repl {H : Hp} {kvs : List (List Key × V)} {xs : List (List Key × Addr × Value)} (r : KT H kvs xs) (k : List Key) {y : V} {u : Value} (ry : RelV y u) :
    KT H (kvs.map fun kv => if kv.1 = k then (kv.1, y) else kv) (xs.map (putAt k u)) := by
  induction r with
  | nil => exact .nil
  | @cons p q ps qs h t ih =>
    rw [List.map_cons, List.map_cons]
    refine .cons ?_ ih
    obtain ⟨h1, h2, h3⟩ := h
    unfold putAt
    by_cases e : p.1 = k
    · rw [if_pos e, if_pos (h1.symm.trans e)]; exact ⟨h1, h2, ry⟩
    · rw [if_neg e, if_neg (fun z => e (h1.trans z))]; exact ⟨h1, h2, h3⟩
theorem KT.put {H : Hp} {kvs : List (List Key × V)} {xs : List (List Key × Addr × Value)} (r : KT H kvs xs) (k : List Key) {b : Addr} {y : V} {u : Value} (hb : H b = some (.tup (k.map kV))) (ry : RelV y u) :
    KT H (putK kvs k y) (storedH xs k b u) := by
  have e : (kvs.any fun kv => decide (kv.1 = k)) = (atKey xs k).isSome := by
    rw [valV_any, (r.val k).isSome_eq, Option.isSome_map]
  unfold putK storedH
  rw [e]
  by_cases q : (atKey xs k).isSome = true
  · rw [if_pos q, if_pos q]; exact r.repl k ry
  · rw [if_neg q, if_neg q]; exact Paired.snoc r ⟨rfl, hb, ry⟩
theorem KT.keeps {H H' : Hp} {kvs : List (List Key × V)} {xs : List (List Key × Addr × Value)} (r : KT H kvs xs) (ht : ∀ b ys, H b = some (.tup ys) → H' b = some (.tup ys)) : KT H' kvs xs :=
  Paired.mapP r fun _ _ z => ⟨z.1, ht _ _ z.2.1, z.2.2⟩

section
variable {P : Program} {w : World} {H : Hp} {h : Heap} {a : Addr}
theorem rd_of {u : HO} (ok : HOk P w H h) (e : Rd H a u) : ObjOk P w H h a u := e.ok ok
theorem dk_rd {kvs : List (Key × V)} (ok : HOk P w H h) (e : Rd H a (.dK kvs)) : kvs.length ≤ sizeLine ∧ (a == sysModules) = false ∧ ∃ vs, KV kvs vs ∧ h.DictOf (mixKind P w) a vs :=
  show ObjOk P w H h a (.dK kvs) from rd_of ok e
theorem dk_of {kvs : List (Key × V)} (ok : HOk P w H h) (e : H a = some (.dK kvs)) : kvs.length ≤ sizeLine ∧ (a == sysModules) = false ∧ ∃ vs, KV kvs vs ∧ h.DictOf (mixKind P w) a vs := dk_rd ok (.inl e)
/-- a tracked tuple of ints and texts is a key -/
theorem key_of {ks : List Key} (ok : HOk P w H h) (e : H a = some (.tup (ks.map kV))) : (tupleKind (mixKind P w)).is h ks a := by
  obtain ⟨_, its, r, o, h1, h2, n, h3⟩ := (show ObjOk P w H h a (.tup (ks.map kV)) from ok a _ e)
  exact ⟨o, its.toArray, n, h1, h2, h3, by simpa using items_are r⟩
theorem dt_rd {kvs : List (List Key × V)} (ok : HOk P w H h) (e : Rd H a (.dT kvs)) : kvs.length ≤ sizeLine ∧ (a == sysModules) = false ∧
    ∃ xs, KT H kvs xs ∧ h.DictOfH (tupleKind (mixKind P w)) a xs := by
  obtain ⟨z, y, xs, r, o, es, ep, h1, h2, h3, h4, h5⟩ := (show ObjOk P w H h a (.dT kvs) from rd_of ok e)
  refine ⟨z, y, xs, r, o, es, ep, h1, h2, h3, h4, fun x hx => ?_, h5⟩
  have all : ∀ {l : List (List Key × V)} {m : List (List Key × Addr × Value)}, KT H l m → ∀ x ∈ m, (tupleKind (mixKind P w)).is h x.1 x.2.1 := by
    intro l m q
    induction q with
    | nil => intro x hx; exact nomatch hx
    | @cons p q ps qs hq t ih =>
      intro x hx
      rcases List.mem_cons.mp hx with e | hx
      · subst e
        exact key_of ok (by rw [← hq.1]; exact hq.2.1)
      · exact ih x hx
  exact all r x hx
theorem dt_of {kvs : List (List Key × V)} (ok : HOk P w H h) (e : H a = some (.dT kvs)) : kvs.length ≤ sizeLine ∧ (a == sysModules) = false ∧
    ∃ xs, KT H kvs xs ∧ h.DictOfH (tupleKind (mixKind P w)) a xs := dt_rd ok (.inl e)
end

/-- what the dict at a holds at the key y -/
def DGet (H : Hp) (a : Addr) (y : V) (r : Option V) : Prop :=
  (∃ kvs k, Rd H a (.dK kvs) ∧ y = kV k ∧ r = valV kvs k) ∨ ∃ kvs k b, Rd H a (.dT kvs) ∧ y = .ref b ∧ H b = some (.tup (k.map kV)) ∧ r = valV kvs k
/-- the heap behind a[y] = v -/
def DPut (H : Hp) (a : Addr) (y v : V) (H' : Hp) : Prop :=
  (∃ kvs k, H a = some (.dK kvs) ∧ y = kV k ∧ kvs.length < sizeLine ∧ H' = upd H a (.dK (putK kvs k v))) ∨
  ∃ kvs k b, H a = some (.dT kvs) ∧ y = .ref b ∧ H b = some (.tup (k.map kV)) ∧ kvs.length < sizeLine ∧ H' = upd H a (.dT (putK kvs k v))
theorem DGet.k {H : Hp} {a : Addr} {kvs : List (Key × V)} {k : Key} (e : H a = some (.dK kvs)) : DGet H a (kV k) (valV kvs k) := .inl ⟨kvs, k, .inl e, rfl, rfl⟩
theorem DPut.k {H : Hp} {a : Addr} {kvs : List (Key × V)} {k : Key} {v : V} (e : H a = some (.dK kvs)) (hl : kvs.length < sizeLine) : DPut H a (kV k) v (upd H a (.dK (putK kvs k v))) := .inl ⟨kvs, k, e, rfl, hl, rfl⟩
section
variable {X : Cx} {pins : List (Addr × Obj)} {σ : St} {H : Hp} {s : Shared} {a : Addr} {y v : V} {u r : Value} {o : Option V} {A : Around} {E : Value → Shared → Prop}

theorem Inv.big (I : Inv X pins σ H s) : sysModules < s.heap.objs.size := by
  have h : mainGlobals < s.heap.objs.size := (I.mod.glob.keeps I.bk).lt
  exact Nat.lt_trans (by decide) h

/-- d[y], there -/
theorem d_getItem {Q : Value → Shared → Prop} (hu : A.units + 1 < cLine) (I : Inv X pins σ H s) (g : DGet H a y (some v)) (ry : RelV y u) (h : ∀ w' s', Inv X pins σ H s' → RelV v w' → Q w' s') :
    wpAny (model X.prog X.w) A (getItem (.ref a) u) Q E s := by
  rcases g with ⟨kvs, k, e, ey, l⟩ | ⟨kvs, k, b, e, ey, eb, l⟩
  · subst ey
    obtain ⟨z, hd, vs, rel, dd⟩ := dk_rd I.hok e
    obtain ⟨w', hw, rw'⟩ := RelO.some_of (v := v) (o := valueAt vs k) (by rw [l]; exact rel.val k)
    exact wpAny_getItem_of (kV_is ry) dd.mapOf hw (h w' _ (I.tok _) rw')
  · subst ey
    cases (show u = Value.ref b from ry)
    obtain ⟨z, hd, xs, rel, dd⟩ := dt_rd I.hok e
    obtain ⟨w', hw, rw'⟩ := RelO.some_of (v := v) (o := (atKey xs k).map (·.2)) (by rw [l]; exact rel.val k)
    obtain ⟨p, hp, hp2⟩ := Option.map_eq_some_iff.mp hw
    refine wpAny_getItem_heap (tupleKind_room_in1 hu) (key_of I.hok eb) dd hp ?_
    rw [hp2]
    exact h w' _ (I.tok _) rw'
/-- a dict's object is replaced -/
theorem d_write {h' : Heap} {t' : Nat} {ob : HO} (I : Inv X pins σ H s) (mu : Mut (H a)) (hs : Heap.SameBut a s.heap h') (he : ∃ q, h'.get? a = some q) (new : ObjOk X.prog X.w (upd H a ob) h' a ob) :
    Inv X pins σ (upd H a ob) { s with heap := h', toks := t' } :=
  I.write (x := a) (e := a) mu (.inl rfl) (fun b q hb z => (hs.2 b hb).trans z) he new
theorem dk_new {P : Program} {w : World} {H' : Hp} {h' : Heap} {kvs : List (Key × V)} {vs : List (Key × Value)} (z : kvs.length ≤ sizeLine) (hd : (a == sysModules) = false) (rel : KV kvs vs) (dd : h'.DictOf (mixKind P w) a vs) :
    ObjOk P w H' h' a (.dK kvs) := ⟨z, hd, vs, rel, dd⟩
/-- d[y] = v -/
theorem d_setItem {H' : Hp} {Q : Unit → Shared → Prop} (hu : A.units + 1 < cLine) (I : Inv X pins σ H s) (g : DPut H a y v H') (ry : RelV y u) (rv : RelV v r) (h : ∀ s', Inv X pins σ H' s' → Q () s') :
    wpAny (model X.prog X.w) A (setItem (.ref a) u r) Q E s := by
  rcases g with ⟨kvs, k, e, ey, l, eH⟩ | ⟨kvs, k, b, e, ey, eb, l, eH⟩
  · subst ey eH
    obtain ⟨z, hd, vs, rel, dd⟩ := dk_of I.hok e
    have hz : vs.length ≤ sizeLine := by rw [← rel.length]; exact z
    have hl : (putK kvs k v).length ≤ sizeLine := by have := length_putK kvs k v; omega
    refine wpAny_setItem_pairs (hsz := hz) (kV_is ry) dd fun h' dd' hs => h _ ?_
    have he : ∃ q, h'.get? a = some q := let ⟨q, _, _, hq, _⟩ := dd'; ⟨q, hq⟩
    exact d_write I (by rw [e]; exact True.intro) hs he (dk_new hl hd (rel.put k rv) dd')
  · subst ey eH
    cases (show u = Value.ref b from ry)
    obtain ⟨z, hd, xs, rel, dd⟩ := dt_of I.hok e
    have hz : xs.length ≤ sizeLine := by rw [← Paired.length rel]; exact z
    have hl : (putK kvs k v).length ≤ sizeLine := by have := length_putK kvs k v; omega
    refine wpAny_setItem_heap (hsz := hz) (tupleKind_room_in1 hu) (key_of I.hok eb) dd fun h' dd' hs => h _ ?_
    obtain ⟨q, es, ep, hq, h2, h3, h4, _, h5⟩ := dd'
    refine d_write I (by rw [e]; exact True.intro) hs ⟨q, hq⟩ ⟨hl, hd, _, (rel.put k eb rv).keeps fun c ys ec => ?_, q, es, ep, hq, h2, h3, h4, h5⟩
    rw [upd_ne (ne_of ec e (fun z => nomatch z))]
    exact ec
end

section
variable {X : Cx} {pins : List (Addr × Obj)} {σ : St} {H : Hp} {s : Shared} {a : Addr} {kvs : List (Key × V)} {k : Key} {u : Value} {A : Around} {E : Value → Shared → Prop}
end


/-! ### readings and rules -/
/-- the element of a subscription, not a slice -/
def NoSl (i : Expr) : Prop := ∀ ov iv, subscripted i false ov iv = operate [ov, iv] (getItem ov iv)
theorem subD_of {prog : Program} {w : World} {A : Around} {E : Value → Shared → Prop} {s : Shared} {env : Env} {value slice : Expr} {pos : Pos} {T id : String} {Q : Value → Shared → Prop}
    (hl : typeLookup (.type T) "__getitem__" = pure (some (.builtin id))) (hs : NoSl slice)
    (h : wpAny (model prog w) A (eval value env) (fun o s₁ => wpAny (model prog w) A (eval slice env) (fun i s₂ => s₂.TypeIs o T ∧ wpAny (model prog w) A (getItem o i) Q E s₂) E s₁) E s) :
    wpAny (model prog w) A (eval (.Subscript value slice pos) env) Q E s := by
  refine Subscript_ (wpAny_mono h (fun o s₁ h₁ => wpAny_mono h₁ (fun i s₂ h₂ => ?_) fun _ _ x => x) fun _ _ x => x)
  obtain ⟨hT, h₂⟩ := h₂
  unfold subscriptTail
  refine wpAny_bind ?_
  rw [getitemInPython_of_ne hT.not_modules]
  refine wpAny_bind (wpAny_specialOf hT hl ?_)
  have fin : wpAny (model prog w) A (subscripted slice false o i) (fun r s₃ => wpAny (model prog w) A (letTemporaryGo value o r >>= fun _ => pure r) Q E s₃) E s₂ := by
    rw [hs o i]
    exact wpAny_operating (wpAny_mono h₂ (fun r s₃ h₃ => wpAny_bind (wpAny_letTemporaryGo (wpAny_pure h₃))) fun _ _ x => x)
  first
    | exact wpAny_pure (wpAny_bind fin)
    | exact wpAny_bind (wpAny_pure (wpAny_bind fin))
    | exact wpAny_bind fin

theorem dict_typeIs {X : Cx} {pins : List (Addr × Obj)} {σ : St} {H : Hp} {s : Shared} {a : Addr} {y : V} {o : Option V} (I : Inv X pins σ H s) (g : DGet H a y o) : s.TypeIs (.ref a) "dict" := by
  rcases g with ⟨kvs, k, e, _, _⟩ | ⟨kvs, k, b, e, _, _, _⟩
  · obtain ⟨_, _, vs, _, dd⟩ := dk_rd I.hok e
    exact dd.typeIs
  · obtain ⟨_, _, xs, _, dd⟩ := dt_rd I.hok e
    exact dd.typeIs
/-- d[y] -/
def tDGet (td ty : TE) : TE := fun σ H Q => td σ H fun x H1 => ty σ H1 fun y H2 => ∃ a v, x = .ref a ∧ DGet H2 a y (some v) ∧ Q v H2
/-- y in d, y not in d -/
def tDIn (ty td : TE) : TE := fun σ H Q => ty σ H fun y H1 => td σ H1 fun x H2 => ∃ a o, x = .ref a ∧ DGet H2 a y o ∧ Q (.bl o.isSome) H2
def tDNotIn (ty td : TE) : TE := fun σ H Q => ty σ H fun y H1 => td σ H1 fun x H2 => ∃ a o, x = .ref a ∧ DGet H2 a y o ∧ Q (.bl (!o.isSome)) H2
/-- d[y] = v -/
def sDPut (td ty tv : TE) : TS := fun D σ H => tv σ H fun v H1 => td σ H1 fun x H2 => ty σ H2 fun y H3 => ∃ a H4, x = .ref a ∧ DPut H3 a y v H4 ∧ D.nx σ H4
/-- d[y] op= v -/
def sDAug (td ty tv : TE) (rd : V → V → Hp → VK → Prop) : TS := fun D σ H => td σ H fun x H1 => ty σ H1 fun y H2 => ∃ a v, x = .ref a ∧ DGet H2 a y (some v) ∧
  tv σ H2 fun y2 H3 => rd v y2 H3 fun z H4 => ∃ H5, DPut H4 a y z H5 ∧ D.nx σ H5
/-- del d[y] -/
def sDDel (td ty : TE) : TS := fun D σ H => td σ H fun x H1 => ty σ H1 fun y H2 => ∃ a kvs k, x = .ref a ∧ H2 a = some (.dK kvs) ∧ y = kV k ∧ (valV kvs k).isSome = true ∧ D.nx σ (upd H2 a (.dK (dropK kvs k)))

section
variable {X : Cx} {o i e value : Expr} {pos pos' tpos : Pos} {td ty tv : TE}
theorem pe_dget (hu : X.A.units + 1 < cLine) (ho : PE X o td) (hi : PE X i ty) (hs : NoSl i) : PE X (.Subscript o i pos) (tDGet td ty) := by
  intro pins s σ H Q I h
  refine subD_of PySem.F.slot_dict_getitem.lookup hs (thn (ho pins s σ H _ I h) fun u s1 ⟨x, H1, I1, rx, q1⟩ => thn (hi pins s1 σ H1 _ I1 q1) fun iv s2 ⟨y, H2, I2, ry, a, v, ex, g, q2⟩ => ?_)
  subst ex
  obtain rfl : u = Value.ref a := rx
  exact ⟨dict_typeIs I2 g, d_getItem hu I2 g ry fun w' s3 I3 rw' => ⟨v, H2, I3, rw', q2⟩⟩
theorem ps_dput (hu : X.A.units + 1 < cLine) (ho : PE X o td) (hi : PE X i ty) (hv : PE X value tv) (hs : swapsWith value (some (.Subscript o i pos')) pos.line X.env = pure false) :
    PS X (.Assign [.Subscript o i pos'] value pos) (sDPut td ty tv) := by
  intro pins s σ H D I h
  refine wpAny_Assign_Subscript (thn (hv pins s σ H _ I h) fun r s1 ⟨v, H1, I1, rv, q1⟩ => thn (ho pins s1 σ H1 _ I1 q1) fun u s2 ⟨x, H2, I2, rx, q2⟩ => thn (hi pins s2 σ H2 _ I2 q2) fun iv s3 ⟨y, H3, I3, ry, a, H4, ex, g, q3⟩ => ?_) hs
  subst ex
  obtain rfl : u = Value.ref a := rx
  exact d_setItem hu I3 g ry rv fun s4 I4 => ⟨σ, H4, I4, q3⟩
end


/-! ### displays -/
theorem dk_empty {P : Program} {w : World} {H : Hp} (h : Heap) (hb : sysModules < h.objs.size) : ObjOk P w H (h.push { cls := .type "dict", data := .dict #[] }) h.objs.size (.dK []) :=
  ⟨Nat.zero_le _, beq_eq_false_iff_ne.mpr (Ne.symm (Nat.ne_of_lt hb)), [], .nil, Heap.DictOf.new h⟩
/-- {}, to be a dict of the kind that is wanted -/
def tDNewK : TE := fun _ H Q => ∀ p, H p = none → Q (.ref p) (upd H p (.dK []))
def tDNewT : TE := fun _ H Q => ∀ p, H p = none → Q (.ref p) (upd H p (.dT []))
section
variable {X : Cx} {pos : Pos}
theorem pe_dnewK : PE X (.Dict [] [] pos) tDNewK := fun pins s σ H Q I h =>
  wpAny_Dict_empty ⟨.ref s.heap.objs.size, _, I.laid (a := s.heap.objs.size) (o := .dK []) (t' := s.toks) (fun _ _ q => Heap.get?_push_of_some _ q) (Nat.le_refl _) (dk_empty s.heap I.big), rfl, h _ (I.hok.fresh (Nat.le_refl _))⟩
end

/-- the pairs of a display, from the left -/
def tPairs : List (TE × TE) → St → Hp → (List (V × V) → Hp → Prop) → Prop
  | [], _, H, Q => Q [] H
  | (tk, tv) :: r, σ, H, Q => tk σ H fun x H1 => tv σ H1 fun y H2 => tPairs r σ H2 fun ps H3 => Q ((x, y) :: ps) H3
abbrev VV : List (V × V) → List (Value × Value) → Prop := Paired fun p q => RelV p.1 q.1 ∧ RelV p.2 q.2
def PPs (X : Cx) (pos : Pos) (keys : List (Option Expr)) (values : List Expr) (trs : List (TE × TE)) : Prop :=
  ∀ (pins : List (Addr × Obj)) (s : Shared) (σ : St) (H : Hp) (Q : List (V × V) → Hp → Prop), Inv X pins σ H s → tPairs trs σ H Q →
    wpAny (model X.prog X.w) X.A (evalPairs (pairTrees keys values X.env pos)) (fun vs s' => ∃ ps H', Inv X pins σ H' s' ∧ VV ps vs ∧ Q ps H') X.xe s
def mergeK (kvs more : List (Key × V)) : List (Key × V) := more.foldl (fun acc kv => putK acc kv.1 kv.2) kvs
/-- {k: v, ..} with keys ints and texts; the new dict stands empty while the pairs are made -/
def tDisp (trs : List (TE × TE)) : TE := fun σ H Q => ∀ p, H p = none → tPairs trs σ (upd H p (.dK [])) fun ps H2 => H2 p = some (.dK []) ∧ ∃ kvs : List (Key × V), ps = kvs.map (fun kv => (kV kv.1, kv.2)) ∧ kvs.length ≤ 15 ∧ Q (.ref p) (upd H2 p (.dK (mergeK [] kvs)))
/-! ### methods -/
/-- a method call o.m(e) of a built-in, with one argument: what must be seen of the text -/
structure M1 (X : Cx) (o : Expr) (m : Str) (apos : Pos) (e : Expr) (cpos : Pos) : Prop where
  base : attributeBase o m X.env (eval o X.env) = eval o X.env
  few : ((backTo cpos (starEach [e] X.env)).all (fun x => !x.1) && (backToKw cpos (keywordEach [] X.env)).all (fun x => x.1.isSome)
    && decide (([e] : List Expr).length + ([] : List Keyword).length + (if ([] : List Keyword).isEmpty then 0 else 1) < 30)) = true
  line : (apos.endLine == cpos.line) = true
  trees : backTo cpos (starEach [e] X.env) = [(false, eval e X.env)]
structure M2 (X : Cx) (o : Expr) (m : Str) (apos : Pos) (e f : Expr) (cpos : Pos) : Prop where
  base : attributeBase o m X.env (eval o X.env) = eval o X.env
  few : ((backTo cpos (starEach [e, f] X.env)).all (fun x => !x.1) && (backToKw cpos (keywordEach [] X.env)).all (fun x => x.1.isSome)
    && decide (([e, f] : List Expr).length + ([] : List Keyword).length + (if ([] : List Keyword).isEmpty then 0 else 1) < 30)) = true
  line : (apos.endLine == cpos.line) = true
  trees : backTo cpos (starEach [e, f] X.env) = [(false, eval e X.env), (false, eval f X.env)]

/-- a is a dict, whatever its keys -/
def IsD (H : Hp) (a : Addr) : Prop := (∃ kvs, Rd H a (.dK kvs)) ∨ ∃ kvs, Rd H a (.dT kvs)
section
variable {X : Cx} {pins : List (Addr × Obj)} {σ : St} {H : Hp} {s : Shared} {a : Addr} {y d : V} {u r : Value} {o : Option V} {A : Around} {E : Value → Shared → Prop}
end

def tDGet1 (td ty : TE) : TE := fun σ H Q => td σ H fun x H1 => ∃ a, x = .ref a ∧ IsD H1 a ∧ ty σ H1 fun y H2 => ∃ o, DGet H2 a y o ∧ Q (o.getD .non) H2
def tDGet2 (td ty tx : TE) : TE := fun σ H Q => td σ H fun x H1 => ∃ a, x = .ref a ∧ IsD H1 a ∧ ty σ H1 fun y H2 => tx σ H2 fun z H3 => ∃ o, DGet H3 a y o ∧ Q (o.getD z) H3
/-- d.pop(k): there; d.pop(k, x): there or not -/
def tDPop1 (td ty : TE) : TE := fun σ H Q => td σ H fun x H1 => ∃ a, x = .ref a ∧ IsD H1 a ∧ ty σ H1 fun y H2 => ∃ kvs k v, H2 a = some (.dK kvs) ∧ y = kV k ∧ valV kvs k = some v ∧ Q v (upd H2 a (.dK (dropK kvs k)))
def tDPop2 (td ty tx : TE) : TE := fun σ H Q => td σ H fun x H1 => ∃ a, x = .ref a ∧ IsD H1 a ∧ ty σ H1 fun y H2 => tx σ H2 fun z H3 => ∃ kvs k, H3 a = some (.dK kvs) ∧ y = kV k ∧
  (∀ v, valV kvs k = some v → Q v (upd H3 a (.dK (dropK kvs k)))) ∧ (valV kvs k = none → Q z H3)
section
variable {X : Cx} {o e f : Expr} {apos cpos : Pos} {td ty tx : TE}
end

/-! ### dict(d): a copy -/
section
variable {X : Cx} {pins : List (Addr × Obj)} {σ : St} {H : Hp} {s : Shared} {a : Addr} {kvs : List (Key × V)} {A : Around} {E : Value → Shared → Prop}
end


section
variable {X : Cx} {pins : List (Addr × Obj)} {σ : St} {H : Hp} {s : Shared} {a : Addr} {y : V} {u : Value} {A : Around} {E : Value → Shared → Prop}
end
end L2

namespace My
open PySem L2
theorem rise_eq : ∀ {a b : List Nat}, a.Pairwise (· < ·) → b.Pairwise (· < ·) → (∀ i, i ∈ a ↔ i ∈ b) → a = b
  | [], [], _, _, _ => rfl
  | [], y :: b, _, _, h => nomatch (h y).mpr List.mem_cons_self
  | x :: a, [], _, _, h => nomatch (h x).mp List.mem_cons_self
  | x :: a, y :: b, pa, pb, h => by
    obtain ⟨a1, a2⟩ := List.pairwise_cons.mp pa
    obtain ⟨b1, b2⟩ := List.pairwise_cons.mp pb
    have e : x = y := by
      rcases List.mem_cons.mp ((h x).mp List.mem_cons_self) with z | z
      · exact z
      · rcases List.mem_cons.mp ((h y).mpr List.mem_cons_self) with u | u
        · exact u.symm
        · have := a1 y u
          have := b1 x z
          omega
    subst e
    rw [rise_eq a2 b2 fun i => ⟨fun m => ?_, fun m => ?_⟩]
    · rcases List.mem_cons.mp ((h i).mp (List.mem_cons_of_mem _ m)) with z | z
      · have := a1 i m
        omega
      · exact z
    · rcases List.mem_cons.mp ((h i).mpr (List.mem_cons_of_mem _ m)) with z | z
      · have := b1 i m
        omega
      · exact z
theorem rise_nd {a : List Nat} (h : a.Pairwise (· < ·)) : a.Nodup := h.imp fun z => Nat.ne_of_lt z
theorem cards_hN {A : List Nat} (ri : A.Pairwise (· < ·)) (h : ∀ c ∈ A, c < 32) : cardsN (hN A) = A := by
  refine rise_eq ?_ ri (hN_cards h)
  exact List.Pairwise.filter _ List.pairwise_lt_range
theorem orL_sl {a b cs : List Nat} (ha : a.Sublist cs) (hb : b.Sublist cs) : (orL a b).Sublist cs := by
  unfold orL
  split
  · exact hb
  · exact ha
theorem folL_sl (s : Nat) (cs : List Nat) : (folL s cs).Sublist cs := List.filter_sublist
theorem cutL_sl (t : Option Nat) (led : Nat) (cs : List Nat) : (cutL t led cs).Sublist cs := by
  refine orL_sl (folL_sl _ _) (orL_sl ?_ (List.Sublist.refl _))
  cases t with
  | none => exact List.nil_sublist _
  | some u => exact folL_sl _ _
theorem alw_sl (d : _root_.Fin 4) (f : Fx) (t : Option Nat) (ys cs : List Nat) : (alw d f t ys cs).Sublist cs := by
  match d with
  | 0 => exact List.Sublist.refl _
  | 1 => exact orL_sl (folL_sl _ _) (List.Sublist.refl _)
  | 2 => exact cutL_sl _ _ _
  | 3 => exact orL_sl (List.filter_sublist.trans (cutL_sl _ _ _)) (cutL_sl _ _ _)
theorem orL_ne {a b : List Nat} (h : b ≠ []) : orL a b ≠ [] := by
  unfold orL
  split
  · exact h
  · assumption
theorem alw_ne {d : _root_.Fin 4} {f : Fx} {t : Option Nat} {ys cs : List Nat} (h : cs ≠ []) : alw d f t ys cs ≠ [] := by
  match d with
  | 0 => exact h
  | 1 => exact orL_ne h
  | 2 => exact orL_ne (orL_ne h)
  | 3 => exact orL_ne (orL_ne (orL_ne h))
theorem cut_in_follow (f : Fx) (t : Option Nat) (ys cs : List Nat) : ∀ c ∈ alw 2 f t ys cs, c ∈ alw 1 f t ys cs := fun c hc => by
  have s := (alw_sl 2 f t ys cs).subset hc
  change c ∈ orL (folL (ledOf ys) cs) (orL (trL t cs) cs) at hc
  show c ∈ orL (folL (ledOf ys) cs) cs
  unfold orL at hc ⊢
  by_cases z : folL (ledOf ys) cs = []
  · rw [if_pos z]; exact s
  · rw [if_neg z] at hc ⊢; exact hc
theorem beat_in_cut (f : Fx) (t : Option Nat) (ys cs : List Nat) : ∀ c ∈ alw 3 f t ys cs, c ∈ alw 2 f t ys cs := orL_sub (fun c hc => (List.mem_filter.mp hc).1) fun _ h => h
theorem led_snoc {ys : List Nat} (h : 0 < ys.length) (c : Nat) : ledOf (ys ++ [c]) = ledOf ys := by
  unfold ledOf
  cases ys with
  | nil => exact absurd h (Nat.lt_irrefl _)
  | cons y l => rfl
theorem win_last {f : Fx} {t : Option Nat} {ys : List Nat} {c h : Nat} (T : Trk f (ys ++ [c])) (h0 : 0 < ys.length) (W : Win f t (ledOf (ys ++ [c])) (ys ++ [c]) h) : decide (V.int (h : Nat) = V.int (ys.length : Nat)) = ys.all fun o => overB f t c o (ledOf ys) := by
  rw [led_snoc h0] at W
  obtain ⟨m, hm, am⟩ := W
  have nc : c ∉ ys := fun z => by
    have := (List.nodup_append.mp T.nd).2.2 c z c (List.mem_singleton.mpr rfl)
    exact this rfl
  rw [Bool.eq_iff_iff, decide_eq_true_eq, List.all_eq_true]
  constructor
  · intro e o ho
    injection e with e
    have e' : h = ys.length := by omega
    rw [e', List.getElem?_append_right (Nat.le_refl _), Nat.sub_self] at hm
    have : c = m := Option.some.inj hm
    subst this
    exact am o (List.mem_append_left _ ho) fun z => nc (z ▸ ho)
  · intro al
    by_cases e : h = ys.length
    · rw [e]
    · exfalso
      have hl := (List.getElem?_eq_some_iff.mp hm).1
      rw [List.length_append] at hl
      have hl' : h < ys.length := by
        have : h < ys.length + 1 := hl
        omega
      rw [List.getElem?_append_left hl'] at hm
      have mm := List.mem_of_getElem? hm
      have x1 := am c (List.mem_append_right _ (List.mem_singleton.mpr rfl)) fun z => nc (z ▸ mm)
      exact over_not_both f t m c _ x1 (al m mm)
theorem eqVs_vN : ∀ (ys : List Nat), eqVs (vN ys) (vN ys) = true
  | [] => rfl
  | y :: ys => by
    show ((((y : Nat) : Int) == (y : Nat)) && eqVs (vN ys) (vN ys)) = true
    rw [eqVs_vN ys, beq_self_eq_true]
    rfl
section
variable {P : Program} {w : World} {K : PySem.W.Frag} {mg : Str → Option Value} {base : Heap} {f g : Addr} {fd gd : FuncData}
/-! ### all of one list in another -/
def notInV (ys : List Nat) (x : V) : Bool := !inV x (vN ys)
def spIn (K : PySem.W.Frag) : Sp := fun vs H Q _ => ∃ (a b : Addr) (xs ys : List Nat), vs = [.ref a, .ref b] ∧ SqL K H a (vN xs) ∧ SqL K H b (vN ys) ∧ xs.length ≤ 1000 ∧ (∀ c ∈ xs, c ∈ ys) ∧ ∀ H', Same H H' → Q (.bl true) H'
abbrev pIn : List Str := ["_law_some", "_law_others"]
abbrev nIn2 : List Str := ["_law_card_here", "_law_others"]
theorem scIn : FnScope pIn pIn (defScope sLIn) := ⟨rfl, rfl, rfl, by decide +kernel, rfl, by decide +kernel, by decide +kernel⟩
theorem ok_in {k : Nat} (F : Fun K "_law_in" "_law_in" sLIn f fd) : FnOk P w K mg base CX0 (k + 1) f fd pIn (spIn K) := by
  refine F.ok scIn (fun vs H Q E h => ?_) (fun cdv A outer s H vs Q E hr h => ?_)
  · obtain ⟨a, b, xs, ys, rfl, _⟩ := h
    rfl
  obtain ⟨a, b, xs, ys, rfl, hA, hB, hl, hs, q⟩ := h
  refine ⟨_, pss_one (ps_ret (pe_cmpR (op_eqNil hr.units) (pe_comp nIn2 [none, some 1] rfl (Blk.by (sc := defScope sLIn) (N0 := pIn) rfl rfl (by decide +kernel)) (pi_list (pv 0)) (fun C s₀ H₀ ex => pg_name (i := 0) (show nIn2.Nodup by decide +kernel) rfl (Or.inl rfl))
      (fun C s₀ H₀ ex => pf_one (pt_cmpR (show OpR _ _ (rIn K true) from op_notIn_seq) (pv 0) (pv 1) rfl)) (fun C s₀ H₀ ex => pv 0)) (pe_lst pa_nil) (nomark _))), ?_⟩
  refine ⟨_, rfl, a, rfl, ⟨_, hA⟩, comp_list (K := K) (xs := vN xs) (notInV ys) (fun x => x) hA (fits3 _ (by rw [vN_len]; exact hl)) (fun x H3 hx sm R hR => ?_) (fun x H3 hx hp sm R hR => ⟨_, rfl, hR H3 (Same.refl H3)⟩) (fun l H2 s2 hl2 hL2 => ?_)⟩
  · obtain ⟨c, hc, rfl⟩ := List.mem_map.mp hx
    exact ⟨_, rfl, _, rfl, b, _, rfl, .inl (sm.seq hB), rfl, vN_flat ys, _, rfl, hR H3 (Same.refl H3)⟩
  have e : ((vN xs).filter (notInV ys)).map (fun x => x) = [] := by
    rw [List.map_id']
    refine List.filter_eq_nil_iff.mpr fun x hx => ?_
    obtain ⟨c, hc, rfl⟩ := List.mem_map.mp hx
    show ¬ ((!inV (.int (c : Nat)) (vN ys)) = true)
    rw [in_vN, decide_eq_true (hs c hc)]
    decide
  rw [e] at hL2
  refine ⟨fits3 0 (by decide), fun n2 hn2 => ?_⟩
  have s3 := same_upd hn2 (.lst [])
  exact ⟨l, n2, [], rfl, rfl, SqL.of (s3 _ _ hL2), SqL.of upd_same, q _ (s2.trans s3)⟩
/-! ### a card wins behind a trick -/
def spWins (K : PySem.W.Frag) (CT CG : Addr) : Sp := fun vs H Q _ => ∃ (gm x p : Addr) (t : Option Nat) (fx : Fx) (ys : List Nat) (c : Nat), vs = [.ref gm, .ref p, .int (c : Nat)] ∧ fx.Ok ∧ IsGam CG x (tvV t) H gm ∧ IsTab CT fx H x ∧ H p = some (.lst (vN ys)) ∧ Trk fx (ys ++ [c]) ∧ 0 < ys.length ∧ ys.length ≤ 100 ∧ ∀ H', Same H H' → Q (.bl (ys.all fun o => overB fx t c o (ledOf ys))) H'
abbrev pWins : List Str := ["_law_game", "_law_trick_here", "_law_card_here"]
theorem scWins : FnScope pWins pWins (defScope sWins) := ⟨rfl, rfl, rfl, by decide +kernel, rfl, by decide +kernel, by decide +kernel⟩
theorem ok_wins {k : Nat} {CT CG fW : Addr} {dW : FuncData} (F : Fun K "_law_wins" "_law_wins" sWins f fd) (CGm : GamC K mg CG) (MW : Meth K CG "winner" fW) (FW : FnOk P w K mg base CX0 k fW dW ["self", "trick"] (spWinner K CT CG)) (BW : Binds K dW ["self", "trick"] []) (mt : mg "tuple" = none) (ml : mg "len" = none) : FnOk P w K mg base CX0 (k + 1) f fd pWins (spWins K CT CG) := by
  refine F.ok scWins (fun vs H Q E h => ?_) (fun cdv A outer s H vs Q E hr h => ?_)
  · obtain ⟨gm, x, p, t, fx, ys, c, rfl, _⟩ := h
    rfl
  obtain ⟨gm, x, p, t, fx, ys, c, rfl, ok, hG, hX, hP, T, h0, h100, q⟩ := h
  refine ⟨_, pss_one (ps_ret (pe_cmpR op_eq (pe_meth (pv 0) CGm.cl MW FW hr BW .nil pass0 (pa_cons (pe_callTy call_tuple_of rfl mt PyProof.Rows.boot_tuple (pa_cons (pe_op op_cat (pv 1) (pe_lst (pa_cons (pv 2) pa_nil))) pa_nil)) pa_nil)) (pe_callB call_len_seq rfl ml PySem.boot_len (pa_cons (pv 1) pa_nil)) (nomark _))), ?_⟩
  obtain ⟨dg, hGd⟩ := id hG
  refine ⟨_, rfl, gm, dg, _, rfl, hGd, gam_none _ _ _ (by decide +kernel) (by decide +kernel), _, rfl, _, rfl, fits3 1 (by decide), fun p1 hp1 => ?_⟩
  have s1 := same_upd hp1 (.lst [.int (c : Nat)])
  refine ⟨p, p1, _, _, rfl, rfl, s1 _ _ hP, upd_same, ?_, fun p2 hp2 => ?_⟩
  · rw [vN_len, sizeLine_eq]
    show ys.length + 1 ≤ _
    omega
  rw [vN_snoc]
  have s2 := same_upd hp2 (.lst (vN (ys ++ [c])))
  refine ⟨p2, _, rfl, .inl ⟨SqL.of upd_same, fun tp htp => ?_⟩⟩
  have s3 := same_upd htp (.tup (vN (ys ++ [c])))
  have sA := s1.trans (s2.trans s3)
  refine ⟨gm, x, tp, t, fx, ys ++ [c], rfl, ok, hG.same sA, hX.same sA, SqT.of upd_same, T, fun h H4 s4 W => ?_⟩
  refine ⟨_, rfl, p, _, rfl, .inl (SqL.of (s4 _ _ (sA _ _ hP))), rfl, ?_⟩
  have z := q H4 (sA.trans s4)
  rw [← win_last T h0 W] at z
  show Q (.bl (decide (V.int (h : Nat) = V.int (((vN ys).length : Nat) : Int)))) H4
  rw [vN_len]
  exact z
end
end My

namespace My
open PySem L2
theorem cut_ifS {c : TT} {t u : TS} {D : Ends} {σ : St} {H : Hp} (Cb : Bool → Hp → Prop) (Pv : St → Hp → Prop) (hc : ∀ R : Bool → Hp → Prop, (∀ b H', Cb b H' → R b H') → c σ H R)
    (h1 : ∀ H', Cb true H' → ∀ D' : Ends, D'.rt = D.rt → (∀ σ H, Pv σ H → D'.nx σ H) → t D' σ H') (h2 : ∀ H', Cb false H' → ∀ D' : Ends, D'.rt = D.rt → (∀ σ H, Pv σ H → D'.nx σ H) → u D' σ H') (h3 : ∀ σ H, Pv σ H → D.nx σ H) : tIfS c t u D σ H :=
  hc _ fun b H' hb => match b, hb with | true, hb => iteT (h1 H' hb D rfl h3) | false, hb => iteF (h2 H' hb D rfl h3)
theorem cut_seqS {c : TT} {t u r : TS} {D : Ends} {σ : St} {H : Hp} (Cb : Bool → Hp → Prop) (Pv : St → Hp → Prop) (hc : ∀ R : Bool → Hp → Prop, (∀ b H', Cb b H' → R b H') → c σ H R)
    (h1 : ∀ H', Cb true H' → ∀ D' : Ends, D'.rt = D.rt → (∀ σ H, Pv σ H → D'.nx σ H) → t D' σ H') (h2 : ∀ H', Cb false H' → ∀ D' : Ends, D'.rt = D.rt → (∀ σ H, Pv σ H → D'.nx σ H) → u D' σ H') (h3 : ∀ σ H, Pv σ H → r D σ H) : tSeq (tIfS c t u) r D σ H :=
  cut_ifS (D := { D with nx := r D }) Cb Pv hc h1 h2 h3
theorem cut_nmS {i : Nat} {v : V} {rt : VK} {bk ct : St → Hp → Prop} {c : TT} {t u r : TS} {D : Ends} {σ : St} {H : Hp} (Cb : Bool → Hp → Prop) (Pv : St → Hp → Prop) (hc : ∀ R : Bool → Hp → Prop, (∀ b H', Cb b H' → R b H') → c (σ.set i (some v)) H R)
    (h1 : ∀ H', Cb true H' → ∀ D' : Ends, D'.rt = D.rt → (∀ σ H, Pv σ H → D'.nx σ H) → t D' (σ.set i (some v)) H') (h2 : ∀ H', Cb false H' → ∀ D' : Ends, D'.rt = D.rt → (∀ σ H, Pv σ H → D'.nx σ H) → u D' (σ.set i (some v)) H') (h3 : ∀ σ H, Pv σ H → r D σ H) : gName i v σ H (Ends.mk (tSeq (tIfS c t u) r D) rt bk ct).nx :=
  cut_seqS (D := D) Cb Pv hc h1 h2 h3
theorem vN_nil (cs : List Nat) : (vN cs).isEmpty = decide (cs = []) := by cases cs <;> rfl
def folV (s : Nat) (x : V) : Bool := match x with | .int i => decide (i.toNat / 8 = s) | _ => false
theorem folV_nat (s c : Nat) : folV s (.int (c : Nat)) = decide (c / 8 = s) := by
  show decide (((c : Nat) : Int).toNat / 8 = s) = _
  rw [Int.toNat_natCast]
theorem folV_list (s : Nat) (cs : List Nat) : (((vN cs).filter (folV s)).map fun x => x) = vN (folL s cs) := by
  rw [List.map_id']
  unfold vN folL
  rw [List.filter_map]
  exact congrArg _ (List.filter_congr fun c _ => folV_nat s c)
def tpV (f : Fx) (t : Option Nat) (ys : List Nat) (x : V) : Bool := match x with | .int i => ys.all fun o => overB f t i.toNat o (ledOf ys) | _ => false
theorem tpV_nat (f : Fx) (t : Option Nat) (ys : List Nat) (c : Nat) : tpV f t ys (.int (c : Nat)) = ys.all fun o => overB f t c o (ledOf ys) := by
  show (ys.all fun o => overB f t ((c : Nat) : Int).toNat o (ledOf ys)) = _
  rw [Int.toNat_natCast]
theorem tpV_list (f : Fx) (t : Option Nat) (ys cs : List Nat) : (((vN cs).filter (tpV f t ys)).map fun x => x) = vN (topL f t ys cs) := by
  rw [List.map_id']
  unfold vN topL
  rw [List.filter_map]
  exact congrArg _ (List.filter_congr fun c _ => tpV_nat f t ys c)
theorem nd_len : ∀ (n : Nat) (cs : List Nat), cs.Nodup → (∀ c ∈ cs, c < n) → cs.length ≤ n
  | 0, cs, _, h => by
    cases cs with
    | nil => exact Nat.le_refl _
    | cons c l => exact absurd (h c List.mem_cons_self) (Nat.not_lt_zero _)
  | n + 1, cs, nd, h => by
    have h1 := nd_len n (cs.erase n) (nd.erase n) fun c hc => by
      have h2 := (nd.mem_erase_iff).mp hc
      have := h c h2.2
      have := h2.1
      omega
    have h3 : cs.length ≤ (cs.erase n).length + 1 := by
      rw [List.length_erase]
      split <;> omega
    omega
theorem make_same {H1 H' : Hp} {x dx : Addr} {o : HO} (hx : H1 x = none) (hd : H1 dx = none) (n : dx ≠ x) (kp : Keep x (upd (upd H1 dx (.own x)) x o) H') : Same H1 H' := fun b u hb =>
  kp b u (ne_of_none hb hx) (same_make hx hd n b u hb)
def bitV (x : V) : V := match x with | .int i => .int ((2 ^ i.toNat : Nat) : Int) | v => v
theorem bitV_nat (c : Nat) : bitV (.int (c : Nat)) = .int ((2 ^ c : Nat) : Int) := by
  show V.int ((2 ^ ((c : Nat) : Int).toNat : Nat) : Int) = _
  rw [Int.toNat_natCast]
theorem bit_list (cs : List Nat) : (((vN cs).filter fun _ => true).map bitV) = (cs.map fun c => ((2 ^ c : Nat) : Int)).map V.int := by
  rw [List.filter_eq_self.mpr (fun _ _ => rfl)]
  unfold vN
  rw [List.map_map, List.map_map]
  exact List.map_congr_left fun c _ => bitV_nat c
theorem bit_sum {cs : List Nat} (nd : cs.Nodup) : (cs.map fun c => ((2 ^ c : Nat) : Int)).sum = ((hN cs : Nat) : Int) := by
  rw [← hN_sum nd]
  clear nd
  induction cs with
  | nil => rfl
  | cons c l ih =>
    rw [List.map_cons, List.sum_cons, List.map_cons, List.sum_cons, ih, Int.natCast_add]
theorem fx_ne {H : Hp} {l q pl tr : Addr} {s h n : Int} {wd' : Str} {xs : List Nat} (a : H l = some (.lst [.int s, .int h, .int n, .str wd', .ref pl, .ref tr])) (b : H q = some (.lst (vN xs))) : q ≠ l := fun e => by
  rw [e, a] at b
  injection b with b
  injection b with b
  have z : (vN xs)[3]? = some (.str wd') := by rw [← b]; rfl
  obtain ⟨c, _, y⟩ := vN_get z
  cases y
def wds4 : List V := [.str (wd 3), .str (wd 1), .str (wd 0), .str (wd 2)]
def dw (i : Nat) : _root_.Fin 4 := match i with | 0 => 3 | 1 => 1 | 2 => 0 | _ => 2
theorem wds4_at {i : Nat} {x : V} (h : wds4[i]? = some x) : x = .str (wd (dw i)) := by
  match i, h with
  | 0, h => exact (Option.some.inj h).symm
  | 1, h => exact (Option.some.inj h).symm
  | 2, h => exact (Option.some.inj h).symm
  | 3, h => exact (Option.some.inj h).symm
section
variable {P : Program} {w : World} {K : PySem.W.Frag} {mg : Str → Option Value} {base : Heap}
def spLaw (K : PySem.W.Frag) : Sp := fun vs H Q _ => ∃ (a : Addr) (ns : List Int), vs = [.ref a] ∧ SqL K H a (ns.map V.int) ∧ ns.length ≤ 63 ∧ ∀ H', Q (.bl true) H'
abbrev nLaw : List Str := ["_law_script", "_law_facts", "_law_trump_here", "_law_trick_here", "_law_cards_here", "_law_hand", "_law_lets", "_law_word", "_law_game", "_law_led", "_law_strong"]
abbrev nC1 : List Str := ["_law_card_here"]
abbrev nC2 : List Str := ["_law_card_here", "_law_trick_here"]
abbrev nC3 : List Str := ["_law_card_here", "_law_game", "_law_trick_here"]
theorem scLaw : FnScope nLaw ["_law_script"] (defScope sLaw) := ⟨rfl, rfl, rfl, by decide +kernel, rfl, by decide +kernel, by decide +kernel⟩
theorem ok_law {e f1 f2 f3 f4 f5 f6 f7 f8 f9 f10 CT CG fI fG fM : Addr} {ed d1 d2 d3 d4 d5 d6 d7 d8 d9 d10 dI dG dM : FuncData} {k : Nat} (F : Fun K "law" "law" sLaw e ed) (C : TabC K mg CT) (CGm : GamC K mg CG) (LTb : Lib P w K mg base (k + 1) "_law_table" ["_law_script"] (spTable K) f1 d1) (LC : Lib P w K mg base (k + 1) "_law_cell" pCell (spCell K) f2 d2)
    (LT : Lib P w K mg base (k + 1) "_law_text" ["_law_facts"] (spText K) f3 d3) (LU : Lib P w K mg base (k + 1) "_law_trump" ["_law_script", "_law_facts"] (spTrump K) f4 d4) (LR : Lib P w K mg base (k + 1) "_law_trick" pTrick (spTrick K) f5 d5) (LK : Lib P w K mg base (k + 1) "_law_cards" pLCards (spLCards K) f6 d6)
    (LB : Lib P w K mg base (k + 1) "_law_bit" ["_law_card_here"] spBit f7 d7) (LI : Lib P w K mg base (k + 1) "_law_in" pIn (spIn K) f8 d8) (LW : Lib P w K mg base (k + 1) "_law_wins" pWins (spWins K CT CG) f9 d9) (LN : Lib P w K mg base (k + 1) "cards_in" ["hand"] (spCardsIn K) f10 d10)
    (MkT : Mk K CT fI) (FI : FnOk P w K mg base CX0 k fI dI ["self", "text"] (spTab CT)) (BI : Binds K dI ["self", "text"] []) (MkG : Mk K CG fG) (FG : FnOk P w K mg base CX0 k fG dG ["self", "table", "trump"] (spGam CG)) (BG0 : Binds K dG ["self", "table", "trump"] [])
    (MM : Meth K CG "may" fM) (FM : FnOk P w K mg base CX0 (k + 1) fM dM ["self", "hand", "trick"] (spMay K CT CG)) (BM : Binds K dM ["self", "hand", "trick"] []) (mt : mg "tuple" = none) (mS : mg "sum" = none) :
    FnOk P w K mg base CX0 (k + 2) e ed ["_law_script"] (spLaw K) := by
  refine F.ok scLaw (fun vs H Q E h => ?_) (fun cdv A outer s H vs Q E hr h => ?_)
  · obtain ⟨a, ns, rfl, _⟩ := h
    rfl
  obtain ⟨a, ns, rfl, hS, h63, q⟩ := h
  have hu := Nat.lt_of_le_of_lt (Nat.add_le_add_left (show 1 ≤ 64 by decide) _) hr.units
  refine ⟨_, pss_cons (ps_set (i := 1) scLaw.nd rfl (Or.inl rfl) (pe_call LTb.ok hr rfl LTb.mg LTb.kp LTb.bd .nil pass0 (pa_cons (pv 0) pa_nil)))
    (pss_cons (ps_set (i := 2) scLaw.nd rfl (Or.inl rfl) (pe_call LU.ok hr rfl LU.mg LU.kp LU.bd .nil pass0 (pa_cons (pv 0) (pa_cons (pv 1) pa_nil))))
    (pss_cons (ps_set (i := 3) scLaw.nd rfl (Or.inr rfl) (pe_call LR.ok hr rfl LR.mg LR.kp LR.bd .nil pass0 (pa_cons (pv 0) (pa_cons pe_int (pa_cons (pv 1) (pa_cons (pe_op op_add pe_int (pe_op op_mod (pe_call LC.ok hr rfl LC.mg LC.kp LC.bd .nil pass0 (pa_cons (pv 0) (pa_cons pe_int pa_nil))) (pe_op op_sub (pe_ix ix_list (pv 1) pe_int (fun _ _ => rfl)) pe_int))) pa_nil))))))
    (pss_cons (ps_set (i := 4) scLaw.nd rfl (Or.inl rfl) (pe_call LK.ok hr rfl LK.mg LK.kp LK.bd .nil pass0 (pa_cons (pv 0) (pa_cons (pv 1) (pa_cons (pv 3) (pa_cons (pv 2) pa_nil))))))
    (pss_cons (ps_if (pt_cmpR (op_eqNil hr.units) (pv 4) (pe_lst pa_nil) (nomark _)) (pss_one (ps_ret pe_bl)) pss_nil)
    (pss_cons (ps_set (i := 5) scLaw.nd rfl (Or.inl rfl) (pe_callB (call_sum rfl) rfl mS PyProof.Rows.boot_sum (pa_cons (pe_comp nC1 [none] rfl (Blk.by (sc := defScope sLaw) (N0 := nLaw) rfl rfl (by decide +kernel)) (pi_list (pv 4)) (fun C s₀ H₀ ex => pg_name (i := 0) (show nC1.Nodup by decide +kernel) rfl (Or.inl rfl)) (fun C s₀ H₀ ex => pf_nil) (fun C s₀ H₀ ex => pe_call LB.ok hr rfl LB.mg LB.kp LB.bd .nil pass0 (pa_cons (pv 0) pa_nil))) pa_nil)))
    (pss_cons (ps_set (i := 6) scLaw.nd rfl (Or.inl rfl) pe_dnewK)
    (pss_cons (ps_for PassesOwn.never rfl (pi_list (pe_lst (pa_cons pe_str (pa_cons pe_str (pa_cons pe_str (pa_cons pe_str pa_nil)))))) (pg_name (i := 7) scLaw.nd rfl (Or.inl rfl))
      (pss_cons (ps_asg (pv 7) (pg_sub (pv 1) pe_int set_list))
      (pss_cons (ps_set (i := 8) scLaw.nd rfl (Or.inr rfl) (pe_make MkG FG hr rfl CGm.mG BG0 .nil pass0 (pa_cons (pe_make MkT FI hr rfl C.mT BI .nil pass0 (pa_cons (pe_call LT.ok hr rfl LT.mg LT.kp LT.bd .nil pass0 (pa_cons (pv 1) pa_nil)) pa_nil)) (pa_cons (pv 2) pa_nil))))
      (pss_cons (ps_dput hu (pv 6) (pv 7) (pe_call LN.ok hr rfl LN.mg LN.kp LN.bd .nil pass0 (pa_cons (pe_meth (pv 8) CGm.cl MM FM hr BM .nil pass0 (pa_cons (pv 5) (pa_cons (pe_callTy call_tuple_of rfl mt PyProof.Rows.boot_tuple (pa_cons (pv 3) pa_nil)) pa_nil))) pa_nil)) rfl)
      (pss_one (ps_if (PW.pt (pw_or (pt_cmpR (op_eqNil hr.units) (pe_dget hu (pv 6) (pv 7) (fun _ _ => rfl)) (pe_lst pa_nil) (nomark _)) (pw_or1 (pt_not (pt_truth (pe_call LI.ok hr rfl LI.mg LI.kp LI.bd .nil pass0 (pa_cons (pe_dget hu (pv 6) (pv 7) (fun _ _ => rfl)) (pa_cons (pv 4) pa_nil))) (fun _ => rfl)))))) (pss_one (ps_ret pe_bl)) pss_nil))))))
    (pss_cons (ps_if (PW.pt (pw_or (pt_cmpR (op_neFL hr.units) (pe_dget hu (pv 6) pe_str (fun _ _ => rfl)) (pv 4) (nomark _)) (pw_or (pt_not (pt_truth (pe_call LI.ok hr rfl LI.mg LI.kp LI.bd .nil pass0 (pa_cons (pe_dget hu (pv 6) pe_str (fun _ _ => rfl)) (pa_cons (pe_dget hu (pv 6) pe_str (fun _ _ => rfl)) pa_nil))) (fun _ => rfl))) (pw_or1 (pt_not (pt_truth (pe_call LI.ok hr rfl LI.mg LI.kp LI.bd .nil pass0 (pa_cons (pe_dget hu (pv 6) pe_str (fun _ _ => rfl)) (pa_cons (pe_dget hu (pv 6) pe_str (fun _ _ => rfl)) pa_nil))) (fun _ => rfl))))))) (pss_one (ps_ret pe_bl)) pss_nil)
    (pss_cons (ps_setcomp (i := 9) nC2 [none, some 3] rfl scLaw.nd rfl (Or.inl rfl) (Blk.by (sc := defScope sLaw) (N0 := nLaw) rfl rfl (by decide +kernel)) (pi_list (pv 4)) (fun C s₀ H₀ ex => pg_name (i := 0) (show nC2.Nodup by decide +kernel) rfl (Or.inl rfl))
        (fun C s₀ H₀ ex => pf_one (pt_cmpR op_eq (pe_op op_fdiv (pv 0) pe_int) (pe_op op_fdiv (pe_ix (show IxR _ (rIxL K) from ix_list) (pv 1) pe_int (fun _ _ => rfl)) pe_int) (nomark _))) (fun C s₀ H₀ ex => pv 0))
    (pss_cons (ps_if (pt_cmpR (op_neFL hr.units) (pe_dget hu (pv 6) pe_str (fun _ _ => rfl)) (pe_ifExp (pt_cmpR (op_neNil hr.units) (pv 9) (pe_lst pa_nil) (nomark _)) (pv 9) (pv 4)) (nomark _)) (pss_one (ps_ret pe_bl)) pss_nil)
    (pss_cons (ps_setcomp (i := 10) nC3 [none, some 8, some 3] rfl scLaw.nd rfl (Or.inl rfl) (Blk.by (sc := defScope sLaw) (N0 := nLaw) rfl rfl (by decide +kernel)) (pi_list (pe_dget hu (pv 6) pe_str (fun _ _ => rfl))) (fun C s₀ H₀ ex => pg_name (i := 0) (show nC3.Nodup by decide +kernel) rfl (Or.inl rfl))
        (fun C s₀ H₀ ex => pf_one (pt_truthB (pe_call LW.ok hr rfl LW.mg LW.kp LW.bd .nil pass0 (pa_cons (pv 1) (pa_cons (pv 2) (pa_cons (pv 0) pa_nil)))) (fun _ => rfl))) (fun C s₀ H₀ ex => pv 0))
    (pss_one (ps_ret (pe_cmpR (op_eqFL hr.units) (pe_dget hu (pv 6) pe_str (fun _ _ => rfl)) (pe_ifExp (pt_cmpR (op_neNil hr.units) (pv 10) (pe_lst pa_nil) (nomark _)) (pv 10) (pe_dget hu (pv 6) pe_str (fun _ _ => rfl))) (nomark _))))))))))))))), ?_⟩
  refine ⟨_, rfl, a, ns, rfl, hS, fun l fx H1 ok s1 hl hf => ?_⟩
  refine ⟨_, rfl, _, rfl, a, l, ns, fx, rfl, s1.seq hS, ok, hf, fun t hbT => ?_⟩
  obtain ⟨pl0, tr0, hL0, _, _⟩ := id hf
  have hn1 : (0 : Int) < ((fx.n : Nat) : Int) - 1 := by rcases ok.n34 with z | z <;> omega
  have hn4 : fx.n ≤ 4 := by rcases ok.n34 with z | z <;> omega
  refine ⟨_, rfl, _, rfl, _, rfl, a, ns, 8, rfl, s1.seq hS, by decide, fun z2 => ?_⟩
  have b0 := Int.emod_nonneg z2 (show ((fx.n : Nat) : Int) - 1 ≠ 0 by omega)
  have b1 := Int.emod_lt_of_pos z2 hn1
  obtain ⟨m, em⟩ := Int.eq_ofNat_of_zero_le b0
  have em' : (1 : Int) + z2 % (((fx.n : Nat) : Int) - 1) = ((1 + m : Nat) : Int) := by omega
  refine ⟨_, rfl, l, _, 2, .int (fx.n : Nat), rfl, rfl, SqL.of hL0, rfl, _, _, rfl, rfl, _, _, rfl, rfl, hn1, _, _, rfl, rfl, a, l, ns, fx, 2, 1 + m, (show [V.ref a, V.int (2 : Int), V.ref l, V.int ((1 : Int) + z2 % (((fx.n : Nat) : Int) - 1))] = _ by rw [em']; rfl), s1.seq hS, by decide, ok, hf, by omega, fun p ys H2 s2 hp hLp ndy hby hlen h0 => ?_⟩
  have y0 : 0 < ys.length := h0 (by omega)
  refine ⟨_, rfl, _, rfl, _, rfl, _, rfl, a, l, p, ns, fx, t, ys, rfl, (s1.trans s2).seq hS, ok, hf.same s2, SqL.of hLp, y0, fun cp cs H3 s3 hcp hLc ric hbc => ?_⟩
  have ndc := rise_nd ric
  have c32 : ∀ c ∈ cs, c < 32 := fun c hc => by have := (hbc c hc).1; have := ok.s4; omega
  have l32 := nd_len 32 cs ndc c32
  refine ⟨_, rfl, fits3 0 (by decide), fun n1 hn1 => ?_⟩
  have s4 := same_upd hn1 (.lst [])
  refine ⟨cp, n1, _, rfl, rfl, SqL.of (s4 _ _ hLc), SqL.of upd_same, _, rfl, ?_⟩
  refine chg (vN_nil cs) ?_
  revert s4
  generalize upd H3 n1 (.lst []) = H4
  intro s4
  by_cases c0 : cs = []
  · rw [decide_eq_true c0]
    exact iteT (q _)
  rw [decide_eq_false c0]
  have Bg : ∀ d, Beg { fx with d := d } ys cs := fun d => by
    refine ⟨y0, by omega, fun c hc => ⟨?_, (hby c hc).2⟩, fun c hc => ⟨c32 c hc, (hbc c hc).2.1⟩⟩
    have := (hby c hc).1
    have := ok.s4
    omega
  have hC4 := s4 _ _ hLc
  have lc : (vN cs).length ≤ 1000 := by rw [vN_len]; omega
  refine iteF ⟨_, rfl, cp, rfl, ⟨_, SqL.of hC4⟩, comp_list (K := K) (xs := vN cs) (fun _ => true) bitV (SqL.of hC4) (fits3 _ lc) (fun x H3 hx sm R hR => hR H3 (Same.refl H3)) (fun x H3 hx hp sm R hR => ?_) (fun lb H5 s5 hlb hL5 => ?_)⟩
  · obtain ⟨c, hc, rfl⟩ := List.mem_map.mp hx
    have r := hR H3 (Same.refl H3)
    rw [bitV_nat] at r
    exact ⟨_, rfl, c, rfl, by have := c32 c hc; omega, r⟩
  rw [bit_list] at hL5
  refine ⟨lb, _, rfl, SqL.of hL5, ?_⟩
  rw [bit_sum ndc]
  intro dd hdd
  have s6 := same_upd hdd (.dK [])
  have D6 : upd H5 dd (.dK []) dd = some (.dK []) := upd_same
  revert s6 D6
  generalize upd H5 dd (.dK []) = H6
  intro s6 D6
  have sA := s4.trans (s5.trans s6)
  have sB := s2.trans (s3.trans sA)
  have C6 := (s5.trans s6) _ _ hC4
  have P6 := sA _ _ (s3 _ _ hLp)
  have F6 := hf.same sB
  clear hL5 hC4 hdd hlb
  have alwD : ∀ d d', alw d { fx with d := d' } t ys cs = alw d fx t ys cs := fun d d' => match d with
    | 0 => rfl
    | 1 => rfl
    | 2 => rfl
    | 3 => rfl
  have alwR : ∀ d, (alw d fx t ys cs).Pairwise (· < ·) := fun d => ric.sublist (alw_sl d fx t ys cs)
  have alwL : ∀ d, (alw d fx t ys cs).length ≤ 32 := fun d => Nat.le_trans (alw_sl d fx t ys cs).length_le l32
  have alw32 : ∀ d, ∀ c ∈ alw d fx t ys cs, c < 32 := fun d c hc => c32 c ((alw_sl d fx t ys cs).subset hc)
  refine ⟨fits3 4 (by decide), fun lw hlw => ?_⟩
  have s9 := same_upd hlw (.lst wds4)
  refine ⟨lw, rfl, ⟨_, SqL.of upd_same⟩, for_list (K := K) (xs := wds4) (fun i σ H' => H' lw = some (.lst wds4) ∧ H' cp = some (.lst (vN cs)) ∧ H' p = some (.lst (vN ys)) ∧ (∃ d, IsFx { fx with d := d } H' l) ∧ (∃ kvs : List (Key × V), H' dd = some (.dK kvs) ∧ kvs.length ≤ i ∧ ∀ j, j < i → ∃ r, valV kvs (Sum.inr (wd (dw j)) : Key) = some (.ref r) ∧ H' r = some (.lst (vN (alw (dw j) fx t ys cs))))
      ∧ ∃ x7 x8 x9 x10, σ = [some (.ref a), some (.ref l), some (tvV t), some (.ref p), some (.ref cp), some (.int (hN cs : Nat)), some (.ref dd), x7, x8, x9, x10] ∧ (0 < i → ∃ gm x d, x8 = some (.ref gm) ∧ IsGam CG x (tvV t) H' gm ∧ IsTab CT { fx with d := d } H' x))
    ⟨upd_same, s9 _ _ C6, s9 _ _ P6, ⟨fx.d, F6.same s9⟩, ⟨[], s9 _ _ D6, Nat.le_refl _, fun j hj => absurd hj (Nat.not_lt_zero _)⟩, _, _, _, _, rfl, fun z => absurd z (Nat.lt_irrefl _)⟩ (fun i σ H' _ z => SqL.of z.1) (fun i x σ H9 hx z => ?_) (fun σ H9 z => ?_)⟩
  · obtain ⟨W9, C9, P9, ⟨d0, F9⟩, ⟨kvs, D9, lk, hv9⟩, x7, x8, x9, x10, rfl, _⟩ := z
    have hi4 : i < 4 := (List.getElem?_eq_some_iff.mp hx).1
    obtain rfl := wds4_at hx
    generalize hd : dw i = d at *
    obtain ⟨pl, tr, L9, hpl, htr⟩ := id F9
    have L9' : H9 l = some (.lst [.int (fx.s : Nat), .int (fx.h : Nat), .int (fx.n : Nat), .str (wd d0), .ref pl, .ref tr]) := L9
    refine ⟨_, rfl, _, rfl, l, _, 3, 3, rfl, rfl, L9', rfl, ?_⟩
    have nlw : lw ≠ l := fun z => by rw [z, L9'] at W9; cases W9
    have ndd : dd ≠ l := fun z => by rw [z, L9'] at D9; cases D9
    have W10 : upd H9 l (.lst ([V.int (fx.s : Nat), .int (fx.h : Nat), .int (fx.n : Nat), .str (wd d0), .ref pl, .ref tr].set 3 (.str (wd d)))) lw = some (.lst wds4) := by rw [upd_ne nlw]; exact W9
    have C10 : upd H9 l (.lst ([V.int (fx.s : Nat), .int (fx.h : Nat), .int (fx.n : Nat), .str (wd d0), .ref pl, .ref tr].set 3 (.str (wd d)))) cp = some (.lst (vN cs)) := by rw [upd_ne (fx_ne L9' C9)]; exact C9
    have P10 : upd H9 l (.lst ([V.int (fx.s : Nat), .int (fx.h : Nat), .int (fx.n : Nat), .str (wd d0), .ref pl, .ref tr].set 3 (.str (wd d)))) p = some (.lst (vN ys)) := by rw [upd_ne (fx_ne L9' P9)]; exact P9
    have D10 : upd H9 l (.lst ([V.int (fx.s : Nat), .int (fx.h : Nat), .int (fx.n : Nat), .str (wd d0), .ref pl, .ref tr].set 3 (.str (wd d)))) dd = some (.dK kvs) := by rw [upd_ne ndd]; exact D9
    have V10 : ∀ j, j < i → ∃ r, valV kvs (Sum.inr (wd (dw j)) : Key) = some (.ref r) ∧ upd H9 l (.lst ([V.int (fx.s : Nat), .int (fx.h : Nat), .int (fx.n : Nat), .str (wd d0), .ref pl, .ref tr].set 3 (.str (wd d)))) r = some (.lst (vN (alw (dw j) fx t ys cs))) := fun j hj => by
      obtain ⟨r, h1, h2⟩ := hv9 j hj
      exact ⟨r, h1, by rw [upd_ne (fx_ne L9' h2)]; exact h2⟩
    have F10 : IsFx { fx with d := d } (upd H9 l (.lst ([V.int (fx.s : Nat), .int (fx.h : Nat), .int (fx.n : Nat), .str (wd d0), .ref pl, .ref tr].set 3 (.str (wd d))))) l := ⟨pl, tr, upd_same, by rw [upd_ne (fx_ne L9' hpl)]; exact hpl, by rw [upd_ne (fx_ne L9' htr)]; exact htr⟩
    revert W10 C10 P10 D10 V10 F10
    generalize upd H9 l (.lst ([V.int (fx.s : Nat), .int (fx.h : Nat), .int (fx.n : Nat), .str (wd d0), .ref pl, .ref tr].set 3 (.str (wd d)))) = H10
    intro W10 C10 P10 D10 V10 F10
    clear W9 C9 P9 D9 hv9 F9 hpl htr L9 L9' nlw ndd
    have okd : Fx.Ok { fx with d := d } := ⟨ok.s1, ok.s4, ok.h1, ok.h8, ok.n34, ok.pp, ok.pt⟩
    have B := Bg d
    refine ⟨_, rfl, l, { fx with d := d }, rfl, okd, F10, fun H11 s11 => ?_⟩
    intro x dx hx' hdx n
    refine ⟨x, dx, { fx with d := d }, rfl, okd, upd_same, fun po to H12 kp12 g1 g2 g3 => ⟨rfl, ?_⟩⟩
    have s12 := s11.trans (make_same hx' hdx n kp12)
    have X12 : IsTab CT { fx with d := d } H12 x := ⟨dx, po, to, g1, g2, g3⟩
    clear kp12 g1 g2 g3
    refine ⟨_, rfl, ?_⟩
    intro gm dg hgm hdg ng
    refine ⟨gm, dg, x, tvV t, rfl, upd_same, rfl, ?_⟩
    rw [upd_upd]
    have s13 := same_make (o := .ins CG dg (gamF x (tvV t))) hgm hdg ng
    have G13 : IsGam CG x (tvV t) (upd (upd H12 dg (.own gm)) gm (.ins CG dg (gamF x (tvV t)))) gm := ⟨dg, upd_same⟩
    revert s13 G13
    generalize upd (upd H12 dg (.own gm)) gm (.ins CG dg (gamF x (tvV t))) = H13
    intro s13 G13
    have s1013 := s12.trans s13
    obtain ⟨dg', hG13⟩ := id G13
    refine ⟨_, rfl, gm, dg', _, rfl, hG13, gam_none _ _ _ (by decide +kernel) (by decide +kernel), _, rfl, _, rfl, p, _, rfl, .inl ⟨SqL.of (s1013 _ _ P10), fun tp htp => ?_⟩⟩
    have s14 := same_upd htp (.tup (vN ys))
    refine ⟨gm, x, tp, t, { fx with d := d }, ys, cs, rfl, okd, G13.same s14, (X12.same s13).same s14, hbT, SqT.of upd_same, .inr B, fun H15 s15 => ?_⟩
    have yn : ys ≠ [] := List.length_pos_iff.mp y0
    have eA : (if ys = [] then cs else alw d { fx with d := d } t ys cs) = alw d fx t ys cs := by rw [if_neg yn, alwD]
    refine ⟨hN (alw d fx t ys cs), (show [V.int ((hN (if ys = [] then cs else alw d { fx with d := d } t ys cs) : Nat) : Int)] = _ by rw [eA]), hN_lt (alw32 d), fun lq H16 s16 hlq hLq => ?_⟩
    have hLq' : H16 lq = some (.lst (vN (alw d fx t ys cs))) := by
      have e : cardsV (hN (alw d fx t ys cs)) = vN (alw d fx t ys cs) := by
        show vN (cardsN (hN (alw d fx t ys cs))) = _
        rw [cards_hN (alwR d) (alw32 d)]
      rw [← e]
      exact hLq
    have s1016 := s1013.trans (s14.trans (s15.trans s16))
    have s1316 := s14.trans (s15.trans s16)
    have D16 := s1016 _ _ D10
    refine ⟨_, rfl, _, rfl, dd, _, rfl, DPut.k (k := (Sum.inr (wd d) : Key)) D16 (by have := fits3 100 (by decide); omega), ?_⟩
    have W17 : upd H16 dd (.dK (putK kvs (Sum.inr (wd d) : Key) (.ref lq))) lw = some (.lst wds4) := by rw [upd_ne (fun z => by rw [z] at W10; rw [D10] at W10; cases W10)]; exact s1016 _ _ W10
    have C17 : upd H16 dd (.dK (putK kvs (Sum.inr (wd d) : Key) (.ref lq))) cp = some (.lst (vN cs)) := by rw [upd_ne (fun z => by rw [z] at C10; rw [D10] at C10; cases C10)]; exact s1016 _ _ C10
    have P17 : upd H16 dd (.dK (putK kvs (Sum.inr (wd d) : Key) (.ref lq))) p = some (.lst (vN ys)) := by rw [upd_ne (fun z => by rw [z] at P10; rw [D10] at P10; cases P10)]; exact s1016 _ _ P10
    have Q17 : upd H16 dd (.dK (putK kvs (Sum.inr (wd d) : Key) (.ref lq))) lq = some (.lst (vN (alw d fx t ys cs))) := by rw [upd_ne (fun z => by rw [z] at hLq'; rw [D16] at hLq'; cases hLq')]; exact hLq'
    have F17 : IsFx { fx with d := d } (upd H16 dd (.dK (putK kvs (Sum.inr (wd d) : Key) (.ref lq)))) l := by
      obtain ⟨pl, tr, h1, h2, h3⟩ := F10.same s1016
      exact ⟨pl, tr, by rw [upd_ne (fun z => by rw [z, D16] at h1; cases h1)]; exact h1, by rw [upd_ne (fun z => by rw [z, D16] at h2; cases h2)]; exact h2, by rw [upd_ne (fun z => by rw [z, D16] at h3; cases h3)]; exact h3⟩
    have G17 : IsGam CG x (tvV t) (upd H16 dd (.dK (putK kvs (Sum.inr (wd d) : Key) (.ref lq)))) gm := by
      obtain ⟨dg, h1⟩ := G13.same s1316
      exact ⟨dg, by rw [upd_ne (fun z => by rw [z, D16] at h1; cases h1)]; exact h1⟩
    have X17 : IsTab CT { fx with d := d } (upd H16 dd (.dK (putK kvs (Sum.inr (wd d) : Key) (.ref lq)))) x := by
      obtain ⟨dx, po, to, h1, h2, h3⟩ := (X12.same s13).same s1316
      exact ⟨dx, po, to, by rw [upd_ne (fun z => by rw [z, D16] at h1; cases h1)]; exact h1, by rw [upd_ne (fun z => by rw [z, D16] at h2; cases h2)]; exact h2, by rw [upd_ne (fun z => by rw [z, D16] at h3; cases h3)]; exact h3⟩
    have D17 : upd H16 dd (.dK (putK kvs (Sum.inr (wd d) : Key) (.ref lq))) dd = some (.dK (putK kvs (Sum.inr (wd d) : Key) (.ref lq))) := upd_same
    have V17 : ∀ j, j < i + 1 → ∃ r, valV (putK kvs (Sum.inr (wd d) : Key) (.ref lq)) (Sum.inr (wd (dw j)) : Key) = some (.ref r) ∧ upd H16 dd (.dK (putK kvs (Sum.inr (wd d) : Key) (.ref lq))) r = some (.lst (vN (alw (dw j) fx t ys cs))) := fun j hj => by
      rw [valV_put]
      by_cases e : (Sum.inr (wd (dw j)) : Key) = Sum.inr (wd d)
      · rw [if_pos e]
        have ej : dw j = d := by injection e with e; exact wd_inj _ _ e
        rw [ej]
        exact ⟨lq, rfl, Q17⟩
      · rw [if_neg e]
        have hj' : j < i := by
          have : j ≠ i := fun z => e (by rw [z, hd])
          omega
        obtain ⟨r, h1, h2⟩ := V10 j hj'
        have h2' := s1016 _ _ h2
        exact ⟨r, h1, by rw [upd_ne (fun z => by rw [z, D16] at h2'; cases h2')]; exact h2'⟩
    have lk17 : (putK kvs (Sum.inr (wd d) : Key) (.ref lq)).length ≤ i + 1 := Nat.le_trans (length_putK _ _ _) (by omega)
    have K17 : valV (putK kvs (Sum.inr (wd d) : Key) (.ref lq)) (Sum.inr (wd d) : Key) = some (.ref lq) := by rw [valV_put, if_pos rfl]
    revert W17 C17 P17 Q17 F17 G17 X17 D17 V17 lk17 K17
    generalize upd H16 dd (.dK (putK kvs (Sum.inr (wd d) : Key) (.ref lq))) = H17
    generalize putK kvs (Sum.inr (wd d) : Key) (.ref lq) = kvs'
    intro W17 C17 P17 Q17 F17 G17 X17 D17 V17 lk17 K17
    have DG : ∀ H', Same H17 H' → DGet H' dd (.str (wd d)) (some (.ref lq)) := fun H' sm => by
      have z := DGet.k (k := (Sum.inr (wd d) : Key)) (sm _ _ D17)
      rw [K17] at z
      exact z
    refine ⟨_, rfl, _, rfl, dd, .ref lq, rfl, DG _ (Same.refl _), fits3 0 (by decide), fun n1 hn1 => ?_⟩
    have s18 := same_upd hn1 (.lst [])
    refine ⟨lq, n1, _, rfl, rfl, SqL.of (s18 _ _ Q17), SqL.of upd_same, _, rfl, ?_⟩
    refine chg (vN_nil _) ?_
    rw [decide_eq_false (alw_ne c0)]
    refine iteF ⟨_, rfl, _, rfl, dd, .ref lq, rfl, DG _ s18, _, rfl, lq, cp, _, cs, rfl, SqL.of (s18 _ _ Q17), SqL.of (s18 _ _ C17), by have := alwL d; omega, fun c hc => (alw_sl d fx t ys cs).subset hc, fun H19 s19 => ⟨true, rfl, iteF ?_⟩⟩
    have s1719 := s18.trans s19
    exact ⟨s1719 _ _ W17, s1719 _ _ C17, s1719 _ _ P17, ⟨d, F17.same s1719⟩, ⟨kvs', s1719 _ _ D17, lk17, fun j hj => (V17 j hj).imp fun r h => ⟨h.1, s1719 _ _ h.2⟩⟩, _, _, _, _, rfl, fun _ => ⟨gm, x, d, rfl, G17.same s1719, X17.same s1719⟩⟩
  · obtain ⟨W9, C9, P9, _, ⟨kvs, D9, lk, hv9⟩, x7, x8, x9, x10, rfl, hg9⟩ := z
    obtain ⟨gm, x, dg, rfl, G9, X9⟩ := hg9 (by decide)
    obtain ⟨qb, kb, Hb⟩ := hv9 0 (by decide)
    obtain ⟨qo, ko, Ho⟩ := hv9 1 (by decide)
    obtain ⟨qf, kf, Hf⟩ := hv9 2 (by decide)
    obtain ⟨qc, kc, Hc⟩ := hv9 3 (by decide)
    have DG : ∀ d r, valV kvs (Sum.inr (wd d) : Key) = some (.ref r) → ∀ H', Same H9 H' → DGet H' dd (.str (wd d)) (some (.ref r)) := fun d r kv H' sm => by
      have z := DGet.k (k := (Sum.inr (wd d) : Key)) (sm _ _ D9)
      rw [kv] at z
      exact z
    have Db := DG 3 qb kb
    have Do := DG 1 qo ko
    have Df := DG 0 qf kf
    have Dc := DG 2 qc kc
    change H9 qf = some (.lst (vN cs)) at Hf
    change H9 qb = some (.lst (vN (alw 3 fx t ys cs))) at Hb
    change H9 qo = some (.lst (vN (alw 1 fx t ys cs))) at Ho
    change H9 qc = some (.lst (vN (alw 2 fx t ys cs))) at Hc
    clear DG kb ko kf kc hv9 hg9
    have a1 := alwL 1
    have a2 := alwL 2
    have a3 := alwL 3
    refine ⟨_, rfl, dd, .ref qf, rfl, Df _ (Same.refl _), _, rfl, qf, cp, _, _, rfl, rfl, ⟨SqL.of Hf, SqL.of C9⟩, vN_flat cs, vN_flat cs, _, rfl, ?_⟩
    refine chg (show (!eqVs (vN cs) (vN cs)) = false by rw [eqVs_vN]; rfl) ?_
    refine iteF ⟨_, rfl, dd, .ref qc, rfl, Dc _ (Same.refl _), _, rfl, dd, .ref qo, rfl, Do _ (Same.refl _), qc, qo, _, _, rfl, SqL.of Hc, SqL.of Ho, by omega, cut_in_follow fx t ys cs, fun H10 s10 => ⟨true, rfl, iteF ?_⟩⟩
    refine ⟨_, rfl, dd, .ref qb, rfl, Db _ s10, _, rfl, dd, .ref qc, rfl, Dc _ s10, qb, qc, _, _, rfl, SqL.of (s10 _ _ Hb), SqL.of (s10 _ _ Hc), by omega, beat_in_cut fx t ys cs, fun H11 s11 => ⟨true, rfl, iteF ?_⟩⟩
    have s911 := s10.trans s11
    have e0 : (((ys.getD 0 0 : Nat) : Int) / 8) = ((ledOf ys : Nat) : Int) := by unfold ledOf; omega
    refine ⟨_, rfl, cp, rfl, ⟨_, SqL.of (s911 _ _ C9)⟩, comp_list (K := K) (xs := vN cs) (folV (ledOf ys)) (fun x => x) (SqL.of (s911 _ _ C9)) (fits3 _ lc) (fun x H3 hx sm R hR => ?_) (fun x H3 hx hp sm R hR => ⟨_, rfl, hR H3 (Same.refl H3)⟩) (fun ld H12 s12 hso hL12 => ?_)⟩
    · obtain ⟨c, hc, rfl⟩ := List.mem_map.mp hx
      have r := hR H3 (Same.refl H3)
      rw [folV_nat] at r
      refine ⟨_, rfl, _, _, rfl, rfl, ⟨by decide, by decide⟩, _, rfl, p, _, _, _, rfl, rfl, SqL.of ((s911.trans sm) _ _ P9), at_vN (i := 0) y0, _, _, rfl, rfl, ⟨by decide, by decide⟩, rfl, _, rfl, ?_⟩
      have e : decide (V.int (((c : Nat) : Int) / 8) = V.int (((ys.getD 0 0 : Nat) : Int) / 8)) = decide (c / 8 = ledOf ys) := by rw [e0, show ((c : Nat) : Int) / 8 = ((c / 8 : Nat) : Int) by omega, dec_nat]
      show R (decide (V.int (((c : Nat) : Int) / 8) = V.int (((ys.getD 0 0 : Nat) : Int) / 8))) H3
      rw [e]
      exact r
    rw [folV_list] at hL12
    have s912 := s911.trans s12
    refine cut_nmS (fun b H' => Same H12 H' ∧ b = false) (fun σ H' => Same H9 H' ∧ ∃ x9, σ = [some (.ref a), some (.ref l), some (tvV t), some (.ref p), some (.ref cp), some (.int (hN cs : Nat)), some (.ref dd), x7, some (.ref gm), x9, x10]) (fun R hR => ?_) (fun H' z D' _ nx => nomatch z.2) (fun H' z D' _ nx => nx _ _ ⟨s912.trans z.1, _, rfl⟩) (fun σ H13 z => ?_)
    · refine ⟨_, rfl, dd, .ref qo, rfl, Do _ s912, _, rfl, fits3 0 (by decide), fun n1 hn1 => ?_⟩
      have s13 := same_upd hn1 (.lst [])
      refine ⟨ld, n1, _, rfl, rfl, SqL.of (s13 _ _ hL12), SqL.of upd_same, _, rfl, ?_⟩
      refine chg (congrArg (fun b => !b) (vN_nil _)) ?_
      have fin : ∀ r, upd H12 n1 (.lst []) r = some (.lst (vN (alw 1 fx t ys cs))) → rEqF K false true (.ref qo) (.ref r) (upd H12 n1 (.lst [])) fun x H' => ∃ k, x = .bl k ∧ R k H' := fun r hr' =>
        ⟨qo, r, _, _, rfl, rfl, ⟨SqL.of (s13 _ _ (s912 _ _ Ho)), SqL.of hr'⟩, vN_flat _, vN_flat _, false, (show V.bl (!eqVs (vN (alw 1 fx t ys cs)) (vN (alw 1 fx t ys cs))) = _ by rw [eqVs_vN]; rfl), hR _ _ ⟨s13, rfl⟩⟩
      by_cases c1 : folL (ledOf ys) cs = []
      · rw [decide_eq_true c1]
        have e1 : alw 1 fx t ys cs = cs := by show orL (folL (ledOf ys) cs) cs = cs; unfold orL; rw [if_pos c1]
        exact iteF ⟨_, rfl, fin cp (by rw [e1]; exact s13 _ _ (s912 _ _ C9))⟩
      · rw [decide_eq_false c1]
        have e1 : alw 1 fx t ys cs = folL (ledOf ys) cs := by show orL (folL (ledOf ys) cs) cs = _; unfold orL; rw [if_neg c1]
        exact iteT ⟨_, rfl, fin ld (by rw [e1]; exact s13 _ _ hL12)⟩
    obtain ⟨s913, x9, rfl⟩ := z
    have lc2 : (vN (alw 2 fx t ys cs)).length ≤ 1000 := by rw [vN_len]; omega
    have H13c := s913 _ _ Hc
    refine ⟨_, rfl, dd, .ref qc, rfl, Dc _ s913, qc, rfl, ⟨_, SqL.of H13c⟩, comp_list (K := K) (xs := vN (alw 2 fx t ys cs)) (tpV fx t ys) (fun x => x) (SqL.of H13c) (fits3 _ lc2) (fun y H3 hy sm R hR => ?_) (fun x H3 hx hp sm R hR => ⟨_, rfl, hR H3 (Same.refl H3)⟩) (fun ls H14 s14 hso hL14 => ?_)⟩
    · obtain ⟨c, hc, rfl⟩ := List.mem_map.mp hy
      have mc := hbc c ((alw_sl 2 fx t ys cs).subset hc)
      have r := hR
      rw [tpV_nat] at r
      have s9' := s913.trans sm
      have okd : Fx.Ok { fx with d := dg } := ⟨ok.s1, ok.s4, ok.h1, ok.h8, ok.n34, ok.pp, ok.pt⟩
      refine ⟨_, rfl, _, rfl, _, rfl, gm, x, p, t, { fx with d := dg }, ys, c, rfl, okd, G9.same s9', X9.same s9', s9' _ _ P9, ⟨nd_snoc mc.2.2 ndy, fun o ho => ?_, by rw [List.length_append]; exact Nat.succ_pos _⟩, y0, by omega, fun H4 s4 => ⟨_, rfl, r H4 s4⟩⟩
      rcases List.mem_append.mp ho with z | z
      · exact (hby o z).2
      · rw [List.mem_singleton.mp z]
        exact mc.2.1
    rw [tpV_list] at hL14
    have s914 := s913.trans s14
    refine ⟨_, rfl, dd, .ref qb, rfl, Db _ s914, _, rfl, fits3 0 (by decide), fun n1 hn1 => ?_⟩
    have s15 := same_upd hn1 (.lst [])
    have s915 := s914.trans s15
    refine ⟨ls, n1, _, rfl, rfl, SqL.of (s15 _ _ hL14), SqL.of upd_same, _, rfl, ?_⟩
    refine chg (congrArg (fun b => !b) (vN_nil _)) ?_
    have eb : alw 3 fx t ys cs = orL (topL fx t ys (alw 2 fx t ys cs)) (alw 2 fx t ys cs) := rfl
    have fin : ∀ r, upd H14 n1 (.lst []) r = some (.lst (vN (alw 3 fx t ys cs))) → rEqF K false false (.ref qb) (.ref r) (upd H14 n1 (.lst [])) Q := fun r hr' =>
      ⟨qb, r, _, _, rfl, rfl, ⟨SqL.of (s915 _ _ Hb), SqL.of hr'⟩, vN_flat _, vN_flat _, (show Q (.bl (eqVs (vN (alw 3 fx t ys cs)) (vN (alw 3 fx t ys cs)))) _ by rw [eqVs_vN]; exact q _)⟩
    by_cases c1 : topL fx t ys (alw 2 fx t ys cs) = []
    · rw [decide_eq_true c1]
      refine iteF ⟨_, rfl, dd, .ref qc, rfl, Dc _ s915, fin qc ?_⟩
      rw [eb]
      unfold orL
      rw [if_pos c1]
      exact s915 _ _ Hc
    · rw [decide_eq_false c1]
      refine iteT ⟨_, rfl, fin ls ?_⟩
      rw [eb]
      unfold orL
      rw [if_neg c1]
      exact s15 _ _ hL14
end
end My

namespace My
open PySem L2
theorem all_mk {wd dtd : Option Addr} {dtc : Value} {tw1 tw2 tw3 tw4 tw5 : Tok} {wn dtn : Nat} {wsl dts : Array (Option Value)} {l : PySem.W.OpenLaw} {w : World} {K : PySem.W.Frag} {h : Heap} {mg : Str → Option Value} {fa f1 f2 f3 f4 f5 f6 f7 f8 f9 f10 f11 f12 f13 f14 f15 f16 f17 f18 f19 f20 f21 f22 f23 f24 f25 f_F f_L f_C f_B f_AF f_AL f_AC f_AB f_I f_D f_O f_G f_S f_V f_M f_W CN CF CL CC CB CT CG aM dT : Addr} (X : K.In h) (G : h.Ns mainGlobals mg) (hfa : mg "law" = some (.ref fa))
    {od1 an1 od2 an2 od3 an3 od4 an4 od5 an5 od6 an6 od7 an7 od8 an8 od9 an9 od10 an10 od11 an11 od12 an12 od13 an13 od14 an14 od15 an15 od16 an16 od17 an17 od18 an18 od19 an19 od20 an20 od21 an21 od22 an22 od23 an23 od24 an24 od25 an25 od_F an_F od_L an_L od_C an_C od_B an_B od_AF an_AF od_AL an_AL od_AC an_AC od_AB an_AB od_I an_I od_D an_D od_O an_O od_G an_G od_S an_S od_V an_V od_M an_M od_W an_W : Option Addr} {sl1 sl2 sl3 sl4 sl5 sl6 sl7 sl8 sl9 sl10 sl11 sl12 sl13 sl14 sl15 sl16 sl17 sl18 sl19 sl20 sl21 sl22 sl23 sl24 sl25 sl_F sl_L sl_C sl_B sl_AF sl_AL sl_AC sl_AB sl_I sl_D sl_O sl_G sl_S sl_V sl_M sl_W : Array (Option Value)} {oc1 kV1 dc1 pm1 cd1 ct1 oc2 kV2 dc2 pm2 cd2 ct2 oc3 kV3 dc3 pm3 cd3 ct3 oc4 kV4 dc4 pm4 cd4 ct4 oc5 kV5 dc5 pm5 cd5 ct5 oc6 kV6 dc6 pm6 cd6 ct6 oc7 kV7 dc7 pm7 cd7 ct7 oc8 kV8 dc8 pm8 cd8 ct8 oc9 kV9 dc9 pm9 cd9 ct9 oc10 kV10 dc10 pm10 cd10 ct10 oc11 kV11 dc11 pm11 cd11 ct11 oc12 kV12 dc12 pm12 cd12 ct12 oc13 kV13 dc13 pm13 cd13 ct13 oc14 kV14 dc14 pm14 cd14 ct14 oc15 kV15 dc15 pm15 cd15 ct15 oc16 kV16 dc16 pm16 cd16 ct16 oc17 kV17 dc17 pm17 cd17 ct17 oc18 kV18 dc18 pm18 cd18 ct18 oc19 kV19 dc19 pm19 cd19 ct19 oc20 kV20 dc20 pm20 cd20 ct20 oc21 kV21 dc21 pm21 cd21 ct21 oc22 kV22 dc22 pm22 cd22 ct22 oc23 kV23 dc23 pm23 cd23 ct23 oc24 kV24 dc24 pm24 cd24 ct24 oc25 kV25 dc25 pm25 cd25 ct25 oc_F kV_F dc_F pm_F cd_F ct_F oc_L kV_L dc_L pm_L cd_L ct_L oc_C kV_C dc_C pm_C cd_C ct_C oc_B kV_B dc_B pm_B cd_B ct_B oc_AF kV_AF dc_AF pm_AF cd_AF ct_AF oc_AL kV_AL dc_AL pm_AL cd_AL ct_AL oc_AC kV_AC dc_AC pm_AC cd_AC ct_AC oc_AB kV_AB dc_AB pm_AB cd_AB ct_AB oc_I kV_I dc_I pm_I cd_I ct_I oc_D kV_D dc_D pm_D cd_D ct_D oc_O kV_O dc_O pm_O cd_O ct_O oc_G kV_G dc_G pm_G cd_G ct_G oc_S kV_S dc_S pm_S cd_S ct_S oc_V kV_V dc_V pm_V cd_V ct_V oc_M kV_M dc_M pm_M cd_M ct_M oc_W kV_W dc_W pm_W cd_W ct_W : Value} {t1 t2 t3 t4 : Tok}
    (a1 : PySem.W.nsIn K mainGlobals "duty_of" = some (some (.ref f1))) (l1 : K.lookup f1 = some ⟨oc1, od1, .func (PySem.W.fnOf "duty_of" "duty_of" (defArgs sDutyOf) (defBody sDutyOf) (defScope sDutyOf) .none kV1 dc1 pm1 an1 cd1 ct1), sl1⟩) (c1 : PySem.W.codeIn K cd1 "duty_of" = true) (k1 : PySem.W.keepIn K (.ref f1) = true)
    (a2 : PySem.W.nsIn K mainGlobals "words_behind_marks" = some (some (.ref f2))) (l2 : K.lookup f2 = some ⟨oc2, od2, .func (PySem.W.fnOf "words_behind_marks" "words_behind_marks" (defArgs sMarks) (defBody sMarks) (defScope sMarks) .none kV2 dc2 pm2 an2 cd2 ct2), sl2⟩) (c2 : PySem.W.codeIn K cd2 "words_behind_marks" = true) (k2 : PySem.W.keepIn K (.ref f2) = true)
    (a3 : PySem.W.nsIn K mainGlobals "read_size" = some (some (.ref f3))) (l3 : K.lookup f3 = some ⟨oc3, od3, .func (PySem.W.fnOf "read_size" "read_size" (defArgs sReadSize) (defBody sReadSize) (defScope sReadSize) .none kV3 dc3 pm3 an3 cd3 ct3), sl3⟩) (c3 : PySem.W.codeIn K cd3 "read_size" = true) (k3 : PySem.W.keepIn K (.ref f3) = true)
    (a4 : PySem.W.nsIn K mainGlobals "read_seats" = some (some (.ref f4))) (l4 : K.lookup f4 = some ⟨oc4, od4, .func (PySem.W.fnOf "read_seats" "read_seats" (defArgs sReadSeats) (defBody sReadSeats) (defScope sReadSeats) .none kV4 dc4 pm4 an4 cd4 ct4), sl4⟩) (c4 : PySem.W.codeIn K cd4 "read_seats" = true) (k4 : PySem.W.keepIn K (.ref f4) = true)
    (a5 : PySem.W.nsIn K mainGlobals "read_order" = some (some (.ref f5))) (l5 : K.lookup f5 = some ⟨oc5, od5, .func (PySem.W.fnOf "read_order" "read_order" (defArgs sReadOrder) (defBody sReadOrder) (defScope sReadOrder) .none kV5 dc5 pm5 an5 cd5 ct5), sl5⟩) (c5 : PySem.W.codeIn K cd5 "read_order" = true) (k5 : PySem.W.keepIn K (.ref f5) = true)
    (a6 : PySem.W.nsIn K mainGlobals "is_later" = some (some (.ref f6))) (l6 : K.lookup f6 = some ⟨oc6, od6, .func (PySem.W.fnOf "is_later" "is_later" (defArgs sLater) (defBody sLater) (defScope sLater) .none kV6 dc6 pm6 an6 cd6 ct6), sl6⟩) (c6 : PySem.W.codeIn K cd6 "is_later" = true) (k6 : PySem.W.keepIn K (.ref f6) = true)
    (a7 : PySem.W.nsIn K mainGlobals "_law_cell" = some (some (.ref f7))) (l7 : K.lookup f7 = some ⟨oc7, od7, .func (PySem.W.fnOf "_law_cell" "_law_cell" (defArgs sCell) (defBody sCell) (defScope sCell) .none kV7 dc7 pm7 an7 cd7 ct7), sl7⟩) (c7 : PySem.W.codeIn K cd7 "_law_cell" = true) (k7 : PySem.W.keepIn K (.ref f7) = true)
    (a8 : PySem.W.nsIn K mainGlobals "_law_mixed" = some (some (.ref f8))) (l8 : K.lookup f8 = some ⟨oc8, od8, .func (PySem.W.fnOf "_law_mixed" "_law_mixed" (defArgs sMixed) (defBody sMixed) (defScope sMixed) .none kV8 dc8 pm8 an8 cd8 ct8), sl8⟩) (c8 : PySem.W.codeIn K cd8 "_law_mixed" = true) (k8 : PySem.W.keepIn K (.ref f8) = true)
    (a9 : PySem.W.nsIn K mainGlobals "_law_order" = some (some (.ref f9))) (l9 : K.lookup f9 = some ⟨oc9, od9, .func (PySem.W.fnOf "_law_order" "_law_order" (defArgs sOrder) (defBody sOrder) (defScope sOrder) .none kV9 dc9 pm9 an9 cd9 ct9), sl9⟩) (c9 : PySem.W.codeIn K cd9 "_law_order" = true) (k9 : PySem.W.keepIn K (.ref f9) = true)
    (a10 : PySem.W.nsIn K mainGlobals "_law_table" = some (some (.ref f10))) (l10 : K.lookup f10 = some ⟨oc10, od10, .func (PySem.W.fnOf "_law_table" "_law_table" (defArgs sTable) (defBody sTable) (defScope sTable) .none kV10 dc10 pm10 an10 cd10 ct10), sl10⟩) (c10 : PySem.W.codeIn K cd10 "_law_table" = true) (k10 : PySem.W.keepIn K (.ref f10) = true)
    (a11 : PySem.W.nsIn K mainGlobals "_law_text" = some (some (.ref f11))) (l11 : K.lookup f11 = some ⟨oc11, od11, .func (PySem.W.fnOf "_law_text" "_law_text" (defArgs sText) (defBody sText) (defScope sText) .none kV11 dc11 pm11 an11 cd11 ct11), sl11⟩) (c11 : PySem.W.codeIn K cd11 "_law_text" = true) (k11 : PySem.W.keepIn K (.ref f11) = true)
    (a12 : PySem.W.nsIn K mainGlobals "_law_trump" = some (some (.ref f12))) (l12 : K.lookup f12 = some ⟨oc12, od12, .func (PySem.W.fnOf "_law_trump" "_law_trump" (defArgs sTrump) (defBody sTrump) (defScope sTrump) .none kV12 dc12 pm12 an12 cd12 ct12), sl12⟩) (c12 : PySem.W.codeIn K cd12 "_law_trump" = true) (k12 : PySem.W.keepIn K (.ref f12) = true)
    (a13 : PySem.W.nsIn K mainGlobals "_law_card" = some (some (.ref f13))) (l13 : K.lookup f13 = some ⟨oc13, od13, .func (PySem.W.fnOf "_law_card" "_law_card" (defArgs sCard) (defBody sCard) (defScope sCard) .none kV13 dc13 pm13 an13 cd13 ct13), sl13⟩) (c13 : PySem.W.codeIn K cd13 "_law_card" = true) (k13 : PySem.W.keepIn K (.ref f13) = true)
    (a14 : PySem.W.nsIn K mainGlobals "_law_trick" = some (some (.ref f14))) (l14 : K.lookup f14 = some ⟨oc14, od14, .func (PySem.W.fnOf "_law_trick" "_law_trick" (defArgs sTrick) (defBody sTrick) (defScope sTrick) .none kV14 dc14 pm14 an14 cd14 ct14), sl14⟩) (c14 : PySem.W.codeIn K cd14 "_law_trick" = true) (k14 : PySem.W.keepIn K (.ref f14) = true)
    (a15 : PySem.W.nsIn K mainGlobals "_law_bit" = some (some (.ref f15))) (l15 : K.lookup f15 = some ⟨oc15, od15, .func (PySem.W.fnOf "_law_bit" "_law_bit" (defArgs sBit) (defBody sBit) (defScope sBit) .none kV15 dc15 pm15 an15 cd15 ct15), sl15⟩) (c15 : PySem.W.codeIn K cd15 "_law_bit" = true) (k15 : PySem.W.keepIn K (.ref f15) = true)
    (a16 : PySem.W.nsIn K mainGlobals "_law_cards" = some (some (.ref f16))) (l16 : K.lookup f16 = some ⟨oc16, od16, .func (PySem.W.fnOf "_law_cards" "_law_cards" (defArgs sCards) (defBody sCards) (defScope sCards) .none kV16 dc16 pm16 an16 cd16 ct16), sl16⟩) (c16 : PySem.W.codeIn K cd16 "_law_cards" = true) (k16 : PySem.W.keepIn K (.ref f16) = true)
    (a17 : PySem.W.nsIn K mainGlobals "_law_in" = some (some (.ref f17))) (l17 : K.lookup f17 = some ⟨oc17, od17, .func (PySem.W.fnOf "_law_in" "_law_in" (defArgs sLIn) (defBody sLIn) (defScope sLIn) .none kV17 dc17 pm17 an17 cd17 ct17), sl17⟩) (c17 : PySem.W.codeIn K cd17 "_law_in" = true) (k17 : PySem.W.keepIn K (.ref f17) = true)
    (a18 : PySem.W.nsIn K mainGlobals "_law_wins" = some (some (.ref f18))) (l18 : K.lookup f18 = some ⟨oc18, od18, .func (PySem.W.fnOf "_law_wins" "_law_wins" (defArgs sWins) (defBody sWins) (defScope sWins) .none kV18 dc18 pm18 an18 cd18 ct18), sl18⟩) (c18 : PySem.W.codeIn K cd18 "_law_wins" = true) (k18 : PySem.W.keepIn K (.ref f18) = true)
    (a19 : PySem.W.nsIn K mainGlobals "cards_in" = some (some (.ref f19))) (l19 : K.lookup f19 = some ⟨oc19, od19, .func (PySem.W.fnOf "cards_in" "cards_in" (defArgs sCardsIn) (defBody sCardsIn) (defScope sCardsIn) .none kV19 dc19 pm19 an19 cd19 ct19), sl19⟩) (c19 : PySem.W.codeIn K cd19 "cards_in" = true) (k19 : PySem.W.keepIn K (.ref f19) = true)
    (a20 : PySem.W.nsIn K mainGlobals "hand_of" = some (some (.ref f20))) (l20 : K.lookup f20 = some ⟨oc20, od20, .func (PySem.W.fnOf "hand_of" "hand_of" (defArgs sHandOf) (defBody sHandOf) (defScope sHandOf) .none kV20 dc20 pm20 an20 cd20 ct20), sl20⟩) (c20 : PySem.W.codeIn K cd20 "hand_of" = true) (k20 : PySem.W.keepIn K (.ref f20) = true)
    (a21 : PySem.W.nsIn K mainGlobals "of_suit" = some (some (.ref f21))) (l21 : K.lookup f21 = some ⟨oc21, od21, .func (PySem.W.fnOf "of_suit" "of_suit" (defArgs sOfSuit) (defBody sOfSuit) (defScope sOfSuit) .none kV21 dc21 pm21 an21 cd21 ct21), sl21⟩) (c21 : PySem.W.codeIn K cd21 "of_suit" = true) (k21 : PySem.W.keepIn K (.ref f21) = true)
    (a22 : PySem.W.nsIn K mainGlobals "of_led_suit" = some (some (.ref f22))) (l22 : K.lookup f22 = some ⟨oc22, od22, .func (PySem.W.fnOf "of_led_suit" "of_led_suit" (defArgs sLedSuit) (defBody sLedSuit) (defScope sLedSuit) .none kV22 dc22 pm22 an22 cd22 ct22), sl22⟩) (c22 : PySem.W.codeIn K cd22 "of_led_suit" = true) (k22 : PySem.W.keepIn K (.ref f22) = true)
    (a23 : PySem.W.nsIn K mainGlobals "followed_or_cut" = some (some (.ref f23))) (l23 : K.lookup f23 = some ⟨oc23, od23, .func (PySem.W.fnOf "followed_or_cut" "followed_or_cut" (defArgs sFoc) (defBody sFoc) (defScope sFoc) .none kV23 dc23 pm23 an23 cd23 ct23), sl23⟩) (c23 : PySem.W.codeIn K cd23 "followed_or_cut" = true) (k23 : PySem.W.keepIn K (.ref f23) = true)
    (a24 : PySem.W.nsIn K mainGlobals "goes_over_all" = some (some (.ref f24))) (l24 : K.lookup f24 = some ⟨oc24, od24, .func (PySem.W.fnOf "goes_over_all" "goes_over_all" (defArgs sGoesAll) (defBody sGoesAll) (defScope sGoesAll) .none kV24 dc24 pm24 an24 cd24 ct24), sl24⟩) (c24 : PySem.W.codeIn K cd24 "goes_over_all" = true) (k24 : PySem.W.keepIn K (.ref f24) = true)
    (a25 : PySem.W.nsIn K mainGlobals "law" = some (some (.ref f25))) (l25 : K.lookup f25 = some ⟨oc25, od25, .func (PySem.W.fnOf "law" "law" (defArgs sLaw) (defBody sLaw) (defScope sLaw) .none kV25 dc25 pm25 an25 cd25 ct25), sl25⟩) (c25 : PySem.W.codeIn K cd25 "law" = true) (k25 : PySem.W.keepIn K (.ref f25) = true)
    (a_F : PySem.W.findIn K (.ref CF) "word" = some (some (.ref f_F))) (l_F : K.lookup f_F = some ⟨oc_F, od_F, .func (PySem.W.fnOf "word" "Free.word" (defArgs sFreeWord) (defBody sFreeWord) (defScope sFreeWord) .none kV_F dc_F pm_F an_F cd_F ct_F), sl_F⟩) (c_F : PySem.W.codeIn K cd_F "Free.word" = true) (k_F : PySem.W.keepIn K (.ref f_F) = true)
    (i_F : PySem.W.isFn K (.ref f_F) = true)
    (a_L : PySem.W.findIn K (.ref CL) "word" = some (some (.ref f_L))) (l_L : K.lookup f_L = some ⟨oc_L, od_L, .func (PySem.W.fnOf "word" "Follow.word" (defArgs sFollowWord) (defBody sFollowWord) (defScope sFollowWord) .none kV_L dc_L pm_L an_L cd_L ct_L), sl_L⟩) (c_L : PySem.W.codeIn K cd_L "Follow.word" = true) (k_L : PySem.W.keepIn K (.ref f_L) = true)
    (i_L : PySem.W.isFn K (.ref f_L) = true)
    (a_C : PySem.W.findIn K (.ref CC) "word" = some (some (.ref f_C))) (l_C : K.lookup f_C = some ⟨oc_C, od_C, .func (PySem.W.fnOf "word" "Cut.word" (defArgs sCutWord) (defBody sCutWord) (defScope sCutWord) .none kV_C dc_C pm_C an_C cd_C ct_C), sl_C⟩) (c_C : PySem.W.codeIn K cd_C "Cut.word" = true) (k_C : PySem.W.keepIn K (.ref f_C) = true)
    (i_C : PySem.W.isFn K (.ref f_C) = true)
    (a_B : PySem.W.findIn K (.ref CB) "word" = some (some (.ref f_B))) (l_B : K.lookup f_B = some ⟨oc_B, od_B, .func (PySem.W.fnOf "word" "Beat.word" (defArgs sBeatWord) (defBody sBeatWord) (defScope sBeatWord) .none kV_B dc_B pm_B an_B cd_B ct_B), sl_B⟩) (c_B : PySem.W.codeIn K cd_B "Beat.word" = true) (k_B : PySem.W.keepIn K (.ref f_B) = true)
    (i_B : PySem.W.isFn K (.ref f_B) = true)
    (a_AF : PySem.W.findIn K (.ref CF) "allowed" = some (some (.ref f_AF))) (l_AF : K.lookup f_AF = some ⟨oc_AF, od_AF, .func (PySem.W.fnOf "allowed" "Free.allowed" (defArgs sFreeAl) (defBody sFreeAl) (defScope sFreeAl) .none kV_AF dc_AF pm_AF an_AF cd_AF ct_AF), sl_AF⟩) (c_AF : PySem.W.codeIn K cd_AF "Free.allowed" = true) (k_AF : PySem.W.keepIn K (.ref f_AF) = true)
    (i_AF : PySem.W.isFn K (.ref f_AF) = true)
    (a_AL : PySem.W.findIn K (.ref CL) "allowed" = some (some (.ref f_AL))) (l_AL : K.lookup f_AL = some ⟨oc_AL, od_AL, .func (PySem.W.fnOf "allowed" "Follow.allowed" (defArgs sFollowAl) (defBody sFollowAl) (defScope sFollowAl) .none kV_AL dc_AL pm_AL an_AL cd_AL ct_AL), sl_AL⟩) (c_AL : PySem.W.codeIn K cd_AL "Follow.allowed" = true) (k_AL : PySem.W.keepIn K (.ref f_AL) = true)
    (i_AL : PySem.W.isFn K (.ref f_AL) = true)
    (a_AC : PySem.W.findIn K (.ref CC) "allowed" = some (some (.ref f_AC))) (l_AC : K.lookup f_AC = some ⟨oc_AC, od_AC, .func (PySem.W.fnOf "allowed" "Cut.allowed" (defArgs sCutAl) (defBody sCutAl) (defScope sCutAl) .none kV_AC dc_AC pm_AC an_AC cd_AC ct_AC), sl_AC⟩) (c_AC : PySem.W.codeIn K cd_AC "Cut.allowed" = true) (k_AC : PySem.W.keepIn K (.ref f_AC) = true)
    (i_AC : PySem.W.isFn K (.ref f_AC) = true)
    (a_AB : PySem.W.findIn K (.ref CB) "allowed" = some (some (.ref f_AB))) (l_AB : K.lookup f_AB = some ⟨oc_AB, od_AB, .func (PySem.W.fnOf "allowed" "Beat.allowed" (defArgs sBeatAl) (defBody sBeatAl) (defScope sBeatAl) .none kV_AB dc_AB pm_AB an_AB cd_AB ct_AB), sl_AB⟩) (c_AB : PySem.W.codeIn K cd_AB "Beat.allowed" = true) (k_AB : PySem.W.keepIn K (.ref f_AB) = true)
    (i_AB : PySem.W.isFn K (.ref f_AB) = true)
    (a_I : PySem.W.findIn K (.ref CT) "__init__" = some (some (.ref f_I))) (l_I : K.lookup f_I = some ⟨oc_I, od_I, .func (PySem.W.fnOf "__init__" "Table.__init__" (defArgs sTabInit) (defBody sTabInit) (defScope sTabInit) .none kV_I dc_I pm_I an_I cd_I ct_I), sl_I⟩) (c_I : PySem.W.codeIn K cd_I "Table.__init__" = true) (k_I : PySem.W.keepIn K (.ref f_I) = true)
    (i_I : PySem.W.isFn K (.ref f_I) = true)
    (a_D : PySem.W.findIn K (.ref CT) "duty" = some (some (.ref f_D))) (l_D : K.lookup f_D = some ⟨oc_D, od_D, .func (PySem.W.fnOf "duty" "Table.duty" (defArgs sTabDuty) (defBody sTabDuty) (defScope sTabDuty) .none kV_D dc_D pm_D an_D cd_D ct_D), sl_D⟩) (c_D : PySem.W.codeIn K cd_D "Table.duty" = true) (k_D : PySem.W.keepIn K (.ref f_D) = true)
    (i_D : PySem.W.isFn K (.ref f_D) = true)
    (a_O : PySem.W.findIn K (.ref CT) "order" = some (some (.ref f_O))) (l_O : K.lookup f_O = some ⟨oc_O, od_O, .func (PySem.W.fnOf "order" "Table.order" (defArgs sTabOrder) (defBody sTabOrder) (defScope sTabOrder) .none kV_O dc_O pm_O an_O cd_O ct_O), sl_O⟩) (c_O : PySem.W.codeIn K cd_O "Table.order" = true) (k_O : PySem.W.keepIn K (.ref f_O) = true)
    (i_O : PySem.W.isFn K (.ref f_O) = true)
    (a_G : PySem.W.findIn K (.ref CG) "__init__" = some (some (.ref f_G))) (l_G : K.lookup f_G = some ⟨oc_G, od_G, .func (PySem.W.fnOf "__init__" "Game.__init__" (defArgs sGamInit) (defBody sGamInit) (defScope sGamInit) (.ref dT) kV_G dc_G pm_G an_G cd_G ct_G), sl_G⟩) (c_G : PySem.W.codeIn K cd_G "Game.__init__" = true) (k_G : PySem.W.keepIn K (.ref f_G) = true)
    (i_G : PySem.W.isFn K (.ref f_G) = true)
    (a_S : PySem.W.findIn K (.ref CG) "is_stronger" = some (some (.ref f_S))) (l_S : K.lookup f_S = some ⟨oc_S, od_S, .func (PySem.W.fnOf "is_stronger" "Game.is_stronger" (defArgs sStronger) (defBody sStronger) (defScope sStronger) .none kV_S dc_S pm_S an_S cd_S ct_S), sl_S⟩) (c_S : PySem.W.codeIn K cd_S "Game.is_stronger" = true) (k_S : PySem.W.keepIn K (.ref f_S) = true)
    (i_S : PySem.W.isFn K (.ref f_S) = true)
    (a_V : PySem.W.findIn K (.ref CG) "is_over" = some (some (.ref f_V))) (l_V : K.lookup f_V = some ⟨oc_V, od_V, .func (PySem.W.fnOf "is_over" "Game.is_over" (defArgs sOver) (defBody sOver) (defScope sOver) .none kV_V dc_V pm_V an_V cd_V ct_V), sl_V⟩) (c_V : PySem.W.codeIn K cd_V "Game.is_over" = true) (k_V : PySem.W.keepIn K (.ref f_V) = true)
    (i_V : PySem.W.isFn K (.ref f_V) = true)
    (a_M : PySem.W.findIn K (.ref CG) "may" = some (some (.ref f_M))) (l_M : K.lookup f_M = some ⟨oc_M, od_M, .func (PySem.W.fnOf "may" "Game.may" (defArgs sMay) (defBody sMay) (defScope sMay) .none kV_M dc_M pm_M an_M cd_M ct_M), sl_M⟩) (c_M : PySem.W.codeIn K cd_M "Game.may" = true) (k_M : PySem.W.keepIn K (.ref f_M) = true)
    (i_M : PySem.W.isFn K (.ref f_M) = true)
    (a_W : PySem.W.findIn K (.ref CG) "winner" = some (some (.ref f_W))) (l_W : K.lookup f_W = some ⟨oc_W, od_W, .func (PySem.W.fnOf "winner" "Game.winner" (defArgs sWinner) (defBody sWinner) (defScope sWinner) .none kV_W dc_W pm_W an_W cd_W ct_W), sl_W⟩) (c_W : PySem.W.codeIn K cd_W "Game.winner" = true) (k_W : PySem.W.keepIn K (.ref f_W) = true)
    (i_W : PySem.W.isFn K (.ref f_W) = true)
    (g1 : PySem.W.nsIn K mainGlobals "HEIGHTS" = some (some (.int 8 t1)))
    (g2 : PySem.W.nsIn K mainGlobals "LETTERS" = some (some (.str "abcd" t2)))
    (g3 : PySem.W.nsIn K mainGlobals "FIGURES" = some (some (.str "12345678" t3)))
    (g4 : PySem.W.nsIn K mainGlobals "LOWEST_SUIT" = some (some (.int 255 t4)))
    (z1 : PySem.W.nsIn K mainGlobals "len" = some none)
    (z2 : PySem.W.nsIn K mainGlobals "range" = some none)
    (z3 : PySem.W.nsIn K mainGlobals "isinstance" = some none)
    (z4 : PySem.W.nsIn K mainGlobals "int" = some none)
    (z5 : PySem.W.nsIn K mainGlobals "str" = some none)
    (z6 : PySem.W.nsIn K mainGlobals "list" = some none)
    (z7 : PySem.W.nsIn K mainGlobals "tuple" = some none)
    (z8 : PySem.W.nsIn K mainGlobals "sorted" = some none)
    (z9 : PySem.W.nsIn K mainGlobals "sum" = some none)
    (z10 : PySem.W.nsIn K mainGlobals "all" = some none)
    (z11 : PySem.W.nsIn K mainGlobals "enumerate" = some none)
    (hCN : PySem.W.nsIn K mainGlobals "NoTable" = some (some (.ref CN)))
    (hCF : PySem.W.nsIn K mainGlobals "Free" = some (some (.ref CF)))
    (hCL : PySem.W.nsIn K mainGlobals "Follow" = some (some (.ref CL)))
    (hCC : PySem.W.nsIn K mainGlobals "Cut" = some (some (.ref CC)))
    (hCB : PySem.W.nsIn K mainGlobals "Beat" = some (some (.ref CB)))
    (hCT : PySem.W.nsIn K mainGlobals "Table" = some (some (.ref CT)))
    (hCG : PySem.W.nsIn K mainGlobals "Game" = some (some (.ref CG)))
    (x1 : PySem.W.excIn K CN veTail "ValueError.__new__" = true)
    (pgCF : PySem.W.plainGet K CF Str.empty = true)
    (hdCF : PySem.W.hasDictIn K CF = true)
    (poCF : PySem.W.plainOver K CF = true)
    (saCF : PySem.W.findIn K (.ref CF) "__setattr__" = some (some (.builtin "object.__setattr__")))
    (mkCF : PySem.W.makesIn K CF = true)
    (kcCF : PySem.W.keepIn K (.ref CF) = true)
    (oiCF : PySem.W.findIn K (.ref CF) "__init__" = some (some (.builtin "object.__init__")))
    (pgCL : PySem.W.plainGet K CL Str.empty = true)
    (hdCL : PySem.W.hasDictIn K CL = true)
    (poCL : PySem.W.plainOver K CL = true)
    (saCL : PySem.W.findIn K (.ref CL) "__setattr__" = some (some (.builtin "object.__setattr__")))
    (mkCL : PySem.W.makesIn K CL = true)
    (kcCL : PySem.W.keepIn K (.ref CL) = true)
    (oiCL : PySem.W.findIn K (.ref CL) "__init__" = some (some (.builtin "object.__init__")))
    (pgCC : PySem.W.plainGet K CC Str.empty = true)
    (hdCC : PySem.W.hasDictIn K CC = true)
    (poCC : PySem.W.plainOver K CC = true)
    (saCC : PySem.W.findIn K (.ref CC) "__setattr__" = some (some (.builtin "object.__setattr__")))
    (mkCC : PySem.W.makesIn K CC = true)
    (kcCC : PySem.W.keepIn K (.ref CC) = true)
    (oiCC : PySem.W.findIn K (.ref CC) "__init__" = some (some (.builtin "object.__init__")))
    (pgCB : PySem.W.plainGet K CB Str.empty = true)
    (hdCB : PySem.W.hasDictIn K CB = true)
    (poCB : PySem.W.plainOver K CB = true)
    (saCB : PySem.W.findIn K (.ref CB) "__setattr__" = some (some (.builtin "object.__setattr__")))
    (mkCB : PySem.W.makesIn K CB = true)
    (kcCB : PySem.W.keepIn K (.ref CB) = true)
    (oiCB : PySem.W.findIn K (.ref CB) "__init__" = some (some (.builtin "object.__init__")))
    (pgCT : PySem.W.plainGet K CT Str.empty = true)
    (hdCT : PySem.W.hasDictIn K CT = true)
    (poCT : PySem.W.plainOver K CT = true)
    (saCT : PySem.W.findIn K (.ref CT) "__setattr__" = some (some (.builtin "object.__setattr__")))
    (mkCT : PySem.W.makesIn K CT = true)
    (kcCT : PySem.W.keepIn K (.ref CT) = true)
    (pgCG : PySem.W.plainGet K CG Str.empty = true)
    (hdCG : PySem.W.hasDictIn K CG = true)
    (poCG : PySem.W.plainOver K CG = true)
    (saCG : PySem.W.findIn K (.ref CG) "__setattr__" = some (some (.builtin "object.__setattr__")))
    (mkCG : PySem.W.makesIn K CG = true)
    (kcCG : PySem.W.keepIn K (.ref CG) = true)
    (nTS : PySem.W.findIn K (.ref CT) "suits" = some none)
    (nTH : PySem.W.findIn K (.ref CT) "heights" = some none)
    (nTN : PySem.W.findIn K (.ref CT) "seats" = some none)
    (nTD : PySem.W.findIn K (.ref CT) "duty_word" = some none)
    (nTP : PySem.W.findIn K (.ref CT) "plain_order" = some none)
    (nTT : PySem.W.findIn K (.ref CT) "trump_order" = some none)
    (nTW : PySem.W.findIn K (.ref CT) "written" = some none)
    (nGT : PySem.W.findIn K (.ref CG) "table" = some none)
    (nGU : PySem.W.findIn K (.ref CG) "trump" = some none)
    (w1 : PySem.W.nsIn K mainGlobals "MARKS" = some (some (.ref aM)))
    (w2 : K.lookup aM = some ⟨.type "tuple", wd, .seq #[.str "pack" tw1, .str "seats" tw2, .str "duty" tw3, .str "plain" tw4, .str "trump" tw5] wn, wsl⟩)
    (w3 : K.lookup dT = some ⟨dtc, dtd, .seq #[.none] dtn, dts⟩)
    : ∃ fd : FuncData, (∀ (s : Shared) (v : Value), BindsTo s fd ⟨[v], []⟩ [("_law_script", v)]) ∧ ∀ base : Heap, K.In base → base.Ns mainGlobals mg → FnOk l.prog w K mg base CX0 20 fa fd ["_law_script"] (spLaw K) := by
  have e := hfa.symm.trans (PySem.W.mg_of X G a25)
  cases e
  have F1 := fun_mk (st := sDutyOf) l1 c1 k1
  have b1 := F1.binds (ps := ["word"]) fun _ _ _ _ _ _ us hl => match us, hl with | [_], _ => rfl
  have m1 := PySem.W.mg_of X G a1
  have F2 := fun_mk (st := sMarks) l2 c2 k2
  have b2 := F2.binds (ps := ["text"]) fun _ _ _ _ _ _ us hl => match us, hl with | [_], _ => rfl
  have m2 := PySem.W.mg_of X G a2
  have F3 := fun_mk (st := sReadSize) l3 c3 k3
  have b3 := F3.binds (ps := ["word"]) fun _ _ _ _ _ _ us hl => match us, hl with | [_], _ => rfl
  have m3 := PySem.W.mg_of X G a3
  have F4 := fun_mk (st := sReadSeats) l4 c4 k4
  have b4 := F4.binds (ps := ["word"]) fun _ _ _ _ _ _ us hl => match us, hl with | [_], _ => rfl
  have m4 := PySem.W.mg_of X G a4
  have F5 := fun_mk (st := sReadOrder) l5 c5 k5
  have b5 := F5.binds (ps := ["word", "heights"]) fun _ _ _ _ _ _ us hl => match us, hl with | [_, _], _ => rfl
  have m5 := PySem.W.mg_of X G a5
  have F6 := fun_mk (st := sLater) l6 c6 k6
  have b6 := F6.binds (ps := ["order", "height", "other"]) fun _ _ _ _ _ _ us hl => match us, hl with | [_, _, _], _ => rfl
  have m6 := PySem.W.mg_of X G a6
  have F7 := fun_mk (st := sCell) l7 c7 k7
  have b7 := F7.binds (ps := pCell) fun _ _ _ _ _ _ us hl => match us, hl with | [_, _], _ => rfl
  have m7 := PySem.W.mg_of X G a7
  have F8 := fun_mk (st := sMixed) l8 c8 k8
  have b8 := F8.binds (ps := ["_law_cell_here", "_law_k"]) fun _ _ _ _ _ _ us hl => match us, hl with | [_, _], _ => rfl
  have m8 := PySem.W.mg_of X G a8
  have F9 := fun_mk (st := sOrder) l9 c9 k9
  have b9 := F9.binds (ps := ["_law_cell_here", "_law_heights"]) fun _ _ _ _ _ _ us hl => match us, hl with | [_, _], _ => rfl
  have m9 := PySem.W.mg_of X G a9
  have F10 := fun_mk (st := sTable) l10 c10 k10
  have b10 := F10.binds (ps := ["_law_script"]) fun _ _ _ _ _ _ us hl => match us, hl with | [_], _ => rfl
  have m10 := PySem.W.mg_of X G a10
  have F11 := fun_mk (st := sText) l11 c11 k11
  have b11 := F11.binds (ps := ["_law_facts"]) fun _ _ _ _ _ _ us hl => match us, hl with | [_], _ => rfl
  have m11 := PySem.W.mg_of X G a11
  have F12 := fun_mk (st := sTrump) l12 c12 k12
  have b12 := F12.binds (ps := ["_law_script", "_law_facts"]) fun _ _ _ _ _ _ us hl => match us, hl with | [_, _], _ => rfl
  have m12 := PySem.W.mg_of X G a12
  have F13 := fun_mk (st := sCard) l13 c13 k13
  have b13 := F13.binds (ps := ["_law_cell_here", "_law_facts"]) fun _ _ _ _ _ _ us hl => match us, hl with | [_, _], _ => rfl
  have m13 := PySem.W.mg_of X G a13
  have F14 := fun_mk (st := sTrick) l14 c14 k14
  have b14 := F14.binds (ps := pTrick) fun _ _ _ _ _ _ us hl => match us, hl with | [_, _, _, _], _ => rfl
  have m14 := PySem.W.mg_of X G a14
  have F15 := fun_mk (st := sBit) l15 c15 k15
  have b15 := F15.binds (ps := ["_law_card_here"]) fun _ _ _ _ _ _ us hl => match us, hl with | [_], _ => rfl
  have m15 := PySem.W.mg_of X G a15
  have F16 := fun_mk (st := sCards) l16 c16 k16
  have b16 := F16.binds (ps := pLCards) fun _ _ _ _ _ _ us hl => match us, hl with | [_, _, _, _], _ => rfl
  have m16 := PySem.W.mg_of X G a16
  have F17 := fun_mk (st := sLIn) l17 c17 k17
  have b17 := F17.binds (ps := pIn) fun _ _ _ _ _ _ us hl => match us, hl with | [_, _], _ => rfl
  have m17 := PySem.W.mg_of X G a17
  have F18 := fun_mk (st := sWins) l18 c18 k18
  have b18 := F18.binds (ps := pWins) fun _ _ _ _ _ _ us hl => match us, hl with | [_, _, _], _ => rfl
  have m18 := PySem.W.mg_of X G a18
  have F19 := fun_mk (st := sCardsIn) l19 c19 k19
  have b19 := F19.binds (ps := ["hand"]) fun _ _ _ _ _ _ us hl => match us, hl with | [_], _ => rfl
  have m19 := PySem.W.mg_of X G a19
  have F20 := fun_mk (st := sHandOf) l20 c20 k20
  have b20 := F20.binds (ps := ["cards"]) fun _ _ _ _ _ _ us hl => match us, hl with | [_], _ => rfl
  have m20 := PySem.W.mg_of X G a20
  have F21 := fun_mk (st := sOfSuit) l21 c21 k21
  have b21 := F21.binds (ps := ["hand", "suit"]) fun _ _ _ _ _ _ us hl => match us, hl with | [_, _], _ => rfl
  have m21 := PySem.W.mg_of X G a21
  have F22 := fun_mk (st := sLedSuit) l22 c22 k22
  have b22 := F22.binds (ps := ["hand", "trick"]) fun _ _ _ _ _ _ us hl => match us, hl with | [_, _], _ => rfl
  have m22 := PySem.W.mg_of X G a22
  have F23 := fun_mk (st := sFoc) l23 c23 k23
  have b23 := F23.binds (ps := ["game", "hand", "trick"]) fun _ _ _ _ _ _ us hl => match us, hl with | [_, _, _], _ => rfl
  have m23 := PySem.W.mg_of X G a23
  have F24 := fun_mk (st := sGoesAll) l24 c24 k24
  have b24 := F24.binds (ps := ["game", "card", "trick"]) fun _ _ _ _ _ _ us hl => match us, hl with | [_, _, _], _ => rfl
  have m24 := PySem.W.mg_of X G a24
  have F25 := fun_mk (st := sLaw) l25 c25 k25
  have m25 := PySem.W.mg_of X G a25
  have F_F := fun_mk (st := sFreeWord) l_F c_F k_F
  have b_F := F_F.binds (ps := ["self"]) fun _ _ _ _ _ _ us hl => match us, hl with | [_], _ => rfl
  have m_F : Meth K CF "word" f_F := ⟨a_F, i_F, k_F⟩
  have F_L := fun_mk (st := sFollowWord) l_L c_L k_L
  have b_L := F_L.binds (ps := ["self"]) fun _ _ _ _ _ _ us hl => match us, hl with | [_], _ => rfl
  have m_L : Meth K CL "word" f_L := ⟨a_L, i_L, k_L⟩
  have F_C := fun_mk (st := sCutWord) l_C c_C k_C
  have b_C := F_C.binds (ps := ["self"]) fun _ _ _ _ _ _ us hl => match us, hl with | [_], _ => rfl
  have m_C : Meth K CC "word" f_C := ⟨a_C, i_C, k_C⟩
  have F_B := fun_mk (st := sBeatWord) l_B c_B k_B
  have b_B := F_B.binds (ps := ["self"]) fun _ _ _ _ _ _ us hl => match us, hl with | [_], _ => rfl
  have m_B : Meth K CB "word" f_B := ⟨a_B, i_B, k_B⟩
  have F_AF := fun_mk (st := sFreeAl) l_AF c_AF k_AF
  have b_AF := F_AF.binds (ps := pAl) fun _ _ _ _ _ _ us hl => match us, hl with | [_, _, _, _], _ => rfl
  have m_AF : Meth K CF "allowed" f_AF := ⟨a_AF, i_AF, k_AF⟩
  have F_AL := fun_mk (st := sFollowAl) l_AL c_AL k_AL
  have b_AL := F_AL.binds (ps := pAl) fun _ _ _ _ _ _ us hl => match us, hl with | [_, _, _, _], _ => rfl
  have m_AL : Meth K CL "allowed" f_AL := ⟨a_AL, i_AL, k_AL⟩
  have F_AC := fun_mk (st := sCutAl) l_AC c_AC k_AC
  have b_AC := F_AC.binds (ps := pAl) fun _ _ _ _ _ _ us hl => match us, hl with | [_, _, _, _], _ => rfl
  have m_AC : Meth K CC "allowed" f_AC := ⟨a_AC, i_AC, k_AC⟩
  have F_AB := fun_mk (st := sBeatAl) l_AB c_AB k_AB
  have b_AB := F_AB.binds (ps := pAl) fun _ _ _ _ _ _ us hl => match us, hl with | [_, _, _, _], _ => rfl
  have m_AB : Meth K CB "allowed" f_AB := ⟨a_AB, i_AB, k_AB⟩
  have F_I := fun_mk (st := sTabInit) l_I c_I k_I
  have b_I := F_I.binds (ps := ["self", "text"]) fun _ _ _ _ _ _ us hl => match us, hl with | [_, _], _ => rfl
  have m_I : Meth K CT "__init__" f_I := ⟨a_I, i_I, k_I⟩
  have F_D := fun_mk (st := sTabDuty) l_D c_D k_D
  have b_D := F_D.binds (ps := ["self"]) fun _ _ _ _ _ _ us hl => match us, hl with | [_], _ => rfl
  have m_D : Meth K CT "duty" f_D := ⟨a_D, i_D, k_D⟩
  have F_O := fun_mk (st := sTabOrder) l_O c_O k_O
  have b_O := F_O.binds (ps := ["self", "is_trump"]) fun _ _ _ _ _ _ us hl => match us, hl with | [_, _], _ => rfl
  have m_O : Meth K CT "order" f_O := ⟨a_O, i_O, k_O⟩
  have F_G := funD_mk (st := sGamInit) l_G c_G k_G
  have m_G : Meth K CG "__init__" f_G := ⟨a_G, i_G, k_G⟩
  have F_S := fun_mk (st := sStronger) l_S c_S k_S
  have b_S := F_S.binds (ps := ["self", "card", "other"]) fun _ _ _ _ _ _ us hl => match us, hl with | [_, _, _], _ => rfl
  have m_S : Meth K CG "is_stronger" f_S := ⟨a_S, i_S, k_S⟩
  have F_V := fun_mk (st := sOver) l_V c_V k_V
  have b_V := F_V.binds (ps := pOver) fun _ _ _ _ _ _ us hl => match us, hl with | [_, _, _, _], _ => rfl
  have m_V : Meth K CG "is_over" f_V := ⟨a_V, i_V, k_V⟩
  have F_M := fun_mk (st := sMay) l_M c_M k_M
  have b_M := F_M.binds (ps := ["self", "hand", "trick"]) fun _ _ _ _ _ _ us hl => match us, hl with | [_, _, _], _ => rfl
  have m_M : Meth K CG "may" f_M := ⟨a_M, i_M, k_M⟩
  have F_W := fun_mk (st := sWinner) l_W c_W k_W
  have b_W := F_W.binds (ps := ["self", "trick"]) fun _ _ _ _ _ _ us hl => match us, hl with | [_, _], _ => rfl
  have m_W : Meth K CG "winner" f_W := ⟨a_W, i_W, k_W⟩
  have mg1 := PySem.W.mg_of X G g1
  have mg2 := PySem.W.mg_of X G g2
  have mg3 := PySem.W.mg_of X G g3
  have mg4 := PySem.W.mg_of X G g4
  have mn_len := PySem.W.mg_none_of X G z1
  have mn_range := PySem.W.mg_none_of X G z2
  have mn_isinstance := PySem.W.mg_none_of X G z3
  have mn_int := PySem.W.mg_none_of X G z4
  have mn_str := PySem.W.mg_none_of X G z5
  have mn_list := PySem.W.mg_none_of X G z6
  have mn_tuple := PySem.W.mg_none_of X G z7
  have mn_sorted := PySem.W.mg_none_of X G z8
  have mn_sum := PySem.W.mg_none_of X G z9
  have mn_all := PySem.W.mg_none_of X G z10
  have mn_enumerate := PySem.W.mg_none_of X G z11
  refine ⟨PySem.W.fnOf "law" "law" (defArgs sLaw) (defBody sLaw) (defScope sLaw) .none kV25 dc25 pm25 an25 cd25 ct25, fun s v => .of_eq rfl, fun base _ _ => ?_⟩
  let cs : Fin 4 → Addr := p4 CF CL CC CB
  let fw : Fin 4 → Addr := p4 f_F f_L f_C f_B
  let fl : Fin 4 → Addr := p4 f_AF f_AL f_AC f_AB
  have mN := PySem.W.mg_of X G hCN
  have D : DutyC K mg cs CN := ⟨PySem.W.mg_of X G hCF, PySem.W.mg_of X G hCL, PySem.W.mg_of X G hCC, PySem.W.mg_of X G hCB, fun i => match i with | 0 => ⟨mkCF, oiCF, kcCF⟩ | 1 => ⟨mkCL, oiCL, kcCL⟩ | 2 => ⟨mkCC, oiCC, kcCC⟩ | 3 => ⟨mkCB, oiCB, kcCB⟩, mN, x1⟩
  have W : ∀ k, ∃ fdw, WordF l.prog w K mg base (k + 1) cs fw fdw := fun k => ⟨p4 _ _ _ _, fun i => match i with | 0 => ⟨pgCF, hdCF, poCF, saCF⟩ | 1 => ⟨pgCL, hdCL, poCL, saCL⟩ | 2 => ⟨pgCC, hdCC, poCC, saCC⟩ | 3 => ⟨pgCB, hdCB, poCB, saCB⟩, fun i => match i with | 0 => m_F | 1 => m_L | 2 => m_C | 3 => m_B, fun i => match i with | 0 => ok_freeWord F_F | 1 => ok_followWord F_L | 2 => ok_cutWord F_C | 3 => ok_beatWord F_B, fun i => match i with | 0 => b_F | 1 => b_L | 2 => b_C | 3 => b_B⟩
  obtain ⟨_, W15⟩ := W 14
  obtain ⟨_, W16⟩ := W 15
  have C : TabC K mg CT := ⟨⟨pgCT, hdCT, poCT, saCT⟩, PySem.W.mg_of X G hCT, nTS, nTH, nTN, nTD, nTP, nTT, nTW⟩
  have CGm : GamC K mg CG := ⟨⟨pgCG, hdCG, poCG, saCG⟩, PySem.W.mg_of X G hCG, nGT, nGU⟩
  have hM : ∀ H, SqT K H aM (vS marks) := fun H => .inr ⟨_, _, _, w2, rfl, rfl, fits3 5 (by decide), .cons ⟨_, rfl⟩ (.cons ⟨_, rfl⟩ (.cons ⟨_, rfl⟩ (.cons ⟨_, rfl⟩ (.cons ⟨_, rfl⟩ .nil))))⟩
  have FI := ok_tab (k := 16) F_I C ⟨ok_marks (k := 15) F2 (PySem.W.mg_of X G w1) hM mN x1 mn_isinstance mn_str mn_len mn_tuple, b2, k2, m2⟩ ⟨ok_size F3 mg3 mg2 mN x1 mn_len, b3, k3, m3⟩ ⟨ok_seats F4 mN x1 mn_int, b4, k4, m4⟩ ⟨ok_ord F5 mg3 mN x1 mn_sorted mn_list mn_tuple, b5, k5, m5⟩ ⟨ok_dutyOf (k := 15) F1 D W15, b1, k1, m1⟩ W16
  have LC : ∀ k, Lib l.prog w K mg base (k + 1) "_law_cell" pCell (spCell K) f7 _ := fun k => ⟨ok_cell F7 mn_len, b7, k7, m7⟩
  have LX : ∀ k, Lib l.prog w K mg base (k + 1) "_law_mixed" ["_law_cell_here", "_law_k"] spMixed f8 _ := fun k => ⟨ok_mixed F8, b8, k8, m8⟩
  have BG0 : Binds K _ ["self", "table", "trump"] [] := fun s us hX hl => match us, hl with | [_, _, _], _ => by first | exact .of_eq rfl | exact PySem.W.binds_K (fd := PySem.W.fnOf "__init__" "Game.__init__" (defArgs sGamInit) (defBody sGamInit) (defScope sGamInit) (.ref dT) kV_G dc_G pm_G an_G cd_G ct_G) hX rfl w3 rfl rfl rfl
  have LO : ∀ k, Lib l.prog w K mg base (k + 1) "of_suit" ["hand", "suit"] (spOfSuit K) f21 _ := fun k => ⟨ok_ofSuit F21 mg4 mg1, b21, k21, m21⟩
  have LL : ∀ k, Lib l.prog w K mg base (k + 2) "of_led_suit" ["hand", "trick"] (spLed K) f22 _ := fun k => ⟨ok_led (k := k + 1) F22 (LO k) mg1, b22, k22, m22⟩
  have LF : ∀ k, Lib l.prog w K mg base (k + 3) "followed_or_cut" ["game", "hand", "trick"] (spFoc K CG) f23 _ := fun k => ⟨ok_foc (k := k + 2) F23 CGm (LL k) (LO (k + 1)), b23, k23, m23⟩
  have FS : ∀ k, FnOk l.prog w K mg base CX0 (k + 2) f_S _ ["self", "card", "other"] (spStronger CT CG) := fun k => ok_stronger (k := k + 1) F_S C CGm ⟨ok_later (k := k) F6, b6, k6, m6⟩ m_O (ok_torder (k := k) F_O C mn_list) b_O mg1
  have FV : ∀ k, FnOk l.prog w K mg base CX0 (k + 3) f_V _ pOver (spOver CT CG) := fun k => ok_over (k := k + 2) F_V CGm m_S (FS k) b_S mg1
  have LG : ∀ k, Lib l.prog w K mg base (k + 4) "goes_over_all" ["game", "card", "trick"] (spGoes K CT CG) f24 _ := fun k => ⟨ok_goes (k := k + 3) F24 CGm m_V (FV k) b_V mg1 mn_all, b24, k24, m24⟩
  have LH : ∀ k, Lib l.prog w K mg base (k + 1) "hand_of" ["cards"] (spHandOf K) f20 _ := fun k => ⟨ok_handOf F20, b20, k20, m20⟩
  have LI : ∀ k, Lib l.prog w K mg base (k + 1) "cards_in" ["hand"] (spCardsIn K) f19 _ := fun k => ⟨ok_cardsIn F19, b19, k19, m19⟩
  have MA : ∃ d4, ∀ k, AlF l.prog w K mg base CT CG (k + 5) cs fl d4 := ⟨p4 _ _ _ _, fun k => ⟨fun i => match i with | 0 => ⟨pgCF, hdCF, poCF, saCF⟩ | 1 => ⟨pgCL, hdCL, poCL, saCL⟩ | 2 => ⟨pgCC, hdCC, poCC, saCC⟩ | 3 => ⟨pgCB, hdCB, poCB, saCB⟩, fun i => match i with | 0 => m_AF | 1 => m_AL | 2 => m_AC | 3 => m_AB, fun i => match i with | 0 => ok_freeAl F_AF | 1 => ok_followAl (k := k + 4) F_AL (LL (k + 2)) | 2 => ok_cutAl (k := k + 4) F_AC (LF (k + 1)) | 3 => ok_beatAl (k := k + 4) F_AB (LF (k + 1)) (LH (k + 3)) (LI (k + 3)) (LG k), fun i => match i with | 0 => b_AF | 1 => b_AL | 2 => b_AC | 3 => b_AB⟩⟩
  obtain ⟨_, MA⟩ := MA
  obtain ⟨_, W17⟩ := W 16
  obtain ⟨_, W18⟩ := W 17
  have FM : FnOk l.prog w K mg base CX0 19 f_M _ ["self", "hand", "trick"] (spMay K CT CG) := ok_may (k := 18) F_M C CGm ⟨ok_dutyOf (k := 17) F1 D W17, b1, k1, m1⟩ m_D (ok_tduty (k := 17) F_D C) b_D (MA 13) mn_len
  have FW : FnOk l.prog w K mg base CX0 18 f_W _ ["self", "trick"] (spWinner K CT CG) := ok_winner (k := 17) F_W CGm m_V (FV 14) b_V mg1 mn_enumerate
  exact ok_law (k := 18) F25 C CGm ⟨ok_table (k := 18) F10 (LC 17) (LX 17) ⟨ok_order F9 mn_range, b9, k9, m9⟩ mn_range, b10, k10, m10⟩ (LC 18) ⟨ok_text F11 mn_str, b11, k11, m11⟩ ⟨ok_trump (k := 18) F12 (LC 17), b12, k12, m12⟩
    ⟨ok_trick (k := 18) F14 (LC 17) (LX 17) ⟨ok_card F13, b13, k13, m13⟩ mn_range, b14, k14, m14⟩ ⟨ok_lcards (k := 18) F16 (LC 17) (LX 17) mn_range mn_len, b16, k16, m16⟩ ⟨ok_bit F15 mn_range, b15, k15, m15⟩ ⟨ok_in F17, b17, k17, m17⟩ ⟨ok_wins (k := 18) F18 CGm m_W FW b_W mn_tuple mn_len, b18, k18, m18⟩ (LI 18)
    ⟨mkCT, a_I, i_I, kcCT⟩ (FI.mono (by decide)) b_I ⟨mkCG, a_G, i_G, kcCG⟩ (ok_gam (k := 17) F_G CGm) BG0 m_M FM b_M mn_tuple mn_sum
theorem walk {l : PySem.W.OpenLaw} {q : Program} {loose : List Str} {XP : (Str → Option Value) → Heap → Prop} {YP : World → Heap → Prop} {d : DefRec} {K : Params → PySem.W.Frag} (hn : l.most = some 63) (hdf : d.params.defaults = [])
    (hY : ∀ (w : World) (h : Heap), YP w h → (K w.params).In h)
    (F : ∀ (w : World) (mg : Str → Option Value) (fa : Addr) (h : Heap), (K w.params).In h → h.Ns mainGlobals mg → mg d.name = some (.ref fa) →
      ∃ fd : FuncData, (∀ (s : Shared) (u : Value), BindsTo s fd ⟨[u], []⟩ [("_law_script", u)]) ∧ ∀ base : Heap, (K w.params).In base → base.Ns mainGlobals mg → FnOk l.prog w (K w.params) mg base CX0 20 fa fd ["_law_script"] (spLaw (K w.params))) :
    PySem.W.WalkO q loose XP YP l.row.toRowW d [] (fun f vs => PySem.call f vs) :=
  L2.walk_of (n := 63) (k := 20) (x := "_law_script") (CX := fun _ => CX0) (sp := fun w => spLaw (K w.params)) hn (by decide) hdf ⟨rfl, by decide, by decide⟩ hY F (fun _ _ a ns hl _ hS => ⟨a, ns, rfl, hS, hl, fun _ => rfl⟩) fun _ _ _ _ _ z => z
end My
namespace PySem.W.Fast
theorem tw7533247704683164762 : True := trivial
theorem tw6659365798268299696 : True := trivial
theorem tw6693496593035844585 : True := trivial
theorem tw8646054534609794213 : True := trivial
theorem tw7311570688690893525 : True := trivial
theorem tw15348079134061844657 : True := trivial
theorem tw16229721608498477448 : True := trivial
theorem tw16729895664095508021 : True := trivial
theorem tw4272741685042018820 : True := trivial
theorem tw325338030426797007 : True := trivial
theorem tw11562432124465143880 : True := trivial
theorem tw9678571212706962174 : True := trivial
theorem tw11250300057515877533 : True := trivial
theorem tw16208369414525801405 : True := trivial
theorem tw13032946434551153066 : True := trivial
theorem tw13692004147178414403 : True := trivial
theorem tw5684210893967638150 : True := trivial
theorem tw10742478337368689134 : True := trivial
theorem tw6088349685603440188 : True := trivial
theorem tw2646323462722366854 : True := trivial
theorem tw15024721207761031225 : True := trivial
theorem tw16133147653064060545 : True := trivial
theorem tw17758200996532897518 : True := trivial
theorem tw1284199373198110527 : True := trivial
theorem tw4432295178649147487 : True := trivial
theorem tw8176047492763017712 : True := trivial
theorem tw2820308423657099613 : True := trivial
theorem tw10232715047840771354 : True := trivial
theorem tw12695656877408197774 : True := trivial
theorem tw16291444418416041992 : True := trivial
theorem tw16468063487411335324 : True := trivial
theorem tw7000057091464659489 : True := trivial
theorem tw13163206027317184405 : True := trivial
theorem tw13025663168928580219 : True := trivial
theorem tw17495858809638685681 : True := trivial
theorem tw3869283769147551460 : True := trivial
theorem tw17512645473960621699 : True := trivial
theorem tw18157188322782755032 : True := trivial
theorem tw11746741226128669983 : True := trivial
theorem tw5995752312356731846 : True := trivial
theorem tw2187798732756816356 : True := trivial
theorem tw9734759645407938330 : True := trivial
theorem tw14663163222691122326 : True := trivial
theorem tw8780154716323582831 : True := trivial
theorem tw13942473315250369613 : True := trivial
theorem tw617821826819015413 : True := trivial
theorem tw11472422225507210776 : True := trivial
theorem tw11420090743684871006 : True := trivial
theorem tw10469185943737198992 : True := trivial
theorem tw2466414618575610649 : True := trivial
theorem tw14846821227038676339 : True := trivial
theorem tw4694364547872617312 : True := trivial
theorem tw4776849958934242804 : True := trivial
theorem tw17473909619643428567 : True := trivial
theorem tw13123597061322205039 : True := trivial
theorem tw11472634170318673140 : True := trivial
theorem tw5532417805315595762 : True := trivial
theorem tw7173786846961581870 : True := trivial
theorem tw6740276682492232545 : True := trivial
theorem tw16647416324081339882 : True := trivial
theorem tw10493075466431434089 : True := trivial
theorem tw17206228695044496207 : True := trivial
theorem tw5835065182691780977 : True := trivial
theorem tw763480465810327909 : True := trivial
theorem tw13590599815954296744 : True := trivial
theorem tw16242778567901055956 : True := trivial
theorem tw2848800421710668661 : True := trivial
theorem tw6064085986515438277 : True := trivial
theorem tw12913413411406792256 : True := trivial
theorem tw9970175017570229308 : True := trivial
theorem tw12296278413467273102 : True := trivial
theorem tw15425633857643911828 : True := trivial
theorem tw3953004609018460249 : True := trivial
theorem tw9157668853870728166 : True := trivial
theorem tw16827731269089167588 : True := trivial
theorem tw8532280615876020676 : True := trivial
theorem tw16616573316560692904 : True := trivial
theorem tw3809013733692506911 : True := trivial
theorem tw12150276850871041945 : True := trivial
theorem tw14746006787989985980 : True := trivial
theorem tw8057784127099127100 : True := trivial
theorem tw4971013861439251398 : True := trivial
theorem tw18362805483591887861 : True := trivial
theorem tw15120533237997389637 : True := trivial
theorem tw1052882628994521048 : True := trivial
theorem tw13285128535495705327 : True := trivial
theorem tw9676471920985523578 : True := trivial
theorem tw13511672415828005577 : True := trivial
theorem tw5290991670491292623 : True := trivial
theorem tw16769292293267450619 : True := trivial
theorem tw9306337434164060142 : True := trivial
theorem tw2644277608141372676 : True := trivial
theorem tw16253255229036406998 : True := trivial
theorem tw6916844418226051108 : True := trivial
theorem tw8329632415424091334 : True := trivial
theorem tw5342551379557931823 : True := trivial
theorem tw3603152709233320972 : True := trivial
theorem tw14860404180574845860 : True := trivial
theorem tw1517978187208443568 : True := trivial
theorem tw12868060596529185218 : True := trivial
theorem tw8785075916768199653 : True := trivial
theorem tw6472945233543390257 : True := trivial
theorem tw11621000213291797888 : True := trivial
theorem tw11653682989755297787 : True := trivial
theorem tw7656978605317270262 : True := trivial
theorem tw1678560800972641913 : True := trivial
theorem tw18348627317425429887 : True := trivial
theorem tw12319535802498648199 : True := trivial
theorem tw9457268467636087769 : True := trivial
theorem tw2227784952542678235 : True := trivial
theorem tw15086763563984803959 : True := trivial
theorem tw9466006623794539083 : True := trivial
theorem tw13848254686114044329 : True := trivial
theorem tw2961461289081215054 : True := trivial
theorem tw5548374051603113742 : True := trivial
theorem tw5142184793600908362 : True := trivial
theorem tw15443091612189835438 : True := trivial
theorem tw3926464136985529469 : True := trivial
theorem tw1376203860794112829 : True := trivial
theorem tw11866494687229281351 : True := trivial
theorem tw6258828453500908696 : True := trivial
theorem tw6271925199220932539 : True := trivial
theorem tw7541135392161943142 : True := trivial
theorem tw8098181437744825307 : True := trivial
theorem tw5689778628993069600 : True := trivial
theorem tw3901861717812799036 : True := trivial
theorem tw1533742128367445947 : True := trivial
theorem tw10604640123389658711 : True := trivial
theorem tw5496052033841862630 : True := trivial
theorem tw7649684457186619097 : True := trivial
theorem tw2055902110220801255 : True := trivial
theorem tw10252189981202404887 : True := trivial
theorem tw4343996242915251851 : True := trivial
theorem tw2746986870810128613 : True := trivial
theorem tw9377650763313593444 : True := trivial
theorem tw2464962474683608342 : True := trivial
theorem tw829490491088078242 : True := trivial
theorem tw896741910070042556 : True := trivial
theorem tw8885097250738597036 : True := trivial
theorem tw10715663015506017261 : True := trivial
theorem tw212454223195559944 : True := trivial
theorem tw17986482651434278053 : True := trivial
theorem tw682081367278205462 : True := trivial
theorem tw16097401879995742631 : True := trivial
theorem tw18139378748407938555 : True := trivial
theorem tw11018785919078857575 : True := trivial
theorem tw5152045849782783931 : True := trivial
theorem tw8209880451721834253 : True := trivial
theorem tw3839279688703738466 : True := trivial
theorem tw1817643659018301144 : True := trivial
theorem tw14987529932372540659 : True := trivial
theorem tw4266980284405103892 : True := trivial
theorem tw5288647395920141418 : True := trivial
theorem tw10547299518062691640 : True := trivial
theorem tw13831549993490107522 : True := trivial
theorem tw12437423050471771877 : True := trivial
theorem tw10254248115486424765 : True := trivial
theorem tw9192413491905830431 : True := trivial
theorem tw9096252454605892104 : True := trivial
theorem tw14725344144881900603 : True := trivial
theorem tw3170325813471339053 : True := trivial
theorem tw18171765555911254461 : True := trivial
theorem tw602180112501770529 : True := trivial
theorem tw9593008914374763107 : True := trivial
theorem tw15177528508411980811 : True := trivial
theorem tw8502882494907827036 : True := trivial
theorem tw10599907418922843940 : True := trivial
theorem tw10739164056011462354 : True := trivial
theorem tw10109159584721384718 : True := trivial
theorem tw11305464897290860497 : True := trivial
theorem tw253800132187460541 : True := trivial
theorem tw12499122520085971562 : True := trivial
theorem tw8576683044407641252 : True := trivial
theorem tw6705832913805132596 : True := trivial
theorem tw11350198635982024869 : True := trivial
theorem tw7334166092913068999 : True := trivial
theorem tw13290927076371262224 : True := trivial
theorem tw9186834447996850909 : True := trivial
theorem tw8852656408515457783 : True := trivial
theorem tw14706041641069758845 : True := trivial
theorem tw5612012663736725344 : True := trivial
theorem tw3868997980749397976 : True := trivial
theorem tw12178389943637289940 : True := trivial
theorem tw8082355380334249045 : True := trivial
theorem tw10425182140330288542 : True := trivial
theorem tw8259984037247338082 : True := trivial
theorem tw7941548933333532311 : True := trivial
theorem tw17409969713552462793 : True := trivial
theorem tw8548483040034311557 : True := trivial
theorem tw17549058686201917948 : True := trivial
theorem tw6413411885253644476 : True := trivial
theorem tw13933936671638649870 : True := trivial
theorem tw15332234873225070848 : True := trivial
theorem tw13391845983405599198 : True := trivial
theorem tw6993092198175089291 : True := trivial
theorem tw14405874434937782765 : True := trivial
theorem tw6537329547869530430 : True := trivial
theorem tw12368205792915190007 : True := trivial
theorem tw16624381943170416720 : True := trivial
theorem tw12416403965753689825 : True := trivial
theorem tw2470453085052583926 : True := trivial
theorem tw2489473439620874519 : True := trivial
theorem tw14073531057348019121 : True := trivial
theorem tw15609842964956777043 : True := trivial
theorem tw5881040854401856899 : True := trivial
theorem tw17304364718109451477 : True := trivial
theorem tw2599772131785533384 : True := trivial
theorem tw6610059268560367327 : True := trivial
theorem tw11459546987267423374 : True := trivial
theorem tw15888981715967997451 : True := trivial
theorem tw13915097890185450744 : True := trivial
theorem tw2619951084264807959 : True := trivial
theorem tw3694122572215711662 : True := trivial
theorem tw5304692779093718270 : True := trivial
theorem tw17868281165767587651 : True := trivial
theorem tw6889425641946416490 : True := trivial
theorem tw17758476325414663908 : True := trivial
theorem tw11281051512468797350 : True := trivial
theorem tw4453227142936249901 : True := trivial
theorem tw14286908271316989398 : True := trivial
theorem tw17881944544057376490 : True := trivial
theorem tw2634513920598832007 : True := trivial
theorem tw15321013318444116634 : True := trivial
theorem tw4302083267812939762 : True := trivial
theorem tw10964673475235741378 : True := trivial
theorem tw5270380634504856390 : True := trivial
theorem tw9573469711201513531 : True := trivial
theorem tw8191868838810225990 : True := trivial
theorem tw2711353614053137469 : True := trivial
theorem tw12607617797993699673 : True := trivial
theorem tw2323377802945287397 : True := trivial
theorem tw4258836143227919119 : True := trivial
theorem tw15106425930473577014 : True := trivial
theorem tw10400682116941773070 : True := trivial
theorem tw13399322595107385482 : True := trivial
theorem tw11717412342116250206 : True := trivial
theorem tw4352006946245594496 : True := trivial
theorem tw17292398442508748172 : True := trivial
theorem tw9105135361456277682 : True := trivial
theorem tw18372945081418709866 : True := trivial
theorem tw14011129905794029452 : True := trivial
theorem tw14958966053559745221 : True := trivial
theorem tw8122681520248604645 : True := trivial
theorem tw8281833755161190093 : True := trivial
theorem tw10027918646209991049 : True := trivial
theorem tw4051059500678202870 : True := trivial
theorem tw7175970177758826544 : True := trivial
theorem tw7439902365403851953 : True := trivial
theorem tw3632720099033113339 : True := trivial
theorem tw17279851855702219367 : True := trivial
theorem tw4112935045270265690 : True := trivial
theorem tw12457623529964905883 : True := trivial
theorem tw9109040328377559294 : True := trivial
theorem tw8973399763911968387 : True := trivial
theorem tw13648874524161479547 : True := trivial
theorem tw4623797882267547221 : True := trivial
theorem tw9983236710405967190 : True := trivial
theorem tw1410172812330989141 : True := trivial
theorem tw16669129125314149255 : True := trivial
theorem tw9943752847770422282 : True := trivial
theorem tw2723231663112613324 : True := trivial
theorem tw9937006769746277792 : True := trivial
theorem tw92615348158646845 : True := trivial
theorem tw367760432750036836 : True := trivial
theorem tw18287069416890614212 : True := trivial
theorem tw3725213691153882145 : True := trivial
theorem tw7595944815945570197 : True := trivial
theorem tw2716953659397748016 : True := trivial
theorem tw5861897472065218785 : True := trivial
theorem tw15134708643223574189 : True := trivial
theorem tw15496019816499489413 : True := trivial
theorem tw10763811071040523370 : True := trivial
theorem tw5302231248409034165 : True := trivial
theorem tw5539964185504155677 : True := trivial
theorem tw12988022694032486876 : True := trivial
theorem tw11157869784587999769 : True := trivial
theorem tw3457960718201094466 : True := trivial
theorem tw2048213954136726294 : True := trivial
theorem tw9102461782748439863 : True := trivial
theorem tw6812214664948449760 : True := trivial
theorem tw7588471484706327520 : True := trivial
theorem tw15763283910597336607 : True := trivial
theorem tw10688403020876337344 : True := trivial
theorem tw7338112018982677027 : True := trivial
theorem tw14179031730655815070 : True := trivial
theorem tw16721990141545463727 : True := trivial
theorem tw10138674469081575830 : True := trivial
theorem tw6395125086300451101 : True := trivial
theorem tw2834647050234602799 : True := trivial
theorem tw4379972935056270829 : True := trivial
theorem tw5226191159425233169 : True := trivial
theorem tw3761044775342787285 : True := trivial
theorem tw9582546954971632808 : True := trivial
theorem tw15158476912412751717 : True := trivial
theorem tw5262010429219538839 : True := trivial
theorem tw12764591754889535184 : True := trivial
theorem tw7907814737434550651 : True := trivial
theorem tw1500627708483095261 : True := trivial
theorem tw16919434030731052818 : True := trivial
theorem tw17778558430985179162 : True := trivial
theorem tw9591057097890838204 : True := trivial
theorem tw8602172917328795279 : True := trivial
theorem tw2443048098267054787 : True := trivial
theorem tw4393778267737587886 : True := trivial
theorem tw14031771676080138185 : True := trivial
theorem tw11143575634708096592 : True := trivial
theorem tw3215593647415806706 : True := trivial
theorem tw10579011476485986899 : True := trivial
theorem tw18234472240503731487 : True := trivial
theorem tw15025524466732534104 : True := trivial
theorem tw14467106636913352748 : True := trivial
theorem tw16860685253129716409 : True := trivial
theorem tw16418633671734718009 : True := trivial
theorem tw878058790596288223 : True := trivial
theorem tw14344702895323636362 : True := trivial
theorem tw6605158481339932980 : True := trivial
theorem tw2396141686967046944 : True := trivial
theorem tw8202410744247336086 : True := trivial
theorem tw11540936941777764628 : True := trivial
theorem tw12572877718009102410 : True := trivial
theorem tw17562366091406257997 : True := trivial
theorem tw4130124362077928657 : True := trivial
theorem tw3188099763108601189 : True := trivial
theorem tw18014278153805105942 : True := trivial
theorem tw3894644868741488765 : True := trivial
theorem tw14345134685829241699 : True := trivial
theorem tw16526998625126380179 : True := trivial
theorem tw15810710946304814734 : True := trivial
theorem tw854078498624164783 : True := trivial
theorem tw4614147636730825697 : True := trivial
theorem tw2729264749429612090 : True := trivial
theorem tw11840658526013077536 : True := trivial
theorem tw1371552062076399924 : True := trivial
theorem tw12087663921386766164 : True := trivial
theorem tw720410572699962078 : True := trivial
theorem tw18053967748922720412 : True := trivial
theorem tw6942599883066075750 : True := trivial
theorem tw7128489699515319979 : True := trivial
theorem tw15578355478071703155 : True := trivial
theorem tw15312910149525348154 : True := trivial
theorem tw12405777956733067604 : True := trivial
theorem tw1455445630630094256 : True := trivial
theorem tw14564878514266504459 : True := trivial
theorem tw4442827923298155371 : True := trivial
theorem tw1640097221060504283 : True := trivial
theorem tw1321760625944233947 : True := trivial
theorem tw4784455255932732093 : True := trivial
theorem tw9940926245186186487 : True := trivial
theorem tw3051688159273795170 : True := trivial
theorem tw15480896744365859843 : True := trivial
theorem tw7081000871057855434 : True := trivial
theorem tw18191226151811968233 : True := trivial
theorem tw6382784848929902915 : True := trivial
theorem tw7952245834250681598 : True := trivial
theorem tw18440811108393737680 : True := trivial
theorem tw17624440289268913410 : True := trivial
theorem tw536470091255482743 : True := trivial
theorem tw11766156671480067627 : True := trivial
theorem tw193371243035292233 : True := trivial
theorem tw15698586058702270062 : True := trivial
theorem tw7800808483618024618 : True := trivial
theorem tw18135877321139533031 : True := trivial
theorem tw16352188537368230566 : True := trivial
theorem tw11664472054718813024 : True := trivial
theorem tw11432874778507030097 : True := trivial
theorem tw442060038959319175 : True := trivial
theorem tw6433195116593574303 : True := trivial
theorem tw8003665296584126567 : True := trivial
theorem tw5748350270540709803 : True := trivial
theorem tw8220534661922358857 : True := trivial
theorem tw16716453650483996304 : True := trivial
theorem tw4158430437433732114 : True := trivial
theorem tw6174480560121799299 : True := trivial
theorem tw8905857158826703130 : True := trivial
theorem tw9206414649652223744 : True := trivial
theorem tw15106975492563886487 : True := trivial
theorem tw5190168564214278198 : True := trivial
theorem tw11494251936748499025 : True := trivial
theorem tw9262253247237385599 : True := trivial
theorem tw893372831352910828 : True := trivial
theorem tw3971268492767638544 : True := trivial
theorem tw14508354771184876786 : True := trivial
theorem tw8979790114725899905 : True := trivial
theorem tw2316384554635721872 : True := trivial
theorem tw11873209793415868426 : True := trivial
theorem tw15897709034399160719 : True := trivial
theorem tw16031763175032264130 : True := trivial
theorem tw4952756938523050110 : True := trivial
theorem tw15353221769478803518 : True := trivial
theorem tw15690533821688298218 : True := trivial
theorem tw14978347575192707 : True := trivial
theorem tw3222100452421260097 : True := trivial
theorem tw7228193138955513228 : True := trivial
theorem tw17334928528221907232 : True := trivial
theorem tw10470488024851669480 : True := trivial
theorem tw8162494046677263145 : True := trivial
theorem tw11285682942177188406 : True := trivial
theorem tw4759627570413331793 : True := trivial
theorem tw13785809344425759218 : True := trivial
theorem tw18070171268733651281 : True := trivial
theorem tw4831010534415810894 : True := trivial
theorem tw6440801076848303212 : True := trivial
theorem tw10145562224919010622 : True := trivial
theorem tw8700004452876829028 : True := trivial
theorem tw4467899512104900314 : True := trivial
theorem tw9097111508559935240 : True := trivial
theorem tw3854470453922632301 : True := trivial
theorem tw8866920029086956359 : True := trivial
theorem tw8864348673714752537 : True := trivial
theorem tw13566474661589842968 : True := trivial
theorem tw16603603562580849272 : True := trivial
theorem tw584610566867774620 : True := trivial
theorem tw5311911839300362251 : True := trivial
theorem tw3598781358249227250 : True := trivial
theorem tw301066996654337850 : True := trivial
theorem tw10267962550376816219 : True := trivial
theorem tw4275211589486030886 : True := trivial
theorem tw15282467858318868277 : True := trivial
theorem tw13141143574827763519 : True := trivial
theorem tw1475387021386702628 : True := trivial
theorem tw14321447237048099448 : True := trivial
theorem tw4549858293895426035 : True := trivial
theorem tw13351422470343971107 : True := trivial
theorem tw11716375320943387793 : True := trivial
theorem tw3203043372095438066 : True := trivial
theorem tw3566632136208976925 : True := trivial
theorem tw8604088760287687500 : True := trivial
theorem tw5754829788642196103 : True := trivial
theorem tw16602973702393822839 : True := trivial
theorem tw13577777451280577406 : True := trivial
theorem tw16317780231980589302 : True := trivial
theorem tw10196128349942618246 : True := trivial
theorem tw11139046060090966906 : True := trivial
theorem tw10529668792635589390 : True := trivial
theorem tw17658396256000174059 : True := trivial
theorem tw12932891718422996128 : True := trivial
theorem tw3519362854879106833 : True := trivial
theorem tw5092118531378604404 : True := trivial
theorem tw11811498682816338334 : True := trivial
theorem tw16593252328021166756 : True := trivial
theorem tw2752381511203654908 : True := trivial
theorem tw15672362958044433629 : True := trivial
theorem tw8758614101915250948 : True := trivial
theorem tw9749392056418464681 : True := trivial
theorem tw2531355391695948188 : True := trivial
theorem tw11560204895243294511 : True := trivial
theorem tw4856559096496867580 : True := trivial
theorem tw10730543844275189987 : True := trivial
theorem tw5599277458808477199 : True := trivial
theorem tw15863525645166117578 : True := trivial
theorem tw2321821823787521469 : True := trivial
theorem tw8817754571658870119 : True := trivial
theorem tw17025374011566185107 : True := trivial
theorem tw4977324498383695849 : True := trivial
theorem tw145691631774626836 : True := trivial
theorem tw4560808253182932385 : True := trivial
theorem tw3500052996114432638 : True := trivial
theorem tw3117424076481054323 : True := trivial
theorem tw704319752854545285 : True := trivial
theorem tw11537435246317492015 : True := trivial
theorem tw8881851558918241975 : True := trivial
theorem tw7901883455292616383 : True := trivial
theorem tw12689080357715316447 : True := trivial
theorem tw14173658590538616418 : True := trivial
theorem tw4691778393398996286 : True := trivial
theorem tw9492205651808364003 : True := trivial
theorem tw924640020039656213 : True := trivial
theorem tw18189457508450115356 : True := trivial
theorem tw14962644728075259357 : True := trivial
theorem tw12467539795569777566 : True := trivial
theorem tw18194941219428653869 : True := trivial
theorem tw6399937544161732323 : True := trivial
theorem tw3364846987171039498 : True := trivial
theorem tw10658910790670252801 : True := trivial
theorem tw8318757114038934455 : True := trivial
theorem tw11789828020225091328 : True := trivial
theorem tw4692103361678992095 : True := trivial
theorem tw6579688466338201202 : True := trivial
theorem tw17057625939856417085 : True := trivial
theorem tw8531756116901809057 : True := trivial
theorem tw15466540631074050769 : True := trivial
theorem tw4457755110128163915 : True := trivial
theorem tw12168115145940952139 : True := trivial
theorem tw10438118551576290560 : True := trivial
theorem tw6672535443351537212 : True := trivial
theorem tw17902210614709566544 : True := trivial
theorem tw11871421709897880155 : True := trivial
theorem tw10942161827474641534 : True := trivial
theorem tw12583174515172665760 : True := trivial
theorem tw10591751463694678650 : True := trivial
theorem tw14930300893871035168 : True := trivial
theorem tw3520428301657518412 : True := trivial
theorem tw4378806656478440988 : True := trivial
theorem tw7050390551694174466 : True := trivial
theorem tw11965115509132281691 : True := trivial
theorem tw10709578002637444114 : True := trivial
theorem tw17325405910428217717 : True := trivial
theorem tw15106840945000806562 : True := trivial
theorem tw10191092304410812673 : True := trivial
theorem tw8099953035467059030 : True := trivial
theorem tw1388699634048892783 : True := trivial
theorem tw9645125081618381434 : True := trivial
theorem tw10852898233545571395 : True := trivial
theorem tw7676247761593542308 : True := trivial
theorem tw10468423900713835908 : True := trivial
theorem tw705532005962429405 : True := trivial
theorem tw7949066533713266190 : True := trivial
theorem tw11905218018137401786 : True := trivial
theorem tw7300952954698029358 : True := trivial
theorem tw4831902747210337556 : True := trivial
theorem tw4149175074923312392 : True := trivial
theorem tw7907148579266272435 : True := trivial
theorem tw6209130245114786406 : True := trivial
theorem tw6662134112335163776 : True := trivial
theorem tw15354777650309766594 : True := trivial
theorem tw12491093305611380840 : True := trivial
theorem tw5343903384553187849 : True := trivial
theorem tw15332662627476839576 : True := trivial
theorem tw10944223891943662022 : True := trivial
theorem tw9421429046170904516 : True := trivial
theorem tw12400264847138730255 : True := trivial
theorem tw2014026268170900579 : True := trivial
theorem tw17897733611769495447 : True := trivial
theorem tw67835763757147969 : True := trivial
theorem tw3740721876466648579 : True := trivial
theorem tw4051362184466013795 : True := trivial
theorem tw8887856483346737478 : True := trivial
theorem tw3499120416762173807 : True := trivial
theorem tw10129638195696590895 : True := trivial
theorem tw2057301502385627993 : True := trivial
theorem tw551329019582749295 : True := trivial
theorem tw17470980246296587208 : True := trivial
theorem tw6012234877134299155 : True := trivial
theorem tw13932440560553302078 : True := trivial
theorem tw12495478559610320615 : True := trivial
theorem tw12071656490664190738 : True := trivial
theorem tw6489391612471208625 : True := trivial
theorem tw13557698981943512009 : True := trivial
theorem tw9350213211830039807 : True := trivial
theorem tw12671632674407025510 : True := trivial
theorem tw16669275922124441901 : True := trivial
theorem tw12504301729911187968 : True := trivial
theorem tw13481458188296626098 : True := trivial
theorem tw10897226375708708127 : True := trivial
theorem tw4631632450794843328 : True := trivial
theorem tw5692617267054156119 : True := trivial
theorem tw16451169349725245652 : True := trivial
theorem tw6618365703470508127 : True := trivial
theorem tw16912876627855712207 : True := trivial
theorem tw2482498586179623120 : True := trivial
theorem tw15172926744680937819 : True := trivial
theorem tw14309496574809375518 : True := trivial
theorem tw559621610019663011 : True := trivial
theorem tw13426849499075215169 : True := trivial
theorem tw12112771184204197538 : True := trivial
theorem tw2299470420688157014 : True := trivial
theorem tw8282979454807641265 : True := trivial
theorem tw7546638103476143768 : True := trivial
theorem tw17030751630316295311 : True := trivial
theorem tw10884815756372821969 : True := trivial
theorem tw9909036988902688503 : True := trivial
theorem tw6547836654817611342 : True := trivial
theorem tw5296185908499404526 : True := trivial
theorem tw14184560738791481584 : True := trivial
theorem tw6440217872340111717 : True := trivial
theorem tw5527959535483685627 : True := trivial
theorem tw12769659668875542645 : True := trivial
theorem tw8406572813850578347 : True := trivial
theorem tw747743336838700382 : True := trivial
theorem tw16676039507572531629 : True := trivial
theorem tw15611582052644934343 : True := trivial
theorem tw8912486555522517578 : True := trivial
theorem tw1625383956273624373 : True := trivial
theorem tw8607128731074618712 : True := trivial
theorem tw17833473186395863966 : True := trivial
theorem tw12569005561770713339 : True := trivial
theorem tw9428957947753973097 : True := trivial
theorem tw3069232422192281496 : True := trivial
theorem tw5875077185920367405 : True := trivial
theorem tw15102021010369833109 : True := trivial
theorem tw18255249120224023770 : True := trivial
theorem tw13050384872850191959 : True := trivial
theorem tw1070529354006916276 : True := trivial
theorem tw7808000851023245907 : True := trivial
theorem tw1515061491429668182 : True := trivial
theorem tw3026837474912164939 : True := trivial
theorem tw7517450106540939182 : True := trivial
theorem tw14312263059090433505 : True := trivial
theorem tw7085970359505755883 : True := trivial
theorem tw3829106687436498732 : True := trivial
theorem tw12180978881700015961 : True := trivial
theorem tw22644899799074578 : True := trivial
theorem tw9003751694352787675 : True := trivial
theorem tw1634759621981398730 : True := trivial
theorem tw16264922567377663808 : True := trivial
theorem tw13004528101668447586 : True := trivial
theorem tw7759395933371122320 : True := trivial
theorem tw15894774787162171029 : True := trivial
theorem tw9718232441176557494 : True := trivial
theorem tw689037568192964560 : True := trivial
theorem tw4196419419436203728 : True := trivial
theorem tw2012551121867433425 : True := trivial
theorem tw10828718348850355001 : True := trivial
theorem tw8397576196629422464 : True := trivial
theorem tw13074482185082297429 : True := trivial
theorem tw17282315578258044315 : True := trivial
theorem tw14442406098634138467 : True := trivial
theorem tw8328313832744159514 : True := trivial
theorem tw2239567518723368072 : True := trivial
theorem tw14995608579704495803 : True := trivial
theorem tw12070449278643720560 : True := trivial
theorem tw13928446037152587505 : True := trivial
theorem tw17356791578726946561 : True := trivial
theorem tw172946031435235281 : True := trivial
theorem tw192726245311765022 : True := trivial
theorem tw15747996316268636636 : True := trivial
theorem tw6974519565185044210 : True := trivial
theorem tw15231080566280074114 : True := trivial
theorem tw16358256899841250708 : True := trivial
theorem tw8112259713618526558 : True := trivial
theorem tw11123906629955092352 : True := trivial
theorem tw8598152721673211952 : True := trivial
theorem tw506727575282464799 : True := trivial
theorem tw2038093209031093909 : True := trivial
theorem tw4615928096708504487 : True := trivial
theorem tw13722637126158389896 : True := trivial
theorem tw13248657946811319890 : True := trivial
theorem tw4116414208317395498 : True := trivial
theorem tw11295576019146943127 : True := trivial
theorem tw8607112617490553177 : True := trivial
theorem tw2319132402819209861 : True := trivial
theorem tw14554605729217614167 : True := trivial
theorem tw6254173554954461104 : True := trivial
theorem tw8515629742857542382 : True := trivial
theorem tw1936061209903099580 : True := trivial
theorem tw9007612955390416172 : True := trivial
theorem tw3414626127352660893 : True := trivial
theorem tw12737009281067642028 : True := trivial
theorem tw2307583361835162757 : True := trivial
theorem tw834362076930248889 : True := trivial
theorem tw11661478259054503432 : True := trivial
theorem tw16656235723931301178 : True := trivial
theorem tw12309022583638940041 : True := trivial
theorem tw5732053881711719172 : True := trivial
theorem tw1527825014590818414 : True := trivial
theorem tw2335278537112116156 : True := trivial
theorem tw6653807990681684068 : True := trivial
theorem tw15567688216058416330 : True := trivial
theorem tw7039155999023360157 : True := trivial
theorem tw4421222807230088729 : True := trivial
theorem tw8935745005766337771 : True := trivial
theorem tw3601508379112523602 : True := trivial
theorem tw9444426724459869664 : True := trivial
theorem tw9186604758950235456 : True := trivial
theorem tw429099687670416596 : True := trivial
theorem tw14467521333305584674 : True := trivial
theorem tw14713418407453279923 : True := trivial
theorem tw3453537246994918655 : True := trivial
theorem tw9223704531399540325 : True := trivial
theorem tw17334577158352549688 : True := trivial
theorem tw1017935475815776790 : True := trivial
theorem tw13171381574957669158 : True := trivial
theorem tw9713539966825608438 : True := trivial
theorem tw17743828581900194602 : True := trivial
theorem tw5960343120827508336 : True := trivial
theorem tw1965727374609892482 : True := trivial
theorem tw9462084850108633947 : True := trivial
theorem tw15989804100010492102 : True := trivial
theorem tw591123546571926942 : True := trivial
theorem tw12184303656596620651 : True := trivial
theorem tw18275364180658582298 : True := trivial
theorem tw14652704118223463183 : True := trivial
theorem tw6978363565518887936 : True := trivial
theorem tw4972951642003005997 : True := trivial
theorem tw6479183371394613342 : True := trivial
theorem tw986445574761018187 : True := trivial
theorem tw12139344933084880949 : True := trivial
theorem tw2317384479412974861 : True := trivial
theorem tw8910900388165591175 : True := trivial
theorem tw2473995041767744789 : True := trivial
theorem tw15195538747315624295 : True := trivial
theorem tw8670118852150125471 : True := trivial
theorem tw9439850517501680120 : True := trivial
theorem tw7390809005274518403 : True := trivial
theorem tw17018155465942232981 : True := trivial
theorem tw17795898380932322164 : True := trivial
theorem tw11385533835032056913 : True := trivial
theorem tw15726691643742662421 : True := trivial
theorem tw4550358251926231104 : True := trivial
theorem tw7917468873688759743 : True := trivial
theorem tw8236513470741039654 : True := trivial
theorem tw4944535976451465978 : True := trivial
theorem tw13718914801494445638 : True := trivial
theorem tw7394562232556488486 : True := trivial
theorem tw3070176532008353156 : True := trivial
theorem tw10029922149679373392 : True := trivial
theorem tw16028287152950955350 : True := trivial
theorem tw2717762599062921090 : True := trivial
theorem tw16132651587560100707 : True := trivial
theorem tw6399091331073788627 : True := trivial
theorem tw8765822922678282964 : True := trivial
theorem tw17350288361378309502 : True := trivial
theorem tw841658509706827849 : True := trivial
theorem tw10310841838082583467 : True := trivial
theorem tw5773705113084581301 : True := trivial
theorem tw6260243761228760883 : True := trivial
theorem tw2785289148470405249 : True := trivial
theorem tw16237805560805830158 : True := trivial
theorem tw7517602055468937499 : True := trivial
theorem tw1437216985186602356 : True := trivial
theorem tw12423066198272464480 : True := trivial
theorem tw8939420421188551085 : True := trivial
theorem tw4552736328833543951 : True := trivial
theorem tw11163177067038587722 : True := trivial
theorem tw2213637438883346503 : True := trivial
theorem tw8288034282939603799 : True := trivial
theorem tw3665389506878008122 : True := trivial
theorem tw8077980123586364219 : True := trivial
theorem tw16474658310892341940 : True := trivial
theorem tw17925555414481589469 : True := trivial
theorem tw16702726611417180556 : True := trivial
theorem tw1904308501470354684 : True := trivial
theorem tw11174519364255424971 : True := trivial
theorem tw13555879252982793349 : True := trivial
theorem tw15568296988927684153 : True := trivial
theorem tw15200398038770267071 : True := trivial
theorem tw6196578072643857624 : True := trivial
theorem tw10289491117681629981 : True := trivial
theorem tw13649853577949872979 : True := trivial
theorem tw2127767149496514232 : True := trivial
theorem tw11148868445233156051 : True := trivial
theorem tw10382897779769417873 : True := trivial
theorem tw13348107217727845924 : True := trivial
theorem tw17807832580804563470 : True := trivial
theorem tw12340075057271907203 : True := trivial
theorem tw8568507142901448522 : True := trivial
theorem tw1680139101940609897 : True := trivial
theorem tw2260173587008203382 : True := trivial
theorem tw16815491960620231888 : True := trivial
theorem tw15024049280031865426 : True := trivial
theorem tw211961127038131839 : True := trivial
theorem tw13123166203444849197 : True := trivial
theorem tw7775719959309069716 : True := trivial
theorem tw17609044569690594524 : True := trivial
theorem tw7201437147323072748 : True := trivial
theorem tw17628683487891194328 : True := trivial
theorem tw12330918346227565708 : True := trivial
theorem tw7266197772744903850 : True := trivial
theorem tw751008051299966808 : True := trivial
theorem tw16946039554899597680 : True := trivial
theorem tw17542917189485119911 : True := trivial
theorem tw14485187721377455947 : True := trivial
theorem tw12363783682765474545 : True := trivial
theorem tw9207595321931600400 : True := trivial
theorem tw301842936837751165 : True := trivial
theorem tw11898290658688103630 : True := trivial
theorem tw13371843597229582032 : True := trivial
theorem tw4531404886468262319 : True := trivial
theorem tw3796253784808400236 : True := trivial
theorem tw6030468538204262197 : True := trivial
theorem tw8507896736859907000 : True := trivial
theorem tw16900980138581849797 : True := trivial
theorem tw1487411760477035032 : True := trivial
theorem tw8584873289815209805 : True := trivial
theorem tw12960008379501550113 : True := trivial
theorem tw11781281389871628314 : True := trivial
theorem tw5398969290866186397 : True := trivial
theorem tw2052122943601173733 : True := trivial
theorem tw8573574163185522833 : True := trivial
theorem tw1278879589033394452 : True := trivial
theorem tw1138643291623987603 : True := trivial
theorem tw945204560503044418 : True := trivial
theorem tw8867448704378207733 : True := trivial
theorem tw7295804764470993256 : True := trivial
theorem tw11720882545610189512 : True := trivial
theorem tw11516367153862766836 : True := trivial
theorem tw10360587772854096415 : True := trivial
theorem tw17529813101023978892 : True := trivial
theorem tw9145413186147741738 : True := trivial
theorem tw63598101431817252 : True := trivial
theorem tw17621018377234689183 : True := trivial
theorem tw15520324357548785637 : True := trivial
theorem tw18391790173853413078 : True := trivial
theorem tw14430195575689127546 : True := trivial
theorem tw11178181329721033649 : True := trivial
theorem tw14104235976388778707 : True := trivial
theorem tw15096739819557990565 : True := trivial
theorem tw12638275469548289808 : True := trivial
theorem tw5328148670221216139 : True := trivial
theorem tw6413376128631986331 : True := trivial
theorem tw11093862670002254304 : True := trivial
theorem tw976744938035550404 : True := trivial
theorem tw11852236637804808021 : True := trivial
theorem tw1292811237816875455 : True := trivial
theorem tw9389531596041697320 : True := trivial
theorem tw1997317457381287999 : True := trivial
theorem tw11329370509286088659 : True := trivial
theorem tw3249976837338729953 : True := trivial
theorem tw13606155762099650488 : True := trivial
theorem tw9768281830497612491 : True := trivial
theorem tw7660394767614086505 : True := trivial
theorem tw6970352774018441890 : True := trivial
theorem tw6114793132101696920 : True := trivial
theorem tw15005893214893518594 : True := trivial
theorem tw7957642255390247779 : True := trivial
theorem tw1050158959618697944 : True := trivial
theorem tw2181686056696317090 : True := trivial
theorem tw17234842574474618122 : True := trivial
theorem tw16618283971467201885 : True := trivial
theorem tw13152523404969509252 : True := trivial
theorem tw17630238933662979056 : True := trivial
theorem tw4521710180633586120 : True := trivial
theorem tw8007968705621191415 : True := trivial
theorem tw8532852579988222440 : True := trivial
theorem tw17162149584058043041 : True := trivial
theorem tw10838495936316676856 : True := trivial
theorem tw13588265613443717085 : True := trivial
theorem tw1625718367601199930 : True := trivial
theorem tw8028942909997571345 : True := trivial
theorem tw2924361517656499179 : True := trivial
theorem tw9463795536044752689 : True := trivial
theorem tw8637862152267181034 : True := trivial
theorem tw212587528227658792 : True := trivial
theorem tw17634576885840793268 : True := trivial
theorem tw16989949058714067226 : True := trivial
theorem tw3468321866443599421 : True := trivial
theorem tw7162019946608351351 : True := trivial
theorem tw8841055452305096517 : True := trivial
theorem tw14902080845510735304 : True := trivial
theorem tw18414205148805378468 : True := trivial
theorem tw3941153333049072099 : True := trivial
theorem tw261516898316023452 : True := trivial
theorem tw7521522481596405874 : True := trivial
theorem tw4974694661422624127 : True := trivial
theorem tw12318559128829013695 : True := trivial
theorem tw4642543794662306520 : True := trivial
theorem tw13897722052184288481 : True := trivial
theorem tw14656357653473953567 : True := trivial
theorem tw16263529597043574281 : True := trivial
theorem tw22360397842474218 : True := trivial
theorem tw6589683573513452863 : True := trivial
theorem tw2286779780810073552 : True := trivial
theorem tw1359615636992584113 : True := trivial
theorem tw11440987926024687588 : True := trivial
theorem tw1320968674600228448 : True := trivial
theorem tw3545651589361355556 : True := trivial
theorem tw17020415560647802864 : True := trivial
theorem tw9335839626883387371 : True := trivial
theorem tw245884844976870989 : True := trivial
theorem tw117518912479950642 : True := trivial
theorem tw7173227109682844402 : True := trivial
theorem tw15427280883108294623 : True := trivial
theorem tw14418077463503689019 : True := trivial
theorem tw14663837010681930108 : True := trivial
theorem tw16038304312476755992 : True := trivial
theorem tw16362853260562970061 : True := trivial
theorem tw5205342971022536917 : True := trivial
theorem tw5737774035269343522 : True := trivial
theorem tw14659874820116343127 : True := trivial
theorem tw10404538068460395247 : True := trivial
theorem tw7987597726569092352 : True := trivial
theorem tw8293041355352576211 : True := trivial
theorem tw6155144987873175538 : True := trivial
theorem tw13823405776462923346 : True := trivial
theorem tw6167604987175493366 : True := trivial
theorem tw6756777953820071143 : True := trivial
theorem tw3576911328376072462 : True := trivial
theorem tw16238972961172629326 : True := trivial
theorem tw13233925792235014107 : True := trivial
theorem tw8531268711311032795 : True := trivial
theorem tw17462423336020484235 : True := trivial
theorem tw15870129933247255884 : True := trivial
theorem tw16863081410847635268 : True := trivial
theorem tw14881374721160882535 : True := trivial
theorem tw15106152683544055378 : True := trivial
theorem tw8942639496648914536 : True := trivial
theorem tw12455694973959239056 : True := trivial
theorem tw17930866585608199685 : True := trivial
theorem tw2021750519528142506 : True := trivial
theorem tw13017727272585874539 : True := trivial
theorem tw4967744060206127066 : True := trivial
theorem tw2423541831904038034 : True := trivial
theorem tw15571943306947402995 : True := trivial
theorem tw10458016679068298 : True := trivial
theorem tw17993949730105928326 : True := trivial
theorem tw11082634509178508180 : True := trivial
theorem tw17060474931136727241 : True := trivial
theorem tw5758485580838206865 : True := trivial
theorem tw14043607798397568727 : True := trivial
theorem tw15299911188463619624 : True := trivial
theorem tw11179125774372380430 : True := trivial
theorem tw5782254906287230534 : True := trivial
theorem tw14092638783220618492 : True := trivial
theorem tw14764771878443574711 : True := trivial
theorem tw16677250355216121597 : True := trivial
theorem tw11047410854156614731 : True := trivial
theorem tw2060412233536800167 : True := trivial
theorem tw14379343205314546257 : True := trivial
theorem tw306840382592652912 : True := trivial
theorem tw13179687461588686468 : True := trivial
theorem tw14713874401166041814 : True := trivial
theorem tw8181058614631657468 : True := trivial
theorem tw11426256372844719869 : True := trivial
theorem tw11385144408998174039 : True := trivial
theorem tw15273484609845322330 : True := trivial
theorem tw7956386849051528880 : True := trivial
theorem tw7531103907328655953 : True := trivial
theorem tw7299639940222940739 : True := trivial
theorem tw2378233322682431461 : True := trivial
theorem tw236691808893479228 : True := trivial
theorem tw2546917881155434939 : True := trivial
theorem tw15519264708146170003 : True := trivial
theorem tw5902249071266887766 : True := trivial
theorem tw14399581768517519669 : True := trivial
theorem tw13825092525187596129 : True := trivial
theorem tw8288662160298637978 : True := trivial
theorem tw5275718173373443656 : True := trivial
theorem tw13768348641737971726 : True := trivial
theorem tw12409344896420827768 : True := trivial
theorem tw9738613774125511739 : True := trivial
theorem tw2728607759190558290 : True := trivial
theorem tw8082853711391271354 : True := trivial
theorem tw15691548136275925544 : True := trivial
theorem tw10333770524120441425 : True := trivial
theorem tw12936802934914804674 : True := trivial
theorem tw10482318862265426243 : True := trivial
theorem tw284145878909396050 : True := trivial
theorem tw6871675958251969137 : True := trivial
theorem tw1303885480503486653 : True := trivial
theorem tw610280450111663309 : True := trivial
theorem tw4152279963256869776 : True := trivial
theorem tw7924204248525445019 : True := trivial
theorem tw6547842127464796632 : True := trivial
theorem tw13298237239307669617 : True := trivial
theorem tw80552059544385886 : True := trivial
theorem tw10954618024010921211 : True := trivial
theorem tw16307863930626719479 : True := trivial
theorem tw13543333117013206329 : True := trivial
theorem tw9296819860164079179 : True := trivial
theorem tw7979308062764113688 : True := trivial
theorem tw17539159428373829002 : True := trivial
theorem tw12430067905536911179 : True := trivial
theorem tw13409561000835451051 : True := trivial
theorem tw7638566171717078072 : True := trivial
theorem tw8024723391779799499 : True := trivial
theorem tw16857436799307671524 : True := trivial
theorem tw16212149947095586001 : True := trivial
theorem tw2616511538870699341 : True := trivial
theorem tw1910003972256720267 : True := trivial
theorem tw15345309273303673363 : True := trivial
theorem tw169877672162682309 : True := trivial
theorem tw13184369361614194597 : True := trivial
theorem tw10213857236489778133 : True := trivial
theorem tw2062595549451145694 : True := trivial
theorem tw8960307055926595492 : True := trivial
theorem tw9826897209979400006 : True := trivial
theorem tw17276920782850344822 : True := trivial
theorem tw17821119178102065888 : True := trivial
theorem tw16033198512912358697 : True := trivial
theorem tw16005897156889634239 : True := trivial
theorem tw13395133228061236583 : True := trivial
theorem tw8402420411723214137 : True := trivial
theorem tw16684063807601517602 : True := trivial
theorem tw856109934563955568 : True := trivial
theorem tw14131386303955939048 : True := trivial
theorem tw14884591265858463001 : True := trivial
theorem tw11632404683319384222 : True := trivial
theorem tw11591057089581674103 : True := trivial
theorem tw17349793742602074329 : True := trivial
theorem tw7306141919776930461 : True := trivial
theorem tw4479233982023330122 : True := trivial
theorem tw15084026797188333635 : True := trivial
theorem tw873862931638452252 : True := trivial
theorem tw12627426534613888555 : True := trivial
theorem tw8607771968881108157 : True := trivial
theorem tw3527430473435016686 : True := trivial
theorem tw1266492824409267149 : True := trivial
theorem tw3868611630597467346 : True := trivial
theorem tw1404093274389883249 : True := trivial
theorem tw4363217623781149661 : True := trivial
theorem tw5588272080199264368 : True := trivial
theorem tw13725049045736580634 : True := trivial
theorem tw16676781353543377881 : True := trivial
theorem tw905564459037341540 : True := trivial
theorem tw5443134768608102180 : True := trivial
theorem tw16394905096159085662 : True := trivial
theorem tw4182681585754802916 : True := trivial
theorem tw6412036093491332928 : True := trivial
theorem tw14173851034921001062 : True := trivial
theorem tw3294901272137641082 : True := trivial
theorem tw13150408309012601125 : True := trivial
theorem tw8895633047300826176 : True := trivial
theorem tw17381639524115811419 : True := trivial
theorem tw4843780131359758687 : True := trivial
theorem tw15500176494054282731 : True := trivial
theorem tw7635728133816380675 : True := trivial
theorem tw2179563039194971004 : True := trivial
theorem tw329224256716841893 : True := trivial
theorem tw6938415623473106146 : True := trivial
theorem tw10244038854193061152 : True := trivial
theorem tw6855839860290769044 : True := trivial
theorem tw5420920185939762367 : True := trivial
theorem tw348031020240441531 : True := trivial
theorem tw13045296865963087389 : True := trivial
theorem tw15416682360131197958 : True := trivial
theorem tw3164125337887769435 : True := trivial
theorem tw13320439251135512519 : True := trivial
theorem tw7310088234626506775 : True := trivial
theorem tw10514958625241862452 : True := trivial
theorem tw6276284447503537020 : True := trivial
theorem tw6063934494774702336 : True := trivial
theorem tw6670818326542953634 : True := trivial
theorem tw11169895286030541250 : True := trivial
theorem tw12727543179582533922 : True := trivial
theorem tw14504440323758357581 : True := trivial
theorem tw7318191900911605198 : True := trivial
theorem tw13319350470077094636 : True := trivial
theorem tw7948817054656385292 : True := trivial
theorem tw4569072654234696114 : True := trivial
theorem tw13184359007832212770 : True := trivial
theorem tw400978464352937073 : True := trivial
theorem tw11993631860159019301 : True := trivial
theorem tw17118819198793672376 : True := trivial
theorem tw4641774364423777675 : True := trivial
theorem tw13363212803672927188 : True := trivial
theorem tw5191170971201610760 : True := trivial
theorem tw14003260407946775456 : True := trivial
theorem tw11542596847617143883 : True := trivial
theorem tw3288957209397994937 : True := trivial
theorem tw18076837098978696069 : True := trivial
theorem tw15985076999320020529 : True := trivial
theorem tw7435882824608014692 : True := trivial
theorem tw1784801923502585762 : True := trivial
theorem tw2092767890187391288 : True := trivial
theorem tw16839814913318705639 : True := trivial
theorem tw5152248256259340246 : True := trivial
theorem tw17161409882102637481 : True := trivial
theorem tw1912292427122009383 : True := trivial
theorem tw1630675768590247352 : True := trivial
theorem tw6404007024949577262 : True := trivial
theorem tw10606298426393590054 : True := trivial
theorem tw1216874123981031279 : True := trivial
theorem tw11170766112824142992 : True := trivial
theorem tw8691601643445849360 : True := trivial
theorem tw7583538958121502396 : True := trivial
theorem tw5898763933347036308 : True := trivial
theorem tw292165816842602429 : True := trivial
theorem tw14326378760073523998 : True := trivial
theorem tw1767244272475232228 : True := trivial
theorem tw7153296281032922283 : True := trivial
theorem tw6737903891597919397 : True := trivial
theorem tw11596779521334695009 : True := trivial
theorem tw7251515711094436251 : True := trivial
theorem tw15105212692800286636 : True := trivial
theorem tw93477544781547386 : True := trivial
theorem tw2029915675680073246 : True := trivial
theorem tw6301893019060814977 : True := trivial
theorem tw11648971834520978389 : True := trivial
theorem tw10010098588055457544 : True := trivial
theorem tw15627941067664094717 : True := trivial
theorem tw12392562752615164811 : True := trivial
theorem tw9474062918002181333 : True := trivial
theorem tw6436475546591375522 : True := trivial
theorem tw2746785067101729384 : True := trivial
theorem tw1098060014619859061 : True := trivial
theorem tw757397199526937593 : True := trivial
theorem tw587607014015254610 : True := trivial
theorem tw14208253805362712905 : True := trivial
theorem tw2495110696486704669 : True := trivial
theorem tw6399499302751616833 : True := trivial
theorem tw6614150454499181445 : True := trivial
theorem tw6146394982572930199 : True := trivial
theorem tw4330397776354777413 : True := trivial
theorem tw7823863877071997471 : True := trivial
theorem tw17987840179366982663 : True := trivial
theorem tw11086593806396154958 : True := trivial
theorem tw7237753439025529833 : True := trivial
theorem tw2034867834596297667 : True := trivial
theorem tw10336473612521147826 : True := trivial
theorem tw1527927684167071678 : True := trivial
theorem tw8528671340519148401 : True := trivial
theorem tw17272950909260472769 : True := trivial
theorem tw8525381099712741618 : True := trivial
theorem tw10175074753204621800 : True := trivial
theorem tw13016257599766549657 : True := trivial
theorem tw868504029350980966 : True := trivial
theorem tw2067082079356286927 : True := trivial
theorem tw8670517907228497128 : True := trivial
theorem tw9695034526660382370 : True := trivial
theorem tw18134141465000509975 : True := trivial
theorem tw16806973423852052016 : True := trivial
theorem tw17646721579508063975 : True := trivial
theorem tw9323197661836486938 : True := trivial
theorem tw16845466311647132796 : True := trivial
theorem tw1656109512396127048 : True := trivial
theorem tw119372773241348137 : True := trivial
theorem tw11986141139703646891 : True := trivial
theorem tw12763876514639491748 : True := trivial
theorem tw15462098213328175296 : True := trivial
theorem tw13047919835754746630 : True := trivial
theorem tw11365354787167535734 : True := trivial
theorem tw14866088748800630907 : True := trivial
theorem tw12800449466686511521 : True := trivial
theorem tw18194336028729138731 : True := trivial
theorem tw18105621689311228495 : True := trivial
theorem tw8602828351717669611 : True := trivial
theorem tw5568735762833316656 : True := trivial
theorem tw17595759063785466631 : True := trivial
theorem tw11513702091336961295 : True := trivial
theorem tw14499044973973749253 : True := trivial
theorem tw3218852065518108090 : True := trivial
theorem tw16314378550602095607 : True := trivial
theorem tw13725273720350586377 : True := trivial
theorem tw916154706315929624 : True := trivial
theorem tw14206842065684057779 : True := trivial
theorem tw7580042698888633198 : True := trivial
theorem tw16374570231228007186 : True := trivial
theorem tw17898596847015418742 : True := trivial
theorem tw6680970047766993749 : True := trivial
theorem tw17382868736073800334 : True := trivial
theorem tw11202818897414182451 : True := trivial
theorem tw15254081636052675063 : True := trivial
theorem tw10503235370985056624 : True := trivial
theorem tw8313701232348124108 : True := trivial
theorem tw8931035869844013552 : True := trivial
theorem tw10269027820947410925 : True := trivial
theorem tw14330794825182369934 : True := trivial
theorem tw14639911787821812579 : True := trivial
theorem tw10841201167060082869 : True := trivial
theorem tw1669684968709561312 : True := trivial
theorem tw1069423019868165657 : True := trivial
theorem tw2589519155982739929 : True := trivial
theorem tw2082448643833412217 : True := trivial
theorem tw5854718733624078139 : True := trivial
theorem tw16408532413124068264 : True := trivial
theorem tw17396741412843100046 : True := trivial
theorem tw8678077491768074897 : True := trivial
theorem tw4946360606868732273 : True := trivial
theorem tw16533711950475804169 : True := trivial
theorem tw15980125025787507590 : True := trivial
theorem tw14928977430297311384 : True := trivial
theorem tw14983222929050817565 : True := trivial
theorem tw18075726615104642476 : True := trivial
theorem tw1091293678312817679 : True := trivial
theorem tw13221086180622462207 : True := trivial
theorem tw10601187507912796608 : True := trivial
theorem tw8583406159496260379 : True := trivial
theorem tw15028385626397766018 : True := trivial
theorem tw2024659793367674922 : True := trivial
theorem tw5170667414225103694 : True := trivial
theorem tw4197134527923821600 : True := trivial
theorem tw13647522393435140415 : True := trivial
theorem tw5438810604192782875 : True := trivial
theorem tw568110546648601889 : True := trivial
theorem tw13475580397930752668 : True := trivial
theorem tw6387811815924539016 : True := trivial
theorem tw7329696808957841759 : True := trivial
theorem tw1565488873444748476 : True := trivial
theorem tw13493786409339064903 : True := trivial
theorem tw14052612103471533064 : True := trivial
theorem tw13285798834841174977 : True := trivial
theorem tw14444173244604107739 : True := trivial
theorem tw18407787953215810142 : True := trivial
theorem tw9171069418554784921 : True := trivial
theorem tw6234207789034508296 : True := trivial
theorem tw6770622086682080238 : True := trivial
theorem tw5028338761253748215 : True := trivial
theorem tw13022099019743611688 : True := trivial
theorem tw16520282924551521211 : True := trivial
theorem tw12340033760766888808 : True := trivial
theorem tw2787727386180432834 : True := trivial
theorem tw12014615804018378006 : True := trivial
theorem tw11526535114000563284 : True := trivial
theorem tw7447101505109152539 : True := trivial
theorem tw1130914101229386593 : True := trivial
theorem tw4091730421708261122 : True := trivial
theorem tw15831611667038073175 : True := trivial
theorem tw287573048872545893 : True := trivial
theorem tw17894249505852443619 : True := trivial
theorem tw13107226141191366220 : True := trivial
theorem tw2738202266568631986 : True := trivial
theorem tw476700458608135893 : True := trivial
theorem tw12428342819048829466 : True := trivial
theorem tw3203291895751174505 : True := trivial
theorem tw17458449721752047763 : True := trivial
theorem tw17677141229476115106 : True := trivial
theorem tw13018844924552967981 : True := trivial
theorem tw13905901269470415547 : True := trivial
theorem tw1798458653127430074 : True := trivial
theorem tw12610682899694649435 : True := trivial
theorem tw5007882389315802468 : True := trivial
theorem tw3870407670272045134 : True := trivial
theorem tw9288939712534809407 : True := trivial
theorem tw10286374196994448231 : True := trivial
theorem tw10259932241753576078 : True := trivial
theorem tw11679637954495308467 : True := trivial
theorem tw8358495806221042015 : True := trivial
theorem tw1125227491370616263 : True := trivial
theorem tw5167570211182221762 : True := trivial
theorem tw13340755810538606335 : True := trivial
theorem tw15572601872440793011 : True := trivial
theorem tw15692923174766028450 : True := trivial
theorem tw16962400551278348443 : True := trivial
theorem tw12323635062555760879 : True := trivial
theorem tw10374824705322828254 : True := trivial
theorem tw15845243084518134871 : True := trivial
theorem tw11022632902604216967 : True := trivial
theorem tw4480457099542397953 : True := trivial
theorem tw558999378356001632 : True := trivial
theorem tw1916221639475195885 : True := trivial
theorem tw6123474974326752707 : True := trivial
theorem tw17681043195293072769 : True := trivial
theorem tw9287165296113565911 : True := trivial
theorem tw14550921023036805856 : True := trivial
theorem tw17268210126558494206 : True := trivial
theorem tw14237088755837883132 : True := trivial
theorem tw13955044006794929576 : True := trivial
theorem tw15872307382285735733 : True := trivial
theorem tw16820367194977588984 : True := trivial
theorem tw3582553078010314994 : True := trivial
theorem tw4643272146712343990 : True := trivial
theorem tw18365917142788822026 : True := trivial
theorem tw1713805027710947539 : True := trivial
theorem tw3713452474696945931 : True := trivial
theorem tw13447253399716162791 : True := trivial
theorem tw3410703265337177909 : True := trivial
theorem tw11001278994580231212 : True := trivial
theorem tw2947486819803435731 : True := trivial
theorem tw12751058299474142744 : True := trivial
theorem tw11253134579019845317 : True := trivial
theorem tw2713391258877153082 : True := trivial
theorem tw9809596609570325316 : True := trivial
theorem tw13924534026377667937 : True := trivial
theorem tw3365671097770314177 : True := trivial
theorem tw4388485141134858813 : True := trivial
theorem tw6875121908433461225 : True := trivial
theorem tw15262665454176109845 : True := trivial
theorem tw11880741634871596242 : True := trivial
theorem tw3740796057481006271 : True := trivial
theorem tw5533906534740095439 : True := trivial
theorem tw15278728125110056606 : True := trivial
theorem tw12400959020021195078 : True := trivial
theorem tw10915862707116560294 : True := trivial
theorem tw793724119662514446 : True := trivial
theorem tw7051026347588057544 : True := trivial
theorem tw7965395769880544621 : True := trivial
theorem tw5507699120854022886 : True := trivial
theorem tw1646635554548441444 : True := trivial
theorem tw8612734826262055458 : True := trivial
theorem tw6931093621255266688 : True := trivial
theorem tw2873401061074859388 : True := trivial
theorem tw13452794824178721601 : True := trivial
theorem tw3613047154843138573 : True := trivial
theorem tw9994247939909454485 : True := trivial
theorem tw4377348139195277866 : True := trivial
theorem tw1797609275311486242 : True := trivial
theorem tw2035605413993880928 : True := trivial
theorem tw9190108509092008471 : True := trivial
theorem tw4403163459289120235 : True := trivial
theorem tw11821480157318811417 : True := trivial
theorem tw1174183416556518392 : True := trivial
theorem tw13128926163025713849 : True := trivial
theorem tw8307087263200215725 : True := trivial
theorem tw10623552932837749591 : True := trivial
theorem tw17477224971636464831 : True := trivial
theorem tw2898977791409587670 : True := trivial
theorem tw18210320381717947609 : True := trivial
theorem tw765658174904522154 : True := trivial
theorem tw1961003363635944821 : True := trivial
theorem tw5194128908726667776 : True := trivial
theorem tw11566687607561898676 : True := trivial
theorem tw8541801707274959496 : True := trivial
theorem tw17886787918109756381 : True := trivial
theorem tw7034378605236372669 : True := trivial
theorem tw16265377688987552387 : True := trivial
theorem tw6844917385307335416 : True := trivial
theorem tw9108768145378833518 : True := trivial
theorem tw3850142608729364137 : True := trivial
theorem tw17357668112970631183 : True := trivial
theorem tw2438164714633701603 : True := trivial
theorem tw12886819560167252131 : True := trivial
theorem tw164648374285481216 : True := trivial
theorem tw10772113424698343964 : True := trivial
theorem tw4278970194748215392 : True := trivial
theorem tw8836657982983772498 : True := trivial
theorem tw10720670523898220954 : True := trivial
theorem tw15679463588564046961 : True := trivial
theorem tw12287420219727898610 : True := trivial
theorem tw8305361150434565489 : True := trivial
theorem tw5969005779560965313 : True := trivial
theorem tw1647269390741973951 : True := trivial
theorem tw10229006743677673413 : True := trivial
theorem tw6057421840148081190 : True := trivial
theorem tw3124921679557773764 : True := trivial
theorem tw8145390637186607919 : True := trivial
theorem tw11901506157048900468 : True := trivial
theorem tw14988662110082266947 : True := trivial
theorem tw17852409540643298583 : True := trivial
theorem tw9833731944090921290 : True := trivial
theorem tw16993954856545285720 : True := trivial
theorem tw16267194187967742656 : True := trivial
theorem tw18232273791485805046 : True := trivial
theorem tw211065694424849095 : True := trivial
theorem tw1774754189224254760 : True := trivial
theorem tw11889109030406169775 : True := trivial
theorem tw6008799720705978978 : True := trivial
theorem tw14288156576384788077 : True := trivial
theorem tw5125928703503166493 : True := trivial
theorem tw6497136451846827117 : True := trivial
theorem tw11666892279878047655 : True := trivial
theorem tw15576939904650125631 : True := trivial
theorem tw13882976752134937007 : True := trivial
theorem tw4238942816694812669 : True := trivial
theorem tw4865250744466007523 : True := trivial
theorem tw14984106694803351532 : True := trivial
theorem tw8620723824262003494 : True := trivial
theorem tw242446296225960091 : True := trivial
theorem tw10463969139540982883 : True := trivial
theorem tw11656752515158777672 : True := trivial
theorem tw5855977059682501352 : True := trivial
theorem tw5868980162854724516 : True := trivial
theorem tw6064537817546646918 : True := trivial
theorem tw1542840166894799656 : True := trivial
theorem tw297225599274431888 : True := trivial
theorem tw5358887939999993483 : True := trivial
theorem tw9886499620716714427 : True := trivial
theorem tw3800283017604447572 : True := trivial
theorem tw11596520853356109849 : True := trivial
theorem tw3940339435336341159 : True := trivial
theorem tw10361507831548202030 : True := trivial
theorem tw14441397968120929020 : True := trivial
theorem tw3271795361777891425 : True := trivial
theorem tw3714677245392823602 : True := trivial
theorem tw17336967495052360684 : True := trivial
theorem tw9017234886943254267 : True := trivial
theorem tw17302583140155358693 : True := trivial
theorem tw1116143106499175345 : True := trivial
theorem tw13158811495294158232 : True := trivial
theorem tw16581157668175837026 : True := trivial
theorem tw8381545281867279733 : True := trivial
theorem tw342478810014315567 : True := trivial
theorem tw12239219000878964064 : True := trivial
theorem tw9586322707309440491 : True := trivial
theorem tw10311906381207069960 : True := trivial
theorem tw8406255098251673823 : True := trivial
theorem tw248696280403085261 : True := trivial
theorem tw18105279804538139620 : True := trivial
theorem tw11147275432002324536 : True := trivial
theorem tw5223381565503747774 : True := trivial
theorem tw10405928695986414855 : True := trivial
theorem tw13038326901709685675 : True := trivial
theorem tw2095959036393887085 : True := trivial
theorem tw15370427011404588730 : True := trivial
theorem tw17520176174196849785 : True := trivial
theorem tw3246706487579953200 : True := trivial
theorem tw12920060040048594845 : True := trivial
theorem tw2983211749975709814 : True := trivial
theorem tw2716639604208587986 : True := trivial
theorem tw9557440387240964127 : True := trivial
theorem tw4813657940453255790 : True := trivial
theorem tw4065254292662997463 : True := trivial
theorem tw1169180157641994103 : True := trivial
theorem tw6996519666652197273 : True := trivial
theorem tw11755074032968060870 : True := trivial
theorem tw17842128301516100290 : True := trivial
theorem tw6518333745799499747 : True := trivial
theorem tw4712167126597618651 : True := trivial
theorem tw8084199527363468609 : True := trivial
theorem tw8263526575790119020 : True := trivial
theorem tw4008493233221307232 : True := trivial
theorem tw10173372176761257023 : True := trivial
theorem tw7254383036626584073 : True := trivial
theorem tw11180598649393981644 : True := trivial
theorem tw6197135063372063959 : True := trivial
theorem tw228144416119807187 : True := trivial
theorem tw3537360080230293344 : True := trivial
theorem tw12523531915416821962 : True := trivial
theorem tw3919792732409536758 : True := trivial
theorem tw6294995005565706780 : True := trivial
theorem tw2462799206546704441 : True := trivial
theorem tw14054710208915516257 : True := trivial
theorem tw16739147860063609712 : True := trivial
theorem tw11566344102480693220 : True := trivial
theorem tw10585167245925474520 : True := trivial
theorem tw7781272440386579409 : True := trivial
theorem tw3713311683467855487 : True := trivial
theorem tw13771222362296596485 : True := trivial
theorem tw17211564975262897518 : True := trivial
theorem tw18341603199147320889 : True := trivial
theorem tw13619122565822503504 : True := trivial
theorem tw7377383798537720176 : True := trivial
theorem tw3431419320333291442 : True := trivial
theorem tw8546334153608025479 : True := trivial
theorem tw12070738882511281805 : True := trivial
theorem tw7974506940270338085 : True := trivial
theorem tw6064117721742762977 : True := trivial
theorem tw17528414359883886844 : True := trivial
theorem tw1781279365435816726 : True := trivial
theorem tw719239913327936297 : True := trivial
theorem tw1760584657213771524 : True := trivial
theorem tw338233380585802455 : True := trivial
theorem tw15620939692979866321 : True := trivial
theorem tw9155318415590840844 : True := trivial
theorem tw4414927541810618567 : True := trivial
theorem tw10347117323447501830 : True := trivial
theorem tw7631335527949334570 : True := trivial
theorem tw10836819869761076785 : True := trivial
theorem tw10935395657443736843 : True := trivial
theorem tw9142056048301449684 : True := trivial
theorem tw17761234965707917177 : True := trivial
theorem tw16568238646679203082 : True := trivial
theorem tw17747527274594372809 : True := trivial
theorem tw10268837182093200979 : True := trivial
theorem tw10186570464404227175 : True := trivial
theorem tw5376726444717779559 : True := trivial
theorem tw1793626303844683377 : True := trivial
theorem tw14691622082740055918 : True := trivial
theorem tw17309447086232465697 : True := trivial
theorem tw10703014849027856695 : True := trivial
theorem tw6864908350541565129 : True := trivial
theorem tw1172469185576403941 : True := trivial
theorem tw1241718507317094705 : True := trivial
theorem tw14103815975565529208 : True := trivial
theorem tw6908832686203135925 : True := trivial
theorem tw2487664239771007427 : True := trivial
theorem tw11971424397086349097 : True := trivial
theorem tw12169597663584413438 : True := trivial
theorem tw1314205378510112948 : True := trivial
theorem tw5394662625863624280 : True := trivial
theorem tw6654230562570457363 : True := trivial
theorem tw7978806973258470275 : True := trivial
theorem tw9300115980347720334 : True := trivial
theorem tw15830379128945475401 : True := trivial
theorem tw3996498968020073871 : True := trivial
theorem tw16287064269141657977 : True := trivial
theorem tw4303523836958631584 : True := trivial
theorem tw14923261072695133519 : True := trivial
theorem tw4373515478629580266 : True := trivial
theorem tw13692358619950436492 : True := trivial
theorem tw2092382131568750263 : True := trivial
theorem tw7776790054979667184 : True := trivial
theorem tw5721480041115923043 : True := trivial
theorem tw15878471089361837837 : True := trivial
theorem tw944904509079575106 : True := trivial
theorem tw13020370607011757468 : True := trivial
theorem tw4188197581908951804 : True := trivial
theorem tw4640013006960762684 : True := trivial
theorem tw9904254678299384772 : True := trivial
theorem tw15608624792475723272 : True := trivial
theorem tw1355802174934552963 : True := trivial
theorem tw10064985350886283202 : True := trivial
theorem tw3912027135640746907 : True := trivial
theorem tw9253345500629467272 : True := trivial
theorem tw9672188120397458747 : True := trivial
theorem tw1243840256866555650 : True := trivial
theorem tw13392514218609277303 : True := trivial
theorem tw11519037202507485336 : True := trivial
theorem tw14165368544659744103 : True := trivial
theorem tw16439165229198226429 : True := trivial
theorem tw7837643127490810560 : True := trivial
theorem tw14862163085443851256 : True := trivial
theorem tw17431527608233123451 : True := trivial
theorem tw10869955522078725051 : True := trivial
theorem tw1453867783228449657 : True := trivial
theorem tw7113774961707447328 : True := trivial
theorem tw6154149319011545493 : True := trivial
theorem tw10148163429723489977 : True := trivial
theorem tw7391668141780362621 : True := trivial
theorem tw6861200035159801070 : True := trivial
theorem tw13495698051091044037 : True := trivial
theorem tw5346270144983673927 : True := trivial
theorem tw13891509564177548235 : True := trivial
theorem tw4086200923092675680 : True := trivial
theorem tw3568931844596666778 : True := trivial
theorem tw11333034255076512408 : True := trivial
theorem tw2261443805649316949 : True := trivial
theorem tw4311058163581250085 : True := trivial
theorem tw15881969554246547658 : True := trivial
theorem tw14186878154830220134 : True := trivial
theorem tw1937581435032039659 : True := trivial
theorem tw1612027373279964191 : True := trivial
theorem tw14014437623036038193 : True := trivial
theorem tw10307315137179184567 : True := trivial
theorem tw17780967944133855490 : True := trivial
theorem tw16355602126349372008 : True := trivial
theorem tw7655236735907936321 : True := trivial
theorem tw10904517956854677041 : True := trivial
theorem tw11145147944063298240 : True := trivial
theorem tw10400601622368629159 : True := trivial
theorem tw11020177730750723386 : True := trivial
theorem tw11019086066330845182 : True := trivial
theorem tw6513867439348154582 : True := trivial
theorem tw16551684522346785516 : True := trivial
theorem tw16535411457164778834 : True := trivial
theorem tw7867777125523263608 : True := trivial
theorem tw3900872284779569189 : True := trivial
theorem tw7014557998916042290 : True := trivial
theorem tw12901551709702422020 : True := trivial
theorem tw14554249000454967377 : True := trivial
theorem tw1438041764453327633 : True := trivial
theorem tw97062391878346038 : True := trivial
theorem tw15313897831170876787 : True := trivial
theorem tw4135935065549399116 : True := trivial
theorem tw13039443530043175752 : True := trivial
theorem tw13418198726540873219 : True := trivial
theorem tw11972704984983675132 : True := trivial
theorem tw12977416016330057806 : True := trivial
theorem tw13631532121961281262 : True := trivial
theorem tw13180383436819388124 : True := trivial
theorem tw1838910094225538922 : True := trivial
theorem tw1983713403206696841 : True := trivial
theorem tw5939129833516195706 : True := trivial
theorem tw545286557989621191 : True := trivial
theorem tw3214188864637631978 : True := trivial
theorem tw4442179547006692481 : True := trivial
theorem tw5259972645027870227 : True := trivial
theorem tw9690069102594834828 : True := trivial
theorem tw6469131876263242300 : True := trivial
theorem tw12987119131205274671 : True := trivial
theorem tw16482297658660062435 : True := trivial
theorem tw11989460073298227995 : True := trivial
theorem tw15109321688527954569 : True := trivial
theorem tw9256868611493607395 : True := trivial
theorem tw16083844503253355102 : True := trivial
theorem tw17070279294229039183 : True := trivial
theorem tw15407458886087256605 : True := trivial
theorem tw1532952606380937218 : True := trivial
theorem tw1128250576746906066 : True := trivial
theorem tw3678534092747066182 : True := trivial
theorem tw11188714471357122786 : True := trivial
theorem tw3259710366836214002 : True := trivial
theorem tw12911787118075630397 : True := trivial
theorem tw13853593377693238290 : True := trivial
theorem tw9827093446752808428 : True := trivial
theorem tw17912516845054550189 : True := trivial
theorem tw4482023493503865896 : True := trivial
theorem tw10903758324799706844 : True := trivial
theorem tw8371515207901135737 : True := trivial
theorem tw11293136127723409355 : True := trivial
theorem tw5749307522938413743 : True := trivial
theorem tw7670438568214196919 : True := trivial
theorem tw9264773651939120470 : True := trivial
theorem tw17962360294318784267 : True := trivial
theorem tw5453166501262081541 : True := trivial
theorem tw4927836021406366321 : True := trivial
theorem tw9212127867560782595 : True := trivial
theorem tw10994243393523836019 : True := trivial
theorem tw499748065583788821 : True := trivial
theorem tw9160664833132745042 : True := trivial
theorem tw12348776762914002080 : True := trivial
theorem tw4097510147644929930 : True := trivial
theorem tw1249709721612366207 : True := trivial
theorem tw17402486979953032365 : True := trivial
theorem tw6787534467274665208 : True := trivial
theorem tw5213488575752412520 : True := trivial
theorem tw3440485718591009313 : True := trivial
theorem tw14813389637281143918 : True := trivial
theorem tw10134943105429505405 : True := trivial
theorem tw12200977499088427643 : True := trivial
theorem tw13464321104071922810 : True := trivial
theorem tw4272927033612158226 : True := trivial
theorem tw194346317167327709 : True := trivial
theorem tw7609706095997994693 : True := trivial
theorem tw667583794040619252 : True := trivial
theorem tw11546214392176294856 : True := trivial
theorem tw5801038303160131283 : True := trivial
theorem tw7964976687944966628 : True := trivial
theorem tw1190682925051762125 : True := trivial
theorem tw5621087267591725542 : True := trivial
theorem tw6933586086696836803 : True := trivial
theorem tw17246593308132112670 : True := trivial
theorem tw1755202750425697532 : True := trivial
theorem tw11968639406746583106 : True := trivial
theorem tw8700009196279916751 : True := trivial
theorem tw16187764816154563996 : True := trivial
theorem tw13072100755091079039 : True := trivial
theorem tw5496537582514155504 : True := trivial
theorem tw11044072958309921141 : True := trivial
theorem tw3743973588910963874 : True := trivial
theorem tw1421723259156711436 : True := trivial
theorem tw1080838308730704041 : True := trivial
theorem tw8060951350828863664 : True := trivial
theorem tw17536188037587176153 : True := trivial
theorem tw7379031067307455397 : True := trivial
theorem tw11396484555929058499 : True := trivial
theorem tw3743141073174170794 : True := trivial
theorem tw13454605453407465709 : True := trivial
theorem tw17659375771310757393 : True := trivial
theorem tw7953199241638270132 : True := trivial
theorem tw12404391956367378134 : True := trivial
theorem tw17096191461638758543 : True := trivial
theorem tw8273718555902999610 : True := trivial
theorem tw7191919545241435630 : True := trivial
theorem tw9458986522638204619 : True := trivial
theorem tw6784407630817217355 : True := trivial
theorem tw8136033368773834279 : True := trivial
theorem tw5065847291325000188 : True := trivial
theorem tw8259240527906072403 : True := trivial
theorem tw14434594643853326460 : True := trivial
theorem tw16543993987842564634 : True := trivial
theorem tw15158825239335801584 : True := trivial
theorem tw428940903557511369 : True := trivial
theorem tw1962705144548174673 : True := trivial
theorem tw10539265456450012947 : True := trivial
theorem tw7305528858247640992 : True := trivial
theorem tw1754033648604706726 : True := trivial
theorem tw5986187474701949387 : True := trivial
theorem tw9340257213476319054 : True := trivial
theorem tw14848703151121314607 : True := trivial
theorem tw17134851651188606625 : True := trivial
theorem tw581835235905112365 : True := trivial
theorem tw14210204335335386615 : True := trivial
theorem tw6787986468380153348 : True := trivial
theorem tw6491796576978659795 : True := trivial
theorem tw15766267033381668420 : True := trivial
theorem tw9444501449552003502 : True := trivial
theorem tw1845436598116550766 : True := trivial
theorem tw6476865656260189088 : True := trivial
theorem tw14355893518899275661 : True := trivial
theorem tw17165852165402566992 : True := trivial
theorem tw3640633995334096423 : True := trivial
theorem tw2916135195772456310 : True := trivial
theorem tw16287845397762310267 : True := trivial
theorem tw12939421754512443783 : True := trivial
theorem tw15010078545487970985 : True := trivial
theorem tw12894452082445663591 : True := trivial
theorem tw5002991322800427348 : True := trivial
theorem tw16220586841115935564 : True := trivial
theorem tw16283567325919742964 : True := trivial
theorem tw9556777300654059994 : True := trivial
theorem tw9711532156550188622 : True := trivial
theorem tw8179208795326871411 : True := trivial
theorem tw18264454186427794581 : True := trivial
theorem tw62278958169135107 : True := trivial
theorem tw5530965200508825748 : True := trivial
theorem tw5289027818242608169 : True := trivial
theorem tw9736439474560238914 : True := trivial
theorem tw10408833252666545129 : True := trivial
theorem tw17190575982749380320 : True := trivial
theorem tw5279169055152149456 : True := trivial
theorem tw434095024239141209 : True := trivial
theorem tw8885689080273130433 : True := trivial
theorem tw12557042346220785814 : True := trivial
theorem tw7779619553611156416 : True := trivial
theorem tw4688881621209274456 : True := trivial
theorem tw12917576736256924861 : True := trivial
theorem tw650250060665920622 : True := trivial
theorem tw13588741804490655292 : True := trivial
theorem tw2644745416395814256 : True := trivial
theorem tw390959846631845221 : True := trivial
theorem tw14464186895188431767 : True := trivial
theorem tw2656811965163527099 : True := trivial
theorem tw11723471727296761397 : True := trivial
theorem tw3589748732665677532 : True := trivial
theorem tw6135520821320208343 : True := trivial
theorem tw15044209708990480741 : True := trivial
theorem tw9433445231093533620 : True := trivial
theorem tw285134748760552813 : True := trivial
theorem tw7699260088098538474 : True := trivial
theorem tw16465988492240000770 : True := trivial
theorem tw14906811505684670503 : True := trivial
theorem tw4426846640935802998 : True := trivial
theorem tw15955981199017293493 : True := trivial
theorem tw9924223040000683494 : True := trivial
theorem tw3510243640227067744 : True := trivial
theorem tw6593849723839929134 : True := trivial
theorem tw10993557822379570056 : True := trivial
theorem tw11857234226301011459 : True := trivial
theorem tw13224332137293541985 : True := trivial
theorem tw16719096258151419576 : True := trivial
theorem tw15343841154864229095 : True := trivial
theorem tw13230720038885279398 : True := trivial
theorem tw10319216937919820944 : True := trivial
theorem tw6307184242814289378 : True := trivial
theorem tw1686019063230140384 : True := trivial
theorem tw7971944465738908602 : True := trivial
theorem tw4344256412608458623 : True := trivial
theorem tw17666358665878741179 : True := trivial
theorem tw8586659775989725709 : True := trivial
theorem tw7764204179311723384 : True := trivial
theorem tw15738569929168250031 : True := trivial
theorem tw12686864266074545417 : True := trivial
theorem tw14007505127512454087 : True := trivial
theorem tw5794695405635931356 : True := trivial
theorem tw12185722496912018709 : True := trivial
theorem tw4923311868036525987 : True := trivial
theorem tw18162528104055022156 : True := trivial
theorem tw14599184131642064655 : True := trivial
theorem tw7250147155306911888 : True := trivial
theorem tw14933380900076870524 : True := trivial
theorem tw10680442115504692199 : True := trivial
theorem tw16287169067924060478 : True := trivial
theorem tw17354733294261944092 : True := trivial
theorem tw12865227690301141299 : True := trivial
theorem tw3770876982032487092 : True := trivial
theorem tw7391235874761780885 : True := trivial
theorem tw3090056601491302099 : True := trivial
theorem tw10375898731588218968 : True := trivial
theorem tw6944322637808229053 : True := trivial
theorem tw4316866978140835872 : True := trivial
theorem tw4767050087144804365 : True := trivial
theorem tw14032964613127624846 : True := trivial
theorem tw6225254471344584189 : True := trivial
theorem tw7532082728870901540 : True := trivial
theorem tw13965917472671043311 : True := trivial
theorem tw4048909135844432857 : True := trivial
theorem tw1538788430101099656 : True := trivial
theorem tw3466180812956205622 : True := trivial
theorem tw13242135412301081821 : True := trivial
theorem tw4769627849158774890 : True := trivial
theorem tw1170617750160837443 : True := trivial
theorem tw2004128554233802445 : True := trivial
theorem tw9194055890021058191 : True := trivial
theorem tw12196388165650582199 : True := trivial
theorem tw2518894670926376212 : True := trivial
theorem tw4411916216792417634 : True := trivial
theorem tw7797067996118876301 : True := trivial
theorem tw3641582880530436339 : True := trivial
theorem tw12807627716206497739 : True := trivial
theorem tw3289334026719146320 : True := trivial
theorem tw1654469688747980390 : True := trivial
theorem tw946342537480848718 : True := trivial
theorem tw14790942626117871924 : True := trivial
theorem tw4111135835557891347 : True := trivial
theorem tw6603091240651351125 : True := trivial
theorem tw12002646025354361551 : True := trivial
theorem tw16437395118631582332 : True := trivial
theorem tw9123086965056788823 : True := trivial
theorem tw8701717091496314783 : True := trivial
theorem tw17314175117001200157 : True := trivial
theorem tw2148734887539975500 : True := trivial
theorem tw12711020428450217838 : True := trivial
theorem tw4856866615398699983 : True := trivial
theorem tw10649962901307044217 : True := trivial
theorem tw2803100745643677656 : True := trivial
theorem tw12823879803318141752 : True := trivial
theorem tw1415016817105929461 : True := trivial
theorem tw8535421732681729083 : True := trivial
theorem tw9159547334661834886 : True := trivial
theorem tw704976399716074692 : True := trivial
theorem tw14737554611872106788 : True := trivial
theorem tw9127838014750644448 : True := trivial
theorem tw9609137211471507036 : True := trivial
theorem tw13205015033764157147 : True := trivial
theorem tw6548872887572521361 : True := trivial
theorem tw18442885223208447282 : True := trivial
theorem tw17007804177642886061 : True := trivial
theorem tw8395959443826950191 : True := trivial
theorem tw3680128543944852419 : True := trivial
theorem tw12197946038972609650 : True := trivial
theorem tw1537405447828024135 : True := trivial
theorem tw8594876298515752919 : True := trivial
theorem tw12727179593606502327 : True := trivial
theorem tw16218694067311985399 : True := trivial
theorem tw13038081214657371126 : True := trivial
theorem tw3707918080055390651 : True := trivial
theorem tw12528770815322497320 : True := trivial
theorem tw10329707344330852164 : True := trivial
theorem tw6941735218188067733 : True := trivial
theorem tw12078251363163317081 : True := trivial
theorem tw1779898052864742191 : True := trivial
theorem tw1396203868961947098 : True := trivial
theorem tw11068514750514876319 : True := trivial
theorem tw7534514466867856982 : True := trivial
theorem tw10247463662509688272 : True := trivial
theorem tw1802324846803405386 : True := trivial
theorem tw4225962437565567197 : True := trivial
theorem tw653746303137433338 : True := trivial
theorem tw16294943750293464839 : True := trivial
theorem tw1237824030024416431 : True := trivial
theorem tw9269701902639099667 : True := trivial
theorem tw5557817998525003073 : True := trivial
theorem tw4031862382814301255 : True := trivial
theorem tw3003105584629451385 : True := trivial
theorem tw8827348054284215753 : True := trivial
theorem tw13797074370337537846 : True := trivial
theorem tw6547055179178689838 : True := trivial
theorem tw14911450281504980161 : True := trivial
theorem tw7237560964308524225 : True := trivial
theorem tw17118501743522693757 : True := trivial
theorem tw15724760949052647947 : True := trivial
theorem tw12753326926241935251 : True := trivial
theorem tw8349429421916636146 : True := trivial
theorem tw12390334838580402259 : True := trivial
theorem tw6536635572600926617 : True := trivial
theorem tw2350915731934515091 : True := trivial
theorem tw10580004559853871279 : True := trivial
theorem tw5699297933810556520 : True := trivial
theorem tw8860676347008784613 : True := trivial
theorem tw1381591185393271335 : True := trivial
theorem tw210362743480195647 : True := trivial
theorem tw8349000721396615565 : True := trivial
theorem tw16940802701540414089 : True := trivial
theorem tw2161551659347985026 : True := trivial
theorem tw4904924137696566534 : True := trivial
theorem tw5713896766619590875 : True := trivial
theorem tw6728649311714571433 : True := trivial
theorem tw4184244140010110109 : True := trivial
theorem tw10169733369158808998 : True := trivial
theorem tw2188013460566922576 : True := trivial
end PySem.W.Fast
open PySem PySem.W PyProof.Rows
set_option maxRecDepth 100000 in
set_option maxHeartbeats 0 in
theorem PySem.Challenge.cw_trickproof_k13_whole_duties_one_in_anoth_holds : PySem.Challenge.rw_trickproof_k13_whole_duties_one_in_anoth.Holds := by
  w_on; o_law; k_head; (case hw => w_witness2)
  k_fill
  refine My.walk (l := PySem.Challenge.rw_trickproof_k13_whole_duties_one_in_anoth) rfl rfl (fun w h Y => PySem.W.kIn_of Y) ?F
  case F =>
    intro w mg fa h KX G hmg
    refine' My.all_mk KX G hmg ?a1 ?l1 ?c1 ?k1 ?a2 ?l2 ?c2 ?k2 ?a3 ?l3 ?c3 ?k3 ?a4 ?l4 ?c4 ?k4 ?a5 ?l5 ?c5 ?k5 ?a6 ?l6 ?c6 ?k6 ?a7 ?l7 ?c7 ?k7 ?a8 ?l8 ?c8 ?k8 ?a9 ?l9 ?c9 ?k9 ?a10 ?l10 ?c10 ?k10 ?a11 ?l11 ?c11 ?k11 ?a12 ?l12 ?c12 ?k12 ?a13 ?l13 ?c13 ?k13 ?a14 ?l14 ?c14 ?k14 ?a15 ?l15 ?c15 ?k15 ?a16 ?l16 ?c16 ?k16 ?a17 ?l17 ?c17 ?k17 ?a18 ?l18 ?c18 ?k18 ?a19 ?l19 ?c19 ?k19 ?a20 ?l20 ?c20 ?k20 ?a21 ?l21 ?c21 ?k21 ?a22 ?l22 ?c22 ?k22 ?a23 ?l23 ?c23 ?k23 ?a24 ?l24 ?c24 ?k24 ?a25 ?l25 ?c25 ?k25 ?a_F ?l_F ?c_F ?k_F ?i_F ?a_L ?l_L ?c_L ?k_L ?i_L ?a_C ?l_C ?c_C ?k_C ?i_C ?a_B ?l_B ?c_B ?k_B ?i_B ?a_AF ?l_AF ?c_AF ?k_AF ?i_AF ?a_AL ?l_AL ?c_AL ?k_AL ?i_AL ?a_AC ?l_AC ?c_AC ?k_AC ?i_AC ?a_AB ?l_AB ?c_AB ?k_AB ?i_AB ?a_I ?l_I ?c_I ?k_I ?i_I ?a_D ?l_D ?c_D ?k_D ?i_D ?a_O ?l_O ?c_O ?k_O ?i_O ?a_G ?l_G ?c_G ?k_G ?i_G ?a_S ?l_S ?c_S ?k_S ?i_S ?a_V ?l_V ?c_V ?k_V ?i_V ?a_M ?l_M ?c_M ?k_M ?i_M ?a_W ?l_W ?c_W ?k_W ?i_W ?g1 ?g2 ?g3 ?g4 ?z1 ?z2 ?z3 ?z4 ?z5 ?z6 ?z7 ?z8 ?z9 ?z10 ?z11 ?hCN ?hCF ?hCL ?hCC ?hCB ?hCT ?hCG ?x1 ?pgCF ?hdCF ?poCF ?saCF ?mkCF ?kcCF ?oiCF ?pgCL ?hdCL ?poCL ?saCL ?mkCL ?kcCL ?oiCL ?pgCC ?hdCC ?poCC ?saCC ?mkCC ?kcCC ?oiCC ?pgCB ?hdCB ?poCB ?saCB ?mkCB ?kcCB ?oiCB ?pgCT ?hdCT ?poCT ?saCT ?mkCT ?kcCT ?pgCG ?hdCG ?poCG ?saCG ?mkCG ?kcCG ?nTS ?nTH ?nTN ?nTD ?nTP ?nTT ?nTW ?nGT ?nGU ?w1 ?w2 ?w3
    (case hCN => k_is)
    (case hCF => k_is)
    (case hCL => k_is)
    (case hCC => k_is)
    (case hCB => k_is)
    (case hCT => k_is)
    (case hCG => k_is)
    (case w1 => k_is)
    (case a1 => k_is)
    (case l1 => k_is)
    (case c1 => k_is)
    (case k1 => k_is)
    (case a2 => k_is)
    (case l2 => k_is)
    (case c2 => k_is)
    (case k2 => k_is)
    (case a3 => k_is)
    (case l3 => k_is)
    (case c3 => k_is)
    (case k3 => k_is)
    (case a4 => k_is)
    (case l4 => k_is)
    (case c4 => k_is)
    (case k4 => k_is)
    (case a5 => k_is)
    (case l5 => k_is)
    (case c5 => k_is)
    (case k5 => k_is)
    (case a6 => k_is)
    (case l6 => k_is)
    (case c6 => k_is)
    (case k6 => k_is)
    (case a7 => k_is)
    (case l7 => k_is)
    (case c7 => k_is)
    (case k7 => k_is)
    (case a8 => k_is)
    (case l8 => k_is)
    (case c8 => k_is)
    (case k8 => k_is)
    (case a9 => k_is)
    (case l9 => k_is)
    (case c9 => k_is)
    (case k9 => k_is)
    (case a10 => k_is)
    (case l10 => k_is)
    (case c10 => k_is)
    (case k10 => k_is)
    (case a11 => k_is)
    (case l11 => k_is)
    (case c11 => k_is)
    (case k11 => k_is)
    (case a12 => k_is)
    (case l12 => k_is)
    (case c12 => k_is)
    (case k12 => k_is)
    (case a13 => k_is)
    (case l13 => k_is)
    (case c13 => k_is)
    (case k13 => k_is)
    (case a14 => k_is)
    (case l14 => k_is)
    (case c14 => k_is)
    (case k14 => k_is)
    (case a15 => k_is)
    (case l15 => k_is)
    (case c15 => k_is)
    (case k15 => k_is)
    (case a16 => k_is)
    (case l16 => k_is)
    (case c16 => k_is)
    (case k16 => k_is)
    (case a17 => k_is)
    (case l17 => k_is)
    (case c17 => k_is)
    (case k17 => k_is)
    (case a18 => k_is)
    (case l18 => k_is)
    (case c18 => k_is)
    (case k18 => k_is)
    (case a19 => k_is)
    (case l19 => k_is)
    (case c19 => k_is)
    (case k19 => k_is)
    (case a20 => k_is)
    (case l20 => k_is)
    (case c20 => k_is)
    (case k20 => k_is)
    (case a21 => k_is)
    (case l21 => k_is)
    (case c21 => k_is)
    (case k21 => k_is)
    (case a22 => k_is)
    (case l22 => k_is)
    (case c22 => k_is)
    (case k22 => k_is)
    (case a23 => k_is)
    (case l23 => k_is)
    (case c23 => k_is)
    (case k23 => k_is)
    (case a24 => k_is)
    (case l24 => k_is)
    (case c24 => k_is)
    (case k24 => k_is)
    (case a25 => k_is)
    (case l25 => k_is)
    (case c25 => k_is)
    (case k25 => k_is)
    (case a_F => k_is)
    (case l_F => k_is)
    (case c_F => k_is)
    (case k_F => k_is)
    (case i_F => k_is)
    (case a_L => k_is)
    (case l_L => k_is)
    (case c_L => k_is)
    (case k_L => k_is)
    (case i_L => k_is)
    (case a_C => k_is)
    (case l_C => k_is)
    (case c_C => k_is)
    (case k_C => k_is)
    (case i_C => k_is)
    (case a_B => k_is)
    (case l_B => k_is)
    (case c_B => k_is)
    (case k_B => k_is)
    (case i_B => k_is)
    (case a_AF => k_is)
    (case l_AF => k_is)
    (case c_AF => k_is)
    (case k_AF => k_is)
    (case i_AF => k_is)
    (case a_AL => k_is)
    (case l_AL => k_is)
    (case c_AL => k_is)
    (case k_AL => k_is)
    (case i_AL => k_is)
    (case a_AC => k_is)
    (case l_AC => k_is)
    (case c_AC => k_is)
    (case k_AC => k_is)
    (case i_AC => k_is)
    (case a_AB => k_is)
    (case l_AB => k_is)
    (case c_AB => k_is)
    (case k_AB => k_is)
    (case i_AB => k_is)
    (case a_I => k_is)
    (case l_I => k_is)
    (case c_I => k_is)
    (case k_I => k_is)
    (case i_I => k_is)
    (case a_D => k_is)
    (case l_D => k_is)
    (case c_D => k_is)
    (case k_D => k_is)
    (case i_D => k_is)
    (case a_O => k_is)
    (case l_O => k_is)
    (case c_O => k_is)
    (case k_O => k_is)
    (case i_O => k_is)
    (case a_G => k_is)
    (case l_G => k_is)
    (case c_G => k_is)
    (case k_G => k_is)
    (case i_G => k_is)
    (case a_S => k_is)
    (case l_S => k_is)
    (case c_S => k_is)
    (case k_S => k_is)
    (case i_S => k_is)
    (case a_V => k_is)
    (case l_V => k_is)
    (case c_V => k_is)
    (case k_V => k_is)
    (case i_V => k_is)
    (case a_M => k_is)
    (case l_M => k_is)
    (case c_M => k_is)
    (case k_M => k_is)
    (case i_M => k_is)
    (case a_W => k_is)
    (case l_W => k_is)
    (case c_W => k_is)
    (case k_W => k_is)
    (case i_W => k_is)
    (case g1 => k_is)
    (case g2 => k_is)
    (case g3 => k_is)
    (case g4 => k_is)
    (case z1 => k_is)
    (case z2 => k_is)
    (case z3 => k_is)
    (case z4 => k_is)
    (case z5 => k_is)
    (case z6 => k_is)
    (case z7 => k_is)
    (case z8 => k_is)
    (case z9 => k_is)
    (case z10 => k_is)
    (case z11 => k_is)
    (case x1 => k_exc)
    (case pgCF => k_is)
    (case hdCF => k_is)
    (case poCF => k_is)
    (case saCF => k_is)
    (case mkCF => k_is)
    (case kcCF => k_is)
    (case oiCF => k_is)
    (case pgCL => k_is)
    (case hdCL => k_is)
    (case poCL => k_is)
    (case saCL => k_is)
    (case mkCL => k_is)
    (case kcCL => k_is)
    (case oiCL => k_is)
    (case pgCC => k_is)
    (case hdCC => k_is)
    (case poCC => k_is)
    (case saCC => k_is)
    (case mkCC => k_is)
    (case kcCC => k_is)
    (case oiCC => k_is)
    (case pgCB => k_is)
    (case hdCB => k_is)
    (case poCB => k_is)
    (case saCB => k_is)
    (case mkCB => k_is)
    (case kcCB => k_is)
    (case oiCB => k_is)
    (case pgCT => k_is)
    (case hdCT => k_is)
    (case poCT => k_is)
    (case saCT => k_is)
    (case mkCT => k_is)
    (case kcCT => k_is)
    (case pgCG => k_is)
    (case hdCG => k_is)
    (case poCG => k_is)
    (case saCG => k_is)
    (case mkCG => k_is)
    (case kcCG => k_is)
    (case nTS => k_is)
    (case nTH => k_is)
    (case nTN => k_is)
    (case nTD => k_is)
    (case nTP => k_is)
    (case nTT => k_is)
    (case nTW => k_is)
    (case nGT => k_is)
    (case nGU => k_is)
    (case w2 => k_is)
    (case w3 => k_is)
#print axioms PySem.Challenge.cw_trickproof_k13_whole_duties_one_in_anoth_holds

