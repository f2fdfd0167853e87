import PyProof.Rows.All
import Wide.All
import OpenK.AllK
import Wide.FinOn
import Lean
import PyProof.EqAt
import PyProof.EqKinds
import PyProof.TupleCall
import PyProof.NeKinds
import PyProof.ListStr
import PyProof.Rows.SortStr
import KE.KIntText
import PySem.Challenge.RW_trickproof_k19_contracts
set_option Elab.async false
set_option linter.all false
set_option maxRecDepth 100000
/-! THE HAND LAYER, for ints, bools, texts, own classes, LISTS and tuples (index, slices, in, append, pop ..), calls, loops. Paste it whole ahead of your own text; what your proof does not reach may be deleted. -/
namespace L2
open PySem PySem.Spec PyProof.Rows

/-- a key: an int or a str -/
abbrev Key := Sum Int Str
def keyIs : Key → Value → Bool
  | .inl k, v => Value.isInt k v
  | .inr x, v => Value.isStrOf x v
def keyH (w : World) : Key → Int
  | .inl k => hashInt k
  | .inr x => hashStr w x
theorem keyIs_shape : ∀ {k : Key} {v : Value}, keyIs k v = true → (∃ i t, k = Sum.inl i ∧ v = Value.int i t) ∨ (∃ x t, k = Sum.inr x ∧ v = Value.str x t)
  | .inl i, v, h => by
    obtain ⟨t, e⟩ := Value.isInt_shape (k := i) (v := v) h
    exact .inl ⟨i, t, rfl, e⟩
  | .inr x, v, h => by
    obtain ⟨t, e⟩ := Value.isStrOf_shape (x := x) (v := v) h
    exact .inr ⟨x, t, rfl, e⟩
theorem key_ll (a b : Int) : decide ((Sum.inl a : Key) = Sum.inl b) = (a == b) := by
  by_cases e : a = b
  · subst e; simp
  · have h : ¬ (Sum.inl a : Key) = Sum.inl b := fun q => e (Sum.inl.inj q)
    rw [decide_eq_false h]
    exact (beq_eq_false_iff_ne.mpr e).symm
theorem key_rr (a b : Str) : decide ((Sum.inr a : Key) = Sum.inr b) = decide (a = b) := by
  by_cases e : a = b
  · subst e; simp
  · have h : ¬ (Sum.inr a : Key) = Sum.inr b := fun q => e (Sum.inr.inj q)
    rw [decide_eq_false h, decide_eq_false e]
theorem key_lr (a : Int) (b : Str) : decide ((Sum.inl a : Key) = Sum.inr b) = false := decide_eq_false (fun q => nomatch q)
theorem key_rl (a : Str) (b : Int) : decide ((Sum.inr a : Key) = Sum.inl b) = false := decide_eq_false (fun q => nomatch q)

def mixKind (prog : Program) (w : World) : PySem.KeyKind prog w Key where
  is := keyIs
  hash := keyH w
  inj := fun v a b ha hb => by
    rcases keyIs_shape ha with ⟨i, t, rfl, rfl⟩ | ⟨x, t, rfl, rfl⟩
    · rcases keyIs_shape hb with ⟨j, u, rfl, e⟩ | ⟨y, u, rfl, e⟩
      · injection e with e1 _; rw [e1]
      · exact nomatch e
    · rcases keyIs_shape hb with ⟨j, u, rfl, e⟩ | ⟨y, u, rfl, e⟩
      · exact nomatch e
      · injection e with e1 _; rw [e1]
  byValue := fun k v h => by
    rcases keyIs_shape h with ⟨i, t, rfl, rfl⟩ | ⟨x, t, rfl, rfl⟩ <;> rfl
  pyHash := fun hv h => by
    rcases keyIs_shape hv with ⟨i, t, rfl, rfl⟩ | ⟨x, t, rfl, rfl⟩
    · exact wpAny_pyHash_int h
    · exact wpAny_pyHash_str h
  eqBool := fun hu hv h => by
    rcases keyIs_shape hu with ⟨i, t, rfl, rfl⟩ | ⟨x, t, rfl, rfl⟩
    · rcases keyIs_shape hv with ⟨j, u, rfl, rfl⟩ | ⟨y, u, rfl, rfl⟩
      · rw [key_ll] at h; exact wpAny_eqBool_int h
      · rw [key_lr] at h; exact SeqAt.EqAt.int_str i t y u _ _ _ _ h
    · rcases keyIs_shape hv with ⟨j, u, rfl, rfl⟩ | ⟨y, u, rfl, rfl⟩
      · rw [key_rl] at h; exact SeqAt.EqAt.str_int x t j u _ _ _ _ h
      · rw [key_rr] at h; exact wpAny_eqBool_str h
  «strs» := fun k x t v h => by
    rcases keyIs_shape h with ⟨i, u, rfl, e⟩ | ⟨y, u, rfl, e⟩
    · exact nomatch e
    · injection e with e1 _
      subst e1
      cases v <;> rfl

end L2

namespace L2
open PySem PySem.Spec PyProof.Rows

/-- a value, without the heap -/
inductive V where
  | non | bl (b : Bool) | int (i : Int) | str (x : Str) | byt (b : Array UInt8) | flt (b : UInt64) | ref (a : Addr) | ty (n : String)
  deriving DecidableEq

def RelV : V → Value → Prop
  | .non, u => u = Value.none
  | .bl b, u => u = Value.bool b
  | .int i, u => ∃ t, u = Value.int i t
  | .str x, u => ∃ t, u = Value.str x t
  | .byt b, u => ∃ t, u = Value.bytes b t
  | .flt b, u => ∃ t, u = Value.float b t
  | .ref a, u => u = Value.ref a
  | .ty n, u => u = Value.type n

abbrev Vals : List V → List Value → Prop := Paired RelV
theorem Vals.length {xs : List V} {us : List Value} (r : Vals xs us) : xs.length = us.length := Paired.length r
theorem Vals.get : ∀ {xs : List V} {us : List Value} {i : Nat} {x : V}, Vals xs us → xs[i]? = some x → ∃ u, us[i]? = some u ∧ RelV x u
  | _, _, _, _, .nil, e => by simp at e
  | _, _, 0, _, .cons r _, e => by simp at e; subst e; exact ⟨_, rfl, r⟩
  | _, _, i + 1, x, .cons _ t, e => by
    obtain ⟨u, h1, h2⟩ := Vals.get (i := i) (x := x) t (by simpa using e)
    exact ⟨u, by simpa using h1, h2⟩
theorem Vals.append : ∀ {xs ys : List V} {us ws : List Value}, Vals xs us → Vals ys ws → Vals (xs ++ ys) (us ++ ws)
  | _, _, _, _, .nil, s => s
  | _, _, _, _, .cons r t, s => .cons r (Vals.append t s)
theorem Vals.take : ∀ {xs : List V} {us : List Value} (n : Nat), Vals xs us → Vals (xs.take n) (us.take n)
  | _, _, 0, _ => .nil
  | _, _, _ + 1, .nil => .nil
  | _, _, n + 1, .cons r t => .cons r (Vals.take n t)
theorem Vals.drop : ∀ {xs : List V} {us : List Value} (n : Nat), Vals xs us → Vals (xs.drop n) (us.drop n)
  | _, _, 0, r => r
  | _, _, _ + 1, .nil => .nil
  | _, _, n + 1, .cons _ t => Vals.drop n t
def RelO : Option V → Option Value → Prop
  | some v, some u => RelV v u
  | none, none => True
  | _, _ => False
def KV {κ : Type} : List (κ × V) → List (κ × Value) → Prop := Paired fun (p : κ × V) (q : κ × Value) => p.1 = q.1 ∧ RelV p.2 q.2

/-- a key of a dict (00_mix): an int or a text -/
def kV : Key → V
  | .inl i => .int i
  | .inr x => .str x

/-- what stands at a tracked address -/
inductive HO where
  /-- a list -/
  | lst (xs : List V)
  /-- a tuple (never changes) -/
  | tup (xs : List V)
  /-- a dict whose keys are ints and texts; one whose keys are tuples of ints and texts (the empty one is both) -/
  | dK (kvs : List (Key × V)) | dT (kvs : List (List Key × V))
  /-- a set of ints: its members, its size -/
  | set (S : Int → Bool) (n : Nat)
  /-- an instance of the class at C, its dict at dx, its attributes -/
  | ins (C dx : Addr) (fs : List (Str × V))
  /-- the dict of the instance at x -/
  | own (x : Addr)
  /-- the dict of an exception -/
  | xd (fs : List (Str × V))
  /-- a bound method, f of x -/
  | met (f x : Addr)
  /-- a range object lo, lo + 1, .. below hi -/
  | rng (lo hi : Int)
  /-- a thing that is known to the object (the script; a dict while a loop walks it): read, never written while it is so -/
  | frz (o : Obj) (u : HO)
  /-- a code object's table -/
  | tbl (ps : Array Value)
  /-- any other thing, by what is true of its one object (a def of one's own: SetO a S n := HO.ext fun h => ..) -/
  | ext (φ : Heap → Prop)

abbrev Hp := Addr → Option HO
def upd (H : Hp) (a : Addr) (o : HO) : Hp := fun b => if b = a then some o else H b
theorem upd_same {H : Hp} {a : Addr} {o : HO} : upd H a o a = some o := by unfold upd; rw [if_pos rfl]
theorem upd_ne {H : Hp} {a b : Addr} {o : HO} (h : b ≠ a) : upd H a o b = H b := by unfold upd; rw [if_neg h]
theorem upd_upd {H : Hp} {a : Addr} {o u : HO} : upd (upd H a o) a u = upd H a u := by
  funext b; unfold upd; split <;> rfl
theorem ne_of_none {H : Hp} {a b : Addr} {o : HO} (h : H a = some o) (h' : H b = none) : a ≠ b := by
  intro e; subst e; rw [h] at h'; cases h'

section
variable (P : Program) (w : World)
def ObjOk (H : Hp) (h : Heap) (a : Addr) : HO → Prop
  | .lst xs => xs.length ≤ sizeLine ∧ ∃ (its : List Value) (n : Nat), Vals xs its ∧ h.get? a = some { cls := .type "list", data := .seq its.toArray n }
  | .tup xs => xs.length ≤ sizeLine ∧ ∃ its : List Value, Vals xs its ∧ IsTup h a its.toArray
  | .dK kvs => kvs.length ≤ sizeLine ∧ (a == sysModules) = false ∧ ∃ vs, KV kvs vs ∧ h.DictOf (mixKind P w) a vs
  | .dT kvs => kvs.length ≤ sizeLine ∧ (a == sysModules) = false ∧ ∃ xs : List (List Key × Addr × Value),
      Paired (fun (p : List Key × V) (q : List Key × Addr × Value) => p.1 = q.1 ∧ H q.2.1 = some (.tup (p.1.map kV)) ∧ RelV p.2 q.2.2) kvs xs ∧
      ∃ o es ep, h.get? a = some o ∧ o.ExactDict ∧ o.data = .dict es ep ∧ es.toList = xs.map (entryOfKey (tupleKind (mixKind P w))) ∧ (xs.map (·.1)).Nodup
  | .set S n => h.SetOf (intKind P w) a S n
  | .ins C dx fs => H dx = some (.own a) ∧ fs.length ≤ 1000 ∧ dx ≠ a ∧ h.get? a = some (PySem.W.instObj C dx) ∧
      ∃ mA, h.Ns1 dx mA ∧ (∀ f, RelO (fs.lookup f) (mA f)) ∧ PySem.Within mA (fs.map (·.1))
  | .own _ => ∃ o, h.get? a = some o
  | .xd fs => ∃ mA, h.Ns1 a mA ∧ ∀ f, RelO (fs.lookup f) (mA f)
  | .rng lo hi => ∃ t u v, h.get? a = some { cls := .type "range", data := .fields #[.int lo t, .int hi u, .int 1 v] }
  | .frz o u => h.get? a = some o ∧ ObjOk H h a u
  | .tbl ps => h.get? a = some { cls := .none, data := .fields ps }
  | .met f x => h.get? a = some (PySem.W.methodObj (.ref f) (.ref x))
  | .ext φ => φ h ∧ (∃ o, h.get? a = some o) ∧ ∀ h1 h2 : Heap, φ h1 → (∀ o, h1.get? a = some o → h2.get? a = some o) → φ h2
/-- the abstract heap is held -/
def HOk (H : Hp) (h : Heap) : Prop := ∀ a o, H a = some o → ObjOk P w H h a o
end

section
variable {P : Program} {w : World} {H H' : Hp} {h h' : Heap} {a : Addr} {o : HO}
theorem ObjOk.lt (x : ObjOk P w H h a o) : a < h.objs.size := by
  cases o with
  | lst xs => obtain ⟨_, _, _, _, e⟩ := x; exact Heap.lt_size e
  | tup xs => obtain ⟨_, _, _, p⟩ := x; exact p.lt
  | dK kvs => obtain ⟨_, _, _, _, o, _, _, e, _⟩ := x; exact Heap.lt_size e
  | dT kvs => obtain ⟨_, _, _, _, o, _, _, e, _⟩ := x; exact Heap.lt_size e
  | set S n => obtain ⟨o, _, _, _, e, _⟩ := x; exact Heap.lt_size e
  | ins C dx fs => obtain ⟨_, _, _, e, _⟩ := x; exact Heap.lt_size e
  | own y => obtain ⟨_, e⟩ := x; exact Heap.lt_size e
  | xd fs => obtain ⟨_, ⟨_, _, _, e, _⟩, _⟩ := x; exact Heap.lt_size e
  | rng lo hi => obtain ⟨_, _, _, e⟩ := x; exact Heap.lt_size e
  | frz ob u => obtain ⟨e, _⟩ := x; exact Heap.lt_size e
  | tbl ps => exact Heap.lt_size (show h.get? a = some _ from x)
  | met f y => exact Heap.lt_size (show h.get? a = some _ from x)
  | ext φ => obtain ⟨_, ⟨_, e⟩, _⟩ := x; exact Heap.lt_size e
theorem Paired.mapP {α β : Type} {F G : α → β → Prop} : ∀ {l₁ : List α} {l₂ : List β}, Paired F l₁ l₂ → (∀ a b, F a b → G a b) → Paired G l₁ l₂
  | _, _, .nil, _ => .nil
  | _, _, .cons r t, f => .cons (f _ _ r) (Paired.mapP t f)
/-- what an object's description leans on: its own object, its own dict, the tuples -/
theorem ObjOk.stay (x : ObjOk P w H h a o) (k : ∀ b u, (b = a ∨ H b = some (.own a)) → h.get? b = some u → h'.get? b = some u)
    (ho : ∀ b, H b = some (.own a) → H' b = some (.own a)) (ht : ∀ b xs, H b = some (.tup xs) → H' b = some (.tup xs)) : ObjOk P w H' h' a o := by
  induction o with
  | lst xs => obtain ⟨z, its, n, r, e⟩ := x; exact ⟨z, its, n, r, k _ _ (.inl rfl) e⟩
  | tup xs => obtain ⟨z, its, r, ob, e, c⟩ := x; exact ⟨z, its, r, ob, k _ _ (.inl rfl) e, c⟩
  | dK kvs => obtain ⟨z, y, vs, r, ob, es, ep, e, c⟩ := x; exact ⟨z, y, vs, r, ob, es, ep, k _ _ (.inl rfl) e, c⟩
  | dT kvs =>
    obtain ⟨z, y, xs, r, ob, es, ep, e, c⟩ := x
    exact ⟨z, y, xs, Paired.mapP r fun p q z => ⟨z.1, ht _ _ z.2.1, z.2.2⟩, ob, es, ep, k _ _ (.inl rfl) e, c⟩
  | set S n => obtain ⟨ob, es, ep, t, e, c⟩ := x; exact ⟨ob, es, ep, t, k _ _ (.inl rfl) e, c⟩
  | ins C dx fs =>
    obtain ⟨d, z, ne, e, mA, ⟨od, es, ep, e2, c⟩, r⟩ := x
    exact ⟨ho _ d, z, ne, k _ _ (.inl rfl) e, mA, ⟨od, es, ep, k _ _ (.inr d) e2, c⟩, r⟩
  | own y => obtain ⟨ob, e⟩ := x; exact ⟨ob, k _ _ (.inl rfl) e⟩
  | xd fs => obtain ⟨mA, ⟨od, es, ep, e, c⟩, r⟩ := x; exact ⟨mA, ⟨od, es, ep, k _ _ (.inl rfl) e, c⟩, r⟩
  | rng lo hi => obtain ⟨t, u, v, e⟩ := x; exact ⟨t, u, v, k _ _ (.inl rfl) e⟩
  | frz ob u ih => obtain ⟨e, q⟩ := x; exact ⟨k _ _ (.inl rfl) e, ih q⟩
  | tbl ps =>
    have e : h.get? a = some { cls := .none, data := .fields ps } := x
    show h'.get? a = some { cls := .none, data := .fields ps }
    exact k a _ (.inl rfl) e
  | met f y =>
    have e : h.get? a = some (PySem.W.methodObj (.ref f) (.ref y)) := x
    show h'.get? a = some (PySem.W.methodObj (.ref f) (.ref y))
    exact k a _ (.inl rfl) e
  | ext φ => obtain ⟨p, ⟨o, e⟩, st⟩ := x; exact ⟨st _ _ p fun o q => k _ _ (.inl rfl) q, ⟨o, k _ _ (.inl rfl) e⟩, st⟩
theorem HOk.lt (x : HOk P w H h) (e : H a = some o) : a < h.objs.size := (x a o e).lt
theorem HOk.fresh (x : HOk P w H h) (e : h.objs.size ≤ a) : H a = none := by
  cases q : H a with
  | none => rfl
  | some u => exact absurd (Nat.lt_of_lt_of_le (x.lt q) e) (Nat.lt_irrefl _)
/-- every object of the heap is kept -/
theorem HOk.kept (x : HOk P w H h) (k : ∀ b u, h.get? b = some u → h'.get? b = some u) : HOk P w H h' := fun a o e =>
  (x a o e).stay (fun b u _ q => k b u q) (fun _ q => q) fun _ _ q => q
/-- a new object is laid and tracked -/
theorem HOk.laid (x : HOk P w H h) (k : ∀ b u, h.get? b = some u → h'.get? b = some u) (hp : h.objs.size ≤ a) (new : ObjOk P w (upd H a o) h' a o) : HOk P w (upd H a o) h' := fun b u e => by
  have hn := x.fresh hp
  by_cases hb : b = a
  · subst hb; rw [upd_same] at e; cases e; exact new
  · rw [upd_ne hb] at e
    exact (x b u e).stay (fun c v _ q => k c v q) (fun c q => by rw [upd_ne (ne_of_none q hn)]; exact q) fun c xs q => by rw [upd_ne (ne_of_none q hn)]; exact q
end

/-- what may be read as u: it is u, or a known u -/
def Rd (H : Hp) (a : Addr) (u : HO) : Prop := H a = some u ∨ ∃ o, H a = some (.frz o u)
theorem Rd.ok {P : Program} {w : World} {H : Hp} {h : Heap} {a : Addr} {u : HO} (r : Rd H a u) (x : HOk P w H h) : ObjOk P w H h a u := by
  rcases r with r | ⟨o, r⟩
  · exact x a u r
  · obtain ⟨_, q⟩ := x a _ r
    exact q
/-- what may be written -/
def Mut : Option HO → Prop
  | some (.lst _) => True
  | some (.dK _) => True
  | some (.dT _) => True
  | some (.set _ _) => True
  | some (.ins _ _ _) => True
  | some (.ext _) => True
  | _ => False
section
variable {P : Program} {w : World} {H : Hp} {h h' : Heap} {x e : Addr} {o' : HO}
/-- the object at e is changed: x itself, or the dict of the instance x -/
theorem HOk.write (ok : HOk P w H h) (mu : Mut (H x)) (he : e = x ∨ H e = some (.own x)) (k : ∀ b u, b ≠ e → h.get? b = some u → h'.get? b = some u) (heo : ∃ u, h'.get? e = some u)
    (new : ObjOk P w (upd H x o') h' x o') : HOk P w (upd H x o') h' := fun b u q => by
  have nown : ∀ c y, H c = some (.own y) → c ≠ x := fun c y r z => by subst z; rw [r] at mu; exact mu
  have ntup : ∀ c xs, H c = some (.tup xs) → c ≠ x := fun c xs r z => by subst z; rw [r] at mu; exact mu
  by_cases hb : b = x
  · subst hb; rw [upd_same] at q; cases q; exact new
  · rw [upd_ne hb] at q
    by_cases hbe : b = e
    · have q' : H b = some (.own x) := by
        rcases he with z | z
        · exact absurd (hbe.trans z) hb
        · rw [hbe]; exact z
      rw [q] at q'; cases q'
      obtain ⟨v, hv⟩ := heo
      exact ⟨v, by rw [hbe]; exact hv⟩
    · refine (ok b u q).stay (fun c v hc r => k c v ?_ r) (fun c r => by rw [upd_ne (nown c b r)]; exact r) fun c xs r => by rw [upd_ne (ntup c xs r)]; exact r
      rcases hc with rfl | hc
      · exact hbe
      · rintro rfl
        rcases he with z | z
        · exact nown c b hc z
        · rw [hc] at z; cases z; exact hb rfl
end

/-! ### kept unless tracked; of the frames at fs (the callers') the slots may change (an exception that passes writes there); of the records at ex (iterators) nothing is said -/
structure Un (fs ex : List Addr) (H H' : Hp) (h h' : Heap) : Prop where
  keep : ∀ b o, h.get? b = some o → H b = none → b ∉ fs → b ∉ ex → h'.get? b = some o
  slot : ∀ b o, h.get? b = some o → H b = none → b ∈ fs → b ∉ ex → ∃ sl, h'.get? b = some { o with slots := sl }
  free : ∀ b o, h.get? b = some o → H b = none → b ∉ ex → H' b = none
  there : ∀ b o, h.get? b = some o → b ∉ ex → ∃ o', h'.get? b = some o'
  tups : ∀ b xs, H b = some (.tup xs) → H' b = some (.tup xs)
  frzs : ∀ b o u, H b = some (.frz o u) → H' b = some (.frz o u)
  tbls : ∀ b ps, H b = some (.tbl ps) → ∃ more, H' b = some (.tbl (ps ++ more))
section
variable {fs fs' ex ex' : List Addr} {H H1 H2 : Hp} {h h1 h2 h' : Heap} {a x e : Addr} {o : HO}
theorem Un.any (u : Un fs ex H H1 h h1) {b : Addr} {ob : Obj} (q : h.get? b = some ob) (n : H b = none) (hx : b ∉ ex) : ∃ sl, h1.get? b = some { ob with slots := sl } := by
  by_cases hb : b ∈ fs
  · exact u.slot b ob q n hb hx
  · exact ⟨ob.slots, u.keep b ob q n hb hx⟩
theorem Un.kept (k : ∀ b u, h.get? b = some u → h'.get? b = some u) : Un fs ex H H h h' :=
  ⟨fun b ob q _ _ _ => k b ob q, fun b ob q _ _ _ => ⟨ob.slots, k b ob q⟩, fun _ _ _ n _ => n, fun b ob q _ => ⟨ob, k b ob q⟩, fun _ _ q => q, fun _ _ _ q => q, fun _ ps q => ⟨#[], by rw [q]; simp⟩⟩
theorem Un.refl : Un fs ex H H h h := Un.kept fun _ _ q => q
theorem Un.laid (k : ∀ b u, h.get? b = some u → h'.get? b = some u) (hp : h.objs.size ≤ a) (hn : H a = none) : Un fs ex H (upd H a o) h h' where
  keep := fun b u q _ _ _ => k b u q
  slot := fun b u q _ _ _ => ⟨u.slots, k b u q⟩
  free := fun b u q n _ => by rw [upd_ne (Nat.ne_of_lt (Nat.lt_of_lt_of_le (Heap.lt_size q) hp))]; exact n
  there := fun b u q _ => ⟨u, k b u q⟩
  tups := fun b xs q => by rw [upd_ne (ne_of_none q hn)]; exact q
  frzs := fun b u xs q => by rw [upd_ne (ne_of_none q hn)]; exact q
  tbls := fun b ps q => ⟨#[], by rw [upd_ne (ne_of_none q hn), q]; simp⟩
theorem Un.write (mu : Mut (H x)) (he : e = x ∨ H e = some (.own x)) (k : ∀ b u, b ≠ e → h.get? b = some u → h'.get? b = some u) (heo : ∃ u, h'.get? e = some u) : Un fs ex H (upd H x o) h h' := by
  have hx : ∀ b, H b = none → b ≠ x := fun b n z => by subst z; rw [n] at mu; exact mu
  have hb : ∀ b, H b = none → b ≠ e := fun b n z => by
    subst z
    rcases he with r | r
    · exact hx b n r
    · rw [n] at r; cases r
  have hm : ∀ b u, H b = some u → ¬ Mut (some u) → b ≠ x := fun b u q nm z => by subst z; rw [q] at mu; exact nm mu
  refine ⟨fun b u q n _ _ => k b u (hb b n) q, fun b u q n _ _ => ⟨u.slots, k b u (hb b n) q⟩, fun b u q n _ => by rw [upd_ne (hx b n)]; exact n, fun b u q _ => ?_,
    fun b xs q => by rw [upd_ne (hm b _ q fun z => z)]; exact q, fun b u xs q => by rw [upd_ne (hm b _ q fun z => z)]; exact q, fun b ps q => ⟨#[], by rw [upd_ne (hm b _ q fun z => z), q]; simp⟩⟩
  by_cases hbe : b = e
  · subst hbe; exact heo
  · exact ⟨u, k b u hbe q⟩
end

/-! ### the heap without what is tracked -/
def trk (h : Heap) (H : Hp) : List Addr := (List.range h.objs.size).filter fun a => (H a).isSome
def hidT (h : Heap) (H : Hp) : Heap := PySem.W.hideAll h (trk h H)
theorem hidT_size (h : Heap) (H : Hp) : (hidT h H).objs.size = h.objs.size := PySem.W.hideAll_size _ _
theorem hidT_get {h : Heap} {H : Hp} {b : Addr} {o : Obj} (e : h.get? b = some o) (n : H b = none) : (hidT h H).get? b = some o :=
  PySem.W.hideAll_get _ e fun hm => by
    have q : (H b).isSome = true := (List.mem_filter.mp hm).2
    rw [n] at q; simp at q
theorem of_hidT {h : Heap} {H : Hp} {b : Addr} {o : Obj} (e : (hidT h H).get? b = some o) : h.get? b = some o ∧ H b = none := by
  have e' : h.get? b = some o := PySem.W.of_hideAll (trk h H) e
  refine ⟨e', ?_⟩
  cases q : H b with
  | none => rfl
  | some x =>
    have hm : b ∈ trk h H := List.mem_filter.mpr ⟨List.mem_range.mpr (Heap.lt_size e'), by simp [q]⟩
    have z : (hidT h H).get? b = none := PySem.W.hideAll_none (trk h H) hm
    rw [z] at e; cases e

/-! ### OpenK's ledger, filled with every new object but one -/
def allNews (g h : Heap) (L : Addr) : List (Addr × Obj) := (List.range h.objs.size).filterMap fun a => if a = L ∨ (g.get? a).isSome = true then none else (h.get? a).map fun o => (a, o)
def rest (g h : Heap) (L d : Addr) : List (Addr × Obj) := (allNews g h L).filter fun p => decide (p.1 ≠ d)
end L2

namespace L2
open PySem PySem.Spec PyProof.Rows

/-- the module's facts, over the base: the heap at the law's entry without what is tracked there -/
structure Mod (K : PySem.W.Frag) (mg : Str → Option Value) (base : Heap) : Prop where
  kin : K.In base
  glob : base.Ns mainGlobals mg
  blt : ∃ mb, base.Ns builtinsNs mb ∧ ∀ x : Str, x ≠ "__name__" → mb x = bootBuiltins x
  nolimit : base.NoLimit

/-- the context: a def's body (or a comprehension's block) running. base: fixed through the whole law; s₀, H₀: the entry; outer: the frames whose slots others may change (a def's callers); stack: all frames that run;
   ex: iterators that were made ahead of the entry and are walked here (a comprehension's); fn: the names whose cells were made at the entry (a def: all; a comprehension's block: its own); calm: not within an except suite; pn: pins that every state bears; xe: what is wanted of an exception that leaves the code -/
structure Cx where
  prog : Program
  w : World
  K : PySem.W.Frag
  mg : Str → Option Value
  base : Heap
  A : Around
  N : List Str
  s₀ : Shared
  H₀ : Hp
  env : Env
  outer : List Env
  stack : List Env
  ex : List Addr
  fn : Str → Bool
  calm : Bool
  pn : List (Addr × Obj)
  xe : Value → Shared → Prop
/-- the callers' frames -/
def frs (l : List Env) : List Addr := l.filterMap (·.frame)
abbrev Cx.fs (X : Cx) : List Addr := frs X.outer

def Vis (sc : Scope) (x : Str) : Prop := sc.names.lookup x = some .local ∨ sc.names.lookup x = some .cell ∨ sc.names.lookup x = some .free
def Loc (sc : Scope) (x : Str) : Prop := sc.names.lookup x = some .local ∨ sc.names.lookup x = some .cell
def Look (env : Env) (h : Heap) (m : Str → Option Value) (x : Str) (u : Value) : Prop :=
  (env.kindOf x = some .local ∧ m x = some u) ∨ ((env.kindOf x = some .cell ∨ env.kindOf x = some .free) ∧ ∃ c, env.cells.lookup x = some c ∧ h.IsCell c (some u))

structure Cx.Ok (X : Cx) : Prop where
  mod : Mod X.K X.mg X.base
  kind : X.env.scope.kind = .function
  glob : X.env.globals = mainGlobals
  blt : X.env.builtins = builtinsNs
  above : X.s₀.heap.objs.size ≤ X.env.locals
  inj : ∀ x y c, X.env.cells.lookup x = some c → X.env.cells.lookup y = some c → x = y
  has : ∀ x, (X.env.kindOf x = some .cell ∨ X.env.kindOf x = some .free) → ∃ c, X.env.cells.lookup x = some c
  cab : ∀ x c, X.fn x = true → X.env.cells.lookup x = some c → X.s₀.heap.objs.size ≤ c
  hd : X.calm = true → X.A.handled = none
  frames : X.A.frames = some X.stack
  stk : X.stack = X.outer ∨ (X.stack = X.env :: X.outer ∧ X.env.frame = some X.env.locals)
  exf : ∀ b ∈ X.ex, b ≠ X.env.locals ∧ ∀ x c, X.env.cells.lookup x = some c → c ≠ b
  bs : ∀ b o, X.base.get? b = some o → X.s₀.heap.get? b = some o ∧ X.H₀ b = none
  bsz : X.base.objs.size ≤ X.s₀.heap.objs.size
  noex : ∀ b o, X.base.get? b = some o → b ∉ X.ex
  exfs : ∀ b ∈ X.ex, b ∉ X.fs
  funs : X.s₀.heap.FunFrames X.base X.outer
  frf : ∀ b ∈ X.fs, X.H₀ b = none

structure Inv (X : Cx) (pins : List (Addr × Obj)) (σ : List (Option V)) (H : Hp) (s : Shared) : Prop where
  ok : X.Ok
  os : s.os = X.s₀.os
  bare : AllBare s.gens
  base : Un X.fs X.ex X.H₀ H X.s₀.heap s.heap
  loc : ∃ m, s.heap.Ns X.env.locals m ∧ ∀ (i : Nat) (x : Str) (v : V), X.N[i]? = some x → σ[i]? = some (some v) → Vis X.env.scope x → ∃ u, RelV v u ∧ Look X.env s.heap m x u
  cell : ∀ x c, X.env.cells.lookup x = some c → ∃ v, s.heap.IsCell c v
  free : H X.env.locals = none
  freeC : ∀ x c, X.env.cells.lookup x = some c → H c = none
  pin : ∀ p ∈ X.pn ++ pins, s.heap.get? p.1 = some p.2 ∧ H p.1 = none ∧ p.1 ≠ X.env.locals ∧ p.1 ∉ X.fs ∧ ∀ v, p.2.data ≠ .cell v
  hok : HOk X.prog X.w H s.heap
  len : σ.length = X.N.length

section
variable {X : Cx} {pins : List (Addr × Obj)} {σ : List (Option V)} {H H' : Hp} {s : Shared} {h' : Heap}

theorem Cx.Ok.nofr (ok : X.Ok) {b : Addr} {o : Obj} (e : X.base.get? b = some o) : b ∉ X.fs := fun hb => by
  have := (ok.funs.mem hb).1
  rw [e] at this; cases this
theorem Inv.bs (I : Inv X pins σ H s) : ∀ b o, X.base.get? b = some o → s.heap.get? b = some o ∧ H b = none := fun b o e =>
  ⟨I.base.keep b o (I.ok.bs b o e).1 (I.ok.bs b o e).2 (I.ok.nofr e) (I.ok.noex b o e), I.base.free b o (I.ok.bs b o e).1 (I.ok.bs b o e).2 (I.ok.noex b o e)⟩
theorem Inv.bk (I : Inv X pins σ H s) : ∀ b o, X.base.get? b = some o → s.heap.get? b = some o := fun b o e => (I.bs b o e).1
theorem Inv.mod (I : Inv X pins σ H s) : Mod X.K X.mg X.base := I.ok.mod
theorem Inv.kIn (I : Inv X pins σ H s) : X.K.In s.heap := I.ok.mod.kin.keeps I.bk
theorem Inv.lt (I : Inv X pins σ H s) : X.env.locals < s.heap.objs.size := let ⟨_, hn, _⟩ := I.loc; hn.lt
theorem Inv.sz (I : Inv X pins σ H s) : X.s₀.heap.objs.size ≤ s.heap.objs.size := Nat.le_trans I.ok.above (Nat.le_of_lt I.lt)
theorem Inv.nofs (I : Inv X pins σ H s) {a : Addr} (h : s.heap.objs.size ≤ a) : a ∉ X.fs := fun hb => by
  obtain ⟨_, o, ho, _⟩ := I.ok.funs.mem hb
  exact absurd (Nat.lt_of_lt_of_le (Heap.lt_size ho) (Nat.le_trans I.sz h)) (Nat.lt_irrefl _)
theorem Inv.cne (I : Inv X pins σ H s) : ∀ x c, X.env.cells.lookup x = some c → c ≠ X.env.locals := fun x c e z => by
  obtain ⟨v, o, ho, hd⟩ := I.cell x c e
  obtain ⟨m, ⟨o', es, ep, ho', hd', _⟩, _⟩ := I.loc
  rw [z, ho'] at ho; cases ho; rw [hd'] at hd; cases hd
theorem Inv.funs (I : Inv X pins σ H s) : s.heap.FunFrames X.base X.outer := by
  have all : ∀ (l : List Env), (∀ b ∈ frs l, b ∈ X.fs) → X.s₀.heap.FunFrames X.base l → s.heap.FunFrames X.base l := by
    intro l
    induction l with
    | nil => intro _ _; trivial
    | cons env r ih =>
      intro hs hl
      obtain ⟨hk, ⟨L, o, hf, hn, ho, hd⟩, hr⟩ := hl
      have hL : L ∈ X.fs := hs L (by unfold frs; rw [List.filterMap_cons, hf]; exact List.mem_cons_self)
      obtain ⟨sl, e⟩ := I.base.slot L o ho (I.ok.frf L hL) hL fun z => I.ok.exfs L z hL
      exact ⟨hk, ⟨L, _, hf, hn, e, hd⟩, ih (fun b hb => hs b (by unfold frs; rw [List.filterMap_cons, hf]; exact List.mem_cons_of_mem _ hb)) hr⟩
  exact all X.outer (fun _ hb => hb) I.ok.funs

/-- the frames that run, for a call -/
theorem Inv.stack (I : Inv X pins σ H s) : s.heap.FunFrames X.base X.stack := by
  rcases I.ok.stk with e | ⟨e, hf⟩
  · rw [e]; exact I.funs
  · rw [e]
    obtain ⟨m, hn, _⟩ := I.loc
    refine .cons (by rw [I.ok.kind]; decide) hf hn ?_ I.funs
    exact Heap.get?_none_of_le (Nat.le_trans I.ok.bsz I.ok.above)
theorem Inv.stkSub (I : Inv X pins σ H s) : ∀ b ∈ frs X.stack, b ∈ X.env.locals :: X.fs := fun b hb => by
  rcases I.ok.stk with e | ⟨e, hf⟩
  · rw [e] at hb; exact List.mem_cons_of_mem _ hb
  · rw [e] at hb
    unfold frs at hb
    rw [List.filterMap_cons, hf] at hb
    exact hb
theorem Inv.stkFree (I : Inv X pins σ H s) : ∀ b ∈ frs X.stack, H b = none := fun b hb => by
  rcases List.mem_cons.mp (I.stkSub b hb) with e | hb
  · rw [e]; exact I.free
  · obtain ⟨_, o, ho, _⟩ := I.ok.funs.mem hb
    exact I.base.free b o ho (I.ok.frf b hb) fun z => I.ok.exfs b z hb

/-- THE STEP: the untracked objects but the frame and the records at ch are kept (the callers' frames up to slots), the frame's map is kept, the new abstract heap is held -/
theorem Inv.step {g' : Array GenState} {t' : Nat} {d' : Drawn} {ch : List Addr} (I : Inv X pins σ H s)
    (hch : ∀ b ∈ ch, (b ∈ X.ex ∨ X.s₀.heap.objs.size ≤ b) ∧ b ≠ X.env.locals ∧ (∀ x c, X.env.cells.lookup x = some c → c ≠ b) ∧ ∀ p ∈ X.pn ++ pins, p.1 ≠ b)
    (keep : ∀ b o, b ≠ X.env.locals → b ∉ X.fs → b ∉ ch → s.heap.get? b = some o → H b = none → h'.get? b = some o)
    (slot : ∀ b o, b ≠ X.env.locals → b ∈ X.fs → b ∉ ch → s.heap.get? b = some o → H b = none → ∃ sl, h'.get? b = some { o with slots := sl }) (free : ∀ b o, b ∉ ch → s.heap.get? b = some o → H b = none → H' b = none)
    (there : ∀ b o, b ∉ ch → s.heap.get? b = some o → ∃ o', h'.get? b = some o')
    (tups : ∀ b xs, H b = some (.tup xs) → H' b = some (.tup xs)) (frzs : ∀ b o u, H b = some (.frz o u) → H' b = some (.frz o u)) (tbls : ∀ b ps, H b = some (.tbl ps) → ∃ more, H' b = some (.tbl (ps ++ more)))
    (ns : ∀ m, s.heap.Ns X.env.locals m → h'.Ns X.env.locals m) (hok : HOk X.prog X.w H' h') (hg : AllBare g') :
    Inv X pins σ H' { s with heap := h', gens := g', drawn := d', toks := t' } := by
  have neL : ∀ b o, X.s₀.heap.get? b = some o → b ≠ X.env.locals := fun b o e => Nat.ne_of_lt (Nat.lt_of_lt_of_le (Heap.lt_size e) I.ok.above)
  have neC : ∀ b o, X.s₀.heap.get? b = some o → b ∉ X.ex → b ∉ ch := fun b o e hx hb => by
    rcases (hch b hb).1 with z | z
    · exact hx z
    · exact absurd (Nat.lt_of_lt_of_le (Heap.lt_size e) z) (Nat.lt_irrefl _)
  have cellK : ∀ x c, X.env.cells.lookup x = some c → ∀ v, s.heap.IsCell c v → h'.IsCell c v := fun x c e v ⟨o, ho, hd⟩ => by
    have nch : c ∉ ch := fun z => (hch c z).2.2.1 x c e rfl
    by_cases hc : c ∈ X.fs
    · obtain ⟨sl, q⟩ := slot c o (I.cne x c e) hc nch ho (I.freeC x c e)
      exact ⟨_, q, hd⟩
    · exact ⟨o, keep c o (I.cne x c e) hc nch ho (I.freeC x c e), hd⟩
  refine ⟨I.ok, I.os, hg, ⟨fun b o e n hb hx => ?_, fun b o e n hb hx => ?_, fun b o e n hx => ?_, fun b o e hx => ?_, fun b xs e => tups b xs (I.base.tups b xs e), fun b o xs e => frzs b o xs (I.base.frzs b o xs e), fun b ps e => ?_⟩, ?_, fun x c e => ?_, ?_, fun x c e => ?_, fun p hp => ?_, hok, I.len⟩
  · exact keep b o (neL b o e) hb (neC b o e hx) (I.base.keep b o e n hb hx) (I.base.free b o e n hx)
  · obtain ⟨sl, e1⟩ := I.base.slot b o e n hb hx
    obtain ⟨sl', e2⟩ := slot b _ (neL b o e) hb (neC b o e hx) e1 (I.base.free b o e n hx)
    exact ⟨sl', e2⟩
  · obtain ⟨o', e1⟩ := I.base.there b o e hx
    exact free b o' (neC b o e hx) e1 (I.base.free b o e n hx)
  · obtain ⟨o', e1⟩ := I.base.there b o e hx
    exact there b o' (neC b o e hx) e1
  · obtain ⟨m1, e1⟩ := I.base.tbls b ps e
    obtain ⟨m2, e2⟩ := tbls b _ e1
    exact ⟨m1 ++ m2, by rw [e2, Array.append_assoc]⟩
  · obtain ⟨m, hn, hl⟩ := I.loc
    refine ⟨m, ns m hn, fun i x v e1 e2 e3 => ?_⟩
    obtain ⟨u, r, l⟩ := hl i x v e1 e2 e3
    refine ⟨u, r, ?_⟩
    rcases l with l | ⟨k, c, e, z⟩
    · exact .inl l
    · exact .inr ⟨k, c, e, cellK x c e _ z⟩
  · obtain ⟨v, z⟩ := I.cell x c e
    exact ⟨v, cellK x c e v z⟩
  · obtain ⟨m, ⟨o, _, _, ho, _⟩, _⟩ := I.loc
    exact free _ o (fun z => (hch _ z).2.1 rfl) ho I.free
  · obtain ⟨v, o, ho, hd⟩ := I.cell x c e
    exact free c o (fun z => (hch c z).2.2.1 x c e rfl) ho (I.freeC x c e)
  · obtain ⟨e, n, ne, nf, d⟩ := I.pin p hp
    have nch : p.1 ∉ ch := fun z => (hch p.1 z).2.2.2 p hp rfl
    exact ⟨keep p.1 p.2 ne nf nch e n, free p.1 p.2 nch e n, ne, nf, d⟩
/-- .. where the frame's own object is kept too -/
theorem Inv.un {t' : Nat} (I : Inv X pins σ H s) (u : Un X.fs [] H H' s.heap h') (hok : HOk X.prog X.w H' h') : Inv X pins σ H' { s with heap := h', toks := t' } := by
  obtain ⟨m, ⟨o, es, ep, ho, r⟩, _⟩ := id I.loc
  obtain ⟨sl, hL⟩ := u.any ho I.free (by simp)
  exact I.step (g' := s.gens) (d' := s.drawn) (ch := []) (fun _ z => nomatch z) (fun b o _ hb _ e n => u.keep b o e n hb (by simp)) (fun b o _ hb _ e n => u.slot b o e n hb (by simp)) (fun b o _ e n => u.free b o e n (by simp)) (fun b o _ e => u.there b o e (by simp)) u.tups u.frzs u.tbls (fun m' hm => by
    obtain ⟨o', es', ep', ho', r'⟩ := hm
    rw [ho] at ho'; cases ho'
    exact ⟨_, es', ep', hL, r'⟩) hok I.bare
/-- behind a call (or a comprehension's block): the slots of this frame may have changed too, the records at ch may have turned -/
theorem Inv.call {g' : Array GenState} {t' : Nat} {d' : Drawn} {ch : List Addr} (I : Inv X pins σ H s) (u : Un (frs X.stack) ch H H' s.heap h') (hok : HOk X.prog X.w H' h') (hg : AllBare g')
    (hch : ∀ b ∈ ch, (b ∈ X.ex ∨ X.s₀.heap.objs.size ≤ b) ∧ b ≠ X.env.locals ∧ (∀ x c, X.env.cells.lookup x = some c → c ≠ b) ∧ ∀ p ∈ X.pn ++ pins, p.1 ≠ b) :
    Inv X pins σ H' { s with heap := h', gens := g', drawn := d', toks := t' } := by
  obtain ⟨m, ⟨o, es, ep, ho, r⟩, _⟩ := id I.loc
  obtain ⟨sl, hL⟩ := u.any ho I.free fun z => (hch _ z).2.1 rfl
  exact I.step (ch := ch) hch (fun b o hL hb hc e n => u.keep b o e n (fun z => (List.mem_cons.mp (I.stkSub b z)).elim hL hb) hc) (fun b o _ _ hc e n => u.any e n hc) (fun b o hc e n => u.free b o e n hc) (fun b o hc e => u.there b o e hc) u.tups u.frzs u.tbls (fun m' hm => by
    obtain ⟨o', es', ep', ho', r'⟩ := hm
    rw [ho] at ho'; cases ho'
    exact ⟨_, es', ep', hL, r'⟩) hok hg
/-- an untracked record of ours (an iterator) has turned -/
theorem Inv.turned {t' : Nat} {it : Addr} (I : Inv X pins σ H s) (k : ∀ b o, b ≠ it → s.heap.get? b = some o → h'.get? b = some o) (hn : H it = none) (hL : it ≠ X.env.locals)
    (h1 : it ∈ X.ex ∨ X.s₀.heap.objs.size ≤ it) (h2 : ∀ x c, X.env.cells.lookup x = some c → c ≠ it) (h3 : ∀ p ∈ X.pn ++ pins, p.1 ≠ it) : Inv X pins σ H { s with heap := h', toks := t' } := by
  have nit : ∀ b u, H b = some u → b ≠ it := fun b u e z => by rw [z, hn] at e; cases e
  refine I.step (g' := s.gens) (d' := s.drawn) (ch := [it]) (fun b hb => ?_) (fun b o _ _ hc e _ => k b o (fun z => hc (by simp [z])) e) (fun b o _ _ hc e _ => ⟨o.slots, k b o (fun z => hc (by simp [z])) e⟩) (fun _ _ _ _ n => n)
    (fun b o hc e => ⟨o, k b o (fun z => hc (by simp [z])) e⟩) (fun _ _ e => e) (fun _ _ _ e => e) (fun b ps e => ⟨#[], by rw [e]; simp⟩) (fun m hm => ?_) (fun b u e => ?_) I.bare
  · have e : b = it := by simpa using hb
    subst e
    exact ⟨h1, hL, h2, h3⟩
  · obtain ⟨o, es, ep, ho, r⟩ := hm
    exact ⟨o, es, ep, k _ o (Ne.symm hL) ho, r⟩
  · refine (I.hok b u e).stay (fun c v hc q => k c v ?_ q) (fun _ q => q) fun _ _ q => q
    rcases hc with z | z
    · rw [z]; exact nit b u e
    · exact nit c _ z
theorem Inv.tok (I : Inv X pins σ H s) (t : Nat) : Inv X pins σ H { s with toks := t } := I.un (h' := s.heap) (t' := t) Un.refl I.hok
/-- all objects kept -/
theorem Inv.kept {t' : Nat} (I : Inv X pins σ H s) (k : ∀ b u, s.heap.get? b = some u → h'.get? b = some u) : Inv X pins σ H { s with heap := h', toks := t' } := I.un (Un.kept k) (I.hok.kept k)
/-- a new object laid and tracked -/
theorem Inv.laid {a : Addr} {o : HO} {t' : Nat} (I : Inv X pins σ H s) (k : ∀ b u, s.heap.get? b = some u → h'.get? b = some u) (hp : s.heap.objs.size ≤ a) (new : ObjOk X.prog X.w (upd H a o) h' a o) :
    Inv X pins σ (upd H a o) { s with heap := h', toks := t' } := I.un (Un.laid k hp (I.hok.fresh hp)) (I.hok.laid k hp new)
/-- an object written -/
theorem Inv.write {x e : Addr} {o : HO} {t' : Nat} (I : Inv X pins σ H s) (mu : Mut (H x)) (he : e = x ∨ H e = some (.own x)) (k : ∀ b u, b ≠ e → s.heap.get? b = some u → h'.get? b = some u) (heo : ∃ u, h'.get? e = some u)
    (new : ObjOk X.prog X.w (upd H x o) h' x o) : Inv X pins σ (upd H x o) { s with heap := h', toks := t' } := I.un (Un.write mu he k heo) (I.hok.write mu he k heo new)
theorem Inv.pins_of {pins' : List (Addr × Obj)} (I : Inv X pins σ H s) (h : ∀ p ∈ pins', s.heap.get? p.1 = some p.2 ∧ H p.1 = none ∧ p.1 ≠ X.env.locals ∧ p.1 ∉ X.fs ∧ ∀ v, p.2.data ≠ .cell v) : Inv X pins' σ H s :=
  ⟨I.ok, I.os, I.bare, I.base, I.loc, I.cell, I.free, I.freeC, fun p hp => (List.mem_append.mp hp).elim (fun z => I.pin p (List.mem_append_left _ z)) (h p), I.hok, I.len⟩

theorem nodup_ix {N : List Str} (hN : N.Nodup) {i j : Nat} {x : Str} (a : N[i]? = some x) (b : N[j]? = some x) : i = j := by
  obtain ⟨h1, e1⟩ := List.getElem?_eq_some_iff.mp a
  obtain ⟨h2, e2⟩ := List.getElem?_eq_some_iff.mp b
  exact (List.getElem_inj hN).mp (e1.trans e2.symm)

/-- a name is stored; what changed -/
theorem store_ok2 {M : Model} {A : Around} {E : Value → Shared → Prop} {i : Nat} {x : Str} {v : V} {u : Value} {Q : Unit → Shared → Prop} (I : Inv X pins σ H s) (hN : X.N.Nodup) (hi : X.N[i]? = some x) (hx : Loc X.env.scope x) (r : RelV v u)
    (h : ∀ s', Inv X pins (σ.set i (some v)) H s' → (∃ a, Heap.SameBut a s.heap s'.heap ∧ (a = X.env.locals ∨ X.env.cells.lookup x = some a)) → Q () s') (hf : X.fn x = true ∨ X.env.scope.names.lookup x = some .local := by first | exact .inl rfl | exact .inr rfl | assumption) : wpAny M A (storeName X.env x u) Q E s := by
  obtain ⟨m, hn, hl⟩ := id I.loc
  have hcls : (X.env.scope.kind == .class || (X.env.scope.kind == .module && X.env.locals != X.env.globals)) = false := by rw [I.ok.kind]; rfl
  have hiσ : i < σ.length := by rw [I.len]; exact (List.getElem?_eq_some_iff.mp hi).1
  have cne := I.cne
  have tracked : ∀ {a : Addr} {h' : Heap}, (∃ o, s.heap.get? a = some o ∧ H a = none) → Heap.SameBut a s.heap h' → HOk X.prog X.w H h' := fun {a h'} ha hs b ob e => by
    obtain ⟨_, _, hfree⟩ := ha
    refine (I.hok b ob e).stay (fun c w' hc q => (hs.2 c ?_).trans q) (fun _ q => q) fun _ _ q => q
    rintro rfl
    rcases hc with rfl | hc
    · rw [hfree] at e; cases e
    · rw [hfree] at hc; cases hc
  rcases hx with hk | hk
  · refine wpAny_storeName_local hk hn (fun h' hn' hs => ?_) hcls
    obtain ⟨oL, _, _, hoL, _⟩ := id hn
    refine h _ ⟨I.ok, I.os, I.bare, ⟨fun b o e n hb hx => ?_, fun b o e n hb hx => ?_, I.base.free, fun b o e hx => ?_, I.base.tups, I.base.frzs, I.base.tbls⟩, ⟨_, hn', fun j y v' e1 e2 e3 => ?_⟩, fun y c e => ?_, I.free, I.freeC, fun p hp => ?_, tracked ⟨oL, hoL, I.free⟩ hs, by simpa using I.len⟩ ⟨_, hs, .inl rfl⟩
    · exact (hs.2 b (Nat.ne_of_lt (Nat.lt_of_lt_of_le (Heap.lt_size e) I.ok.above))).trans (I.base.keep b o e n hb hx)
    · obtain ⟨sl, e1⟩ := I.base.slot b o e n hb hx
      exact ⟨sl, (hs.2 b (Nat.ne_of_lt (Nat.lt_of_lt_of_le (Heap.lt_size e) I.ok.above))).trans e1⟩
    · obtain ⟨o', e1⟩ := I.base.there b o e hx
      exact ⟨o', (hs.2 b (Nat.ne_of_lt (Nat.lt_of_lt_of_le (Heap.lt_size e) I.ok.above))).trans e1⟩
    · by_cases hj : j = i
      · subst hj
        rw [hi] at e1; cases e1
        rw [List.getElem?_set_self hiσ] at e2
        cases e2
        exact ⟨u, r, .inl ⟨hk, by simp⟩⟩
      · rw [List.getElem?_set_ne (Ne.symm hj)] at e2
        obtain ⟨u', r', q⟩ := hl j y v' e1 e2 e3
        refine ⟨u', r', ?_⟩
        rcases q with ⟨k, e⟩ | ⟨k, c, e, z⟩
        · refine .inl ⟨k, ?_⟩
          have : y ≠ x := fun e => hj (nodup_ix hN e1 (e ▸ hi))
          simp [this, e]
        · exact .inr ⟨k, c, e, z.sameBut hs (cne y c e)⟩
    · obtain ⟨w', z⟩ := I.cell y c e
      exact ⟨w', z.sameBut hs (cne y c e)⟩
    · obtain ⟨e, n, ne, nf, d⟩ := I.pin p hp
      exact ⟨(hs.2 p.1 ne).trans e, n, ne, nf, d⟩
  · have hfn : X.fn x = true := by
      rcases hf with z | z
      · exact z
      · rw [z] at hk; cases hk
    obtain ⟨c, hc⟩ := I.ok.has x (.inl hk)
    obtain ⟨w', z⟩ := I.cell x c hc
    refine wpAny_storeName_cell I.ok.kind hk hc z (fun h' hc' hs => ?_)
    obtain ⟨oc, hoc, hocd⟩ := id z
    refine h { s with heap := h' } ⟨I.ok, I.os, I.bare, ⟨fun b o e n hb hx => ?_, fun b o e n hb hx => ?_, I.base.free, fun b o e hx => ?_, I.base.tups, I.base.frzs, I.base.tbls⟩, ⟨m, hn.sameBut hs (Ne.symm (cne x c hc)), fun j y v' e1 e2 e3 => ?_⟩, fun y c' e => ?_, I.free, I.freeC, fun p hp => ?_, tracked ⟨oc, hoc, I.freeC x c hc⟩ hs, by simpa using I.len⟩ ⟨c, hs, .inr hc⟩
    · exact (hs.2 b (Nat.ne_of_lt (Nat.lt_of_lt_of_le (Heap.lt_size e) (I.ok.cab x c hfn hc)))).trans (I.base.keep b o e n hb hx)
    · obtain ⟨sl, e1⟩ := I.base.slot b o e n hb hx
      exact ⟨sl, (hs.2 b (Nat.ne_of_lt (Nat.lt_of_lt_of_le (Heap.lt_size e) (I.ok.cab x c hfn hc)))).trans e1⟩
    · obtain ⟨o', e1⟩ := I.base.there b o e hx
      exact ⟨o', (hs.2 b (Nat.ne_of_lt (Nat.lt_of_lt_of_le (Heap.lt_size e) (I.ok.cab x c hfn hc)))).trans e1⟩
    · by_cases hj : j = i
      · subst hj
        rw [hi] at e1; cases e1
        rw [List.getElem?_set_self hiσ] at e2
        cases e2
        exact ⟨u, r, .inr ⟨.inl hk, c, hc, hc'⟩⟩
      · rw [List.getElem?_set_ne (Ne.symm hj)] at e2
        obtain ⟨u', r', q⟩ := hl j y v' e1 e2 e3
        refine ⟨u', r', ?_⟩
        rcases q with q | ⟨k, c', e, z'⟩
        · exact .inl q
        · refine .inr ⟨k, c', e, z'.sameBut hs ?_⟩
          rintro rfl
          exact hj (nodup_ix hN e1 (I.ok.inj _ _ _ e hc ▸ hi))
    · by_cases hcc : c' = c
      · subst hcc; exact ⟨_, hc'⟩
      · obtain ⟨w2, z2⟩ := I.cell y c' e
        exact ⟨w2, z2.sameBut hs hcc⟩
    · obtain ⟨e, n, ne, nf, d⟩ := I.pin p hp
      refine ⟨(hs.2 p.1 ?_).trans e, n, ne, nf, d⟩
      intro q
      rw [q, hoc] at e
      have q' : oc = p.2 := Option.some.inj e
      exact d w' (by rw [← q']; exact hocd)
theorem store_ok {M : Model} {A : Around} {E : Value → Shared → Prop} {i : Nat} {x : Str} {v : V} {u : Value} {Q : Unit → Shared → Prop} (I : Inv X pins σ H s) (hN : X.N.Nodup) (hi : X.N[i]? = some x) (hx : Loc X.env.scope x) (r : RelV v u)
    (h : ∀ s', Inv X pins (σ.set i (some v)) H s' → Q () s') (hf : X.fn x = true ∨ X.env.scope.names.lookup x = some .local := by first | exact .inl rfl | exact .inr rfl | assumption) : wpAny M A (storeName X.env x u) Q E s :=
  store_ok2 I hN hi hx r (fun s' I' _ => h s' I') hf
/-- behind a call or a block, the state as it is -/
theorem Inv.call' {s' : Shared} {ch : List Addr} (I : Inv X pins σ H s) (ho : s'.os = s.os) (u : Un (frs X.stack) ch H H' s.heap s'.heap) (hok : HOk X.prog X.w H' s'.heap) (hg : AllBare s'.gens)
    (hch : ∀ b ∈ ch, (b ∈ X.ex ∨ X.s₀.heap.objs.size ≤ b) ∧ b ≠ X.env.locals ∧ (∀ x c, X.env.cells.lookup x = some c → c ≠ b) ∧ ∀ p ∈ X.pn ++ pins, p.1 ≠ b) : Inv X pins σ H' s' := by
  obtain ⟨h', g', d', t', o'⟩ := s'
  have e : o' = s.os := ho
  subst e
  exact I.call (g' := g') (t' := t') (d' := d') u hok hg hch
end

/-! ### the judgements -/
/-- an exception: its class, its own dict's address (where it has one), the abstract heap behind it -/
abbrev XK := Value → Option Addr → Hp → Prop
abbrev St := List (Option V)
abbrev VK := V → Hp → Prop
/-- an expression's reading; a test's; an argument list's -/
abbrev TE := St → Hp → VK → Prop
abbrev TT := St → Hp → (Bool → Hp → Prop) → Prop
abbrev TA := St → Hp → (List V → Hp → Prop) → Prop
/-- what is wanted behind a statement -/
structure Ends where
  nx : St → Hp → Prop
  rt : VK
  bk : St → Hp → Prop := fun _ _ => False
  ct : St → Hp → Prop := fun _ _ => False
abbrev TS := Ends → St → Hp → Prop

def EP (X : Cx) (pins : List (Addr × Obj)) (σ : St) (Q : VK) (u : Value) (s' : Shared) : Prop := ∃ v H', Inv X pins σ H' s' ∧ RelV v u ∧ Q v H'
def TP (X : Cx) (pins : List (Addr × Obj)) (σ : St) (Q : Bool → Hp → Prop) (b : Bool) (s' : Shared) : Prop := ∃ H', Inv X pins σ H' s' ∧ Q b H'
def AP (X : Cx) (pins : List (Addr × Obj)) (σ : St) (Q : List V → Hp → Prop) (us : List Value) (s' : Shared) : Prop := ∃ vs H', Inv X pins σ H' s' ∧ Vals vs us ∧ Q vs H'
def SP (X : Cx) (pins : List (Addr × Obj)) (D : Ends) (f : Flow) (s' : Shared) : Prop :=
  match f with
  | .next => ∃ σ' H', Inv X pins σ' H' s' ∧ D.nx σ' H'
  | .brk => ∃ σ' H', Inv X pins σ' H' s' ∧ D.bk σ' H'
  | .cont => ∃ σ' H', Inv X pins σ' H' s' ∧ D.ct σ' H'
  | .ret u => ∃ v σ' H', Inv X pins σ' H' s' ∧ RelV v u ∧ D.rt v H'

def PE (X : Cx) (e : Expr) (t : TE) : Prop :=
  ∀ (pins : List (Addr × Obj)) (s : Shared) (σ : St) (H : Hp) (Q : VK), Inv X pins σ H s → t σ H Q → wpAny (model X.prog X.w) X.A (eval e X.env) (EP X pins σ Q) X.xe s
def PT (X : Cx) (e : Expr) (t : TT) : Prop :=
  ∀ (pins : List (Addr × Obj)) (s : Shared) (σ : St) (H : Hp) (Q : Bool → Hp → Prop), Inv X pins σ H s → t σ H Q → wpAny (model X.prog X.w) X.A (isTrue e X.env (eval e X.env)) (TP X pins σ Q) X.xe s
/-- a test whatever its 'whole' is (and, or) -/
def PW (X : Cx) (e : Expr) (t : TT) : Prop :=
  ∀ (whole : Sem Value) (pins : List (Addr × Obj)) (s : Shared) (σ : St) (H : Hp) (Q : Bool → Hp → Prop), Inv X pins σ H s → t σ H Q → wpAny (model X.prog X.w) X.A (isTrue e X.env whole) (TP X pins σ Q) X.xe s
theorem PW.pt {X : Cx} {e : Expr} {t : TT} (h : PW X e t) : PT X e t := h _
/-- an argument list (no star), from the left -/
def PA (X : Cx) (es : List Expr) (t : TA) : Prop :=
  ∀ (pos : Pos) (pins : List (Addr × Obj)) (s : Shared) (σ : St) (H : Hp) (Q : List V → Hp → Prop), Inv X pins σ H s → t σ H Q → wpAny (model X.prog X.w) X.A (spliced (backTo pos (starEach es X.env))) (AP X pins σ Q) X.xe s
def PS (X : Cx) (st : Stmt) (t : TS) : Prop :=
  ∀ (pins : List (Addr × Obj)) (s : Shared) (σ : St) (H : Hp) (D : Ends), Inv X pins σ H s → t D σ H → wpAny (model X.prog X.w) X.A (exec st X.env) (SP X pins D) X.xe s
def PSs (X : Cx) (st : List Stmt) (t : TS) : Prop :=
  ∀ (pins : List (Addr × Obj)) (s : Shared) (σ : St) (H : Hp) (D : Ends), Inv X pins σ H s → t D σ H → wpAny (model X.prog X.w) X.A (execs st X.env) (SP X pins D) X.xe s
/-- weaken the end -/
theorem thn {α : Type} {t : Sem α} {Q Q' : α → Shared → Prop} {M : Model} {A : Around} {E : Value → Shared → Prop} {s : Shared} (h : wpAny M A t Q E s) (hQ : ∀ a s, Q a s → Q' a s) : wpAny M A t Q' E s := wpAny_mono h hQ fun _ _ x => x
end L2

namespace L2
open PySem PySem.Spec PyProof.Rows
section
variable {X : Cx}

/-! ### names and constants -/
def tVar (i : Nat) : TE := fun σ H Q => ∃ v, σ[i]? = some (some v) ∧ Q v H
def tC (v : V) : TE := fun _ H Q => Q v H
theorem pe_var {i : Nat} {x : Str} {pos : Pos} (hN : X.N[i]? = some x) (hv : Vis X.env.scope x) (hd : (x == ("__debug__" : Str)) = false := by decide) (hcd : (x == ("__classdict__" : Str)) = false := by decide) : PE X (.Name x pos) (tVar i) := by
  intro pins s σ H Q I h
  obtain ⟨v, e, h⟩ := h
  obtain ⟨m, hn, hl⟩ := I.loc
  obtain ⟨u, r, l⟩ := hl i x v hN e hv
  have fin : EP X pins σ Q u s := ⟨v, H, I, r, h⟩
  rcases l with ⟨hk, hm⟩ | ⟨hk, c, hc, hcell⟩
  · exact wpAny_Name (wpAny_loadName_local I.ok.kind hk hn hm fin) hd
  · rcases hk with hk | hk
    · exact wpAny_Name (wpAny_loadName_cell I.ok.kind hk hc hcell fin) hd
    · exact wpAny_Name (wpAny_loadName_free I.ok.kind hk hc hcell fin hcd) hd
theorem pe_int {i j pos} : PE X (.Constant (.int i) j pos) (tC (.int i)) := fun _ _ _ H _ I h => wpAny_Constant_int ⟨.int i, H, I.tok _, ⟨_, rfl⟩, h⟩
theorem pe_bl {b j pos} : PE X (.Constant (.bool b) j pos) (tC (.bl b)) := fun _ _ _ H _ I h => Constant_bool ⟨.bl b, H, I, rfl, h⟩
theorem pe_non {j pos} : PE X (.Constant .none j pos) (tC .non) := fun _ _ _ H _ I h => Constant_none ⟨.non, H, I, rfl, h⟩
theorem pe_str {x j pos} : PE X (.Constant (.str x) j pos) (tC (.str x)) := fun _ _ _ H _ I h => Calls.Constant_str ⟨.str x, H, I.tok _, ⟨_, rfl⟩, h⟩

/-- a global name of the def -/
def Gl (X : Cx) (x : Str) : Prop := X.env.kindOf x = some .globalImplicit
theorem ld_glob {E : Value → Shared → Prop} {pins : List (Addr × Obj)} {s : Shared} {σ : St} {H : Hp} {x : Str} {u : Value} {pos : Pos} {Q : Value → Shared → Prop} (I : Inv X pins σ H s) (hg : Gl X x) (hm : X.mg x = some u) (h : Q u s)
    (hd : (x == ("__debug__" : Str)) = false := by decide) : wpAny (model X.prog X.w) X.A (eval (.Name x pos) X.env) Q E s :=
  Calls.Name_function_global I.ok.kind hg (Calls.loadGlobal_global (by rw [I.ok.glob]; exact I.mod.glob.keeps I.bk) hm h) hd
theorem ld_blt {E : Value → Shared → Prop} {pins : List (Addr × Obj)} {s : Shared} {σ : St} {H : Hp} {x : Str} {u : Value} {pos : Pos} {Q : Value → Shared → Prop} (I : Inv X pins σ H s) (hg : Gl X x) (hm : X.mg x = none) (hv : bootBuiltins x = some u) (h : Q u s)
    (hn : x ≠ "__name__" := by decide) (hd : (x == ("__debug__" : Str)) = false := by decide) : wpAny (model X.prog X.w) X.A (eval (.Name x pos) X.env) Q E s := by
  obtain ⟨mb, h1, h2⟩ := I.mod.blt
  exact Calls.Name_function_global I.ok.kind hg (Calls.loadGlobal_builtin (by rw [I.ok.glob]; exact I.mod.glob.keeps I.bk) hm (by rw [I.ok.blt]; exact h1.keeps I.bk) ((h2 x hn).trans hv) h) hd
/-- a module's constant, a class, a function, as a value -/
theorem pe_glob {x : Str} {v : V} {u : Value} {pos : Pos} (hg : Gl X x) (hm : X.mg x = some u) (r : RelV v u) (hd : (x == ("__debug__" : Str)) = false := by decide) : PE X (.Name x pos) (tC v) :=
  fun _ _ _ H _ I h => ld_glob I hg hm ⟨v, H, I, r, h⟩ hd
theorem pe_bltn {x : Str} {v : V} {u : Value} {pos : Pos} (hg : Gl X x) (hm : X.mg x = none) (hv : bootBuiltins x = some u) (r : RelV v u) (hn : x ≠ "__name__" := by decide) (hd : (x == ("__debug__" : Str)) = false := by decide) : PE X (.Name x pos) (tC v) :=
  fun _ _ _ H _ I h => ld_blt I hg hm hv ⟨v, H, I, r, h⟩ hn hd

/-! ### arithmetic -/
/-- two ints -/
def t2I (ta tb : TE) (k : Int → Int → Hp → Prop) : St → Hp → Prop := fun σ H => ta σ H fun x H1 => tb σ H1 fun y H2 => ∃ i j, x = .int i ∧ y = .int j ∧ k i j H2
def tAdd (ta tb : TE) : TE := fun σ H Q => t2I ta tb (fun i j H2 => Q (.int (i + j)) H2) σ H
def tSub (ta tb : TE) : TE := fun σ H Q => t2I ta tb (fun i j H2 => Q (.int (i - j)) H2) σ H
/-- the left factor below 2^64 -/
def tMul (ta tb : TE) : TE := fun σ H Q => t2I ta tb (fun i j H2 => (-(2 ^ 64) < i ∧ i < 2 ^ 64) ∧ Q (.int (i * j)) H2) σ H
variable {a b : Expr} {ta tb : TE} {pos : Pos}
/-! ### comparisons -/
def PC (X : Cx) (op : CmpOp) (a b : Expr) (t : TE) : Prop :=
  ∀ (pins : List (Addr × Obj)) (s : Shared) (σ : St) (H : Hp) (Q : VK), Inv X pins σ H s → t σ H Q →
    wpAny (model X.prog X.w) X.A (eval a X.env) (fun v s₁ => wpAny (model X.prog X.w) X.A (eval b X.env) (fun u s₂ => wpAny (model X.prog X.w) X.A (compareOp op v u) (EP X pins σ Q) X.xe s₂) X.xe s₁) X.xe s
def tCmp (p : Int → Int → Bool) (ta tb : TE) : TE := fun σ H Q => t2I ta tb (fun i j H2 => Q (.bl (p i j)) H2) σ H
abbrev tLt : TE → TE → TE := tCmp fun i j => decide (i < j)
abbrev tLe : TE → TE → TE := tCmp fun i j => decide (i ≤ j)
abbrev tGt : TE → TE → TE := tCmp fun i j => decide (j < i)
abbrev tGe : TE → TE → TE := tCmp fun i j => decide (j ≤ i)
abbrev tEqI : TE → TE → TE := tCmp fun i j => decide (i = j)
abbrev tNeI : TE → TE → TE := tCmp fun i j => !decide (i = j)
/-- is None -/
def tIsN (ta : TE) : TE := fun σ H Q => ta σ H fun x H1 => Q (.bl (decide (x = .non))) H1
def tNotN (ta : TE) : TE := fun σ H Q => ta σ H fun x H1 => Q (.bl (!decide (x = .non))) H1
/-- a comparison as a value, as a test -/
def tB (t : TE) : TT := fun σ H Q => t σ H fun x H1 => ∃ c, x = .bl c ∧ Q c H1
/-! ### and, or, not -/
variable {tA tB' : TT} {rest : List Expr}
def tAnd (t u : TT) : TT := fun σ H Q => t σ H fun c H1 => if c = true then u σ H1 Q else Q false H1
def tOr (t u : TT) : TT := fun σ H Q => t σ H fun c H1 => if c = true then Q true H1 else u σ H1 Q
def tNot (t : TT) : TT := fun σ H Q => t σ H fun c H1 => Q (!c) H1
theorem pw_and1 (ha : PT X a tA) : PW X (.BoolOp .And [a] pos) tA := by
  intro wh pins s σ H Q I h
  refine isTrue_and (thn (ha pins s σ H Q I h) fun c s1 e => ?_)
  cases c with
  | true => exact isTrue_and_nil e
  | false => exact e
theorem pw_or1 (ha : PT X a tA) : PW X (.BoolOp .Or [a] pos) tA := by
  intro wh pins s σ H Q I h
  refine isTrue_or (thn (ha pins s σ H Q I h) fun c s1 e => ?_)
  cases c with
  | false => exact isTrue_or_nil e
  | true => exact e
theorem pw_and (ha : PT X a tA) (hb : PW X (.BoolOp .And (b :: rest) pos) tB') : PW X (.BoolOp .And (a :: b :: rest) pos) (tAnd tA tB') := by
  intro wh pins s σ H Q I h
  refine isTrue_and (thn (ha pins s σ H _ I h) fun c s1 ⟨H1, I1, q1⟩ => ?_)
  cases c with
  | true => exact hb wh pins s1 σ H1 Q I1 q1
  | false => exact ⟨H1, I1, q1⟩
theorem pw_or (ha : PT X a tA) (hb : PW X (.BoolOp .Or (b :: rest) pos) tB') : PW X (.BoolOp .Or (a :: b :: rest) pos) (tOr tA tB') := by
  intro wh pins s σ H Q I h
  refine isTrue_or (thn (ha pins s σ H _ I h) fun c s1 ⟨H1, I1, q1⟩ => ?_)
  cases c with
  | true => exact ⟨H1, I1, q1⟩
  | false => exact hb wh pins s1 σ H1 Q I1 q1
theorem pt_not (ha : PT X a tA) : PT X (.UnaryOp .Not a pos) (tNot tA) := by
  intro pins s σ H Q I h
  exact isTrue_not (ha pins s σ H (fun c H1 => Q (!c) H1) I h)
/-- .. as values (bools) -/
def tAndV (ta tb : TE) : TE := fun σ H Q => ta σ H fun x H1 => ∃ c, x = .bl c ∧ if c = true then tb σ H1 Q else Q (.bl false) H1
def tOrV (ta tb : TE) : TE := fun σ H Q => ta σ H fun x H1 => ∃ c, x = .bl c ∧ if c = true then Q (.bl true) H1 else tb σ H1 Q
def tNotV (ta : TE) : TE := fun σ H Q => ta σ H fun x H1 => ∃ c, x = .bl c ∧ Q (.bl (!c)) H1
theorem pe_one {op} {t : TE} (h : PE X a t) : PE X (.BoolOp op [a] pos) t := fun pins s σ H Q I hw => BoolOp_one (h pins s σ H Q I hw)
theorem pe_and (ha : PE X a ta) (hb : PE X (.BoolOp .And (b :: rest) pos) tb) : PE X (.BoolOp .And (a :: b :: rest) pos) (tAndV ta tb) := by
  intro pins s σ H Q I h
  refine BoolOp_and (thn (ha pins s σ H _ I h) fun v s1 ⟨x, H1, I1, r1, q1⟩ => ?_)
  obtain ⟨c, rfl, q1⟩ := q1
  cases r1
  refine wpAny_truthy_bool ?_
  cases c with
  | true => exact hb pins s1 σ H1 Q I1 q1
  | false => exact ⟨.bl false, H1, I1, rfl, q1⟩
theorem pe_or (ha : PE X a ta) (hb : PE X (.BoolOp .Or (b :: rest) pos) tb) : PE X (.BoolOp .Or (a :: b :: rest) pos) (tOrV ta tb) := by
  intro pins s σ H Q I h
  refine BoolOp_or (thn (ha pins s σ H _ I h) fun v s1 ⟨x, H1, I1, r1, q1⟩ => ?_)
  obtain ⟨c, rfl, q1⟩ := q1
  cases r1
  refine wpAny_truthy_bool ?_
  cases c with
  | false => exact hb pins s1 σ H1 Q I1 q1
  | true => exact ⟨.bl true, H1, I1, rfl, q1⟩
theorem pe_not (ha : PE X a ta) : PE X (.UnaryOp .Not a pos) (tNotV ta) := by
  intro pins s σ H Q I h
  refine UnaryOp_ (thn (ha pins s σ H _ I h) fun v s1 ⟨x, H1, I1, r1, q1⟩ => ?_)
  obtain ⟨c, rfl, q1⟩ := q1
  cases r1
  exact not_of (wpAny_truthy_bool ⟨.bl (!c), H1, I1, rfl, q1⟩)
/-- a if t else b -/
def tIf (t : TT) (ta tb : TE) : TE := fun σ H Q => t σ H fun c H1 => if c = true then ta σ H1 Q else tb σ H1 Q
theorem pe_ifExp {c : Expr} (hc : PT X c tA) (ha : PE X a ta) (hb : PE X b tb) : PE X (.IfExp c a b pos) (tIf tA ta tb) := by
  intro pins s σ H Q I h
  refine wpAny_IfExp (thn (hc pins s σ H _ I h) fun d s1 ⟨H1, I1, q1⟩ => ?_)
  cases d with
  | true => exact ha pins s1 σ H1 Q I1 q1
  | false => exact hb pins s1 σ H1 Q I1 q1
end
end L2

namespace L2
open PySem PySem.Spec PyProof.Rows

/-! ### a list, a tuple that is read: tracked, frozen, or an object of the module -/
def SqL (K : PySem.W.Frag) (H : Hp) (a : Addr) (xs : List V) : Prop :=
  Rd H a (.lst xs) ∨
    ∃ (o : Obj) (its : Array Value) (n : Nat), K.lookup a = some o ∧ o.cls = .type "list" ∧ o.dict = none ∧ o.data = .seq its n ∧ its.size ≤ sizeLine ∧ Vals xs its.toList
def SqT (K : PySem.W.Frag) (H : Hp) (a : Addr) (xs : List V) : Prop :=
  Rd H a (.tup xs) ∨
    ∃ (o : Obj) (its : Array Value) (n : Nat), K.lookup a = some o ∧ o.cls = .type "tuple" ∧ o.data = .seq its n ∧ its.size ≤ sizeLine ∧ Vals xs its.toList
def absV : Value → Option V
  | .none => some .non
  | .bool b => some (.bl b)
  | .int i _ => some (.int i)
  | .str x _ => some (.str x)
  | .bytes b _ => some (.byt b)
  | .float b _ => some (.flt b)
  | .ref a => some (.ref a)
  | .type n => some (.ty n)
  | _ => none
theorem RelV.abs {x : V} {u : Value} (r : RelV x u) : absV u = some x := by
  cases x with
  | non => cases r; rfl
  | bl _ => cases r; rfl
  | int _ => obtain ⟨t, rfl⟩ := r; rfl
  | str _ => obtain ⟨t, rfl⟩ := r; rfl
  | byt _ => obtain ⟨t, rfl⟩ := r; rfl
  | flt _ => obtain ⟨t, rfl⟩ := r; rfl
  | ref _ => cases r; rfl
  | ty _ => cases r; rfl
theorem RelV.inj {x y : V} {u : Value} (r : RelV x u) (q : RelV y u) : x = y := Option.some.inj (r.abs.symm.trans q.abs)
theorem Vals.inj : ∀ {xs ys : List V} {us : List Value}, Vals xs us → Vals ys us → xs = ys
  | _, _, _, .nil, .nil => rfl
  | _, _, _, .cons r t, .cons r' t' => by rw [r.inj r', Vals.inj t t']
section
variable {X : Cx} {pins : List (Addr × Obj)} {σ : St} {H : Hp} {s : Shared} {a : Addr} {xs ys : List V}
theorem SqL.of {K : PySem.W.Frag} (h : H a = some (.lst xs)) : SqL K H a xs := .inl (.inl h)
theorem SqT.of {K : PySem.W.Frag} (h : H a = some (.tup xs)) : SqT K H a xs := .inl (.inl h)
theorem Inv.list (I : Inv X pins σ H s) (h : SqL X.K H a xs) : ∃ its : List Value, Vals xs its ∧ PlainL s.heap a its.toArray ∧ xs.length ≤ sizeLine := by
  rcases h with h | ⟨o, its, n, hk, hc, hd, hs, hz, r⟩
  · obtain ⟨z, its, n, r, e⟩ := h.ok I.hok
    exact ⟨its, r, ⟨_, n, e, rfl, rfl, rfl⟩, z⟩
  · refine ⟨its.toList, r, ⟨o, n, I.kIn a o hk, hc, hd, by simpa using hs⟩, ?_⟩
    have e := r.length
    simp only [Array.length_toList] at e
    omega
theorem Inv.tuple (I : Inv X pins σ H s) (h : SqT X.K H a xs) : ∃ its : List Value, Vals xs its ∧ IsTup s.heap a its.toArray ∧ xs.length ≤ sizeLine := by
  rcases h with h | ⟨o, its, n, hk, hc, hs, hz, r⟩
  · obtain ⟨z, its, r, p⟩ := h.ok I.hok
    exact ⟨its, r, p, z⟩
  · refine ⟨its.toList, r, ⟨o, I.kIn a o hk, hc, n, by simpa using hs⟩, ?_⟩
    have e := r.length
    simp only [Array.length_toList] at e
    omega
theorem Inv.list_inj (I : Inv X pins σ H s) (h : SqL X.K H a xs) (h' : SqL X.K H a ys) : xs = ys := by
  obtain ⟨its, r, ⟨o, n, e, _, _, d⟩, _⟩ := I.list h
  obtain ⟨its', r', ⟨o', n', e', _, _, d'⟩, _⟩ := I.list h'
  rw [e] at e'; cases e'
  rw [d] at d'
  injection d' with d1 _
  have : its = its' := by simpa using congrArg Array.toList d1
  subst this
  exact r.inj r'
theorem Inv.tuple_inj (I : Inv X pins σ H s) (h : SqT X.K H a xs) (h' : SqT X.K H a ys) : xs = ys := by
  obtain ⟨its, r, ⟨o, e, _, n, d⟩, _⟩ := I.tuple h
  obtain ⟨its', r', ⟨o', e', _, n', d'⟩, _⟩ := I.tuple h'
  rw [e] at e'; cases e'
  rw [d] at d'
  injection d' with d1 _
  have : its = its' := by simpa using congrArg Array.toList d1
  subst this
  exact r.inj r'
end

/-! ### another wish about exceptions -/
abbrev Cx.wish (X : Cx) (E : Value → Shared → Prop) : Cx := { X with xe := E }
/-- no exception leaves -/
abbrev Cx.nox (X : Cx) : Cx := X.wish fun _ _ => False
theorem Cx.Ok.wish {X : Cx} (ok : X.Ok) (E : Value → Shared → Prop) : (X.wish E).Ok :=
  ⟨ok.mod, ok.kind, ok.glob, ok.blt, ok.above, ok.inj, ok.has, ok.cab, ok.hd, ok.frames, ok.stk, ok.exf, ok.bs, ok.bsz, ok.noex, ok.exfs, ok.funs, ok.frf⟩
theorem Cx.Ok.unwish {X : Cx} {E : Value → Shared → Prop} (ok : (X.wish E).Ok) : X.Ok :=
  ⟨ok.mod, ok.kind, ok.glob, ok.blt, ok.above, ok.inj, ok.has, ok.cab, ok.hd, ok.frames, ok.stk, ok.exf, ok.bs, ok.bsz, ok.noex, ok.exfs, ok.funs, ok.frf⟩
section
variable {X : Cx} {pins : List (Addr × Obj)} {σ : St} {H : Hp} {s : Shared} {E : Value → Shared → Prop}
theorem Inv.wish (I : Inv X pins σ H s) (E : Value → Shared → Prop) : Inv (X.wish E) pins σ H s := ⟨I.ok.wish E, I.os, I.bare, I.base, I.loc, I.cell, I.free, I.freeC, I.pin, I.hok, I.len⟩
theorem Inv.unwish (I : Inv (X.wish E) pins σ H s) : Inv X pins σ H s := ⟨I.ok.unwish, I.os, I.bare, I.base, I.loc, I.cell, I.free, I.freeC, I.pin, I.hok, I.len⟩
theorem SP.unwish {D : Ends} {f : Flow} {s' : Shared} (h : SP (X.wish E) pins D f s') : SP X pins D f s' := by
  cases f with
  | next => obtain ⟨σ', H', I, q⟩ := h; exact ⟨σ', H', I.unwish, q⟩
  | brk => obtain ⟨σ', H', I, q⟩ := h; exact ⟨σ', H', I.unwish, q⟩
  | cont => obtain ⟨σ', H', I, q⟩ := h; exact ⟨σ', H', I.unwish, q⟩
  | ret u => obtain ⟨v, σ', H', I, r, q⟩ := h; exact ⟨v, σ', H', I.unwish, r, q⟩
theorem PSs.nox {st : List Stmt} {t : TS} (h : PSs X.nox st t) : PSs X st t := fun pins s σ H D I hw =>
  wpAny_mono (h pins s σ H D (I.wish _) hw) (fun _ _ q => q.unwish) fun _ _ z => False.elim z
end

/-! ### blocks and small statements -/
section
variable {X : Cx} {st : Stmt} {rest : List Stmt} {t u : TS} {e : Expr} {te : TE} {pos : Pos}
def tNext : TS := fun D σ H => D.nx σ H
def tSeq (t u : TS) : TS := fun D σ H => t { D with nx := u D } σ H
theorem pss_nil : PSs X [] tNext := fun _ _ σ H _ I h => wpAny_execs_nil ⟨σ, H, I, h⟩
theorem pss_cons (h1 : PS X st t) (h2 : PSs X rest u) : PSs X (st :: rest) (tSeq t u) := by
  intro pins s σ H D I h
  refine wpAny_execs_cons (thn (h1 pins s σ H { D with nx := u D } I h) fun f s1 q => ?_)
  cases f with
  | next =>
    obtain ⟨σ', H', I', q⟩ := q
    exact h2 pins s1 σ' H' D I' q
  | ret v => exact q
  | brk => exact q
  | cont => exact q
theorem pss_one (h1 : PS X st t) : PSs X [st] t := by
  intro pins s σ H D I h
  refine wpAny_execs_cons (thn (h1 pins s σ H D I h) fun f s1 q => ?_)
  cases f with
  | next => exact wpAny_execs_nil q
  | ret v => exact q
  | brk => exact q
  | cont => exact q
def tBreak : TS := fun D σ H => D.bk σ H
def tCont : TS := fun D σ H => D.ct σ H
/-- in a def's body nothing is shown -/
theorem Inv.quiet {pins : List (Addr × Obj)} {σ : St} {H : Hp} {s : Shared} (I : Inv X pins σ H s) : interactive X.env = false := by simp [interactive, I.ok.kind]
/-- an expression whose value is dropped -/
def tDrop (te : TE) : TS := fun D σ H => te σ H fun _ H1 => D.nx σ H1
theorem ps_expr (he : PE X e te) (hs : swapsWith e none pos.line X.env = pure false := by rfl) : PS X (.Expr e pos) (tDrop te) := by
  intro pins s σ H D I h
  exact wpAny_Expr_any (thn (he pins s σ H _ I h) fun v s1 ⟨x, H1, I1, r1, q1⟩ => ⟨σ, H1, I1, q1⟩) I.quiet hs
def tRet (te : TE) : TS := fun D σ H => te σ H D.rt
theorem ps_ret (he : PE X e te) : PS X (.Return (some e) pos) (tRet te) := by
  intro pins s σ H D I h
  exact wpAny_Return_some (thn (he pins s σ H _ I h) fun v s1 ⟨x, H1, I1, r1, q1⟩ => ⟨x, σ, H1, I1, r1, q1⟩)
def tRetN : TS := fun D _ H => D.rt .non H
def tIfS (c : TT) (t u : TS) : TS := fun D σ H => c σ H fun b H1 => if b = true then t D σ H1 else u D σ H1
theorem ps_if {c : Expr} {a b : List Stmt} {tc : TT} (hc : PT X c tc) (ha : PSs X a t) (hb : PSs X b u) : PS X (.If c a b pos) (tIfS tc t u) := by
  intro pins s σ H D I h
  refine wpAny_If (thn (hc pins s σ H _ I h) fun d s1 ⟨H1, I1, q1⟩ => ?_)
  cases d with
  | true => exact ha pins s1 σ H1 D I1 q1
  | false => exact hb pins s1 σ H1 D I1 q1
/-- code that the proof never comes to -/
def tNever : TS := fun _ _ _ => False
theorem ps_never : PS X st tNever := fun _ _ _ _ _ _ h => h.elim
end

/-! ### targets -/
abbrev TG := V → St → Hp → (St → Hp → Prop) → Prop
abbrev TGs := List V → St → Hp → (St → Hp → Prop) → Prop
def PG (X : Cx) (target : Expr) (t : TG) : Prop :=
  ∀ (pins : List (Addr × Obj)) (s : Shared) (σ : St) (H : Hp) (v : V) (u : Value) (Q : St → Hp → Prop), Inv X pins σ H s → RelV v u → t v σ H Q →
    wpAny (model X.prog X.w) X.A (assign target X.env u) (fun _ s' => ∃ σ' H', Inv X pins σ' H' s' ∧ Q σ' H') X.xe s
/-- several targets, one after another -/
def PGs (X : Cx) (ts : List Expr) (t : TGs) : Prop :=
  ∀ (pins : List (Addr × Obj)) (s : Shared) (σ : St) (H : Hp) (vs : List V) (us : List Value) (Q : St → Hp → Prop), Inv X pins σ H s → Vals vs us → t vs σ H Q →
    wpAny (model X.prog X.w) X.A (assignInOrder ((assignEach ts X.env).map (·.2)) us) (fun _ s' => ∃ σ' H', Inv X pins σ' H' s' ∧ Q σ' H') X.xe s
/-- o[i] = v, by values -/
abbrev TSet := V → V → V → Hp → (Hp → Prop) → Prop
def PSet (X : Cx) (t : TSet) : Prop :=
  ∀ (pins : List (Addr × Obj)) (s : Shared) (σ : St) (H : Hp) (o i v : V) (ov iv u : Value) (Q : Hp → Prop), Inv X pins σ H s → RelV o ov → RelV i iv → RelV v u → t o i v H Q →
    wpAny (model X.prog X.w) X.A (setItem ov iv u) (fun _ s' => ∃ H', Inv X pins σ H' s' ∧ Q H') X.xe s
/-- a op= b, by values -/
abbrev TIp := V → V → Hp → VK → Prop
def PIp (X : Cx) (op : Operator) (t : TIp) : Prop :=
  ∀ (pins : List (Addr × Obj)) (s : Shared) (σ : St) (H : Hp) (x y : V) (v u : Value) (Q : VK), Inv X pins σ H s → RelV x v → RelV y u → t x y H Q →
    wpAny (model X.prog X.w) X.A (inplaceOp op v u) (EP X pins σ Q) X.xe s
section
variable {X : Cx} {pos : Pos}
def gName (i : Nat) : TG := fun v σ H Q => Q (σ.set i (some v)) H
theorem pg_name {i : Nat} {x : Str} (hN : X.N.Nodup) (hi : X.N[i]? = some x) (hx : Loc X.env.scope x) (hf : X.fn x = true ∨ X.env.scope.names.lookup x = some .local := by first | exact .inl rfl | exact .inr rfl | assumption) : PG X (.Name x pos) (gName i) := by
  intro pins s σ H v u Q I r h
  exact wpAny_assign_Name (store_ok I hN hi hx r (fun s' I' => ⟨_, H, I', h⟩) hf)
def gNil : TGs := fun vs σ H Q => vs = [] ∧ Q σ H
def gCons (t : TG) (u : TGs) : TGs := fun vs σ H Q => ∃ v r, vs = v :: r ∧ t v σ H fun σ' H' => u r σ' H' Q
theorem pgs_nil : PGs X [] gNil := by
  intro pins s σ H vs us Q I r h
  obtain ⟨e, h⟩ := h
  subst e
  cases r
  exact assignInOrder_nil ⟨σ, H, I, h⟩
theorem pgs_cons {e : Expr} {es : List Expr} {t : TG} {u : TGs} (h1 : PG X e t) (h2 : PGs X es u)
    (hs : (assignEach (e :: es) X.env).map (·.2) = assign e X.env :: (assignEach es X.env).map (·.2) := by rfl) : PGs X (e :: es) (gCons t u) := by
  intro pins s σ H vs us Q I r h
  obtain ⟨v, vr, e1, h⟩ := h
  subst e1
  cases r with
  | cons r rr =>
    rw [hs]
    refine assignInOrder_cons (thn (h1 pins s σ H _ _ _ I r h) fun _ s1 ⟨σ1, H1, I1, q1⟩ => ?_)
    exact h2 pins s1 σ1 H1 _ _ Q I1 rr q1
/-- (a, b, ..) = a tuple of that length -/
def gTup (K : PySem.W.Frag) (n : Nat) (t : TGs) : TG := fun v σ H Q => ∃ a xs, v = .ref a ∧ SqT K H a xs ∧ xs.length = n ∧ t xs σ H Q
theorem pg_tup {es : List Expr} {k : Nat} {t : TGs} {n : Nat} (hc : X.calm = true) (h : PGs X es t)
    (hn : (assignEach es X.env).length = n := by rfl) (hst : (assignEach es X.env).findIdx? (·.1) = none := by rfl) : PG X (.Tuple es k pos) (gTup X.K n t) := by
  intro pins s σ H v u Q I r hw
  obtain ⟨a, xs, e1, hq, hl, hw⟩ := hw
  subst e1
  cases r
  obtain ⟨its, rv, ht, hz⟩ := I.tuple hq
  refine assign_Tuple_tuple (I.ok.hd hc) ht (by simp [hn, ← hl, rv.length]) hst fun h' hx => ?_
  have I1 : Inv X pins σ H { s with heap := h' } := I.kept (t' := s.toks) fun b o e => hx b o (Nat.ne_of_lt (Heap.lt_size e)) e
  exact h pins _ σ H xs _ Q I1 (by simpa using rv) hw
/-- o[i] = .. -/
def gSub (to ti : TE) (t : TSet) : TG := fun v σ H Q => to σ H fun o H1 => ti σ H1 fun i H2 => t o i v H2 fun H3 => Q σ H3
/-- target = value -/
def tAsg (te : TE) (g : TG) : TS := fun D σ H => te σ H fun x H1 => g x σ H1 D.nx
theorem ps_asg {tg e : Expr} {te : TE} {g : TG} (he : PE X e te) (hg : PG X tg g) (hs : swapsWithSole [tg] e pos.line X.env = pure false := by rfl) (hw : swappedStores [tg] e X.env = pure none := by rfl)
    (h1 : (assignEach [tg] X.env).map (·.2) = [assign tg X.env] := by rfl) : PS X (.Assign [tg] e pos) (tAsg te g) := by
  intro pins s σ H D I h
  refine wpAny_Assign_stores (thn (he pins s σ H _ I h) fun v s1 ⟨x, H1, I1, r1, q1⟩ => ?_) hs hw
  rw [h1]
  exact thn (hg pins s1 σ H1 x v _ I1 r1 q1) fun _ s2 q => q
/-- name = value -/
theorem ps_set {i : Nat} {x : Str} {e : Expr} {te : TE} {pos' : Pos} (hN : X.N.Nodup) (hi : X.N[i]? = some x) (hx : Loc X.env.scope x) (he : PE X e te) (hs : swapsWith e (some (.Name x pos')) pos.line X.env = pure false := by rfl) (hf : X.fn x = true ∨ X.env.scope.names.lookup x = some .local := by first | exact .inl rfl | exact .inr rfl | assumption) :
    PS X (.Assign [.Name x pos'] e pos) (tAsg te (gName i)) := by
  intro pins s σ H D I h
  refine wpAny_Assign_Name (thn (he pins s σ H _ I h) fun v s1 ⟨y, H1, I1, r1, q1⟩ => ?_) hs
  exact store_ok I1 hN hi hx r1 (fun s2 I2 => ⟨_, H1, I2, q1⟩) hf
/-- a, b = x, y with plain local names: stored from the right; the pair itself is not tracked (the opening rows as in PyProof/Rows/TupAssign.lean:23) -/
def tPar (i j : Nat) (ta : TA) : TS := fun D σ H => ta σ H fun vs H1 => ∃ v w, vs = [v, w] ∧ D.nx ((σ.set i (some v)).set j (some w)) H1
/-- name op= e -/
def tAug (i : Nat) (te : TE) (ti : TIp) : TS := fun D σ H => ∃ x, σ[i]? = some (some x) ∧ te σ H fun y H1 => ti x y H1 fun z H2 => D.nx (σ.set i (some z)) H2
/-- o[i] op= e -/
def tAugS (to ti te : TE) (tget : V → V → Hp → VK → Prop) (tip : TIp) (tset : TSet) : TS := fun D σ H => to σ H fun o H1 => ti σ H1 fun i H2 => tget o i H2 fun x H3 => te σ H3 fun y H4 => tip x y H4 fun z H5 => tset o i z H5 fun H6 => D.nx σ H6
/-- o[i], by values -/
def PGet (X : Cx) (t : V → V → Hp → VK → Prop) : Prop :=
  ∀ (pins : List (Addr × Obj)) (s : Shared) (σ : St) (H : Hp) (o i : V) (ov iv : Value) (Q : VK), Inv X pins σ H s → RelV o ov → RelV i iv → t o i H Q →
    wpAny (model X.prog X.w) X.A (getItem ov iv) (EP X pins σ Q) X.xe s
/-- ints -/
def ipI (f : Int → Int → Int) : TIp := fun x y H Q => ∃ i j, x = .int i ∧ y = .int j ∧ Q (.int (f i j)) H
end

/-! ### while -/
section
variable {X : Cx} {pos : Pos}
/-- the invariant W with its measure -/
def tWhile (c : TT) (tb : TS) : TS := fun D σ H => ∃ W : Nat → St → Hp → Prop, (∃ m, W m σ H) ∧ ∀ m σ H, W m σ H →
  c σ H fun b H1 => if b = true then ∃ N : St → Hp → Prop, (∀ σ' H', N σ' H' → ∃ m', m' < m ∧ W m' σ' H') ∧ tb { D with nx := N, ct := N, bk := D.nx } σ H1 else D.nx σ H1
theorem ps_while {c : Expr} {body : List Stmt} {tc : TT} {tb : TS} (hp : PassesOwn (model X.prog X.w) X.A X.env X.xe) (hc : PT X c tc) (hb : PSs X body tb) : PS X (.While c body [] pos) (tWhile tc tb) := by
  intro pins s σ H D I h
  obtain ⟨W, ⟨m0, w0⟩, turn⟩ := h
  refine wpAny_While (codeAny_whileLoop (fun n s' => ∃ σ' H', Inv X pins σ' H' s' ∧ W n σ' H') ?_ m0 ⟨σ, H, I, w0⟩)
  rintro n s1 ⟨σ1, H1, I1, w1⟩
  refine wpAny_passesOwn hp (thn (hc pins s1 σ1 H1 _ I1 (turn n σ1 H1 w1)) fun b s2 ⟨H2, I2, q2⟩ => ?_)
  cases b with
  | true =>
    obtain ⟨N, hN, q2⟩ := q2
    rw [if_pos rfl]
    refine wpAny_passesOwn hp (thn (hb pins s2 σ1 H2 _ I2 q2) fun f s3 q3 => ?_)
    cases f with
    | next =>
      obtain ⟨σ3, H3, I3, n3⟩ := q3
      obtain ⟨m', hm, w3⟩ := hN σ3 H3 n3
      exact ⟨m', hm, σ3, H3, I3, w3⟩
    | cont =>
      obtain ⟨σ3, H3, I3, n3⟩ := q3
      obtain ⟨m', hm, w3⟩ := hN σ3 H3 n3
      exact ⟨m', hm, σ3, H3, I3, w3⟩
    | brk => exact q3
    | ret v => exact q3
  | false =>
    rw [if_neg Bool.false_ne_true]
    exact wpAny_execs_nil ⟨σ1, H2, I2, q2⟩
end

/-! ### what a loop or a comprehension walks -/
/-- at turn i: it yields x (the heap may grow), or it stops -/
structure It where
  go : Nat → Hp → Prop
  yld : Nat → Hp → V → Hp → Prop
  stop : Nat → Hp → Prop
/-- the iterator's own objects may turn: they are not the frame's, not pinned, younger than the entry (or a comprehension's own) -/
def FpOk (X : Cx) (pins : List (Addr × Obj)) (H : Hp) (b : Addr) : Prop :=
  H b = none ∧ b ≠ X.env.locals ∧ b ∉ X.fs ∧ (b ∈ X.ex ∨ X.s₀.heap.objs.size ≤ b) ∧ (∀ x c, X.env.cells.lookup x = some c → c ≠ b) ∧ ∀ p ∈ X.pn ++ pins, p.1 ≠ b
theorem Inv.fpOk {X : Cx} {pins : List (Addr × Obj)} {σ : St} {H H' : Hp} {s : Shared} {b : Addr} (I : Inv X pins σ H s) (hb : s.heap.objs.size ≤ b) (hn : H' b = none) : FpOk X pins H' b := by
  refine ⟨hn, Nat.ne_of_gt (Nat.lt_of_lt_of_le I.lt hb), I.nofs hb, .inr (Nat.le_trans I.sz hb), fun x c e z => ?_, fun p hp z => ?_⟩
  · obtain ⟨v, q⟩ := I.cell x c e
    exact absurd (Nat.lt_of_lt_of_le q.lt (by rw [z]; exact hb)) (Nat.lt_irrefl _)
  · exact absurd (Nat.lt_of_lt_of_le (Heap.lt_size (I.pin p hp).1) (by rw [z]; exact hb)) (Nat.lt_irrefl _)
structure Turn (P : Program) (w : World) (K : PySem.W.Frag) (tg : Expr) (J : It) (fp : List Addr) (it : Addr) (tn : Nat → Heap → Prop) : Prop where
  mem : it ∈ fp
  obj : ∀ i h, tn i h → ∀ b ∈ fp, ∃ o, h.get? b = some o ∧ ∀ v, o.data ≠ .cell v
  keep : ∀ i h h', tn i h → (∀ b ∈ fp, ∀ o, h.get? b = some o → h'.get? b = some o) → tn i h'
  item : ∀ (X : Cx), X.prog = P → X.w = w → X.K = K → X.calm = true → ∀ (i : Nat) (pins : List (Addr × Obj)) (s : Shared) (σ : St) (H : Hp) (E : Value → Shared → Prop), Inv X pins σ H s → (∀ b ∈ fp, FpOk X pins H b) → tn i s.heap → J.go i H →
    wpAny (model P w) X.A (pyNext (.ref it)) (fun r s1 => ∃ u, r = some u ∧
      wpAny (model P w) X.A (letOwnedTupleGo tg (.ref it) u) (fun _ s2 => ∃ x H', Inv X pins σ H' s2 ∧ RelV x u ∧ J.yld i H x H' ∧ tn (i + 1) s2.heap ∧ ∀ b ∈ fp, H' b = none) E s1) E s
  done : ∀ (X : Cx), X.prog = P → X.w = w → X.K = K → X.calm = true → ∀ (i : Nat) (pins : List (Addr × Obj)) (s : Shared) (σ : St) (H : Hp) (E : Value → Shared → Prop), Inv X pins σ H s → (∀ b ∈ fp, FpOk X pins H b) → tn i s.heap → J.stop i H →
    wpAny (model P w) X.A (pyNext (.ref it)) (fun r s1 => r = none ∧ Inv X pins σ H s1) E s
  self : ∀ (A : Around) (i : Nat) (s : Shared) (Q : Value → Shared → Prop) (E : Value → Shared → Prop), tn i s.heap → Q (.ref it) s → wpAny (model P w) A (pyIter (.ref it)) Q E s
abbrev TI := St → Hp → (It → Hp → Prop) → Prop
/-- an iterator has come -/
def PIE (X : Cx) (pins : List (Addr × Obj)) (σ : St) (tg : Expr) (R : It → Hp → Prop) (itv : Value) (s2 : Shared) : Prop :=
  ∃ (it : Addr) (fp : List Addr) (tn : Nat → Heap → Prop) (J : It) (H' : Hp), itv = .ref it ∧ Inv X pins σ H' s2 ∧ Turn X.prog X.w X.K tg J fp it tn ∧ tn 0 s2.heap ∧ (∀ b ∈ fp, FpOk X pins H' b) ∧ R J H'
def PI (X : Cx) (tg iter : Expr) (wi : TI) : Prop :=
  ∀ (pins : List (Addr × Obj)) (s : Shared) (σ : St) (H : Hp) (R : It → Hp → Prop), Inv X pins σ H s → wi σ H R →
    wpAny (model X.prog X.w) X.A (eval iter X.env) (fun v s1 => wpAny (model X.prog X.w) X.A (pyIter v) (PIE X pins σ tg R) X.xe s1) X.xe s

/-- the step ahead of the store is nothing for an iterator that keeps no tuple -/
theorem go_of {M : Model} {A : Around} {E : Value → Shared → Prop} {s : Shared} {tg : Expr} {it : Addr} {u : Value} {o : Obj} {n : String} {vs : Array Value} {Q : Unit → Shared → Prop} (ho : s.heap.get? it = some o) (hc : o.cls = .type n) (hd : o.data = .fields vs)
    (hn : ["enumerate", "zip", "dict_itemiterator", "dict_reverseitemiterator", "odict_iterator", "itertools.zip_longest", "itertools.pairwise"].contains n = false) (hQ : Q () s) : wpAny M A (letOwnedTupleGo tg (.ref it) u) Q E s := by
  unfold letOwnedTupleGo
  cases tg <;> first
    | exact wpAny_pure hQ
    | (cases u <;> first
        | exact wpAny_pure hQ
        | (refine wpAny_bind (wpAny_load ho ?_)
           rw [hc, hd]
           show wpAny M A (if (["enumerate", "zip", "dict_itemiterator", "dict_reverseitemiterator", "odict_iterator", "itertools.zip_longest", "itertools.pairwise"].contains n && vs[0]? == some (rawInt _)) = true then _ else _) Q E s
           rw [if_neg (by intro h; rw [hn, Bool.false_and] at h; cases h)]
           exact wpAny_pure hQ))

/-- the list at a, as it stands at each turn (a loop may append to it) -/
def Itl (K : PySem.W.Frag) (a : Addr) : It :=
  ⟨fun i H => ∃ xs x, SqL K H a xs ∧ xs[i]? = some x, fun i H x H' => H' = H ∧ ∀ xs, SqL K H a xs → xs[i]? = some x, fun i H => ∃ xs, SqL K H a xs ∧ xs.length ≤ i⟩
def Itt (K : PySem.W.Frag) (a : Addr) : It :=
  ⟨fun i H => ∃ xs x, SqT K H a xs ∧ xs[i]? = some x, fun i H x H' => H' = H ∧ ∀ xs, SqT K H a xs → xs[i]? = some x, fun i H => ∃ xs, SqT K H a xs ∧ xs.length ≤ i⟩
/-- lo, lo + 1, .. (n of them) -/
def Itr (lo : Int) (n : Nat) : It := ⟨fun i _ => i < n, fun i H x H' => H' = H ∧ x = .int (lo + i), fun i _ => n ≤ i⟩
theorem turn_list {P : Program} {w : World} {K : PySem.W.Frag} {tg : Expr} (a it : Addr) : Turn P w K tg (Itl K a) [it] it (fun i h => h.IsListIter it a i) where
  mem := by simp
  obj := fun i h st b hb => by
    have e : b = it := by simpa using hb
    subst e
    obtain ⟨o, e, c, d⟩ := st
    exact ⟨o, e, fun v z => by rw [d] at z; cases z⟩
  keep := fun i h h' st k => st.at fun o e => k it (by simp) o e
  item := by
    intro X hP hw hK hc i pins s σ H E I hf st hg
    subst hP hw hK
    obtain ⟨xs, x, hq, hx⟩ := hg
    obtain ⟨its, rv, p, hz⟩ := I.list hq
    obtain ⟨u, hu, ru⟩ := rv.get hx
    obtain ⟨f0, f1, f2, f3, f4, f5⟩ := hf it (by simp)
    refine wpAny_pyNext_list_item st p.isList (x := u) (by simpa using hu) fun h' st' sb => ?_
    have I1 : Inv X pins σ H { s with heap := h' } := I.turned (t' := s.toks) (fun b o hb e => (sb.2 b hb).trans e) f0 f1 f3 f4 f5
    obtain ⟨o, e, c, d⟩ := id st'
    exact ⟨u, rfl, go_of (s := { s with heap := h' }) e c d (by decide) ⟨x, H, I1, ru, ⟨rfl, fun ys hy => by rw [I.list_inj hy hq]; exact hx⟩, st', fun b hb => (hf b hb).1⟩⟩
  done := by
    intro X hP hw hK hc i pins s σ H E I hf st hg
    subst hP hw hK
    obtain ⟨xs, hq, hx⟩ := hg
    obtain ⟨its, rv, p, hz⟩ := I.list hq
    obtain ⟨f0, f1, f2, f3, f4, f5⟩ := hf it (by simp)
    have hl := rv.length
    exact wpAny_pyNext_list_end (I.ok.hd hc) st p.isList (by simp; omega) fun h' eb => ⟨rfl, I.turned (t' := s.toks) (fun b o hb e => eb b o hb e) f0 f1 f3 f4 f5⟩
  self := fun _ _ _ _ _ st h => wpAny_pyIter_listiter st h
theorem turn_range {P : Program} {w : World} {K : PySem.W.Frag} {tg : Expr} (it : Addr) (lo : Int) (n : Nat) : Turn P w K tg (Itr lo n) [it] it (fun i h => IsRangeIter h it (lo + (i : Nat) * 1) ((n : Int) - (i : Nat)) 1) where
  mem := by simp
  obj := fun i h st b hb => by
    have e : b = it := by simpa using hb
    subst e
    exact ⟨_, st, fun v z => by
      have z' : Data.fields _ = Data.cell v := z
      cases z'⟩
  keep := fun i h h' st k => k it (by simp) _ st
  item := by
    intro X hP hw hK hc i pins s σ H E I hf st hg
    subst hP hw hK
    obtain ⟨f0, f1, f2, f3, f4, f5⟩ := hf it (by simp)
    have W := Walks.range (prog := X.prog) (w := X.w) (I.ok.hd hc) it lo 1 n
    refine W.item i s _ _ hg st fun v h' tk hv st' kk => ?_
    obtain ⟨t, rfl⟩ := hv
    have I1 : Inv X pins σ H { s with heap := h', toks := tk } := I.turned (fun b o hb e => kk b o (by simpa using hb) e) f0 f1 f3 f4 f5
    refine ⟨_, rfl, go_of (s := { s with heap := h', toks := tk }) (n := "range_iterator") st' rfl rfl (by decide) ⟨.int (lo + i), H, I1, ⟨t, ?_⟩, ⟨rfl, rfl⟩, st', fun b hb => (hf b hb).1⟩⟩
    rw [Int.mul_one]
  done := by
    intro X hP hw hK hc i pins s σ H E I hf st hg
    subst hP hw hK
    obtain ⟨f0, f1, f2, f3, f4, f5⟩ := hf it (by simp)
    exact wpAny_pyNext_range_end (I.ok.hd hc) st (by have : n ≤ i := hg; omega) fun h' eb => ⟨rfl, I.turned (t' := s.toks) (fun b o hb e => eb b o hb e) f0 f1 f3 f4 f5⟩
  self := fun _ _ _ _ _ st h => wpAny_pyIter_rangeiter st h
end L2

namespace L2
open PySem PySem.Spec PyProof.Rows
section
variable {X : Cx} {tg : Expr}
def iList (K : PySem.W.Frag) (tl : TE) : TI := fun σ H R => tl σ H fun x H1 => ∃ a, x = .ref a ∧ (∃ xs, SqL K H1 a xs) ∧ R (Itl K a) H1
def iTup (K : PySem.W.Frag) (tl : TE) : TI := fun σ H R => tl σ H fun x H1 => ∃ a, x = .ref a ∧ (∃ xs, SqT K H1 a xs) ∧ R (Itt K a) H1
theorem pi_list {l : Expr} {tl : TE} (hl : PE X l tl) : PI X tg l (iList X.K tl) := by
  intro pins s σ H R I h
  refine thn (hl pins s σ H _ I h) fun v s1 ⟨x, H1, I1, r1, q1⟩ => ?_
  obtain ⟨a, e, ⟨xs, hq⟩, q⟩ := q1
  subst e
  cases r1
  obtain ⟨its, rv, p, hz⟩ := I1.list hq
  refine wpAny_pyIter_list p.isList ?_
  refine ⟨s1.heap.objs.size, [s1.heap.objs.size], _, _, H1, rfl, I1.kept (t' := s1.toks) fun b o e => Heap.get?_push_of_some _ e, turn_list a _, ⟨_, Heap.get?_push_size _ rfl, rfl, rfl⟩, fun b hb => ?_, q⟩
  have e : b = s1.heap.objs.size := by simpa using hb
  subst e
  exact I1.fpOk (Nat.le_refl _) (I1.hok.fresh (Nat.le_refl _))
/-- a range object just made, walked -/
theorem range_it {pins : List (Addr × Obj)} {σ : St} {H : Hp} {s : Shared} {R : It → Hp → Prop} {E : Value → Shared → Prop} {lo hi : Int} {t u v : Tok} {tk : Nat} (I : Inv X pins σ H s) (h1 : -(2 ^ 62) ≤ lo) (h2 : lo < 2 ^ 62) (h3 : -(2 ^ 62) ≤ hi) (h4 : hi < 2 ^ 62)
    (q : R (Itr lo (hi - lo).toNat) H) : wpAny (model X.prog X.w) X.A (pyIter (.ref s.heap.objs.size)) (PIE X pins σ tg R) E { s with heap := s.heap.push { cls := .type "range", data := .fields #[.int lo t, .int hi u, .int 1 v] }, toks := tk } := by
  refine wpAny_pyIter_range (IsRange.new ..) (small_one h1 h2 h3 h4) ?_
  have I1 : Inv X pins σ H { s with heap := s.heap.push { cls := .type "range", data := .fields #[.int lo t, .int hi u, .int 1 v] }, toks := tk } := I.kept fun b o e => Heap.get?_push_of_some _ e
  refine ⟨(s.heap.push { cls := .type "range", data := .fields #[.int lo t, .int hi u, .int 1 v] }).objs.size, [(s.heap.push { cls := .type "range", data := .fields #[.int lo t, .int hi u, .int 1 v] }).objs.size], _, _, H, rfl,
    I1.kept (t' := tk) fun b o e => Heap.get?_push_of_some _ e, turn_range _ lo (hi - lo).toNat, ?_, fun b hb => ?_, q⟩
  · have e1 : lo + ((0 : Nat) : Int) * 1 = lo := by simp
    have e2 : (((hi - lo).toNat : Nat) : Int) - ((0 : Nat) : Int) = Builtin.Range.rangeSize lo hi 1 := by rw [rangeSize_one]; split <;> omega
    show IsRangeIter _ _ (lo + ((0 : Nat) : Int) * 1) ((((hi - lo).toNat : Nat) : Int) - ((0 : Nat) : Int)) 1
    rw [e1, e2]
    exact Heap.get?_push_size _ rfl
  · have e : b = (s.heap.push { cls := .type "range", data := .fields #[.int lo t, .int hi u, .int 1 v] }).objs.size := by simpa using hb
    subst e
    exact I1.fpOk (Nat.le_refl _) (I1.hok.fresh (Nat.le_refl _))
def iRng1 (ta : TA) : TI := fun σ H R => ta σ H fun vs H1 => ∃ j : Int, vs = [.int j] ∧ -(2 ^ 62) ≤ j ∧ j < 2 ^ 62 ∧ R (Itr 0 j.toNat) H1
def iRng2 (ta : TA) : TI := fun σ H R => ta σ H fun vs H1 => ∃ i j : Int, vs = [.int i, .int j] ∧ (-(2 ^ 62) ≤ i ∧ i < 2 ^ 62 ∧ -(2 ^ 62) ≤ j ∧ j < 2 ^ 62) ∧ R (Itr i (j - i).toNat) H1
theorem pi_range1 {a : Expr} {ta : TA} {p pos : Pos} (hg : Gl X "range") (hm : X.mg "range" = none) (ha : PA X [a] ta) (hs : starEach [a] X.env = [(false, eval a X.env)] := by rfl) : PI X tg (.Call (.Name "range" p) [a] [] pos) (iRng1 ta) := by
  intro pins s σ H R I h
  refine Call_ (ld_blt I hg hm boot_range (PyProof.Rows.callWith_type1 (thn (ha pos pins s σ H _ I h) fun us s1 ⟨vs, H1, I1, r1, q1⟩ => ?_) hs rfl))
  obtain ⟨j, e, q1, q2, q⟩ := q1
  subst e
  cases r1 with
  | cons r rr =>
    cases rr
    obtain ⟨t, rfl⟩ := r
    exact call_range_1 (range_it I1 (by omega) (by omega) q1 q2 (by simpa using q))
/-! ### for -/
/-- W: the invariant by the turn and a measure; N: what the body is to reach -/
def tFor (wi : TI) (g : TG) (tb : TS) : TS := fun D σ H => wi σ H fun J H1 => ∃ W : Nat → Nat → St → Hp → Prop, (∃ m, W 0 m σ H1) ∧ ∀ i m σ H, W i m σ H →
  (J.stop i H ∧ D.nx σ H) ∨ (J.go i H ∧ ∃ N : St → Hp → Prop, (∀ σ' H', N σ' H' → ∃ m', m' < m ∧ W (i + 1) m' σ' H') ∧ ∀ x H', J.yld i H x H' → g x σ H' fun σ2 H2 => tb { D with nx := N, ct := N, bk := D.nx } σ2 H2)
/-- the records at fp as they stand -/
def pinsAt (fp : List Addr) (h : Heap) : List (Addr × Obj) := fp.filterMap fun b => (h.get? b).map fun o => (b, o)
theorem mem_pinsAt {fp : List Addr} {h : Heap} {b : Addr} {o : Obj} (hb : b ∈ fp) (e : h.get? b = some o) : (b, o) ∈ pinsAt fp h := List.mem_filterMap.mpr ⟨b, hb, by rw [e]; rfl⟩
theorem of_pinsAt {fp : List Addr} {h : Heap} {p : Addr × Obj} (hp : p ∈ pinsAt fp h) : p.1 ∈ fp ∧ h.get? p.1 = some p.2 := by
  obtain ⟨b, hb, e⟩ := List.mem_filterMap.mp hp
  cases q : h.get? b with
  | none => rw [q] at e; cases e
  | some o =>
    rw [q] at e
    have e' : (b, o) = p := Option.some.inj e
    subst e'
    exact ⟨hb, q⟩
theorem Inv.pinned {pins : List (Addr × Obj)} {σ : St} {H : Hp} {s : Shared} {fp : List Addr} (I : Inv X pins σ H s) (hf : ∀ b ∈ fp, FpOk X pins H b) (ho : ∀ b ∈ fp, ∃ o, s.heap.get? b = some o ∧ ∀ v, o.data ≠ .cell v) : Inv X (pins ++ pinsAt fp s.heap) σ H s :=
  I.pins_of fun p hp => (List.mem_append.mp hp).elim (fun z => I.pin p (List.mem_append_right _ z)) fun z => by
    obtain ⟨hb, e⟩ := of_pinsAt z
    obtain ⟨f0, f1, f2, _⟩ := hf p.1 hb
    obtain ⟨o, e', d⟩ := ho p.1 hb
    rw [e] at e'; cases e'
    exact ⟨e, f0, f1, f2, d⟩
theorem Inv.unpinned {pins pl : List (Addr × Obj)} {σ : St} {H : Hp} {s : Shared} (I : Inv X (pins ++ pl) σ H s) : Inv X pins σ H s := I.pins_of fun p hp => I.pin p (List.mem_append_right _ (List.mem_append_left _ hp))
theorem ps_for {iter : Expr} {body : List Stmt} {wi : TI} {g : TG} {tb : TS} {pos : Pos} (hp : PassesOwn (model X.prog X.w) X.A X.env X.xe) (hc : X.calm = true) (hi : PI X tg iter wi) (hg : PG X tg g) (hb : PSs X body tb)
    (hs : ∀ x, foldedSetIterable iter X.env x = pure x := by intro _; rfl) : PS X (.For tg iter body [] pos) (tFor wi g tb) := by
  intro pins s σ H D I h
  refine wpAny_For (thn (hi pins s σ H _ I h) fun v s1 h1 => thn h1 fun itv s2 h2 => ?_) hs
  obtain ⟨it, fp, tn, J, H2, e, I2, T, st2, f2, W, ⟨m0, w0⟩, turn⟩ := h2
  subst e
  -- what stays true of the iterator's objects through the loop
  have stat : ∀ {H' : Hp}, (∀ b ∈ fp, H' b = none) → ∀ b ∈ fp, FpOk X pins H' b := fun hn b hb => ⟨hn b hb, (f2 b hb).2⟩
  refine codeAny_forLoop_any (fun n s' => ∃ i σ' H', Inv X pins σ' H' s' ∧ tn i s'.heap ∧ (∀ b ∈ fp, H' b = none) ∧ W i n σ' H') ?_ m0 ⟨0, σ, H2, I2, st2, fun b hb => (f2 b hb).1, w0⟩
  rintro n s3 ⟨i, σ3, H3, I3, st3, fr3, w3⟩
  rcases turn i n σ3 H3 w3 with ⟨stop, qn⟩ | ⟨go, N, hN, step⟩
  · refine wpAny_passesOwn hp (thn (T.done X rfl rfl rfl hc i pins s3 σ3 H3 X.xe I3 (stat fr3) st3 stop) fun r s4 ⟨hr, I4⟩ => ?_)
    subst hr
    exact wpAny_execs_nil ⟨σ3, H3, I4, qn⟩
  · refine wpAny_passesOwn hp (thn (T.item X rfl rfl rfl hc i pins s3 σ3 H3 X.xe I3 (stat fr3) st3 go) fun r s4 ⟨u, hr, h4⟩ => ?_)
    subst hr
    refine wpAny_passesOwn hp (thn h4 fun _ s5 ⟨x, H5, I5, r5, y5, st5, fr5⟩ => ?_)
    have I5' := I5.pinned (stat fr5) (T.obj _ _ st5)
    refine wpAny_passesOwn hp (thn (hg _ s5 σ3 H5 x u _ I5' r5 (step x H5 y5)) fun _ s6 ⟨σ6, H6, I6, q6⟩ => ?_)
    refine wpAny_passesOwn hp (thn (hb _ s6 σ6 H6 _ I6 q6) fun f s7 q7 => ?_)
    have again : ∀ {σ7 : St} {H7 : Hp}, Inv X (pins ++ pinsAt fp s5.heap) σ7 H7 s7 → N σ7 H7 → ∃ m, m < n ∧ ∃ i σ' H', Inv X pins σ' H' s7 ∧ tn i s7.heap ∧ (∀ b ∈ fp, H' b = none) ∧ W i m σ' H' := fun {σ7 H7} I7 n7 => by
      obtain ⟨m', hm, w7⟩ := hN σ7 H7 n7
      refine ⟨m', hm, i + 1, σ7, H7, I7.unpinned, T.keep _ _ _ st5 fun b hb o e => (I7.pin (b, o) (List.mem_append_right _ (List.mem_append_right _ (mem_pinsAt hb e)))).1, fun b hb => ?_, w7⟩
      obtain ⟨o, e, d⟩ := T.obj _ _ st5 b hb
      exact (I7.pin (b, o) (List.mem_append_right _ (List.mem_append_right _ (mem_pinsAt hb e)))).2.1
    cases f with
    | next => obtain ⟨σ7, H7, I7, n7⟩ := q7; exact again I7 n7
    | cont => obtain ⟨σ7, H7, I7, n7⟩ := q7; exact again I7 n7
    | brk => obtain ⟨σ7, H7, I7, q7⟩ := q7; exact ⟨σ7, H7, I7.unpinned, q7⟩
    | ret v => obtain ⟨x7, σ7, H7, I7, r7, q7⟩ := q7; exact ⟨x7, σ7, H7, I7.unpinned, r7, q7⟩
end

/-! ### the forms one uses -/
/-- over a list that the body leaves as it is -/
theorem for_list {K : PySem.W.Frag} {a : Addr} {xs : List V} {g : TG} {tb : TS} {D : Ends} {σ : St} {H : Hp} (Pv : Nat → St → Hp → Prop) (h0 : Pv 0 σ H) (hl : ∀ i σ H, i ≤ xs.length → Pv i σ H → SqL K H a xs)
    (hs : ∀ i x σ H, xs[i]? = some x → Pv i σ H → g x σ H fun σ2 H2 => tb { D with nx := Pv (i + 1), ct := Pv (i + 1), bk := D.nx } σ2 H2) (hd : ∀ σ H, Pv xs.length σ H → D.nx σ H) :
    ∃ W : Nat → Nat → St → Hp → Prop, (∃ m, W 0 m σ H) ∧ ∀ i m σ H, W i m σ H →
      ((Itl K a).stop i H ∧ D.nx σ H) ∨ ((Itl K a).go i H ∧ ∃ N : St → Hp → Prop, (∀ σ' H', N σ' H' → ∃ m', m' < m ∧ W (i + 1) m' σ' H') ∧ ∀ x H', (Itl K a).yld i H x H' → g x σ H' fun σ2 H2 => tb { D with nx := N, ct := N, bk := D.nx } σ2 H2) := by
  refine ⟨fun i m σ H => m = xs.length - i ∧ i ≤ xs.length ∧ Pv i σ H, ⟨xs.length, by simp, Nat.zero_le _, h0⟩, ?_⟩
  rintro i m σ H ⟨rfl, hi, p⟩
  have q := hl i σ H hi p
  by_cases hlt : i < xs.length
  · refine .inr ⟨⟨xs, xs[i], q, by simp [hlt]⟩, Pv (i + 1), fun σ' H' p' => ⟨xs.length - (i + 1), by omega, rfl, hlt, p'⟩, fun x H' y => ?_⟩
    obtain ⟨e, y⟩ := y
    subst e
    exact hs i x σ _ (y xs q) p
  · have e : i = xs.length := by omega
    subst e
    exact .inl ⟨⟨xs, q, Nat.le_refl _⟩, hd σ H p⟩
theorem for_range {lo : Int} {n : Nat} {g : TG} {tb : TS} {D : Ends} {σ : St} {H : Hp} (Pv : Nat → St → Hp → Prop) (h0 : Pv 0 σ H)
    (hs : ∀ i σ H, i < n → Pv i σ H → g (.int (lo + i)) σ H fun σ2 H2 => tb { D with nx := Pv (i + 1), ct := Pv (i + 1), bk := D.nx } σ2 H2) (hd : ∀ σ H, Pv n σ H → D.nx σ H) :
    ∃ W : Nat → Nat → St → Hp → Prop, (∃ m, W 0 m σ H) ∧ ∀ i m σ H, W i m σ H →
      ((Itr lo n).stop i H ∧ D.nx σ H) ∨ ((Itr lo n).go i H ∧ ∃ N : St → Hp → Prop, (∀ σ' H', N σ' H' → ∃ m', m' < m ∧ W (i + 1) m' σ' H') ∧ ∀ x H', (Itr lo n).yld i H x H' → g x σ H' fun σ2 H2 => tb { D with nx := N, ct := N, bk := D.nx } σ2 H2) := by
  refine ⟨fun i m σ H => m = n - i ∧ i ≤ n ∧ Pv i σ H, ⟨n, by simp, Nat.zero_le _, h0⟩, ?_⟩
  rintro i m σ H ⟨rfl, hi, p⟩
  by_cases hlt : i < n
  · refine .inr ⟨hlt, Pv (i + 1), fun σ' H' p' => ⟨n - (i + 1), by omega, rfl, hlt, p'⟩, fun x H' y => ?_⟩
    obtain ⟨e, y⟩ := y
    subst e y
    exact hs i σ _ hlt p
  · have e : i = n := by omega
    subst e
    exact .inl ⟨Nat.le_refl _, hd σ H p⟩
end L2

namespace L2
open PySem PySem.Spec PyProof.Rows

abbrev R2 := V → V → Hp → VK → Prop
/-- a two-place operation on values: f is binaryOp op, inplaceOp op or compareOp op -/
def OpR (X : Cx) (f : Value → Value → Sem Value) (r : R2) : Prop :=
  ∀ (pins : List (Addr × Obj)) (s : Shared) (σ : St) (H : Hp) (x y : V) (v u : Value) (Q : VK), Inv X pins σ H s → RelV x v → RelV y u → r x y H Q →
    wpAny (model X.prog X.w) X.A (f v u) (EP X pins σ Q) X.xe s
/-- a one-place operation -/
def UnR (X : Cx) (f : Value → Sem Value) (r : V → Hp → VK → Prop) : Prop :=
  ∀ (pins : List (Addr × Obj)) (s : Shared) (σ : St) (H : Hp) (x : V) (v : Value) (Q : VK), Inv X pins σ H s → RelV x v → r x H Q →
    wpAny (model X.prog X.w) X.A (f v) (EP X pins σ Q) X.xe s
/-- a call of a value that is known (a builtin, a type) with values -/
def CallR (X : Cx) (f : Value) (r : List V → Hp → VK → Prop) : Prop :=
  ∀ (pins : List (Addr × Obj)) (s : Shared) (σ : St) (H : Hp) (xs : List V) (us : List Value) (Q : VK), Inv X pins σ H s → Vals xs us → r xs H Q →
    wpAny (model X.prog X.w) X.A (call f us) (EP X pins σ Q) X.xe s
/-- a value's truth -/
def TruR (X : Cx) (r : V → Hp → (Bool → Hp → Prop) → Prop) : Prop :=
  ∀ (pins : List (Addr × Obj)) (s : Shared) (σ : St) (H : Hp) (x : V) (v : Value) (Q : Bool → Hp → Prop), Inv X pins σ H s → RelV x v → r x H Q →
    wpAny (model X.prog X.w) X.A (truthy v) (TP X pins σ Q) X.xe s

def tOp (r : R2) (ta tb : TE) : TE := fun σ H Q => ta σ H fun x H1 => tb σ H1 fun y H2 => r x y H2 Q
def tUn (r : V → Hp → VK → Prop) (ta : TE) : TE := fun σ H Q => ta σ H fun x H1 => r x H1 Q
/-- ints in, under C, and a value out -/
def rI (C : Int → Int → Prop) (g : Int → Int → V) : R2 := fun x y H Q => ∃ i j, x = .int i ∧ y = .int j ∧ C i j ∧ Q (g i j) H
def rI0 (g : Int → Int → V) : R2 := fun x y H Q => ∃ i j, x = .int i ∧ y = .int j ∧ Q (g i j) H
def rU (g : Int → V) : V → Hp → VK → Prop := fun x H Q => ∃ i, x = .int i ∧ Q (g i) H

section
variable {X : Cx} {a b c : Expr} {ta tb tc : TE} {pos : Pos}

theorem binT (ha : PE X a ta) (hb : PE X b tb) {pins : List (Addr × Obj)} {s : Shared} {σ : St} {H : Hp} {R : V → V → Hp → Prop} (I : Inv X pins σ H s)
    (h : ta σ H fun x H1 => tb σ H1 fun y H2 => R x y H2) {Q : Value → Shared → Prop} {f : Value → Value → Sem Value}
    (hf : ∀ v u s2 x y H2, Inv X pins σ H2 s2 → RelV x v → RelV y u → R x y H2 → wpAny (model X.prog X.w) X.A (f v u) Q X.xe s2) :
    wpAny (model X.prog X.w) X.A (eval a X.env) (fun v s₁ => wpAny (model X.prog X.w) X.A (eval b X.env) (fun u s₂ => wpAny (model X.prog X.w) X.A (f v u) Q X.xe s₂) X.xe s₁) X.xe s := by
  refine thn (ha pins s σ H _ I h) fun v s1 ⟨x, H1, I1, r1, q1⟩ => ?_
  refine thn (hb pins s1 σ H1 _ I1 q1) fun u s2 ⟨y, H2, I2, r2, q2⟩ => ?_
  exact hf v u s2 x y H2 I2 r1 r2 q2

theorem pe_op {op : Operator} {r : R2} (ho : OpR X (binaryOp op) r) (ha : PE X a ta) (hb : PE X b tb) : PE X (.BinOp a op b pos) (tOp r ta tb) := by
  intro pins s σ H Q I h
  exact wpAny_BinOp (binT ha hb I h fun v u s2 x y H2 I2 rx ry q => ho pins s2 σ H2 x y v u Q I2 rx ry q)
theorem pe_un {op : UnaryOp} {r : V → Hp → VK → Prop} (ho : UnR X (unaryOp op) r) (ha : PE X a ta) : PE X (.UnaryOp op a pos) (tUn r ta) := by
  intro pins s σ H Q I h
  exact UnaryOp_ (thn (ha pins s σ H _ I h) fun v s1 ⟨x, H1, I1, r1, q1⟩ => ho pins s1 σ H1 x v Q I1 r1 q1)
/-! ### ints -/
theorem opI {f : Value → Value → Sem Value} {C : Int → Int → Prop} {g : Int → Int → Int}
    (rule : ∀ (i j : Int) (t u : Tok) (s : Shared) (Q : Value → Shared → Prop) (E : Value → Shared → Prop), C i j → Q (.int (g i j) s.toks) { s with toks := s.toks + 1 } → wpAny (model X.prog X.w) X.A (f (.int i t) (.int j u)) Q E s) :
    OpR X f (rI C fun i j => .int (g i j)) := by
  intro pins s σ H x y v u Q I rx ry h
  obtain ⟨i, j, rfl, rfl, hc, q⟩ := h
  obtain ⟨t, rfl⟩ := rx
  obtain ⟨t', rfl⟩ := ry
  exact rule i j t t' s _ _ hc ⟨.int (g i j), H, I.tok _, ⟨_, rfl⟩, q⟩
theorem opI0 {f : Value → Value → Sem Value} {g : Int → Int → Int}
    (rule : ∀ (i j : Int) (t u : Tok) (s : Shared) (Q : Value → Shared → Prop) (E : Value → Shared → Prop), Q (.int (g i j) s.toks) { s with toks := s.toks + 1 } → wpAny (model X.prog X.w) X.A (f (.int i t) (.int j u)) Q E s) :
    OpR X f (rI0 fun i j => .int (g i j)) := by
  intro pins s σ H x y v u Q I rx ry h
  obtain ⟨i, j, rfl, rfl, q⟩ := h
  obtain ⟨t, rfl⟩ := rx
  obtain ⟨t', rfl⟩ := ry
  exact rule i j t t' s _ _ ⟨.int (g i j), H, I.tok _, ⟨_, rfl⟩, q⟩
theorem opB0 {f : Value → Value → Sem Value} {g : Int → Int → Bool}
    (rule : ∀ (i j : Int) (t u : Tok) (s : Shared) (Q : Value → Shared → Prop) (E : Value → Shared → Prop), Q (.bool (g i j)) s → wpAny (model X.prog X.w) X.A (f (.int i t) (.int j u)) Q E s) :
    OpR X f (rI0 fun i j => .bl (g i j)) := by
  intro pins s σ H x y v u Q I rx ry h
  obtain ⟨i, j, rfl, rfl, q⟩ := h
  obtain ⟨t, rfl⟩ := rx
  obtain ⟨t', rfl⟩ := ry
  exact rule i j t t' s _ _ ⟨.bl (g i j), H, I, rfl, q⟩

def CDiv (i j : Int) : Prop := 0 < j ∧ j < 1073741824
def CDivN (i j : Int) : Prop := j ≠ 0 ∧ j.natAbs < 1073741824
def CPow (i j : Int) : Prop := 0 ≤ j ∧ j ≤ 1000000 ∧ i.natAbs < 2 ^ 64
def CMul (i j : Int) : Prop := (-(2 ^ 64) < i ∧ i < 2 ^ 64) ∨ (-(2 ^ 64) < j ∧ j < 2 ^ 64)
theorem CMul.ok {i j : Int} (h : CMul i j) : IntMulOk i j := by
  rcases h with ⟨h1, h2⟩ | ⟨h1, h2⟩
  · exact .of_left (intBits_le_64 h1 h2)
  · exact .of_right (intBits_le_64 h1 h2)
theorem op_add : OpR X (binaryOp .Add) (rI0 fun i j => .int (i + j)) := opI0 fun _ _ _ _ _ _ _ q => add_int q
theorem op_sub : OpR X (binaryOp .Sub) (rI0 fun i j => .int (i - j)) := opI0 fun _ _ _ _ _ _ _ q => sub_int q
theorem op_mul : OpR X (binaryOp .Mult) (rI CMul fun i j => .int (i * j)) := opI fun _ _ _ _ _ _ _ hc q => mul_int q hc.ok
/-- // by a positive divisor -/
theorem op_fdiv : OpR X (binaryOp .FloorDiv) (rI CDiv fun i j => .int (i / j)) := opI fun i j _ _ _ _ _ hc q => by
  have h1 : (0 : Int) < j := hc.1
  have h2 : j < 1073741824 := hc.2
  exact floordiv_int (by omega) (by rw [Int.fdiv_eq_ediv_of_nonneg i (by omega)]; exact q) (.inl (PyProof.noPylong_small (by omega)))
/-- % by a positive divisor of any size -/
theorem op_mod : OpR X (binaryOp .Mod) (rI (fun _ j => 0 < j) fun i j => .int (i % j)) := opI fun i j _ _ _ _ _ hc q => by
  have h1 : (0 : Int) < j := hc
  exact mod_int' (by omega) (by rw [Int.fmod_eq_emod_of_nonneg i (by omega)]; exact q)
theorem op_pow : OpR X (binaryOp .Pow) (rI CPow fun i j => .int (i ^ j.toNat)) := opI fun _ _ _ _ _ _ _ hc q => pow_int_small hc.1 hc.2.1 hc.2.2 q
theorem op_shl : OpR X (binaryOp .LShift) (rI CPow fun i j => .int (i * 2 ^ j.toNat)) := opI fun _ _ _ _ _ _ _ hc q => lshift_int_small hc.1 hc.2.1 hc.2.2 q
theorem op_or : OpR X (binaryOp .BitOr) (rI0 fun i j => .int (Builtin.bitOr i j)) := opI0 fun _ _ _ _ _ _ _ q => or_int q
theorem unI {f : Value → Sem Value} {g : Int → Int}
    (rule : ∀ (i : Int) (t : Tok) (s : Shared) (Q : Value → Shared → Prop) (E : Value → Shared → Prop), Q (.int (g i) s.toks) { s with toks := s.toks + 1 } → wpAny (model X.prog X.w) X.A (f (.int i t)) Q E s) :
    UnR X f (rU fun i => .int (g i)) := by
  intro pins s σ H x v Q I rx h
  obtain ⟨i, rfl, q⟩ := h
  obtain ⟨t, rfl⟩ := rx
  exact rule i t s _ _ ⟨.int (g i), H, I.tok _, ⟨_, rfl⟩, q⟩
theorem un_neg : UnR X (unaryOp .USub) (rU fun i => .int (-i)) := unI fun _ _ _ _ _ q => neg_int q
/-! ### bools among ints: n += (a < b) -/
end

/-! ### comparisons -/
/-- the scalars that == tells apart as data does -/
def scal : V → V → Bool
  | .non, .non => true | .non, .int _ => true | .int _, .non => true | .non, .bl _ => true | .bl _, .non => true | .non, .str _ => true | .str _, .non => true
  | .int _, .int _ => true | .bl _, .bl _ => true | .str _, .str _ => true | .byt _, .byt _ => true
  | .int _, .str _ => true | .str _, .int _ => true | .bl _, .str _ => true | .str _, .bl _ => true
  | _, _ => false
def rEq : R2 := fun x y H Q => scal x y = true ∧ Q (.bl (decide (x = y))) H
def rNe : R2 := fun x y H Q => scal x y = true ∧ Q (.bl (!decide (x = y))) H

theorem dec_int {i j : Int} : decide (V.int i = V.int j) = (i == j) := by
  rw [Bool.eq_iff_iff]
  simp
theorem dec_bl {i j : Bool} : decide (V.bl i = V.bl j) = (i == j) := by
  rw [Bool.eq_iff_iff]
  simp
theorem dec_str {i j : Str} : decide (V.str i = V.str j) = (i == j) := by
  rw [Bool.eq_iff_iff]
  simp
theorem dec_byt {i j : Array UInt8} : decide (V.byt i = V.byt j) = (i.toList == j.toList) := by
  rw [Bool.eq_iff_iff]
  cases i
  cases j
  simp

section
variable {X : Cx} {a b c : Expr} {ta tb tc : TE} {pos : Pos}
theorem fin_bl {pins : List (Addr × Obj)} {σ : St} {H : Hp} {s : Shared} {Q : VK} {k k' : Bool} (I : Inv X pins σ H s) (q : Q (.bl k) H) (e : k = k') : EP X pins σ Q (.bool k') s := by
  subst e
  exact ⟨.bl k, H, I, rfl, q⟩
theorem op_eq : OpR X (compareOp .Eq) rEq := by
  intro pins s σ H x y v u Q I rx ry h
  obtain ⟨hs, q⟩ := h
  cases x with
  | non =>
    cases rx
    cases y with
    | non => cases ry; exact PySem.EqNone.eq_none_none (fin_bl I q (by simp))
    | bl j => cases ry; exact PySem.EqNone.eq_none_bool (fin_bl I q (by simp))
    | int j => obtain ⟨t', rfl⟩ := ry; exact PySem.EqNone.eq_none_int (fin_bl I q (by simp))
    | str j => obtain ⟨t', rfl⟩ := ry; exact PySem.EqNone.eq_none_str (fin_bl I q (by simp))
    | _ => exact absurd (show false = true from hs) Bool.false_ne_true
  | bl i =>
    cases rx
    cases y with
    | non => cases ry; exact PySem.EqNone.eq_bool_none (fin_bl I q (by simp))
    | bl j => cases ry; exact eq_bool (fin_bl I q dec_bl)
    | str j => obtain ⟨t', rfl⟩ := ry; exact PySem.EqMixed.eq_bool_str (fin_bl I q (by simp))
    | _ => exact absurd (show false = true from hs) Bool.false_ne_true
  | int i =>
    obtain ⟨t, rfl⟩ := rx
    cases y with
    | non => cases ry; exact PySem.EqNone.eq_int_none (fin_bl I q (by simp))
    | int j => obtain ⟨t', rfl⟩ := ry; exact eq_int (fin_bl I q dec_int)
    | str j => obtain ⟨t', rfl⟩ := ry; exact PySem.EqMixed.eq_int_str (fin_bl I q (by simp))
    | _ => exact absurd (show false = true from hs) Bool.false_ne_true
  | str i =>
    obtain ⟨t, rfl⟩ := rx
    cases y with
    | non => cases ry; exact PySem.EqNone.eq_str_none (fin_bl I q (by simp))
    | bl j => cases ry; exact PySem.EqMixed.eq_str_bool (fin_bl I q (by simp))
    | int j => obtain ⟨t', rfl⟩ := ry; exact PySem.EqMixed.eq_str_int (fin_bl I q (by simp))
    | str j => obtain ⟨t', rfl⟩ := ry; exact eq_str (fin_bl I q dec_str)
    | _ => exact absurd (show false = true from hs) Bool.false_ne_true
  | byt i =>
    obtain ⟨t, rfl⟩ := rx
    cases y with
    | byt j => obtain ⟨t', rfl⟩ := ry; exact PySem.W.eq_bytes (fin_bl I q dec_byt)
    | _ => exact absurd (show false = true from hs) Bool.false_ne_true
  | _ => cases y <;> exact absurd (show false = true from hs) Bool.false_ne_true
theorem op_ne : OpR X (compareOp .NotEq) rNe := by
  intro pins s σ H x y v u Q I rx ry h
  obtain ⟨hs, q⟩ := h
  cases x with
  | non =>
    cases rx
    cases y with
    | non => cases ry; exact PySem.EqNone.ne_none_none (fin_bl I q (by simp))
    | bl j => cases ry; exact PySem.EqNone.ne_none_bool (fin_bl I q (by simp))
    | int j => obtain ⟨t', rfl⟩ := ry; exact PySem.EqNone.ne_none_int (fin_bl I q (by simp))
    | str j => obtain ⟨t', rfl⟩ := ry; exact PySem.EqNone.ne_none_str (fin_bl I q (by simp))
    | _ => exact absurd (show false = true from hs) Bool.false_ne_true
  | bl i =>
    cases rx
    cases y with
    | non => cases ry; exact PySem.EqNone.ne_bool_none (fin_bl I q (by simp))
    | bl j => cases ry; exact ne_bool (fin_bl I q (congrArg not dec_bl))
    | str j => obtain ⟨t', rfl⟩ := ry; exact PySem.EqMixed.ne_bool_str (fin_bl I q (by simp))
    | _ => exact absurd (show false = true from hs) Bool.false_ne_true
  | int i =>
    obtain ⟨t, rfl⟩ := rx
    cases y with
    | non => cases ry; exact PySem.EqNone.ne_int_none (fin_bl I q (by simp))
    | int j => obtain ⟨t', rfl⟩ := ry; exact ne_int (fin_bl I q (congrArg not dec_int))
    | str j => obtain ⟨t', rfl⟩ := ry; exact PySem.EqMixed.ne_int_str (fin_bl I q (by simp))
    | _ => exact absurd (show false = true from hs) Bool.false_ne_true
  | str i =>
    obtain ⟨t, rfl⟩ := rx
    cases y with
    | non => cases ry; exact PySem.EqNone.ne_str_none (fin_bl I q (by simp))
    | bl j => cases ry; exact PySem.EqMixed.ne_str_bool (fin_bl I q (by simp))
    | int j => obtain ⟨t', rfl⟩ := ry; exact PySem.EqMixed.ne_str_int (fin_bl I q (by simp))
    | str j => obtain ⟨t', rfl⟩ := ry; exact ne_str (fin_bl I q (congrArg not dec_str))
    | _ => exact absurd (show false = true from hs) Bool.false_ne_true
  | byt i =>
    obtain ⟨t, rfl⟩ := rx
    cases y with
    | byt j => obtain ⟨t', rfl⟩ := ry; exact PySem.W.ne_bytes (fin_bl I q (congrArg not dec_byt))
    | _ => exact absurd (show false = true from hs) Bool.false_ne_true
  | _ => cases y <;> exact absurd (show false = true from hs) Bool.false_ne_true

theorem op_lt : OpR X (compareOp .Lt) (rI0 fun i j => .bl (decide (i < j))) := opB0 fun _ _ _ _ _ _ _ q => lt_int q
theorem op_gt : OpR X (compareOp .Gt) (rI0 fun i j => .bl (decide (j < i))) := opB0 fun _ _ _ _ _ _ _ q => gt_int q
theorem op_ge : OpR X (compareOp .GtE) (rI0 fun i j => .bl (decide (j ≤ i))) := opB0 fun _ _ _ _ _ _ _ q => ge_int q
/-- is None, is not None: the right side a value none -/
theorem op_isN : OpR X (compareOp .Is) (fun x y H Q => y = .non ∧ Q (.bl (decide (x = .non))) H) := by
  intro pins s σ H x y v u Q I rx ry h
  obtain ⟨rfl, q⟩ := h
  cases ry
  refine is_none_gen (fin_bl I q ?_)
  cases x <;> first
    | (cases rx; rfl)
    | (obtain ⟨t, rfl⟩ := rx; rfl)
theorem op_notN : OpR X (compareOp .IsNot) (fun x y H Q => y = .non ∧ Q (.bl (!decide (x = .non))) H) := by
  intro pins s σ H x y v u Q I rx ry h
  obtain ⟨rfl, q⟩ := h
  cases ry
  refine isnot_none_gen (fin_bl I q ?_)
  cases x <;> first
    | (cases rx; rfl)
    | (obtain ⟨t, rfl⟩ := rx; rfl)

/-- is, is not of two objects that are tracked lists or instances -/
def isObj : HO → Bool
  | .lst _ => true
  | .ins _ _ _ => true
  | _ => false
theorem nomark (b : Expr) {op : CmpOp} (h : op ≠ .In := by decide) (h2 : op ≠ .NotIn := by decide) : behindInMarks op b = false := by
  have e1 : (op == CmpOp.In) = false := by cases op <;> first | rfl | exact absurd rfl h
  have e2 : (op == CmpOp.NotIn) = false := by cases op <;> first | rfl | exact absurd rfl h2
  cases b <;> simp [behindInMarks, e1, e2]
/-- a comparison as a value; hm: nomark b, or (for in, not in) by with_unfolding_all rfl -/
theorem pe_cmpR {op : CmpOp} {r : R2} (ho : OpR X (compareOp op) r) (ha : PE X a ta) (hb : PE X b tb) (hm : behindInMarks op b = false) : PE X (.Compare a [op] [b] pos) (tOp r ta tb) := by
  intro pins s σ H Q I h
  exact wpAny_Compare1 (binT ha hb I h fun v u s2 x y H2 I2 rx ry q => ho pins s2 σ H2 x y v u Q I2 rx ry q) hm
/-- a reading of a value as a test -/
def tTest (t : TE) : TT := fun σ H Q => t σ H fun x H' => ∃ k, x = .bl k ∧ Q k H'
theorem pt_cmpR {op : CmpOp} {r : R2} (ho : OpR X (compareOp op) r) (ha : PE X a ta) (hb : PE X b tb) (hm : behindInMarks op b = false) : PT X (.Compare a [op] [b] pos) (tTest (tOp r ta tb)) := by
  intro pins s σ H Q I h
  refine wpAny_isTrue_Compare1 (thn (ha pins s σ H _ I h) fun v s1 ⟨x, H1, I1, r1, q1⟩ => thn (hb pins s1 σ H1 _ I1 q1) fun u s2 ⟨y, H2, I2, r2, q2⟩ =>
    thn (ho pins s2 σ H2 x y v u _ I2 r1 r2 q2) fun c s3 ⟨z, H3, I3, r3, k, e, q3⟩ => ?_) hm
  subst e
  cases r3
  exact wpAny_truthy_bool ⟨H3, I3, q3⟩
/-- a op1 b op2 c -/
def tChain (r r' : R2) (ta tb tc : TE) : TE := fun σ H Q => ta σ H fun x H1 => tb σ H1 fun y H2 => r x y H2 fun z H3 => ∃ k, z = .bl k ∧
  (if k = true then tc σ H3 fun w' H4 => r' y w' H4 Q else Q (.bl false) H3)
/-! ### truth -/
/-- a value's truth by the abstract heap -/
def TruV (K : PySem.W.Frag) (x : V) (H : Hp) (k : Bool) : Prop :=
  match x with
  | .non => k = false
  | .bl b => k = b
  | .int i => k = (i != 0)
  | .str y => y.length ≤ sizeLine ∧ k = ((y.length : Int) != 0)
  | .byt y => y.size ≤ sizeLine ∧ k = ((y.size : Int) != 0)
  | .ref p => (∃ xs, SqL K H p xs ∧ k = !xs.isEmpty) ∨ (∃ xs, SqT K H p xs ∧ k = !xs.isEmpty) ∨ ∃ kvs, H p = some (.dK kvs) ∧ k = !kvs.isEmpty
  | _ => False
theorem isEmpty_kv {κ : Type} {kvs : List (κ × V)} {vs : List (κ × Value)} (r : KV kvs vs) : (!vs.isEmpty) = !kvs.isEmpty := by
  cases r <;> rfl
theorem isEmpty_of {xs : List V} {its : List Value} (r : Vals xs its) : (!its.toArray.isEmpty) = !xs.isEmpty := by
  cases r <;> simp
theorem line63 : (sizeLine : Nat) < 2 ^ 63 := by rw [sizeLine_eq]; decide
theorem tru_ok : TruR X (fun x H Q => ∃ k, TruV X.K x H k ∧ Q k H) := by
  intro pins s σ H x v Q I rx h
  obtain ⟨k, e, q⟩ := h
  have hl := line63
  have hs : sizeLine = 16777216 := sizeLine_eq
  cases x with
  | non =>
    cases rx
    have e' : k = false := e
    subst e'
    exact truthy_none ⟨H, I, q⟩
  | bl b =>
    cases rx
    have e' : k = b := e
    subst e'
    exact wpAny_truthy_bool ⟨H, I, q⟩
  | int i =>
    obtain ⟨t, rfl⟩ := rx
    have e' : k = (i != 0) := e
    subst e'
    exact PySem.P.truthy_int ⟨H, I, q⟩
  | str y =>
    obtain ⟨t, rfl⟩ := rx
    obtain ⟨hy, e'⟩ : y.length ≤ sizeLine ∧ k = ((y.length : Int) != 0) := e
    subst e'
    exact PySem.P.truthy_str (by omega) ⟨H, I.tok _, q⟩
  | byt y =>
    obtain ⟨t, rfl⟩ := rx
    obtain ⟨hy, e'⟩ : y.size ≤ sizeLine ∧ k = ((y.size : Int) != 0) := e
    subst e'
    exact PySem.W.truthy_bytes (by omega) ⟨H, I.tok _, q⟩
  | ref p =>
    cases rx
    have e' : (∃ xs, SqL X.K H p xs ∧ k = !xs.isEmpty) ∨ (∃ xs, SqT X.K H p xs ∧ k = !xs.isEmpty) ∨ ∃ kvs, H p = some (.dK kvs) ∧ k = !kvs.isEmpty := e
    rcases e' with ⟨xs, hx, e'⟩ | ⟨xs, hx, e'⟩ | ⟨kvs, hx, e'⟩
    · subst e'
      obtain ⟨its, r, pl, hz⟩ := I.list hx
      have hlen := r.length
      exact wpAny_truthy_list pl.isList (by simp only [List.size_toArray]; omega) ⟨H, I.tok _, by rw [isEmpty_of r]; exact q⟩
    · subst e'
      obtain ⟨its, r, pl, hz⟩ := I.tuple hx
      have hlen := r.length
      exact truthy_tuple pl (by simp only [List.size_toArray]; omega) ⟨H, I.tok _, by rw [isEmpty_of r]; exact q⟩
    · subst e'
      obtain ⟨hz, hS, vs, r, m⟩ : kvs.length ≤ sizeLine ∧ (p == sysModules) = false ∧ ∃ vs, KV kvs vs ∧ s.heap.DictOf (mixKind X.prog X.w) p vs := I.hok p _ hx
      have hlen : kvs.length = vs.length := Paired.length r
      exact wpAny_truthy_dict hS m (by omega) ⟨H, I.tok _, by rw [isEmpty_kv r]; exact q⟩
  | _ => exact (show False from e).elim
/-- any expression whose test is its value's truth (a name, a call, a subscript, a field ..: he by fun _ => rfl) -/
theorem pt_truth (ha : PE X a ta) (he : ∀ whole, isTrue a X.env whole = (do let v ← whole; standAt a.pos; holding [v] (truthy v))) :
    PT X a (fun σ H Q => ta σ H fun x H' => ∃ k, TruV X.K x H' k ∧ Q k H') := by
  intro pins s σ H Q I h
  exact isTrue_plain (thn (ha pins s σ H _ I h) fun v s1 ⟨x, H1, I1, r1, q1⟩ => tru_ok pins s1 σ H1 x v Q I1 r1 q1) (he _)

/-! ### strs and bytes -/
theorem op_add_str : OpR X (binaryOp .Add) (fun x y H Q => ∃ i j, x = .str i ∧ y = .str j ∧ i.length + j.length ≤ sizeLine ∧ Q (.str (i ++ j)) H) := by
  intro pins s σ H x y v u Q I rx ry h
  obtain ⟨i, j, rfl, rfl, hz, q⟩ := h
  obtain ⟨t, rfl⟩ := rx
  obtain ⟨t', rfl⟩ := ry
  exact add_str (fun t' tk => ⟨.str (i ++ j), H, I.tok _, ⟨_, rfl⟩, q⟩) hz
def PlainIxT (b : Expr) : Prop := ∀ o i, subscripted b false o i = operate [o, i] (getItem o i)
/-! ### scalar builtins, by CallR -/
theorem vals1 {x : V} {us : List Value} (r : Vals [x] us) : ∃ u, us = [u] ∧ RelV x u := by
  cases r with
  | cons r1 r2 => cases r2; exact ⟨_, rfl, r1⟩
theorem vals2 {x y : V} {us : List Value} (r : Vals [x, y] us) : ∃ u w', us = [u, w'] ∧ RelV x u ∧ RelV y w' := by
  cases r with
  | cons r1 r2 =>
    cases r2 with
    | cons r3 r4 => cases r4; exact ⟨_, _, rfl, r1, r3⟩
theorem call_min2 (hc : X.calm = true) : CallR X (.builtin "min") (fun xs H Q => ∃ i j, xs = [.int i, .int j] ∧ Q (.int (if j < i then j else i)) H) := by
  intro pins s σ H xs us Q I r h
  obtain ⟨i, j, rfl, q⟩ := h
  obtain ⟨u, w', rfl, ⟨t, rfl⟩, ⟨t', rfl⟩⟩ := vals2 r
  refine min_two_ints (I.ok.hd hc) fun h' tk k => ⟨_, H, I.kept k, ?_, q⟩
  by_cases hj : j < i
  · rw [if_pos hj, if_pos hj]; exact ⟨_, rfl⟩
  · rw [if_neg hj, if_neg hj]; exact ⟨_, rfl⟩
/-- len of a str, a bytes, a list, a tuple -/
def LenV (K : PySem.W.Frag) (x : V) (H : Hp) (n : Nat) : Prop :=
  match x with
  | .str y => y.length ≤ sizeLine ∧ n = y.length
  | .byt y => y.size ≤ sizeLine ∧ n = y.size
  | .ref p => (∃ xs, SqL K H p xs ∧ n = xs.length) ∨ ∃ xs, SqT K H p xs ∧ n = xs.length
  | _ => False
end
end L2

namespace L2
open PySem PySem.Spec PyProof.Rows

/-! ### an instance, its attributes a map -/
structure ObjM (h : Heap) (x dx C : Addr) (mA : Str → Option Value) : Prop where
  obj : h.get? x = some (PySem.W.instObj C dx)
  ns : h.Ns1 dx mA
  ne : dx ≠ x

theorem lookIn_ns {h : Heap} {dx : Addr} {mA : Str → Option Value} (n : h.Ns1 dx mA) : ∃ od, h.get? dx = some od ∧ ∀ name, PySem.W.lookIn name od = some (mA name) := by
  obtain ⟨o, es, ep, ho, hd, hk, _, hm⟩ := n
  refine ⟨o, ho, fun name => ?_⟩
  have e := hm name
  unfold nsFind findBy at e
  rw [← Array.find?_toList] at e
  unfold PySem.W.lookIn
  rw [hd]
  dsimp only
  split
  · rename_i y q
    rw [q] at e
    exact congrArg some e
  · rename_i q
    rw [q] at e
    have a : es.toList.any (·.refKey) = false := by
      rw [List.any_eq_false]
      intro y hy
      obtain ⟨z, t, hkey⟩ := hk y (Array.mem_toList_iff.mp hy)
      simp [DictEntry.refKey, hkey]
    have a' : ¬ es.toList.any (·.refKey) = true := by rw [a]; exact Bool.false_ne_true
    rw [if_neg a']
    exact congrArg some e

theorem ObjM.look {h : Heap} {x dx C : Addr} {mA : Str → Option Value} (I : ObjM h x dx C mA) : ∃ od, PySem.W.InstAt h x (PySem.W.instObj C dx) C (some od) ∧ ∀ name, PySem.W.lookIn name od = some (mA name) :=
  let ⟨od, ho, hl⟩ := lookIn_ns I.ns
  ⟨od, ⟨I.obj, rfl, rfl, ho⟩, hl⟩

section
variable {prog : Program} {w : World} {A : Around} {E : Value → Shared → Prop} {s : Shared} {K : PySem.W.Frag} {x dx C f : Addr} {mA : Str → Option Value} {name : Str} {v : Value}

theorem get_map {expr : Bool} {Q : Value → Shared → Prop} (X : K.In s.heap) (I : ObjM s.heap x dx C mA) (hg : PySem.W.plainGet K C name = true) (hh : PySem.W.hasDictIn K C = true)
    (ha : PySem.W.findIn K (.ref C) name = some none) (hv : mA name = some v) (hv' : PySem.W.handedIn v = true) (h : Q v { s with toks := s.toks + 1 }) :
    wpAny (model prog w) A (getAttr (.ref x) name expr) Q E s := by
  obtain ⟨od, J, hl⟩ := I.look
  exact PySem.W.get_value X J (PySem.W.plainGet_of hg).1 (PySem.W.findObj_own hh ha rfl (by rw [hl, hv])) hv' h

theorem get_meth {pl : Sem Bool} {Q : Value × List Value → Shared → Prop} (X : K.In s.heap) (I : ObjM s.heap x dx C mA) (hg : PySem.W.plainGet K C name = true)
    (hf : PySem.W.findIn K (.ref C) name = some (some (.ref f))) (ht : PySem.W.isFn K (.ref f) = true) (hv : mA name = none) (h : Q (.ref f, [.ref x]) s) :
    wpAny (model prog w) A (getMethod (.ref x) name pl) Q E s := by
  obtain ⟨od, J, hl⟩ := I.look
  exact PySem.W.method_fn X J (PySem.W.plainGet_of hg).1 (PySem.W.plainGet_of hg).2 hf (beq_iff_eq.mp ht) (by show (PySem.W.lookIn name od).map (·.isSome) = some false; rw [hl, hv]; rfl) h

theorem set_map {ns : List Str} {Q : Unit → Shared → Prop} (X : K.In s.heap) (I : ObjM s.heap x dx C mA)
    (hs : PySem.W.findIn K (.ref C) "__setattr__" = some (some (.builtin "object.__setattr__"))) (hp : PySem.W.plainOver K C = true) (ht : PySem.W.takerIn K C name = some none) (hh : PySem.W.hasDictIn K C = true)
    (hw : PySem.Within mA ns) (hsz : ns.length ≤ sizeLine)
    (h : ∀ h', ObjM h' x dx C (fun y => if y = name then some v else mA y) → Heap.SameBut dx s.heap h' → Q () { s with heap := h', toks := s.toks + 2 }) :
    wpAny (model prog w) A (setAttr (.ref x) name v) Q E s := by
  obtain ⟨od, J, hl⟩ := I.look
  refine PySem.W.set_plain X J hs (PySem.W.osa_open (s := { s with toks := s.toks + 1 }) (r := none) X J hp ht fun b => ?_)
  obtain ⟨cd, hc, hd'⟩ := PySem.W.any_some hh
  have hx : s.heap.get? x = some ⟨.ref C, some dx, .plain, #[]⟩ := I.obj
  refine wpAny_bind (wpAny_pure (wpAny_bind (wpAny_bind (wpAny_loadPart hx (wpAny_bind (PySem.W.Looks.here (s := { s with toks := s.toks + 1 }) (PySem.W.looks_clsIn X hc) ?_))))))
  rw [hd']
  refine wpAny_pure (a := some dx) (wpAny_bind (wpAny_pure (wpAny_bind ?_)))
  refine wpAny_nsSet1 (s := { s with toks := s.toks + 1 }) I.ns fun h' hn2 hs2 => ?_
  obtain ⟨oD, esD, epD, hoD, hdD, hcD⟩ := hn2.count (PySem.Within.cons name v hw)
  refine wpAny_bind (wpAny_lookBehind hoD (by rw [hdD]; exact pastItsLine_dict (Nat.le_trans hcD (by rw [List.length_cons]; omega))) ?_)
  exact wpAny_pure (h _ ⟨(hs2.2 _ (Ne.symm I.ne)).trans I.obj, hn2, I.ne⟩ hs2)

/-- C(..): the dict at the heap's end, the instance behind it; then its __init__ -/
theorem make_map {R : Result → Shared → Prop} {vs : List Value} {kw : List (Str × Value)} (X : K.In s.heap) (hm : PySem.W.makesIn K C = true)
    (hi : PySem.W.findIn K (.ref C) "__init__" = some (some (.ref f))) (hf : PySem.W.typeIn K (.ref f) = some (.type "function"))
    (h : codeAny (model prog w) (A.under (.builtin "type.__call__" ⟨.ref C :: vs, kw⟩)) (.call (.ref f) ⟨.ref (s.heap.objs.size + 1) :: vs, kw⟩) (PySem.W.InitBack (s.heap.objs.size + 1) R)
      { s with heap := (s.heap.push PySem.W.emptyDict).push (PySem.W.instObj C s.heap.objs.size) }) :
    codeAny (model prog w) A (.call (.ref C) ⟨vs, kw⟩) R s := by
  obtain ⟨hh, g, d, t, os⟩ := s
  exact PySem.W.make_core (PySem.W.makes_of X hm) (PySem.W.looks_findIn X hi) (fun self => PySem.W.bind_fn X self hf) (.inl rfl) h
end

/-! ### the attributes as a list of pairs -/
def putF (f : Str) (v : V) : List (Str × V) → List (Str × V)
  | [] => [(f, v)]
  | (g, x) :: r => if g = f then (g, v) :: r else (g, x) :: putF f v r
theorem lookup_putF (f g : Str) (v : V) : ∀ fs : List (Str × V), (putF f v fs).lookup g = if g = f then some v else fs.lookup g
  | [] => by
    show List.lookup g [(f, v)] = _
    by_cases h : g = f
    · have hb : (g == f) = true := beq_iff_eq.mpr h
      simp only [List.lookup, hb, if_pos h]
    · have hb : (g == f) = false := beq_eq_false_iff_ne.mpr h
      simp only [List.lookup, hb, if_neg h]
  | (k, x) :: r => by
    have ih := lookup_putF f g v r
    rw [show putF f v ((k, x) :: r) = (if k = f then (k, v) :: r else (k, x) :: putF f v r) from rfl]
    by_cases hk : k = f
    · rw [if_pos hk]
      by_cases h : g = k
      · have hb : (g == k) = true := beq_iff_eq.mpr h
        simp only [List.lookup, hb, if_pos (h.trans hk)]
      · have hb : (g == k) = false := beq_eq_false_iff_ne.mpr h
        simp only [List.lookup, hb, if_neg (fun e : g = f => h (e.trans hk.symm))]
    · rw [if_neg hk]
      by_cases h : g = k
      · have hb : (g == k) = true := beq_iff_eq.mpr h
        simp only [List.lookup, hb, if_neg (fun e : g = f => hk (h.symm.trans e))]
      · have hb : (g == k) = false := beq_eq_false_iff_ne.mpr h
        simp only [List.lookup, hb]
        exact ih
theorem keys_putF (f : Str) (v : V) : ∀ fs : List (Str × V), f ∈ (putF f v fs).map (·.1) ∧ ∀ g, g ∈ fs.map (·.1) → g ∈ (putF f v fs).map (·.1)
  | [] => ⟨by simp [putF], fun g h => by simp at h⟩
  | (k, x) :: r => by
    obtain ⟨i1, i2⟩ := keys_putF f v r
    rw [show putF f v ((k, x) :: r) = (if k = f then (k, v) :: r else (k, x) :: putF f v r) from rfl]
    by_cases hk : k = f
    · rw [if_pos hk]
      subst hk
      exact ⟨by simp, fun g h => by simpa using h⟩
    · rw [if_neg hk]
      refine ⟨?_, fun g h => ?_⟩
      · rw [List.map_cons]
        exact List.mem_cons_of_mem _ i1
      · rw [List.map_cons] at h ⊢
        rcases List.mem_cons.mp h with e | e
        · exact List.mem_cons.mpr (.inl e)
        · exact List.mem_cons_of_mem _ (i2 g e)
theorem length_putF (f : Str) (v : V) : ∀ fs : List (Str × V), (putF f v fs).length ≤ fs.length + 1
  | [] => by simp [putF]
  | (k, x) :: r => by
    have ih := length_putF f v r
    rw [show putF f v ((k, x) :: r) = (if k = f then (k, v) :: r else (k, x) :: putF f v r) from rfl]
    by_cases hk : k = f
    · rw [if_pos hk, List.length_cons, List.length_cons]; omega
    · rw [if_neg hk, List.length_cons, List.length_cons]; omega

theorem RelO.some_of {v : V} {o : Option Value} (r : RelO (some v) o) : ∃ u, o = some u ∧ RelV v u := by
  cases o with
  | none => exact (show False from r).elim
  | some u => exact ⟨u, rfl, r⟩
theorem RelO.none_of {o : Option Value} (r : RelO none o) : o = none := by
  cases o with
  | none => rfl
  | some u => exact (show False from r).elim
theorem handed_of {v : V} {u : Value} (r : RelV v u) : PySem.W.handedIn u = true := by
  cases v with
  | non => cases (show u = Value.none from r); rfl
  | bl b => cases (show u = Value.bool b from r); rfl
  | int i => obtain ⟨t, e⟩ := (show ∃ t, u = Value.int i t from r); cases e; rfl
  | str x => obtain ⟨t, e⟩ := (show ∃ t, u = Value.str x t from r); cases e; rfl
  | byt b => obtain ⟨t, e⟩ := (show ∃ t, u = Value.bytes b t from r); cases e; rfl
  | flt b => obtain ⟨t, e⟩ := (show ∃ t, u = Value.float b t from r); cases e; rfl
  | ref a => cases (show u = Value.ref a from r); rfl
  | ty n => cases (show u = Value.type n from r); rfl

section
variable {P : Program} {w : World} {H H' : Hp} {h h' : Heap} {a C dx : Addr} {fs fs' : List (Str × V)}
theorem ins_get (hok : HOk P w H h) (e : H a = some (.ins C dx fs)) : ∃ mA, ObjM h a dx C mA ∧ (∀ f, RelO (fs.lookup f) (mA f)) ∧ PySem.Within mA (fs.map (·.1)) ∧ fs.length ≤ 1000 ∧ H dx = some (.own a) := by
  obtain ⟨d, z, ne, ob, mA, n, r, q⟩ := (show ObjOk P w H h a (.ins C dx fs) from hok a _ e)
  exact ⟨mA, ⟨ob, n, ne⟩, r, q, z, d⟩
end

/-! ### what of the text a class must have -/
structure Cls (K : PySem.W.Frag) (C : Addr) : Prop where
  pg : PySem.W.plainGet K C Str.empty = true
  hd : PySem.W.hasDictIn K C = true
  po : PySem.W.plainOver K C = true
  sa : PySem.W.findIn K (.ref C) "__setattr__" = some (some (.builtin "object.__setattr__"))
theorem Cls.get {K : PySem.W.Frag} {C : Addr} (c : Cls K C) (f : Str) : PySem.W.plainGet K C f = true := c.pg
/-- no class of it has the name -/
def NoAttr (K : PySem.W.Frag) (C : Addr) (f : Str) : Prop := PySem.W.findIn K (.ref C) f = some none
theorem NoAttr.taker {K : PySem.W.Frag} {C : Addr} {f : Str} (n : NoAttr K C f) : PySem.W.takerIn K C f = some none := by
  unfold PySem.W.takerIn
  rw [show PySem.W.findIn K (.ref C) f = some none from n]
  rfl
/-- a constant of the class -/
structure Con (K : PySem.W.Frag) (C : Addr) (f : Str) (v : V) (u : Value) : Prop where
  at_ : PySem.W.findIn K (.ref C) f = some (some u)
  rel : RelV v u
  get : PySem.W.specialIn K u "__get__" = some none
  cp : PySem.W.copiedNames.contains f = false
/-- a method: a plain def of the class or of one above it -/
structure Meth (K : PySem.W.Frag) (C : Addr) (m : Str) (f : Addr) : Prop where
  at_ : PySem.W.findIn K (.ref C) m = some (some (.ref f))
  fn : PySem.W.isFn K (.ref f) = true
  kp : PySem.W.keepIn K (.ref f) = true

section
variable {X : Cx} {pins : List (Addr × Obj)} {σ : St} {H : Hp} {s : Shared} {a C dx : Addr} {fs : List (Str × V)} {f : Str} {v : V} {A : Around} {E : Value → Shared → Prop}

theorem getattr_ok {b : Bool} {Q : Value → Shared → Prop} (I : Inv X pins σ H s) (e : H a = some (.ins C dx fs)) (c : Cls X.K C) (n : NoAttr X.K C f) (l : fs.lookup f = some v)
    (h : ∀ u s', Inv X pins σ H s' → RelV v u → Q u s') : wpAny (model X.prog X.w) A (getAttr (.ref a) f b) Q E s := by
  obtain ⟨mA, O, r, _, _, _⟩ := ins_get I.hok e
  obtain ⟨u, hu, ru⟩ := RelO.some_of (v := v) (o := mA f) (by rw [← l]; exact r f)
  exact get_map I.kIn O (c.get f) c.hd n hu (handed_of ru) (h u _ (I.tok _) ru)

theorem getmeth_ok {m : Str} {g : Addr} {pl : Sem Bool} {Q : Value × List Value → Shared → Prop} (I : Inv X pins σ H s) (e : H a = some (.ins C dx fs)) (c : Cls X.K C) (k : Meth X.K C m g) (l : fs.lookup m = none)
    (h : Q (.ref g, [.ref a]) s) : wpAny (model X.prog X.w) A (getMethod (.ref a) m pl) Q E s := by
  obtain ⟨mA, O, r, _, _, _⟩ := ins_get I.hok e
  have hn : mA m = none := RelO.none_of (by rw [← l]; exact r m)
  exact get_meth I.kIn O (c.get m) k.at_ k.fn hn h

theorem setattr_ok {y : V} {u : Value} {Q : Unit → Shared → Prop} (I : Inv X pins σ H s) (e : H a = some (.ins C dx fs)) (c : Cls X.K C) (n : NoAttr X.K C f) (hl : fs.length < 1000) (ry : RelV y u)
    (h : ∀ s', Inv X pins σ (upd H a (.ins C dx (putF f y fs))) s' → Q () s') : wpAny (model X.prog X.w) A (setAttr (.ref a) f u) Q E s := by
  obtain ⟨mA, O, r, wi, _, ho⟩ := ins_get I.hok e
  have hz : (fs.map (·.1)).length ≤ sizeLine := by rw [List.length_map, sizeLine_eq]; omega
  refine set_map I.kIn O c.sa c.po n.taker c.hd wi hz fun h' O' sb => h _ ?_
  have hd : ∃ o, h'.get? dx = some o := let ⟨o, _, _, e', _⟩ := O'.ns; ⟨o, e'⟩
  refine I.write (x := a) (e := dx) (by rw [e]; exact True.intro) (.inr ho) (fun b q hb z => (sb.2 b hb).trans z) hd ?_
  refine ⟨by rw [upd_ne O.ne]; exact ho, ?_, O.ne, O'.obj, _, O'.ns, fun g => ?_, fun g hg => ?_⟩
  · have := length_putF f y fs; omega
  · show RelO ((putF f y fs).lookup g) (if g = f then some u else mA g)
    rw [lookup_putF]
    by_cases q : g = f
    · rw [if_pos q, if_pos q]; exact ry
    · rw [if_neg q, if_neg q]; exact r g
  · by_cases q : g = f
    · rw [q]; exact (keys_putF f y fs).1
    · refine (keys_putF f y fs).2 g (wi g fun z => hg ?_)
      show (if g = f then some u else mA g) = none
      rw [if_neg q]; exact z

/-- a new instance, tracked, without attributes -/
theorem Inv.made (I : Inv X pins σ H s) : Inv X pins σ (upd (upd H s.heap.objs.size (.own (s.heap.objs.size + 1))) (s.heap.objs.size + 1) (.ins C s.heap.objs.size []))
    { s with heap := (s.heap.push PySem.W.emptyDict).push (PySem.W.instObj C s.heap.objs.size) } := by
  have e1 : (s.heap.push PySem.W.emptyDict).get? s.heap.objs.size = some PySem.W.emptyDict := Heap.get?_push_size s.heap rfl
  have e2 : ((s.heap.push PySem.W.emptyDict).push (PySem.W.instObj C s.heap.objs.size)).get? (s.heap.objs.size + 1) = some (PySem.W.instObj C s.heap.objs.size) := by
    have := Heap.get?_push_size (s.heap.push PySem.W.emptyDict) (o := PySem.W.instObj C s.heap.objs.size) rfl
    rwa [Heap.size_push] at this
  have e3 : (s.heap.push PySem.W.emptyDict).Ns s.heap.objs.size (fun _ => none) := ⟨PySem.W.emptyDict, #[], _, e1, rfl, (fun e he => absurd he (by simp)), fun _ => rfl⟩
  have I1 := I.laid (a := s.heap.objs.size) (o := .own (s.heap.objs.size + 1)) (h' := s.heap.push PySem.W.emptyDict) (t' := s.toks) (fun b u q => Heap.get?_push_of_some _ q) (Nat.le_refl _) ⟨_, e1⟩
  refine I1.laid (a := s.heap.objs.size + 1) (o := .ins C s.heap.objs.size []) (t' := s.toks) (fun b u q => Heap.get?_push_of_some _ q) (Nat.le_of_eq (Heap.size_push _ _)) ?_
  have ne : s.heap.objs.size ≠ s.heap.objs.size + 1 := Nat.ne_of_lt (Nat.lt_succ_self _)
  refine ⟨by rw [upd_ne ne, upd_same], Nat.zero_le _, ne, e2, fun _ => none, (Heap.Ns1.of_empty e3).at fun o q => Heap.get?_push_of_some _ q, fun _ => True.intro, fun y hy => absurd rfl hy⟩

/-- e.f where nothing but the object is asked: through attributeBase (super) and the last hold -/
theorem attr_of {prog : Program} {w : World} {env : Env} {e : Expr} {f : Str} {pos : Pos} {s : Shared} {Q : Value → Shared → Prop} (hb : attributeBase e f env (eval e env) = eval e env)
    (h : wpAny (model prog w) A (eval e env) (fun o s₁ => wpAny (model prog w) A (getAttr o f true) Q E s₁) E s) : wpAny (model prog w) A (eval (.Attribute e f pos) env) Q E s :=
  Attribute_any_ h (by rw [arm_eval_Attribute, hb])
end

/-! ### readings and rules -/
/-- e.f, an attribute of the instance -/
def tFld (K : PySem.W.Frag) (ta : TE) (f : Str) : TE := fun σ H Q => ta σ H fun x H1 => ∃ a C dx fs v, x = .ref a ∧ H1 a = some (.ins C dx fs) ∧ Cls K C ∧ NoAttr K C f ∧ fs.lookup f = some v ∧ Q v H1
/-- e.f, a constant of the class -/
def tCon (K : PySem.W.Frag) (ta : TE) (f : Str) : TE := fun σ H Q => ta σ H fun x H1 => ∃ a C dx fs v u, x = .ref a ∧ H1 a = some (.ins C dx fs) ∧ Cls K C ∧ Con K C f v u ∧ fs.lookup f = none ∧ Q v H1
/-- e.f = value -/
def sFld (K : PySem.W.Frag) (ta tv : TE) (f : Str) : TS := fun D σ H => tv σ H fun y H1 => ta σ H1 fun x H2 => ∃ a C dx fs, x = .ref a ∧ H2 a = some (.ins C dx fs) ∧ Cls K C ∧ NoAttr K C f ∧ fs.length < 1000 ∧
  D.nx σ (upd H2 a (.ins C dx (putF f y fs)))
/-- an augmented operator on two values -/
def InOp (X : Cx) (op : Operator) (rd : V → V → Hp → VK → Prop) : Prop :=
  ∀ (pins : List (Addr × Obj)) (s : Shared) (σ : St) (H : Hp) (x y : V) (u v : Value) (Q : VK), Inv X pins σ H s → RelV x u → RelV y v → rd x y H Q → wpAny (model X.prog X.w) X.A (inplaceOp op u v) (EP X pins σ Q) X.xe s
/-- e.f op= value -/
def sFldAug (K : PySem.W.Frag) (ta tv : TE) (rd : V → V → Hp → VK → Prop) (f : Str) : TS := fun D σ H => ta σ H fun x H1 => ∃ a C dx fs v, x = .ref a ∧ H1 a = some (.ins C dx fs) ∧ Cls K C ∧ NoAttr K C f ∧ fs.lookup f = some v ∧
  tv σ H1 fun y H2 => rd v y H2 fun z H3 => ∃ dx' fs', H3 a = some (.ins C dx' fs') ∧ fs'.length < 1000 ∧ D.nx σ (upd H3 a (.ins C dx' (putF f z fs')))

section
variable {X : Cx} {o e value : Expr} {f : Str} {pos pos' tpos : Pos} {ta tv : TE}
theorem pe_fld (he : PE X e ta) (hb : attributeBase e f X.env (eval e X.env) = eval e X.env) : PE X (.Attribute e f pos) (tFld X.K ta f) := by
  intro pins s σ H Q I h
  refine attr_of hb (thn (he pins s σ H _ I h) fun u s1 ⟨x, H1, I1, rx, a, C, dx, fs, v, ex, ea, c, n, l, q⟩ => ?_)
  subst ex
  obtain rfl : u = Value.ref a := rx
  exact getattr_ok I1 ea c n l fun u' s2 I2 ru => ⟨v, H1, I2, ru, q⟩
theorem ps_fld (ha : PE X o ta) (hv : PE X value tv) (hs : swapsWith value (some (.Attribute o f pos')) pos.line X.env = pure false) : PS X (.Assign [.Attribute o f pos'] value pos) (sFld X.K ta tv f) := by
  intro pins s σ H D I h
  refine plainObj_wpAny_Assign_Attribute (thn (hv pins s σ H _ I h) fun u s1 ⟨y, H1, I1, ry, q⟩ => thn (ha pins s1 σ H1 _ I1 q) fun ov s2 ⟨x, H2, I2, rx, a, C, dx, fs, ex, ea, c, n, l, q2⟩ => ?_) hs
  subst ex
  obtain rfl : ov = Value.ref a := rx
  exact setattr_ok I2 ea c n l ry fun s3 I3 => ⟨σ, _, I3, q2⟩
def rAdd : V → V → Hp → VK → Prop := fun x y H Q => ∃ i j, x = .int i ∧ y = .int j ∧ Q (.int (i + j)) H
def rSub : V → V → Hp → VK → Prop := fun x y H Q => ∃ i j, x = .int i ∧ y = .int j ∧ Q (.int (i - j)) H
end

/-! ### isinstance -/
section
variable {X : Cx} {pins : List (Addr × Obj)} {σ : St} {H : Hp} {s : Shared} {A : Around} {E : Value → Shared → Prop} {Q : Value → Shared → Prop} {c : Value} {b : Bool}
/-- the type of a value, as the fragment's deciders take it; for an instance its class -/
inductive TyOf (K : PySem.W.Frag) (H : Hp) : V → Value → Prop where
  | non : TyOf K H .non (.type "NoneType")
  | bl (x : Bool) : TyOf K H (.bl x) (.type "bool")
  | int (i : Int) : TyOf K H (.int i) (.type "int")
  | str (x : Str) : TyOf K H (.str x) (.type "str")
  | flt (x : UInt64) : TyOf K H (.flt x) (.type "float")
  | lst {a : Addr} {xs : List V} (e : H a = some (.lst xs)) : TyOf K H (.ref a) (.type "list")
  | frz {a : Addr} {o : Obj} {xs : List V} (e : H a = some (.frz o (.lst xs))) : TyOf K H (.ref a) (.type "list")
  | tup {a : Addr} {xs : List V} (e : H a = some (.tup xs)) : TyOf K H (.ref a) (.type "tuple")
  | dK {a : Addr} {kvs : List (Key × V)} (e : H a = some (.dK kvs)) : TyOf K H (.ref a) (.type "dict")
  | dT {a : Addr} {kvs : List (List Key × V)} (e : H a = some (.dT kvs)) : TyOf K H (.ref a) (.type "dict")
  | ins {a C dx : Addr} {fs : List (Str × V)} (e : H a = some (.ins C dx fs)) (cl : Cls K C) (ha : PySem.W.findIn K (.ref C) "__class__" = some (some (.builtin "object.__class__")))
      (hn : PySem.W.specialIn K (.builtin "object.__class__") "__get__" = some (some (.builtin "getset_descriptor.__get__"))) (htk : PySem.W.takesIn K (.builtin "object.__class__") = some true)
      (hm : PySem.W.mroIn K C (.type "object") = some true) : TyOf K H (.ref a) (.ref C)
/-- isinstance(x, c) for one class c, a built-in or an own one: kitOne's answer -/
theorem isinst_ok {x : V} {u t : Value} (I : Inv X pins σ H s) (rx : RelV x u) (ty : TyOf X.K H x t) (e : PySem.W.kitOne X.K t c = some b) (h : ∀ tk, Q (.bool b) { s with toks := tk }) :
    wpAny (model X.prog X.w) A (call (.builtin "isinstance") [u, c]) Q E s := by
  cases ty with
  | non => cases (show u = Value.none from rx); exact PySem.W.kia_one PySem.W.kitx_none I.kIn True.intro e (fun z => nomatch z) h
  | bl y => cases (show u = Value.bool y from rx); exact PySem.W.kia_one PySem.W.kitx_bool I.kIn True.intro e (fun z => nomatch z) h
  | int i => obtain ⟨t, q⟩ := (show ∃ t, u = Value.int i t from rx); cases q; exact PySem.W.kia_one PySem.W.kitx_int I.kIn True.intro e (fun z => nomatch z) h
  | str y => obtain ⟨t, q⟩ := (show ∃ t, u = Value.str y t from rx); cases q; exact PySem.W.kia_one PySem.W.kitx_str I.kIn True.intro e (fun z => nomatch z) h
  | flt y => obtain ⟨t, q⟩ := (show ∃ t, u = Value.float y t from rx); cases q; exact PySem.W.kia_one PySem.W.kitx_float I.kIn True.intro e (fun z => nomatch z) h
  | @lst a xs ea =>
    cases (show u = Value.ref a from rx)
    obtain ⟨_, _, n, _, h1⟩ := (show ObjOk X.prog X.w H s.heap a (.lst xs) from I.hok a _ ea)
    exact PySem.W.kia_one PySem.W.kitx_list I.kIn ⟨_, h1, rfl⟩ e (fun z => nomatch z) h
  | @frz a ob xs ea =>
    cases (show u = Value.ref a from rx)
    obtain ⟨_, _, _, n, _, h1⟩ := (show ObjOk X.prog X.w H s.heap a (.frz ob (.lst xs)) from I.hok a _ ea)
    exact PySem.W.kia_one PySem.W.kitx_list I.kIn ⟨_, h1, rfl⟩ e (fun z => nomatch z) h
  | @tup a xs ea =>
    cases (show u = Value.ref a from rx)
    obtain ⟨_, _, _, p⟩ := (show ObjOk X.prog X.w H s.heap a (.tup xs) from I.hok a _ ea)
    obtain ⟨o, h1, h2, _⟩ := p
    exact PySem.W.kia_one PySem.W.kitx_tuple I.kIn ⟨o, h1, h2⟩ e (fun z => nomatch z) h
  | @dK a kvs ea =>
    cases (show u = Value.ref a from rx)
    obtain ⟨_, _, vs, _, p⟩ := (show ObjOk X.prog X.w H s.heap a (.dK kvs) from I.hok a _ ea)
    obtain ⟨o, es, ep, h1, h2, _⟩ := p
    exact PySem.W.kia_one PySem.W.kitx_dict I.kIn ⟨o, h1, h2.1⟩ e (fun z => nomatch z) h
  | @dT a kvs ea =>
    cases (show u = Value.ref a from rx)
    obtain ⟨_, _, xs, _, o, es, ep, h1, h2, _⟩ := (show ObjOk X.prog X.w H s.heap a (.dT kvs) from I.hok a _ ea)
    exact PySem.W.kia_one PySem.W.kitx_dict I.kIn ⟨o, h1, h2.1⟩ e (fun z => nomatch z) h
  | @ins a C dx fs ea cl ha hn htk hm =>
    cases (show u = Value.ref a from rx)
    obtain ⟨mA, O, _⟩ := ins_get I.hok ea
    obtain ⟨od, J, _⟩ := O.look
    exact PySem.W.kia_one (PySem.W.kitx_own (cl.get _) cl.hd ha hn htk hm) I.kIn J e (fun z => nomatch z) h
end
end L2

namespace L2
open PySem PySem.Spec PyProof.Rows

/-! ### room -/
structure Room (k : Nat) (A : Around) : Prop where
  hd : A.handled = none
  dp : A.depth + 3 * k + 5 < recursionLimit
  un : A.units + 16 * k + 200 < cLine
theorem Room.deeper {k : Nat} {A : Around} (r : Room (k + 1) A) (env : Env) : Room k (A.deeper env) :=
  ⟨r.hd, by have := r.dp; show A.depth + 1 + 3 * k + 5 < _; omega, by have := r.un; show A.units + 3 + 16 * k + 200 < _; omega⟩
theorem make_depth {A : Around} {C : Addr} {us : List Value} {kw : List (Str × Value)} : (A.under (.builtin "type.__call__" ⟨.ref C :: us, kw⟩)).depth = A.depth + 1 := by
  first | rfl | simp [Around.under, Code.weight, Code.isCreation, Code.isGuard, Code.isCaller, Code.frames, Code.isFrame, guardIds]
theorem make_units {A : Around} {C : Addr} {us : List Value} {kw : List (Str × Value)} : (A.under (.builtin "type.__call__" ⟨.ref C :: us, kw⟩)).units = A.units + 1 := by
  first | rfl | simp [Around.under, Code.cUnits, Code.frames, Code.isFrame]
theorem Room.make {k : Nat} {A : Around} (r : Room (k + 1) A) (C : Addr) (us : List Value) (kw : List (Str × Value)) : Room k (A.under (.builtin "type.__call__" ⟨.ref C :: us, kw⟩)) :=
  ⟨r.hd, by have := r.dp; rw [make_depth]; omega, by have := r.un; rw [make_units]; omega⟩
theorem Room.depth {k : Nat} {A : Around} (r : Room k A) : A.depth < recursionLimit := by have := r.dp; omega
theorem Room.units {k : Nat} {A : Around} (r : Room k A) : A.units + 64 < cLine := by have := r.un; omega
/-! ### argument lists and displays -/
def tNil : TA := fun _ H Q => Q [] H
def tCons (ta : TE) (tr : TA) : TA := fun σ H Q => ta σ H fun x H1 => tr σ H1 fun xs H2 => Q (x :: xs) H2
section
variable {X : Cx} {e : Expr} {es : List Expr} {te : TE} {t : TA} {pos : Pos}
theorem pa_nil : PA X [] tNil := fun _ _ _ _ H Q I h => Calls.spliced_nil ⟨[], H, I, .nil, h⟩
theorem pa_cons (ha : PE X e te) (hr : PA X es t) (hs : starEach (e :: es) X.env = (false, eval e X.env) :: starEach es X.env := by rfl) : PA X (e :: es) (tCons te t) := by
  intro pos pins s σ H Q I h
  rw [hs]
  show wpAny _ _ (spliced ((false, eval e X.env) :: backTo pos (starEach es X.env))) _ _ s
  refine Calls.spliced_cons (thn (ha pins s σ H _ I h) fun u s1 ⟨x, H1, I1, r1, q1⟩ => ?_)
  exact thn (hr pos pins s1 σ H1 _ I1 q1) fun us s2 ⟨xs, H2, I2, r2, q2⟩ => ⟨x :: xs, H2, I2, .cons r1 r2, q2⟩

/-- a tuple, a list of written items -/
def tTup (t : TA) : TE := fun σ H Q => t σ H fun xs H1 => xs.length ≤ sizeLine ∧ ∀ p, H1 p = none → Q (.ref p) (upd H1 p (.tup xs))
def tLst (t : TA) : TE := fun σ H Q => t σ H fun xs H1 => xs.length ≤ sizeLine ∧ ∀ p, H1 p = none → Q (.ref p) (upd H1 p (.lst xs))
theorem pe_tup {x1} (h : PA X es t) : PE X (.Tuple es x1 pos) (tTup t) := by
  intro pins s σ H Q I hq
  refine wpAny_Tuple_spliced (thn (h pos pins s σ H _ I hq) fun us s1 ⟨xs, H1, I1, r, z, q⟩ => ⟨by rw [← r.length]; exact z, ?_⟩)
  have hf : H1 s1.heap.objs.size = none := I1.hok.fresh (Nat.le_refl _)
  refine ⟨.ref s1.heap.objs.size, upd H1 s1.heap.objs.size (.tup xs), I1.laid (t' := s1.toks) (fun b u e => Heap.get?_push_of_some _ e) (Nat.le_refl _) ?_, rfl, q _ hf⟩
  exact ⟨z, us, r, ⟨_, Heap.get?_push_size _ rfl, rfl, _, rfl⟩⟩
theorem pe_lst (h : PA X es t) : PE X (.List es pos) (tLst t) := by
  intro pins s σ H Q I hq
  refine wpAny_List_spliced (thn (h pos pins s σ H _ I hq) fun us s1 ⟨xs, H1, I1, r, z, q⟩ => ⟨by rw [← r.length]; exact z, ?_⟩)
  have hf : H1 s1.heap.objs.size = none := I1.hok.fresh (Nat.le_refl _)
  refine ⟨.ref s1.heap.objs.size, upd H1 s1.heap.objs.size (.lst xs), I1.laid (t' := s1.toks) (fun b u e => Heap.get?_push_of_some _ e) (Nat.le_refl _) ?_, rfl, q _ hf⟩
  exact ⟨z, us, 0, r, Heap.get?_push_size _ rfl⟩
end

/-! ### what a def promises -/
/-- a def's promise: the bound arguments in the parameters' order, the heap, the wanted end, the wanted exception -/
abbrev Sp := List V → Hp → VK → XK → Prop
/-- how an exception lies behind a call (file 08 gives it): the callers' frames, abstract heap and state ahead of the call, the wish, the exception, the state -/
abbrev CXT := List Env → Hp → Shared → XK → Value → Shared → Prop

/-- the state at a call -/
structure Env0 (P : Program) (w : World) (K : PySem.W.Frag) (mg : Str → Option Value) (base : Heap) (A : Around) (outer : List Env) (s : Shared) (H : Hp) : Prop where
  frames : A.frames = some outer
  mod : Mod K mg base
  bs : ∀ b o, base.get? b = some o → s.heap.get? b = some o ∧ H b = none
  bsz : base.objs.size ≤ s.heap.objs.size
  funs : s.heap.FunFrames base outer
  frf : ∀ b ∈ frs outer, H b = none
  hok : HOk P w H s.heap
  bare : AllBare s.gens
/-- a call's end -/
def CE (outer : List Env) (P : Program) (w : World) (H : Hp) (s : Shared) (Q : VK) (u : Value) (s' : Shared) : Prop :=
  ∃ v H', s'.os = s.os ∧ AllBare s'.gens ∧ Un (frs outer) [] H H' s.heap s'.heap ∧ HOk P w H' s'.heap ∧ RelV v u ∧ Q v H'
def CR (CX : CXT) (outer : List Env) (P : Program) (w : World) (H : Hp) (s : Shared) (Q : VK) (E : XK) (r : Result) (s' : Shared) : Prop :=
  match r with
  | .ok (.ret u) => CE outer P w H s Q u s'
  | .ok _ => False
  | .error e => CX outer H s E e s'
structure FnOk (P : Program) (w : World) (K : PySem.W.Frag) (mg : Str → Option Value) (base : Heap) (CX : CXT) (k : Nat) (f : Addr) (fd : FuncData) (ps : List Str) (sp : Sp) : Prop where
  len : ∀ vs H Q E, sp vs H Q E → vs.length = ps.length
  run : ∀ (A : Around) (outer : List Env) (s : Shared) (H : Hp) (args : Args) (us : List Value) (vs : List V) (Q : VK) (E : XK), Room k A → Env0 P w K mg base A outer s H → BindsTo s fd args (ps.zip us) → Vals vs us → sp vs H Q E →
    codeAny (model P w) A (.call (.ref f) args) (CR CX outer P w H s Q E) s
theorem Env0.make {P : Program} {w : World} {K : PySem.W.Frag} {mg : Str → Option Value} {base : Heap} {A : Around} {outer : List Env} {s : Shared} {H : Hp} (e : Env0 P w K mg base A outer s H) (C : Addr) (us : List Value) (kw : List (Str × Value)) :
    Env0 P w K mg base (A.under (.builtin "type.__call__" ⟨.ref C :: us, kw⟩)) outer s H := ⟨by first | exact e.frames | (simpa [Around.under, Code.envs, Code.isFrame, pushEnvs] using e.frames), e.mod, e.bs, e.bsz, e.funs, e.frf, e.hok, e.bare⟩
section
variable {X : Cx} {pins : List (Addr × Obj)} {σ : St} {H : Hp} {s s' : Shared}
/-- from a body: what a callee wants -/
theorem Inv.env0 (I : Inv X pins σ H s) : Env0 X.prog X.w X.K X.mg X.base X.A X.stack s H :=
  ⟨I.ok.frames, I.ok.mod, I.bs, Nat.le_trans I.ok.bsz I.sz, I.stack, I.stkFree, I.hok, I.bare⟩
/-- behind a call -/
theorem Inv.after {Q : VK} {u : Value} (I : Inv X pins σ H s) (h : CE X.stack X.prog X.w H s Q u s') : EP X pins σ Q u s' := by
  obtain ⟨v, H', os, bare, un, hok, r, q⟩ := h
  obtain ⟨hh, g, d, t, os'⟩ := s'
  obtain rfl : os' = s.os := os
  exact ⟨v, H', I.call (h' := hh) (g' := g) (d' := d) (t' := t) (ch := []) un hok bare (fun b z => absurd z (by simp)), r, q⟩
end

/-! ### calls -/
/-- f(..): the written arguments, then the defaults dvs; E: what is wanted of an exception -/
def tCall (sp : Sp) (dvs : List V) (E : XK) (t : TA) : TE := fun σ H Q => t σ H fun vs H1 => sp (vs ++ dvs) H1 Q E
/-- o.m(..) of an instance of the class at C -/
def tMeth (C : Addr) (m : Str) (sp : Sp) (dvs : List V) (E : XK) (ta : TE) (t : TA) : TE := fun σ H Q => ta σ H fun x H1 => ∃ a dx fs, x = .ref a ∧ H1 a = some (.ins C dx fs) ∧ fs.lookup m = none ∧
  t σ H1 fun vs H2 => sp (x :: (vs ++ dvs)) H2 Q E
/-- C(..): a new instance and its dict, then __init__ -/
def tMake (C : Addr) (sp : Sp) (dvs : List V) (E : XK) (t : TA) : TE := fun σ H Q => t σ H fun vs H1 => ∀ x dx, H1 x = none → H1 dx = none → dx ≠ x →
  sp (.ref x :: (vs ++ dvs)) (upd (upd H1 dx (.own x)) x (.ins C dx [])) (fun v H2 => v = .non ∧ Q (.ref x) H2) E

/-- how the parameters are bound: us the positional arguments, kw the keywords' values by name, ds the defaults that fill up -/
def Binds (K : PySem.W.Frag) (fd : FuncData) (ps : List Str) (ds : List Value) : Prop :=
  ∀ (s : Shared) (us : List Value), K.In s.heap → (us ++ ds).length = ps.length → BindsTo s fd ⟨us, []⟩ (ps.zip (us ++ ds))
/-- every parameter is given -/
theorem Binds.all {K : PySem.W.Frag} {fd : FuncData} {ps : List Str} (h : ∀ us : List Value, us.length = ps.length → bindArgs fd ⟨us, []⟩ = pure (ps.zip us)) : Binds K fd ps [] := fun s us _ hl => by
  rw [List.append_nil] at hl ⊢
  exact .of_eq (h us hl)

/-- an exception of a callee reaches what this body wants of exceptions -/
def Passes (CX : CXT) (X : Cx) (E : XK) : Prop := ∀ (pins : List (Addr × Obj)) (σ : St) (H : Hp) (s : Shared) (e : Value) (s' : Shared), Inv X pins σ H s → CX X.stack H s E e s' → X.xe e s'

section
variable {X : Cx} {CX : CXT} {k : Nat} {f C : Addr} {fd : FuncData} {ps : List Str} {sp : Sp} {dvs : List V} {ds : List Value} {E : XK} {x m : Str} {p pos apos : Pos} {e o : Expr} {es : List Expr} {ta : TE} {t : TA}

/-- the callee runs -/
theorem run_fn {pins : List (Addr × Obj)} {σ : St} {H : Hp} {s : Shared} {Q : VK} {us : List Value} {vs : List V} (F : FnOk X.prog X.w X.K X.mg X.base CX k f fd ps sp) (hr : Room k X.A) (hb : Binds X.K fd ps ds) (hd : Vals dvs ds) (hx : Passes CX X E)
    (I : Inv X pins σ H s) (r : Vals vs us) (h : sp (vs ++ dvs) H Q E) : wpAny (model X.prog X.w) X.A (call (.ref f) us) (EP X pins σ Q) X.xe s := by
  have r2 : Vals (vs ++ dvs) (us ++ ds) := r.append hd
  have hl : (us ++ ds).length = ps.length := by rw [← r2.length]; exact F.len _ _ _ _ h
  refine wpAny_call (codeAny_mono (F.run X.A X.stack s H ⟨us, []⟩ (us ++ ds) (vs ++ dvs) Q E hr I.env0 (hb s us I.kIn hl) r2 h) fun r s' hq => ?_)
  cases r with
  | error e => exact hx pins σ H s e s' I hq
  | ok fl =>
    cases fl with
    | ret u => exact I.after hq
    | next => exact False.elim hq
    | brk => exact False.elim hq
    | cont => exact False.elim hq

theorem pe_call (F : FnOk X.prog X.w X.K X.mg X.base CX k f fd ps sp) (hr : Room k X.A) (hg : Gl X x) (hm : X.mg x = some (.ref f)) (hk : PySem.W.keepIn X.K (.ref f) = true) (hb : Binds X.K fd ps ds) (hd : Vals dvs ds) (hx : Passes CX X E)
    (ha : PA X (e :: es) t) (hdb : (x == ("__debug__" : Str)) = false := by decide) (he : starEach (e :: es) X.env = (false, eval e X.env) :: starEach es X.env := by rfl) (hpl : (backTo pos (starEach es X.env)).any (·.1) = false := by rfl) :
    PE X (.Call (.Name x p) (e :: es) [] pos) (tCall sp dvs E t) := by
  intro pins s σ H Q I h
  refine wpAny_Call_Name_kw (ld_glob I hg hm ?_ hdb)
  refine PySem.W.callWith_K (h₀ := X.base) I.ok.mod.kin hk (thn (ha pos pins s σ H _ I h) fun us s1 ⟨vs, H1, I1, r, q⟩ => ⟨I1.kIn, ?_⟩) he hpl
  exact run_fn F hr hb hd hx I1 r q
/-- o.m(e, ..) -/
theorem pe_meth {pl : Sem Bool} (he : PE X o ta) (c : Cls X.K C) (hm : Meth X.K C m f) (F : FnOk X.prog X.w X.K X.mg X.base CX k f fd ps sp) (hr : Room k X.A) (hb : Binds X.K fd ps ds) (hd : Vals dvs ds) (hx : Passes CX X E) (ha : PA X (e :: es) t)
    (hst : starEach (e :: es) X.env = (false, eval e X.env) :: starEach es X.env := by rfl) (hpl : (backTo pos (starEach es X.env)).any (·.1) = false := by rfl)
    (ht : eval (.Call (.Attribute o m apos) (e :: es) [] pos) X.env = (do
      let ov ← eval o X.env
      standAt apos.atName
      let (f, first) ← holding [ov] (getMethod ov m pl)
      callWith pos f first (backTo pos (starEach (e :: es) X.env)) (backToKw pos (keywordEach [] X.env))) := by rfl) :
    PE X (.Call (.Attribute o m apos) (e :: es) [] pos) (tMeth C m sp dvs E ta t) := by
  intro pins s σ H Q I h
  refine PySem.W.methodCall_KW (pl := pl) (thn (he pins s σ H _ I h) fun u s1 ⟨x, H1, I1, rx, a, dx, fs, ex, ea, l, q⟩ => ?_) ht
  subst ex
  obtain rfl : u = Value.ref a := rx
  refine getmeth_ok I1 ea c hm l ?_
  refine PySem.W.callWith_K (first := [.ref a]) (h₀ := X.base) I.ok.mod.kin hm.kp (thn (ha pos pins s1 σ H1 _ I1 q) fun us s2 ⟨vs, H2, I2, r, q2⟩ => ⟨I2.kIn, ?_⟩) hst hpl
  exact run_fn (us := .ref a :: us) (vs := .ref a :: vs) F hr hb hd hx I2 (.cons rfl r) q2
/-- o.m() -/
theorem pe_meth0 {pl : Sem Bool} (he : PE X o ta) (c : Cls X.K C) (hm : Meth X.K C m f) (F : FnOk X.prog X.w X.K X.mg X.base CX k f fd ps sp) (hr : Room k X.A) (hb : Binds X.K fd ps ds) (hd : Vals dvs ds) (hx : Passes CX X E)
    (ht : eval (.Call (.Attribute o m apos) [] [] pos) X.env = (do
      let ov ← eval o X.env
      standAt apos.atName
      let (f, first) ← holding [ov] (getMethod ov m pl)
      callWith pos f first (backTo pos (starEach [] X.env)) (backToKw pos (keywordEach [] X.env))) := by rfl) :
    PE X (.Call (.Attribute o m apos) [] [] pos) (tMeth C m sp dvs E ta tNil) := by
  intro pins s σ H Q I h
  refine PySem.W.methodCall_KW (pl := pl) (thn (he pins s σ H _ I h) fun u s1 ⟨x, H1, I1, rx, a, dx, fs, ex, ea, l, q⟩ => ?_) ht
  subst ex
  obtain rfl : u = Value.ref a := rx
  refine getmeth_ok I1 ea c hm l ?_
  exact PySem.W.callWith_K0 (first := [.ref a]) I1.kIn hm.kp (run_fn (us := [.ref a]) (vs := [.ref a]) F hr hb hd hx I1 (.cons rfl .nil) q)

/-- what a class must have to be made -/
structure Mk (K : PySem.W.Frag) (C f : Addr) : Prop where
  makes : PySem.W.makesIn K C = true
  init : PySem.W.findIn K (.ref C) "__init__" = some (some (.ref f))
  fn : PySem.W.isFn K (.ref f) = true
  kp : PySem.W.keepIn K (.ref C) = true

theorem run_make {pins : List (Addr × Obj)} {σ : St} {H : Hp} {s : Shared} {Q : VK} {us : List Value} {vs : List V} (M : Mk X.K C f) (F : FnOk X.prog X.w X.K X.mg X.base CX k f fd ps sp) (hr : Room (k + 1) X.A) (hb : Binds X.K fd ps ds) (hd : Vals dvs ds)
    (hx : Passes CX X E) (I : Inv X pins σ H s) (r : Vals vs us)
    (h : ∀ x dx, H x = none → H dx = none → dx ≠ x → sp (.ref x :: (vs ++ dvs)) (upd (upd H dx (.own x)) x (.ins C dx [])) (fun v H2 => v = .non ∧ Q (.ref x) H2) E) :
    wpAny (model X.prog X.w) X.A (call (.ref C) us) (EP X pins σ Q) X.xe s := by
  have hq := h (s.heap.objs.size + 1) s.heap.objs.size (I.hok.fresh (Nat.le_succ _)) (I.hok.fresh (Nat.le_refl _)) (Nat.ne_of_lt (Nat.lt_succ_self _))
  have I2 := Inv.made (C := C) I
  have r2 : Vals (V.ref (s.heap.objs.size + 1) :: (vs ++ dvs)) (Value.ref (s.heap.objs.size + 1) :: (us ++ ds)) := .cons rfl (r.append hd)
  have hl : (Value.ref (s.heap.objs.size + 1) :: us ++ ds).length = ps.length := by
    have e := r2.length
    rw [F.len _ _ _ _ hq] at e
    exact e.symm
  refine wpAny_call (make_map (f := f) I.kIn M.makes M.init (beq_iff_eq.mp M.fn) (codeAny_mono (F.run _ X.stack _ _ ⟨Value.ref (s.heap.objs.size + 1) :: us, []⟩ (Value.ref (s.heap.objs.size + 1) :: (us ++ ds)) _ _ E (hr.make C us [])
    (I2.env0.make C us []) (hb _ (Value.ref (s.heap.objs.size + 1) :: us) I2.kIn hl) r2 hq) fun r s' hq' => ?_))
  cases r with
  | error e => exact hx pins σ _ _ e s' I2 hq'
  | ok fl =>
    cases fl with
    | ret u =>
      obtain ⟨v, H', I3, rv, ev, q3⟩ := I2.after hq'
      subst ev
      exact ⟨rv, ⟨V.ref (s.heap.objs.size + 1), H', I3, rfl, q3⟩⟩
    | next => exact False.elim hq'
    | brk => exact False.elim hq'
    | cont => exact False.elim hq'
theorem pe_make (M : Mk X.K C f) (F : FnOk X.prog X.w X.K X.mg X.base CX k f fd ps sp) (hr : Room (k + 1) X.A) (hg : Gl X x) (hm : X.mg x = some (.ref C)) (hb : Binds X.K fd ps ds) (hd : Vals dvs ds) (hx : Passes CX X E)
    (ha : PA X (e :: es) t) (hdb : (x == ("__debug__" : Str)) = false := by decide) (he : starEach (e :: es) X.env = (false, eval e X.env) :: starEach es X.env := by rfl) (hpl : (backTo pos (starEach es X.env)).any (·.1) = false := by rfl) :
    PE X (.Call (.Name x p) (e :: es) [] pos) (tMake C sp dvs E t) := by
  intro pins s σ H Q I h
  refine wpAny_Call_Name_kw (ld_glob I hg hm ?_ hdb)
  refine PySem.W.callWith_K (h₀ := X.base) I.ok.mod.kin M.kp (thn (ha pos pins s σ H _ I h) fun us s1 ⟨vs, H1, I1, r, q⟩ => ⟨I1.kIn, ?_⟩) he hpl
  exact run_make M F hr hb hd hx I1 r q
end

/-! ### keywords -/
/-- the values of the keywords, from the left -/
def PK (X : Cx) (kws : List Keyword) (t : TA) : Prop :=
  ∀ (pos : Pos) (pins : List (Addr × Obj)) (s : Shared) (σ : St) (H : Hp) (Q : List V → Hp → Prop), Inv X pins σ H s → t σ H Q → wpAny (model X.prog X.w) X.A (evalAll ((backToKw pos (keywordEach kws X.env)).map (·.2))) (AP X pins σ Q) X.xe s
section
variable {X : Cx} {CX : CXT} {k : Nat} {f C : Addr} {fd : FuncData} {ps ks : List Str} {sp : Sp} {E : XK} {x m : Str} {p pos apos kpos : Pos} {e o : Expr} {es : List Expr} {kws : List Keyword} {te ta : TE} {t tk : TA} {nm : Option Str}
/-- how a call with keywords binds: g puts the positional values us and the keywords' values ws (names ks) in the parameters' order, defaults among them -/
structure KBinds (K : PySem.W.Frag) (fd : FuncData) (ps ks : List Str) (g : List Value → List Value → List Value) (gV : List V → List V → List V) : Prop where
  to : ∀ (s : Shared) (us ws : List Value), K.In s.heap → (g us ws).length = ps.length → BindsTo s fd ⟨us, ks.zip ws⟩ (ps.zip (g us ws))
  rel : ∀ {vs : List V} {us : List Value} {zs : List V} {ws : List Value}, Vals vs us → Vals zs ws → Vals (gV vs zs) (g us ws)
def tCallK (sp : Sp) (gV : List V → List V → List V) (E : XK) (t tk : TA) : TE := fun σ H Q => t σ H fun vs H1 => tk σ H1 fun zs H2 => sp (gV vs zs) H2 Q E
variable {g : List Value → List Value → List Value} {gV : List V → List V → List V}
end

/-! ### a def's body keeps its promise -/
/-- names: the parameters first -/
structure FnScope (N P : List Str) (sc : Scope) : Prop where
  kind : sc.kind = .function
  co : sc.isCoroutine = false
  gen : sc.isGenerator = false
  nd : N.Nodup
  pre : N.take P.length = P
  par : ∀ x ∈ P, sc.names.lookup x = some .local ∨ sc.names.lookup x = some .cell
  nofree : ∀ y ∈ sc.names, y.2 ≠ .free

theorem bindL_out {kindOf : Str → Option NameKind} {x : Str} : ∀ {binds : List (Str × Value)} {m : Str → Option Value}, (∀ v, (x, v) ∉ binds) → bindL kindOf binds m x = m x
  | [], _, _ => rfl
  | (n, v) :: r, m, h => by
    unfold bindL
    rw [bindL_out fun w hw => h w (List.mem_cons_of_mem _ hw)]
    split
    · have : x ≠ n := by rintro rfl; exact h v List.mem_cons_self
      simp [this]
    · rfl
theorem bindC_out {kindOf : Str → Option NameKind} {x : Str} : ∀ {binds : List (Str × Value)} {m : Str → Option Value}, (∀ v, (x, v) ∉ binds) → bindC kindOf binds m x = m x
  | [], _, _ => rfl
  | (n, v) :: r, m, h => by
    unfold bindC
    rw [bindC_out fun w hw => h w (List.mem_cons_of_mem _ hw)]
    split
    · rfl
    · have : x ≠ n := by rintro rfl; exact h v List.mem_cons_self
      simp [this]
theorem bindL_get {kindOf : Str → Option NameKind} {x : Str} {v : Value} : ∀ {P : List Str} {vs : List Value} {i : Nat} {m : Str → Option Value}, P.Nodup → P[i]? = some x → vs[i]? = some v → kindOf x = some .local →
    bindL kindOf (P.zip vs) m x = some v
  | [], _, _, _, _, h, _, _ => by simp at h
  | _ :: _, [], _, _, _, _, h, _ => by simp at h
  | p :: P, w :: vs, 0, m, nd, h1, h2, hk => by
    simp at h1 h2; subst h1; subst h2
    show bindL kindOf ((p, w) :: P.zip vs) m p = _
    unfold bindL
    rw [bindL_out fun v hv => (List.nodup_cons.mp nd).1 (List.of_mem_zip hv).1, if_pos hk]
    simp
  | p :: P, w :: vs, i + 1, m, nd, h1, h2, hk => by
    show bindL kindOf ((p, w) :: P.zip vs) m x = _
    unfold bindL
    exact bindL_get (i := i) (List.nodup_cons.mp nd).2 (by simpa using h1) (by simpa using h2) hk
theorem bindC_get {kindOf : Str → Option NameKind} {x : Str} {v : Value} : ∀ {P : List Str} {vs : List Value} {i : Nat} {m : Str → Option Value}, P.Nodup → P[i]? = some x → vs[i]? = some v → kindOf x ≠ some .local →
    bindC kindOf (P.zip vs) m x = some v
  | [], _, _, _, _, h, _, _ => by simp at h
  | _ :: _, [], _, _, _, _, h, _ => by simp at h
  | p :: P, w :: vs, 0, m, nd, h1, h2, hk => by
    simp at h1 h2; subst h1; subst h2
    show bindC kindOf ((p, w) :: P.zip vs) m p = _
    unfold bindC
    rw [bindC_out fun v hv => (List.nodup_cons.mp nd).1 (List.of_mem_zip hv).1, if_neg hk]
    simp
  | p :: P, w :: vs, i + 1, m, nd, h1, h2, hk => by
    show bindC kindOf ((p, w) :: P.zip vs) m x = _
    unfold bindC
    exact bindC_get (i := i) (List.nodup_cons.mp nd).2 (by simpa using h1) (by simpa using h2) hk

/-- the names' values at the entry -/
def start (N : List Str) (vs : List V) : St := vs.map some ++ List.replicate (N.length - vs.length) none

/-- the context of a def's body, at its entry; an exception leaves the frame, then lies as CX says -/
def cxOf (CX : CXT) (P : Program) (w : World) (K : PySem.W.Frag) (mg : Str → Option Value) (base : Heap) (N : List Str) (qual : Str) (scope : Scope) (f : Addr) (cd : Value) (A : Around) (outer : List Env) (s : Shared) (H : Hp) (E : XK) : Cx where
  prog := P
  w := w
  K := K
  mg := mg
  base := base
  A := A.deeper (envOfC qual scope s.heap.objs.size f cd)
  N := N
  s₀ := s
  H₀ := H
  env := envOfC qual scope s.heap.objs.size f cd
  outer := outer
  stack := envOfC qual scope s.heap.objs.size f cd :: outer
  ex := []
  calm := true
  fn := fun _ => true
  pn := []
  xe := fun e s' => wpAny (model P w) (A.deeper (envOfC qual scope s.heap.objs.size f cd)) (leaving (envOfC qual scope s.heap.objs.size f cd) e) (fun _ s'' => CX outer H s E e s'') (fun e' s'' => CX outer H s E e' s'') s'

theorem cell_has {sc : Scope} {n : Nat} {x : Str} (h : sc.names.lookup x = some .cell) : ∃ c, (cellsFrom n sc.names []).lookup x = some c := by
  have q := PySem.W.cellsFrom_some sc.names n [] (.inl h)
  exact Option.isSome_iff_exists.mp q

theorem inv_start {CX : CXT} {P : Program} {w : World} {K : PySem.W.Frag} {mg : Str → Option Value} {base : Heap} {N ps : List Str} {qual : Str} {scope : Scope} {f : Addr} {cd : Value} {A : Around} {outer : List Env} {s s1 : Shared} {H : Hp} {E : XK} {us : List Value} {vs : List V}
    (S : FnScope N ps scope) (hd : A.handled = none) (e0 : Env0 P w K mg base A outer s H) (hl : vs.length = ps.length) (r : Vals vs us)
    (x : InCallC s s.heap.objs.size (bindL (envOfC qual scope s.heap.objs.size f cd).kindOf (ps.zip us) fun _ => none) (cellsFrom (s.heap.objs.size + 1) scope.names []) (bindC (envOfC qual scope s.heap.objs.size f cd).kindOf (ps.zip us) fun _ => none) s1) :
    Inv (cxOf CX P w K mg base N qual scope f cd A outer s H E) [] (start N vs) H s1 := by
  have hpl : ps.length ≤ N.length := by have := congrArg List.length S.pre; rw [List.length_take] at this; omega
  obtain ⟨h1, tk, rfl, hk⟩ := x.done
  have noA : ∀ b : Addr, b ∉ (cxOf CX P w K mg base N qual scope f cd A outer s H E).ex := fun b z => absurd (show b ∈ ([] : List Addr) from z) (by simp)
  refine ⟨⟨e0.mod, S.kind, rfl, rfl, Nat.le_refl _, fun y z c h1 h2 => ?_, fun y hy => ?_, fun y c _ h => ?_, fun _ => hd, Around.frames_deeper e0.frames, .inr ⟨rfl, rfl⟩, fun b z => absurd z (noA b), e0.bs, e0.bsz, fun b _ _ => noA b, fun b z => absurd z (noA b), e0.funs, e0.frf⟩,
    rfl, e0.bare, Un.kept hk, ⟨_, x.toInCall.ns, fun i y v h1 h2 h3 => ?_⟩, fun y c h => ⟨_, x.cell y c h⟩, e0.hok.fresh (Nat.le_refl _), fun y c h => ?_, fun p hp => absurd (show p ∈ ([] : List (Addr × Obj)) from hp) (by simp), e0.hok.kept hk, ?_⟩
  · exact name_of_addr x.apart (PySem.mem_of_lookup h1) (PySem.mem_of_lookup h2)
  · have hy : scope.names.lookup y = some .cell ∨ scope.names.lookup y = some .free := hy
    rcases hy with hy | hy
    · exact cell_has hy
    · exact absurd rfl (S.nofree _ (PySem.mem_of_lookup hy))
  · exact Nat.le_of_lt (x.above y c (PySem.mem_of_lookup h))
  · have hi : i < vs.length := by
      unfold start at h2
      by_cases hi : i < vs.length
      · exact hi
      · rw [List.getElem?_append_right (by simpa using hi)] at h2
        rw [List.getElem?_replicate] at h2
        split at h2 <;> cases h2
    have ha : vs[i]? = some v := by
      unfold start at h2
      rw [List.getElem?_append_left (by simpa using hi), List.getElem?_map] at h2
      cases e : vs[i]? with
      | none => rw [e] at h2; cases h2
      | some a => rw [e] at h2; cases h2; rfl
    obtain ⟨u, hu, rv⟩ := r.get ha
    have hp : ps[i]? = some y := by
      rw [← S.pre, List.getElem?_take_of_lt (by omega)]; exact h1
    have ndP : ps.Nodup := by rw [← S.pre]; exact S.nd.sublist (List.take_sublist _ _)
    refine ⟨u, rv, ?_⟩
    rcases S.par y (List.mem_of_getElem? hp) with k | k
    · exact .inl ⟨k, bindL_get ndP hp hu k⟩
    · obtain ⟨c, e⟩ := cell_has (n := s.heap.objs.size + 1) k
      refine .inr ⟨.inl k, c, e, ?_⟩
      have q := x.cell y c e
      rw [bindC_get ndP hp hu (by show scope.names.lookup y ≠ _; rw [k]; decide)] at q
      exact q
  · exact e0.hok.fresh (Nat.le_of_lt (x.above y c (PySem.mem_of_lookup h)))
  · unfold start
    show _ = N.length
    rw [List.length_append, List.length_map, List.length_replicate]
    omega

/-- THE RULE: a def (or a method) of the text, by its body. The body's reading t is chosen for each entry; it is run at the parameters' values -/
theorem fn_of {CX : CXT} {P : Program} {w : World} {K : PySem.W.Frag} {mg : Str → Option Value} {base : Heap} {k : Nat} {f : Addr} {name qual : Str} {params : Arguments} {body : List Stmt} {scope : Scope} {dV kV doc pm cdv ct oc : Value} {an od : Option Addr}
    {osl : Array (Option Value)} {N ps : List Str} {sp : Sp} (lk : K.lookup f = some ⟨oc, od, .func (PySem.W.fnOf name qual params body scope dV kV doc pm an cdv ct), osl⟩) (hcd : PySem.W.codeIn K cdv qual = true) (S : FnScope N ps scope)
    (len : ∀ vs H Q E, sp vs H Q E → vs.length = ps.length)
    (hbody : ∀ (A : Around) (outer : List Env) (s : Shared) (H : Hp) (vs : List V) (Q : VK) (E : XK), Room k (A.deeper (envOfC qual scope s.heap.objs.size f cdv)) → sp vs H Q E →
      ∃ t, PSs (cxOf CX P w K mg base N qual scope f cdv A outer s H E) body t ∧ t { nx := fun _ H' => Q .non H', rt := Q } (start N vs) H) :
    FnOk P w K mg base CX (k + 1) f (PySem.W.fnOf name qual params body scope dV kV doc pm an cdv ct) ps sp := by
  refine ⟨len, fun A outer s H args us vs Q E hr e0 hb r hsp => ?_⟩
  have hl := len _ _ _ _ hsp
  have KX : K.In s.heap := e0.mod.kin.keeps fun b o e => (e0.bs b o e).1
  have lim : s.heap.NoLimit := e0.mod.nolimit.keeps fun b o e => (e0.bs b o e).1
  have hkind : ∀ y ∈ ps.zip us, scope.names.lookup y.1 = some .local ∨ (scope.names.lookup y.1 = some .cell ∧ ((cellsFrom (s.heap.objs.size + 1) scope.names []).lookup y.1).isSome = true) := fun ⟨n, v⟩ hy => by
    rcases S.par n (List.of_mem_zip hy).1 with q | q
    · exact .inl q
    · exact .inr ⟨q, PySem.W.cellsFrom_some _ _ _ (.inl q)⟩
  refine codeAny_call_function hr.depth (KX _ _ lk) rfl S.co S.gen rfl (PySem.W.codeRec_of KX hcd) (hb _ _ _ _ ?_)
  refine wpAny_newFunctionEnv_cells S.kind hkind fun env he s1 x => ?_
  subst he
  refine ⟨lim.keeps x.toInCall.keep, codeAny_func ?_⟩
  obtain ⟨t, ht, hq⟩ := hbody A outer s H vs Q E (hr.deeper _) hsp
  have I : Inv (cxOf CX P w K mg base N qual scope f cdv A outer s H E) [] (start N vs) H s1 := inv_start S hr.hd e0 hl r x
  refine wpAny_mono (ht [] s1 (start N vs) H _ I hq) (fun fl s' hs => ?_) fun e s' hs => hs
  have fin : ∀ {σ' : St} {H' : Hp} {v : V} {u : Value}, Inv (cxOf CX P w K mg base N qual scope f cdv A outer s H E) [] σ' H' s' → RelV v u → Q v H' → CE outer P w H s Q u s' :=
    fun {σ' H' v u} J rv q => ⟨v, H', J.os, J.bare, J.base, J.hok, rv, q⟩
  cases fl with
  | ret u =>
    obtain ⟨v, σ', H', J, rv, q⟩ := hs
    exact fin J rv q
  | next =>
    obtain ⟨σ', H', J, q⟩ := hs
    exact fin (v := V.non) (u := Value.none) J rfl q
  | brk =>
    obtain ⟨_, _, _, q⟩ := hs
    exact False.elim q
  | cont =>
    obtain ⟨_, _, _, q⟩ := hs
    exact False.elim q
end L2

namespace L2
open PySem PySem.Spec PyProof.Rows
section
variable {X : Cx} {x : Str} {p pos : Pos} {e : Expr} {es : List Expr} {t : TA} {id T : String} {r : List V → Hp → VK → Prop}

def tCB (r : List V → Hp → VK → Prop) (t : TA) : TE := fun σ H Q => t σ H fun vs H1 => r vs H1 Q
/-- f(e, ..), f a built-in function -/
theorem pe_callB (hc : CallR X (.builtin id) r) (hg : Gl X x) (hm : X.mg x = none) (hv : bootBuiltins x = some (.builtin id)) (ha : PA X (e :: es) t) (hn : x ≠ "__name__" := by decide) (hdb : (x == ("__debug__" : Str)) = false := by decide)
    (he : starEach (e :: es) X.env = (false, eval e X.env) :: starEach es X.env := by rfl) (hpl : (backTo pos (starEach es X.env)).any (·.1) = false := by rfl) : PE X (.Call (.Name x p) (e :: es) [] pos) (tCB r t) := by
  intro pins s σ H Q I h
  refine wpAny_Call_Name_kw (ld_blt I hg hm hv ?_ hn hdb)
  exact PyProof.Rows.callWith_builtin1 (thn (ha pos pins s σ H _ I h) fun us s1 ⟨vs, H1, I1, r1, q1⟩ => hc pins s1 σ H1 vs us Q I1 r1 q1) he hpl
end
end L2

namespace HT
open PySem PyProof.Rows

/-- t < u of tuples of ints -/
def lexLt : List Int → List Int → Bool
  | [], [] => false
  | [], _ :: _ => true
  | _ :: _, [] => false
  | x :: xs, y :: ys => if x = y then lexLt xs ys else decide (x < y)
theorem lexLt_cons (x y : Int) (xs ys : List Int) : lexLt (x :: xs) (y :: ys) = if x = y then lexLt xs ys else decide (x < y) := rfl
theorem lexLt_nil_nil : lexLt [] [] = false := rfl
theorem lexLt_nil_cons (y : Int) (ys : List Int) : lexLt [] (y :: ys) = true := rfl
theorem lexLt_cons_nil (x : Int) (xs : List Int) : lexLt (x :: xs) [] = false := rfl

theorem eqAt_int (A : Around) (s : Shared) (a : Int) (t : Tok) (c : Int) (u : Tok) : ∃ e, SeqAt.EqAt A s (.int a t) (.int c u) e ∧ (e = true ↔ a = c) :=
  ⟨(a == c), SeqAt.EqAt.int_int a t c u, by simp⟩
section
open PySem.SeqAt
open PySem.AutoSeq1 (wpAny_loadPart')
open PySem.MeetsSeq PySem.MeetsSeq2 PySem.MeetsSeq3

end

section
variable {prog : Program} {w : World} {A : Around} {E : Value → Shared → Prop} {s : Shared}

/-! ### t[a:b], not the whole -/
/-- a slice's bound as a place among n (d where it is left out) -/
def sIx (n d : Nat) : Option Int → Nat
  | none => d
  | some v => if v < 0 then (v + (n : Int)).toNat else min v.toNat n
theorem sIx_none (n d : Nat) : sIx n d none = d := rfl
theorem sIx_nat (n d k : Nat) : sIx n d (some (k : Int)) = min k n := by
  show (if (k : Int) < 0 then ((k : Int) + (n : Int)).toNat else min (k : Int).toNat n) = min k n
  rw [if_neg (by omega), Int.toNat_natCast]
end
end HT

namespace L2
open PySem PySem.Spec PyProof.Rows

/-! ### the parts of a slice -/
abbrev TO := St → Hp → (Option Int → Hp → Prop) → Prop
/-- a slice's part (left out, or an int) -/
def PO (X : Cx) (e : Option Expr) (t : TO) : Prop :=
  ∀ (pins : List (Addr × Obj)) (s : Shared) (σ : St) (H : Hp) (Q : Option Int → Hp → Prop), Inv X pins σ H s → t σ H Q →
    wpAny (model X.prog X.w) X.A (evalPart e X.env) (fun u s' => ∃ o H', Inv X pins σ H' s' ∧ IsPart u o ∧ Q o H') X.xe s
def tNoPart : TO := fun _ H Q => Q none H
def tPart (t : TE) : TO := fun σ H Q => t σ H fun x H1 => ∃ i, x = .int i ∧ Q (some i) H1

theorem intsAre_of {ns : List Int} : ∀ {us : List Value}, Vals (ns.map V.int) us → IntsAre us ns := by
  induction ns with
  | nil => intro us r; rw [List.map_nil] at r; cases r; exact .nil
  | cons n ns ih =>
    intro us r
    rw [List.map_cons] at r
    cases r with
    | cons r1 r2 =>
      obtain ⟨t, e⟩ := r1
      subst e
      exact .cons n t (ih r2)

section
variable {X : Cx} {e : Expr} {te : TE} {lo hi : Option Expr} {tl th : TO} {pos p2 : Pos}

theorem po_none : PO X none tNoPart := by
  intro pins s σ H Q I h
  rw [evalPart_none]
  exact wpAny_pure ⟨none, H, I, .none, h⟩
theorem po_some (h : PE X e te) : PO X (some e) (tPart te) := by
  intro pins s σ H Q I hw
  rw [evalPart_some]
  refine thn (h pins s σ H _ I hw) fun u s1 ⟨x, H1, I1, r1, q1⟩ => ?_
  obtain ⟨i, rfl, q⟩ := q1
  obtain ⟨t, rfl⟩ := r1
  exact ⟨some i, H1, I1, .int i t, q⟩

/-- what a slice of a value is, by values: the slice object stands at sl -/
def SlR (X : Cx) (r : V → Option Int → Option Int → Hp → VK → Prop) : Prop :=
  ∀ (pins : List (Addr × Obj)) (s : Shared) (σ : St) (H : Hp) (x : V) (v vl vu : Value) (lo hi : Option Int) (sl : Addr) (Q : VK), Inv X pins σ H s → RelV x v → s.heap.IsSliceOf sl vl vu .none → IsPart vl lo → IsPart vu hi → r x lo hi H Q →
    ∃ T id, typeLookup (.type T) "__getitem__" = pure (some (.builtin id)) ∧ s.TypeIs v T ∧ wpAny (model X.prog X.w) X.A (getItem v (.ref sl)) (EP X pins σ Q) X.xe s
def tSl (r : V → Option Int → Option Int → Hp → VK → Prop) (te : TE) (tl th : TO) : TE := fun σ H Q => te σ H fun x H1 => tl σ H1 fun l H2 => th σ H2 fun u H3 => r x l u H3 Q
/-- a[lo:hi], any a -/
theorem pe_slice {r : V → Option Int → Option Int → Hp → VK → Prop} (hr : SlR X r) (he : PE X e te) (hl : PO X lo tl) (hu : PO X hi th) : PE X (.Subscript e (.Slice lo hi none p2) pos) (tSl r te tl th) := by
  intro pins s σ H Q I h
  refine Subscript_ (thn (he pins s σ H _ I h) fun v s1 ⟨x, H1, I1, r1, q1⟩ => ?_)
  refine wpAny_Slice (thn (hl pins s1 σ H1 _ I1 q1) fun vl s2 ⟨l, H2, I2, pl, q2⟩ => thn (hu pins s2 σ H2 _ I2 q2) fun vu s3 ⟨u, H3, I3, pu, q3⟩ => ?_)
  rw [evalPart_none]
  refine wpAny_pure ?_
  have I4 : Inv X pins σ H3 { s3 with heap := s3.heap.push { cls := .type "slice", data := .fields #[vl, vu, .none] } } := I3.kept (t' := s3.toks) fun b ob q => Heap.get?_push_of_some _ q
  obtain ⟨T, id, hT, ht, hg⟩ := hr pins { s3 with heap := s3.heap.push { cls := .type "slice", data := .fields #[vl, vu, .none] } } σ H3 x v vl vu l u s3.heap.objs.size Q I4 r1 (Heap.IsSliceOf.new ..) pl pu q3
  show wpAny (model X.prog X.w) X.A (subscriptTail e (.Slice lo hi none p2) v (.ref s3.heap.objs.size)) (EP X pins σ Q) X.xe { s3 with heap := s3.heap.push { cls := .type "slice", data := .fields #[vl, vu, .none] } }
  exact tail_any (ops := [.ref s3.heap.objs.size, v]) ht hT hg (by with_unfolding_all rfl)

/-- the items of xs[lo:hi] -/
def cutV (xs : List V) (lo hi : Option Int) : List V := (xs.drop (HT.sIx xs.length 0 lo)).take (HT.sIx xs.length xs.length hi - HT.sIx xs.length 0 lo)
theorem cutV_length (xs : List V) (lo hi : Option Int) : (cutV xs lo hi).length ≤ xs.length := by
  unfold cutV
  rw [List.length_take, List.length_drop]
  omega
/-- t[lo:hi], not the whole of it (the whole would be t itself) -/
def rSlT (K : PySem.W.Frag) : V → Option Int → Option Int → Hp → VK → Prop := fun x lo hi H Q => ∃ a xs, x = .ref a ∧ SqT K H a xs ∧
  ¬ (HT.sIx xs.length 0 lo = 0 ∧ HT.sIx xs.length xs.length hi = xs.length) ∧ ∀ p, H p = none → Q (.ref p) (upd H p (.tup (cutV xs lo hi)))
/-! ### t < u, t + u -/
def rLtT (K : PySem.W.Frag) : R2 := fun x y H Q => ∃ a b ns ms, x = .ref a ∧ y = .ref b ∧ SqT K H a (ns.map V.int) ∧ SqT K H b (ms.map V.int) ∧ Q (.bl (HT.lexLt ns ms)) H
/-- t + u, t not empty: u empty gives t itself -/
def rCatT (K : PySem.W.Frag) : R2 := fun x y H Q => ∃ a b xs ys, x = .ref a ∧ y = .ref b ∧ SqT K H a xs ∧ SqT K H b ys ∧ xs ≠ [] ∧ xs.length + ys.length ≤ sizeLine ∧
  (ys = [] → Q (.ref a) H) ∧ (ys ≠ [] → ∀ p, H p = none → Q (.ref p) (upd H p (.tup (xs ++ ys))))
end
end L2

namespace L2
open PySem PySem.Spec PyProof.Rows

/-! ### places -/
/-- the place that an index of any sign means -/
def ixN (n : Nat) (i : Int) : Option Nat := if 0 ≤ i then (if i < n then some i.toNat else none) else if -(n : Int) ≤ i then some (i + n).toNat else none
def atI {α : Type} (xs : List α) (i : Int) : Option α := (ixN xs.length i).bind fun j => xs[j]?
theorem ixN_seq {n : Nat} {i : Int} {j : Nat} (h : ixN n i = some j) : seqIndex? i n = some j ∧ j < n ∧ -(n : Int) ≤ i ∧ i < n := by
  unfold ixN at h
  by_cases h0 : 0 ≤ i
  · rw [if_pos h0] at h
    by_cases h1 : i < n
    · rw [if_pos h1] at h
      have e : i.toNat = j := Option.some.inj h
      exact ⟨by rw [seqIndex_of h0 h1, e], by omega, by omega, h1⟩
    · rw [if_neg h1] at h; cases h
  · rw [if_neg h0] at h
    by_cases h1 : -(n : Int) ≤ i
    · rw [if_pos h1] at h
      have e : (i + n).toNat = j := Option.some.inj h
      exact ⟨by rw [seqIndex_neg (by omega) h1, e], by omega, h1, by omega⟩
    · rw [if_neg h1] at h; cases h
theorem atI_get {α : Type} {xs : List α} {i : Int} {v : α} (h : atI xs i = some v) : ∃ j, seqIndex? i xs.length = some j ∧ xs[j]? = some v ∧ j < xs.length ∧ -(xs.length : Int) ≤ i ∧ i < xs.length := by
  unfold atI at h
  cases e : ixN xs.length i with
  | none => rw [e] at h; cases h
  | some j =>
    rw [e] at h
    obtain ⟨h1, h2, h3, h4⟩ := ixN_seq e
    exact ⟨j, h1, h, h2, h3, h4⟩
theorem atI_nat {α : Type} {xs : List α} {j : Nat} {v : α} (h : xs[j]? = some v) : atI xs (j : Int) = some v := by
  have hj : j < xs.length := (List.getElem?_eq_some_iff.mp h).1
  have e : ixN xs.length (j : Int) = some j := by
    unfold ixN
    rw [if_pos (by omega), if_pos (by omega)]; simp
  unfold atI; rw [e]; exact h
/-! ### what may be subscripted -/
/-- what stands as an index of a plain subscript -/
def PlainIx (b : Expr) : Prop := ∀ o i, subscripted b false o i = operate [o, i] (getItem o i)
/-- a subscript by values -/
def IxR (X : Cx) (r : R2) : Prop :=
  ∀ (value slice : Expr) (pins : List (Addr × Obj)) (s : Shared) (σ : St) (H : Hp) (x y : V) (v u : Value) (Q : VK), Inv X pins σ H s → RelV x v → RelV y u → r x y H Q →
    subscripted slice false v u = operate [v, u] (getItem v u) → wpAny (model X.prog X.w) X.A (subscriptTail value slice v u) (EP X pins σ Q) X.xe s
/-- a call of a builtin's method by values: the receiver, the arguments -/
def MtR (X : Cx) (id : String) (r : V → List V → Hp → VK → Prop) : Prop :=
  ∀ (pins : List (Addr × Obj)) (s : Shared) (σ : St) (H : Hp) (x : V) (xs : List V) (v : Value) (us : List Value) (Q : VK), Inv X pins σ H s → RelV x v → Vals xs us → r x xs H Q →
    wpAny (model X.prog X.w) X.A (call (.builtin id) (v :: us)) (EP X pins σ Q) X.xe s
section
variable {X : Cx} {a b : Expr} {ta tb : TE} {pos : Pos}
/-- a[b] -/
theorem pe_ix {r : R2} (hr : IxR X r) (ha : PE X a ta) (hb : PE X b tb) (hs : PlainIx b) : PE X (.Subscript a b pos) (tOp r ta tb) := by
  intro pins s σ H Q I h
  exact Subscript_ (binT ha hb I h fun v u s2 x y H2 I2 rx ry q => hr a b pins s2 σ H2 x y v u Q I2 rx ry q (hs _ _))

def rIxL (K : PySem.W.Frag) : R2 := fun x y H Q => ∃ p xs i v, x = .ref p ∧ y = .int i ∧ SqL K H p xs ∧ atI xs i = some v ∧ Q v H
def rIxT (K : PySem.W.Frag) : R2 := fun x y H Q => ∃ p xs i v, x = .ref p ∧ y = .int i ∧ SqT K H p xs ∧ atI xs i = some v ∧ Q v H
def rIxS : R2 := fun x y H Q => ∃ z i c, x = .str z ∧ y = .int i ∧ z.length ≤ sizeLine ∧ atI z.cps.toList i = some c ∧ Q (.str ⟨#[c]⟩) H
theorem ix_list : IxR X (rIxL X.K) := by
  intro value slice pins s σ H x y v u Q I rx ry h hs
  obtain ⟨p, xs, i, z, rfl, rfl, hq, he, q⟩ := h
  cases rx
  obtain ⟨t, rfl⟩ := ry
  obtain ⟨its, r, pl, hz⟩ := I.list hq
  obtain ⟨j, h1, h2, h3, h4, h5⟩ := atI_get he
  obtain ⟨w, ew, rw'⟩ := r.get h2
  have hl := r.length
  have hn := line63
  have fin : EP X pins σ Q w s := ⟨z, H, I, rw', q⟩
  by_cases h0 : 0 ≤ i
  · have hj : i.toNat = j := by
      rw [seqIndex_of h0 h5] at h1
      exact Option.some.inj h1
    exact item_listR pl.isList h0 (by omega) (by rw [hj]; simpa using ew) fin hs
  · have hj : (i + (its.toArray.size : Int)).toNat = j := by
      rw [seqIndex_neg (by omega) h4] at h1
      rw [List.size_toArray, ← hl]
      exact Option.some.inj h1
    exact subscriptTail_builtinR (x := w) pl.isList.typeIs slot_list_getitem.lookup
      (wpAny_getItem_list_neg (Q := fun r s' => r = w ∧ EP X pins σ Q r s') pl.isList (by omega) (by rw [List.size_toArray] <;> omega) (by omega) (by rw [hj]; simpa using ew) ⟨rfl, fin⟩) hs
theorem ix_tup : IxR X (rIxT X.K) := by
  intro value slice pins s σ H x y v u Q I rx ry h hs
  obtain ⟨p, xs, i, z, rfl, rfl, hq, he, q⟩ := h
  cases rx
  obtain ⟨t, rfl⟩ := ry
  obtain ⟨its, r, pl, hz⟩ := I.tuple hq
  obtain ⟨j, h1, h2, h3, h4, h5⟩ := atI_get he
  obtain ⟨w, ew, rw'⟩ := r.get h2
  have hl := r.length
  have hn := line63
  have fin : EP X pins σ Q w s := ⟨z, H, I, rw', q⟩
  exact subscriptTail_builtinR (x := w) pl.typeIs slot_tuple_getitem.lookup
    (getItem_tuple (j := j) (Q := fun r s' => r = w ∧ EP X pins σ Q r s') pl (by omega) (by omega) (by rw [List.size_toArray, ← hl]; exact h1) (by simpa using ew) ⟨rfl, fin⟩) hs
theorem ix_str : IxR X rIxS := by
  intro value slice pins s σ H x y v u Q I rx ry h hs
  obtain ⟨z, i, c, rfl, rfl, hz, he, q⟩ := h
  obtain ⟨t, rfl⟩ := rx
  obtain ⟨t', rfl⟩ := ry
  obtain ⟨j, h1, h2, h3, h4, h5⟩ := atI_get he
  have hl : z.cps.toList.length = z.length := by simp [Str.length]
  rw [hl] at h1 h4 h5
  have hn := line63
  exact tail_any (typeIs_str s z t) slot_str_getitem.lookup (getItem_str (c := c) (by
    have e1 : decide (i < -(2 ^ 63 : Int)) = false := decide_eq_false (by omega)
    have e2 : decide (i ≥ 2 ^ 63) = false := decide_eq_false (by omega)
    rw [e1, e2, Bool.or_false]) (by rw [h1]; simpa using h2) ⟨.str ⟨#[c]⟩, H, I.tok _, ⟨_, rfl⟩, q⟩) hs
/-- list, tuple or str -/
def rIx (K : PySem.W.Frag) : R2 := fun x y H Q => rIxL K x y H Q ∨ rIxT K x y H Q ∨ rIxS x y H Q
/-! ### xs[i] = v, any sign -/
def rSetL : V → V → V → Hp → (Hp → Prop) → Prop := fun o i v H Q => ∃ p xs k j, o = .ref p ∧ i = .int k ∧ H p = some (.lst xs) ∧ ixN xs.length k = some j ∧ Q (upd H p (.lst (xs.set j v)))
/-! ### slices -/
theorem slice_bounds (lo hi : Option Int) (n : Nat) : (sliceBounds lo hi none n).1 = ((HT.sIx n 0 lo : Nat) : Int) ∧ (sliceBounds lo hi none n).2.1 = ((HT.sIx n n hi : Nat) : Int) ∧ (sliceBounds lo hi none n).2.2 = 1 := by
  refine ⟨?_, ?_, rfl⟩
  · cases lo with
    | none => simp [sliceBounds, HT.sIx]
    | some i =>
      simp only [sliceBounds, HT.sIx, Option.getD_none, show (1 : Int) > 0 by decide, if_true]
      by_cases h : i < 0
      · simp only [h, if_true] <;> omega
      · simp only [h, if_false] <;> omega
  · cases hi with
    | none => simp [sliceBounds, HT.sIx]
    | some i =>
      simp only [sliceBounds, HT.sIx, Option.getD_none, show (1 : Int) > 0 by decide, if_true]
      by_cases h : i < 0
      · simp only [h, if_true] <;> omega
      · simp only [h, if_false] <;> omega
theorem slicePick_cut (its : List Value) (lo hi : Option Int) : slicePick its.toArray lo hi none = ((its.drop (HT.sIx its.length 0 lo)).take (HT.sIx its.length its.length hi - HT.sIx its.length 0 lo)).toArray := by
  obtain ⟨h1, h2, h3⟩ := slice_bounds lo hi its.toArray.size
  unfold slicePick
  rw [h1, h2, h3]
  simp only [sliceRange_one, pick_run, List.size_toArray] <;> rfl
/-- xs[lo:hi] of a list: a new list -/
def rSlL (K : PySem.W.Frag) : V → Option Int → Option Int → Hp → VK → Prop := fun x lo hi H Q => ∃ a xs, x = .ref a ∧ SqL K H a xs ∧ ∀ p, H p = none → Q (.ref p) (upd H p (.lst (cutV xs lo hi)))
theorem sl_list : SlR X (rSlL X.K) := by
  intro pins s σ H x v vl vu lo hi sl Q I rx hs pl pu h
  obtain ⟨a, xs, rfl, hx, q⟩ := h
  cases rx
  obtain ⟨its, r, ht, hz⟩ := I.list hx
  have hlen := r.length
  refine ⟨"list", _, slot_list_getitem.lookup, ht.isList.typeIs, ?_⟩
  refine wpAny_getItem_list_slice ht.isList hs pl pu .none (by simp) ?_ (by rw [List.size_toArray] <;> omega)
  rw [slicePick_cut, ← hlen]
  refine ⟨.ref s.heap.objs.size, _, I.laid (t' := s.toks) (o := .lst (cutV xs lo hi)) (fun b ob q => Heap.get?_push_of_some _ q) (Nat.le_refl _) ?_, rfl, q _ (I.hok.fresh (Nat.le_refl _))⟩
  exact ⟨Nat.le_trans (cutV_length xs lo hi) hz, _, 0, (r.drop (HT.sIx xs.length 0 lo)).take (HT.sIx xs.length xs.length hi - HT.sIx xs.length 0 lo), Heap.get?_push_size _ rfl⟩

/-! ### in, not in: flat items -/
def flatV : V → Bool
  | .non => true
  | .bl _ => true
  | .int _ => true
  | .str _ => true
  | _ => false
/-- == of flat values -/
def eqV : V → V → Bool
  | .non, .non => true
  | .bl a, .bl b => a == b
  | .bl a, .int b => (if a then 1 else 0) == b
  | .int a, .bl b => a == (if b then 1 else 0)
  | .int a, .int b => a == b
  | .str a, .str b => a == b
  | _, _ => false
theorem eqAt_V {A : Around} {s : Shared} {y x : V} {u v : Value} (ry : RelV y u) (rx : RelV x v) (fy : flatV y = true) (fx : flatV x = true) : SeqAt.EqAt A s u v (eqV y x) := by
  cases y with
  | non =>
    cases ry
    cases x with
    | non => cases rx; exact SeqAt.EqAt.same _
    | bl b => cases rx; exact SeqAt.EqAt.none_bool b
    | int b => obtain ⟨t, rfl⟩ := rx; exact SeqAt.EqAt.none_int b t
    | str b => obtain ⟨t, rfl⟩ := rx; exact SeqAt.EqAt.none_str b t
    | _ => exact absurd (show false = true from fx) Bool.false_ne_true
  | bl a =>
    cases ry
    cases x with
    | non => cases rx; exact SeqAt.EqAt.bool_none a
    | bl b => cases rx; exact SeqAt.EqAt.bool_bool a b
    | int b => obtain ⟨t, rfl⟩ := rx; exact SeqAt.EqAt.bool_int a b t
    | str b => obtain ⟨t, rfl⟩ := rx; exact SeqAt.EqAt.bool_str a b t
    | _ => exact absurd (show false = true from fx) Bool.false_ne_true
  | int a =>
    obtain ⟨t', rfl⟩ := ry
    cases x with
    | non => cases rx; exact SeqAt.EqAt.int_none a t'
    | bl b => cases rx; exact SeqAt.EqAt.int_bool a t' b
    | int b => obtain ⟨t, rfl⟩ := rx; exact SeqAt.EqAt.int_int a t' b t
    | str b => obtain ⟨t, rfl⟩ := rx; exact SeqAt.EqAt.int_str a t' b t
    | _ => exact absurd (show false = true from fx) Bool.false_ne_true
  | str a =>
    obtain ⟨t', rfl⟩ := ry
    cases x with
    | non => cases rx; exact SeqAt.EqAt.str_none a t'
    | bl b => cases rx; exact SeqAt.EqAt.str_bool a t' b
    | int b => obtain ⟨t, rfl⟩ := rx; exact SeqAt.EqAt.str_int a t' b t
    | str b => obtain ⟨t, rfl⟩ := rx; exact SeqAt.EqAt.str_str a t' b t
    | _ => exact absurd (show false = true from fx) Bool.false_ne_true
  | _ => exact absurd (show false = true from fy) Bool.false_ne_true
/-- the items' answers, read off the values (a value's own answer does not lean on its token) -/
def eqU (x : V) (u : Value) : Bool := match u with
  | .none => eqV .non x
  | .bool b => eqV (.bl b) x
  | .int i _ => eqV (.int i) x
  | .str z _ => eqV (.str z) x
  | _ => false
theorem eqU_of {x y : V} {u : Value} (r : RelV y u) (f : flatV y = true) : eqU x u = eqV y x := by
  cases y with
  | non => cases r; rfl
  | bl b => cases r; rfl
  | int i => obtain ⟨t, rfl⟩ := r; rfl
  | str z => obtain ⟨t, rfl⟩ := r; rfl
  | _ => exact absurd (show false = true from f) Bool.false_ne_true
theorem any_eqU {x : V} : ∀ {xs : List V} {us : List Value}, Vals xs us → xs.all flatV = true → us.any (eqU x) = xs.any fun y => eqV y x
  | _, _, .nil, _ => rfl
  | y :: xs, u :: us, .cons r t, f => by
    rw [List.all_cons, Bool.and_eq_true] at f
    rw [List.any_cons, List.any_cons, eqU_of r f.1, any_eqU t f.2]
theorem mem_eqAt {A : Around} {s : Shared} {x : V} {v : Value} (rx : RelV x v) (fx : flatV x = true) : ∀ {xs : List V} {us : List Value}, Vals xs us → xs.all flatV = true → ∀ u ∈ us, SeqAt.EqAt A s u v (eqU x u)
  | _, _, .nil, _ => fun u hu => by cases hu
  | y :: xs, u :: us, .cons r t, f => fun u' hu => by
    rw [List.all_cons, Bool.and_eq_true] at f
    rcases List.mem_cons.mp hu with rfl | hu
    · rw [eqU_of r f.1]; exact eqAt_V r rx f.1 fx
    · exact mem_eqAt rx fx t f.2 u' hu
def inV (x : V) (xs : List V) : Bool := xs.any fun y => eqV y x
/-- x in a list or tuple of flat items -/
def rIn (K : PySem.W.Frag) (neg : Bool) : R2 := fun x y H Q => ∃ p xs, y = .ref p ∧ (SqL K H p xs ∨ SqT K H p xs) ∧ flatV x = true ∧ xs.all flatV = true ∧ Q (.bl (if neg then !inV x xs else inV x xs)) H
theorem op_in_seq : OpR X (compareOp .In) (rIn X.K false) := by
  intro pins s σ H x y v u Q I rx ry h
  obtain ⟨p, xs, rfl, hq, fx, fs, q⟩ := h
  cases ry
  rcases hq with hq | hq
  · obtain ⟨its, r, pl, hz⟩ := I.list hq
    refine SeqAt.in_listAt (eqU x) pl.isList (fun w hw => mem_eqAt rx fx r fs w (by simpa using hw)) ⟨.bl _, H, I, rfl, ?_⟩
    rw [show its.toArray.any (eqU x) = its.any (eqU x) by simp, any_eqU r fs]
    exact q
  · obtain ⟨its, r, pl, hz⟩ := I.tuple hq
    refine SeqAt.in_tupleAt (eqU x) pl (fun w hw => mem_eqAt rx fx r fs w (by simpa using hw)) ⟨.bl _, H, I, rfl, ?_⟩
    rw [show its.toArray.any (eqU x) = its.any (eqU x) by simp, any_eqU r fs]
    exact q
theorem op_notIn_seq : OpR X (compareOp .NotIn) (rIn X.K true) := by
  intro pins s σ H x y v u Q I rx ry h
  obtain ⟨p, xs, rfl, hq, fx, fs, q⟩ := h
  cases ry
  rcases hq with hq | hq
  · obtain ⟨its, r, pl, hz⟩ := I.list hq
    refine SeqAt.notIn_listAt (eqU x) pl.isList (fun w hw => mem_eqAt rx fx r fs w (by simpa using hw)) ⟨.bl _, H, I, rfl, ?_⟩
    rw [show its.toArray.any (eqU x) = its.any (eqU x) by simp, any_eqU r fs]
    exact q
  · obtain ⟨its, r, pl, hz⟩ := I.tuple hq
    refine SeqAt.notIn_tupleAt (eqU x) pl (fun w hw => mem_eqAt rx fx r fs w (by simpa using hw)) ⟨.bl _, H, I, rfl, ?_⟩
    rw [show its.toArray.any (eqU x) = its.any (eqU x) by simp, any_eqU r fs]
    exact q
/-! ### len, list(x), tuple(x) of any list or tuple that is read -/
theorem call_len_seq : CallR X (.builtin "len") (fun xs H Q => ∃ p ys, xs = [.ref p] ∧ (SqL X.K H p ys ∨ SqT X.K H p ys) ∧ Q (.int ys.length) H) := by
  intro pins s σ H xs us Q I r h
  obtain ⟨p, ys, rfl, hq, q⟩ := h
  obtain ⟨u, rfl, rx⟩ := vals1 r
  cases rx
  have hn := line63
  rcases hq with hq | hq
  · obtain ⟨its, r', pl, hz⟩ := I.list hq
    have hlen := r'.length
    exact Calls.call_len_list pl.isList (by simp only [List.size_toArray] <;> omega) ⟨.int ys.length, H, I.tok _, ⟨s.toks + 1, by rw [List.size_toArray, hlen]⟩, q⟩
  · obtain ⟨its, r', pl, hz⟩ := I.tuple hq
    have hlen := r'.length
    exact len_tuple pl (by simp only [List.size_toArray] <;> omega) ⟨.int ys.length, H, I.tok _, ⟨s.toks + 1, by rw [List.size_toArray, hlen]⟩, q⟩
theorem call_len_str : CallR X (.builtin "len") (fun xs H Q => ∃ z, xs = [.str z] ∧ z.length ≤ sizeLine ∧ Q (.int z.length) H) := by
  intro pins s σ H xs us Q I r h
  obtain ⟨z, rfl, hz, q⟩ := h
  obtain ⟨u, rfl, t, rfl⟩ := vals1 r
  have hn := line63
  exact len_str (by omega) ⟨.int z.length, H, I.tok _, ⟨_, rfl⟩, q⟩
/-! ### the call of a builtin's method: o.m(..) -/
/-- the value is of that builtin type -/
def tyV (K : PySem.W.Frag) (T : String) (x : V) (H : Hp) : Prop := match x with
  | .str _ => T = "str"
  | .int _ => T = "int"
  | .ref p => (T = "list" ∧ ∃ xs, SqL K H p xs) ∨ (T = "tuple" ∧ ∃ o, K.lookup p = some o ∧ o.cls = .type "tuple" ∧ o.dict = none) ∨
      (T = "dict" ∧ ((∃ kvs, H p = some (.dK kvs)) ∨ ∃ kvs, H p = some (.dT kvs))) ∨ (T = "set" ∧ ∃ S n, H p = some (.set S n))
  | _ => False
theorem tyV_is {pins : List (Addr × Obj)} {σ : St} {H : Hp} {s : Shared} {T : String} {x : V} {v : Value} (I : Inv X pins σ H s) (r : RelV x v) (ty : tyV X.K T x H) :
    s.TypeIs v T ∧ ∀ a, v = .ref a → ∃ ob, s.heap.get? a = some ob ∧ ob.dict = none := by
  cases x with
  | str z =>
    obtain ⟨t, rfl⟩ := r
    cases (show T = "str" from ty)
    exact ⟨typeIs_str s z t, fun _ e => nomatch e⟩
  | int i =>
    obtain ⟨t, rfl⟩ := r
    cases (show T = "int" from ty)
    exact ⟨typeIs_int s i t, fun _ e => nomatch e⟩
  | ref p =>
    cases r
    rcases ty with ⟨rfl, xs, hq⟩ | ⟨rfl, o, hk, hc, hd⟩ | ⟨rfl, hk⟩ | ⟨rfl, S, n, hk⟩
    · obtain ⟨its, _, pl, _⟩ := I.list hq
      refine ⟨pl.isList.typeIs, fun a e => ?_⟩
      cases e
      obtain ⟨o, n, e, c, hd, _⟩ := pl
      exact ⟨o, e, hd⟩
    · refine ⟨⟨o, I.kIn p o hk, hc⟩, fun a e => ?_⟩
      cases e
      exact ⟨o, I.kIn _ o hk, hd⟩
    · have z : ∃ o, s.heap.get? p = some o ∧ o.ExactDict := by
        rcases hk with ⟨kvs, hk⟩ | ⟨kvs, hk⟩
        · obtain ⟨_, _, _, _, o, _, _, e, ex, _⟩ := I.hok p _ hk
          exact ⟨o, e, ex⟩
        · obtain ⟨_, _, _, _, o, _, _, e, ex, _⟩ := I.hok p _ hk
          exact ⟨o, e, ex⟩
      obtain ⟨o, e, ex⟩ := z
      refine ⟨⟨o, e, ex.1⟩, fun a e2 => ?_⟩
      cases e2
      exact ⟨o, e, ex.2.1⟩
    · obtain ⟨o, _, _, _, e, ex, _⟩ := I.hok p _ hk
      refine ⟨⟨o, e, ex.1⟩, fun a e2 => ?_⟩
      cases e2
      exact ⟨o, e, ex.2.1⟩
  | _ => exact False.elim ty
def tBM0 (K : PySem.W.Frag) (T : String) (r : V → List V → Hp → VK → Prop) (to : TE) : TE := fun σ H Q => to σ H fun x H1 => tyV K T x H1 ∧ r x [] H1 Q
def tBM (K : PySem.W.Frag) (T : String) (r : V → List V → Hp → VK → Prop) (to : TE) (t : TA) : TE := fun σ H Q => to σ H fun x H1 => tyV K T x H1 ∧ t σ H1 fun xs H2 => r x xs H2 Q
variable {o e : Expr} {es : List Expr} {to : TE} {t : TA} {name : Str} {apos cpos : Pos} {T id : String} {r : V → List V → Hp → VK → Prop}
theorem pe_bm (pa : PlainAttrs T) (slot : Slot T name id) (hty : typeOf (.builtin id) = pure (.type "method_descriptor")) (hm : MtR X id r) (ho : PE X o to) (ha : PA X (e :: es) t)
    (hbase : attributeBase o name X.env (eval o X.env) = eval o X.env := by rfl)
    (hfew : ((backTo cpos (starEach (e :: es) X.env)).all (fun x => !x.1) && (backToKw cpos (keywordEach [] X.env)).all (fun x => x.1.isSome)
      && decide ((e :: es).length + ([] : List Keyword).length + (if ([] : List Keyword).isEmpty then 0 else 1) < 30)) = true := by rfl)
    (hline : (apos.endLine == cpos.line) = true := by rfl) (hs : starEach (e :: es) X.env = (false, eval e X.env) :: starEach es X.env := by rfl) (hplain : (backTo cpos (starEach es X.env)).any (·.1) = false := by rfl) :
    PE X (.Call (.Attribute o name apos) (e :: es) [] cpos) (tBM X.K T r to t) := by
  intro pins s σ H Q I h
  refine wpAny_Call_method_late hbase hfew hline rfl (thn (ho pins s σ H _ I h) fun v s1 ⟨x, H1, I1, r1, ty, q1⟩ => ?_)
  obtain ⟨h1, h2⟩ := tyV_is I1 r1 ty
  refine ⟨T, id, pa, slot, hty, h1, h2, ?_⟩
  have hA := ha cpos pins s1 σ H1 _ I1 q1
  rw [hs] at hA ⊢
  refine Calls.callWith_builtin (by show (false || (backTo cpos (starEach es X.env)).any (·.1)) = false; rw [hplain] <;> rfl) (Calls.evalArgs_plain ?_)
  exact thn hA fun us s2 ⟨vs, H2, I2, r2, q2⟩ => hm pins s2 σ H2 x vs v us Q I2 r1 r2 q2
/- xs.append(e), list.index on a module's tuple .. are MtR facts of 06m -/
end
end L2

namespace L2
open PySem PySem.Spec PyProof.Rows

def MtM (X : Cx) (id : String) (r : V → List V → Hp → VK → Prop) : Prop :=
  ∀ (pins : List (Addr × Obj)) (s : Shared) (σ : St) (H : Hp) (x : V) (xs : List V) (v : Value) (us : List Value) (Q : VK), Inv X pins σ H s → RelV x v → Vals xs us → r x xs H Q →
    wpAny (model X.prog X.w) X.A (call (.builtin id) (v :: us)) (EP X pins σ Q) X.xe s

/-! ### lists of values -/
theorem Vals.one : ∀ {x : V} {us : List Value}, Vals [x] us → ∃ u, us = [u] ∧ RelV x u
  | _, _, .cons r .nil => ⟨_, rfl, r⟩
section
variable {X : Cx} {pins : List (Addr × Obj)} {σ : St} {H : Hp} {s : Shared} {l b : Addr} {xs ys zs : List V}

/-! ### the two steps: a tracked list is rewritten, a new list is laid -/
theorem Inv.lset {its its' : List Value} {n : Nat} {f : Array Value → Array Value} {t' : Nat} (I : Inv X pins σ H s) (hH : H l = some (.lst xs))
    (e : s.heap.get? l = some { cls := .type "list", data := .seq its.toArray n }) (hf : f its.toArray = its'.toArray) (hv : Vals ys its') (hz : ys.length ≤ sizeLine) :
    Inv X pins σ (upd H l (.lst ys)) { s with heap := s.heap.update l (Obj.mapSeq f), toks := t' } := by
  have q := PySem.IsL.update e f
  rw [hf] at q
  refine I.write (x := l) (e := l) (by rw [hH]; exact trivial) (.inl rfl) (fun b' u hb hu => (Heap.get?_update_other s.heap (Obj.mapSeq f) (Ne.symm hb)).trans hu) ⟨_, q⟩ ?_
  exact ⟨hz, its', _, hv, q⟩
theorem Inv.fresh (I : Inv X pins σ H s) : H s.heap.objs.size = none := I.hok.fresh (Nat.le_refl _)
theorem Inv.lstM (I : Inv X pins σ H s) (hH : H l = some (.lst xs)) : xs.length ≤ sizeLine ∧ ∃ (its : List Value) (n : Nat), Vals xs its ∧ xs.length = its.length ∧ s.heap.get? l = some { cls := .type "list", data := .seq its.toArray n } := by
  obtain ⟨z, its, n, r, e⟩ := I.hok l _ hH
  exact ⟨z, its, n, r, r.length, e⟩

end

section
variable {X : Cx}

/-! ### methods -/
def rAppend : V → List V → Hp → VK → Prop := fun x vs H Q => ∃ l xs y, x = .ref l ∧ vs = [y] ∧ H l = some (.lst xs) ∧ xs.length < sizeLine ∧ Q .non (upd H l (.lst (xs ++ [y])))
theorem mt_append : MtM X "list.append" rAppend := by
  intro pins s σ H x vs v us Q I rx rv h
  obtain ⟨l, xs, y, rfl, rfl, hH, hz, q⟩ := h
  cases rx
  obtain ⟨u, rfl, ru⟩ := rv.one
  obtain ⟨z, its, n, r, hl, e⟩ := I.lstM hH
  refine call_meets F.slot_list_append ⟨_, e, rfl⟩ F.entry_list_append (F.args_list_append_2 _ _) (PySem.list_append l its.toArray n u (by rw [List.size_toArray]; omega)) ⟨e, ?_⟩
  refine ⟨.non, _, I.lset (its' := its ++ [u]) hH e (by simp) (r.append (.cons ru .nil)) ?_, rfl, q⟩
  rw [List.length_append, List.length_singleton]
  omega

def rExtend : V → List V → Hp → VK → Prop := fun x vs H Q => ∃ l b xs zs, x = .ref l ∧ vs = [.ref b] ∧ H l = some (.lst xs) ∧ H b = some (.lst zs) ∧ xs.length + zs.length ≤ sizeLine ∧ Q .non (upd H l (.lst (xs ++ zs)))
def rPop : V → List V → Hp → VK → Prop := fun x vs H Q => ∃ l xs y, x = .ref l ∧ vs = [] ∧ H l = some (.lst xs) ∧ xs[xs.length - 1]? = some y ∧ Q y (upd H l (.lst xs.dropLast))
def rPopAt : V → List V → Hp → VK → Prop := fun x vs H Q => ∃ l xs i k y, x = .ref l ∧ vs = [.int i] ∧ H l = some (.lst xs) ∧ -(2 ^ 63) ≤ i ∧ i < 2 ^ 63 ∧ seqIndex? i xs.length = some k ∧ xs[k]? = some y ∧ Q y (upd H l (.lst (xs.eraseIdx k)))
def rReverse : V → List V → Hp → VK → Prop := fun x vs H Q => ∃ l xs, x = .ref l ∧ vs = [] ∧ H l = some (.lst xs) ∧ Q .non (upd H l (.lst xs.reverse))
def rClear : V → List V → Hp → VK → Prop := fun x vs H Q => ∃ l xs, x = .ref l ∧ vs = [] ∧ H l = some (.lst xs) ∧ Q .non (upd H l (.lst []))
/-! ### list + list, list += list, list * int -/
def rCat : R2 := fun x y H Q => ∃ l b xs zs, x = .ref l ∧ y = .ref b ∧ H l = some (.lst xs) ∧ H b = some (.lst zs) ∧ xs.length + zs.length ≤ sizeLine ∧ ∀ p, H p = none → Q (.ref p) (upd H p (.lst (xs ++ zs)))
/-- a list times an int (a negative one is nothing) -/
def rRep : R2 := fun x y H Q => ∃ l k xs, x = .ref l ∧ y = .int k ∧ H l = some (.lst xs) ∧ -(2 ^ 63) ≤ k ∧ k < 2 ^ 63 ∧ xs.length * k.toNat ≤ sizeLine ∧
  ∀ p, H p = none → Q (.ref p) (upd H p (.lst (List.replicate k.toNat xs).flatten))
/-! ### del xs[i] -/
end

/-! ### xs[a:b] = ys -/
section
variable {prog : Program} {w : World} {A : Around} {E : Value → Shared → Prop} {s : Shared}
end

section
variable {X : Cx}
end
end L2

namespace Att
open PySem PySem.W PySem.Calls PyProof.Rows

/-! ### the script -/
theorem ints_of_wellAll {P : Params} {h : Heap} : ∀ (ns : List Int) (vs : List Value), WellAll P h vs (ns.map WData.int) → IntsAre vs ns := by
  intro ns
  induction ns with
  | nil =>
    intro vs w
    rw [List.map_nil] at w
    cases w
    exact .nil
  | cons n ns ih =>
    intro vs w
    rw [List.map_cons] at w
    cases w with
    | cons a b =>
      cases a
      exact .cons _ _ (ih _ b)

theorem script_of {l : OpenLaw} {n : Nat} (hn : l.most = some n) {P : Params} {h : Heap} {args : List WData} {vals : List Value}
    (hpre : l.row.toRowW.claim.pre args = true) (hwl : WellAll P h vals args) :
    ∃ a vs ns, vals = [Value.ref a] ∧ args = [WData.list (ns.map WData.int)] ∧ h.get? a = some { cls := .type "list", data := .seq vs.toArray } ∧ IntsAre vs ns ∧ ns.length ≤ n := by
  have hsh : WShape.hasAll [] args [.list .int] = true := (pre_splitW hpre).1
  have hc : l.pre.holds [] { args := args } = true := (pre_splitW hpre).2
  obtain ⟨d, r, rfl, h1, h2⟩ := hasAllW_cons hsh
  obtain rfl := hasAllW_nil h2
  obtain ⟨xs, rfl, h3⟩ := hasW_list h1
  obtain ⟨ns, rfl⟩ := items_int h3
  have hlen : ns.length ≤ n := by
    unfold OpenLaw.pre at hc
    have h4 : (WTm.not (.lt (.lit (.int (n : Int))) (.len (.arg 0)))).holds [] { args := [.list (ns.map .int)] } = true := by
      have h4 := (holds_andW hc).1
      rw [hn] at h4
      exact h4
    have h5 := condW_of h4 (w_not (w_lt w_lit (w_len_list (w_arg rfl))))
    rw [List.length_map] at h5
    refine Nat.le_of_not_lt fun q => ?_
    have q' : (n : Int) < ((ns.length : Nat) : Int) := by omega
    first
      | (rw [decide_eq_true q'] at h5; exact absurd h5 (by decide))
      | (simp at h5; omega)
  cases hwl with
  | cons w1 w2 =>
    cases w2
    cases w1 with
    | list ho hall => exact ⟨_, _, ns, rfl, rfl, ho, ints_of_wellAll ns _ hall, hlen⟩

theorem post_true (l : OpenLaw) (args : List WData) : l.row.toRowW.claim.post args (.bool true) args = true :=
  postW_of (r := l.row.toRowW) (X := (true == true))
    (show WShape.has [] (.bool true) .bool = true by first | rfl | decide | simp [WShape.has, WShape.arms, WShape.armsAll])
    (show (WTm.eq .res (.lit (.bool true))).value [] { args := args, res := some (.bool true), after := args } = some (.bool (true == true)) from w_eq_bool (w_res rfl) w_lit) rfl

/-! ### the attachment: holds_open's last premise (the goal 'hc' behind k_head) from a wpAny of the law's body -/
/-- the same from a codeAny of the CALL (for a layer whose function contracts speak of calls) -/
theorem attach_call {l : OpenLaw} {n : Nat} {q : Program} {loose : List Str} {XP : (Str → Option Value) → Heap → Prop} {YP : World → Heap → Prop} {d : DefRec}
    (hn : l.most = some n) (hdf : d.params.defaults = [])
    (call : ∀ (w : World) (s₀ s₁ : Shared) (mg mb : Str → Option Value) (fa : Addr) (o : Obj) (pm cd doc : Value) (a : Addr) (vs : List Value) (ns : List Int),
      Ground q loose [] XP w s₀ mg mb s₁.heap → YP w s₁.heap →
      s₁.heap.get? fa = some o → o.data = .func (docDef d.name d.params d.body d.scope pm cd doc) → s₁.heap.CodeRec cd d.name → mg d.name = some (.ref fa) →
      s₁.heap.get? a = some { cls := .type "list", data := .seq vs.toArray } → IntsAre vs ns → ns.length ≤ n → s₁.gens = #[] →
      codeAny (model l.prog w) callerA (.call (.ref fa) ⟨[.ref a], []⟩) (fun r s' => r = .ok (.ret (.bool true)) ∧ OldK s₁.heap s'.heap ∧ s'.os = s₁.os ∧ AllBare s'.gens) s₁) :
    WalkO q loose XP YP l.row.toRowW d [] (fun f vs => PySem.call f vs) := by
  intro w s₀ s₁ mg mb G Y fa o pm cd doc dV kV ho hd hcd hD hmg hg args vals as hpre hlay hrd hwl hlo
  obtain rfl : dV = .none := Dflts.none hD hdf
  obtain rfl : kV = .none := Dflts.noKw hD
  obtain ⟨a, vs, ns, rfl, rfl, hobj, hints, hlen⟩ := script_of hn hpre hwl
  refine enter_call (codeAny_mono (call w s₀ s₁ mg mb fa o pm cd doc a vs ns G Y ho (fd_plain hd) hcd hmg hobj hints hlen hg) fun r s' hq => ?_)
  obtain ⟨rfl, h2, h3, h4⟩ := hq
  exact ⟨.inl ⟨.bool true, .bool true, [], rfl, fun _ => rfl, .bool true, post_true l _, fun _ => ⟨List.Pairwise.nil, fun _ hm => (nomatch hm)⟩⟩, h2, h3, h4⟩

/-! ### rules over ANY heap (no ledger) from facts about the written part K: the library's own take a ledger (News) for what they write -/
section
variable {prog : Program} {w : World} {A : Around} {E : Value → Shared → Prop} {s : Shared} {K : Frag}

/-! the whole heap as the ledger: makes every rule that writes through a ledger a rule over any heap -/
def noObjs (h : Heap) : Heap := { h with objs := #[] }
def ledger (h : Heap) (L d : Addr) : List (Addr × Obj) := (List.range h.objs.size).filterMap fun a => if a = L ∨ a = d then none else (h.get? a).map fun o => (a, o)
end
end Att

namespace L2
open PySem PySem.Spec PyProof.Rows

theorem vals_ints : ∀ {vs : List Value} {ns : List Int}, IntsAre vs ns → Vals (ns.map V.int) vs
  | _, _, .nil => .nil
  | _, _, .cons n t h => .cons ⟨t, rfl⟩ (vals_ints h)

/-- nothing is tracked but the script, known to the object (or it is an object of the module) -/
def Only (H : Hp) : Prop := ∀ b, H b = none ∨ ∃ o xs, H b = some (.frz o (.lst xs))

/-- THE HEAD: the law's promise, at the heap behind the top. F, the promise of the law's def, may use that base is part of the heap (so K.In base, base.Ns mainGlobals mg stand in Mod) -/
theorem law_call {P : Program} {w : World} {K : PySem.W.Frag} {mg mb : Str → Option Value} {CX : CXT} {k : Nat} {fa a : Addr} {fd : FuncData} {x : Str} {sp : Sp} {s₁ : Shared} {vs : List Value} {ns : List Int}
    (KX : K.In s₁.heap) (hns : s₁.heap.Ns mainGlobals mg) (hb : s₁.heap.Ns builtinsNs mb) (hbb : ∀ x : Str, x ≠ "__name__" → mb x = bootBuiltins x) (hlim : s₁.heap.NoLimit) (hg : s₁.gens = #[])
    (ha : s₁.heap.get? a = some { cls := .type "list", data := .seq vs.toArray }) (hi : IntsAre vs ns) (hl : ns.length ≤ sizeLine) (hr : Room k callerA)
    (F : ∀ base : Heap, K.In base → base.Ns mainGlobals mg → FnOk P w K mg base CX k fa fd [x] sp) (hbind : ∀ (s : Shared) (u : Value), BindsTo s fd ⟨[u], []⟩ [(x, u)])
    (hsp : ∀ H : Hp, Only H → SqL K H a (ns.map V.int) → sp [.ref a] H (fun v _ => v = .bl true) fun _ _ _ => False)
    (hCX : ∀ H e s', CX [] H s₁ (fun _ _ _ => False) e s' → False) :
    codeAny (model P w) callerA (.call (.ref fa) ⟨[.ref a], []⟩) (fun r s' => r = .ok (.ret (.bool true)) ∧ OldK s₁.heap s'.heap ∧ s'.os = s₁.os ∧ AllBare s'.gens) s₁ := by
  have rv := vals_ints hi
  have lenV := hi.length
  -- from an abstract heap in which nothing but the script may be tracked
  have core : ∀ H : Hp, Only H → SqL K H a (ns.map V.int) → HOk P w H s₁.heap → (∀ b, H b ≠ none → b = a) → (H a ≠ none → K.lookup a = none) →
      codeAny (model P w) callerA (.call (.ref fa) ⟨[.ref a], []⟩) (fun r s' => r = .ok (.ret (.bool true)) ∧ OldK s₁.heap s'.heap ∧ s'.os = s₁.os ∧ AllBare s'.gens) s₁ := by
    intro H hO hS hok hA hK
    have base_of : ∀ {b : Addr} {o : Obj}, s₁.heap.get? b = some o → H b = none → (hidT s₁.heap H).get? b = some o := fun e n => hidT_get e n
    have noA : ∀ {b : Addr} {o : Obj} {es : Array DictEntry} {ep : Nat}, s₁.heap.get? b = some o → o.data = .dict es ep → H b = none := fun {b o es ep} e d => by
      cases q : H b with
      | none => rfl
      | some u =>
        have e' : b = a := hA b (by rw [q]; simp)
        subst e'
        rw [ha] at e; cases e
        have d' : Data.seq vs.toArray _ = Data.dict es ep := d
        cases d'
    have nsK : ∀ {b : Addr} {m : Str → Option Value}, s₁.heap.Ns b m → (hidT s₁.heap H).Ns b m := fun {b m} ⟨o, es, ep, e, d, r⟩ => ⟨o, es, ep, base_of e (noA e d), d, r⟩
    have hKb : K.In (hidT s₁.heap H) := fun b o e => base_of (KX b o e) (by
      cases q : H b with
      | none => rfl
      | some u =>
        have e' : b = a := hA b (by rw [q]; simp)
        subst e'
        rw [hK (by rw [q]; simp)] at e; cases e)
    have hM : Mod K mg (hidT s₁.heap H) := ⟨hKb, nsK hns, ⟨mb, nsK hb, hbb⟩, let ⟨mc, h1, h2⟩ := hlim; ⟨mc, nsK h1, h2⟩⟩
    have e0 : Env0 P w K mg (hidT s₁.heap H) callerA [] s₁ H := ⟨rfl, hM, fun b o e => of_hidT e, Nat.le_of_eq (hidT_size _ _), trivial, fun b hb => absurd (show b ∈ ([] : List Addr) from hb) (by simp), hok, .of_eq hg⟩
    refine codeAny_mono ((F _ hKb (nsK hns)).run callerA [] s₁ H ⟨[.ref a], []⟩ [.ref a] [.ref a] _ _ hr e0 (hbind s₁ (.ref a)) (.cons rfl .nil) (hsp H hO hS)) fun r s' h => ?_
    cases r with
    | error e => exact (hCX H e s' h).elim
    | ok fl =>
      cases fl with
      | next => exact False.elim h
      | brk => exact False.elim h
      | cont => exact False.elim h
      | ret u =>
        obtain ⟨v, H', os, bare, un, hok', r', q⟩ := h
        have q' : v = .bl true := q
        subst q'
        obtain rfl : u = Value.bool true := r'
        refine ⟨rfl, OldK.of_keep fun b o e => ?_, os, bare⟩
        cases q : H b with
        | none => exact un.keep b o e q (by intro z; exact absurd (show b ∈ ([] : List Addr) from z) (by simp)) (by simp)
        | some u =>
          rcases hO b with z | ⟨ob, xs, z⟩
          · rw [q] at z; cases z
          · have z2 := un.frzs b ob _ z
            obtain ⟨e1, _⟩ := hok b _ z
            obtain ⟨e2, _⟩ := hok' b _ z2
            rw [e] at e1; cases e1
            exact e2
  cases hk : K.lookup a with
  | some o =>
    -- the script is one of the module's own objects
    have e := KX a o hk
    rw [ha] at e
    cases e
    refine core (fun _ => none) (fun _ => .inl rfl) (.inr ⟨_, vs.toArray, _, hk, rfl, rfl, rfl, by rw [List.size_toArray, lenV]; exact hl, by simpa using rv⟩) (fun b u z => by have z' : (none : Option HO) = some u := z; cases z') (fun b z => absurd rfl z) fun z => absurd rfl z
  | none =>
    refine core (fun b => if b = a then some (.frz { cls := .type "list", data := .seq vs.toArray } (.lst (ns.map V.int))) else none) (fun b => ?_) (.inl (.inr ⟨{ cls := .type "list", data := .seq vs.toArray }, if_pos rfl⟩)) (fun b u z => ?_) (fun b z => ?_) fun _ => hk
    · by_cases hb : b = a
      · exact .inr ⟨_, _, if_pos hb⟩
      · exact .inl (if_neg hb)
    · by_cases hb : b = a
      · have z' := (if_pos hb).symm.trans z
        cases z'
        subst hb
        exact ⟨ha, by rw [List.length_map]; exact hl, vs, _, rv, ha⟩
      · have z' := (if_neg hb).symm.trans z
        cases z'
    · by_cases hb : b = a
      · exact hb
      · exact absurd (if_neg hb) z
end L2

namespace L2
open PySem PySem.Spec PyProof.Rows

abbrev KOf {K : PySem.W.Frag} {h : Heap} (_ : K.In h) : PySem.W.Frag := K

/-- the goal that k_head leaves (case hc), from the law's promise. F gives the function object fd (K's own) once, then the promise over every base -/
theorem walk_of {l : PySem.W.OpenLaw} {n k : Nat} {q : Program} {loose : List Str} {XP : (Str → Option Value) → Heap → Prop} {YP : World → Heap → Prop} {d : DefRec} {K : Params → PySem.W.Frag} {CX : World → CXT} {sp : World → Sp} {x : Str}
    (hn : l.most = some n) (hn2 : n ≤ sizeLine) (hdf : d.params.defaults = []) (hr : Room k callerA)
    (hY : ∀ (w : World) (h : Heap), YP w h → (K w.params).In h)
    (F : ∀ (w : World) (mg : Str → Option Value) (fa : Addr) (h : Heap), (K w.params).In h → h.Ns mainGlobals mg → mg d.name = some (.ref fa) →
      ∃ fd : FuncData, (∀ (s : Shared) (u : Value), BindsTo s fd ⟨[u], []⟩ [(x, u)]) ∧
        ∀ base : Heap, (K w.params).In base → base.Ns mainGlobals mg → FnOk l.prog w (K w.params) mg base (CX w) k fa fd [x] (sp w))
    (hsp : ∀ (w : World) (H : Hp) (a : Addr) (ns : List Int), ns.length ≤ n → Only H → SqL (K w.params) H a (ns.map V.int) → sp w [.ref a] H (fun v _ => v = .bl true) fun _ _ _ => False)
    (hCX : ∀ (w : World) (H : Hp) (s : Shared) (e : Value) (s' : Shared), CX w [] H s (fun _ _ _ => False) e s' → False) :
    PySem.W.WalkO q loose XP YP l.row.toRowW d [] (fun f vs => PySem.call f vs) := by
  refine Att.attach_call hn hdf fun w s₀ s₁ mg mb fa o pm cd doc a vs ns G Y ho hd hcd hmg hobj hints hlen hg => ?_
  have KX := hY w _ Y
  obtain ⟨fd, hb, hF⟩ := F w mg fa _ KX G.T.g hmg
  exact law_call KX G.T.g G.T.b G.T.builtins G.T.nolimit hg hobj hints (Nat.le_trans hlen hn2) hr hF hb (fun H hO hS => hsp w H a ns hlen hO hS) fun H e s' => hCX w H s₁ e s'
end L2

/- THE LAST THEOREM (shape; LID, My.* are yours):
   My.Adr: a structure of the addresses that your layer names (classes, functions); My.Txt K t: a structure (Prop) of the equations over K;
   My.txt_mk : {K} {implicit addresses ..} (e1 : nsIn K mainGlobals "law" = some (some (.ref f))) (e2 : K.lookup f = some ⟨oc, od, .func (fnOf "law" "law" params body scope dV kV doc pm an cdv ct), sl⟩) (e3 : codeIn K cdv "law" = true) .. : ∃ t, My.Txt K t

set_option maxRecDepth 100000 in
set_option maxHeartbeats 0 in
theorem PySem.Challenge.cw_LID_holds : PySem.Challenge.rw_LID.Holds := by
  w_on; o_law; k_head; (case hw => w_witness2)
  k_fill
  refine L2.walk_of (l := PySem.Challenge.rw_LID) (n := 63) (k := 40) (x := "script") (CX := fun w => ..) (sp := fun _ => My.sp_law) rfl (by decide) rfl ⟨rfl, by decide, by decide⟩ (fun w h Y => PySem.W.kIn_of Y) ?F ?S ?C
  case F =>
    intro w mg fa h KX G hmg
    have T : ∃ t, My.Txt (L2.KOf KX) t := by
      dsimp only [L2.KOf]                          -- K must stand as «<heap const> w.params» for k_is
      refine' My.txt_mk ?e1 ?e2 ?e3 ..
      (case e1 => PySem.W.k_is)                    -- in the order: a name -> its address -> its object -> its parts
      (case e2 => PySem.W.k_is)
      ..
    obtain ⟨t, T⟩ := T
    have e0 := hmg.symm.trans (PySem.W.mg_of KX G T.law)
    cases e0                                       -- fa is the law's own address
    exact ⟨_, fun s u => .of_eq rfl, fun base kb nb => My.law_fn T kb nb⟩     -- if «.of_eq rfl» comes too early: refine' ⟨_, ?b, fun base kb nb => My.law_fn T kb nb⟩; exact fun s u => .of_eq rfl
  case S => exact fun w H a ns hl hO hS => ..
  case C => exact ..
(the tactic k_is has no namespace: write k_is) -/

/-! SHORT WORDS over the layer: a def of the text, its body, what a loop and a test want. -/
namespace L2
open PySem PySem.Spec PyProof.Rows

/-! ### the text by places -/
/-- the j-th statement of a class's body -/
def inClass (s : Stmt) (j : Nat) : Stmt := match s with
  | .ClassDef _ _ _ body _ _ _ _ _ _ _ => body.getD j (.Pass ⟨0, 0, 0, 0⟩)
  | _ => .Pass ⟨0, 0, 0, 0⟩
def defArgs (s : Stmt) : Arguments := match s with
  | .FunctionDef _ a _ _ _ _ _ _ _ _ => a
  | _ => { posonlyargs := [], args := [], vararg := none, kwonlyargs := [], kw_defaults := [], kwarg := none, defaults := [] }
def defBody (s : Stmt) : List Stmt := match s with
  | .FunctionDef _ _ b _ _ _ _ _ _ _ => b
  | _ => []
def defScope (s : Stmt) : Scope := match s with
  | .FunctionDef _ _ _ _ _ _ sc _ _ _ => sc
  | _ => { kind := .function, names := [], isGenerator := false, isCoroutine := false }

/-! ### no exception leaves a def -/
abbrev CX0 : CXT := fun _ _ _ _ _ _ => False
abbrev E0 : XK := fun _ _ _ => False
theorem pass0 {X : Cx} : Passes CX0 X E0 := fun _ _ _ _ _ _ _ h => h.elim

/-! ### a def (or method) of the text as it stands behind the top -/
structure Fun (K : PySem.W.Frag) (x qual : Str) (st : Stmt) (f : Addr) (fd : FuncData) : Prop where
  ex : ∃ (oc : Value) (od : Option Addr) (kV doc pm : Value) (an : Option Addr) (cdv ct : Value) (osl : Array (Option Value)),
    fd = PySem.W.fnOf x qual (defArgs st) (defBody st) (defScope st) .none kV doc pm an cdv ct ∧ K.lookup f = some ⟨oc, od, .func fd, osl⟩ ∧ PySem.W.codeIn K cdv qual = true
  kp : PySem.W.keepIn K (.ref f) = true
section
variable {P : Program} {w : World} {K : PySem.W.Frag} {mg : Str → Option Value} {base : Heap}
/-- THE RULE for a def: its body as a term of rules, and the reading of that term -/
theorem Fun.ok {x qual : Str} {st : Stmt} {f : Addr} {fd : FuncData} {N ps : List Str} {k : Nat} {sp : Sp} (F : Fun K x qual st f fd) (S : FnScope N ps (defScope st)) (len : ∀ vs H Q E, sp vs H Q E → vs.length = ps.length)
    (hbody : ∀ (cdv : Value) (A : Around) (outer : List Env) (s : Shared) (H : Hp) (vs : List V) (Q : VK) (E : XK), Room k (A.deeper (envOfC qual (defScope st) s.heap.objs.size f cdv)) → sp vs H Q E →
      ∃ t, PSs (cxOf CX0 P w K mg base N qual (defScope st) f cdv A outer s H E).nox (defBody st) t ∧ t { nx := fun _ H' => Q .non H', rt := Q } (start N vs) H) : FnOk P w K mg base CX0 (k + 1) f fd ps sp := by
  obtain ⟨oc, od, kV, doc, pm, an, cdv, ct, osl, rfl, lk, hcd⟩ := F.ex
  refine fn_of lk hcd S len fun A outer s H vs Q E hr hsp => ?_
  obtain ⟨t, h, q⟩ := hbody cdv A outer s H vs Q E hr hsp
  exact ⟨t, h.nox, q⟩
/-- how its arguments bind (no defaults): h is «fun _ _ _ _ _ _ us hl => match us, hl with | [_, _], _ => rfl», one _ a parameter -/
theorem Fun.binds {x qual : Str} {st : Stmt} {f : Addr} {fd : FuncData} {ps : List Str} (F : Fun K x qual st f fd)
    (h : ∀ (kV doc pm : Value) (an : Option Addr) (cdv ct : Value) (us : List Value), us.length = ps.length → bindArgs (PySem.W.fnOf x qual (defArgs st) (defBody st) (defScope st) .none kV doc pm an cdv ct) ⟨us, []⟩ = pure (ps.zip us)) : Binds K fd ps [] := by
  obtain ⟨oc, od, kV, doc, pm, an, cdv, ct, osl, rfl, lk, hcd⟩ := F.ex
  exact .all (h kV doc pm an cdv ct)
theorem fun_mk {x qual : Str} {st : Stmt} {f : Addr} {oc : Value} {od an : Option Addr} {osl : Array (Option Value)} {kV doc pm cdv ct : Value} (l : K.lookup f = some ⟨oc, od, .func (PySem.W.fnOf x qual (defArgs st) (defBody st) (defScope st) .none kV doc pm an cdv ct), osl⟩)
    (c : PySem.W.codeIn K cdv qual = true) (k : PySem.W.keepIn K (.ref f) = true) : Fun K x qual st f (PySem.W.fnOf x qual (defArgs st) (defBody st) (defScope st) .none kV doc pm an cdv ct) := ⟨⟨oc, od, kV, doc, pm, an, cdv, ct, osl, rfl, l, c⟩, k⟩
end
/-! ### expressions in short: the name that stands in the i-th slot -/
section
variable {X : Cx}
theorem pv (i : Nat) {x : Str} {pos : Pos} (hN : X.N[i]? = some x := by rfl) (hv : Vis X.env.scope x := by first | exact Or.inl rfl | exact Or.inr (Or.inl rfl) | exact Or.inr (Or.inr rfl)) (hd : (x == ("__debug__" : Str)) = false := by decide)
    (hcd : (x == ("__classdict__" : Str)) = false := by decide) : PE X (.Name x pos) (tVar i) := pe_var hN hv hd hcd
end

/-! ### tests -/
theorem iteF {A B : Prop} (h : B) : if false = true then A else B := by
  rw [if_neg Bool.false_ne_true]
  exact h
theorem iteT {A B : Prop} (h : A) : if true = true then A else B := by
  rw [if_pos rfl]
  exact h
theorem ite2 {c A B : Prop} [Decidable c] (h1 : c → A) (h2 : ¬ c → B) : if c then A else B := by
  by_cases h : c
  · rw [if_pos h]
    exact h1 h
  · rw [if_neg h]
    exact h2 h
/-! ### heaps -/
/-- all that was tracked is as it was -/
def Same (H H' : Hp) : Prop := ∀ b o, H b = some o → H' b = some o
theorem Same.refl (H : Hp) : Same H H := fun _ _ h => h
theorem Same.trans {H H1 H2 : Hp} (a : Same H H1) (b : Same H1 H2) : Same H H2 := fun c o h => b c o (a c o h)
theorem Same.free {H H' : Hp} (e : Same H H') {l : Addr} (h : H' l = Option.none) : H l = Option.none := by
  cases q : H l with
  | none => rfl
  | some o =>
    rw [e l o q] at h
    cases h
theorem Same.seq {K : PySem.W.Frag} {H H' : Hp} {a : Addr} {xs : List V} (e : Same H H') (h : SqL K H a xs) : SqL K H' a xs := by
  rcases h with (h | ⟨o, h⟩) | h
  · exact .inl (.inl (e _ _ h))
  · exact .inl (.inr ⟨o, e _ _ h⟩)
  · exact .inr h

end L2

set_option maxHeartbeats 4000000
namespace L2
open PySem PySem.Spec PyProof.Rows

/-! ### a comprehension's block -/
def clOf (env : Env) : List (Str × NameKind) → List (Str × Addr) → List (Str × Addr)
  | [], acc => acc
  | (n, k) :: r, acc => clOf env r (if k == NameKind.free then (match env.cells.lookup n with | some c => (n, c) :: acc | none => acc) else acc)

/-- the block's context -/
def blk (X : Cx) (N : List Str) (scope : Scope) (C : Addr) (s₀ : Shared) (H₀ : Hp) (ex : List Addr) (xe : Value → Shared → Prop) : Cx :=
  { X with N := N, s₀ := s₀, H₀ := H₀, env := compEnvC scope (clOf X.env scope.names []) C X.env, outer := X.stack, stack := X.stack, ex := ex, fn := fun _ => false, pn := [], xe := xe }
/-- what of the text a block must have: N its names, those at caps.. taken from the outer names -/
structure Blk (X : Cx) (N : List Str) (caps : List (Option Nat)) (scope : Scope) : Prop where
  kind : scope.kind = .function
  nocell : ∀ y ∈ scope.names, y.2 ≠ .cell
  names : ∀ y ∈ scope.names, y.2 = .local → scope.names.lookup y.1 = some .local
  free : ∀ y ∈ scope.names, y.2 = .free → X.env.kindOf y.1 = some .cell ∨ X.env.kindOf y.1 = some .free
  len : caps.length = N.length
  cap : ∀ (i j : Nat) (x : Str), caps[i]? = some (some j) → N[i]? = some x → X.N[j]? = some x ∧ Vis X.env.scope x ∧ scope.names.lookup x = some .free
/-- the block's names' values at its start -/
def capSt (caps : List (Option Nat)) (σ : St) : St := caps.map fun c => match c with | some j => (σ[j]?).join | none => none

section
variable {X : Cx} {pins : List (Addr × Obj)} {σ : St} {H : Hp} {s : Shared}
end
end L2

namespace L2
open PySem PySem.Spec PyProof.Rows
section
variable {prog : Program} {w : World} {A : Around} {R : Result → Shared → Prop} {s : Shared}
abbrev testsOf (ifs : List Expr) (env : Env) : Sem Bool := forIn ifs true fun c r => if r = true then do let ok ← isTrue c env (eval c env); pure (ForInStep.yield ok) else pure (ForInStep.yield r)
end

/-! ### the tests of a clause -/
def PF (X : Cx) (ifs : List Expr) (t : TT) : Prop :=
  ∀ (pins : List (Addr × Obj)) (s : Shared) (σ : St) (H : Hp) (Q : Bool → Hp → Prop), Inv X pins σ H s → t σ H Q → wpAny (model X.prog X.w) X.A (testsOf ifs X.env) (TP X pins σ Q) X.xe s
def tYes : TT := fun _ H Q => Q true H
/-- what a comprehension reads as: l is the new list -/
def tCompR (g : TG) (tt : TT) (te : TE) (σ0 : St) (J : It) (H1 : Hp) (Q : V → Hp → Prop) : Prop :=
  ∀ l, H1 l = none → ∃ W : Nat → Nat → St → Hp → Prop, (∃ m, W 0 m σ0 (upd H1 l (.lst []))) ∧ ∀ i m σ H, W i m σ H →
    (J.stop i H ∧ Q (.ref l) H) ∨ (J.go i H ∧ ∀ x H', J.yld i H x H' → g x σ H' fun σ2 H2 => tt σ2 H2 fun c H3 =>
      if c = true then te σ2 H3 fun v H4 => ∃ xs, H4 l = some (.lst xs) ∧ xs.length < sizeLine ∧ ∃ m', m' < m ∧ W (i + 1) m' σ2 (upd H4 l (.lst (xs ++ [v])))
      else ∃ m', m' < m ∧ W (i + 1) m' σ2 H3)
def tComp (caps : List (Option Nat)) (wi : TI) (g : TG) (tt : TT) (te : TE) : TE := fun σ H Q => wi σ H fun J H1 => tCompR g tt te (capSt caps σ) J H1 Q

/-- the block's own frame, behind the block: nobody's -/
structure Loose (X : Cx) (pins : List (Addr × Obj)) (H : Hp) (C : Addr) : Prop where
  un : H C = none
  loc : C ≠ X.env.locals
  ab : X.s₀.heap.objs.size ≤ C
  cel : ∀ x c, X.env.cells.lookup x = some c → c ≠ C
  pin : ∀ p ∈ X.pn ++ pins, p.1 ≠ C
section
variable {X : Cx} {pins : List (Addr × Obj)} {σ : St} {H : Hp} {s : Shared}
/-- what the block's exceptions are to reach -/
def blkX (X : Cx) (N : List Str) (scope : Scope) (use : Option (Value → Sem Unit)) (Q : Value → Shared → Prop) (acc : Value) (C : Addr) : Value → Shared → Prop :=
  notedBy (model X.prog X.w) X.A (compEnvC scope (clOf X.env scope.names []) C X.env) fun e s' => compPost (model X.prog X.w) X.A X.xe use Q acc C (.error e) s'

end
end L2

namespace L2
open PySem PySem.Spec PyProof.Rows
section
variable {X : Cx}
/-! ### wider numbers -/
/-- below 2 ^ 4000 either way -/
def Wide (i : Int) : Prop := i.natAbs < 2 ^ 4000
def CMulW (i j : Int) : Prop := Wide i ∧ Wide j
def CDivW (i j : Int) : Prop := 0 < j ∧ Wide j
/-! ### == and != of lists of ints -/
def rEqL (K : PySem.W.Frag) (neg : Bool) : R2 := fun x y H Q => ∃ (a b : Addr) (ns ms : List Int), x = .ref a ∧ y = .ref b ∧ SqL K H a (ns.map V.int) ∧ SqL K H b (ms.map V.int) ∧ Q (.bl (if neg then !decide (ns = ms) else decide (ns = ms))) H
/-! ### isinstance(x, T), T a built-in type or an own class -/
def rIsT (K : PySem.W.Frag) : List V → Hp → VK → Prop := fun xs H Q => ∃ x n t b, xs = [x, .ty n] ∧ TyOf K H x t ∧ PySem.W.kitOne K t (.type n) = some b ∧ Q (.bl b) H
theorem call_isT : CallR X (.builtin "isinstance") (rIsT X.K) := by
  intro pins s σ H xs us Q I r h
  obtain ⟨x, n, t, b, rfl, ty, e, q⟩ := h
  obtain ⟨u, w', rfl, r1, r2⟩ := vals2 r
  cases r2
  exact isinst_ok I r1 ty e fun tk => ⟨.bl b, H, I.tok tk, rfl, q⟩
end

/-! ### a block's facts by computing -/
def blkOk (sc : Scope) (N0 N : List Str) (caps : List (Option Nat)) (scope : Scope) : Bool :=
  decide (scope.kind = .function) && scope.names.all (fun y => decide (y.2 ≠ .cell)) && scope.names.all (fun y => decide (y.2 ≠ .local) || decide (scope.names.lookup y.1 = some .local)) &&
  scope.names.all (fun y => decide (y.2 ≠ .free) || (decide (sc.names.lookup y.1 = some .cell) || decide (sc.names.lookup y.1 = some .free))) && decide (caps.length = N.length) &&
  (List.range caps.length).all fun i => match caps[i]?, N[i]? with
    | some (some j), some x => decide (N0[j]? = some x) && (decide (sc.names.lookup x = some .cell) || decide (sc.names.lookup x = some .free)) && decide (scope.names.lookup x = some .free)
    | _, _ => true
/-! ### comprehensions, the forms one uses -/
theorem same_upd {H : Hp} {p : Addr} (h : H p = none) (o : HO) : Same H (upd H p o) := fun b u q => by rw [upd_ne (ne_of_none q h)]; exact q
end L2

namespace L2
open PySem PySem.Spec PyProof.Rows
section
variable {X : Cx} {e st : Expr} {te : TE} {ts : TO} {pos p2 : Pos}
/-! ### xs[::-1] -/
def tRev (K : PySem.W.Frag) (te : TE) (ts : TO) : TE := fun σ H Q => te σ H fun x H1 => ts σ H1 fun o H2 => o = some (-1) ∧ ∃ a xs, x = .ref a ∧ SqL K H2 a xs ∧ ∀ p, H2 p = none → Q (.ref p) (upd H2 p (.lst xs.reverse))
/-! ### all(xs) of bools -/
end
end L2

namespace L2
open PySem PySem.Spec PyProof.Rows
/-! ### an exception's record with its context: what the frames' notes leave of it -/
/-- the record at e: its class, its context ctx, a traceback's entry at T whose flight is fl -/
def RecAt (base : Heap) (e : Addr) (cls ctx fl : Value) (h : Heap) : Prop :=
  ∃ oe vs T oT ts, (h.get? e = some oe ∧ oe.cls = cls ∧ oe.data = .fields vs ∧ vs[1]? = some (.ref T) ∧ vs[2]? = some ctx) ∧ base.get? T = none ∧ T ≠ e ∧ h.get? T = some oT ∧ oT.data = .fields ts ∧ ts[3]? = some fl
structure FlyC (base : Heap) (l : List Env) (e : Addr) (cls ctx fl : Value) (h : Heap) : Prop where
  stays : base.StaysIn h
  new : base.get? e = none
  frames : h.FunFrames base l
  rcd : RecAt base e cls ctx fl h
section
variable {M : Model} {A : Around} {E : Value → Shared → Prop} {s : Shared} {base : Heap} {env : Env} {outer : List Env} {L e : Addr} {cls ctx : Value} {Q : Unit → Shared → Prop}
theorem noFields {h : Heap} {a : Addr} {o : Obj} {vs : Array Value} (ho : h.get? a = some o) (hd : o.data = .fields vs) {b : Addr} {u : Obj} (hb : h.get? b = some u) (hn : ∀ ws, u.data ≠ .fields ws) : b ≠ a := by
  rintro rfl
  have z := hb.symm.trans ho
  cases z
  exact hn vs hd
/-- a field of a record that is not of the base is set: what stays -/
theorem setRec {h : Heap} {a : Addr} {i : Nat} {v : Value} (hk : base.StaysIn h) (ha : base.get? a = none) {l : List Env} (hl : h.FunFrames base l) {o : Obj} {vs : Array Value} (ho : h.get? a = some o) (hd : o.data = .fields vs) :
    let h' := h.update a (Obj.mapFields (·.setIfInBounds i v))
    base.StaysIn h' ∧ h'.FunFrames base l ∧ h.UpToSlots h' ∧ (∀ b, b ≠ a → h'.get? b = h.get? b) ∧ ∃ o', h'.get? a = some o' ∧ o'.cls = o.cls ∧ o'.data = .fields (vs.setIfInBounds i v) := by
  intro h'
  have oth : ∀ b, b ≠ a → h'.get? b = h.get? b := fun b hb => Heap.get?_update_other _ _ (Ne.symm hb)
  have hd' := Obj.data_mapFields hd (·.setIfInBounds i v)
  refine ⟨fun b u hb => ?_, hl.of_keeps fun b u hb hn => ?_, fun b u hb hn => ?_, oth, _, Heap.get?_update_self _ ho (Obj.isFreed_of_fields hd'), Obj.cls_mapFields _ _, hd'⟩
  · rw [oth b (fun z => by rw [z, ha] at hb; cases hb)]
    exact hk b u hb
  · exact ⟨u, (oth b (noFields ho hd hb hn)).trans hb, rfl⟩
  · exact ⟨u.slots, (oth b (noFields ho hd hb hn)).trans hb⟩
/-- a new entry of the traceback -/
theorem entryC {head : Value} {hadNext : Bool} {oe : Obj} {vs : Array Value} (hfr : A.frames = some (env :: outer)) (hl : s.heap.FunFrames base (env :: outer)) (hf : env.frame = some L) (hk : base.StaysIn s.heap) (hn : base.get? e = none)
    (he : s.heap.get? e = some oe) (hc : oe.cls = cls) (hd : oe.data = .fields vs) (h2 : vs[2]? = some ctx)
    (h : ∀ h', FlyC base (env :: outer) e cls ctx (rawInt L) h' → s.heap.UpToSlots h' → Q () { s with heap := h' }) :
    wpAny M A (do let a ← frameOf env; let pl ← entryPlaceOf L hadNext; let b ← EntryCells.newEntry head a .none (rawInt L) .none pl; setField (.ref e) 1 b) Q E s := by
  have hef : e ∉ (env :: outer).filterMap (·.frame) := fun hm => by
    obtain ⟨_, o, ho, hnf⟩ := hl.mem hm
    exact noFields he hd ho hnf rfl
  refine wpAny_bind (wpAny_frameOf_fun hfr hl hf fun g1 so => wpAny_bind (wpAny_entryPlaceOf fun pl hpl => ?_))
  unfold EntryCells.newEntry
  unfold newFields
  refine wpAny_bind (wpAny_newObj_type ?_ (hpl.sizeOk5 _ _ _ _ _))
  generalize hob : ({ cls := .type "traceback", dict := none, data := .fields ([head, Value.ref L, .none, rawInt L, .none] ++ (if pl.isEmpty then List.replicate 6 Value.none else pl)).toArray } : Obj) = ob
  have obd : ∃ ts : Array Value, ob.data = .fields ts ∧ ts[3]? = some (rawInt L) := by
    rw [← hob]
    refine ⟨_, rfl, ?_⟩
    simp
  have e1 : g1.get? e = some oe := (so.2.1 e hef).trans he
  have k1 : base.StaysIn g1 := fun b o hb => (so.2.1 b fun hm => by rw [(hl.mem hm).1] at hb; cases hb).trans (hk b o hb)
  have l1 : g1.FunFrames base (env :: outer) := hl.of_keeps fun b o hb _ => by
    obtain ⟨sl, q⟩ := so.2.2 b o hb
    exact ⟨_, q, rfl⟩
  have up1 : s.heap.UpToSlots g1 := fun b o hb _ => so.2.2 b o hb
  have e2 : (g1.push ob).get? e = some oe := Heap.get?_push_of_some _ e1
  have k2 : base.StaysIn (g1.push ob) := fun b o hb => Heap.get?_push_of_some _ (k1 b o hb)
  have l2 : (g1.push ob).FunFrames base (env :: outer) := l1.of_keeps fun b o hb _ => ⟨o, Heap.get?_push_of_some _ hb, rfl⟩
  have up2 : g1.UpToSlots (g1.push ob) := Heap.UpToSlots.of_keeps fun b o hb => Heap.get?_push_of_some _ hb
  have hT : (g1.push ob).get? g1.objs.size = some ob := Heap.get?_push_size _ (by obtain ⟨ts, z, _⟩ := obd; exact Obj.isFreed_of_fields z)
  have hsz : 1 < vs.size := Nat.lt_trans (by decide) (Array.getElem?_eq_some_iff.mp h2).1
  obtain ⟨k3, l3, up3, oth, oe3, e3, c3, d3⟩ := setRec (i := 1) (v := .ref g1.objs.size) k2 hn l2 e2 hd
  refine wpAny_setField e2 hd hsz (h _ ⟨k3, hn, l3, oe3, vs.setIfInBounds 1 (.ref g1.objs.size), g1.objs.size, ob, ?_⟩ ((up1.trans up2).trans up3))
  obtain ⟨ts, z1, z2⟩ := obd
  have hTe : g1.objs.size ≠ e := Nat.ne_of_gt (Heap.lt_size e1)
  refine ⟨ts, ⟨e3, c3.trans hc, d3, by simp [hsz], ?_⟩, k1.fresh, hTe, (oth _ hTe).trans hT, z1, z2⟩
  rw [Array.getElem?_setIfInBounds_ne (by decide)]
  exact h2
/-- the frame is noted at an exception that has no entry yet -/
theorem noteC0 {oe : Obj} {vs : Array Value} (hfr : A.frames = some (env :: outer)) (hl : s.heap.FunFrames base (env :: outer)) (hf : env.frame = some L) (hk : base.StaysIn s.heap) (hn : base.get? e = none)
    (he : s.heap.get? e = some oe) (hc : oe.cls = cls) (hd : oe.data = .fields vs) (h1 : vs[1]? = some .none) (h2 : vs[2]? = some ctx)
    (h : ∀ h', FlyC base (env :: outer) e cls ctx (rawInt L) h' → s.heap.UpToSlots h' → Q () { s with heap := h' }) : wpAny M A (noteFrame (.ref e) env) Q E s := by
  unfold noteFrame
  simp only [hf]
  refine wpAny_bind (wpAny_field he hd h1 ?_)
  rw [if_neg (by decide)]
  exact entryC hfr hl hf hk hn he hc hd h2 h
/-- .. at one that flies -/
theorem noteC (hfr : A.frames = some (env :: outer)) (hf : env.frame = some L) (x : FlyC base (env :: outer) e cls ctx .none s.heap)
    (h : ∀ h', FlyC base (env :: outer) e cls ctx (rawInt L) h' → s.heap.UpToSlots h' → Q () { s with heap := h' }) : wpAny M A (noteFrame (.ref e) env) Q E s := by
  obtain ⟨oe, vs, T, oT, ts, ⟨he, hc, hd, h1, h2⟩, hT0, hTe, hT, hdT, h3⟩ := x.rcd
  unfold noteFrame
  simp only [hf]
  refine wpAny_bind (wpAny_field he hd h1 ?_)
  rw [if_pos (by simp : (Value.ref T != Value.none) = true)]
  refine wpAny_bind (wpAny_field hT hdT h3 ?_)
  rw [if_neg (by simp [rawInt] : ¬ ((Value.none == rawInt L) = true))]
  obtain ⟨k3, l3, up3, oth, _⟩ := setRec (i := 3) (v := .none) x.stays hT0 x.frames hT hdT
  refine wpAny_bind (wpAny_setField hT hdT (Array.getElem?_eq_some_iff.mp h3).1 ?_)
  exact entryC hfr l3 hf k3 x.new ((oth e (Ne.symm hTe)).trans he) hc hd h2 fun h' y up => h h' y (up3.trans up)
/-- it lands -/
theorem landC {fl : Value} {l : List Env} (x : FlyC base l e cls ctx fl s.heap) (h : ∀ h', FlyC base l e cls ctx .none h' → s.heap.UpToSlots h' → Q () { s with heap := h' }) : wpAny M A (setFlight (.ref e) none) Q E s := by
  obtain ⟨oe, vs, T, oT, ts, ⟨he, hc, hd, h1, h2⟩, hT0, hTe, hT, hdT, h3⟩ := x.rcd
  have hsz := (Array.getElem?_eq_some_iff.mp h3).1
  obtain ⟨k3, l3, up3, oth, oT3, e3, c3, d3⟩ := setRec (i := 3) (v := .none) x.stays hT0 x.frames hT hdT
  unfold setFlight
  refine wpAny_bind (wpAny_field he hd h1 ?_)
  rw [if_pos (by simp : (Value.ref T != Value.none) = true)]
  refine wpAny_setField hT hdT hsz (h _ ⟨k3, x.new, l3, oe, vs, T, oT3, _, ⟨(oth e (Ne.symm hTe)).trans he, hc, hd, h1, h2⟩, hT0, hTe, e3, d3, by simp [hsz]⟩ up3)
theorem FlyC.pop {fl : Value} {h : Heap} (x : FlyC base (env :: outer) e cls ctx fl h) : FlyC base outer e cls ctx fl h := ⟨x.stays, x.new, x.frames.2.2, x.rcd⟩
/-- a frame is left: by a new exception, by one that flies -/
theorem leaveC0 {oe : Obj} {vs : Array Value} (hfr : A.frames = some (env :: outer)) (hl : s.heap.FunFrames base (env :: outer)) (hf : env.frame = some L) (hk : base.StaysIn s.heap) (hn : base.get? e = none)
    (he : s.heap.get? e = some oe) (hc : oe.cls = cls) (hd : oe.data = .fields vs) (h1 : vs[1]? = some .none) (h2 : vs[2]? = some ctx)
    (h : ∀ h', FlyC base outer e cls ctx .none h' → s.heap.UpToSlots h' → Q () { s with heap := h' }) : wpAny M A (leaving env (.ref e)) Q E s := by
  unfold leaving
  exact wpAny_bind (noteC0 hfr hl hf hk hn he hc hd h1 h2 fun g1 x1 u1 => landC (s := { s with heap := g1 }) x1 fun g2 x2 u2 => h g2 x2.pop (u1.trans u2))
theorem leaveC (hfr : A.frames = some (env :: outer)) (hf : env.frame = some L) (x : FlyC base (env :: outer) e cls ctx .none s.heap)
    (h : ∀ h', FlyC base outer e cls ctx .none h' → s.heap.UpToSlots h' → Q () { s with heap := h' }) : wpAny M A (leaving env (.ref e)) Q E s := by
  unfold leaving
  exact wpAny_bind (noteC hfr hf x fun g1 x1 u1 => landC (s := { s with heap := g1 }) x1 fun g2 x2 u2 => h g2 x2.pop (u1.trans u2))
end
end L2

namespace L2
open PySem PySem.Spec PyProof.Rows
/-! ### exceptions: how one lies behind a call -/
section
variable {P : Program} {w : World} {H : Hp} {h h'' B : Heap} {a : Addr} {o : HO}
theorem ObjOk.there (x : ObjOk P w H h a o) : ∃ ob, h.get? a = some ob := by
  cases o with
  | lst xs => obtain ⟨_, _, _, _, e⟩ := x; exact ⟨_, e⟩
  | tup xs => obtain ⟨_, _, _, ob, e, _⟩ := x; exact ⟨ob, e⟩
  | dK kvs => obtain ⟨_, _, _, _, ob, _, _, e, _⟩ := x; exact ⟨ob, e⟩
  | dT kvs => obtain ⟨_, _, _, _, ob, _, _, e, _⟩ := x; exact ⟨ob, e⟩
  | set S n => obtain ⟨ob, _, _, _, e, _⟩ := x; exact ⟨ob, e⟩
  | ins C dx fs => obtain ⟨_, _, _, e, _⟩ := x; exact ⟨_, e⟩
  | own y => exact x
  | xd fs => obtain ⟨_, ⟨_, _, _, e, _⟩, _⟩ := x; exact ⟨_, e⟩
  | rng lo hi => obtain ⟨_, _, _, e⟩ := x; exact ⟨_, e⟩
  | frz ob u => exact ⟨_, x.1⟩
  | tbl ps => exact ⟨_, (show h.get? a = some _ from x)⟩
  | met f y => exact ⟨_, (show h.get? a = some _ from x)⟩
  | ext φ => exact x.2.1
/-- what is tracked lies in B, and B stays -/
theorem HOk.stays (x : HOk P w H h) (trk : ∀ b o, H b = some o → ∃ ob, B.get? b = some ob) (b1 : B.StaysIn h) (b2 : B.StaysIn h'') : HOk P w H h'' := fun a o e =>
  (x a o e).stay (fun b u hb q => by
    have z : ∃ ob, B.get? b = some ob := hb.elim (fun z => z ▸ trk a o e) fun z => trk b _ z
    obtain ⟨ob, e1⟩ := z
    have e2 := (b1 _ _ e1).symm.trans q
    cases e2
    exact b2 _ _ e1) (fun _ q => q) fun _ _ q => q
end
/-- the contexts of an exception, to their end -/
inductive Chn (B : Heap) : Value → Prop where
  | nil : Chn B .none
  | cons {c : Addr} {o : Obj} {vs : Array Value} {ctx : Value} : B.get? c = some o → o.data = .fields vs → vs[2]? = some ctx → Chn B ctx → Chn B (.ref c)
/-- the exception at e flies over the frames l; B: what stood when it was made, but the frames -/
structure Fly (l : List Env) (H : Hp) (e : Addr) (cls : Value) (B h : Heap) : Prop where
  fly : ∃ ctx, FlyC B l e cls ctx .none h ∧ Chn B ctx
  trk : ∀ b o, H b = some o → ∃ ob, B.get? b = some ob
  noe : H e = none
def CX1 (P : Program) (w : World) : CXT := fun outer H s E e s' => ∃ (ea : Addr) (cls : Value) (H' : Hp) (B : Heap), e = .ref ea ∧ s'.os = s.os ∧ AllBare s'.gens ∧ Un (frs outer) [] H H' s.heap s'.heap ∧ HOk P w H' s'.heap ∧
  Fly outer H' ea cls B s'.heap ∧ (∀ b o, s.heap.get? b = some o → b ∉ frs outer → ∃ ob, B.get? b = some ob) ∧ E cls none H'
section
variable {X : Cx} {pins : List (Addr × Obj)} {σ : St} {H : Hp} {s : Shared} {B h'' : Heap}
theorem Inv.un_fly (J : Inv X pins σ H s) (hex : X.ex = []) (b1 : B.StaysIn s.heap) (b2 : B.StaysIn h'') (up : s.heap.UpToSlots h'') (inB : ∀ b o, X.s₀.heap.get? b = some o → b ∉ X.fs → ∃ ob, B.get? b = some ob) :
    Un X.fs [] X.H₀ H X.s₀.heap h'' where
  keep := fun b o e n hb _ => by
    have e1 := J.base.keep b o e n hb (by rw [hex]; simp)
    obtain ⟨ob, eb⟩ := inB b o e hb
    have e2 := (b1 _ _ eb).symm.trans e1
    cases e2
    exact b2 _ _ eb
  slot := fun b o e n hb _ => by
    obtain ⟨sl, e1⟩ := J.base.slot b o e n hb (by rw [hex]; simp)
    obtain ⟨_, o2, ho2, hd⟩ := J.funs.mem hb
    rw [e1] at ho2
    cases ho2
    obtain ⟨sl2, e2⟩ := up b _ e1 hd
    exact ⟨sl2, e2⟩
  free := fun b o e n _ => J.base.free b o e n (by rw [hex]; simp)
  there := fun b o e _ => by
    by_cases hb : b ∈ X.fs
    · obtain ⟨_, o2, ho2, hd⟩ := J.funs.mem hb
      obtain ⟨sl, e2⟩ := up b o2 ho2 hd
      exact ⟨_, e2⟩
    · obtain ⟨ob, eb⟩ := inB b o e hb
      exact ⟨ob, b2 _ _ eb⟩
  tups := J.base.tups
  frzs := J.base.frzs
  tbls := J.base.tbls
theorem Inv.notFr (J : Inv X pins σ H s) {b : Addr} {o : Obj} (e : X.s₀.heap.get? b = some o) (hb : b ∉ X.fs) : b ∉ frs X.stack := fun z => by
  rcases List.mem_cons.mp (J.stkSub b z) with q | q
  · exact absurd (Nat.lt_of_lt_of_le (Heap.lt_size e) J.ok.above) (by rw [q]; exact Nat.lt_irrefl _)
  · exact hb q
/-- all but the frames that run -/
def under (X : Cx) (s : Shared) : Heap := PySem.W.hideAll s.heap (frs X.stack)
theorem under_in {b : Addr} {o : Obj} (e : s.heap.get? b = some o) (hb : b ∉ frs X.stack) : (under X s).get? b = some o := PySem.W.hideAll_get _ e hb
theorem under_stays : (under X s).StaysIn s.heap := fun b o q => PySem.W.of_hideAll _ q
theorem Inv.under_frames (J : Inv X pins σ H s) : s.heap.FunFrames (under X s) X.stack := PySem.W.funFrames_hide J.stack fun env he a ha => List.mem_filterMap.mpr ⟨env, he, ha⟩
theorem Inv.under_trk (J : Inv X pins σ H s) : ∀ b o, H b = some o → ∃ ob, (under X s).get? b = some ob := fun b o e => by
  obtain ⟨ob, q⟩ := (J.hok b o e).there
  exact ⟨ob, under_in q fun z => by rw [J.stkFree b z] at e; cases e⟩
end
/-- a new exception: all else is kept -/
structure MadeC (h h' : Heap) (e : Addr) (cls ctx : Value) : Prop where
  keeps : ∀ b o, h.get? b = some o → h'.get? b = some o
  new : h.get? e = none
  rcd : ∃ oe vs, h'.get? e = some oe ∧ oe.cls = cls ∧ oe.data = .fields vs ∧ vs[1]? = some .none ∧ vs[2]? = some ctx
theorem MadeC.of {h h' : Heap} {e : Addr} {cls : Value} {args : List Value} (x : Heap.MadeExcOf h h' e cls args) : MadeC h h' e cls .none := by
  obtain ⟨t, he, _⟩ := x.there
  exact ⟨x.keeps, x.new, _, _, he, rfl, rfl, rfl, rfl⟩
/-- the body of a def, whose exceptions leave it -/
structure Thr (X : Cx) (E : XK) : Prop where
  new : ∀ (pins : List (Addr × Obj)) (σ : St) (H : Hp) (s : Shared) (h' : Heap) (e C : Addr) (ctx : Value), Inv X pins σ H s → MadeC s.heap h' e (.ref C) ctx → Chn (under X s) ctx → E (.ref C) none H → X.xe (.ref e) { s with heap := h' }
  on : Passes (CX1 X.prog X.w) X E
  own : PassesOwn (model X.prog X.w) X.A X.env X.xe
  ownAt : ∀ hd, PassesOwnAt (model X.prog X.w) (X.A.mark hd) X.A X.env X.xe
theorem thr_def {P : Program} {w : World} {K : PySem.W.Frag} {mg : Str → Option Value} {base : Heap} {N : List Str} {qual : Str} {scope : Scope} {f : Addr} {cd : Value} {A : Around} {outer : List Env} {s : Shared} {H : Hp} {E : XK} :
    Thr (cxOf (CX1 P w) P w K mg base N qual scope f cd A outer s H E) E where
  own := PassesOwn.leaving
  ownAt := fun _ => PassesOwnAt.leaving
  new := by
    intro pins σ H1 s1 h' e C ctx I hx hch hE
    have fr : (under (cxOf (CX1 P w) P w K mg base N qual scope f cd A outer s H E) s1).StaysIn s1.heap := under_stays
    have hn : (under (cxOf (CX1 P w) P w K mg base N qual scope f cd A outer s H E) s1).get? e = none := by
      cases q : (under (cxOf (CX1 P w) P w K mg base N qual scope f cd A outer s H E) s1).get? e with
      | none => rfl
      | some o =>
        have z := fr _ _ q
        rw [hx.new] at z
        cases z
    obtain ⟨oe, vs, he, hc, hd, h1, h2⟩ := hx.rcd
    refine leaveC0 (outer := outer) I.ok.frames (I.under_frames.of_keeps fun b o hb _ => ⟨o, hx.keeps b o hb, rfl⟩) rfl (fun b o q => hx.keeps b o (fr b o q)) hn he hc hd h1 h2 fun h'' x1 x4 => ?_
    have up : s1.heap.UpToSlots h'' := (Heap.UpToSlots.of_keeps hx.keeps).trans x4
    have inB : ∀ b o, s.heap.get? b = some o → b ∉ frs outer → ∃ ob, (under (cxOf (CX1 P w) P w K mg base N qual scope f cd A outer s H E) s1).get? b = some ob := fun b o eb hb => by
      obtain ⟨o', e'⟩ := I.base.there b o eb (by intro z; cases z)
      exact ⟨o', under_in e' (I.notFr eb hb)⟩
    refine ⟨e, .ref C, H1, _, rfl, I.os, I.bare, I.un_fly rfl fr x1.stays up inB, I.hok.stays I.under_trk fr x1.stays, ⟨⟨ctx, x1, hch⟩, I.under_trk, ?_⟩, inB, hE⟩
    cases q : H1 e with
    | none => rfl
    | some o =>
      obtain ⟨ob, z⟩ := (I.hok e o q).there
      rw [hx.new] at z
      cases z
  on := by
    intro pins σ H1 s1 e s' I hc
    obtain ⟨ea, cls, H', B, rfl, os, bare, un, hok, F, inB, hE⟩ := hc
    have J := I.call' os un hok bare fun b z => absurd z (by simp)
    obtain ⟨ctx, fl, hch⟩ := F.fly
    refine leaveC (outer := outer) I.ok.frames rfl fl fun h'' x1 x2 => ?_
    have inB' : ∀ b o, s.heap.get? b = some o → b ∉ frs outer → ∃ ob, B.get? b = some ob := fun b o eb hb => by
      obtain ⟨o', e'⟩ := I.base.there b o eb (by intro z; cases z)
      exact inB b o' e' (I.notFr eb hb)
    exact ⟨ea, cls, H', B, rfl, J.os, J.bare, J.un_fly rfl fl.stays x1.stays x2 inB', hok.stays F.trk fl.stays x1.stays, ⟨⟨ctx, x1, hch⟩, F.trk, F.noe⟩, inB', hE⟩
/-- THE RULE for a def that may raise -/
theorem Fun.okX {P : Program} {w : World} {K : PySem.W.Frag} {mg : Str → Option Value} {base : Heap} {x qual : Str} {st : Stmt} {f : Addr} {fd : FuncData} {N ps : List Str} {k : Nat} {sp : Sp} (F : Fun K x qual st f fd) (S : FnScope N ps (defScope st)) (len : ∀ vs H Q E, sp vs H Q E → vs.length = ps.length)
    (hbody : ∀ (cdv : Value) (A : Around) (outer : List Env) (s : Shared) (H : Hp) (vs : List V) (Q : VK) (E : XK), Room k (A.deeper (envOfC qual (defScope st) s.heap.objs.size f cdv)) → sp vs H Q E →
      Thr (cxOf (CX1 P w) P w K mg base N qual (defScope st) f cdv A outer s H E) E →
      ∃ t, PSs (cxOf (CX1 P w) P w K mg base N qual (defScope st) f cdv A outer s H E) (defBody st) t ∧ t { nx := fun _ H' => Q .non H', rt := Q } (start N vs) H) : FnOk P w K mg base (CX1 P w) (k + 1) f fd ps sp := by
  obtain ⟨oc, od, kV, doc, pm, an, cdv, ct, osl, rfl, lk, hcd⟩ := F.ex
  exact fn_of lk hcd S len fun A outer s H vs Q E hr hsp => hbody cdv A outer s H vs Q E hr hsp thr_def

/-! ### raise C("..") of an own class under ValueError -/
abbrev veTail : List Value := [.type "ValueError", .type "Exception", .type "BaseException", .type "object"]
theorem exc_obj {K : PySem.W.Frag} {h : Heap} {C : Addr} {bmB : List Value} {newId : String} (X : K.In h) (q : PySem.W.excIn K C bmB newId = true) :
    ∃ bm N nm qn bs hdct sn sub ab col dd k0 k1 k2 k3 k5 mN, h.get? C = some (excClassObj nm qn C N bs bm hdct sn sub ab col dd k0 k1 k2 k3 k5 newId) ∧ h.Ns N mN ∧ mN "__init__" = none ∧ OwnTail h bmB bm := by
  unfold PySem.W.excIn at q
  split at q
  · rename_i ddx cdx slx hlook
    split at q
    · rename_i Cx bmx j0 j1 j2 j3 nx j5 hmro hslots
      simp only [beq_iff_eq, Bool.and_eq_true, Bool.not_eq_true'] at q
      obtain ⟨⟨⟨⟨⟨eC, eN⟩, edel⟩, etl⟩, eok⟩, eni⟩ := q
      subst eC
      subst eN
      obtain ⟨f1, f2, f3, f4, f5, f6, f7, f8, f9, f10, f11⟩ := cdx
      have e1 : f3 = _ := hmro
      have e2 : f11 = false := edel
      subst e1
      subst e2
      obtain ⟨lst⟩ := slx
      have e3 : lst = _ := hslots
      subst e3
      exact ⟨bmx, f4, f1, f5, f2, f6, f7, f8, f9, f10, ddx, j0, j1, j2, j3, j5, _, X _ _ hlook, .of_isNs (PySem.W.isNs_of_in X eok), PySem.W.nsMap_none_of_in X eok eni, PySem.W.tail_of_in X etl⟩
    · cases q
  · cases q
def tRaise (C : Addr) (E : XK) (t : TA) : TS := fun _ σ H => t σ H fun vs H1 => vs.length ≤ sizeLine ∧ E (.ref C) none H1
theorem ps_raise {X : Cx} {x : Str} {np cpos pos : Pos} {e : Expr} {es : List Expr} {t : TA} {C : Addr} {E : XK} (T : Thr X E) (hh : X.A.handled = none) (hg : Gl X x) (hm : X.mg x = some (.ref C)) (hc : PySem.W.excIn X.K C veTail "ValueError.__new__" = true) (ha : PA X (e :: es) t)
    (hdb : (x == ("__debug__" : Str)) = false := by decide) (he : starEach (e :: es) X.env = (false, eval e X.env) :: starEach es X.env := by rfl) (hpl : (backTo cpos (starEach es X.env)).any (·.1) = false := by rfl) :
    PS X (.Raise (some (.Call (.Name x np) (e :: es) [] cpos)) none pos) (tRaise C E t) := by
  intro pins s σ H D I h
  obtain ⟨bm, N, nm, qn, bs, hdct, sn, sub, ab, col, dd, k0, k1, k2, k3, k5, mN, hC, hN, hni, hT⟩ := exc_obj I.mod.kin hc
  have hB : bm.contains (.type "BaseException") = true := hT.hasType PySem.F.excBase_ValueError.hasBase
  refine wpAny_Raise_call_subT (k5 := k5) (k3 := k3) (k2 := k2) (k1 := k1) (k0 := k0) (dd := dd) (col := col) (ab := ab) (sub := sub) (sn := sn) (hdct := hdct) (bs := bs) (N := N) (q := qn) (nm := nm) (bm := bm) (C := C) PySem.F.excBase_ValueError (mN := mN) hB hh (by rw [he]; show (false || (backTo cpos (starEach es X.env)).any (·.1)) = false; rw [hpl]; rfl) hni (ld_glob I hg hm ⟨rfl, ?_⟩ hdb)
  have hA := ha cpos pins s σ H _ I h
  rw [he] at hA ⊢
  refine Calls.evalArgs_plain (thn hA fun us s2 q2 => ?_)
  obtain ⟨vs, H2, I2, r, hz, hE⟩ := q2
  exact ⟨rfl, by rw [← r.length]; exact hz, I2.bk _ _ hC, hN.keeps I2.bk, hT.keeps I2.bk, fun h' e' hx => T.new pins σ H2 s2 h' e' C .none I2 (.of hx) .nil hE⟩
end L2

namespace L2
open PySem PySem.Spec PyProof.Rows
/-! ### what may raise, asked at one state -/
def Held (X : Cx) (pins : List (Addr × Obj)) (B : Heap) : Prop := (∀ b o, X.s₀.heap.get? b = some o → b ∉ X.ex → b ∉ X.fs → ∃ ob, B.get? b = some ob) ∧ ∀ p ∈ X.pn ++ pins, ∃ ob, B.get? p.1 = some ob
def XP (X : Cx) (pins : List (Addr × Obj)) (σ : St) (Ex : XK) (e : Value) (s' : Shared) : Prop :=
  ∃ (ea : Addr) (cls : Value) (H' : Hp) (B : Heap), e = .ref ea ∧ Inv X pins σ H' s' ∧ Fly X.stack H' ea cls B s'.heap ∧ Held X pins B ∧ Ex cls none H'
section
variable {X : Cx} {pins : List (Addr × Obj)} {σ : St} {H : Hp} {s : Shared} {B h'' : Heap}
/-- an exception that was caught: its class -/
def excO (a C : Addr) : HO := .ext fun h => ∃ o vs, h.get? a = some o ∧ o.cls = .ref C ∧ o.data = .fields vs
/-- the context of an except suite from which nothing is raised -/
def hCx (X : Cx) (e : Addr) : Cx := { X with A := X.A.mark (some (.ref e)), calm := false, xe := fun _ _ => False }
end
/-! ### the judgements with an exception's wish -/
def PEX (X : Cx) (e : Expr) (t : XK → TE) : Prop :=
  ∀ (pins : List (Addr × Obj)) (s : Shared) (σ : St) (H : Hp) (Q : VK) (Ex : XK), Inv X pins σ H s → t Ex σ H Q → wpAny (model X.prog X.w) X.A (eval e X.env) (EP X pins σ Q) (XP X pins σ Ex) s
def PSX (X : Cx) (st : List Stmt) (t : XK → TS) : Prop :=
  ∀ (pins : List (Addr × Obj)) (s : Shared) (σ : St) (H : Hp) (D : Ends) (Ex : XK), Inv X pins σ H s → t Ex D σ H → wpAny (model X.prog X.w) X.A (execs st X.env) (SP X pins D) (XP X pins σ Ex) s
section
variable {X : Cx} {k : Nat} {f : Addr} {fd : FuncData} {ps : List Str} {sp : Sp} {dvs : List V} {ds : List Value} {x : Str} {p pos : Pos} {e : Expr} {es : List Expr} {t : TA}
end
/-! ### try: .. except T as n: .. -/
def tTryAs (K : PySem.W.Frag) (tb : XK → TS) (i : Nat) (CT : Value) (th : TS) : TS := fun D σ H =>
  tb (fun cls _ H1 => PySem.W.exmOne K cls CT = some true ∧ ∃ C, cls = .ref C ∧ ∀ ea, H1 ea = none →
    th { nx := fun σ' H' => D.nx (σ'.set i none) H', rt := D.rt, bk := fun σ' H' => D.bk (σ'.set i none) H', ct := fun σ' H' => D.ct (σ'.set i none) H' } (σ.set i (some (.ref ea))) (upd H1 ea (excO ea C))) D σ H
end L2

namespace L2
open PySem PySem.Spec PyProof.Rows Builtin Builtin.ObjectAttr Builtin.Getset_descriptor
/-! ### the class of an exception that was caught -/
structure ExcF (K : PySem.W.Frag) (C : Addr) : Prop where
  cl : (PySem.W.clsIn K C).isSome = true
  ga : PySem.W.findIn K (.ref C) "__getattribute__" = some (some (.builtin "BaseException.__getattribute__"))
  hk : PySem.W.findIn K (.ref C) "__getattr__" = some none
  cs : PySem.W.findIn K (.ref C) "__class__" = some (some (.builtin "object.__class__"))
  gt : PySem.W.specialIn K (.builtin "object.__class__") "__get__" = some (some (.builtin "getset_descriptor.__get__"))
  tk : PySem.W.takesIn K (.builtin "object.__class__") = some true
  mo : PySem.W.mroIn K C (.type "object") = some true
  mb : PySem.W.mroIn K C (.type "BaseException") = some true
def ExcAt (a C : Addr) (h : Heap) : Prop := ∃ o, h.get? a = some o ∧ o.cls = .ref C
section
variable {prog : Program} {w : World} {A : Around} {E : Value → Shared → Prop} {K : PySem.W.Frag} {a C : Addr}
end
end L2

namespace My
open PySem L2
/-! ### a card's text -/
def cardL : List Nat → Option Nat
  | [l, f] => if 97 ≤ l ∧ l ≤ 100 ∧ 49 ≤ f ∧ f ≤ 56 then some (8 * (l - 97) + (f - 49)) else none
  | _ => none
def cardOf (t : Str) : Option Nat := cardL t.cps.toList
def cardT (c : Nat) : Str := ⟨#[97 + c / 8, 49 + c % 8]⟩
abbrev sLet : Str := "abcd"
abbrev sFig : Str := "12345678"
theorem fig_at : ∀ n < 8, atI sFig.cps.toList ((n : Nat) : Int) = some (49 + n) := by decide +kernel
theorem fig_mem (c : Nat) : c ∈ sFig.cps.toList ↔ 49 ≤ c ∧ c ≤ 56 := by
  have e : sFig.cps.toList = [49, 50, 51, 52, 53, 54, 55, 56] := by decide +kernel
  rw [e]
  simp only [List.mem_cons, List.not_mem_nil, or_false]
  omega
theorem find_fig (c : Nat) : Txt.find sFig ⟨#[c]⟩ = if 49 ≤ c ∧ c ≤ 56 then ((c - 49 : Nat) : Int) else -1 := by
  by_cases h : 49 ≤ c ∧ c ≤ 56
  · rw [if_pos h]
    have h4 : c = 49 ∨ c = 50 ∨ c = 51 ∨ c = 52 ∨ c = 53 ∨ c = 54 ∨ c = 55 ∨ c = 56 := by omega
    rcases h4 with rfl | rfl | rfl | rfl | rfl | rfl | rfl | rfl <;> decide +kernel
  · rw [if_neg h]
    have e := PyProof.Rows.empty_one sFig c
    rw [decide_eq_false (fun z => h ((fig_mem c).mp z))] at e
    unfold Txt.find
    cases q : Builtin.Str.occurrences sFig ⟨#[c]⟩ 0 sFig.length 1 with
    | nil => rfl
    | cons a b => rw [q] at e; cases e
theorem two_fit (a b : Nat) : (⟨#[a]⟩ : Str).length + (⟨#[b]⟩ : Str).length ≤ sizeLine := by
  show 1 + 1 ≤ sizeLine
  rw [sizeLine_eq]
  decide
end My

namespace L2
open PySem PySem.Spec PyProof.Rows Builtin Builtin.ObjectAttr Builtin.Getset_descriptor
section
variable {prog : Program} {w : World} {A : Around} {E : Value → Shared → Prop} {K : PySem.W.Frag} {a C : Addr}
end
/-! ### isinstance(e, T) of a caught exception -/
def isC : V → Bool | .ref _ => true | .ty _ => true | _ => false
def toC : V → Value | .ref D => .ref D | .ty n => .type n | _ => .none
end L2

namespace L2
open PySem PySem.Spec PyProof.Rows
/-! ### texts -/
section
variable {X : Cx} {pos : Pos}
theorem mt_find : MtR X "str.find" (fun x xs H Q => ∃ i j, x = .str i ∧ xs = [.str j] ∧ Q (.int (Txt.find i j)) H) := by
  intro pins s σ H x xs v us Q I rx rv h
  obtain ⟨i, j, rfl, rfl, q⟩ := h
  obtain ⟨t, rfl⟩ := rx
  obtain ⟨u, rfl, ru⟩ := rv.one
  obtain ⟨t', rfl⟩ := ru
  exact SC.find ⟨.int _, H, I.tok _, ⟨_, rfl⟩, q⟩
/-! ### {} -/
def tDNew : TE := fun _ H Q => ∀ p, H p = none → Q (.ref p) (upd H p (.dK []))
/-! ### a callee that may raise, asked where it does not -/
theorem pass1 {P : Program} {w : World} : Passes (CX1 P w) X E0 := fun _ _ _ _ _ _ _ h => by
  obtain ⟨_, _, _, _, _, _, _, _, _, _, _, z⟩ := h
  exact z.elim
end
end L2

namespace L2
open PySem PySem.Spec PyProof.Rows
/-! ### lists of texts -/
def vS (ys : List Str) : List V := ys.map V.str
section
variable {X : Cx}
/-! ### join, split -/
/-! ### slices of texts -/
def rSlS : V → Option Int → Option Int → Hp → VK → Prop := fun x lo hi H Q => ∃ z, x = .str z ∧ z.length ≤ 10000 ∧ Q (.str (Txt.slice z lo hi)) H
/-! ### for c in a text -/
def Its (x : Str) : It := ⟨fun i _ => i < x.cps.size, fun i H v H' => H' = H ∧ ∃ c, x.cps[i]? = some c ∧ v = .str ⟨#[c]⟩, fun i _ => x.cps.size ≤ i⟩
def iStr (tl : TE) : TI := fun σ H R => tl σ H fun x H1 => ∃ z, x = .str z ∧ R (Its z) H1
end
end L2

namespace L2
open PySem PySem.Spec PyProof.Rows
/-! ### raise C("..") from None, in an except suite -/
inductive Pth (h : Heap) : Addr → Addr → Prop where
  | here (a : Addr) : Pth h a a
  | step {a b c : Addr} {o : Obj} {vs : Array Value} : h.get? a = some o → o.data = .fields vs → vs[2]? = some (.ref b) → Pth h b c → Pth h a c
section
variable {prog : Program} {w : World}
end
end L2

namespace L2
open PySem PySem.Spec PyProof.Rows
section
variable {X : Cx} {pins : List (Addr × Obj)} {σ : St} {H : Hp} {s : Shared} {x : Str} {np cp cp2 cpos rpos : Pos} {msg : Str} {j j2 : Nat} {C e1 : Addr}
end
end L2

namespace L2
open PySem PySem.Spec PyProof.Rows
/-! ### try: .. except T: raise C("..") from None -/
def tTryR (K : PySem.W.Frag) (tb : XK → TS) (CT : Value) (C2 : Addr) (E : XK) : TS := fun D σ H => tb (fun cls _ H1 => PySem.W.exmOne K cls CT = some true ∧ E (.ref C2) none H1) D σ H
/-! ### f(a), where a may raise and f not -/
/-! ### xs == [] -/
end L2

namespace L2
open PySem PySem.Spec PyProof.Rows
/-! ### sorted(..): what comes is the same things in some order, whatever the comparisons answer -/
section
variable {P : Program} {w : World} {A : Around} {E : Value → Shared → Prop} {s : Shared} {kd : SortKind} {a0 : Array Keyed}
/-- comparisons of these keys answer, and change nothing -/
def Cmp (P : Program) (w : World) (A : Around) (s : Shared) (kd : SortKind) (ks : List Value) : Prop :=
  ∀ x ∈ ks, ∀ y ∈ ks, ∀ (E : Value → Shared → Prop) (Q : Bool → Shared → Prop), (∀ b, Q b s) → wpAny (model P w) A (keyLt' kd x y) Q E s
structure SB (kd : SortKind) (a0 : Array Keyed) (st : SortSt) : Prop where
  pm : (arrOf st).Perm a0
  kn : kindOf st = kd
  fl : failedOf st = none
  pn : pendingOf st = #[]
variable (hC : Cmp P w A s kd (a0.toList.map (·.1)))
include hC
end
section
variable {P : Program} {w : World} {A : Around} {E : Value → Shared → Prop} {s : Shared} {kd : SortKind}
/-- what sorting needs to know of the keys, in any state that keeps what is there -/
structure Keys (P : Program) (w : World) (A : Around) (s : Shared) (kd : SortKind) (vs : List Value) : Prop where
  kind : 2 ≤ vs.length → ∀ (E : Value → Shared → Prop) (Q : SortKind → Shared → Prop), Q kd s → wpAny (model P w) A (keyKind' vs.toArray) Q E s
  cmp : Cmp P w A s kd vs
end
end L2

namespace L2
open PySem PySem.Spec PyProof.Rows
/-! ### sorted(..) of pairs of whole numbers -/
section
variable {P : Program} {w : World} {A : Around} {E : Value → Shared → Prop} {s : Shared}
/-- a pair of whole numbers on the heap -/
def PairAt (h : Heap) (v : Value) : Prop := ∃ (a : Addr) (i j : Int) (t u : Tok) (o : Obj) (n : Nat), v = .ref a ∧ h.get? a = some o ∧ o.cls = .type "tuple" ∧ o.data = .seq #[.int i t, .int j u] n
end
end L2

namespace L2
open PySem PySem.Spec PyProof.Rows
section
variable {X : Cx}
/-! ### sum(xs), xs.count(k) -/
/-! ### e as a row of its own, where e may raise -/
end
/-! ### for i, x in enumerate(xs) -/
def Ite (K : PySem.W.Frag) (a : Addr) : It :=
  ⟨fun i H => ∃ xs x, SqL K H a xs ∧ xs[i]? = some x, fun i H v H' => ∃ p x, v = .ref p ∧ H p = none ∧ H' = upd H p (.tup [.int (i : Nat), x]) ∧ ∀ xs, SqL K H a xs → xs[i]? = some x, fun i H => ∃ xs, SqL K H a xs ∧ xs.length ≤ i⟩
theorem turn_enum {P : Program} {w : World} {K : PySem.W.Frag} {es : List Expr} {x1} {tp : Pos} (a e it : Addr) (hne : e ≠ it) : Turn P w K (.Tuple es x1 tp) (Ite K a) [e, it] e (fun i h => (∃ old, IsEnum h e it i old) ∧ h.IsListIter it a i) where
  mem := by simp
  obj := fun i h st b hb => by
    obtain ⟨⟨old, he⟩, ⟨o, ho, c, d⟩⟩ := st
    rcases List.mem_cons.mp hb with rfl | hb
    · exact ⟨_, he, fun v z => by cases z⟩
    · have q : b = it := by simpa using hb
      subst q
      exact ⟨o, ho, fun v z => by rw [d] at z; cases z⟩
  keep := fun i h h' st k => by
    obtain ⟨⟨old, he⟩, hi⟩ := st
    exact ⟨⟨old, k e (by simp) _ he⟩, hi.at fun o q => k it (by simp) o q⟩
  item := by
    intro X hP hw hK hc i pins s σ H E I hf st hg
    subst hP hw hK
    obtain ⟨xs, x, hq, hx⟩ := hg
    obtain ⟨⟨old, he⟩, hit⟩ := st
    obtain ⟨its, rv, p, hz⟩ := I.list hq
    obtain ⟨u, hu, ru⟩ := rv.get hx
    obtain ⟨a0, a1, a2, a3, a4, a5⟩ := hf e (by simp)
    obtain ⟨f0, f1, f2, f3, f4, f5⟩ := hf it (by simp)
    refine wpAny_pyNext_enum_item he hit p.isList (x := u) (by simpa using hu) hne fun h' eo hit' ht hsz hk => ⟨_, rfl, ?_⟩
    refine wpAny_letOwnedTupleGo_enum eo fun h2 he2 sb2 => ?_
    have sb2' : Heap.SameBut e h' h2 := sb2
    have hn : H s.heap.objs.size = none := I.fresh
    have le : e < s.heap.objs.size := Heap.lt_size he
    obtain ⟨oi, hoi, ci, di⟩ := id hit
    have li : it < s.heap.objs.size := Heap.lt_size hoi
    -- the pair is laid, then the two iterators move on
    have I1 : Inv X pins σ (upd H s.heap.objs.size (.tup [.int (i : Nat), x])) { s with heap := s.heap.push { cls := .type "tuple", data := .seq #[.int i s.toks, u] }, toks := s.toks + 1 } :=
      I.laid (t' := s.toks + 1) (fun b ob q => Heap.get?_push_of_some _ q) (Nat.le_refl _) ⟨by rw [sizeLine_eq]; show 2 ≤ _; decide, [.int i s.toks, u], .cons ⟨_, rfl⟩ (.cons ru .nil), IsTup.new _ _⟩
    obtain ⟨oi2, hoi2, ci2, di2⟩ := id hit'
    have hoi3 : h2.get? it = some oi2 := (sb2'.2 it (Ne.symm hne)).trans hoi2
    have gi : ((s.heap.push { cls := .type "tuple", data := .seq #[.int i s.toks, u] }).update it (fun _ => oi2)).get? it = some oi2 := by
      refine Heap.get?_update_self _ (Heap.get?_push_of_some _ hoi) ?_
      exact Obj.isFreed_of_fields di2
    have I2 := I1.turned (h' := (s.heap.push { cls := .type "tuple", data := .seq #[.int i s.toks, u] }).update it (fun _ => oi2)) (t' := s.toks + 1) (it := it) (fun b o hb q => (Heap.get?_update_other _ _ (Ne.symm hb)).trans q) (by rw [upd_ne (Nat.ne_of_lt li)]; exact f0) f1 f3 f4 f5
    have I3 := I2.turned (h' := h2) (t' := s.toks + 1) (it := e) (fun b o hb q => by
      by_cases c : b = it
      · subst c
        have q' := gi.symm.trans q
        cases q'
        exact hoi3
      · have q1 : (s.heap.push { cls := .type "tuple", data := .seq #[.int i s.toks, u] }).get? b = some o := (Heap.get?_update_other _ _ (Ne.symm c)).symm.trans q
        by_cases d : b = s.heap.objs.size
        · subst d
          have q2 := (Heap.get?_push_size s.heap (o := { cls := .type "tuple", data := .seq #[.int i s.toks, u] }) rfl).symm.trans q1
          cases q2
          exact (sb2'.2 _ hb).trans ht
        · rw [Heap.get?_push_ne _ _ _ d] at q1
          exact (sb2'.2 b hb).trans (hk b o hb c q1)) (by rw [upd_ne (Nat.ne_of_lt le)]; exact a0) a1 a3 a4 a5
    refine ⟨.ref s.heap.objs.size, _, I3, rfl, ⟨s.heap.objs.size, x, rfl, hn, rfl, fun ys hy => by rw [I.list_inj hy hq]; exact hx⟩, ⟨⟨_, he2⟩, oi2, hoi3, ci2, di2⟩, fun b hb => ?_⟩
    rcases List.mem_cons.mp hb with rfl | hb
    · rw [upd_ne (Nat.ne_of_lt le)]; exact a0
    · have q : b = it := by simpa using hb
      subst q
      rw [upd_ne (Nat.ne_of_lt li)]; exact f0
  done := by
    intro X hP hw hK hc i pins s σ H E I hf st hg
    subst hP hw hK
    obtain ⟨xs, hq, hx⟩ := hg
    obtain ⟨⟨old, he⟩, hit⟩ := st
    obtain ⟨its, rv, p, hz⟩ := I.list hq
    obtain ⟨f0, f1, f2, f3, f4, f5⟩ := hf it (by simp)
    have hl := rv.length
    exact wpAny_pyNext_enum_end (I.ok.hd hc) he hit p.isList (by simp; omega) fun h' eb => ⟨rfl, I.turned (t' := s.toks) (fun b o hb e => eb b o hb e) f0 f1 f3 f4 f5⟩
  self := fun _ _ _ _ _ st h => by
    obtain ⟨⟨old, he⟩, _⟩ := st
    exact wpAny_pyIter_enum he h
section
variable {X : Cx}
def iEnum (K : PySem.W.Frag) (ta : TA) : TI := fun σ H R => ta σ H fun vs H1 => ∃ a xs, vs = [.ref a] ∧ H1 a = some (.lst xs) ∧ R (Ite K a) H1
theorem pi_enum {es : List Expr} {x1} {tp p pos : Pos} {l : Expr} {ta : TA} (hg : Gl X "enumerate") (hm : X.mg "enumerate" = none) (ha : PA X [l] ta) (hs : starEach [l] X.env = [(false, eval l X.env)] := by rfl) : PI X (.Tuple es x1 tp) (.Call (.Name "enumerate" p) [l] [] pos) (iEnum X.K ta) := by
  intro pins s σ H R I h
  refine Call_ (ld_blt I hg hm boot_enumerate (PyProof.Rows.callWith_type1 (thn (ha pos pins s σ H _ I h) fun us s1 ⟨vs, H1, I1, r1, q1⟩ => ?_) hs rfl))
  obtain ⟨a, xs, rfl, hL, q⟩ := q1
  obtain ⟨u, rfl, ru⟩ := vals1 r1
  cases ru
  obtain ⟨z, its, n, r, hl, e⟩ := I1.lstM hL
  refine call_enumerate_1 e fun h' en li sz hk => ?_
  have I2 : Inv X pins σ H1 { s1 with heap := h' } := I1.kept (t' := s1.toks) hk
  refine wpAny_pyIter_enum en ⟨s1.heap.objs.size + 1, [s1.heap.objs.size + 1, s1.heap.objs.size], _, Ite X.K a, H1, rfl, I2, turn_enum a _ _ (Nat.succ_ne_self _), ⟨⟨_, en⟩, li⟩, fun b hb => ?_, q⟩
  have hb' : s1.heap.objs.size ≤ b := by
    rcases List.mem_cons.mp hb with rfl | hb
    · exact Nat.le_succ _
    · have q : b = s1.heap.objs.size := by simpa using hb
      rw [q]
      exact Nat.le_refl _
  have z := I1.fpOk (H' := H1) hb' (I1.hok.fresh hb')
  exact z
end
end L2

namespace L2
open PySem PySem.Spec PyProof.Rows
section
open PySem.SeqAt
open PySem.AutoSeq1 (wpAny_loadPart')
open PySem.MeetsSeq PySem.MeetsSeq2 PySem.MeetsSeq3
/-! ### xs < ys of lists of whole numbers -/
end
section
variable {X : Cx}
end
end L2

namespace L2
open PySem PySem.Spec PyProof.Rows
/-! ### [.. for k in range(n)], where of each item only something is known -/
end L2

namespace L2
open PySem PySem.Spec PyProof.Rows
section
variable {X : Cx} {pins : List (Addr × Obj)} {σ : St} {H : Hp} {s : Shared}
/-- untracked records of ours have turned -/
theorem Inv.turnedAll {h' : Heap} {t' : Nat} {fp : List Addr} (I : Inv X pins σ H s) (k : ∀ b o, b ∉ fp → s.heap.get? b = some o → h'.get? b = some o) (hf : ∀ b ∈ fp, FpOk X pins H b) : Inv X pins σ H { s with heap := h', toks := t' } := by
  have nfp : ∀ b u, H b = some u → b ∉ fp := fun b u e z => by rw [(hf b z).1] at e; cases e
  refine I.step (g' := s.gens) (d' := s.drawn) (ch := fp) (fun b hb => ⟨(hf b hb).2.2.2.1, (hf b hb).2.1, (hf b hb).2.2.2.2.1, (hf b hb).2.2.2.2.2⟩) (fun b o _ _ hc e _ => k b o hc e) (fun b o _ _ hc e _ => ⟨o.slots, k b o hc e⟩) (fun _ _ _ _ n => n)
    (fun b o hc e => ⟨o, k b o hc e⟩) (fun _ _ e => e) (fun _ _ _ e => e) (fun b ps e => ⟨#[], by rw [e]; simp⟩) (fun m hm => ?_) (fun b u e => ?_) I.bare
  · obtain ⟨o, es, ep, ho, r⟩ := hm
    exact ⟨o, es, ep, k _ o (fun z => (hf _ z).2.1 rfl) ho, r⟩
  · refine (I.hok b u e).stay (fun c v hc q => k c v ?_ q) (fun _ q => q) fun _ _ q => q
    rcases hc with z | z
    · rw [z]; exact nfp b u e
    · exact nfp c _ z
end
/-! ### for x, y in zip(xs, ys) -/
def Itz (K : PySem.W.Frag) (a b : Addr) : It :=
  ⟨fun i H => ∃ xs ys x y, SqL K H a xs ∧ SqL K H b ys ∧ xs[i]? = some x ∧ ys[i]? = some y, fun i H v H' => ∃ p x y, v = .ref p ∧ H p = none ∧ H' = upd H p (.tup [x, y]) ∧ (∀ xs, SqL K H a xs → xs[i]? = some x) ∧ ∀ ys, SqL K H b ys → ys[i]? = some y,
    fun i H => ∃ xs ys, SqL K H a xs ∧ SqL K H b ys ∧ (xs.length ≤ i ∨ ys.length ≤ i)⟩
section
variable {X : Cx}
def iZip (K : PySem.W.Frag) (ta : TA) : TI := fun σ H R => ta σ H fun vs H1 => ∃ a b xs ys, vs = [.ref a, .ref b] ∧ SqL K H1 a xs ∧ SqL K H1 b ys ∧ R (Itz K a b) H1
/-! ### max(xs), xs.index(k) -/
end
/-! ### [.. for k in range(n) if p(k)], where of each item only something is known -/
end L2

namespace L2
open PySem PySem.Spec PyProof.Rows
/-! ### xs != [] -/
end L2

namespace L2
open PySem PySem.Spec PyProof.Rows
/-! ### t > u of tuples of whole numbers -/
theorem rcGt_int (A : Around) (s : Shared) (a : Int) (t : Tok) (c : Int) (u : Tok) (prog : Program) (w : World) (E : Value → Shared → Prop) (Q : Value → Shared → Prop) (h : Q (.bool (decide (c < a))) s) :
    wpAny (model prog w) A (richCompare .Gt (.int a t) (.int c u)) Q E s :=
  (PyProof.Rows.gt_int h : wpAny (model prog w) A (compareOp .Gt (.int a t) (.int c u)) Q E s)
section
open PySem.SeqAt
open PySem.AutoSeq1 (wpAny_loadPart')
open PySem.MeetsSeq PySem.MeetsSeq2 PySem.MeetsSeq3
theorem tuple_gt_ints (l b : Addr) (items items2 : Array Value) (n n2 : Nat) (dd dd2 : Option Addr) (sl sl2 : Array (Option Value)) (ns ms : List Int) (hi : IntsAre items.toList ns) (hj : IntsAre items2.toList ms) :
    Meets (Builtin.«tuple.__gt__» ⟨[.ref l, .ref b], []⟩)
      (fun _ R s => s.heap.get? l = some { cls := .type "tuple", dict := dd, data := .seq items n, slots := sl } ∧ s.heap.get? b = some { cls := .type "tuple", dict := dd2, data := .seq items2 n2, slots := sl2 } ∧
        R (.ok (.ret (.bool (HT.lexLt ms ns)))) s) :=
  .of_wp fun prog w A R s h => by
    obtain ⟨hp, g, d, tk, os⟩ := s; obtain ⟨hl, hb, h⟩ := h
    have f2 := AutoSeq1.sub_tuple_tuple
    have z1 : items.size = ns.length := by rw [← hi.length]; simp
    have z2 : items2.size = ms.length := by rw [← hj.length]; simp
    wp_walk using wpAny_loadPart' hl, wpAny_loadPart' hb, wpAny_forIn_list _ (fun rest b s' => b.1 = none ∧ s' = ⟨hp, g, d, tk, os⟩ ∧ ∃ (vs ws : List Value) (ns' ms' : List Int), rest = vs.zip ws ∧
      IntsAre vs ns' ∧ IntsAre ws ms' ∧ ns'.length + items2.size = ms'.length + items.size ∧ R (.ok (.ret (.bool (HT.lexLt ms' ns')))) ⟨hp, g, d, tk, os⟩) _
    case turn =>
      rintro ⟨y, x⟩ rest b s' ⟨hb', rfl, vs, ws, ns', ms', hz, hvi, hwi, hlen, hR⟩
      cases hvi with
      | nil => rw [List.zip_nil_left] at hz; cases hz
      | cons a t hvi' =>
        cases hwi with
        | nil => rw [List.zip_nil_right] at hz; cases hz
        | cons c u hwi' =>
          rw [List.zip_cons_cons] at hz
          injection hz with hyx hrest
          injection hyx with hy hx
          subst hy hx
          rw [HT.lexLt_cons] at hR
          simp only [List.length_cons] at hlen
          obtain ⟨e, he, hiff⟩ := HT.eqAt_int A.in1 ⟨hp, g, d, tk, os⟩ a t c u
          refine wpAny_bind (he prog w _ _ ?_)
          cases e with
          | true =>
            rw [if_pos (hiff.mp rfl).symm] at hR
            wp_walk
            exact ⟨rfl, rfl, _, _, _, _, hrest, hvi', hwi', by omega, hR⟩
          | false =>
            rw [if_neg (fun q => absurd (hiff.mpr q.symm) Bool.false_ne_true)] at hR
            have hri := rcGt_int A.in1 ⟨hp, g, d, tk, os⟩ a t c u prog w
            wp_walk using hri
            exact ⟨_, rfl, by simpa using hR⟩
    case fin =>
      rintro ⟨b1, b2⟩ s' ⟨hb', rfl, vs, ws, ns', ms', hz, hvi, hwi, hlen, hR⟩
      simp only at hb'
      subst hb'
      have hv : HT.lexLt ms' ns' = decide (items2.size < items.size) := by
        cases hvi with
        | nil =>
          cases hwi with
          | nil =>
            simp only [List.length_nil] at hlen
            rw [HT.lexLt_nil_nil]
            exact (decide_eq_false (by omega)).symm
          | cons c u hw =>
            simp only [List.length_nil, List.length_cons] at hlen
            rw [HT.lexLt_cons_nil]
            exact (decide_eq_false (by omega)).symm
        | cons a t hv =>
          cases hwi with
          | nil =>
            simp only [List.length_nil, List.length_cons] at hlen
            rw [HT.lexLt_nil_cons]
            exact (decide_eq_true (by omega)).symm
          | cons c u hw =>
            rw [List.zip_cons_cons] at hz
            cases hz
      rw [hv] at hR
      wp_walk
      exact ⟨_, rfl, by simpa [Builtin.Tuple.tupleCompareSizes] using hR⟩
    case h =>
      exact ⟨rfl, rfl, items.toList, items2.toList, ns, ms, rfl, hi, hj, by omega, h⟩
end
section
variable {X : Cx}
theorem op_gtT (hu : X.A.units + 64 < cLine) : OpR X (compareOp .Gt) (fun x y H Q => ∃ (a b : Addr) (ns ms : List Int), x = .ref a ∧ y = .ref b ∧ SqT X.K H a (ns.map V.int) ∧ SqT X.K H b (ms.map V.int) ∧ Q (.bl (HT.lexLt ms ns)) H) := by
  intro pins s σ H x y v u Q I rx ry h
  obtain ⟨a, b, ns, ms, rfl, rfl, ha, hb, q⟩ := h
  cases rx
  cases ry
  obtain ⟨its, r1, p1, _⟩ := I.tuple ha
  obtain ⟨its2, r2, p2, _⟩ := I.tuple hb
  have i1 : IntsAre its.toArray.toList ns := intsAre_of r1
  have i2 : IntsAre its2.toArray.toList ms := intsAre_of r2
  obtain ⟨⟨cls, dd, data, sl⟩, ho, hc, n, hd⟩ := id p1
  obtain ⟨⟨cls2, dd2, data2, sl2⟩, ho2, hc2, n2, hd2⟩ := id p2
  simp only at hc hd hc2 hd2
  subst hc hd hc2 hd2
  exact richCompare_meets_room (op := .Gt) ⟨_, ho, rfl⟩ ⟨_, ho2, rfl⟩ PySem.F.slot_tuple_gt PySem.F.entry_tuple_gt (PySem.F.args_tuple_gt_2 _ _) (tuple_gt_ints a b its.toArray its2.toArray n n2 dd dd2 sl sl2 ns ms i1 i2)
    ⟨ho, ho2, (fun z => nomatch z), .bl (HT.lexLt ms ns), H, I, rfl, q⟩ (by omega)
/-! ### ==, != of lists and of tuples of flat items -/
def eqVs : List V → List V → Bool
  | [], [] => true
  | x :: xs, y :: ys => eqV x y && eqVs xs ys
  | _, _ => false
def rEqF (K : PySem.W.Frag) (tup neg : Bool) : R2 := fun x y H Q => ∃ (a b : Addr) (xs ys : List V), x = .ref a ∧ y = .ref b ∧ (if tup then SqT K H a xs ∧ SqT K H b ys else SqL K H a xs ∧ SqL K H b ys) ∧ xs.all flatV = true ∧ ys.all flatV = true ∧ Q (.bl (if neg then !eqVs xs ys else eqVs xs ys)) H
/-! ### list.index of flat items -/
end
/-! ### [.. for x in ..], where of each item only something is known -/
theorem Same.seqT {K : PySem.W.Frag} {H H' : Hp} {a : Addr} {xs : List V} (e : Same H H') (h : SqT K H a xs) : SqT K H' a xs := by
  rcases h with (h | ⟨o, h⟩) | h
  · exact .inl (.inl (e _ _ h))
  · exact .inl (.inr ⟨o, e _ _ h⟩)
  · exact .inr h
end L2

namespace L2
open PySem PySem.Spec PyProof.Rows
/-! ### isinstance(e, (C1, C2, ..)) of a caught exception -/
def rIsX (K : PySem.W.Frag) : List V → Hp → VK → Prop := fun xs H Q => ∃ a C c b, xs = [.ref a, c] ∧ isC c = true ∧ H a = some (excO a C) ∧ ExcF K C ∧ PySem.W.kitOne K (.ref C) (toC c) = some b ∧ Q (.bl b) H
def rIsXT (K : PySem.W.Frag) : List V → Hp → VK → Prop := fun xs H Q => ∃ a C p cs b, xs = [.ref a, .ref p] ∧ H p = some (.tup cs) ∧ cs.all isC = true ∧ H a = some (excO a C) ∧ ExcF K C ∧ PySem.W.kitAny K (.ref C) (cs.map toC) = some b ∧ Q (.bl b) H
/-! ### text.index(text), where it is found -/
theorem mt_sindex {X : Cx} : MtR X "str.index" (fun x xs H Q => ∃ i j k, x = .str i ∧ xs = [.str j] ∧ 0 ≤ Txt.find i j ∧ Txt.find i j = k ∧ Q (.int k) H) := by
  intro pins s σ H x xs v us Q I rx rv h
  obtain ⟨i, j, k, rfl, rfl, h0, hk, q⟩ := h
  obtain ⟨t, rfl⟩ := rx
  obtain ⟨u, rfl, ru⟩ := rv.one
  obtain ⟨t', rfl⟩ := ru
  unfold Txt.find at h0 hk
  cases ho : Builtin.Str.occurrences i j 0 i.length 1 with
  | nil =>
    rw [ho] at h0
    exact absurd h0 (by decide)
  | cons m rest =>
    rw [ho] at hk
    have hk' : ((m : Nat) : Int) = k := hk
    subst hk'
    exact SC.index ho ⟨.int _, H, I.tok _, ⟨_, rfl⟩, q⟩
end L2

namespace L2
open PySem PySem.Spec PyProof.Rows
/-! ### C() of a class without an __init__ of its own -/
structure Mk0 (K : PySem.W.Frag) (C : Addr) : Prop where
  makes : PySem.W.makesIn K C = true
  init : PySem.W.findIn K (.ref C) "__init__" = some (some (.builtin "object.__init__"))
  kp : PySem.W.keepIn K (.ref C) = true
def tMake0 (C : Addr) : TE := fun σ H Q => ∀ x dx, H x = none → H dx = none → dx ≠ x → Q (.ref x) (upd (upd H dx (.own x)) x (.ins C dx []))
section
variable {X : Cx} {CX : CXT} {k : Nat} {C : Addr} {E : XK} {x m : Str} {p pos apos : Pos} {e o : Expr} {es : List Expr} {ta : TE} {t : TA}
/-! ### o.m(..) of an instance of one of several classes -/
structure MethF (P : Program) (w : World) (K : PySem.W.Frag) (mg : Str → Option Value) (base : Heap) (CX : CXT) (k : Nat) (ι : Type) (m : Str) (ps : List Str) (sp : ι → Sp) (cs : ι → Addr) (f : ι → Addr) (fd : ι → FuncData) : Prop where
  c : ∀ i, Cls K (cs i)
  hm : ∀ i, Meth K (cs i) m (f i)
  F : ∀ i, FnOk P w K mg base CX k (f i) (fd i) ps (sp i)
  hb : ∀ i, Binds K (fd i) ps []
def tMethF {ι : Type} (m : Str) (sp : ι → Sp) (cs : ι → Addr) (E : XK) (ta : TE) (t : TA) : TE := fun σ H Q => ta σ H fun x H1 => ∃ i a dx fs, x = .ref a ∧ H1 a = some (.ins (cs i) dx fs) ∧ fs.lookup m = none ∧ t σ H1 fun vs H2 => sp i (x :: vs) H2 Q E
end
/-! ### isinstance(x, C), C an own class -/
def rIsO (K : PySem.W.Frag) : List V → Hp → VK → Prop := fun xs H Q => ∃ x c t b, xs = [x, c] ∧ isC c = true ∧ TyOf K H x t ∧ PySem.W.kitOne K t (toC c) = some b ∧ Q (.bl b) H
end L2

namespace My
open PySem L2
/-! ### small helpers of the laws -/
theorem pickA {α : Type} (xs : List α) (m : Int) (hm : m = (xs.length : Int)) (h0 : 0 < xs.length) (z : Int) : ∃ v, v ∈ xs ∧ atI xs (z % m) = some v := by
  subst hm
  have a0 : 0 ≤ z % (xs.length : Int) := Int.emod_nonneg _ (by omega)
  have a1 : z % (xs.length : Int) < xs.length := Int.emod_lt_of_pos _ (by omega)
  obtain ⟨k, hk⟩ := Int.eq_ofNat_of_zero_le a0
  rw [hk] at a1 ⊢
  have hk' : k < xs.length := by omega
  exact ⟨xs[k], List.getElem_mem hk', atI_nat (List.getElem?_eq_getElem hk')⟩
theorem fits3 (n : Nat) (h : n ≤ 1000) : n ≤ sizeLine := by rw [sizeLine_eq]; omega
theorem item_at {ns : List Int} {k : Int} (h : 0 < ns.length) : ∃ v : Int, atI (ns.map V.int) (k % (((ns.map V.int).length : Nat) : Int)) = some (.int v) := by
  obtain ⟨v, hv, e⟩ := pickA (ns.map V.int) _ rfl (by rw [List.length_map]; exact h) k
  obtain ⟨n, _, rfl⟩ := List.mem_map.mp hv
  exact ⟨n, e⟩
theorem list2 {α : Type} {l : List α} (h : l.length = 2) : ∃ a b, l = [a, b] := match l, h with | [a, b], _ => ⟨a, b, rfl⟩
section
variable {P : Program} {w : World} {K : PySem.W.Frag} {mg : Str → Option Value} {base : Heap}
structure Lib (P : Program) (w : World) (K : PySem.W.Frag) (mg : Str → Option Value) (base : Heap) (k : Nat) (x : Str) (ps : List Str) (sp : Sp) (f : Addr) (fd : FuncData) : Prop where
  ok : FnOk P w K mg base CX0 k f fd ps sp
  bd : Binds K fd ps []
  kp : PySem.W.keepIn K (.ref f) = true
  mg : mg x = some (.ref f)
structure LibX (P : Program) (w : World) (K : PySem.W.Frag) (mg : Str → Option Value) (base : Heap) (k : Nat) (x : Str) (ps : List Str) (sp : Sp) (f : Addr) (fd : FuncData) : Prop where
  ok : FnOk P w K mg base (CX1 P w) k f fd ps sp
  bd : Binds K fd ps []
  kp : PySem.W.keepIn K (.ref f) = true
  mg : mg x = some (.ref f)
end
end My

namespace My
open PySem L2
/-! ### the 43 calls -/
abbrev sStr : Str := "abcdn"
def cpL (r : Nat) : Nat := if r = 4 then 110 else 97 + r
theorem str_at : ∀ n < 5, atI sStr.cps.toList ((n : Nat) : Int) = some (cpL n) := by decide +kernel
theorem str_mem (c : Nat) : c ∈ sStr.cps.toList ↔ (97 ≤ c ∧ c ≤ 100) ∨ c = 110 := by
  have e : sStr.cps.toList = [97, 98, 99, 100, 110] := by decide +kernel
  rw [e]
  simp only [List.mem_cons, List.not_mem_nil, or_false]
  omega
theorem find_str (c : Nat) : Txt.find sStr ⟨#[c]⟩ = if 97 ≤ c ∧ c ≤ 100 then ((c - 97 : Nat) : Int) else if c = 110 then 4 else -1 := by
  by_cases h : 97 ≤ c ∧ c ≤ 100
  · rw [if_pos h]
    have h4 : c = 97 ∨ c = 98 ∨ c = 99 ∨ c = 100 := by omega
    rcases h4 with rfl | rfl | rfl | rfl <;> decide +kernel
  · rw [if_neg h]
    by_cases h2 : c = 110
    · subst h2
      decide +kernel
    · rw [if_neg h2]
      have e := PyProof.Rows.empty_one sStr c
      rw [decide_eq_false (fun z => by rcases (str_mem c).mp z with z | z; exact h z; exact h2 z)] at e
      unfold Txt.find
      cases q : Builtin.Str.occurrences sStr ⟨#[c]⟩ 0 sStr.length 1 with
      | nil => rfl
      | cons a b => rw [q] at e; cases e
theorem find_cp : ∀ r < 5, Txt.find sStr ⟨#[cpL r]⟩ = ((r : Nat) : Int) := by decide +kernel
theorem find_fg : ∀ r < 8, Txt.find sFig ⟨#[49 + r]⟩ = ((r : Nat) : Int) := by decide +kernel
def callT (m : Nat) : Str := ⟨#[49 + m / 5, cpL (m % 5)]⟩
def W3 : List Str := ["pass", "double", "again"]
def all43 : List Str := W3 ++ (List.range 40).map callT
theorem W3_len : ∀ t ∈ W3, t.length ≠ 2 := by decide +kernel
theorem callT_len (m : Nat) : (callT m).length = 2 := rfl
theorem call_notW {m : Nat} : callT m ∉ W3 := fun h => W3_len _ h rfl
theorem all_cases {t : Str} (h : t ∈ all43) : t ∈ W3 ∨ ∃ m, m < 40 ∧ t = callT m := by
  rcases List.mem_append.mp h with h | h
  · exact .inl h
  · obtain ⟨m, hm, rfl⟩ := List.mem_map.mp h
    exact .inr ⟨m, List.mem_range.mp hm, rfl⟩
theorem all_W {t : Str} (h : t ∈ W3) : t ∈ all43 := List.mem_append_left _ h
theorem all_call {m : Nat} (h : m < 40) : callT m ∈ all43 := List.mem_append_right _ (List.mem_map.mpr ⟨m, List.mem_range.mpr h, rfl⟩)
theorem all_short {t : Str} (h : t ∈ all43) : t.length ≤ 6 := by
  rcases all_cases h with h | ⟨m, _, rfl⟩
  · revert t
    decide +kernel
  · exact (show 2 ≤ 6 by decide)
theorem inV_str {t : Str} : ∀ {ys : List Str}, inV (.str t) (vS ys) = decide (t ∈ ys)
  | [] => by
    rw [decide_eq_false (List.not_mem_nil)]
    rfl
  | y :: ys => by
    have e : inV (.str t) (vS (y :: ys)) = ((y == t) || inV (.str t) (vS ys)) := rfl
    rw [e, inV_str (ys := ys)]
    by_cases c : t = y
    · subst c
      simp
    · have c2 : ¬ y = t := fun z => c z.symm
      have b : (y == t) = false := beq_eq_false_iff_ne.mpr c2
      rw [b, Bool.false_or]
      by_cases d : t ∈ ys
      · rw [decide_eq_true d, decide_eq_true (List.mem_cons_of_mem _ d)]
      · rw [decide_eq_false d, decide_eq_false fun z => by
          rcases List.mem_cons.mp z with z | z
          · exact c z
          · exact d z]
theorem vS_flat : ∀ (ys : List Str), (vS ys).all flatV = true
  | [] => rfl
  | _ :: ys => by
    show (true && (vS ys).all flatV) = true
    rw [vS_flat ys]
    rfl
theorem not_call {a b : Nat} (h : ¬ (49 ≤ a ∧ a ≤ 56 ∧ ((97 ≤ b ∧ b ≤ 100) ∨ b = 110))) : (⟨#[a, b]⟩ : Str) ∉ all43 := fun z => by
  rcases all_cases z with z | ⟨m, hm, e⟩
  · exact W3_len _ z rfl
  · unfold callT at e
    injection e with e
    have e1 : [a, b] = [49 + m / 5, cpL (m % 5)] := congrArg Array.toList e
    injection e1 with e1 e2
    injection e2 with e2 _
    unfold cpL at e2
    split at e2 <;> omega
theorem is_call {a b : Nat} {r : Nat} (h : 49 ≤ a ∧ a ≤ 56) (hb : b = cpL r) (hr : r < 5) : (⟨#[a, b]⟩ : Str) = callT (5 * (a - 49) + r) := by
  unfold callT
  have e1 : 49 + (5 * (a - 49) + r) / 5 = a := by omega
  have e2 : (5 * (a - 49) + r) % 5 = r := by omega
  rw [e1, e2, hb]
theorem callT_inj {m n : Nat} (hm : m < 40) (hn : n < 40) (h : callT m = callT n) : m = n := by
  unfold callT at h
  injection h with h
  have e1 : [49 + m / 5, cpL (m % 5)] = [49 + n / 5, cpL (n % 5)] := congrArg Array.toList h
  injection e1 with e1 e2
  injection e2 with e2 _
  unfold cpL at e2
  split at e2 <;> split at e2 <;> omega
end My

namespace L2
open PySem PySem.Spec PyProof.Rows
section
variable {prog : Program} {w : World} {A : Around} {E : Value → Shared → Prop} {s : Shared}
/-! ### a, b, .. = a list -/
end
section
variable {X : Cx} {e st : Expr} {te : TE} {lo : Option Expr} {tl ts : TO} {pos p2 : Pos}
def gLst (K : PySem.W.Frag) (n : Nat) (t : TGs) : TG := fun v σ H Q => ∃ a xs, v = .ref a ∧ SqL K H a xs ∧ xs.length = n ∧ t xs σ H Q
/-! ### xs[lo::2] of a list of ten items -/
def tStep (K : PySem.W.Frag) (te : TE) (tl ts : TO) : TE := fun σ H Q => te σ H fun x H1 => tl σ H1 fun o H2 => ts σ H2 fun o2 H3 => o2 = some 2 ∧ ∃ a x0 x1 x2 x3 x4 x5 x6 x7 x8 x9, x = .ref a ∧ SqL K H3 a [x0, x1, x2, x3, x4, x5, x6, x7, x8, x9] ∧
  ((o = some 0 ∧ ∀ p, H3 p = none → Q (.ref p) (upd H3 p (.lst [x0, x2, x4, x6, x8]))) ∨ (o = some 1 ∧ ∀ p, H3 p = none → Q (.ref p) (upd H3 p (.lst [x1, x3, x5, x7, x9]))))
/-! ### int(text), list(text), sorted(text) -/
def chars (t : Str) : List Str := t.cps.toList.map fun c => ⟨#[c]⟩
end
/-! ### text.find(..) within a comprehension's block -/
def rFind : V → List V → Hp → VK → Prop := fun x xs H Q => ∃ i j, x = .str i ∧ xs = [.str j] ∧ Q (.int (Txt.find i j)) H
/-! ### a def with a default -/
structure FunD (K : PySem.W.Frag) (x qual : Str) (st : Stmt) (f : Addr) (fd : FuncData) : Prop where
  ex : ∃ (oc : Value) (od : Option Addr) (dV kV doc pm : Value) (an : Option Addr) (cdv ct : Value) (osl : Array (Option Value)),
    fd = PySem.W.fnOf x qual (defArgs st) (defBody st) (defScope st) dV kV doc pm an cdv ct ∧ K.lookup f = some ⟨oc, od, .func fd, osl⟩ ∧ PySem.W.codeIn K cdv qual = true
  kp : PySem.W.keepIn K (.ref f) = true
theorem FunD.ok {P : Program} {w : World} {K : PySem.W.Frag} {mg : Str → Option Value} {base : Heap} {x qual : Str} {st : Stmt} {f : Addr} {fd : FuncData} {N ps : List Str} {k : Nat} {sp : Sp} (F : FunD K x qual st f fd) (S : FnScope N ps (defScope st)) (len : ∀ vs H Q E, sp vs H Q E → vs.length = ps.length)
    (hbody : ∀ (cdv : Value) (A : Around) (outer : List Env) (s : Shared) (H : Hp) (vs : List V) (Q : VK) (E : XK), Room k (A.deeper (envOfC qual (defScope st) s.heap.objs.size f cdv)) → sp vs H Q E →
      ∃ t, PSs (cxOf CX0 P w K mg base N qual (defScope st) f cdv A outer s H E).nox (defBody st) t ∧ t { nx := fun _ H' => Q .non H', rt := Q } (start N vs) H) : FnOk P w K mg base CX0 (k + 1) f fd ps sp := by
  obtain ⟨oc, od, dV, kV, doc, pm, an, cdv, ct, osl, rfl, lk, hcd⟩ := F.ex
  refine fn_of lk hcd S len fun A outer s H vs Q E hr hsp => ?_
  obtain ⟨t, h, q⟩ := hbody cdv A outer s H vs Q E hr hsp
  exact ⟨t, h.nox, q⟩
theorem funD_mk {K : PySem.W.Frag} {x qual : Str} {st : Stmt} {f : Addr} {oc : Value} {od an : Option Addr} {osl : Array (Option Value)} {dV kV doc pm cdv ct : Value} (l : K.lookup f = some ⟨oc, od, .func (PySem.W.fnOf x qual (defArgs st) (defBody st) (defScope st) dV kV doc pm an cdv ct), osl⟩)
    (c : PySem.W.codeIn K cdv qual = true) (k : PySem.W.keepIn K (.ref f) = true) : FunD K x qual st f (PySem.W.fnOf x qual (defArgs st) (defBody st) (defScope st) dV kV doc pm an cdv ct) := ⟨⟨oc, od, dV, kV, doc, pm, an, cdv, ct, osl, rfl, l, c⟩, k⟩
end L2

namespace L2
open PySem PySem.Spec PyProof.Rows
/-! ### x is True, x is False, of a truth -/
end L2

namespace L2
open PySem PySem.Spec PyProof.Rows
open AutoSeq1 (wpAny_loadPart')
/-! ### for i, x in enumerate(t), t a tuple -/
section
variable {prog : Program} {w : World} {A : Around} {E : Value → Shared → Prop} {s : Shared} {it t : Addr} {i : Nat} {items : Array Value}
theorem nextOf_tup {x : Value} {Q : Value → Shared → Prop} (hI : s.heap.IsTupleIter it t i) (hT : s.heap.IsTuple t items) (hx : items[i]? = some x)
    (q : ∀ h', h'.IsTupleIter it t (i + 1) → Heap.SameBut it s.heap h' → Q x { s with heap := h' }) : wpAny (model prog w) A (Builtin.SmallTypes.nextOf (.ref it)) Q E s := by
  obtain ⟨o, g1, g2, g3⟩ := id hI
  obtain ⟨ot, k1, _, _, k2⟩ := hT
  unfold Builtin.SmallTypes.nextOf
  refine wpAny_bind (wpAny_callSpecial?_slot (name := Str.ofString "__next__") hI.typeIs F.slot_tuple_iterator_next (wpAny_call_entry F.slot_tuple_iterator_next hI.typeIs F.entry_tuple_iterator_next ?_ (F.args_tuple_iterator_next_1 _)))
  show wpAny _ _ (field (.ref it) 0 >>= _) _ _ s; refine wpAny_bind (wpAny_field g1 g3 (x := .ref t) rfl ?_)
  show wpAny _ _ (if (Value.ref t == Value.none) = true then _ else _) _ _ s; rw [if_neg (show ¬ ((Value.ref t == Value.none) = true) from Bool.false_ne_true)]
  show wpAny _ _ (field (.ref it) 1 >>= _) _ _ s; refine wpAny_bind (wpAny_field g1 g3 (x := .int i 0) rfl ?_)
  show wpAny _ _ (seqItems? (.ref t) >>= _) _ _ s; refine wpAny_bind (wpAny_seqItems k1 k2 ?_)
  simp only [Int.toNat_natCast, hx]
  exact wpAny_bind (wpAny_setField g1 g3 (by simp) (wpAny_pure ⟨x, rfl, wpAny_pure (q _ ⟨_, Heap.get?_update_self _ g1 (Obj.isFreed_of_fields (Obj.data_mapFields g3 _)), (Obj.cls_mapFields ..).trans g2, by rw [Obj.data_mapFields g3]; simp [rawInt]⟩ (Heap.SameBut.update ..))⟩))
theorem nextOf_tupE {Q : Value → Shared → Prop} (hh : A.handled = none) (hI : s.heap.IsTupleIter it t i) (hT : s.heap.IsTuple t items) (hx : items[i]? = none)
    (q : ∀ h' e, Heap.ExtBut it s.heap h' → (∃ o, h'.get? e = some o ∧ o.cls = .type "StopIteration") → E (.ref e) { s with heap := h' }) : wpAny (model prog w) A (Builtin.SmallTypes.nextOf (.ref it)) Q E s := by
  obtain ⟨o, g1, g2, g3⟩ := id hI
  obtain ⟨ot, k1, _, _, k2⟩ := hT
  unfold Builtin.SmallTypes.nextOf
  refine wpAny_bind (wpAny_callSpecial?_slot (name := Str.ofString "__next__") hI.typeIs F.slot_tuple_iterator_next (wpAny_call_entry F.slot_tuple_iterator_next hI.typeIs F.entry_tuple_iterator_next ?_ (F.args_tuple_iterator_next_1 _)))
  show wpAny _ _ (field (.ref it) 0 >>= _) _ _ s; refine wpAny_bind (wpAny_field g1 g3 (x := .ref t) rfl ?_)
  show wpAny _ _ (if (Value.ref t == Value.none) = true then _ else _) _ _ s; rw [if_neg (show ¬ ((Value.ref t == Value.none) = true) from Bool.false_ne_true)]
  show wpAny _ _ (field (.ref it) 1 >>= _) _ _ s; refine wpAny_bind (wpAny_field g1 g3 (x := .int i 0) rfl ?_)
  show wpAny _ _ (seqItems? (.ref t) >>= _) _ _ s; refine wpAny_bind (wpAny_seqItems k1 k2 ?_)
  simp only [Int.toNat_natCast, hx]
  refine wpAny_bind (wpAny_rule (wpAny_bind (wpAny_setField g1 g3 (by simp) ?_)))
  show wpAny _ _ (newExc (.type "StopIteration") [] >>= _) _ _ _; refine wpAny_bind ?_
  simp only [newExc, newTuple]
  refine wpAny_bind (wpAny_newObj_type (wpAny_bind (m := firstArgMember _ _) (wpAny_of_eq (a := Value.none) (by first | rfl | (simp only [firstArgMember]; rfl)) (wpAny_newObj_type ?_ (by size_fits)))) (by size_fits))
  simp only [raiseNew]
  refine wpAny_bind (wpAny_handled ?_); first | rw [show A.in1.handled = none from hh] | rw [hh]
  exact wpAny_bind (wpAny_pure (wpAny_throw (q _ _ (((Heap.SameBut.update ..).extBut.push _).push _) ⟨_, Heap.get?_push_size _ rfl, rfl⟩)))
end
def IteT (K : PySem.W.Frag) (a : Addr) : It :=
  ⟨fun i H => ∃ xs x, SqT K H a xs ∧ xs[i]? = some x, fun i H v H' => ∃ p x, v = .ref p ∧ H p = none ∧ H' = upd H p (.tup [.int (i : Nat), x]) ∧ ∀ xs, SqT K H a xs → xs[i]? = some x, fun i H => ∃ xs, SqT K H a xs ∧ xs.length ≤ i⟩
section
variable {X : Cx}
def iEnumT (K : PySem.W.Frag) (ta : TA) : TI := fun σ H R => ta σ H fun vs H1 => ∃ a xs, vs = [.ref a] ∧ SqT K H1 a xs ∧ R (IteT K a) H1
end
end L2

namespace L2
open PySem PySem.Spec PyProof.Rows
end L2

namespace L2
open PySem PySem.Spec PyProof.Rows

/-! ### lists of pairs as tables -/
section
variable {κ : Type} [DecidableEq κ]
def valV (kvs : List (κ × V)) (k : κ) : Option V := (kvs.find? fun kv => decide (kv.1 = k)).map (·.2)
/-- in its place, or at the end -/
def putK (kvs : List (κ × V)) (k : κ) (v : V) : List (κ × V) :=
  if (kvs.any fun kv => decide (kv.1 = k)) = true then kvs.map (fun kv => if kv.1 = k then (kv.1, v) else kv) else kvs ++ [(k, v)]
def dropK (kvs : List (κ × V)) (k : κ) : List (κ × V) := kvs.filter fun kv => decide (kv.1 ≠ k)

end


/-! ### a tracked dict, its keys ints and texts or tuples of these -/
/-- raw entries of a dict with tuple keys -/
abbrev KT (H : Hp) : List (List Key × V) → List (List Key × Addr × Value) → Prop := Paired fun p q => p.1 = q.1 ∧ H q.2.1 = some (.tup (p.1.map kV)) ∧ RelV p.2 q.2.2
section
variable {P : Program} {w : World} {H : Hp} {h : Heap} {a : Addr}
end

/-- what the dict at a holds at the key y -/
def DGet (H : Hp) (a : Addr) (y : V) (r : Option V) : Prop :=
  (∃ kvs k, Rd H a (.dK kvs) ∧ y = kV k ∧ r = valV kvs k) ∨ ∃ kvs k b, Rd H a (.dT kvs) ∧ y = .ref b ∧ H b = some (.tup (k.map kV)) ∧ r = valV kvs k
/-- the heap behind a[y] = v -/
def DPut (H : Hp) (a : Addr) (y v : V) (H' : Hp) : Prop :=
  (∃ kvs k, H a = some (.dK kvs) ∧ y = kV k ∧ kvs.length < sizeLine ∧ H' = upd H a (.dK (putK kvs k v))) ∨
  ∃ kvs k b, H a = some (.dT kvs) ∧ y = .ref b ∧ H b = some (.tup (k.map kV)) ∧ kvs.length < sizeLine ∧ H' = upd H a (.dT (putK kvs k v))
section
variable {X : Cx} {pins : List (Addr × Obj)} {σ : St} {H : Hp} {s : Shared} {a : Addr} {y v : V} {u r : Value} {o : Option V} {A : Around} {E : Value → Shared → Prop}

end

section
variable {X : Cx} {pins : List (Addr × Obj)} {σ : St} {H : Hp} {s : Shared} {a : Addr} {kvs : List (Key × V)} {k : Key} {u : Value} {A : Around} {E : Value → Shared → Prop}
end


/-! ### readings and rules -/
/-- the element of a subscription, not a slice -/
def NoSl (i : Expr) : Prop := ∀ ov iv, subscripted i false ov iv = operate [ov, iv] (getItem ov iv)
/-- d[y] -/
def tDGet (td ty : TE) : TE := fun σ H Q => td σ H fun x H1 => ty σ H1 fun y H2 => ∃ a v, x = .ref a ∧ DGet H2 a y (some v) ∧ Q v H2
/-- y in d, y not in d -/
def tDIn (ty td : TE) : TE := fun σ H Q => ty σ H fun y H1 => td σ H1 fun x H2 => ∃ a o, x = .ref a ∧ DGet H2 a y o ∧ Q (.bl o.isSome) H2
def tDNotIn (ty td : TE) : TE := fun σ H Q => ty σ H fun y H1 => td σ H1 fun x H2 => ∃ a o, x = .ref a ∧ DGet H2 a y o ∧ Q (.bl (!o.isSome)) H2
/-- d[y] = v -/
def sDPut (td ty tv : TE) : TS := fun D σ H => tv σ H fun v H1 => td σ H1 fun x H2 => ty σ H2 fun y H3 => ∃ a H4, x = .ref a ∧ DPut H3 a y v H4 ∧ D.nx σ H4
/-- d[y] op= v -/
def sDAug (td ty tv : TE) (rd : V → V → Hp → VK → Prop) : TS := fun D σ H => td σ H fun x H1 => ty σ H1 fun y H2 => ∃ a v, x = .ref a ∧ DGet H2 a y (some v) ∧
  tv σ H2 fun y2 H3 => rd v y2 H3 fun z H4 => ∃ H5, DPut H4 a y z H5 ∧ D.nx σ H5
/-- del d[y] -/
def sDDel (td ty : TE) : TS := fun D σ H => td σ H fun x H1 => ty σ H1 fun y H2 => ∃ a kvs k, x = .ref a ∧ H2 a = some (.dK kvs) ∧ y = kV k ∧ (valV kvs k).isSome = true ∧ D.nx σ (upd H2 a (.dK (dropK kvs k)))

section
variable {X : Cx} {o i e value : Expr} {pos pos' tpos : Pos} {td ty tv : TE}
end


/-! ### displays -/
/-- {}, to be a dict of the kind that is wanted -/
def tDNewK : TE := fun _ H Q => ∀ p, H p = none → Q (.ref p) (upd H p (.dK []))
def tDNewT : TE := fun _ H Q => ∀ p, H p = none → Q (.ref p) (upd H p (.dT []))
section
variable {X : Cx} {pos : Pos}
end

/-- the pairs of a display, from the left -/
def tPairs : List (TE × TE) → St → Hp → (List (V × V) → Hp → Prop) → Prop
  | [], _, H, Q => Q [] H
  | (tk, tv) :: r, σ, H, Q => tk σ H fun x H1 => tv σ H1 fun y H2 => tPairs r σ H2 fun ps H3 => Q ((x, y) :: ps) H3
abbrev VV : List (V × V) → List (Value × Value) → Prop := Paired fun p q => RelV p.1 q.1 ∧ RelV p.2 q.2
def PPs (X : Cx) (pos : Pos) (keys : List (Option Expr)) (values : List Expr) (trs : List (TE × TE)) : Prop :=
  ∀ (pins : List (Addr × Obj)) (s : Shared) (σ : St) (H : Hp) (Q : List (V × V) → Hp → Prop), Inv X pins σ H s → tPairs trs σ H Q →
    wpAny (model X.prog X.w) X.A (evalPairs (pairTrees keys values X.env pos)) (fun vs s' => ∃ ps H', Inv X pins σ H' s' ∧ VV ps vs ∧ Q ps H') X.xe s
def mergeK (kvs more : List (Key × V)) : List (Key × V) := more.foldl (fun acc kv => putK acc kv.1 kv.2) kvs
/-- {k: v, ..} with keys ints and texts; the new dict stands empty while the pairs are made -/
def tDisp (trs : List (TE × TE)) : TE := fun σ H Q => ∀ p, H p = none → tPairs trs σ (upd H p (.dK [])) fun ps H2 => H2 p = some (.dK []) ∧ ∃ kvs : List (Key × V), ps = kvs.map (fun kv => (kV kv.1, kv.2)) ∧ kvs.length ≤ 15 ∧ Q (.ref p) (upd H2 p (.dK (mergeK [] kvs)))
/-! ### methods -/
/-- a method call o.m(e) of a built-in, with one argument: what must be seen of the text -/
structure M1 (X : Cx) (o : Expr) (m : Str) (apos : Pos) (e : Expr) (cpos : Pos) : Prop where
  base : attributeBase o m X.env (eval o X.env) = eval o X.env
  few : ((backTo cpos (starEach [e] X.env)).all (fun x => !x.1) && (backToKw cpos (keywordEach [] X.env)).all (fun x => x.1.isSome)
    && decide (([e] : List Expr).length + ([] : List Keyword).length + (if ([] : List Keyword).isEmpty then 0 else 1) < 30)) = true
  line : (apos.endLine == cpos.line) = true
  trees : backTo cpos (starEach [e] X.env) = [(false, eval e X.env)]
structure M2 (X : Cx) (o : Expr) (m : Str) (apos : Pos) (e f : Expr) (cpos : Pos) : Prop where
  base : attributeBase o m X.env (eval o X.env) = eval o X.env
  few : ((backTo cpos (starEach [e, f] X.env)).all (fun x => !x.1) && (backToKw cpos (keywordEach [] X.env)).all (fun x => x.1.isSome)
    && decide (([e, f] : List Expr).length + ([] : List Keyword).length + (if ([] : List Keyword).isEmpty then 0 else 1) < 30)) = true
  line : (apos.endLine == cpos.line) = true
  trees : backTo cpos (starEach [e, f] X.env) = [(false, eval e X.env), (false, eval f X.env)]

/-- a is a dict, whatever its keys -/
def IsD (H : Hp) (a : Addr) : Prop := (∃ kvs, Rd H a (.dK kvs)) ∨ ∃ kvs, Rd H a (.dT kvs)
section
variable {X : Cx} {pins : List (Addr × Obj)} {σ : St} {H : Hp} {s : Shared} {a : Addr} {y d : V} {u r : Value} {o : Option V} {A : Around} {E : Value → Shared → Prop}
end

def tDGet1 (td ty : TE) : TE := fun σ H Q => td σ H fun x H1 => ∃ a, x = .ref a ∧ IsD H1 a ∧ ty σ H1 fun y H2 => ∃ o, DGet H2 a y o ∧ Q (o.getD .non) H2
def tDGet2 (td ty tx : TE) : TE := fun σ H Q => td σ H fun x H1 => ∃ a, x = .ref a ∧ IsD H1 a ∧ ty σ H1 fun y H2 => tx σ H2 fun z H3 => ∃ o, DGet H3 a y o ∧ Q (o.getD z) H3
/-- d.pop(k): there; d.pop(k, x): there or not -/
def tDPop1 (td ty : TE) : TE := fun σ H Q => td σ H fun x H1 => ∃ a, x = .ref a ∧ IsD H1 a ∧ ty σ H1 fun y H2 => ∃ kvs k v, H2 a = some (.dK kvs) ∧ y = kV k ∧ valV kvs k = some v ∧ Q v (upd H2 a (.dK (dropK kvs k)))
def tDPop2 (td ty tx : TE) : TE := fun σ H Q => td σ H fun x H1 => ∃ a, x = .ref a ∧ IsD H1 a ∧ ty σ H1 fun y H2 => tx σ H2 fun z H3 => ∃ kvs k, H3 a = some (.dK kvs) ∧ y = kV k ∧
  (∀ v, valV kvs k = some v → Q v (upd H3 a (.dK (dropK kvs k)))) ∧ (valV kvs k = none → Q z H3)
section
variable {X : Cx} {o e f : Expr} {apos cpos : Pos} {td ty tx : TE}
end

/-! ### dict(d): a copy -/
section
variable {X : Cx} {pins : List (Addr × Obj)} {σ : St} {H : Hp} {s : Shared} {a : Addr} {kvs : List (Key × V)} {A : Around} {E : Value → Shared → Prop}
end


section
variable {X : Cx} {pins : List (Addr × Obj)} {σ : St} {H : Hp} {s : Shared} {a : Addr} {y : V} {u : Value} {A : Around} {E : Value → Shared → Prop}
end
end L2

namespace My
open PySem L2
/-! ### calls as numbers -/
def cT (c : Nat) : Str := if c < 40 then callT c else if c = 40 then "pass" else if c = 41 then "double" else "again"
def vC (cs : List Nat) : List V := cs.map fun c => V.str (cT c)
theorem vC_len (cs : List Nat) : (vC cs).length = cs.length := List.length_map _
theorem vC_snoc (cs : List Nat) (c : Nat) : vC cs ++ [V.str (cT c)] = vC (cs ++ [c]) := by unfold vC; rw [List.map_append]; rfl
theorem vC_get {cs : List Nat} {i : Nat} {x : V} (h : (vC cs)[i]? = some x) : ∃ c, cs[i]? = some c ∧ x = .str (cT c) := by
  unfold vC at h
  rw [List.getElem?_map] at h
  cases e : cs[i]? with
  | none => rw [e] at h; cases h
  | some c => rw [e] at h; exact ⟨c, rfl, (Option.some.inj h).symm⟩
theorem vC_at {cs : List Nat} {i c : Nat} (h : cs[i]? = some c) : atI (vC cs) ((i : Nat) : Int) = some (.str (cT c)) := by
  refine atI_nat ?_
  unfold vC
  rw [List.getElem?_map, h]
  rfl
theorem cT_bid {c : Nat} (h : c < 40) : cT c = callT c := if_pos h
theorem cT_pass : ∀ c < 43, decide (cT c = "pass") = decide (c = 40) := by decide +kernel
theorem cT_dbl : ∀ c < 43, decide (cT c = "double") = decide (c = 41) := by decide +kernel
theorem cT_agn : ∀ c < 43, decide (cT c = "again") = decide (c = 42) := by decide +kernel
theorem str_dec (s t : Str) : decide (V.str s = V.str t) = decide (s = t) := decide_eq_decide.mpr ⟨fun h => by injection h, fun h => by rw [h]⟩
/-- the number of calls, the place of the last bid, the times -/
def lst3 (s : Nat × Option Nat × Nat) (c : Nat) : Nat × Option Nat × Nat := (s.1 + 1, if c = 41 ∨ c = 42 then (s.2.1, 2 * s.2.2) else if c = 40 then s.2 else (some s.1, 1))
def lastF (cs : List Nat) : Nat × Option Nat × Nat := cs.foldl lst3 (0, none, 1)
theorem last_snoc (cs : List Nat) (c : Nat) : lastF (cs ++ [c]) = lst3 (lastF cs) c := by unfold lastF; rw [List.foldl_append]; rfl
def tailF (cs : List Nat) : Nat := cs.foldl (fun n c => if c = 40 then n + 1 else 0) 0
theorem tail_snoc (cs : List Nat) (c : Nat) : tailF (cs ++ [c]) = if c = 40 then tailF cs + 1 else 0 := by unfold tailF; rw [List.foldl_append]; rfl
theorem snoc_ind {P : List Nat → Prop} (h0 : P []) (h1 : ∀ cs c, P cs → P (cs ++ [c])) (cs : List Nat) : P cs := by
  have h : ∀ l : List Nat, P l.reverse := fun l => by
    induction l with
    | nil => exact h0
    | cons c l ih => rw [List.reverse_cons]; exact h1 _ _ ih
  have := h cs.reverse
  rwa [List.reverse_reverse] at this
theorem last_fst (cs : List Nat) : (lastF cs).1 = cs.length := by
  refine snoc_ind (P := fun cs => (lastF cs).1 = cs.length) rfl (fun cs c ih => ?_) cs
  rw [last_snoc, List.length_append]
  show (lastF cs).1 + 1 = _
  rw [ih]
  rfl
theorem tail_le (cs : List Nat) : tailF cs ≤ cs.length := by
  refine snoc_ind (P := fun cs => tailF cs ≤ cs.length) (Nat.le_refl _) (fun cs c ih => ?_) cs
  rw [tail_snoc, List.length_append]
  show _ ≤ cs.length + 1
  split <;> omega
/-- the last so many are passes, and the one ahead is none -/
theorem tail_at (cs : List Nat) : (∀ j, j < tailF cs → cs[cs.length - 1 - j]? = some 40) ∧ (tailF cs < cs.length → ∃ c, cs[cs.length - 1 - tailF cs]? = some c ∧ c ≠ 40) := by
  refine snoc_ind (P := fun cs => (∀ j, j < tailF cs → cs[cs.length - 1 - j]? = some 40) ∧ (tailF cs < cs.length → ∃ c, cs[cs.length - 1 - tailF cs]? = some c ∧ c ≠ 40)) ⟨fun j h => absurd h (Nat.not_lt_zero _), fun h => absurd h (Nat.not_lt_zero _)⟩ (fun cs c ih => ?_) cs
  have hl : (cs ++ [c]).length = cs.length + 1 := by rw [List.length_append]; rfl
  have htl := tail_le cs
  rw [tail_snoc, hl]
  by_cases e : c = 40
  · rw [if_pos e]
    refine ⟨fun j hj => ?_, fun hj => ?_⟩
    · cases j with
      | zero =>
        rw [show cs.length + 1 - 1 - 0 = cs.length by omega, List.getElem?_append_right (Nat.le_refl _), Nat.sub_self, e]
        rfl
      | succ j =>
        rw [show cs.length + 1 - 1 - (j + 1) = cs.length - 1 - j by omega, List.getElem?_append_left (by omega)]
        exact ih.1 j (by omega)
    · obtain ⟨d, h1, h2⟩ := ih.2 (by omega)
      refine ⟨d, ?_, h2⟩
      rw [show cs.length + 1 - 1 - (tailF cs + 1) = cs.length - 1 - tailF cs by omega, List.getElem?_append_left (by omega)]
      exact h1
  · rw [if_neg e]
    refine ⟨fun j hj => absurd hj (Nat.not_lt_zero _), fun _ => ⟨c, ?_, e⟩⟩
    rw [show cs.length + 1 - 1 - 0 = cs.length by omega, List.getElem?_append_right (Nat.le_refl _), Nat.sub_self]
    rfl
def overC (n : Nat) (cs : List Nat) : Bool := if tailF cs = cs.length then decide (tailF cs = n) else decide (tailF cs = n - 1)
def ownC (n d : Nat) : Bool := decide (d % n = 0) || (decide (n = 4) && decide (d % 2 = 0))
def standsC (n : Nat) (cs : List Nat) (c : Nat) : Bool :=
  if overC n cs = true then false else if c = 40 then true else
  if c < 40 then (match (lastF cs).2.1 with | none => true | some k => decide (cs.getD k 0 < c)) else
  match (lastF cs).2.1 with
  | none => false
  | some k => if c = 41 then (!ownC n (cs.length - k) && decide ((lastF cs).2.2 = 1)) else (ownC n (cs.length - k) && decide ((lastF cs).2.2 = 2))
/-! ### the calling's own state -/
structure Au where
  caller : Nat
  passes : Nat
  times : Nat
  bids : List (Nat × Nat)
def stepA (n : Nat) (a : Au) (c : Nat) : Au :=
  { caller := (a.caller + 1) % n, passes := if c = 40 then a.passes + 1 else 0, times := if c < 40 then 1 else if c = 41 then 2 else if c = 42 then 4 else a.times, bids := if c < 40 then a.bids ++ [(a.caller, c)] else a.bids }
def sideN (n s : Nat) : Nat := if n = 4 then 2 ^ s ||| 2 ^ ((s + 2) % n) else 2 ^ s
theorem side3 : ∀ s < 3, ∀ t < 3, decide (sideN 3 s = sideN 3 t) = decide (s = t) := by decide +kernel
theorem side4 : ∀ s < 4, ∀ t < 4, decide (sideN 4 s = sideN 4 t) = decide (s % 2 = t % 2) := by decide +kernel
structure Rel (n first : Nat) (cs : List Nat) (a : Au) : Prop where
  n34 : n = 3 ∨ n = 4
  ca : a.caller = (first + cs.length) % n
  pa : a.passes = tailF cs
  co : ∀ c ∈ cs, c < 43
  tm : a.times = (lastF cs).2.2
  bd : (a.bids = [] ∧ (lastF cs).2.1 = none ∧ tailF cs = cs.length ∧ tailF cs ≤ n) ∨ ∃ k r bs, a.bids = bs ++ [((first + k) % n, r)] ∧ (lastF cs).2.1 = some k ∧ cs[k]? = some r ∧ r < 40 ∧ tailF cs < cs.length ∧ tailF cs ≤ n - 1
theorem Rel.begin {n first : Nat} (h : n = 3 ∨ n = 4) (hf : first < n) : Rel n first [] ⟨first, 0, 1, []⟩ :=
  ⟨h, (Nat.mod_eq_of_lt hf).symm, rfl, (fun c hc => nomatch hc), rfl, .inl ⟨rfl, rfl, rfl, Nat.zero_le _⟩⟩
def doneA (n : Nat) (a : Au) : Bool := decide ((if a.bids.length = 0 then n else n - 1) ≤ a.passes)
theorem Rel.done {n first : Nat} {cs : List Nat} {a : Au} (R : Rel n first cs a) : doneA n a = overC n cs := by
  unfold doneA overC
  rcases R.bd with ⟨h1, h2, h3, h4⟩ | ⟨k, r, bs, h1, h2, h3, h4, h5, h6⟩
  · rw [h1, if_pos (show ([] : List (Nat × Nat)).length = 0 from rfl), if_pos h3, R.pa]
    exact decide_eq_decide.mpr ⟨fun z => by omega, fun z => by omega⟩
  · rw [h1, if_neg (by rw [List.length_append]; exact Nat.succ_ne_zero _), if_neg (by omega), R.pa]
    exact decide_eq_decide.mpr ⟨fun z => by omega, fun z => by omega⟩
theorem own_side {n : Nat} (h : n = 3 ∨ n = 4) (first k l : Nat) (hk : k ≤ l) : decide (sideN n ((first + k) % n) = sideN n ((first + l) % n)) = ownC n (l - k) := by
  unfold ownC
  rcases h with rfl | rfl
  · rw [side3 _ (Nat.mod_lt _ (by decide)) _ (Nat.mod_lt _ (by decide)), show decide (3 = 4) = false from rfl, Bool.false_and, Bool.or_false]
    exact decide_eq_decide.mpr ⟨fun z => by omega, fun z => by omega⟩
  · rw [side4 _ (Nat.mod_lt _ (by decide)) _ (Nat.mod_lt _ (by decide)), show decide (4 = 4) = true from rfl, Bool.true_and, ← Bool.decide_or]
    exact decide_eq_decide.mpr ⟨fun z => by omega, fun z => by omega⟩
theorem Rel.step {n first : Nat} {cs : List Nat} {a : Au} {c : Nat} (R : Rel n first cs a) (hc : c < 43) (st : standsC n cs c = true) : Rel n first (cs ++ [c]) (stepA n a c) := by
  have n34 := R.n34
  have hl : (cs ++ [c]).length = cs.length + 1 := by rw [List.length_append]; rfl
  have hov : overC n cs = false := by
    unfold standsC at st
    by_cases z : overC n cs = true
    · rw [if_pos z] at st; cases st
    · exact Bool.eq_false_iff.mpr z
  unfold standsC at st
  rw [hov, if_neg (by decide)] at st
  have htl := tail_le cs
  have lf := last_fst cs
  have nov : ∀ (m : Nat), (tailF cs = cs.length → m = n) → (tailF cs ≠ cs.length → m = n - 1) → tailF cs ≠ m := fun m e1 e2 z => by
    unfold overC at hov
    by_cases y : tailF cs = cs.length
    · rw [if_pos y, decide_eq_true (z.trans (e1 y))] at hov; cases hov
    · rw [if_neg y, decide_eq_true (z.trans (e2 y))] at hov; cases hov
  refine ⟨n34, ?_, ?_, ?_, ?_, ?_⟩
  · show (a.caller + 1) % n = _
    rw [R.ca, hl]
    rcases n34 with rfl | rfl <;> omega
  · show (if c = 40 then a.passes + 1 else 0) = _
    rw [tail_snoc, R.pa]
  · intro d hd
    rcases List.mem_append.mp hd with z | z
    · exact R.co d z
    · rw [List.mem_singleton.mp z]; exact hc
  · show (if c < 40 then 1 else if c = 41 then 2 else if c = 42 then 4 else a.times) = _
    rw [last_snoc]
    show _ = (if c = 41 ∨ c = 42 then ((lastF cs).2.1, 2 * (lastF cs).2.2) else if c = 40 then (lastF cs).2 else (some (lastF cs).1, 1)).2
    by_cases c40 : c < 40
    · rw [if_pos c40, if_neg (by omega), if_neg (by omega)]
    · rw [if_neg c40]
      by_cases e40 : c = 40
      · rw [if_neg (by omega), if_neg (by omega), if_neg (by omega), if_pos e40, R.tm]
      · rw [if_neg e40, if_neg c40] at st
        cases e : (lastF cs).2.1 with
        | none => rw [e] at st; cases st
        | some k =>
          rw [e] at st
          dsimp only at st
          by_cases e41 : c = 41
          · rw [if_pos e41] at st
            have := of_decide_eq_true (Bool.and_eq_true_iff.mp st).2
            rw [if_pos e41, if_pos (.inl e41)]
            show 2 = 2 * (lastF cs).2.2
            omega
          · rw [if_neg e41] at st
            have := of_decide_eq_true (Bool.and_eq_true_iff.mp st).2
            have e42 : c = 42 := by omega
            rw [if_neg e41, if_pos e42, if_pos (.inr e42)]
            show 4 = 2 * (lastF cs).2.2
            omega
  · rw [tail_snoc, hl, last_snoc]
    show ((if c < 40 then a.bids ++ [(a.caller, c)] else a.bids) = [] ∧ (if c = 41 ∨ c = 42 then ((lastF cs).2.1, 2 * (lastF cs).2.2) else if c = 40 then (lastF cs).2 else (some (lastF cs).1, 1)).1 = none ∧ _ ∧ _) ∨ ∃ k r bs, (if c < 40 then a.bids ++ [(a.caller, c)] else a.bids) = bs ++ [((first + k) % n, r)] ∧ (if c = 41 ∨ c = 42 then ((lastF cs).2.1, 2 * (lastF cs).2.2) else if c = 40 then (lastF cs).2 else (some (lastF cs).1, 1)).1 = some k ∧ _
    by_cases c40 : c < 40
    · rw [if_pos c40, if_neg (by omega), if_neg (by omega), if_neg (by omega)]
      refine .inr ⟨cs.length, c, a.bids, by rw [R.ca], by rw [lf], ?_, c40, Nat.succ_pos _, Nat.zero_le _⟩
      rw [List.getElem?_append_right (Nat.le_refl _), Nat.sub_self]
      rfl
    · rw [if_neg c40]
      by_cases e40 : c = 40
      · rw [if_neg (by omega), if_pos e40, if_pos e40]
        rcases R.bd with ⟨h1, h2, h3, h4⟩ | ⟨k, r, bs, h1, h2, h3, h4, h5, h6⟩
        · have := nov n (fun _ => rfl) (fun z => absurd h3 z)
          exact .inl ⟨h1, h2, by omega, by omega⟩
        · have := nov (n - 1) (fun z => absurd z (by omega)) (fun _ => rfl)
          refine .inr ⟨k, r, bs, h1, h2, ?_, h4, by omega, by omega⟩
          rw [List.getElem?_append_left (List.getElem?_eq_some_iff.mp h3).1]
          exact h3
      · rw [if_neg e40, if_neg c40] at st
        rw [if_pos (by omega), if_neg e40]
        rcases R.bd with ⟨h1, h2, h3, h4⟩ | ⟨k, r, bs, h1, h2, h3, h4, h5, h6⟩
        · rw [h2] at st; cases st
        · refine .inr ⟨k, r, bs, h1, h2, ?_, h4, Nat.succ_pos _, Nat.zero_le _⟩
          rw [List.getElem?_append_left (List.getElem?_eq_some_iff.mp h3).1]
          exact h3
def ownA (n : Nat) (a : Au) : Bool := match a.bids.getLast? with | none => false | some (s, _) => decide (sideN n s = sideN n a.caller)
/-- the rule by which a call does not stand -/
def brkA (n : Nat) (a : Au) (c : Nat) : Option Str :=
  if doneA n a = true then some "over" else
  match a.bids.getLast? with
  | none => if c = 41 then some "double" else if c = 42 then some "again" else none
  | some (_, r) => if c < 40 then (if r < c then none else some "low") else if c = 41 then (if a.times = 1 ∧ ownA n a = false then none else some "double") else if c = 42 then (if a.times = 2 ∧ ownA n a = true then none else some "again") else none
theorem Rel.own {n first : Nat} {cs : List Nat} {a : Au} (R : Rel n first cs a) {k r : Nat} {bs : List (Nat × Nat)} (h1 : a.bids = bs ++ [((first + k) % n, r)]) (hk : k ≤ cs.length) : ownA n a = ownC n (cs.length - k) := by
  unfold ownA
  rw [h1, List.getLast?_concat]
  show decide (sideN n ((first + k) % n) = sideN n a.caller) = _
  rw [R.ca]
  exact own_side R.n34 first k cs.length hk
theorem Rel.brk {n first : Nat} {cs : List Nat} {a : Au} {c : Nat} (R : Rel n first cs a) (hc : c < 43) (st : standsC n cs c = true) : brkA n a c = none := by
  unfold brkA
  rw [R.done]
  unfold standsC at st
  by_cases z : overC n cs = true
  · rw [if_pos z] at st; cases st
  rw [if_neg z] at st ⊢
  rcases R.bd with ⟨h1, h2, h3, h4⟩ | ⟨k, r, bs, h1, h2, h3, h4, h5, h6⟩
  · rw [h2] at st
    rw [h1, List.getLast?_nil]
    dsimp only at st ⊢
    by_cases e40 : c = 40
    · rw [if_neg (by omega), if_neg (by omega)]
    · rw [if_neg e40] at st
      by_cases c40 : c < 40
      · rw [if_neg (by omega), if_neg (by omega)]
      · rw [if_neg c40] at st; cases st
  · have kl := (List.getElem?_eq_some_iff.mp h3).1
    have ow := R.own h1 (Nat.le_of_lt kl)
    rw [ow, R.tm]
    rw [h2] at st
    have g : cs.getD k 0 = r := by rw [List.getD_eq_getElem?_getD, h3]; rfl
    rw [h1, List.getLast?_concat]
    dsimp only at st ⊢
    by_cases e40 : c = 40
    · rw [if_neg (by omega), if_neg (by omega), if_neg (by omega)]
    · rw [if_neg e40] at st
      by_cases c40 : c < 40
      · rw [if_pos c40] at st ⊢
        rw [g] at st
        rw [if_pos (of_decide_eq_true st)]
      · rw [if_neg c40] at st ⊢
        by_cases e41 : c = 41
        · rw [if_pos e41] at st ⊢
          have z := Bool.and_eq_true_iff.mp st
          rw [if_pos ⟨of_decide_eq_true z.2, by have := z.1; cases h : ownC n (cs.length - k) with | true => rw [h] at this; cases this | false => rfl⟩]
        · rw [if_neg e41] at st ⊢
          have z := Bool.and_eq_true_iff.mp st
          rw [if_pos (by omega), if_pos ⟨of_decide_eq_true z.2, z.1⟩]
end My

namespace My
open PySem L2
def top (i : Nat) : Stmt := PySem.Challenge.pw_trickproof_k19_contracts.main.body.getD i (.Pass ⟨0, 0, 0, 0⟩)
abbrev sReadCall : Stmt := top 10
abbrev sRankOf : Stmt := top 11
abbrev sAbove : Stmt := top 12
abbrev sSide : Stmt := top 14
abbrev sCell : Stmt := top 17
abbrev sAuInit : Stmt := inClass (top 15) 0
abbrev sDone : Stmt := inClass (top 15) 1
abbrev sTurn : Stmt := inClass (top 15) 2
abbrev sOwn : Stmt := inClass (top 15) 3
abbrev sDbl : Stmt := inClass (top 15) 4
abbrev sAgn : Stmt := inClass (top 15) 5
abbrev sBrk : Stmt := inClass (top 15) 6
abbrev sSay : Stmt := inClass (top 15) 7
abbrev sFirst : Stmt := inClass (top 15) 8
abbrev sContract : Stmt := inClass (top 15) 9
section
variable {P : Program} {w : World} {K : PySem.W.Frag} {mg : Str → Option Value} {base : Heap} {f g : Addr} {fd gd : FuncData}
/-! ### a drawn cell -/
def spCell (K : PySem.W.Frag) : Sp := fun vs H Q _ => ∃ (a : Addr) (ns : List Int) (k : Int), vs = [.ref a, .int k] ∧ SqL K H a (ns.map V.int) ∧ ns.length ≤ 63 ∧ 0 ≤ k ∧ k ≤ 10000 ∧ ∀ z : Int, 0 ≤ z → Q (.int z) H
abbrev pCell : List Str := ["_law_script", "_law_k"]
theorem scCell : FnScope ["_law_script", "_law_k", "_law_cell_here"] pCell (defScope sCell) := ⟨rfl, rfl, rfl, by decide +kernel, rfl, by decide +kernel, by decide +kernel⟩
theorem ok_cell {k : Nat} (F : Fun K "_law_cell" "_law_cell" sCell f fd) (ml : mg "len" = none) : FnOk P w K mg base CX0 (k + 1) f fd pCell (spCell K) := by
  refine F.ok scCell (fun vs H Q E h => ?_) (fun cdv A outer s H vs Q E hr h => ?_)
  · obtain ⟨a, ns, k, rfl, _⟩ := h
    rfl
  obtain ⟨a, ns, j, rfl, hS, h63, h0, h1, q⟩ := h
  refine ⟨_, pss_cons (ps_set (i := 2) scCell.nd rfl (Or.inl rfl) (pe_op op_add (pe_op op_mul (pe_op op_mul (pv 1) (pv 1)) pe_int) pe_int))
    (pss_cons (ps_if (pt_cmpR op_gt (pe_callB call_len_seq rfl ml PySem.boot_len (pa_cons (pv 0) pa_nil)) pe_int (nomark _))
      (pss_one (ps_set (i := 2) scCell.nd rfl (Or.inl rfl) (pe_op op_add (pe_op op_mod (pe_ix ix_list (pv 0) (pe_op op_mod (pv 1) (pe_callB call_len_seq rfl ml PySem.boot_len (pa_cons (pv 0) pa_nil))) (fun _ _ => rfl)) (pe_op op_pow pe_int pe_int))
        (pe_op op_mul (pe_op op_fdiv (pv 1) (pe_callB call_len_seq rfl ml PySem.boot_len (pa_cons (pv 0) pa_nil))) pe_int)))) pss_nil)
    (pss_one (ps_ret (pe_op op_mod (pe_op op_mul (pe_op op_mod (pe_op op_add (pe_op op_mul (pv 2) pe_int) (pe_op op_mul (pv 1) pe_int)) pe_int) (pe_op op_add (pe_op op_mod (pv 2) pe_int) pe_int)) pe_int)))), ?_⟩
  have hl : (ns.map V.int).length = ns.length := List.length_map _
  refine ⟨_, rfl, _, rfl, _, _, rfl, rfl, .inl ⟨by omega, by omega⟩, _, _, rfl, rfl, .inr ⟨by decide, by decide⟩, _, _, rfl, rfl, ?_⟩
  refine ⟨_, rfl, a, _, rfl, .inl hS, _, _, rfl, rfl, _, rfl, ?_⟩
  have fin : ∀ (n : Int), (tRet (tOp (rI (fun _ j => 0 < j) fun i j => .int (i % j)) (tOp (rI CMul fun i j => .int (i * j)) (tOp (rI (fun _ j => 0 < j) fun i j => .int (i % j)) (tOp (rI0 fun i j => .int (i + j)) (tOp (rI CMul fun i j => .int (i * j)) (tVar 2) (tC (.int 48271))) (tOp (rI CMul fun i j => .int (i * j)) (tVar 1) (tC (.int 69621)))) (tC (.int 2147483647)))
      (tOp (rI0 fun i j => .int (i + j)) (tOp (rI (fun _ j => 0 < j) fun i j => .int (i % j)) (tVar 2) (tC (.int 65521))) (tC (.int 3)))) (tC (.int 999999937))) : TS)
        { nx := fun _ H' => Q .non H', rt := Q } [some (.ref a), some (.int j), some (.int n)] H := by
    intro n
    refine ⟨_, rfl, _, _, rfl, rfl, .inr ⟨by decide, by decide⟩, _, rfl, _, _, rfl, rfl, .inr ⟨by decide, by decide⟩, _, _, rfl, rfl, _, _, rfl, rfl, (show (0 : Int) < 2147483647 by decide), ?_⟩
    refine ⟨_, rfl, _, _, rfl, rfl, (show (0 : Int) < 65521 by decide), _, _, rfl, rfl, _, _, rfl, rfl, .inl ⟨?_, ?_⟩, _, _, rfl, rfl, (show (0 : Int) < 999999937 by decide), ?_⟩
    · have := Int.emod_nonneg (n * 48271 + j * 69621) (show (2147483647 : Int) ≠ 0 by decide)
      omega
    · have := Int.emod_lt_of_pos (n * 48271 + j * 69621) (show (0 : Int) < 2147483647 by decide)
      omega
    · exact q _ (Int.emod_nonneg _ (by decide))
  refine ite2 (fun c => ?_) (fun c => ?_)
  · have c' : (((ns.map V.int).length : Nat) : Int) > 0 := of_decide_eq_true c
    rw [hl] at c'
    obtain ⟨v, hv⟩ := item_at (ns := ns) (k := j) (by omega)
    have p0 : (0 : Int) < 10 ^ (30 : Int).toNat := by decide
    exact ⟨_, rfl, _, rfl, _, rfl, a, _, rfl, .inl hS, _, _, rfl, rfl, (by rw [hl]; omega), a, _, _, _, rfl, rfl, hS, hv, _, _, rfl, rfl, ⟨by decide, by decide, by decide⟩, _, _, rfl, rfl, p0, _, rfl, _, rfl, a, _, rfl, .inl hS, _, _, rfl, rfl, ⟨by rw [hl]; omega, by rw [hl]; omega⟩, _, _, rfl, rfl, .inr ⟨by decide, by decide⟩, _, _, rfl, rfl, fin _⟩
  · exact fin _
/-! ### bids -/
def stV (r : Nat) : V := if r = 4 then .non else .int (r : Nat)
def bidV (t : Int) (r : Nat) : List V := [.int t, stV r]
def spRankOf (K : PySem.W.Frag) : Sp := fun vs H Q _ => ∃ r : Nat, vs = [stV r] ∧ r < 5 ∧ Q (.int (r : Nat)) H
theorem scRankOf : FnScope ["strain"] ["strain"] (defScope sRankOf) := ⟨rfl, rfl, rfl, by decide +kernel, rfl, by decide +kernel, by decide +kernel⟩
theorem ok_rankOf {k : Nat} {t1 : Tok} (F : Fun K "rank_of" "rank_of" sRankOf f fd) (mN : mg "NO_TRUMPS" = some (.int 4 t1)) : FnOk P w K mg base CX0 (k + 1) f fd ["strain"] (spRankOf K) := by
  refine F.ok scRankOf (fun vs H Q E h => ?_) (fun cdv A outer s H vs Q E hr h => ?_)
  · obtain ⟨r, rfl, _⟩ := h
    rfl
  obtain ⟨r, rfl, h5, q⟩ := h
  refine ⟨_, pss_one (ps_ret (pe_ifExp (pt_cmpR op_isN (pv 0) pe_non (nomark _)) (pe_glob (v := .int 4) rfl mN ⟨_, rfl⟩) (pv 0))), ?_⟩
  refine ⟨_, rfl, rfl, _, rfl, ?_⟩
  by_cases c : r = 4
  · subst c
    exact iteT q
  · have e : stV r = .int (r : Nat) := if_neg c
    rw [e]
    exact iteF ⟨_, rfl, q⟩
/-! ### read_call -/
def spReadCall (K : PySem.W.Frag) (CN : Addr) : Sp := fun vs H Q E => ∃ t : Str, vs = [.str t] ∧ t.length ≤ 1000 ∧ (t ∈ W3 → Q (.str t) H) ∧ (∀ m < 40, t = callT m → ∀ p H', Same H H' → H p = none → H' p = some (.tup (bidV ((m / 5 : Nat) + 1) (m % 5))) → Q (.ref p) H') ∧ (t ∉ all43 → E (.ref CN) none H)
theorem scReadCall : FnScope ["text", "tricks", "rank"] ["text"] (defScope sReadCall) := ⟨rfl, rfl, rfl, by decide +kernel, rfl, by decide +kernel, by decide +kernel⟩
theorem ok_readCall {k : Nat} {CN aW : Addr} {t2 t3 t4 : Tok} (F : Fun K "read_call" "read_call" sReadCall f fd) (mS : mg "STRAINS" = some (.str sStr t2)) (mF : mg "FIGURES" = some (.str sFig t3)) (mN : mg "NO_TRUMPS" = some (.int 4 t4)) (mW : mg "WORDS" = some (.ref aW)) (hW : ∀ H, SqT K H aW (vS W3))
    (mC : mg "NoCall" = some (.ref CN)) (hC : PySem.W.excIn K CN veTail "ValueError.__new__" = true) (mi : mg "isinstance" = none) (ms : mg "str" = none) (ml : mg "len" = none) : FnOk P w K mg base (CX1 P w) (k + 1) f fd ["text"] (spReadCall K CN) := by
  refine F.okX scReadCall (fun vs H Q E h => ?_) (fun cdv A outer s H vs Q E hr h T => ?_)
  · obtain ⟨x, rfl, _⟩ := h
    rfl
  obtain ⟨t, rfl, ht, q1, q2, q3⟩ := h
  refine ⟨_, pss_cons (ps_if (pt_not (pt_truth (pe_callB call_isT rfl mi PyProof.Rows.boot_isinstance (pa_cons (pv 0) (pa_cons (pe_bltn (v := .ty "str") rfl ms PyProof.Rows.boot_str rfl) pa_nil))) (fun _ => rfl))) (pss_one (ps_raise T hr.hd rfl mC hC (pa_cons pe_str pa_nil))) pss_nil)
    (pss_cons (ps_if (pt_cmpR op_in_seq (pv 0) (pe_glob (v := .ref aW) rfl mW rfl) rfl) (pss_one (ps_ret (pv 0))) pss_nil)
    (pss_cons (ps_if (pt_cmpR op_ne (pe_callB call_len_str rfl ml PySem.boot_len (pa_cons (pv 0) pa_nil)) pe_int (nomark _)) (pss_one (ps_raise T hr.hd rfl mC hC (pa_cons pe_str pa_nil))) pss_nil)
    (pss_cons (ps_set (i := 1) scReadCall.nd rfl (Or.inl rfl) (pe_op op_add (pe_bm PySem.F.plainAttrs_str PySem.F.slot_str_find PySem.F.type_str_find mt_find (pe_glob (v := .str sFig) rfl mF ⟨_, rfl⟩) (pa_cons (pe_ix ix_str (pv 0) pe_int (fun _ _ => rfl)) pa_nil)) pe_int))
    (pss_cons (ps_set (i := 2) scReadCall.nd rfl (Or.inl rfl) (pe_bm PySem.F.plainAttrs_str PySem.F.slot_str_find PySem.F.type_str_find mt_find (pe_glob (v := .str sStr) rfl mS ⟨_, rfl⟩) (pa_cons (pe_ix ix_str (pv 0) pe_int (fun _ _ => rfl)) pa_nil)))
    (pss_cons (ps_if (PW.pt (pw_or (pt_cmpR op_eq (pv 1) pe_int (nomark _)) (pw_or1 (pt_cmpR op_lt (pv 2) pe_int (nomark _))))) (pss_one (ps_raise T hr.hd rfl mC hC (pa_cons pe_str pa_nil))) pss_nil)
    (pss_one (ps_ret (pe_tup (pa_cons (pv 1) (pa_cons (pe_ifExp (pt_cmpR op_eq (pv 2) (pe_glob (v := .int 4) rfl mN ⟨_, rfl⟩) (nomark _)) pe_non (pv 2)) pa_nil)))))))))), ?_⟩
  have one : (1 : Nat) ≤ sizeLine := fits3 1 (by decide)
  refine ⟨_, rfl, _, _, _, true, rfl, .str t, rfl, true, rfl, iteF ?_⟩
  refine ⟨_, rfl, aW, vS W3, rfl, .inr (hW _), rfl, vS_flat _, _, rfl, ?_⟩
  show if (inV (.str t) (vS W3)) = true then _ else _
  rw [inV_str]
  by_cases cw : t ∈ W3
  · rw [decide_eq_true cw]
    exact iteT ⟨_, rfl, q1 cw⟩
  rw [decide_eq_false cw]
  refine iteF ?_
  have hz : t.length ≤ sizeLine := fits3 _ ht
  refine ⟨_, rfl, _, rfl, hz, rfl, _, rfl, ite2 (fun c => ?_) fun c => ?_⟩
  · refine ⟨one, q3 fun z => ?_⟩
    rcases all_cases z with z | ⟨m, hm, e⟩
    · exact cw z
    · rw [e, callT_len] at c
      exact absurd c (by decide)
  · have c' : t.length = 2 := by
      have z : ¬ (!decide (V.int ((t.length : Nat) : Int) = V.int 2)) = true := c
      by_cases e : t.length = 2
      · exact e
      · refine absurd ?_ z
        rw [decide_eq_false (fun y => e (by injection y with y; omega))]
        rfl
    obtain ⟨a, b, eab⟩ := list2 (l := t.cps.toList) c'
    have et : t = ⟨#[a, b]⟩ := by
      obtain ⟨⟨l⟩⟩ := t
      have e : l = [a, b] := eab
      rw [e]
    have at0 : atI t.cps.toList ((0 : Nat) : Int) = some a := atI_nat (by rw [eab]; rfl)
    have at1 : atI t.cps.toList ((1 : Nat) : Int) = some b := atI_nat (by rw [eab]; rfl)
    refine ⟨rfl, _, rfl, _, _, _, rfl, rfl, hz, at0, _, _, rfl, rfl, _, _, rfl, rfl, ?_⟩
    refine ⟨rfl, _, rfl, _, _, _, rfl, rfl, hz, at1, _, _, rfl, rfl, ?_⟩
    rw [find_fig, find_str]
    by_cases ha : 49 ≤ a ∧ a ≤ 56
    · rw [if_pos ha]
      refine ⟨_, rfl, rfl, _, rfl, ?_⟩
      rw [decide_eq_false (fun y => by injection y with y; omega)]
      refine iteF ⟨_, rfl, _, _, rfl, rfl, _, rfl, ?_⟩
      by_cases hb : (97 ≤ b ∧ b ≤ 100) ∨ b = 110
      · obtain ⟨r, hr5, hbr, er⟩ : ∃ r, r < 5 ∧ b = cpL r ∧ (if 97 ≤ b ∧ b ≤ 100 then ((b - 97 : Nat) : Int) else if b = 110 then 4 else -1) = ((r : Nat) : Int) := by
          rcases hb with hb | hb
          · refine ⟨b - 97, by omega, ?_, by rw [if_pos hb]⟩
            unfold cpL
            rw [if_neg (by omega)]
            omega
          · refine ⟨4, by decide, hb, ?_⟩
            rw [if_neg (by omega), if_pos hb]
            rfl
        rw [er, decide_eq_false (show ¬ ((r : Nat) : Int) < 0 by omega)]
        refine iteF ⟨_, rfl, _, rfl, rfl, _, rfl, ?_⟩
        have go : ∀ (x : V), x = stV r → (2 ≤ sizeLine ∧ ∀ p, H p = none → Q (.ref p) (upd H p (.tup [.int (((a - 49 : Nat) : Int) + 1), x]))) := fun x hx => by
          refine ⟨fits3 2 (by decide), fun p hp => ?_⟩
          have z := q2 (5 * (a - 49) + r) (by omega) (by rw [et]; exact is_call ha hbr hr5) p _ (same_upd hp _) hp upd_same
          have e1 : (5 * (a - 49) + r) / 5 = a - 49 := by omega
          have e2 : (5 * (a - 49) + r) % 5 = r := by omega
          rw [e1, e2] at z
          unfold bidV at z
          rw [← hx] at z
          exact z
        by_cases c4 : r = 4
        · subst c4
          exact iteT (go _ rfl)
        · rw [decide_eq_false (fun y => c4 (by injection y with y; omega))]
          exact iteF ⟨_, rfl, go _ (if_neg c4).symm⟩
      · rw [if_neg (fun z => hb (.inl z)), if_neg (fun z => hb (.inr z)), decide_eq_true (show (-1 : Int) < 0 by decide)]
        refine iteT ⟨one, q3 ?_⟩
        rw [et]
        exact not_call fun z => hb z.2.2
    · rw [if_neg ha]
      refine ⟨_, rfl, rfl, _, rfl, ?_⟩
      rw [decide_eq_true (show V.int (-1 + 1) = V.int 0 from rfl)]
      refine iteT (iteT ⟨one, q3 ?_⟩)
      rw [et]
      exact not_call fun z => ha ⟨z.1, z.2.1⟩
def spAbove (K : PySem.W.Frag) : Sp := fun vs H Q _ => ∃ (a b : Addr) (t u : Int) (r q : Nat), vs = [.ref a, .ref b] ∧ SqT K H a (bidV t r) ∧ SqT K H b (bidV u q) ∧ r < 5 ∧ q < 5 ∧ ∀ H', Same H H' → Q (.bl (HT.lexLt [u, (q : Nat)] [t, (r : Nat)])) H'
theorem scAbove : FnScope ["bid", "other"] ["bid", "other"] (defScope sAbove) := ⟨rfl, rfl, rfl, by decide +kernel, rfl, by decide +kernel, by decide +kernel⟩
theorem ok_above {k : Nat} (F : Fun K "above" "above" sAbove f fd) (L : Lib P w K mg base k "rank_of" ["strain"] (spRankOf K) g gd) : FnOk P w K mg base CX0 (k + 1) f fd ["bid", "other"] (spAbove K) := by
  refine F.ok scAbove (fun vs H Q E h => ?_) (fun cdv A outer s H vs Q E hr h => ?_)
  · obtain ⟨a, b, t, u, r, q, rfl, _⟩ := h
    rfl
  obtain ⟨a, b, t, u, r, m, rfl, hA, hB, h5, h6, q⟩ := h
  refine ⟨_, pss_one (ps_ret (pe_cmpR (op_gtT hr.units) (pe_tup (pa_cons (pe_ix ix_tup (pv 0) pe_int (fun _ _ => rfl)) (pa_cons (pe_call L.ok hr rfl L.mg L.kp L.bd .nil pass0 (pa_cons (pe_ix ix_tup (pv 0) pe_int (fun _ _ => rfl)) pa_nil)) pa_nil)))
    (pe_tup (pa_cons (pe_ix ix_tup (pv 1) pe_int (fun _ _ => rfl)) (pa_cons (pe_call L.ok hr rfl L.mg L.kp L.bd .nil pass0 (pa_cons (pe_ix ix_tup (pv 1) pe_int (fun _ _ => rfl)) pa_nil)) pa_nil))) (nomark _))), ?_⟩
  refine ⟨_, rfl, a, _, 0, .int t, rfl, rfl, hA, rfl, _, rfl, a, bidV t r, 1, stV r, rfl, rfl, hA, rfl, r, rfl, h5, by show 2 ≤ sizeLine; decide, fun p hp => ?_⟩
  have s1 : Same H (upd H p (.tup [.int t, .int (r : Nat)])) := same_upd hp _
  refine ⟨_, rfl, b, _, 0, .int u, rfl, rfl, s1.seqT hB, rfl, _, rfl, b, bidV u m, 1, stV m, rfl, rfl, s1.seqT hB, rfl, m, rfl, h6, by show 2 ≤ sizeLine; decide, fun p2 hp2 => ?_⟩
  have s2 : Same (upd H p (.tup [.int t, .int (r : Nat)])) (upd (upd H p (.tup [.int t, .int (r : Nat)])) p2 (.tup [.int u, .int (m : Nat)])) := same_upd hp2 _
  exact ⟨p, p2, [t, (r : Nat)], [u, (m : Nat)], rfl, rfl, SqT.of (s2 _ _ upd_same), SqT.of upd_same, q _ (s1.trans s2)⟩
theorem or_pp {x y : Int} (hx : 0 ≤ x) (hy : 0 ≤ y) : Builtin.bitOr x y = ((x.toNat ||| y.toNat : Nat) : Int) := by
  rw [PyProof.Rows.bitOr_and, PyProof.Rows.bitAnd_pp hx hy]
  have := PyProof.Rows.nat_or_add_and x.toNat y.toNat
  omega
theorem chg {a b : Bool} {A B : Prop} (e : a = b) (h : if b = true then A else B) : if a = true then A else B := by rw [e]; exact h
/-! ### == of a tuple and a text -/
def rEqS (K : PySem.W.Frag) : R2 := fun x y H Q => rEq x y H Q ∨ ∃ (a : Addr) (xs : List V) (t : Str), x = .ref a ∧ y = .str t ∧ SqT K H a xs ∧ Q (.bl false) H
theorem op_eqS {X : Cx} (hu : X.A.units + 64 < cLine) : OpR X (compareOp .Eq) (rEqS X.K) := by
  intro pins s σ H x y v u Q I rx ry h
  rcases h with h | ⟨a, xs, t, rfl, rfl, hS, q⟩
  · exact op_eq pins s σ H x y v u Q I rx ry h
  · cases rx
    obtain ⟨tk, rfl⟩ := ry
    obtain ⟨its, r1, p1, _⟩ := I.tuple hS
    exact SeqAt.RcAt.tuple_str t tk p1 (by omega) _ _ _ _ ⟨.bl false, H, I, rfl, q⟩
/-! ### the object of a calling -/
theorem length_putF_of (f : Str) (v : V) : ∀ fs : List (Str × V), fs.lookup f ≠ none → (putF f v fs).length = fs.length
  | [], h => absurd rfl h
  | (k, x) :: r, h => by
    rw [show putF f v ((k, x) :: r) = (if k = f then (k, v) :: r else (k, x) :: putF f v r) from rfl]
    by_cases hk : k = f
    · rw [if_pos hk]; rfl
    · rw [if_neg hk]
      have e : (f == k) = false := beq_eq_false_iff_ne.mpr (Ne.symm hk)
      rw [List.lookup_cons, e] at h
      show (putF f v r).length + 1 = r.length + 1
      rw [length_putF_of f v r h]
structure AuC (K : PySem.W.Frag) (mg : Str → Option Value) (CA : Addr) : Prop where
  cl : Cls K CA
  mA : mg "Auction" = some (.ref CA)
  n1 : NoAttr K CA "seats"
  n2 : NoAttr K CA "caller"
  n3 : NoAttr K CA "passes"
  n4 : NoAttr K CA "bids"
  n5 : NoAttr K CA "times"
def auN : List Str := ["seats", "caller", "passes", "bids", "times"]
structure AuF (n : Nat) (a : Au) (lb : Addr) (fs : List (Str × V)) : Prop where
  l1 : fs.lookup ("seats" : Str) = some (.int (n : Nat))
  l2 : fs.lookup ("caller" : Str) = some (.int (a.caller : Nat))
  l3 : fs.lookup ("passes" : Str) = some (.int (a.passes : Nat))
  l4 : fs.lookup ("bids" : Str) = some (.ref lb)
  l5 : fs.lookup ("times" : Str) = some (.int (a.times : Nat))
  nm : ∀ m : Str, m ∉ auN → fs.lookup m = none
  ln : fs.length ≤ 10
theorem AuF.pPasses {n : Nat} {a : Au} {lb : Addr} {fs : List (Str × V)} (A : AuF n a lb fs) (p : Nat) : AuF n { a with passes := p } lb (putF "passes" (.int (p : Nat)) fs) :=
  ⟨by rw [lookup_putF, if_neg (by decide +kernel)]; exact A.l1, by rw [lookup_putF, if_neg (by decide +kernel)]; exact A.l2, by rw [lookup_putF, if_pos rfl], by rw [lookup_putF, if_neg (by decide +kernel)]; exact A.l4, by rw [lookup_putF, if_neg (by decide +kernel)]; exact A.l5,
    fun m hm => by rw [lookup_putF, if_neg (fun z => hm (by rw [z]; decide +kernel))]; exact A.nm m hm, by rw [length_putF_of _ _ _ (by rw [A.l3]; exact fun z => nomatch z)]; exact A.ln⟩
theorem AuF.pTimes {n : Nat} {a : Au} {lb : Addr} {fs : List (Str × V)} (A : AuF n a lb fs) (p : Nat) : AuF n { a with times := p } lb (putF "times" (.int (p : Nat)) fs) :=
  ⟨by rw [lookup_putF, if_neg (by decide +kernel)]; exact A.l1, by rw [lookup_putF, if_neg (by decide +kernel)]; exact A.l2, by rw [lookup_putF, if_neg (by decide +kernel)]; exact A.l3, by rw [lookup_putF, if_neg (by decide +kernel)]; exact A.l4, by rw [lookup_putF, if_pos rfl],
    fun m hm => by rw [lookup_putF, if_neg (fun z => hm (by rw [z]; decide +kernel))]; exact A.nm m hm, by rw [length_putF_of _ _ _ (by rw [A.l5]; exact fun z => nomatch z)]; exact A.ln⟩
theorem AuF.pCaller {n : Nat} {a : Au} {lb : Addr} {fs : List (Str × V)} (A : AuF n a lb fs) (p : Nat) : AuF n { a with caller := p } lb (putF "caller" (.int (p : Nat)) fs) :=
  ⟨by rw [lookup_putF, if_neg (by decide +kernel)]; exact A.l1, by rw [lookup_putF, if_pos rfl], by rw [lookup_putF, if_neg (by decide +kernel)]; exact A.l3, by rw [lookup_putF, if_neg (by decide +kernel)]; exact A.l4, by rw [lookup_putF, if_neg (by decide +kernel)]; exact A.l5,
    fun m hm => by rw [lookup_putF, if_neg (fun z => hm (by rw [z]; decide +kernel))]; exact A.nm m hm, by rw [length_putF_of _ _ _ (by rw [A.l2]; exact fun z => nomatch z)]; exact A.ln⟩
theorem AuF.bids {n : Nat} {a : Au} {lb : Addr} {fs : List (Str × V)} (A : AuF n a lb fs) (bs : List (Nat × Nat)) : AuF n { a with bids := bs } lb fs := ⟨A.l1, A.l2, A.l3, A.l4, A.l5, A.nm, A.ln⟩
def bidR (r : Nat) : List V := bidV ((r / 5 : Nat) + 1) (r % 5)
def IsBids (H : Hp) (lb : Addr) (bs : List (Nat × Nat)) : Prop := ∃ vs, H lb = some (.lst vs) ∧ vs.length = bs.length ∧ ∀ (i : Nat) (v : V) (s r : Nat), vs[i]? = some v → bs[i]? = some (s, r) → ∃ p b : Addr, v = .ref p ∧ H p = some (.tup [.int (s : Nat), .ref b]) ∧ H b = some (.tup (bidR r))
def IsAu (CA : Addr) (n : Nat) (a : Au) (H : Hp) (x lb : Addr) : Prop := ∃ dx fs, H x = some (.ins CA dx fs) ∧ AuF n a lb fs ∧ IsBids H lb a.bids
/-- all but the object at x and the list at lb stays -/
def Kept (x lb : Addr) (H H' : Hp) : Prop := ∀ b o, b ≠ x → b ≠ lb → H b = some o → H' b = some o
theorem Kept.refl {x lb : Addr} {H : Hp} : Kept x lb H H := fun _ _ _ _ h => h
theorem Kept.trans {x lb : Addr} {H H1 H2 : Hp} (a : Kept x lb H H1) (b : Kept x lb H1 H2) : Kept x lb H H2 := fun c o h1 h2 h => b c o h1 h2 (a c o h1 h2 h)
theorem Kept.of {x lb : Addr} {H H' : Hp} (s : Same H H') : Kept x lb H H' := fun b o _ _ h => s b o h
theorem Kept.putx {x lb : Addr} {H : Hp} (o : HO) : Kept x lb H (upd H x o) := fun b u h1 _ h => by rw [upd_ne h1]; exact h
theorem Kept.putl {x lb : Addr} {H : Hp} (o : HO) : Kept x lb H (upd H lb o) := fun b u _ h2 h => by rw [upd_ne h2]; exact h
theorem IsBids.same {H H' : Hp} {lb : Addr} {bs : List (Nat × Nat)} (h : IsBids H lb bs) (s : Same H H') : IsBids H' lb bs := by
  obtain ⟨vs, h1, h2, h3⟩ := h
  exact ⟨vs, s _ _ h1, h2, fun i v t r a b => (h3 i v t r a b).imp fun p => Exists.imp fun b z => ⟨z.1, s _ _ z.2.1, s _ _ z.2.2⟩⟩
theorem IsAu.same {CA : Addr} {n : Nat} {a : Au} {H H' : Hp} {x lb : Addr} (h : IsAu CA n a H x lb) (s : Same H H') : IsAu CA n a H' x lb := by
  obtain ⟨dx, fs, h1, h2, h3⟩ := h
  exact ⟨dx, fs, s _ _ h1, h2, h3.same s⟩
theorem IsBids.putx {H : Hp} {x C dx lb : Addr} {fs fs' : List (Str × V)} {bs : List (Nat × Nat)} (X : H x = some (.ins C dx fs)) (h : IsBids H lb bs) : IsBids (upd H x (.ins C dx fs')) lb bs := by
  obtain ⟨vs, h1, h2, h3⟩ := h
  refine ⟨vs, by rw [upd_ne (fun z => by rw [z, X] at h1; cases h1)]; exact h1, h2, fun i v t r a b => ?_⟩
  obtain ⟨p, q, e, y1, y2⟩ := h3 i v t r a b
  exact ⟨p, q, e, by rw [upd_ne (fun z => by rw [z, X] at y1; cases y1)]; exact y1, by rw [upd_ne (fun z => by rw [z, X] at y2; cases y2)]; exact y2⟩
theorem IsBids.snoc {H : Hp} {lb p b : Addr} {vs : List V} {bs : List (Nat × Nat)} {s r : Nat} (X : H lb = some (.lst vs)) (h : IsBids H lb bs) (hp : H p = some (.tup [.int (s : Nat), .ref b])) (hb : H b = some (.tup (bidR r))) : IsBids (upd H lb (.lst (vs ++ [.ref p]))) lb (bs ++ [(s, r)]) := by
  obtain ⟨vs', h1, h2, h3⟩ := h
  rw [X] at h1
  injection h1 with h1
  injection h1 with h1
  subst h1
  have ne : ∀ {q : Addr} {xs : List V}, H q = some (.tup xs) → upd H lb (.lst (vs ++ [.ref p])) q = some (.tup xs) := fun {q xs} hq => by rw [upd_ne (fun z => by rw [z, X] at hq; cases hq)]; exact hq
  refine ⟨_, upd_same, by rw [List.length_append, List.length_append, h2]; rfl, fun i v t u a c => ?_⟩
  by_cases e : i < vs.length
  · rw [List.getElem?_append_left e] at a
    rw [List.getElem?_append_left (by omega)] at c
    obtain ⟨p', q', e', y1, y2⟩ := h3 i v t u a c
    exact ⟨p', q', e', ne y1, ne y2⟩
  · have e2 : i = vs.length := by
      have := (List.getElem?_eq_some_iff.mp a).1
      rw [List.length_append] at this
      have : i < vs.length + 1 := this
      omega
    rw [e2, List.getElem?_append_right (Nat.le_refl _), Nat.sub_self] at a
    rw [e2, h2, List.getElem?_append_right (Nat.le_refl _), Nat.sub_self] at c
    have ea := Option.some.inj a
    have ec := Option.some.inj c
    injection ec with ec1 ec2
    subst ec1
    subst ec2
    exact ⟨p, b, ea.symm, ne hp, ne hb⟩
theorem IsBids.last {H : Hp} {lb : Addr} {bs : List (Nat × Nat)} {s r : Nat} (h : IsBids H lb (bs ++ [(s, r)])) : ∃ (vs : List V) (p b : Addr), H lb = some (.lst vs) ∧ 0 < vs.length ∧ atI vs (-1) = some (.ref p) ∧ H p = some (.tup [.int (s : Nat), .ref b]) ∧ H b = some (.tup (bidR r)) := by
  obtain ⟨vs, h1, h2, h3⟩ := h
  rw [List.length_append] at h2
  have h2' : vs.length = bs.length + 1 := h2
  have hi : vs[bs.length]? = some (vs[bs.length]'(by omega)) := List.getElem?_eq_getElem (by omega)
  obtain ⟨p, b, e, y1, y2⟩ := h3 bs.length _ s r hi (by rw [List.getElem?_append_right (Nat.le_refl _), Nat.sub_self]; rfl)
  refine ⟨vs, p, b, h1, by omega, ?_, y1, y2⟩
  rw [e] at hi
  have ix : ixN vs.length (-1) = some bs.length := by
    unfold ixN
    rw [if_neg (by decide), if_pos (by omega)]
    exact congrArg some (by omega)
  unfold atI
  rw [ix]
  exact hi
/-- the call c as the value v -/
def CallIs (H : Hp) (c : Nat) (v : V) : Prop := (c < 40 ∧ ∃ p, v = .ref p ∧ H p = some (.tup (bidR c))) ∨ (40 ≤ c ∧ v = .str (cT c))
structure WfA (n : Nat) (a : Au) : Prop where
  n34 : n = 3 ∨ n = 4
  ca : a.caller < n
  bd : ∀ b ∈ a.bids, b.1 < n ∧ b.2 < 40
  ln : a.bids.length ≤ 500
theorem lex_rank : ∀ r < 40, ∀ c < 40, HT.lexLt [((r / 5 : Nat) : Int) + 1, ((r % 5 : Nat) : Int)] [((c / 5 : Nat) : Int) + 1, ((c % 5 : Nat) : Int)] = decide (r < c) := by decide +kernel
def oS (o : Option Str) : V := match o with | none => .non | some s => .str s
end
end My

namespace My
open PySem L2
section
variable {P : Program} {w : World} {K : PySem.W.Frag} {mg : Str → Option Value} {base : Heap} {f g : Addr} {fd gd : FuncData}
/-! ### sides -/
def spSide : Sp := fun vs H Q _ => ∃ n s : Nat, vs = [.int (n : Nat), .int (s : Nat)] ∧ (n = 3 ∨ n = 4) ∧ s < 4 ∧ Q (.int (sideN n s : Nat)) H
theorem scSide : FnScope ["seats", "seat"] ["seats", "seat"] (defScope sSide) := ⟨rfl, rfl, rfl, by decide +kernel, rfl, by decide +kernel, by decide +kernel⟩
theorem ok_side {k : Nat} (F : Fun K "side_of" "side_of" sSide f fd) : FnOk P w K mg base CX0 (k + 1) f fd ["seats", "seat"] spSide := by
  refine F.ok scSide (fun vs H Q E h => ?_) (fun cdv A outer s H vs Q E hr h => ?_)
  · obtain ⟨n, s, rfl, _⟩ := h
    rfl
  obtain ⟨n, s, rfl, hn, hs, q⟩ := h
  refine ⟨_, pss_cons (ps_if (pt_cmpR op_eq (pv 0) pe_int (nomark _)) (pss_one (ps_ret (pe_op op_or (pe_op op_shl pe_int (pv 1)) (pe_op op_shl pe_int (pe_op op_mod (pe_op op_add (pv 1) pe_int) (pv 0)))))) pss_nil)
    (pss_one (ps_ret (pe_op op_shl pe_int (pv 1)))), ?_⟩
  refine ⟨_, rfl, rfl, _, rfl, ?_⟩
  have e4 : decide (V.int (n : Nat) = V.int 4) = decide (n = 4) := decide_eq_decide.mpr ⟨fun h => by injection h with h; omega, fun h => by rw [h]; rfl⟩
  refine chg e4 ?_
  unfold sideN at q
  by_cases c : n = 4
  · rw [decide_eq_true c]
    rw [if_pos c] at q
    subst c
    have em : (((s : Nat) : Int) + 2) % ((4 : Nat) : Int) = (((s + 2) % 4 : Nat) : Int) := by omega
    refine iteT ⟨_, rfl, _, _, rfl, rfl, ⟨by omega, by omega, by decide⟩, _, rfl, _, _, rfl, rfl, _, rfl, _, _, rfl, rfl, (show (0 : Int) < ((4 : Nat) : Int) by decide), _, _, rfl, rfl, ⟨?_, ?_, by decide⟩, _, _, rfl, rfl, ?_⟩
    · rw [em]; omega
    · rw [em]; omega
    · show Q (.int (Builtin.bitOr (1 * 2 ^ ((s : Nat) : Int).toNat) (1 * 2 ^ ((((s : Nat) : Int) + 2) % ((4 : Nat) : Int)).toNat))) H
      rw [em, Int.toNat_natCast, Int.toNat_natCast, Int.one_mul, Int.one_mul]
      have e2 : ∀ m : Nat, ((2 : Int) ^ m) = ((2 ^ m : Nat) : Int) := fun m => by rw [Int.natCast_pow]; rfl
      rw [e2, e2, show Builtin.bitOr ((2 ^ s : Nat) : Int) ((2 ^ ((s + 2) % 4) : Nat) : Int) = ((2 ^ s ||| 2 ^ ((s + 2) % 4) : Nat) : Int) by rw [or_pp (Int.natCast_nonneg _) (Int.natCast_nonneg _), Int.toNat_natCast, Int.toNat_natCast]]
      exact q
  · rw [decide_eq_false c]
    rw [if_neg c] at q
    refine iteF ⟨_, rfl, _, _, rfl, rfl, ⟨by omega, by omega, by decide⟩, ?_⟩
    show Q (.int (1 * 2 ^ ((s : Nat) : Int).toNat)) H
    rw [Int.toNat_natCast, Int.one_mul]
    have e2 : ∀ m : Nat, ((2 : Int) ^ m) = ((2 ^ m : Nat) : Int) := fun m => by rw [Int.natCast_pow]; rfl
    rw [e2]
    exact q
/-! ### the methods -/
def spAuInit (CA : Addr) : Sp := fun vs H Q _ => ∃ (x dx : Addr) (n g : Nat), vs = [.ref x, .int (n : Nat), .int (g : Nat)] ∧ H x = some (.ins CA dx []) ∧ ∀ lb H', (∀ b o, b ≠ x → H b = some o → H' b = some o) → H lb = none → IsAu CA n ⟨g, 0, 1, []⟩ H' x lb → Q .non H'
theorem scAuInit : FnScope ["self", "seats", "first"] ["self", "seats", "first"] (defScope sAuInit) := ⟨rfl, rfl, rfl, by decide +kernel, rfl, by decide +kernel, by decide +kernel⟩
theorem ok_auInit {k : Nat} {CA : Addr} (F : FunD K "__init__" "Auction.__init__" sAuInit f fd) (C : AuC K mg CA) : FnOk P w K mg base CX0 (k + 1) f fd ["self", "seats", "first"] (spAuInit CA) := by
  refine F.ok scAuInit (fun vs H Q E h => ?_) (fun cdv A outer s H vs Q E hr h => ?_)
  · obtain ⟨x, dx, n, g, rfl, _⟩ := h
    rfl
  obtain ⟨x, dx, n, g, rfl, hx, q⟩ := h
  refine ⟨_, pss_cons (ps_fld (pv 0) (pv 1) rfl) (pss_cons (ps_fld (pv 0) (pv 2) rfl) (pss_cons (ps_fld (pv 0) pe_int rfl) (pss_cons (ps_fld (pv 0) (pe_lst pa_nil) rfl) (pss_one (ps_fld (pv 0) pe_int rfl))))), ?_⟩
  refine ⟨_, rfl, _, rfl, x, CA, dx, [], rfl, hx, C.cl, C.n1, by decide, ?_⟩
  have b1 : (putF "seats" (.int (n : Nat)) []).length < 1000 := Nat.lt_of_le_of_lt (length_putF _ _ _) (by decide)
  refine ⟨_, rfl, _, rfl, x, CA, dx, _, rfl, upd_same, C.cl, C.n2, b1, ?_⟩
  have b2 : (putF "caller" (.int (g : Nat)) (putF "seats" (.int (n : Nat)) [])).length < 1000 := Nat.lt_of_le_of_lt (length_putF _ _ _) (Nat.lt_of_le_of_lt (Nat.succ_le_succ (length_putF _ _ _)) (by decide))
  refine ⟨_, rfl, x, CA, dx, _, rfl, upd_same, C.cl, C.n3, b2, ?_⟩
  have b3 : (putF "passes" (.int 0) (putF "caller" (.int (g : Nat)) (putF "seats" (.int (n : Nat)) []))).length < 1000 := Nat.lt_of_le_of_lt (length_putF _ _ _) (Nat.lt_of_le_of_lt (Nat.succ_le_succ (length_putF _ _ _)) (Nat.lt_of_le_of_lt (Nat.succ_le_succ (Nat.succ_le_succ (length_putF _ _ _))) (by decide)))
  refine ⟨fits3 0 (by decide), fun lb hlb => ?_⟩
  rw [upd_upd, upd_upd] at hlb
  have nx : x ≠ lb := fun z => by rw [← z, upd_same] at hlb; cases hlb
  have hlb0 : H lb = none := by rw [upd_ne (Ne.symm nx)] at hlb; exact hlb
  rw [upd_upd, upd_upd]
  refine ⟨_, rfl, x, CA, dx, _, rfl, (by rw [upd_ne nx]; exact upd_same), C.cl, C.n4, b3, ?_⟩
  have b4 : (putF "bids" (.ref lb) (putF "passes" (.int 0) (putF "caller" (.int (g : Nat)) (putF "seats" (.int (n : Nat)) [])))).length < 1000 := Nat.lt_of_le_of_lt (length_putF _ _ _) (Nat.lt_of_le_of_lt (Nat.succ_le_succ (length_putF _ _ _)) (Nat.lt_of_le_of_lt (Nat.succ_le_succ (Nat.succ_le_succ (length_putF _ _ _))) (Nat.lt_of_le_of_lt (Nat.succ_le_succ (Nat.succ_le_succ (Nat.succ_le_succ (length_putF _ _ _)))) (by decide))))
  refine ⟨_, rfl, x, CA, dx, _, rfl, upd_same, C.cl, C.n5, b4, ?_⟩
  rw [upd_upd]
  refine q lb _ (fun b o h1 h => ?_) hlb0 ⟨dx, _, upd_same, ?_, [], ?_, rfl, fun i v s r a _ => by cases a⟩
  · have h2 : b ≠ lb := fun z => by rw [z, hlb0] at h; cases h
    rw [upd_ne h1, upd_ne h2, upd_ne h1]
    exact h
  · refine ⟨?_, ?_, ?_, ?_, ?_, fun m hm => ?_, ?_⟩
    · rw [lookup_putF, if_neg (by decide +kernel), lookup_putF, if_neg (by decide +kernel), lookup_putF, if_neg (by decide +kernel), lookup_putF, if_neg (by decide +kernel), lookup_putF, if_pos rfl]
    · rw [lookup_putF, if_neg (by decide +kernel), lookup_putF, if_neg (by decide +kernel), lookup_putF, if_neg (by decide +kernel), lookup_putF, if_pos rfl]
    · rw [lookup_putF, if_neg (by decide +kernel), lookup_putF, if_neg (by decide +kernel), lookup_putF, if_pos rfl]
      rfl
    · rw [lookup_putF, if_neg (by decide +kernel), lookup_putF, if_pos rfl]
    · rw [lookup_putF, if_pos rfl]
      rfl
    · have ne : ∀ g ∈ auN, m ≠ g := fun g hg z => hm (z ▸ hg)
      rw [lookup_putF, if_neg (ne _ (by decide +kernel)), lookup_putF, if_neg (ne _ (by decide +kernel)), lookup_putF, if_neg (ne _ (by decide +kernel)), lookup_putF, if_neg (ne _ (by decide +kernel)), lookup_putF, if_neg (ne _ (by decide +kernel))]
      rfl
    · have y1 := length_putF "times" (.int 1) (putF "bids" (.ref lb) (putF "passes" (.int 0) (putF "caller" (.int (g : Nat)) (putF "seats" (.int (n : Nat)) []))))
      have y2 := length_putF "bids" (.ref lb) (putF "passes" (.int 0) (putF "caller" (.int (g : Nat)) (putF "seats" (.int (n : Nat)) [])))
      have y3 := length_putF "passes" (.int 0) (putF "caller" (.int (g : Nat)) (putF "seats" (.int (n : Nat)) []))
      have y4 := length_putF "caller" (.int (g : Nat)) (putF "seats" (.int (n : Nat)) [])
      have y5 := length_putF "seats" (.int (n : Nat)) []
      have y6 : ([] : List (Str × V)).length = 0 := rfl
      omega
  · rw [upd_ne (Ne.symm nx)]
    exact upd_same
theorem IsBids.len {H : Hp} {lb : Addr} {bs : List (Nat × Nat)} (h : IsBids H lb bs) : ∃ vs, H lb = some (.lst vs) ∧ vs.length = bs.length := by
  obtain ⟨vs, h1, h2, _⟩ := h
  exact ⟨vs, h1, h2⟩
def spDone (CA : Addr) : Sp := fun vs H Q _ => ∃ (x lb : Addr) (n : Nat) (a : Au), vs = [.ref x] ∧ IsAu CA n a H x lb ∧ 1 ≤ n ∧ Q (.bl (doneA n a)) H
theorem scDone : FnScope ["self", "needed"] ["self"] (defScope sDone) := ⟨rfl, rfl, rfl, by decide +kernel, rfl, by decide +kernel, by decide +kernel⟩
theorem ok_done {k : Nat} {CA : Addr} (F : Fun K "is_done" "Auction.is_done" sDone f fd) (C : AuC K mg CA) (ml : mg "len" = none) : FnOk P w K mg base CX0 (k + 1) f fd ["self"] (spDone CA) := by
  refine F.ok scDone (fun vs H Q E h => ?_) (fun cdv A outer s H vs Q E hr h => ?_)
  · obtain ⟨x, lb, n, a, rfl, _⟩ := h
    rfl
  obtain ⟨x, lb, n, a, rfl, ⟨dx, fs, hx, A1, B⟩, hn, q⟩ := h
  refine ⟨_, pss_cons (ps_set (i := 1) scDone.nd rfl (Or.inl rfl) (pe_ifExp (pt_cmpR op_eq (pe_callB call_len_seq rfl ml PySem.boot_len (pa_cons (pe_fld (pv 0) rfl) pa_nil)) pe_int (nomark _)) (pe_fld (pv 0) rfl) (pe_op op_sub (pe_fld (pv 0) rfl) pe_int)))
    (pss_one (ps_ret (pe_cmpR op_ge (pe_fld (pv 0) rfl) (pv 1) (nomark _)))), ?_⟩
  obtain ⟨vs, hL, hl⟩ := B.len
  refine ⟨_, rfl, x, CA, dx, _, _, rfl, hx, C.cl, C.n4, A1.l4, lb, _, rfl, .inl (SqL.of hL), rfl, _, rfl, ?_⟩
  have e0 : decide (V.int ((vs.length : Nat) : Int) = V.int 0) = decide (a.bids.length = 0) := decide_eq_decide.mpr ⟨fun h => by injection h with h; omega, fun h => by rw [hl, h]; rfl⟩
  refine chg e0 ?_
  unfold doneA at q
  by_cases c : a.bids.length = 0
  · rw [decide_eq_true c]
    rw [if_pos c] at q
    refine iteT ⟨_, rfl, x, CA, dx, _, _, rfl, hx, C.cl, C.n1, A1.l1, ?_⟩
    refine ⟨_, rfl, x, CA, dx, _, _, rfl, hx, C.cl, C.n3, A1.l3, _, rfl, _, _, rfl, rfl, ?_⟩
    have e : decide (((n : Nat) : Int) ≤ ((a.passes : Nat) : Int)) = decide (n ≤ a.passes) := decide_eq_decide.mpr ⟨fun h => by omega, fun h => by omega⟩
    show Q (.bl (decide (((n : Nat) : Int) ≤ ((a.passes : Nat) : Int)))) H
    rw [e]
    exact q
  · rw [decide_eq_false c]
    rw [if_neg c] at q
    refine iteF ⟨_, rfl, x, CA, dx, _, _, rfl, hx, C.cl, C.n1, A1.l1, _, _, rfl, rfl, ?_⟩
    refine ⟨_, rfl, x, CA, dx, _, _, rfl, hx, C.cl, C.n3, A1.l3, _, rfl, _, _, rfl, rfl, ?_⟩
    have e : decide (((n : Nat) : Int) - 1 ≤ ((a.passes : Nat) : Int)) = decide (n - 1 ≤ a.passes) := decide_eq_decide.mpr ⟨fun h => by omega, fun h => by omega⟩
    show Q (.bl (decide (((n : Nat) : Int) - 1 ≤ ((a.passes : Nat) : Int)))) H
    rw [e]
    exact q
def spOwn (CA : Addr) : Sp := fun vs H Q _ => ∃ (x lb : Addr) (n : Nat) (a : Au), vs = [.ref x] ∧ IsAu CA n a H x lb ∧ WfA n a ∧ a.bids ≠ [] ∧ Q (.bl (ownA n a)) H
theorem scOwn : FnScope ["self"] ["self"] (defScope sOwn) := ⟨rfl, rfl, rfl, by decide +kernel, rfl, by decide +kernel, by decide +kernel⟩
theorem snoc_of {α : Type} {l : List α} (h : l ≠ []) : ∃ bs b, l = bs ++ [b] := ⟨l.dropLast, l.getLast h, (List.dropLast_concat_getLast h).symm⟩
theorem ok_own {k : Nat} {CA f1 : Addr} {d1 : FuncData} (F : Fun K "is_own_bid" "Auction.is_own_bid" sOwn f fd) (C : AuC K mg CA) (LS : Lib P w K mg base k "side_of" ["seats", "seat"] spSide f1 d1) : FnOk P w K mg base CX0 (k + 1) f fd ["self"] (spOwn CA) := by
  refine F.ok scOwn (fun vs H Q E h => ?_) (fun cdv A outer s H vs Q E hr h => ?_)
  · obtain ⟨x, lb, n, a, rfl, _⟩ := h
    rfl
  obtain ⟨x, lb, n, a, rfl, ⟨dx, fs, hx, A1, B⟩, W, hb, q⟩ := h
  refine ⟨_, pss_one (ps_ret (pe_cmpR op_eq (pe_call LS.ok hr rfl LS.mg LS.kp LS.bd .nil pass0 (pa_cons (pe_fld (pv 0) rfl) (pa_cons (pe_ix ix_tup (pe_ix ix_list (pe_fld (pv 0) rfl) (pe_un un_neg pe_int) (fun _ _ => rfl)) pe_int (fun _ _ => rfl)) pa_nil))) (pe_call LS.ok hr rfl LS.mg LS.kp LS.bd .nil pass0 (pa_cons (pe_fld (pv 0) rfl) (pa_cons (pe_fld (pv 0) rfl) pa_nil))) (nomark _))), ?_⟩
  obtain ⟨bs, ⟨s0, r0⟩, eb⟩ := snoc_of hb
  have B' := B
  rw [eb] at B'
  obtain ⟨vs, p, b, hL, hl, hat, hp, hbb⟩ := B'.last
  have hs0 := (W.bd (s0, r0) (by rw [eb]; exact List.mem_append_right _ (List.mem_singleton.mpr rfl))).1
  have n4 : n ≤ 4 := by rcases W.n34 with z | z <;> omega
  have hca := W.ca
  refine ⟨_, rfl, x, CA, dx, _, _, rfl, hx, C.cl, C.n1, A1.l1, _, rfl, x, CA, dx, _, _, rfl, hx, C.cl, C.n4, A1.l4, _, rfl, lb, _, _, _, rfl, rfl, SqL.of hL, hat, p, _, _, _, rfl, rfl, SqT.of hp, rfl, n, s0, rfl, W.n34, by have : s0 < n := hs0; omega, ?_⟩
  refine ⟨_, rfl, x, CA, dx, _, _, rfl, hx, C.cl, C.n1, A1.l1, _, rfl, x, CA, dx, _, _, rfl, hx, C.cl, C.n2, A1.l2, n, a.caller, rfl, W.n34, by omega, rfl, ?_⟩
  unfold ownA at q
  rw [eb, List.getLast?_concat] at q
  have e : decide (V.int (sideN n s0 : Nat) = V.int (sideN n a.caller : Nat)) = decide (sideN n s0 = sideN n a.caller) := decide_eq_decide.mpr ⟨fun h => by injection h with h; exact Int.ofNat.inj h, fun h => by rw [h]⟩
  show Q (.bl (decide (V.int (sideN n s0 : Nat) = V.int (sideN n a.caller : Nat)))) H
  rw [e]
  exact q
def spMayD (CA : Addr) (t : Nat) (o : Bool) : Sp := fun vs H Q _ => ∃ (x lb : Addr) (n : Nat) (a : Au), vs = [.ref x] ∧ IsAu CA n a H x lb ∧ WfA n a ∧ Q (.bl (!decide (a.bids = []) && (decide (a.times = t) && (ownA n a == o)))) H
theorem scDbl : FnScope ["self"] ["self"] (defScope sDbl) := ⟨rfl, rfl, rfl, by decide +kernel, rfl, by decide +kernel, by decide +kernel⟩
theorem scAgn : FnScope ["self"] ["self"] (defScope sAgn) := ⟨rfl, rfl, rfl, by decide +kernel, rfl, by decide +kernel, by decide +kernel⟩
theorem len_gt {α : Type} {vs : List V} {bs : List α} (h : vs.length = bs.length) : decide (((vs.length : Nat) : Int) > 0) = !decide (bs.length = 0) := by
  rw [h]
  by_cases c : bs.length = 0
  · rw [c]; rfl
  · rw [decide_eq_false c]
    exact decide_eq_true (by omega)
theorem len_nil {α : Type} [DecidableEq α] (bs : List α) : decide (bs.length = 0) = decide (bs = []) := by cases bs <;> simp
theorem ok_dbl {k : Nat} {CA m1 : Addr} {e1 : FuncData} (F : Fun K "may_double" "Auction.may_double" sDbl f fd) (C : AuC K mg CA) (MO : Meth K CA "is_own_bid" m1) (FO : FnOk P w K mg base CX0 k m1 e1 ["self"] (spOwn CA)) (BO : Binds K e1 ["self"] []) (ml : mg "len" = none) : FnOk P w K mg base CX0 (k + 1) f fd ["self"] (spMayD CA 1 false) := by
  refine F.ok scDbl (fun vs H Q E h => ?_) (fun cdv A outer s H vs Q E hr h => ?_)
  · obtain ⟨x, lb, n, a, rfl, _⟩ := h
    rfl
  obtain ⟨x, lb, n, a, rfl, I, W, q⟩ := h
  refine ⟨_, pss_one (ps_ret (pe_and (pe_cmpR op_gt (pe_callB call_len_seq rfl ml PySem.boot_len (pa_cons (pe_fld (pv 0) rfl) pa_nil)) pe_int (nomark _)) (pe_and (pe_cmpR op_eq (pe_fld (pv 0) rfl) pe_int (nomark _)) (pe_one (pe_not (pe_meth0 (pv 0) C.cl MO FO hr BO .nil pass0)))))), ?_⟩
  obtain ⟨dx, fs, hx, A1, B⟩ := id I
  obtain ⟨vs, hL, hl⟩ := B.len
  refine ⟨_, rfl, x, CA, dx, _, _, rfl, hx, C.cl, C.n4, A1.l4, lb, _, rfl, .inl (SqL.of hL), _, _, rfl, rfl, _, rfl, ?_⟩
  refine chg ((len_gt hl).trans (congrArg (fun b => !b) (len_nil a.bids))) ?_
  by_cases c : a.bids = []
  · rw [decide_eq_true c] at q ⊢
    exact iteF q
  rw [decide_eq_false c] at q ⊢
  refine iteT ⟨_, rfl, x, CA, dx, _, _, rfl, hx, C.cl, C.n5, A1.l5, rfl, _, rfl, ?_⟩
  have e : decide (V.int (a.times : Nat) = V.int 1) = decide (a.times = 1) := decide_eq_decide.mpr ⟨fun h => by injection h with h; omega, fun h => by rw [h]; rfl⟩
  refine chg e ?_
  by_cases c2 : a.times = 1
  · rw [decide_eq_true c2] at q ⊢
    refine iteT ⟨_, rfl, x, dx, _, rfl, hx, A1.nm _ (by decide +kernel), x, lb, n, a, rfl, I, W, c, _, rfl, ?_⟩
    cases e : ownA n a <;> (rw [e] at q; exact q)
  · rw [decide_eq_false c2] at q ⊢
    exact iteF q
theorem ok_agn {k : Nat} {CA m1 : Addr} {e1 : FuncData} (F : Fun K "may_again" "Auction.may_again" sAgn f fd) (C : AuC K mg CA) (MO : Meth K CA "is_own_bid" m1) (FO : FnOk P w K mg base CX0 k m1 e1 ["self"] (spOwn CA)) (BO : Binds K e1 ["self"] []) (ml : mg "len" = none) : FnOk P w K mg base CX0 (k + 1) f fd ["self"] (spMayD CA 2 true) := by
  refine F.ok scAgn (fun vs H Q E h => ?_) (fun cdv A outer s H vs Q E hr h => ?_)
  · obtain ⟨x, lb, n, a, rfl, _⟩ := h
    rfl
  obtain ⟨x, lb, n, a, rfl, I, W, q⟩ := h
  refine ⟨_, pss_one (ps_ret (pe_and (pe_cmpR op_gt (pe_callB call_len_seq rfl ml PySem.boot_len (pa_cons (pe_fld (pv 0) rfl) pa_nil)) pe_int (nomark _)) (pe_and (pe_cmpR op_eq (pe_fld (pv 0) rfl) pe_int (nomark _)) (pe_one (pe_meth0 (pv 0) C.cl MO FO hr BO .nil pass0))))), ?_⟩
  obtain ⟨dx, fs, hx, A1, B⟩ := id I
  obtain ⟨vs, hL, hl⟩ := B.len
  refine ⟨_, rfl, x, CA, dx, _, _, rfl, hx, C.cl, C.n4, A1.l4, lb, _, rfl, .inl (SqL.of hL), _, _, rfl, rfl, _, rfl, ?_⟩
  refine chg ((len_gt hl).trans (congrArg (fun b => !b) (len_nil a.bids))) ?_
  by_cases c : a.bids = []
  · rw [decide_eq_true c] at q ⊢
    exact iteF q
  rw [decide_eq_false c] at q ⊢
  refine iteT ⟨_, rfl, x, CA, dx, _, _, rfl, hx, C.cl, C.n5, A1.l5, rfl, _, rfl, ?_⟩
  have e : decide (V.int (a.times : Nat) = V.int 2) = decide (a.times = 2) := decide_eq_decide.mpr ⟨fun h => by injection h with h; omega, fun h => by rw [h]; rfl⟩
  refine chg e ?_
  by_cases c2 : a.times = 2
  · rw [decide_eq_true c2] at q ⊢
    refine iteT ⟨_, rfl, x, dx, _, rfl, hx, A1.nm _ (by decide +kernel), x, lb, n, a, rfl, I, W, c, ?_⟩
    cases e : ownA n a <;> (rw [e] at q; exact q)
  · rw [decide_eq_false c2] at q ⊢
    exact iteF q
end
end My

namespace My
open PySem L2
section
variable {P : Program} {w : World} {K : PySem.W.Frag} {mg : Str → Option Value} {base : Heap} {f g : Addr} {fd gd : FuncData}
def spBrk (CA : Addr) : Sp := fun vs H Q _ => ∃ (x lb : Addr) (n : Nat) (a : Au) (c : Nat) (v : V), vs = [.ref x, v] ∧ c < 43 ∧ CallIs H c v ∧ IsAu CA n a H x lb ∧ WfA n a ∧ ∀ H', Same H H' → Q (oS (brkA n a c)) H'
theorem scBrk : FnScope ["self", "call"] ["self", "call"] (defScope sBrk) := ⟨rfl, rfl, rfl, by decide +kernel, rfl, by decide +kernel, by decide +kernel⟩
theorem eqS_call {c : Nat} {v : V} {H : Hp} {R : V → Hp → Prop} {t : Str} (hc : c < 43) (h : CallIs H c v) (ht : ∀ m < 40, callT m ≠ t) (q : R (.bl (decide (cT c = t))) H) : rEqS K v (.str t) H R := by
  rcases h with ⟨h1, p, rfl, h2⟩ | ⟨h1, rfl⟩
  · refine .inr ⟨p, _, t, rfl, rfl, SqT.of h2, ?_⟩
    rw [cT_bid h1, decide_eq_false (ht c h1)] at q
    exact q
  · refine .inl ⟨rfl, ?_⟩
    rw [str_dec]
    exact q
theorem no_pass : ∀ m < 40, callT m ≠ "pass" := by decide +kernel
theorem no_dbl : ∀ m < 40, callT m ≠ "double" := by decide +kernel
theorem no_agn : ∀ m < 40, callT m ≠ "again" := by decide +kernel
theorem isTup_call {c : Nat} {v : V} {H : Hp} (h : CallIs H c v) : ∃ t, TyOf K H v t ∧ PySem.W.kitOne K t (.type "tuple") = some (decide (c < 40)) := by
  rcases h with ⟨h1, p, rfl, h2⟩ | ⟨h1, rfl⟩
  · rw [decide_eq_true h1]
    exact ⟨_, .tup h2, rfl⟩
  · rw [decide_eq_false (by omega)]
    exact ⟨_, .str _, by with_unfolding_all rfl⟩
theorem ok_brk {k : Nat} {CA m1 m2 m3 f4 : Addr} {e1 e2 e3 d4 : FuncData} (F : Fun K "broken_rule" "Auction.broken_rule" sBrk f fd) (C : AuC K mg CA) (MD : Meth K CA "is_done" m1) (FD : FnOk P w K mg base CX0 k m1 e1 ["self"] (spDone CA)) (BD : Binds K e1 ["self"] [])
    (M1 : Meth K CA "may_double" m2) (F1 : FnOk P w K mg base CX0 k m2 e2 ["self"] (spMayD CA 1 false)) (B1 : Binds K e2 ["self"] []) (M2 : Meth K CA "may_again" m3) (F2 : FnOk P w K mg base CX0 k m3 e3 ["self"] (spMayD CA 2 true)) (B2 : Binds K e3 ["self"] [])
    (LA : Lib P w K mg base k "above" ["bid", "other"] (spAbove K) f4 d4) (ml : mg "len" = none) (mi : mg "isinstance" = none) (mt : mg "tuple" = none) : FnOk P w K mg base CX0 (k + 1) f fd ["self", "call"] (spBrk CA) := by
  refine F.ok scBrk (fun vs H Q E h => ?_) (fun cdv A outer s H vs Q E hr h => ?_)
  · obtain ⟨x, lb, n, a, c, v, rfl, _⟩ := h
    rfl
  obtain ⟨x, lb, n, a, c, v, rfl, hc, hv, I, W, q⟩ := h
  refine ⟨_, pss_cons (ps_if (pt_truth (pe_meth0 (pv 0) C.cl MD FD hr BD .nil pass0) (fun _ => rfl)) (pss_one (ps_ret pe_str)) pss_nil)
    (pss_cons (ps_if (PW.pt (pw_and (pt_truth (pe_callB call_isT rfl mi PyProof.Rows.boot_isinstance (pa_cons (pv 1) (pa_cons (pe_bltn (v := .ty "tuple") rfl mt PyProof.Rows.boot_tuple rfl) pa_nil))) (fun _ => rfl)) (pw_and (pt_cmpR op_gt (pe_callB call_len_seq rfl ml PySem.boot_len (pa_cons (pe_fld (pv 0) rfl) pa_nil)) pe_int (nomark _)) (pw_and1 (pt_not (pt_truth (pe_call LA.ok hr rfl LA.mg LA.kp LA.bd .nil pass0 (pa_cons (pv 1) (pa_cons (pe_ix ix_tup (pe_ix ix_list (pe_fld (pv 0) rfl) (pe_un un_neg pe_int) (fun _ _ => rfl)) pe_int (fun _ _ => rfl)) pa_nil))) (fun _ => rfl))))))) (pss_one (ps_ret pe_str)) pss_nil)
    (pss_cons (ps_if (PW.pt (pw_and (pt_cmpR (op_eqS hr.units) (pv 1) pe_str (nomark _)) (pw_and1 (pt_not (pt_truth (pe_meth0 (pv 0) C.cl M1 F1 hr B1 .nil pass0) (fun _ => rfl)))))) (pss_one (ps_ret pe_str)) pss_nil)
    (pss_cons (ps_if (PW.pt (pw_and (pt_cmpR (op_eqS hr.units) (pv 1) pe_str (nomark _)) (pw_and1 (pt_not (pt_truth (pe_meth0 (pv 0) C.cl M2 F2 hr B2 .nil pass0) (fun _ => rfl)))))) (pss_one (ps_ret pe_str)) pss_nil)
    (pss_one (ps_ret pe_non))))), ?_⟩
  obtain ⟨dx, fs, hx, A1, B⟩ := id I
  have n1 : 1 ≤ n := by rcases W.n34 with z | z <;> omega
  refine ⟨_, rfl, x, dx, _, rfl, hx, A1.nm _ (by decide +kernel), x, lb, n, a, rfl, I, n1, _, rfl, ?_⟩
  unfold brkA at q
  by_cases cd : doneA n a = true
  · rw [if_pos cd] at q
    exact chg cd (iteT (q H (Same.refl H)))
  rw [if_neg cd] at q
  refine chg (Bool.eq_false_iff.mpr cd) (iteF ?_)
  have T : decide (c < 40) = true ∨ decide (c < 40) = false := by cases decide (c < 40) <;> simp
  by_cases c40 : c < 40
  · have e41 : decide (cT c = "double") = false := by rw [cT_dbl c hc]; exact decide_eq_false (by omega)
    have e42 : decide (cT c = "again") = false := by rw [cT_agn c hc]; exact decide_eq_false (by omega)
    obtain ⟨p, rfl, hp⟩ : ∃ p, v = .ref p ∧ H p = some (.tup (bidR c)) := by
      rcases hv with ⟨_, z⟩ | ⟨z, _⟩
      · exact z
      · omega
    obtain ⟨vs, hL, hl⟩ := B.len
    obtain ⟨ty, ty1, ty2⟩ := isTup_call (K := K) hv
    refine ⟨_, rfl, _, _, ty, _, rfl, ty1, ty2, _, rfl, chg (decide_eq_true c40) (iteT ?_)⟩
    refine ⟨_, rfl, x, CA, dx, _, _, rfl, hx, C.cl, C.n4, A1.l4, lb, _, rfl, .inl (SqL.of hL), _, _, rfl, rfl, _, rfl, ?_⟩
    refine chg ((len_gt hl).trans (congrArg (fun b => !b) (len_nil a.bids))) ?_
    by_cases cb : a.bids = []
    · rw [decide_eq_true cb]
      rw [cb, List.getLast?_nil] at q
      dsimp only at q
      rw [if_neg (by omega), if_neg (by omega)] at q
      refine iteF (iteF ⟨_, rfl, eqS_call (K := K) hc hv no_dbl ⟨_, rfl, chg e41 (iteF (iteF ⟨_, rfl, eqS_call (K := K) hc hv no_agn ⟨_, rfl, chg e42 (iteF (iteF ?_))⟩⟩))⟩⟩)
      exact q H (Same.refl H)
    · rw [decide_eq_false cb]
      obtain ⟨bs, ⟨s0, r0⟩, eb⟩ := snoc_of cb
      have B' := B
      rw [eb] at B'
      obtain ⟨vs', p', b', hL', hl', hat, hp', hb'⟩ := B'.last
      have hr0 : r0 < 40 := (W.bd (s0, r0) (by rw [eb]; exact List.mem_append_right _ (List.mem_singleton.mpr rfl))).2
      rw [eb, List.getLast?_concat] at q
      dsimp only at q
      rw [if_pos c40] at q
      refine iteT ⟨_, rfl, _, rfl, x, CA, dx, _, _, rfl, hx, C.cl, C.n4, A1.l4, _, rfl, lb, _, _, _, rfl, rfl, SqL.of hL', hat, p', _, _, _, rfl, rfl, SqT.of hp', rfl, p, b', _, _, c % 5, r0 % 5, rfl, SqT.of hp, SqT.of hb', Nat.mod_lt _ (by decide), Nat.mod_lt _ (by decide), fun H1 s1 => ⟨_, rfl, ?_⟩⟩
      refine chg (congrArg (fun b => !b) (lex_rank r0 hr0 c c40)) ?_
      by_cases lt : r0 < c
      · rw [if_pos lt] at q
        rw [decide_eq_true lt]
        have hv1 : CallIs H1 c (.ref p) := .inl ⟨c40, p, rfl, s1 _ _ hp⟩
        exact iteF ⟨_, rfl, eqS_call (K := K) hc hv1 no_dbl ⟨_, rfl, chg e41 (iteF (iteF ⟨_, rfl, eqS_call (K := K) hc hv1 no_agn ⟨_, rfl, chg e42 (iteF (iteF (q H1 s1)))⟩⟩))⟩⟩
      · rw [if_neg lt] at q
        rw [decide_eq_false lt]
        exact iteT (q H1 s1)
  · obtain ⟨ty, ty1, ty2⟩ := isTup_call (K := K) hv
    refine ⟨_, rfl, _, _, ty, _, rfl, ty1, ty2, _, rfl, chg (decide_eq_false c40) (iteF (iteF ?_))⟩
    have e41 : decide (cT c = "double") = decide (c = 41) := cT_dbl c hc
    have e42 : decide (cT c = "again") = decide (c = 42) := cT_agn c hc
    refine ⟨_, rfl, eqS_call (K := K) hc hv no_dbl ⟨_, rfl, chg e41 ?_⟩⟩
    by_cases d1 : c = 41
    · have d2 : ¬ c = 42 := by omega
      rw [decide_eq_true d1]
      refine iteT ⟨_, rfl, x, dx, _, rfl, hx, A1.nm _ (by decide +kernel), x, lb, n, a, rfl, I, W, _, rfl, ?_⟩
      by_cases cb : a.bids = []
      · rw [cb, List.getLast?_nil] at q
        dsimp only at q
        rw [if_pos d1] at q
        refine chg (show (!(!decide (a.bids = []) && (decide (a.times = 1) && (ownA n a == false)))) = true by rw [decide_eq_true cb]; rfl) (iteT (q H (Same.refl H)))
      · obtain ⟨bs, ⟨s0, r0⟩, eb⟩ := snoc_of cb
        rw [eb, List.getLast?_concat] at q
        dsimp only at q
        rw [if_neg c40, if_pos d1] at q
        by_cases g : a.times = 1 ∧ ownA n a = false
        · rw [if_pos g] at q
          refine chg (show (!(!decide (a.bids = []) && (decide (a.times = 1) && (ownA n a == false)))) = false by rw [decide_eq_false cb, decide_eq_true g.1, g.2]; rfl) (iteF ?_)
          exact ⟨_, rfl, eqS_call (K := K) hc hv no_agn ⟨_, rfl, chg (e42.trans (decide_eq_false d2)) (iteF (iteF (q H (Same.refl H))))⟩⟩
        · rw [if_neg g] at q
          refine chg (show (!(!decide (a.bids = []) && (decide (a.times = 1) && (ownA n a == false)))) = true by
            rw [decide_eq_false cb]
            by_cases g1 : a.times = 1
            · have : ownA n a = true := by cases h : ownA n a with | true => rfl | false => exact absurd ⟨g1, h⟩ g
              rw [decide_eq_true g1, this]; rfl
            · rw [decide_eq_false g1]; rfl) (iteT (q H (Same.refl H)))
    · rw [decide_eq_false d1]
      refine iteF (iteF ⟨_, rfl, eqS_call (K := K) hc hv no_agn ⟨_, rfl, chg e42 ?_⟩⟩)
      by_cases d2 : c = 42
      · rw [decide_eq_true d2]
        refine iteT ⟨_, rfl, x, dx, _, rfl, hx, A1.nm _ (by decide +kernel), x, lb, n, a, rfl, I, W, _, rfl, ?_⟩
        by_cases cb : a.bids = []
        · rw [cb, List.getLast?_nil] at q
          dsimp only at q
          rw [if_neg d1, if_pos d2] at q
          refine chg (show (!(!decide (a.bids = []) && (decide (a.times = 2) && (ownA n a == true)))) = true by rw [decide_eq_true cb]; rfl) (iteT (q H (Same.refl H)))
        · obtain ⟨bs, ⟨s0, r0⟩, eb⟩ := snoc_of cb
          rw [eb, List.getLast?_concat] at q
          dsimp only at q
          rw [if_neg c40, if_neg d1, if_pos d2] at q
          by_cases g : a.times = 2 ∧ ownA n a = true
          · rw [if_pos g] at q
            exact chg (show (!(!decide (a.bids = []) && (decide (a.times = 2) && (ownA n a == true)))) = false by rw [decide_eq_false cb, decide_eq_true g.1, g.2]; rfl) (iteF (q H (Same.refl H)))
          · rw [if_neg g] at q
            refine chg (show (!(!decide (a.bids = []) && (decide (a.times = 2) && (ownA n a == true)))) = true by
              rw [decide_eq_false cb]
              by_cases g1 : a.times = 2
              · have : ownA n a = false := by cases h : ownA n a with | false => rfl | true => exact absurd ⟨g1, h⟩ g
                rw [decide_eq_true g1, this]; rfl
              · rw [decide_eq_false g1]; rfl) (iteT (q H (Same.refl H)))
      · rw [decide_eq_false d2]
        have qn : Q .non H := by
          have z := q H (Same.refl H)
          cases e : a.bids.getLast? with
          | none =>
            rw [e] at z
            dsimp only at z
            rw [if_neg d1, if_neg d2] at z
            exact z
          | some b =>
            rw [e] at z
            dsimp only at z
            rw [if_neg c40, if_neg d1, if_neg d2] at z
            exact z
        exact iteF (iteF qn)
end
end My

namespace My
open PySem L2
section
variable {P : Program} {w : World} {K : PySem.W.Frag} {mg : Str → Option Value} {base : Heap} {f g : Addr} {fd gd : FuncData}
theorem set_nm {te : TE} {i : Nat} {u : TS} {D : Ends} {σ : St} {H : Hp} (G : V → Hp → Prop) (h : ∀ R : V → Hp → Prop, (∀ v H', G v H' → R v H') → te σ H R) (hu : ∀ v H', G v H' → u D (σ.set i (some v)) H') : tSeq (tAsg te (gName i)) u D σ H := h _ hu
theorem seq_cut {s u : TS} {D : Ends} {σ : St} {H : Hp} (Pv : St → Hp → Prop) (h1 : ∀ D' : Ends, D'.rt = D.rt → (∀ σ H, Pv σ H → D'.nx σ H) → s D' σ H) (h2 : ∀ σ H, Pv σ H → u D σ H) : tSeq s u D σ H := h1 { D with nx := u D } rfl h2
theorem if_cut {c : TT} {t u r : TS} {D : Ends} {σ : St} {H : Hp} (Cb : Bool → Hp → Prop) (Pv : St → Hp → Prop) (hc : ∀ R : Bool → Hp → Prop, (∀ b H', Cb b H' → R b H') → c σ H R)
    (h1 : ∀ H', Cb true H' → ∀ D' : Ends, D'.rt = D.rt → (∀ σ H, Pv σ H → D'.nx σ H) → t D' σ H') (h2 : ∀ H', Cb false H' → ∀ D' : Ends, D'.rt = D.rt → (∀ σ H, Pv σ H → D'.nx σ H) → u D' σ H') (h3 : ∀ σ H, Pv σ H → r D σ H) : tSeq (tIfS c t u) r D σ H :=
  hc _ fun b H' hb => match b, hb with | true, hb => iteT (h1 H' hb { D with nx := r D } rfl h3) | false, hb => iteF (h2 H' hb { D with nx := r D } rfl h3)
theorem cT_mem : ∀ c < 43, 40 ≤ c → cT c ∈ W3 := by decide +kernel
theorem cT_ne {c m : Nat} (hc : 40 ≤ c) (h43 : c < 43) (hm : m < 40) (h : cT c = callT m) : False := call_notW (h ▸ cT_mem c h43 hc)
theorem cT_all {c : Nat} (h : c < 43) : cT c ∈ all43 := by
  by_cases c40 : c < 40
  · rw [cT_bid c40]; exact all_call c40
  · exact all_W (cT_mem c h (by omega))
theorem cT_short {c : Nat} (h : c < 43) : (cT c).length ≤ 1000 := Nat.le_trans (all_short (cT_all h)) (by decide)
theorem CallIs.kept {x lb : Addr} {H H' : Hp} {c : Nat} {v : V} {CA dx : Addr} {fs : List (Str × V)} {vs : List V} (h : CallIs H c v) (hx : H x = some (.ins CA dx fs)) (hl : H lb = some (.lst vs)) (k : Kept x lb H H') : CallIs H' c v := by
  rcases h with ⟨h1, p, rfl, h2⟩ | h
  · exact .inl ⟨h1, p, rfl, k p _ (fun z => by rw [z, hx] at h2; cases h2) (fun z => by rw [z, hl] at h2; cases h2) h2⟩
  · exact .inr h
theorem IsAu.putx {CA x lb dx : Addr} {n : Nat} {a a' : Au} {H : Hp} {fs fs' : List (Str × V)} (hx : H x = some (.ins CA dx fs)) (B : IsBids H lb a.bids) (A : AuF n a' lb fs') (e : a'.bids = a.bids) : IsAu CA n a' (upd H x (.ins CA dx fs')) x lb := ⟨dx, fs', upd_same, A, by rw [e]; exact B.putx hx⟩
def spSay (CA : Addr) : Sp := fun vs H Q _ => ∃ (x lb : Addr) (n : Nat) (a : Au) (c : Nat), vs = [.ref x, .str (cT c)] ∧ c < 43 ∧ IsAu CA n a H x lb ∧ WfA n a ∧ brkA n a c = none ∧ ∀ H', Kept x lb H H' → IsAu CA n (stepA n a c) H' x lb → Q .non H'
theorem scSay : FnScope ["self", "text", "call", "rule"] ["self", "text"] (defScope sSay) := ⟨rfl, rfl, rfl, by decide +kernel, rfl, by decide +kernel, by decide +kernel⟩
theorem ok_say {k : Nat} {CA CN m1 f2 : Addr} {e1 d2 : FuncData} (F : Fun K "say" "Auction.say" sSay f fd) (C : AuC K mg CA) (MB : Meth K CA "broken_rule" m1) (FB : FnOk P w K mg base CX0 k m1 e1 ["self", "call"] (spBrk CA)) (BB : Binds K e1 ["self", "call"] [])
    (LR : LibX P w K mg base k "read_call" ["text"] (spReadCall K CN) f2 d2) (mi : mg "isinstance" = none) (mt : mg "tuple" = none) : FnOk P w K mg base CX0 (k + 1) f fd ["self", "text"] (spSay CA) := by
  refine F.ok scSay (fun vs H Q E h => ?_) (fun cdv A outer s H vs Q E hr h => ?_)
  · obtain ⟨x, lb, n, a, c, rfl, _⟩ := h
    rfl
  obtain ⟨x, lb, n, a, c, rfl, hc, I, W, hb, q⟩ := h
  refine ⟨_, pss_cons (ps_set (i := 2) scSay.nd rfl (Or.inl rfl) (pe_call LR.ok hr rfl LR.mg LR.kp LR.bd .nil pass1 (pa_cons (pv 1) pa_nil)))
    (pss_cons (ps_set (i := 3) scSay.nd rfl (Or.inl rfl) (pe_meth (pv 0) C.cl MB FB hr BB .nil pass0 (pa_cons (pv 2) pa_nil)))
    (pss_cons (ps_if (pt_cmpR op_notN (pv 3) pe_non (nomark _)) (pss_one ps_never) pss_nil)
    (pss_cons (ps_fld (pv 0) (pe_ifExp (pt_cmpR (op_eqS hr.units) (pv 2) pe_str (nomark _)) (pe_op op_add (pe_fld (pv 0) rfl) pe_int) pe_int) rfl)
    (pss_cons (ps_if (pt_cmpR (op_eqS hr.units) (pv 2) pe_str (nomark _)) (pss_one (ps_fld (pv 0) pe_int rfl)) pss_nil)
    (pss_cons (ps_if (pt_cmpR (op_eqS hr.units) (pv 2) pe_str (nomark _)) (pss_one (ps_fld (pv 0) pe_int rfl)) pss_nil)
    (pss_cons (ps_if (pt_truth (pe_callB call_isT rfl mi PyProof.Rows.boot_isinstance (pa_cons (pv 2) (pa_cons (pe_bltn (v := .ty "tuple") rfl mt PyProof.Rows.boot_tuple rfl) pa_nil))) (fun _ => rfl)) (pss_cons (ps_expr (pe_bm PySem.F.plainAttrs_list PySem.F.slot_list_append PySem.F.type_list_append mt_append (pe_fld (pv 0) rfl) (pa_cons (pe_tup (pa_cons (pe_fld (pv 0) rfl) (pa_cons (pv 2) pa_nil))) pa_nil))) (pss_one (ps_fld (pv 0) pe_int rfl))) pss_nil)
    (pss_one (ps_fld (pv 0) (pe_op op_mod (pe_op op_add (pe_fld (pv 0) rfl) pe_int) (pe_fld (pv 0) rfl)) rfl)))))))), ?_⟩
  refine set_nm (fun v H' => Same H H' ∧ CallIs H' c v) (fun R hR => ?_) (fun v H1 z => ?_)
  · refine ⟨_, rfl, cT c, rfl, cT_short hc, fun m => hR _ _ ⟨Same.refl _, .inr ⟨?_, rfl⟩⟩, fun m hm e p H' s' hp h' => hR _ _ ⟨s', .inl ?_⟩, fun z => absurd (cT_all hc) z⟩
    · by_cases c40 : c < 40
      · rw [cT_bid c40] at m
        exact absurd m call_notW
      · omega
    · by_cases c40 : c < 40
      · rw [cT_bid c40] at e
        have := callT_inj c40 hm e
        subst this
        exact ⟨c40, p, rfl, h'⟩
      · exact (cT_ne (by omega) hc hm e).elim
  obtain ⟨s1, hv⟩ := z
  have I1 := I.same s1
  obtain ⟨dx, fs, hx, A1, B⟩ := id I1
  refine set_nm (fun u H' => Same H1 H' ∧ u = .non) (fun R hR => ?_) (fun u H2 z => ?_)
  · refine ⟨_, rfl, x, dx, _, rfl, hx, A1.nm _ (by decide +kernel), _, rfl, x, lb, n, a, c, v, rfl, hc, hv, I1, W, fun H2 s2 => hR _ _ ⟨s2, ?_⟩⟩
    rw [hb]
    rfl
  obtain ⟨s2, rfl⟩ := z
  have I2 := I1.same s2
  have s12 := s1.trans s2
  have hv2 : CallIs H2 c v := by
    rcases hv with ⟨h1, p, e, h2⟩ | h
    · exact .inl ⟨h1, p, e, s2 _ _ h2⟩
    · exact .inr h
  clear hv hx A1 B I1
  refine if_cut (fun b H' => H2 = H' ∧ b = false) (fun σ H' => H2 = H' ∧ σ = [some (.ref x), some (.str (cT c)), some v, some .non]) (fun R hR => ⟨_, rfl, rfl, _, rfl, hR _ _ ⟨rfl, rfl⟩⟩) (fun H' z => nomatch z.2) (fun H' z D' _ nx => nx _ _ ⟨z.1, rfl⟩) (fun σ H' z => ?_)
  obtain ⟨rfl, rfl⟩ := z
  -- passes
  refine seq_cut (fun σ H' => σ = [some (.ref x), some (.str (cT c)), some v, some .non] ∧ Kept x lb H2 H' ∧ CallIs H' c v ∧ IsAu CA n { a with passes := if c = 40 then a.passes + 1 else 0 } H' x lb) (fun D' _ nx => ?_) (fun σ H3 z => ?_)
  · obtain ⟨dx, fs, hx, A1, B⟩ := id I2
    obtain ⟨vs, hL, _⟩ := B.len
    have e40 : decide (cT c = "pass") = decide (c = 40) := cT_pass c hc
    refine ⟨_, rfl, eqS_call (K := K) hc hv2 no_pass ⟨_, rfl, chg e40 ?_⟩⟩
    have fin : ∀ (p : Nat), p = (if c = 40 then a.passes + 1 else 0) → D'.nx [some (.ref x), some (.str (cT c)), some v, some .non] (upd H2 x (.ins CA dx (putF "passes" (.int (p : Nat)) fs))) := fun p e => by
      refine nx _ _ ⟨rfl, Kept.putx _, hv2.kept hx hL (Kept.putx _), ?_⟩
      rw [← e]
      exact IsAu.putx hx B (A1.pPasses p) rfl
    by_cases c40 : c = 40
    · rw [decide_eq_true c40]
      refine iteT ⟨_, rfl, x, CA, dx, _, _, rfl, hx, C.cl, C.n3, A1.l3, _, _, rfl, rfl, _, rfl, x, CA, dx, fs, rfl, hx, C.cl, C.n3, by have := A1.ln; omega, ?_⟩
      exact fin (a.passes + 1) (if_pos c40).symm
    · rw [decide_eq_false c40]
      refine iteF ⟨_, rfl, x, CA, dx, fs, rfl, hx, C.cl, C.n3, by have := A1.ln; omega, ?_⟩
      exact fin 0 (if_neg c40).symm
  obtain ⟨rfl, k3, hv3, I3⟩ := z
  generalize ea : ({ a with passes := if c = 40 then a.passes + 1 else 0 } : Au) = a3 at I3
  -- double
  refine if_cut (fun b H' => H3 = H' ∧ b = decide (c = 41)) (fun σ H' => σ = [some (.ref x), some (.str (cT c)), some v, some .non] ∧ Kept x lb H3 H' ∧ CallIs H' c v ∧ IsAu CA n (if c = 41 then { a3 with times := 2 } else a3) H' x lb) (fun R hR => ?_) (fun H' z D' _ nx => ?_) (fun H' z D' _ nx => ?_) (fun σ H4 z => ?_)
  · exact ⟨_, rfl, eqS_call (K := K) hc hv3 no_dbl ⟨_, rfl, hR _ _ ⟨rfl, cT_dbl c hc⟩⟩⟩
  · obtain ⟨rfl, hb1⟩ := z
    obtain ⟨dx, fs, hx, A1, B⟩ := id I3
    obtain ⟨vs, hL, _⟩ := B.len
    refine ⟨_, rfl, x, CA, dx, fs, rfl, hx, C.cl, C.n5, by have := A1.ln; omega, nx _ _ ⟨rfl, Kept.putx _, hv3.kept hx hL (Kept.putx _), ?_⟩⟩
    rw [if_pos (of_decide_eq_true hb1.symm)]
    exact IsAu.putx hx B (A1.pTimes 2) rfl
  · obtain ⟨rfl, hb1⟩ := z
    refine nx _ _ ⟨rfl, Kept.refl, hv3, ?_⟩
    rw [if_neg (of_decide_eq_false hb1.symm)]
    exact I3
  obtain ⟨rfl, k4, hv4, I4⟩ := z
  generalize eb : (if c = 41 then { a3 with times := 2 } else a3) = a4 at I4
  -- again
  refine if_cut (fun b H' => H4 = H' ∧ b = decide (c = 42)) (fun σ H' => σ = [some (.ref x), some (.str (cT c)), some v, some .non] ∧ Kept x lb H4 H' ∧ CallIs H' c v ∧ IsAu CA n (if c = 42 then { a4 with times := 4 } else a4) H' x lb) (fun R hR => ?_) (fun H' z D' _ nx => ?_) (fun H' z D' _ nx => ?_) (fun σ H5 z => ?_)
  · exact ⟨_, rfl, eqS_call (K := K) hc hv4 no_agn ⟨_, rfl, hR _ _ ⟨rfl, cT_agn c hc⟩⟩⟩
  · obtain ⟨rfl, hb1⟩ := z
    obtain ⟨dx, fs, hx, A1, B⟩ := id I4
    obtain ⟨vs, hL, _⟩ := B.len
    refine ⟨_, rfl, x, CA, dx, fs, rfl, hx, C.cl, C.n5, by have := A1.ln; omega, nx _ _ ⟨rfl, Kept.putx _, hv4.kept hx hL (Kept.putx _), ?_⟩⟩
    rw [if_pos (of_decide_eq_true hb1.symm)]
    exact IsAu.putx hx B (A1.pTimes 4) rfl
  · obtain ⟨rfl, hb1⟩ := z
    refine nx _ _ ⟨rfl, Kept.refl, hv4, ?_⟩
    rw [if_neg (of_decide_eq_false hb1.symm)]
    exact I4
  obtain ⟨rfl, k5, hv5, I5⟩ := z
  generalize ec : (if c = 42 then { a4 with times := 4 } else a4) = a5 at I5
  have b5 : a5.bids = a.bids ∧ a5.caller = a.caller := by
    rw [← ec, ← eb, ← ea]
    constructor <;> (split <;> split <;> rfl)
  -- a bid
  refine if_cut (fun b H' => H5 = H' ∧ b = decide (c < 40)) (fun σ H' => σ = [some (.ref x), some (.str (cT c)), some v, some .non] ∧ Kept x lb H5 H' ∧ IsAu CA n (if c < 40 then { a5 with bids := a5.bids ++ [(a5.caller, c)], times := 1 } else a5) H' x lb) (fun R hR => ?_) (fun H' z D' _ nx => ?_) (fun H' z D' _ nx => ?_) (fun σ H6 z => ?_)
  · obtain ⟨ty, ty1, ty2⟩ := isTup_call (K := K) hv5
    exact ⟨_, rfl, _, _, ty, _, rfl, ty1, ty2, _, rfl, hR _ _ ⟨rfl, rfl⟩⟩
  · obtain ⟨rfl, hb1⟩ := z
    have c40 := of_decide_eq_true hb1.symm
    obtain ⟨p, rfl, hp⟩ : ∃ p, v = .ref p ∧ H5 p = some (.tup (bidR c)) := by
      rcases hv5 with ⟨_, z⟩ | ⟨z, _⟩
      · exact z
      · omega
    obtain ⟨dx, fs, hx, A1, B⟩ := id I5
    obtain ⟨vs, hL, hl⟩ := B.len
    refine ⟨_, rfl, x, CA, dx, _, _, rfl, hx, C.cl, C.n4, A1.l4, .inl ⟨rfl, _, SqL.of hL⟩, _, rfl, x, CA, dx, _, _, rfl, hx, C.cl, C.n2, A1.l2, _, rfl, fits3 2 (by decide), fun p2 hp2 => ?_⟩
    have s6 := same_upd hp2 (.tup [.int (a5.caller : Nat), .ref p])
    have hLb := s6 _ _ hL
    have nxl : x ≠ lb := fun z => by rw [z, hL] at hx; cases hx
    refine ⟨lb, vs, _, rfl, rfl, hLb, ?_, ?_⟩
    · have h5 := W.ln
      rw [hl, b5.1]
      have := fits3 1000 (by decide)
      omega
    have B6 := IsBids.snoc (s := a5.caller) (r := c) hLb (B.same s6) upd_same (s6 _ _ hp)
    have hx6 : upd (upd H5 p2 (.tup [.int (a5.caller : Nat), .ref p])) lb (.lst (vs ++ [.ref p2])) x = some (.ins CA dx fs) := by rw [upd_ne nxl]; exact s6 _ _ hx
    refine ⟨_, rfl, x, CA, dx, fs, rfl, hx6, C.cl, C.n5, by have := A1.ln; omega, nx _ _ ⟨rfl, (Kept.of s6).trans ((Kept.putl _).trans (Kept.putx _)), ?_⟩⟩
    rw [if_pos c40]
    exact IsAu.putx (a := { a5 with bids := a5.bids ++ [(a5.caller, c)] }) hx6 B6 ((A1.bids (a5.bids ++ [(a5.caller, c)])).pTimes 1) rfl
  · obtain ⟨rfl, hb1⟩ := z
    refine nx _ _ ⟨rfl, Kept.refl, ?_⟩
    rw [if_neg (of_decide_eq_false hb1.symm)]
    exact I5
  obtain ⟨rfl, k6, I6⟩ := z
  generalize ed : (if c < 40 then { a5 with bids := a5.bids ++ [(a5.caller, c)], times := 1 } else a5) = a6 at I6
  have c6 : a6.caller = a.caller := by
    rw [← ed, ← b5.2]
    split <;> rfl
  obtain ⟨dx, fs, hx, A1, B⟩ := id I6
  have n0 : (0 : Int) < ((n : Nat) : Int) := by rcases W.n34 with z | z <;> omega
  refine ⟨_, rfl, x, CA, dx, _, _, rfl, hx, C.cl, C.n2, A1.l2, _, _, rfl, rfl, _, rfl, x, CA, dx, _, _, rfl, hx, C.cl, C.n1, A1.l1, _, _, rfl, rfl, n0, _, rfl, x, CA, dx, fs, rfl, hx, C.cl, C.n2, by have := A1.ln; omega, ?_⟩
  have em : (((a6.caller : Nat) : Int) + 1) % ((n : Nat) : Int) = (((a6.caller + 1) % n : Nat) : Int) := by rw [Int.natCast_emod, Int.natCast_add]; rfl
  refine q _ ((Kept.of s12).trans (k3.trans (k4.trans (k5.trans (k6.trans (Kept.putx _)))))) ?_
  show IsAu CA n (stepA n a c) (upd H6 x (.ins CA dx (putF "caller" (.int ((((a6.caller : Nat) : Int) + 1) % ((n : Nat) : Int))) fs))) x lb
  rw [em]
  have es : stepA n a c = { a6 with caller := (a6.caller + 1) % n } := by
    rw [c6, ← ed, ← ec, ← eb, ← ea]
    unfold stepA
    by_cases x1 : c < 40
    · have x2 : ¬ c = 41 := by omega
      have x3 : ¬ c = 42 := by omega
      simp only [x1, x2, x3, if_true, if_false]
    · by_cases x2 : c = 41
      · have x3 : ¬ c = 42 := by omega
        simp only [x1, x2, x3, if_true, if_false]
        rfl
      · by_cases x3 : c = 42
        · simp only [x1, x2, x3, if_true, if_false]
          rfl
        · simp only [x1, x2, x3, if_true, if_false]
  rw [es]
  exact IsAu.putx hx B (A1.pCaller _) rfl
end
end My

namespace My
open PySem L2
abbrev sLText : Stmt := top 18
abbrev sLRank : Stmt := top 19
abbrev sLOver : Stmt := top 20
abbrev sLast : Stmt := top 21
section
variable {P : Program} {w : World} {K : PySem.W.Frag} {mg : Str → Option Value} {base : Heap} {f g : Addr} {fd gd : FuncData}
theorem for_enumL {K : PySem.W.Frag} {a : Addr} {xs : List V} {g : TG} {tb : TS} {D : Ends} {σ : St} {H : Hp} (Pv : Nat → St → Hp → Prop) (h0 : Pv 0 σ H) (hS : ∀ i σ H, Pv i σ H → SqL K H a xs)
    (hs : ∀ i x p σ H, xs[i]? = some x → Pv i σ H → H p = none → g (.ref p) σ (upd H p (.tup [.int (i : Nat), x])) fun σ2 H2 => tb { D with nx := Pv (i + 1), ct := Pv (i + 1), bk := D.nx } σ2 H2) (hd : ∀ σ H, Pv xs.length σ H → D.nx σ H) :
    ∃ W : Nat → Nat → St → Hp → Prop, (∃ m, W 0 m σ H) ∧ ∀ i m σ H, W i m σ H →
      ((Ite K a).stop i H ∧ D.nx σ H) ∨ ((Ite K a).go i H ∧ ∃ N : St → Hp → Prop, (∀ σ' H', N σ' H' → ∃ m', m' < m ∧ W (i + 1) m' σ' H') ∧ ∀ v H', (Ite K a).yld i H v H' → g v σ H' fun σ2 H2 => tb { D with nx := N, ct := N, bk := D.nx } σ2 H2) := by
  refine ⟨fun i m σ H => m = xs.length - i ∧ i ≤ xs.length ∧ Pv i σ H, ⟨xs.length, by simp, Nat.zero_le _, h0⟩, ?_⟩
  rintro i m σ H ⟨rfl, hi, p⟩
  have sa := hS i σ H p
  by_cases hlt : i < xs.length
  · refine .inr ⟨⟨xs, _, sa, List.getElem?_eq_getElem hlt⟩, Pv (i + 1), fun σ' H' p' => ⟨xs.length - (i + 1), by omega, rfl, hlt, p'⟩, fun v H' y => ?_⟩
    obtain ⟨q, x, rfl, hq, rfl, hx⟩ := y
    exact hs i x q σ H (hx xs sa) p hq
  · have e : i = xs.length := by omega
    subst e
    exact .inl ⟨⟨xs, sa, Nat.le_refl _⟩, hd σ H p⟩
theorem last_ok (cs : List Nat) : (∀ c ∈ cs, c < 43) → ∀ k, (lastF cs).2.1 = some k → ∃ r, cs[k]? = some r ∧ r < 40 := by
  refine snoc_ind (P := fun cs => (∀ c ∈ cs, c < 43) → ∀ k, (lastF cs).2.1 = some k → ∃ r, cs[k]? = some r ∧ r < 40) (fun _ k h => nomatch h) (fun cs c ih => ?_) cs
  intro co k h
  rw [last_snoc] at h
  have old : (lastF cs).2.1 = some k → ∃ r, (cs ++ [c])[k]? = some r ∧ r < 40 := fun z => by
    obtain ⟨r, h1, h2⟩ := ih (fun d hd => co d (List.mem_append_left _ hd)) k z
    exact ⟨r, by rw [List.getElem?_append_left (List.getElem?_eq_some_iff.mp h1).1]; exact h1, h2⟩
  have c43 := co c (List.mem_append_right _ (List.mem_singleton.mpr rfl))
  change (if c = 41 ∨ c = 42 then ((lastF cs).2.1, 2 * (lastF cs).2.2) else if c = 40 then (lastF cs).2 else (some (lastF cs).1, 1)).1 = some k at h
  by_cases e1 : c = 41 ∨ c = 42
  · rw [if_pos e1] at h
    exact old h
  · rw [if_neg e1] at h
    by_cases e2 : c = 40
    · rw [if_pos e2] at h
      exact old h
    · rw [if_neg e2, last_fst] at h
      have e := Option.some.inj h
      subst e
      exact ⟨c, by rw [List.getElem?_append_right (Nat.le_refl _), Nat.sub_self]; rfl, by omega⟩
/-! ### a bid written, and its rank -/
def spLText : Sp := fun vs H Q _ => ∃ r : Nat, vs = [.int (r : Nat)] ∧ r < 40 ∧ Q (.str (cT r)) H
theorem scLText : FnScope ["_law_rank_here"] ["_law_rank_here"] (defScope sLText) := ⟨rfl, rfl, rfl, by decide +kernel, rfl, by decide +kernel, by decide +kernel⟩
theorem ok_ltext {k : Nat} (F : Fun K "_law_text" "_law_text" sLText f fd) : FnOk P w K mg base CX0 (k + 1) f fd ["_law_rank_here"] spLText := by
  refine F.ok scLText (fun vs H Q E h => ?_) (fun cdv A outer s H vs Q E hr h => ?_)
  · obtain ⟨r, rfl, _⟩ := h
    rfl
  obtain ⟨r, rfl, h, q⟩ := h
  refine ⟨_, pss_one (ps_ret (pe_op op_add_str (pe_ix ix_str pe_str (pe_op op_fdiv (pv 0) pe_int) (fun _ _ => rfl)) (pe_ix ix_str pe_str (pe_op op_mod (pv 0) pe_int) (fun _ _ => rfl)))), ?_⟩
  have e1 : ((r : Nat) : Int) / 5 = ((r / 5 : Nat) : Int) := by omega
  have e2 : ((r : Nat) : Int) % 5 = ((r % 5 : Nat) : Int) := by omega
  refine ⟨_, rfl, _, _, rfl, rfl, ⟨by decide, by decide⟩, _, _, _, rfl, rfl, fits3 8 (by decide), (by rw [e1]; exact fig_at _ (by omega)), _, rfl, _, _, rfl, rfl, (show (0 : Int) < 5 by decide), _, _, _, rfl, rfl, fits3 5 (by decide), (by rw [e2]; exact str_at _ (by omega)), ?_⟩
  rw [cT_bid h] at q
  exact ⟨_, _, rfl, rfl, two_fit _ _, q⟩
def spLRank : Sp := fun vs H Q _ => ∃ r : Nat, vs = [.str (cT r)] ∧ r < 40 ∧ Q (.int (r : Nat)) H
theorem scLRank : FnScope ["_law_text_here"] ["_law_text_here"] (defScope sLRank) := ⟨rfl, rfl, rfl, by decide +kernel, rfl, by decide +kernel, by decide +kernel⟩
theorem ok_lrank {k : Nat} (F : Fun K "_law_rank" "_law_rank" sLRank f fd) : FnOk P w K mg base CX0 (k + 1) f fd ["_law_text_here"] spLRank := by
  refine F.ok scLRank (fun vs H Q E h => ?_) (fun cdv A outer s H vs Q E hr h => ?_)
  · obtain ⟨r, rfl, _⟩ := h
    rfl
  obtain ⟨r, rfl, h, q⟩ := h
  refine ⟨_, pss_one (ps_ret (pe_op op_add (pe_op op_mul pe_int (pe_bm PySem.F.plainAttrs_str PySem.F.slot_str_index PySem.F.type_str_index mt_sindex pe_str (pa_cons (pe_ix ix_str (pv 0) pe_int (fun _ _ => rfl)) pa_nil))) (pe_bm PySem.F.plainAttrs_str PySem.F.slot_str_index PySem.F.type_str_index mt_sindex pe_str (pa_cons (pe_ix ix_str (pv 0) pe_int (fun _ _ => rfl)) pa_nil)))), ?_⟩
  have g1 := find_fg (r / 5) (by omega)
  have g2 := find_cp (r % 5) (Nat.mod_lt _ (by decide))
  have ct := cT_bid h
  refine ⟨rfl, _, rfl, cT r, 0, 49 + r / 5, rfl, rfl, ?_, ?_, sFig, ⟨#[49 + r / 5]⟩, ((r / 5 : Nat) : Int), rfl, rfl, (by rw [g1]; omega), g1, ?_⟩
  · rw [ct]; exact fits3 2 (by decide)
  · rw [ct]; rfl
  refine ⟨_, _, rfl, rfl, .inl ⟨by decide, by decide⟩, rfl, _, rfl, cT r, 1, cpL (r % 5), rfl, rfl, ?_, ?_, sStr, ⟨#[cpL (r % 5)]⟩, ((r % 5 : Nat) : Int), rfl, rfl, (by rw [g2]; omega), g2, ?_⟩
  · rw [ct]; exact fits3 2 (by decide)
  · rw [ct]; rfl
  refine ⟨_, _, rfl, rfl, ?_⟩
  have e : (5 : Int) * ((r / 5 : Nat) : Int) + ((r % 5 : Nat) : Int) = ((r : Nat) : Int) := by omega
  show Q (.int ((5 : Int) * ((r / 5 : Nat) : Int) + ((r % 5 : Nat) : Int))) H
  rw [e]
  exact q
/-! ### is it over -/
def spLOver (K : PySem.W.Frag) : Sp := fun vs H Q _ => ∃ (a : Addr) (n : Nat) (cs : List Nat), vs = [.ref a, .int (n : Nat)] ∧ SqL K H a (vC cs) ∧ (∀ c ∈ cs, c < 43) ∧ 1 ≤ n ∧ Q (.bl (overC n cs)) H
theorem scLOver : FnScope ["_law_calls", "_law_seats", "_law_tail"] ["_law_calls", "_law_seats"] (defScope sLOver) := ⟨rfl, rfl, rfl, by decide +kernel, rfl, by decide +kernel, by decide +kernel⟩
theorem ok_lover {k : Nat} (F : Fun K "_law_over" "_law_over" sLOver f fd) (ml : mg "len" = none) : FnOk P w K mg base CX0 (k + 1) f fd ["_law_calls", "_law_seats"] (spLOver K) := by
  refine F.ok scLOver (fun vs H Q E h => ?_) (fun cdv A outer s H vs Q E hr h => ?_)
  · obtain ⟨a, n, cs, rfl, _⟩ := h
    rfl
  obtain ⟨a, n, cs, rfl, hS, co, hn, q⟩ := h
  refine ⟨_, pss_cons (ps_set (i := 2) scLOver.nd rfl (Or.inl rfl) pe_int)
    (pss_cons (ps_while PassesOwn.never (PW.pt (pw_and (pt_cmpR op_lt (pv 2) (pe_callB call_len_seq rfl ml PySem.boot_len (pa_cons (pv 0) pa_nil)) (nomark _)) (pw_and1 (pt_cmpR op_eq (pe_ix ix_list (pv 0) (pe_op op_sub (pe_op op_sub (pe_callB call_len_seq rfl ml PySem.boot_len (pa_cons (pv 0) pa_nil)) pe_int) (pv 2)) (fun _ _ => rfl)) pe_str (nomark _)))))
      (pss_one (ps_set (i := 2) scLOver.nd rfl (Or.inl rfl) (pe_op op_add (pv 2) pe_int))))
    (pss_cons (ps_if (pt_cmpR op_eq (pv 2) (pe_callB call_len_seq rfl ml PySem.boot_len (pa_cons (pv 0) pa_nil)) (nomark _)) (pss_one (ps_ret (pe_cmpR op_eq (pv 2) (pv 1) (nomark _)))) pss_nil)
    (pss_one (ps_ret (pe_cmpR op_eq (pv 2) (pe_op op_sub (pv 1) pe_int) (nomark _)))))), ?_⟩
  have hl := vC_len cs
  have ta := tail_at cs
  have tl := tail_le cs
  refine ⟨fun m σ H' => H = H' ∧ ∃ i : Nat, σ = [some (.ref a), some (.int (n : Nat)), some (.int (i : Nat))] ∧ m = cs.length - i ∧ i ≤ tailF cs, ⟨cs.length, rfl, 0, rfl, rfl, Nat.zero_le _⟩, fun m σ H' z => ?_⟩
  obtain ⟨rfl, i, rfl, rfl, hi⟩ := z
  have done : i = tailF cs → (tSeq (tIfS (tTest (tOp rEq (tVar 2) (tCB (fun xs H_1 Q => ∃ p ys, xs = [V.ref p] ∧ (SqL K H_1 p ys ∨ SqT K H_1 p ys) ∧ Q (V.int ys.length) H_1) (tCons (tVar 0) tNil)))) (tRet (tOp rEq (tVar 2) (tVar 1))) tNext) (tRet (tOp rEq (tVar 2) (tOp (rI0 fun i j => .int (i - j)) (tVar 1) (tC (.int 1))))) : TS) { nx := fun _ H' => Q .non H', rt := Q } [some (.ref a), some (.int (n : Nat)), some (.int (i : Nat))] H := fun e => by
    subst e
    unfold overC at q
    refine ⟨_, rfl, _, rfl, a, _, rfl, .inl hS, rfl, _, rfl, ?_⟩
    have e0 : decide (V.int (tailF cs : Nat) = V.int (((vC cs).length : Nat) : Int)) = decide (tailF cs = cs.length) := decide_eq_decide.mpr ⟨fun h => by injection h with h; omega, fun h => by rw [hl, h]⟩
    refine chg e0 ?_
    by_cases c : tailF cs = cs.length
    · rw [decide_eq_true c]
      rw [if_pos c] at q
      refine iteT ⟨_, rfl, _, rfl, rfl, ?_⟩
      have e : decide (V.int (tailF cs : Nat) = V.int (n : Nat)) = decide (tailF cs = n) := decide_eq_decide.mpr ⟨fun h => by injection h with h; omega, fun h => by rw [h]⟩
      show Q (.bl (decide (V.int (tailF cs : Nat) = V.int (n : Nat)))) H
      rw [e]
      exact q
    · rw [decide_eq_false c]
      rw [if_neg c] at q
      refine iteF ⟨_, rfl, _, rfl, _, _, rfl, rfl, rfl, ?_⟩
      have e : decide (V.int (tailF cs : Nat) = V.int (((n : Nat) : Int) - 1)) = decide (tailF cs = n - 1) := decide_eq_decide.mpr ⟨fun h => by injection h with h; omega, fun h => by rw [h, show ((n - 1 : Nat) : Int) = ((n : Nat) : Int) - 1 by omega]⟩
      show Q (.bl (decide (V.int (tailF cs : Nat) = V.int (((n : Nat) : Int) - 1)))) H
      rw [e]
      exact q
  refine ⟨_, rfl, _, rfl, a, _, rfl, .inl hS, _, _, rfl, rfl, _, rfl, ?_⟩
  have e1 : decide (((i : Nat) : Int) < (((vC cs).length : Nat) : Int)) = decide (i < cs.length) := decide_eq_decide.mpr ⟨fun h => by omega, fun h => by omega⟩
  refine chg e1 ?_
  by_cases c1 : i < cs.length
  · rw [decide_eq_true c1]
    have ix : ((((vC cs).length : Nat) : Int) - 1 - ((i : Nat) : Int)) = ((cs.length - 1 - i : Nat) : Int) := by omega
    obtain ⟨d, hd⟩ : ∃ d, cs[cs.length - 1 - i]? = some d := ⟨_, List.getElem?_eq_getElem (by omega)⟩
    have d43 := co d (List.mem_of_getElem? hd)
    refine iteT ⟨_, rfl, _, rfl, a, _, rfl, .inl hS, _, _, rfl, rfl, _, rfl, _, _, rfl, rfl, a, _, _, _, rfl, rfl, hS, (by rw [ix]; exact vC_at hd), rfl, _, rfl, ?_⟩
    refine chg ((str_dec _ _).trans (cT_pass d d43)) ?_
    by_cases c2 : i < tailF cs
    · have := ta.1 i c2
      rw [hd] at this
      rw [decide_eq_true (Option.some.inj this)]
      refine iteT ⟨fun σ' H' => H = H' ∧ σ' = [some (.ref a), some (.int (n : Nat)), some (.int ((i + 1 : Nat) : Int))], fun σ' H' z => ⟨cs.length - (i + 1), by omega, z.1, i + 1, z.2, rfl, c2⟩, _, rfl, _, _, rfl, rfl, rfl, rfl⟩
    · have e : i = tailF cs := by omega
      obtain ⟨d', h1, h2⟩ := ta.2 (by omega)
      rw [← e, hd] at h1
      rw [decide_eq_false (fun z => h2 ((Option.some.inj h1).symm.trans z))]
      exact iteF (done e)
  · rw [decide_eq_false c1]
    exact iteF (iteF (done (by omega)))
/-! ### the last bid and the times -/
def atV (o : Option Nat) : V := match o with | none => .non | some k => .int (k : Nat)
def spLast (K : PySem.W.Frag) : Sp := fun vs H Q _ => ∃ (a : Addr) (cs : List Nat), vs = [.ref a] ∧ H a = some (.lst (vC cs)) ∧ (∀ c ∈ cs, c < 43) ∧ ∀ p H', Same H H' → H' p = some (.tup [atV (lastF cs).2.1, .int ((lastF cs).2.2 : Nat)]) → Q (.ref p) H'
abbrev nLast : List Str := ["_law_calls", "_law_at", "_law_times", "_law_k", "_law_call"]
theorem scLast : FnScope nLast ["_law_calls"] (defScope sLast) := ⟨rfl, rfl, rfl, by decide +kernel, rfl, by decide +kernel, by decide +kernel⟩
theorem in_da {c : Nat} (h : c < 43) : inV (.str (cT c)) [.str "double", .str "again"] = decide (c = 41 ∨ c = 42) := by
  have e : inV (.str (cT c)) (vS ["double", "again"]) = decide (cT c ∈ (["double", "again"] : List Str)) := inV_str
  refine e.trans ?_
  have all : ∀ c < 43, decide (cT c ∈ (["double", "again"] : List Str)) = decide (c = 41 ∨ c = 42) := by decide +kernel
  exact all c h
theorem ok_last {k : Nat} (F : Fun K "_law_last" "_law_last" sLast f fd) (me : mg "enumerate" = none) : FnOk P w K mg base CX0 (k + 1) f fd ["_law_calls"] (spLast K) := by
  refine F.ok scLast (fun vs H Q E h => ?_) (fun cdv A outer s H vs Q E hr h => ?_)
  · obtain ⟨a, cs, rfl, _⟩ := h
    rfl
  obtain ⟨a, cs, rfl, hL, co, q⟩ := h
  refine ⟨_, pss_cons (ps_set (i := 1) scLast.nd rfl (Or.inl rfl) pe_non)
    (pss_cons (ps_set (i := 2) scLast.nd rfl (Or.inl rfl) pe_int)
    (pss_cons (ps_for PassesOwn.never rfl (pi_enum rfl me (pa_cons (pv 0) pa_nil)) (pg_tup rfl (pgs_cons (pg_name (i := 3) scLast.nd rfl (Or.inl rfl)) (pgs_cons (pg_name (i := 4) scLast.nd rfl (Or.inl rfl)) pgs_nil)))
      (pss_one (ps_if (pt_cmpR op_in_seq (pv 4) (pe_tup (pa_cons pe_str (pa_cons pe_str pa_nil))) rfl) (pss_one (ps_set (i := 2) scLast.nd rfl (Or.inl rfl) (pe_op op_mul pe_int (pv 2))))
        (pss_one (ps_if (pt_cmpR op_ne (pv 4) pe_str (nomark _)) (pss_cons (ps_set (i := 1) scLast.nd rfl (Or.inl rfl) (pv 3)) (pss_one (ps_set (i := 2) scLast.nd rfl (Or.inl rfl) pe_int))) pss_nil)))))
    (pss_one (ps_ret (pe_tup (pa_cons (pv 1) (pa_cons (pv 2) pa_nil))))))), ?_⟩
  refine ⟨_, rfl, a, _, rfl, hL, for_enumL (K := K) (xs := vC cs) (fun i σ H' => Same H H' ∧ ∃ x3 x4, σ = [some (.ref a), some (atV (lastF (cs.take i)).2.1), some (.int ((lastF (cs.take i)).2.2 : Nat)), x3, x4]) ⟨Same.refl _, none, none, by rw [List.take_zero]; rfl⟩ (fun i σ H' z => SqL.of (z.1 _ _ hL)) (fun i x p σ H1 hx z hp => ?_) (fun σ H1 z => ?_)⟩
  · obtain ⟨s1, x3, x4, rfl⟩ := z
    obtain ⟨c, hc, rfl⟩ := vC_get hx
    have c43 := co c (List.mem_of_getElem? hc)
    have il : i < cs.length := (List.getElem?_eq_some_iff.mp hc).1
    have s2 := same_upd hp (.tup [.int (i : Nat), .str (cT c)])
    have tk : cs.take (i + 1) = cs.take i ++ [c] := by rw [List.take_add_one, hc]; rfl
    have lf : (lastF (cs.take i)).1 = i := by rw [last_fst, List.length_take]; omega
    have ls : lastF (cs.take (i + 1)) = lst3 (lastF (cs.take i)) c := by rw [tk, last_snoc]
    refine ⟨p, _, rfl, SqT.of upd_same, rfl, _, _, rfl, _, _, rfl, rfl, ?_⟩
    refine ⟨_, rfl, fits3 2 (by decide), fun p2 hp2 => ?_⟩
    have s3 := same_upd hp2 (.tup [.str "double", .str "again"])
    refine ⟨p2, _, rfl, .inr (SqT.of upd_same), rfl, rfl, _, rfl, ?_⟩
    refine chg (in_da c43) ?_
    have sA := s1.trans (s2.trans s3)
    by_cases e1 : c = 41 ∨ c = 42
    · rw [decide_eq_true e1]
      refine iteT ⟨_, rfl, _, _, rfl, rfl, .inl ⟨by decide, by decide⟩, sA, some (.int (i : Nat)), some (.str (cT c)), ?_⟩
      rw [ls]
      unfold lst3
      rw [if_pos e1]
      show [_, _, some (V.int ((2 : Int) * (((lastF (cs.take i)).2.2 : Nat) : Int))), _, _] = _
      rw [show (2 : Int) * (((lastF (cs.take i)).2.2 : Nat) : Int) = ((2 * (lastF (cs.take i)).2.2 : Nat) : Int) by omega]
    · rw [decide_eq_false e1]
      refine iteF ⟨_, rfl, rfl, _, rfl, ?_⟩
      refine chg (congrArg (fun b => !b) ((str_dec _ _).trans (cT_pass c c43))) ?_
      by_cases e2 : c = 40
      · rw [decide_eq_true e2]
        refine iteF ⟨sA, some (.int (i : Nat)), some (.str (cT c)), ?_⟩
        rw [ls]
        unfold lst3
        rw [if_neg e1, if_pos e2]
        rfl
      · rw [decide_eq_false e2]
        refine iteT ⟨_, rfl, sA, some (.int (i : Nat)), some (.str (cT c)), ?_⟩
        rw [ls]
        unfold lst3
        rw [if_neg e1, if_neg e2, lf]
        rfl
  · obtain ⟨s1, x3, x4, rfl⟩ := z
    rw [vC_len, List.take_length]
    refine ⟨_, rfl, _, rfl, fits3 2 (by decide), fun p hp => q p _ (s1.trans (same_upd hp _)) upd_same⟩
end
end My

set_option maxHeartbeats 1000000
namespace L2
open PySem PySem.Spec PyProof.Rows
open AutoSeq1 (wpAny_loadPart')
section
variable {prog : Program} {w : World} {A : Around} {E : Value → Shared → Prop} {s : Shared}
theorem zip_next_itemT {z TI TO i1 i2 l1 l2 : Addr} {k1 k2 : Nat} {xs ys : Array Value} {x y a b : Value} {Q : Value → Shared → Prop} (D : ZipApart z TI TO i1 i2 l1 l2) (hz : IsZip s.heap z TI TO .none) (h1 : IsPair s.heap TI (.ref i1) (.ref i2)) (h2 : IsPair s.heap TO a b)
    (h3 : s.heap.IsTupleIter i1 l1 k1) (h4 : s.heap.IsTupleIter i2 l2 k2) (t1 : s.heap.IsTuple l1 xs) (t2 : s.heap.IsTuple l2 ys) (ex : xs[k1]? = some x) (ey : ys[k2]? = some y)
    (q : ∀ h', IsZip h' z TI TO (rawInt s.heap.objs.size) → IsPair h' TO x y → h'.IsTupleIter i1 l1 (k1 + 1) → h'.IsTupleIter i2 l2 (k2 + 1) → IsPair h' s.heap.objs.size x y → h'.objs.size = s.heap.objs.size + 1 →
      (∀ c o, c ≠ z → c ≠ TO → c ≠ i1 → c ≠ i2 → s.heap.get? c = some o → h'.get? c = some o) → Q (.ref s.heap.objs.size) { s with heap := h' }) :
    wpAny (model prog w) A (Builtin.«zip.__next__» ⟨[.ref z], []⟩) (fun fin s' => ∃ v, fin = .done (.ret v) ∧ Q v s') E s := by
  unfold Builtin.«zip.__next__»
  wp_walk using wpAny_loadPart' hz
  have u0 : Heap.SameBut z s.heap (s.heap.update z (Obj.mapFields fun x => x.setIfInBounds 0 Value.ellipsis)) := Heap.SameBut.update ..
  have z0 : IsZip (s.heap.update z (Obj.mapFields fun x => x.setIfInBounds 0 Value.ellipsis)) z TI TO .ellipsis := Heap.get?_update_self _ hz rfl
  revert u0 z0
  generalize s.heap.update z (Obj.mapFields fun x => x.setIfInBounds 0 Value.ellipsis) = h0
  intro u0 z0
  show wpAny _ _ ((Builtin.SmallTypes.nextOf (.ref i1) >>= fun x => pure (some x)).onRaise fun _ => setField (.ref z) 0 .none) _ _ _
  have at0 : ∀ c o, c ≠ z → s.heap.get? c = some o → h0.get? c = some o := fun c o n e => (u0.2 c n).trans e
  refine wpAny_onRaise (wpAny_bind (nextOf_tup (it := i1) (t := l1) (i := k1) (items := xs) (h3.at fun o e => at0 _ _ D.i1z e) (let ⟨o, ho, r⟩ := t1; ⟨o, at0 _ _ D.l1z ho, r⟩) ex fun ha a1 a2 => wpAny_pure ?_))
  have at1 : ∀ c o, c ≠ z → c ≠ i1 → s.heap.get? c = some o → ha.get? c = some o := fun c o n m e => (a2.2 c m).trans (at0 c o n e)
  have p1 : IsPair ha TO a b := at1 _ _ D.TOz D.TOi1 h2
  show wpAny _ _ (seqItems? (.ref TO) >>= _) _ _ _
  refine wpAny_bind (wpAny_seqItems p1 rfl ?_)
  show wpAny _ _ (updateSeq TO (fun x_1 => x_1.setIfInBounds 0 x) >>= _) _ _ _
  refine wpAny_bind (wpAny_updateSeq_pair p1 fun hb b1 b2 => wpAny_bind (wpAny_letGo (wpAny_pure ?_)))
  have at2 : ∀ c o, c ≠ z → c ≠ i1 → c ≠ TO → s.heap.get? c = some o → hb.get? c = some o := fun c o n m k e => (b2.2 c k).trans (at1 c o n m e)
  wp_walk
  show wpAny _ _ ((Builtin.SmallTypes.nextOf (.ref i2) >>= fun x => pure (some x)).onRaise fun _ => setField (.ref z) 0 .none) _ _ _
  refine wpAny_onRaise (wpAny_bind (nextOf_tup (it := i2) (t := l2) (i := k2) (items := ys) (h4.at fun o e => at2 _ _ D.i2z (Ne.symm D.i12) (Ne.symm D.TOi2) e) (let ⟨o, ho, r⟩ := t2; ⟨o, at2 _ _ D.l2z D.l2i1 D.l2TO ho, r⟩) ey fun hc c1 c2 => wpAny_pure ?_))
  have at3 : ∀ c o, c ≠ z → c ≠ i1 → c ≠ TO → c ≠ i2 → s.heap.get? c = some o → hc.get? c = some o := fun c o n m k l e => (c2.2 c l).trans (at2 c o n m k e)
  have p2 : IsPair hc TO x b := (c2.2 _ D.TOi2).trans b1
  show wpAny _ _ (seqItems? (.ref TO) >>= _) _ _ _
  refine wpAny_bind (wpAny_seqItems p2 rfl ?_)
  show wpAny _ _ (updateSeq TO (fun x_1 => x_1.setIfInBounds 1 y) >>= _) _ _ _
  refine wpAny_bind (wpAny_updateSeq_pair p2 fun hd d1 d2 => wpAny_bind (wpAny_letGo (wpAny_pure ?_)))
  have p3 : IsPair hd TO x y := d1
  have z3 : IsZip hd z TI TO .ellipsis := (d2.2 _ (Ne.symm D.TOz)).trans ((c2.2 _ (Ne.symm D.i2z)).trans ((b2.2 _ (Ne.symm D.TOz)).trans ((a2.2 _ (Ne.symm D.i1z)).trans z0)))
  wp_walk using wpAny_loadPart' p3
  refine ⟨_, rfl, ?_⟩
  have sz : hd.objs.size = s.heap.objs.size := d2.1.trans (c2.1.trans (b2.1.trans (a2.1.trans u0.1)))
  have at4 : ∀ c o, c ≠ z → c ≠ i1 → c ≠ TO → c ≠ i2 → s.heap.get? c = some o → hd.get? c = some o := fun c o n m k l e => (d2.2 c k).trans (at3 c o n m k l e)
  have up : ∀ c o, c ≠ z → (hd.push { cls := Value.type "tuple", data := Data.seq #[x, y].toList.toArray }).get? c = some o → (((hd.push { cls := Value.type "tuple", data := Data.seq #[x, y].toList.toArray }).update z (Obj.mapFields fun x => x.setIfInBounds 0 (rawInt ↑hd.objs.size))).update z (Obj.mapFields fun x => x.setIfInBounds 1 (Value.bool false))).get? c = some o := fun c o n e => by
    rw [Heap.get?_update_other _ _ (Ne.symm n), Heap.get?_update_other _ _ (Ne.symm n)]
    exact e
  have old : ∀ c o, c ≠ z → hd.get? c = some o → (((hd.push { cls := Value.type "tuple", data := Data.seq #[x, y].toList.toArray }).update z (Obj.mapFields fun x => x.setIfInBounds 0 (rawInt ↑hd.objs.size))).update z (Obj.mapFields fun x => x.setIfInBounds 1 (Value.bool false))).get? c = some o := fun c o n e => up c o n (Heap.get?_push_of_some _ e)
  have lz : z < hd.objs.size := Heap.lt_size z3
  have key := q (((hd.push { cls := Value.type "tuple", data := Data.seq #[x, y].toList.toArray }).update z (Obj.mapFields fun x => x.setIfInBounds 0 (rawInt ↑hd.objs.size))).update z (Obj.mapFields fun x => x.setIfInBounds 1 (Value.bool false)))
    (by rw [← sz]; exact Heap.get?_update_self _ (Heap.get?_update_self _ (Heap.get?_push_of_some _ z3) rfl) rfl) (old _ _ D.TOz p3)
    (a1.at fun o e => old _ _ D.i1z ((d2.2 _ (Ne.symm D.TOi1)).trans ((c2.2 _ D.i12).trans ((b2.2 _ (Ne.symm D.TOi1)).trans e))))
    (c1.at fun o e => old _ _ D.i2z ((d2.2 _ (Ne.symm D.TOi2)).trans e))
    (by rw [← sz]; exact up _ _ (Nat.ne_of_gt lz) (Heap.get?_push_size hd rfl)) (by rw [Heap.size_update, Heap.size_update, Heap.size_push, sz]) (fun c o n1 n2 n3 n4 e => old c o n1 (at4 c o n1 n3 n2 n4 e))
  rw [← sz] at key
  exact key
theorem zip_next_endT {z TI TO i1 i2 l1 : Addr} {k1 : Nat} {xs : Array Value} {a b : Value} {Q : PySem.Fin → Shared → Prop} (hh : A.handled = none) (n1 : i1 ≠ z) (n2 : l1 ≠ z) (hz : IsZip s.heap z TI TO .none) (h1 : IsPair s.heap TI (.ref i1) (.ref i2)) (h2 : IsPair s.heap TO a b)
    (h3 : s.heap.IsTupleIter i1 l1 k1) (t1 : s.heap.IsTuple l1 xs) (ex : xs[k1]? = none)
    (q : ∀ h' e, (∀ c o, c ≠ z → c ≠ i1 → s.heap.get? c = some o → h'.get? c = some o) → (∃ o, h'.get? e = some o ∧ o.cls = .type "StopIteration") → E (.ref e) { s with heap := h' }) :
    wpAny (model prog w) A (Builtin.«zip.__next__» ⟨[.ref z], []⟩) Q E s := by
  unfold Builtin.«zip.__next__»
  wp_walk using wpAny_loadPart' hz
  have u0 : Heap.SameBut z s.heap (s.heap.update z (Obj.mapFields fun x => x.setIfInBounds 0 Value.ellipsis)) := Heap.SameBut.update ..
  have z0 : IsZip (s.heap.update z (Obj.mapFields fun x => x.setIfInBounds 0 Value.ellipsis)) z TI TO .ellipsis := Heap.get?_update_self _ hz rfl
  revert u0 z0
  generalize s.heap.update z (Obj.mapFields fun x => x.setIfInBounds 0 Value.ellipsis) = h0
  intro u0 z0
  show wpAny _ _ ((Builtin.SmallTypes.nextOf (.ref i1) >>= fun x => pure (some x)).onRaise fun _ => setField (.ref z) 0 .none) _ _ _
  have at0 : ∀ c o, c ≠ z → s.heap.get? c = some o → h0.get? c = some o := fun c o n e => (u0.2 c n).trans e
  refine wpAny_onRaise (wpAny_bind (nextOf_tupE (it := i1) (t := l1) (i := k1) (items := xs) hh (h3.at fun o e => at0 _ _ n1 e) (let ⟨o, ho, r⟩ := t1; ⟨o, at0 _ _ n2 ho, r⟩) ex fun ha e eb he => ?_))
  have zz : IsZip ha z TI TO .ellipsis := eb z _ (Ne.symm n1) z0
  obtain ⟨o, ho, hc⟩ := he
  have ne : e ≠ z := fun y => by rw [y, zz] at ho; cases ho; exact absurd (show Value.type "zip" = Value.type "StopIteration" from hc) (by decide)
  refine wpAny_setField_rec zz (Nat.succ_pos _) fun hb b1 b2 => ?_
  exact q hb e (fun c o n m y => (b2.2 c n).trans (eb c o m (at0 c o n y))) ⟨o, (b2.2 e ne).trans ho, hc⟩
theorem pyNext_zipT {z TI TO i1 i2 l1 l2 : Addr} {k1 k2 : Nat} {xs ys : Array Value} {x y a b : Value} {Q : Option Value → Shared → Prop} (D : ZipApart z TI TO i1 i2 l1 l2) (hz : IsZip s.heap z TI TO .none) (h1 : IsPair s.heap TI (.ref i1) (.ref i2)) (h2 : IsPair s.heap TO a b)
    (h3 : s.heap.IsTupleIter i1 l1 k1) (h4 : s.heap.IsTupleIter i2 l2 k2) (t1 : s.heap.IsTuple l1 xs) (t2 : s.heap.IsTuple l2 ys) (ex : xs[k1]? = some x) (ey : ys[k2]? = some y)
    (q : ∀ h', IsZip h' z TI TO (rawInt s.heap.objs.size) → IsPair h' TO x y → h'.IsTupleIter i1 l1 (k1 + 1) → h'.IsTupleIter i2 l2 (k2 + 1) → IsPair h' s.heap.objs.size x y → h'.objs.size = s.heap.objs.size + 1 →
      (∀ c o, c ≠ z → c ≠ TO → c ≠ i1 → c ≠ i2 → s.heap.get? c = some o → h'.get? c = some o) → Q (some (.ref s.heap.objs.size)) { s with heap := h' }) :
    wpAny (model prog w) A (pyNext (.ref z)) Q E s := by
  have hT : s.TypeIs (.ref z) "zip" := ⟨_, hz, rfl⟩
  unfold pyNext
  refine wpAny_bind (wpAny_attempt (wpAny_callSpecial?_slot (name := Str.ofString "__next__") hT F.slot_zip_next (wpAny_call_entry F.slot_zip_next hT F.entry_zip_next ?_ (F.args_zip_next_1 _))))
  refine wpAny_mono (zip_next_itemT (Q := fun v s' => Q (some v) s') D hz h1 h2 h3 h4 t1 t2 ex ey q) (fun fin s' hq => ?_) (fun _ _ e => e)
  obtain ⟨v, rfl, hq⟩ := hq
  exact ⟨v, rfl, wpAny_pure hq⟩
theorem pyNext_zipE {z TI TO i1 i2 l1 : Addr} {k1 : Nat} {xs : Array Value} {a b : Value} {Q : Option Value → Shared → Prop} (hh : A.handled = none) (n1 : i1 ≠ z) (n2 : l1 ≠ z) (hz : IsZip s.heap z TI TO .none) (h1 : IsPair s.heap TI (.ref i1) (.ref i2)) (h2 : IsPair s.heap TO a b)
    (h3 : s.heap.IsTupleIter i1 l1 k1) (t1 : s.heap.IsTuple l1 xs) (ex : xs[k1]? = none)
    (q : ∀ h', (∀ c o, c ≠ z → c ≠ i1 → s.heap.get? c = some o → h'.get? c = some o) → Q none { s with heap := h' }) : wpAny (model prog w) A (pyNext (.ref z)) Q E s := by
  have hT : s.TypeIs (.ref z) "zip" := ⟨_, hz, rfl⟩
  unfold pyNext
  refine wpAny_bind (wpAny_attempt (wpAny_callSpecial?_slot (name := Str.ofString "__next__") hT F.slot_zip_next (wpAny_call_entry F.slot_zip_next hT F.entry_zip_next ?_ (F.args_zip_next_1 _))))
  refine zip_next_endT hh n1 n2 hz h1 h2 h3 t1 ex fun h' e hk he => ?_
  obtain ⟨o, ho, hc⟩ := he
  exact wpAny_bind (wpAny_isInstance (T := "StopIteration") (b := true) ⟨o, ho, hc⟩ isSubtype_stop (wpAny_pure (q h' hk)))
end
end L2

namespace L2
open PySem PySem.Spec PyProof.Rows
open AutoSeq1 (wpAny_loadPart')
/-! ### for x, y in zip(s, t), s and t tuples -/
theorem zip_heap (h0 : Heap) (l1 l2 : Addr) : ∃ h', h' = ((((h0.push { cls := .type "tuple_iterator", data := .fields #[.ref l1, .int 0 0] }).push { cls := .type "tuple_iterator", data := .fields #[.ref l2, .int 0 0] }).push { cls := .type "tuple", data := .seq #[.ref h0.objs.size, .ref (h0.objs.size + 1)] }).push { cls := .type "tuple", data := .seq #[.none, .none] }).push { cls := .type "zip", data := .fields #[.none, .bool false, .bool false, .ref (h0.objs.size + 2), .ref (h0.objs.size + 3)] } ∧
    IsZip h' (h0.objs.size + 4) (h0.objs.size + 2) (h0.objs.size + 3) .none ∧ IsPair h' (h0.objs.size + 2) (.ref h0.objs.size) (.ref (h0.objs.size + 1)) ∧ IsPair h' (h0.objs.size + 3) .none .none ∧ h'.IsTupleIter h0.objs.size l1 0 ∧ h'.IsTupleIter (h0.objs.size + 1) l2 0 ∧ h'.objs.size = h0.objs.size + 5 ∧ ∀ c o, h0.get? c = some o → h'.get? c = some o := by
  refine ⟨_, rfl, ?_, ?_, ?_, ?_, ?_, ?_, fun c o e => Heap.get?_push_of_some _ (Heap.get?_push_of_some _ (Heap.get?_push_of_some _ (Heap.get?_push_of_some _ (Heap.get?_push_of_some _ e))))⟩
  · have z := Heap.get?_push_size ((((h0.push { cls := .type "tuple_iterator", data := .fields #[.ref l1, .int 0 0] }).push { cls := .type "tuple_iterator", data := .fields #[.ref l2, .int 0 0] }).push { cls := .type "tuple", data := .seq #[.ref h0.objs.size, .ref (h0.objs.size + 1)] }).push { cls := .type "tuple", data := .seq #[.none, .none] }) (o := { cls := .type "zip", data := .fields #[.none, .bool false, .bool false, .ref (h0.objs.size + 2), .ref (h0.objs.size + 3)] }) rfl
    simp only [Heap.size_push] at z
    exact z
  · have z := Heap.get?_push_size ((h0.push { cls := .type "tuple_iterator", data := .fields #[.ref l1, .int 0 0] }).push { cls := .type "tuple_iterator", data := .fields #[.ref l2, .int 0 0] }) (o := { cls := .type "tuple", data := .seq #[.ref h0.objs.size, .ref (h0.objs.size + 1)] }) rfl
    simp only [Heap.size_push] at z
    exact Heap.get?_push_of_some _ (Heap.get?_push_of_some _ z)
  · have z := Heap.get?_push_size (((h0.push { cls := .type "tuple_iterator", data := .fields #[.ref l1, .int 0 0] }).push { cls := .type "tuple_iterator", data := .fields #[.ref l2, .int 0 0] }).push { cls := .type "tuple", data := .seq #[.ref h0.objs.size, .ref (h0.objs.size + 1)] }) (o := { cls := .type "tuple", data := .seq #[.none, .none] }) rfl
    simp only [Heap.size_push] at z
    exact Heap.get?_push_of_some _ z
  · exact ⟨_, Heap.get?_push_of_some _ (Heap.get?_push_of_some _ (Heap.get?_push_of_some _ (Heap.get?_push_of_some _ (Heap.get?_push_size h0 rfl)))), rfl, rfl⟩
  · have z := Heap.get?_push_size (h0.push { cls := .type "tuple_iterator", data := .fields #[.ref l1, .int 0 0] }) (o := { cls := .type "tuple_iterator", data := .fields #[.ref l2, .int 0 0] }) rfl
    simp only [Heap.size_push] at z
    exact ⟨_, Heap.get?_push_of_some _ (Heap.get?_push_of_some _ (Heap.get?_push_of_some _ z)), rfl, rfl⟩
  · simp only [Heap.size_push]
theorem meets_zipT (l1 l2 : Addr) (items items2 : Array Value) (n n2 : Nat) (dct dct2 : Option Addr) (sl sl2 : Array (Option Value)) :
    Meets (Builtin.«zip.__new__» ⟨[.type "zip", .ref l1, .ref l2], []⟩) (fun _ R s => s.heap.get? l1 = some { cls := .type "tuple", dict := dct, data := .seq items n, slots := sl } ∧ s.heap.get? l2 = some { cls := .type "tuple", dict := dct2, data := .seq items2 n2, slots := sl2 } ∧
      ∀ h', IsZip h' (s.heap.objs.size + 4) (s.heap.objs.size + 2) (s.heap.objs.size + 3) .none → IsPair h' (s.heap.objs.size + 2) (.ref s.heap.objs.size) (.ref (s.heap.objs.size + 1)) → IsPair h' (s.heap.objs.size + 3) .none .none → h'.IsTupleIter s.heap.objs.size l1 0 → h'.IsTupleIter (s.heap.objs.size + 1) l2 0 →
        h'.objs.size = s.heap.objs.size + 5 → (∀ c o, s.heap.get? c = some o → h'.get? c = some o) → R (.ok (.ret (.ref (s.heap.objs.size + 4)))) { s with heap := h' }) :=
  .of_wp fun prog w A R s h => by
    obtain ⟨hl, hl2, h⟩ := h
    have hT : s.heap.IsTuple l1 items := ⟨_, hl, rfl, n, rfl⟩
    have hq := sub_zip
    unfold Builtin.«zip.__new__»
    have hT2 : ({ s with heap := s.heap.push { cls := Value.type "tuple_iterator", data := Data.fields #[Value.ref l1, Value.int 0 0] } } : Shared).heap.IsTuple l2 items2 := ⟨_, Heap.get?_push_of_some _ hl2, rfl, n2, rfl⟩
    wp_walk using wpAny_pyIter_tuple hT, wpAny_pyIter_tuple hT2
    refine ⟨_, rfl, ?_⟩
    obtain ⟨h', e, z1, z2, z3, z4, z5, z6, z7⟩ := zip_heap s.heap l1 l2
    have key := h h' z1 z2 z3 z4 z5 z6 z7
    rw [e] at key
    simp only [Heap.size_push]
    exact key
theorem call_zip_2T {prog : Program} {w : World} {A : Around} {E : Value → Shared → Prop} {s : Shared} {l1 l2 : Addr} {xs ys : Array Value} {Q : Value → Shared → Prop} (hT : s.heap.IsTuple l1 xs) (hT2 : s.heap.IsTuple l2 ys)
    (q : ∀ h', IsZip h' (s.heap.objs.size + 4) (s.heap.objs.size + 2) (s.heap.objs.size + 3) .none → IsPair h' (s.heap.objs.size + 2) (.ref s.heap.objs.size) (.ref (s.heap.objs.size + 1)) → IsPair h' (s.heap.objs.size + 3) .none .none → h'.IsTupleIter s.heap.objs.size l1 0 → h'.IsTupleIter (s.heap.objs.size + 1) l2 0 →
        h'.objs.size = s.heap.objs.size + 5 → (∀ c o, s.heap.get? c = some o → h'.get? c = some o) → Q (.ref (s.heap.objs.size + 4)) { s with heap := h' }) : wpAny (model prog w) A (call (.type "zip") [.ref l1, .ref l2]) Q E s := by
  obtain ⟨⟨c, dct, dt, sl⟩, hl, hc, n, hd⟩ := hT
  replace hc : c = .type "tuple" := hc
  replace hd : dt = .seq xs n := hd
  subst hc hd
  obtain ⟨⟨c2, dct2, dt2, sl2⟩, hl2, hc2, n2, hd2⟩ := hT2
  replace hc2 : c2 = .type "tuple" := hc2
  replace hd2 : dt2 = .seq ys n2 := hd2
  subst hc2 hd2
  refine callType_new F.called_zip (by decide) (F.typeCall_zip_2 _ _) (F.newCall_zip_2 _ _) (fun ob => F.args_object_init_3 ob _ _) F.entry_zip_new (meets_zipT l1 l2 xs ys n n2 dct dct2 sl sl2) ⟨hl, hl2, fun h' z1 z2 z3 z4 z5 z6 z7 => ?_⟩
  exact ⟨⟨_, z1, rfl⟩, q h' z1 z2 z3 z4 z5 z6 z7⟩
def ItzT (K : PySem.W.Frag) (a b : Addr) : It :=
  ⟨fun i H => ∃ xs ys x y, SqT K H a xs ∧ SqT K H b ys ∧ xs[i]? = some x ∧ ys[i]? = some y, fun i H v H' => ∃ p x y, v = .ref p ∧ H p = none ∧ H' = upd H p (.tup [x, y]) ∧ (∀ xs, SqT K H a xs → xs[i]? = some x) ∧ ∀ ys, SqT K H b ys → ys[i]? = some y,
    fun i H => ∃ xs ys, SqT K H a xs ∧ SqT K H b ys ∧ xs.length ≤ i⟩
theorem turn_zipT {P : Program} {w : World} {K : PySem.W.Frag} {es : List Expr} {x1} {tp : Pos} (a b z TI TO i1 i2 : Addr) (D : ZipApart z TI TO i1 i2 a b) :
    Turn P w K (.Tuple es x1 tp) (ItzT K a b) [z, TI, TO, i1, i2] z (fun i h => IsZip h z TI TO .none ∧ IsPair h TI (.ref i1) (.ref i2) ∧ (∃ u v, IsPair h TO u v) ∧ h.IsTupleIter i1 a i ∧ h.IsTupleIter i2 b i) where
  mem := by simp
  obj := fun i h st c hc => by
    obtain ⟨hz, h1, ⟨u, v, h2⟩, ⟨o3, e3, c3, d3⟩, ⟨o4, e4, c4, d4⟩⟩ := st
    simp only [List.mem_cons, List.not_mem_nil, or_false] at hc
    rcases hc with rfl | rfl | rfl | rfl | rfl
    · exact ⟨_, hz, fun v z => by cases z⟩
    · exact ⟨_, h1, fun v z => by cases z⟩
    · exact ⟨_, h2, fun v z => by cases z⟩
    · exact ⟨_, e3, fun v z => by rw [d3] at z; cases z⟩
    · exact ⟨_, e4, fun v z => by rw [d4] at z; cases z⟩
  keep := fun i h h' st k => by
    obtain ⟨hz, h1, ⟨u, v, h2⟩, h3, h4⟩ := st
    exact ⟨k z (by simp) _ hz, k TI (by simp) _ h1, ⟨u, v, k TO (by simp) _ h2⟩, h3.at fun o q => k i1 (by simp) o q, h4.at fun o q => k i2 (by simp) o q⟩
  item := by
    intro X hP hw hK hc i pins s σ H E I hf st hg
    subst hP hw hK
    obtain ⟨xs, ys, x, y, hx, hy, ex, ey⟩ := hg
    obtain ⟨hz, h1, ⟨u, v, h2⟩, h3, h4⟩ := st
    obtain ⟨its, rv, p, _⟩ := I.tuple hx
    obtain ⟨its2, rv2, p2, _⟩ := I.tuple hy
    obtain ⟨a1, ha, ra⟩ := rv.get ex
    obtain ⟨b1, hb, rb⟩ := rv2.get ey
    refine pyNext_zipT D hz h1 h2 h3 h4 (show s.heap.IsTuple a its.toArray from p) (show s.heap.IsTuple b its2.toArray from p2) (x := a1) (y := b1) (by simpa using ha) (by simpa using hb) fun h' z1 z2 z3 z4 z5 z6 hk => ⟨_, rfl, ?_⟩
    refine wpAny_letOwnedTupleGo_zip z1 fun h5 z7 sb => ?_
    have sb' : Heap.SameBut z h' h5 := sb
    have lz : z < s.heap.objs.size := Heap.lt_size hz
    have I1 : Inv X pins σ (upd H s.heap.objs.size (.tup [x, y])) { s with heap := s.heap.push { cls := .type "tuple", data := .seq #[a1, b1] }, toks := s.toks } :=
      I.laid (t' := s.toks) (fun c ob q => Heap.get?_push_of_some _ q) (Nat.le_refl _) ⟨by rw [sizeLine_eq]; show 2 ≤ _; decide, [a1, b1], .cons ra (.cons rb .nil), IsTup.new _ _⟩
    have ltf : ∀ c ∈ [z, TI, TO, i1, i2], c < s.heap.objs.size := fun c hc => by
      obtain ⟨_, _, ⟨o3, e3, _⟩, ⟨o4, e4, _⟩⟩ := And.intro h1 (And.intro h2 (And.intro h3 h4))
      simp only [List.mem_cons, List.not_mem_nil, or_false] at hc
      rcases hc with rfl | rfl | rfl | rfl | rfl
      · exact lz
      · exact Heap.lt_size h1
      · exact Heap.lt_size h2
      · exact Heap.lt_size e3
      · exact Heap.lt_size e4
    have fr : ∀ c ∈ [z, TI, TO, i1, i2], upd H s.heap.objs.size (.tup [x, y]) c = none := fun c hc => by rw [upd_ne (Nat.ne_of_lt (ltf c hc))]; exact (hf c hc).1
    have I2 := I1.turnedAll (h' := h5) (t' := s.toks) (fp := [z, TI, TO, i1, i2]) (fun c o hc q => by
      simp only [List.mem_cons, List.not_mem_nil, or_false, not_or] at hc
      obtain ⟨n1, n2, n3, n4, n5⟩ := hc
      by_cases d : c = s.heap.objs.size
      · subst d
        have q2 := (Heap.get?_push_size s.heap (o := { cls := .type "tuple", data := .seq #[a1, b1] }) rfl).symm.trans q
        cases q2
        exact (sb'.2 _ n1).trans z5
      · have q1 : s.heap.get? c = some o := by
          have q0 : (s.heap.push { cls := .type "tuple", data := .seq #[a1, b1] }).get? c = some o := q
          rwa [Heap.get?_push_ne _ _ _ d] at q0
        exact (sb'.2 c n1).trans (hk c o n1 n3 n4 n5 q1)) (fun c hc => ⟨fr c hc, (hf c hc).2⟩)
    refine ⟨.ref s.heap.objs.size, _, I2, rfl, ⟨s.heap.objs.size, x, y, rfl, I.fresh, rfl, fun xs' h' => by rw [I.tuple_inj h' hx]; exact ex, fun ys' h' => by rw [I.tuple_inj h' hy]; exact ey⟩,
      ⟨z7, (sb'.2 _ D.TIz).trans (hk TI _ D.TIz D.TITO D.TIi1 D.TIi2 h1), ⟨_, _, (sb'.2 _ D.TOz).trans z2⟩, z3.at fun o q => (sb'.2 _ D.i1z).trans q, z4.at fun o q => (sb'.2 _ D.i2z).trans q⟩, fr⟩
  done := by
    intro X hP hw hK hc i pins s σ H E I hf st hg
    subst hP hw hK
    obtain ⟨xs, ys, hx, hy, hend⟩ := hg
    obtain ⟨hz, h1, ⟨u, v, h2⟩, h3, h4⟩ := st
    obtain ⟨its, rv, p, _⟩ := I.tuple hx
    obtain ⟨its2, rv2, p2, _⟩ := I.tuple hy
    have l1 := rv.length
    have l2 := rv2.length
    refine pyNext_zipE (I.ok.hd hc) D.i1z D.l1z hz h1 h2 h3 (show s.heap.IsTuple a its.toArray from p) (by simp; omega) fun h' hk => ⟨rfl, I.turnedAll (t' := s.toks) (fun c o hc q => ?_) hf⟩
    simp only [List.mem_cons, List.not_mem_nil, or_false, not_or] at hc
    exact hk c o hc.1 hc.2.2.2.1 q
  self := fun _ _ _ _ _ st h => wpAny_pyIter_zip st.1 h
section
variable {X : Cx}
def iZipT (K : PySem.W.Frag) (ta : TA) : TI := fun σ H R => ta σ H fun vs H1 => ∃ a b xs ys, vs = [.ref a, .ref b] ∧ SqT K H1 a xs ∧ SqT K H1 b ys ∧ R (ItzT K a b) H1
theorem pi_zipT {es : List Expr} {x1} {tp p pos : Pos} {l m : Expr} {ta : TA} (hg : Gl X "zip") (hm : X.mg "zip" = none) (ha : PA X [l, m] ta) (hs : starEach [l, m] X.env = [(false, eval l X.env), (false, eval m X.env)] := by rfl) (hs2 : starEach [m] X.env = [(false, eval m X.env)] := by rfl) :
    PI X (.Tuple es x1 tp) (.Call (.Name "zip" p) [l, m] [] pos) (iZipT X.K ta) := by
  intro pins s σ H R I h
  refine Call_ (ld_blt I hg hm boot_zip (PyProof.Rows.callWith_type1 (thn (ha pos pins s σ H _ I h) fun us s1 ⟨vs, H1, I1, r1, q1⟩ => ?_) (by rw [hs, hs2]) (by rw [hs2]; rfl)))
  obtain ⟨a, b, xs, ys, rfl, hx, hy, q⟩ := q1
  obtain ⟨u, v, rfl, ru, rv⟩ := vals2 r1
  cases ru
  cases rv
  obtain ⟨its, _, p1, _⟩ := I1.tuple hx
  obtain ⟨its2, _, p2, _⟩ := I1.tuple hy
  have q1 : s1.heap.IsTuple a its.toArray := p1
  have q2 : s1.heap.IsTuple b its2.toArray := p2
  have la : a < s1.heap.objs.size := by obtain ⟨o, e, _⟩ := q1; exact Heap.lt_size e
  have lb : b < s1.heap.objs.size := by obtain ⟨o, e, _⟩ := q2; exact Heap.lt_size e
  refine call_zip_2T q1 q2 fun h' z1 z2 z3 z4 z5 sz hk => ?_
  have I2 : Inv X pins σ H1 { s1 with heap := h' } := I1.kept (t' := s1.toks) hk
  refine wpAny_pyIter_zip z1 ⟨s1.heap.objs.size + 4, _, _, ItzT X.K a b, H1, rfl, I2, turn_zipT a b _ _ _ _ _ (zipApart_new la lb), ⟨z1, z2, ⟨_, _, z3⟩, z4, z5⟩, fun c hc => ?_, q⟩
  have hc' : s1.heap.objs.size ≤ c := by
    simp only [List.mem_cons, List.not_mem_nil, or_false] at hc
    rcases hc with rfl | rfl | rfl | rfl | rfl
    · exact Nat.le_add_right _ _
    · exact Nat.le_add_right _ _
    · exact Nat.le_add_right _ _
    · exact Nat.le_refl _
    · exact Nat.le_add_right _ _
  exact I1.fpOk (H' := H1) hc' (I1.hok.fresh hc')
end
theorem for_zipT {K : PySem.W.Frag} {a b : Addr} {xs ys : List V} {g : TG} {tb : TS} {D : Ends} {σ : St} {H : Hp} (hl : xs.length = ys.length) (Pv : Nat → St → Hp → Prop) (h0 : Pv 0 σ H) (hS : ∀ i σ H, Pv i σ H → SqT K H a xs ∧ SqT K H b ys)
    (hs : ∀ i x y p σ H, xs[i]? = some x → ys[i]? = some y → Pv i σ H → H p = none → g (.ref p) σ (upd H p (.tup [x, y])) fun σ2 H2 => tb { D with nx := Pv (i + 1), ct := Pv (i + 1), bk := D.nx } σ2 H2) (hd : ∀ σ H, Pv xs.length σ H → D.nx σ H) :
    ∃ W : Nat → Nat → St → Hp → Prop, (∃ m, W 0 m σ H) ∧ ∀ i m σ H, W i m σ H →
      ((ItzT K a b).stop i H ∧ D.nx σ H) ∨ ((ItzT K a b).go i H ∧ ∃ N : St → Hp → Prop, (∀ σ' H', N σ' H' → ∃ m', m' < m ∧ W (i + 1) m' σ' H') ∧ ∀ v H', (ItzT K a b).yld i H v H' → g v σ H' fun σ2 H2 => tb { D with nx := N, ct := N, bk := D.nx } σ2 H2) := by
  refine ⟨fun i m σ H => m = xs.length - i ∧ i ≤ xs.length ∧ Pv i σ H, ⟨xs.length, by simp, Nat.zero_le _, h0⟩, ?_⟩
  rintro i m σ H ⟨rfl, hi, p⟩
  obtain ⟨sa, sb⟩ := hS i σ H p
  by_cases hlt : i < xs.length
  · refine .inr ⟨⟨xs, ys, _, _, sa, sb, List.getElem?_eq_getElem hlt, List.getElem?_eq_getElem (by omega)⟩, Pv (i + 1), fun σ' H' p' => ⟨xs.length - (i + 1), by omega, rfl, hlt, p'⟩, fun v H' y => ?_⟩
    obtain ⟨q, x, y', rfl, hq, rfl, hx, hy⟩ := y
    exact hs i x y' q σ H (hx xs sa) (hy ys sb) p hq
  · have e : i = xs.length := by omega
    subst e
    exact .inl ⟨⟨xs, ys, sa, sb, Nat.le_refl _⟩, hd σ H p⟩
end L2

namespace My
open PySem L2
/-! ### all bids, and the first of a side that names a strain -/
def bid3 (n first : Nat) (s : Nat × List (Nat × Nat)) (c : Nat) : Nat × List (Nat × Nat) := (s.1 + 1, if c < 40 then s.2 ++ [((first + s.1) % n, c)] else s.2)
def bidsF (n first : Nat) (cs : List Nat) : Nat × List (Nat × Nat) := cs.foldl (bid3 n first) (0, [])
theorem bids_snoc (n first : Nat) (cs : List Nat) (c : Nat) : bidsF n first (cs ++ [c]) = bid3 n first (bidsF n first cs) c := by unfold bidsF; rw [List.foldl_append]; rfl
theorem bids_fst (n first : Nat) (cs : List Nat) : (bidsF n first cs).1 = cs.length := by
  refine snoc_ind (P := fun cs => (bidsF n first cs).1 = cs.length) rfl (fun cs c ih => ?_) cs
  rw [bids_snoc, List.length_append]
  show (bidsF n first cs).1 + 1 = _
  rw [ih]
  rfl
structure RelB (n first : Nat) (cs : List Nat) (a : Au) : Prop where
  r : Rel n first cs a
  b : a.bids = (bidsF n first cs).2
theorem RelB.begin {n first : Nat} (h : n = 3 ∨ n = 4) (hf : first < n) : RelB n first [] ⟨first, 0, 1, []⟩ := ⟨Rel.begin h hf, rfl⟩
theorem RelB.step {n first : Nat} {cs : List Nat} {a : Au} {c : Nat} (R : RelB n first cs a) (hc : c < 43) (st : standsC n cs c = true) : RelB n first (cs ++ [c]) (stepA n a c) := by
  refine ⟨R.r.step hc st, ?_⟩
  rw [bids_snoc]
  show (if c < 40 then a.bids ++ [(a.caller, c)] else a.bids) = (if c < 40 then (bidsF n first cs).2 ++ [((first + (bidsF n first cs).1) % n, c)] else (bidsF n first cs).2)
  rw [R.b, bids_fst, R.r.ca]
/-- the first bid that the test takes: its place and its rank -/
def hit3 (T : Nat → Nat → Bool) (s : Nat × Option (Nat × Nat)) (c : Nat) : Nat × Option (Nat × Nat) := (s.1 + 1, match s.2 with | some v => some v | none => if c < 40 ∧ T s.1 c = true then some (s.1, c) else none)
def hitF (T : Nat → Nat → Bool) (cs : List Nat) : Nat × Option (Nat × Nat) := cs.foldl (hit3 T) (0, none)
theorem hit_snoc (T : Nat → Nat → Bool) (cs : List Nat) (c : Nat) : hitF T (cs ++ [c]) = hit3 T (hitF T cs) c := by unfold hitF; rw [List.foldl_append]; rfl
theorem hit_fst (T : Nat → Nat → Bool) (cs : List Nat) : (hitF T cs).1 = cs.length := by
  refine snoc_ind (P := fun cs => (hitF T cs).1 = cs.length) rfl (fun cs c ih => ?_) cs
  rw [hit_snoc, List.length_append]
  show (hitF T cs).1 + 1 = _
  rw [ih]
  rfl
theorem hit_stay (T : Nat → Nat → Bool) (cs ds : List Nat) {v : Nat × Nat} (h : (hitF T cs).2 = some v) : (hitF T (cs ++ ds)).2 = some v := by
  refine snoc_ind (P := fun ds => (hitF T (cs ++ ds)).2 = some v) (by rw [List.append_nil]; exact h) (fun ds c ih => ?_) ds
  rw [← List.append_assoc, hit_snoc]
  show (match (hitF T (cs ++ ds)).2 with | some v => some v | none => _) = some v
  rw [ih]
theorem hit_some (T : Nat → Nat → Bool) (cs : List Nat) : ∀ {j c : Nat}, cs[j]? = some c → c < 40 → T j c = true → (hitF T cs).2 ≠ none := by
  refine snoc_ind (P := fun cs => ∀ {j c : Nat}, cs[j]? = some c → c < 40 → T j c = true → (hitF T cs).2 ≠ none) (fun h => by cases h) (fun cs d ih => ?_) cs
  intro j c hj hc ht
  rw [hit_snoc]
  show (match (hitF T cs).2 with | some v => some v | none => if d < 40 ∧ T (hitF T cs).1 d = true then some ((hitF T cs).1, d) else none) ≠ none
  by_cases lt : j < cs.length
  · rw [List.getElem?_append_left lt] at hj
    have := ih hj hc ht
    cases e : (hitF T cs).2 with
    | none => exact absurd e this
    | some v => exact fun z => nomatch z
  · have jl : j < (cs ++ [d]).length := (List.getElem?_eq_some_iff.mp hj).1
    rw [List.length_append] at jl
    have jl' : j < cs.length + 1 := jl
    have e : j = cs.length := by omega
    rw [e, List.getElem?_append_right (Nat.le_refl _), Nat.sub_self] at hj
    have ed : d = c := Option.some.inj hj
    subst ed
    cases (hitF T cs).2 with
    | some v => exact fun z => nomatch z
    | none =>
      rw [hit_fst, ← e, if_pos ⟨hc, ht⟩]
      exact fun z => nomatch z
theorem find_hit (n first : Nat) (P : Nat → Nat → Bool) (cs : List Nat) : (bidsF n first cs).2.find? (fun b => P b.1 b.2) = (hitF (fun j c => P ((first + j) % n) c) cs).2.map fun v => ((first + v.1) % n, v.2) := by
  refine snoc_ind (P := fun cs => (bidsF n first cs).2.find? (fun b => P b.1 b.2) = (hitF (fun j c => P ((first + j) % n) c) cs).2.map fun v => ((first + v.1) % n, v.2)) rfl (fun cs c ih => ?_) cs
  rw [bids_snoc, hit_snoc]
  show (if c < 40 then (bidsF n first cs).2 ++ [((first + (bidsF n first cs).1) % n, c)] else (bidsF n first cs).2).find? (fun b => P b.1 b.2) = Option.map (fun v : Nat × Nat => ((first + v.1) % n, v.2)) (match (hitF (fun j c => P ((first + j) % n) c) cs).2 with | some v => some v | none => if c < 40 ∧ P ((first + (hitF (fun j c => P ((first + j) % n) c) cs).1) % n) c = true then some ((hitF (fun j c => P ((first + j) % n) c) cs).1, c) else none)
  rw [bids_fst, hit_fst]
  by_cases c40 : c < 40
  · rw [if_pos c40, List.find?_append, ih]
    cases (hitF (fun j c => P ((first + j) % n) c) cs).2 with
    | some v => rfl
    | none =>
      show (none : Option (Nat × Nat)).or ([((first + cs.length) % n, c)].find? fun b => P b.1 b.2) = _
      rw [Option.none_or, List.find?_cons]
      cases e : P ((first + cs.length) % n) c with
      | true =>
        rw [if_pos ⟨c40, rfl⟩]
        rfl
      | false =>
        rw [if_neg (fun z => by cases z.2)]
        rfl
  · rw [if_neg c40, ih]
    cases (hitF (fun j c => P ((first + j) % n) c) cs).2 with
    | some v => rfl
    | none =>
      rw [if_neg (fun z => c40 z.1)]
def own2 (n i j : Nat) : Bool := decide (i = j) || (decide (n = 4) && decide (i % 2 = j % 2))
theorem side_own {n : Nat} (h : n = 3 ∨ n = 4) (first j k : Nat) : decide (sideN n ((first + j) % n) = sideN n ((first + k) % n)) = own2 n (j % n) (k % n) := by
  unfold own2
  rcases h with rfl | rfl
  · rw [side3 _ (Nat.mod_lt _ (by decide)) _ (Nat.mod_lt _ (by decide)), show decide (3 = 4) = false from rfl, Bool.false_and, Bool.or_false]
    exact decide_eq_decide.mpr ⟨fun z => by omega, fun z => by omega⟩
  · rw [side4 _ (Nat.mod_lt _ (by decide)) _ (Nat.mod_lt _ (by decide)), show decide (4 = 4) = true from rfl, Bool.true_and, ← Bool.decide_or]
    exact decide_eq_decide.mpr ⟨fun z => by omega, fun z => by omega⟩
theorem own2_C {n : Nat} (h : n = 3 ∨ n = 4) {k l : Nat} (hk : k ≤ l) : own2 n (l % n) (k % n) = ownC n (l - k) := by
  unfold own2 ownC
  rcases h with rfl | rfl
  · rw [show decide (3 = 4) = false from rfl, Bool.false_and, Bool.or_false, Bool.false_and, Bool.or_false]
    exact decide_eq_decide.mpr ⟨fun z => by omega, fun z => by omega⟩
  · rw [show decide (4 = 4) = true from rfl, Bool.true_and, Bool.true_and, ← Bool.decide_or, ← Bool.decide_or]
    exact decide_eq_decide.mpr ⟨fun z => by omega, fun z => by omega⟩
/-- the law's search -/
def dueT (n : Nat) (cs : List Nat) (k r : Nat) : Nat → Nat → Bool := fun j c => decide (c % 5 = r % 5) && own2 n (j % n) (k % n)
/-- the contract of these calls: tricks, strain, seat, times -/
def conF (n first : Nat) (cs : List Nat) : Option (Nat × Nat × Nat) := match (lastF cs).2.1 with
  | none => none
  | some k => match (hitF (dueT n cs k (cs.getD k 0)) cs).2 with
    | none => none
    | some v => some (cs.getD k 0, (first + v.1) % n, (lastF cs).2.2)
/-- what the program finds -/
def nameA (n : Nat) (a : Au) (r s : Nat) : Option Nat := (a.bids.find? fun b => decide (b.2 % 5 = r % 5) && decide (sideN n b.1 = sideN n s)).map (·.1)
theorem RelB.name {n first : Nat} {cs : List Nat} {a : Au} (R : RelB n first cs a) {k r : Nat} : nameA n a r ((first + k) % n) = (hitF (dueT n cs k r) cs).2.map fun v => (first + v.1) % n := by
  unfold nameA
  rw [R.b, find_hit n first (fun s c => decide (c % 5 = r % 5) && decide (sideN n s = sideN n ((first + k) % n))) cs]
  have e : (fun j c => decide (c % 5 = r % 5) && decide (sideN n ((first + j) % n) = sideN n ((first + k) % n))) = dueT n cs k r := by
    funext j c
    unfold dueT
    rw [side_own R.r.n34]
  rw [e, Option.map_map]
  rfl
theorem RelB.hit {n first : Nat} {cs : List Nat} {a : Au} (R : RelB n first cs a) {k r : Nat} (hk : cs[k]? = some r) (hr : r < 40) : (hitF (dueT n cs k r) cs).2 ≠ none := by
  refine hit_some _ _ hk hr ?_
  unfold dueT own2
  rw [decide_eq_true rfl, decide_eq_true rfl]
  rfl
end My

namespace My
open PySem L2
section
variable {P : Program} {w : World} {K : PySem.W.Frag} {mg : Str → Option Value} {base : Heap} {f g : Addr} {fd gd : FuncData}
theorem nx_of {T : St → Hp → Prop} {rt : VK} {bk ct : St → Hp → Prop} {σ : St} {H : Hp} (h : T σ H) : tNext (Ends.mk T rt bk ct) σ H := h
theorem nm_of {T : St → Hp → Prop} {rt : VK} {bk ct : St → Hp → Prop} {σ : St} {H : Hp} {i : Nat} {v : V} (h : T (σ.set i (some v)) H) : gName i v σ H (Ends.mk T rt bk ct).nx := h
theorem int_dec {a b : Int} : decide (V.int a = V.int b) = decide (a = b) := decide_eq_decide.mpr ⟨fun h => by injection h, fun h => by rw [h]⟩
theorem nat_dec {a b : Nat} : decide (V.int (a : Nat) = V.int (b : Nat)) = decide (a = b) := int_dec.trans (decide_eq_decide.mpr ⟨fun h => by omega, fun h => by omega⟩)
theorem atV_non (o : Option Nat) : decide (atV o = .non) = o.isNone := by cases o <;> rfl
theorem find_at {α : Type} {p : α → Bool} : ∀ {l : List α} {i : Nat} {b : α}, (l.take i).find? p = none → l[i]? = some b → p b = true → l.find? p = some b
  | [], _, _, _, h, _ => by cases h
  | x :: l, 0, b, _, h, hp => by
    have e : x = b := Option.some.inj h
    subst e
    rw [List.find?_cons, hp]
  | x :: l, i + 1, b, h0, h, hp => by
    rw [List.take_succ_cons, List.find?_cons] at h0
    rw [List.find?_cons]
    cases e : p x with
    | true => rw [e] at h0; cases h0
    | false =>
      rw [e] at h0
      exact find_at h0 h hp
theorem find_next {α : Type} {p : α → Bool} {l : List α} {i : Nat} {b : α} (h0 : (l.take i).find? p = none) (h : l[i]? = some b) (hp : p b = false) : (l.take (i + 1)).find? p = none := by
  rw [List.take_add_one, h, List.find?_append, h0]
  show (none : Option α).or ([b].find? p) = none
  rw [Option.none_or, List.find?_cons, hp]
  rfl
theorem st_scal (r q : Nat) : scal (stV r) (stV q) = true := by unfold stV; split <;> split <;> rfl
theorem st_dec : ∀ r < 5, ∀ q < 5, decide (stV r = stV q) = decide (r = q) := by decide +kernel
/-! ### the first to name a strain, the contract -/
def spFirst (CA : Addr) : Sp := fun vs H Q _ => ∃ (x lb : Addr) (n : Nat) (a : Au) (r s : Nat), vs = [.ref x, stV (r % 5), .int (sideN n s : Nat)] ∧ IsAu CA n a H x lb ∧ WfA n a ∧ ∀ H', Same H H' → Q (atV (nameA n a r s)) H'
abbrev nFirst : List Str := ["self", "strain", "side", "seat", "bid"]
theorem scFirst : FnScope nFirst ["self", "strain", "side"] (defScope sFirst) := ⟨rfl, rfl, rfl, by decide +kernel, rfl, by decide +kernel, by decide +kernel⟩
theorem ok_first {k : Nat} {CA f1 : Addr} {d1 : FuncData} (F : Fun K "first_to_name" "Auction.first_to_name" sFirst f fd) (C : AuC K mg CA) (LS : Lib P w K mg base k "side_of" ["seats", "seat"] spSide f1 d1) : FnOk P w K mg base CX0 (k + 1) f fd ["self", "strain", "side"] (spFirst CA) := by
  refine F.ok scFirst (fun vs H Q E h => ?_) (fun cdv A outer s H vs Q E hr h => ?_)
  · obtain ⟨x, lb, n, a, r, s, rfl, _⟩ := h
    rfl
  obtain ⟨x, lb, n, a, r, s, rfl, ⟨dx, fs, hx, A1, vs, hL, hl, B⟩, W, q⟩ := h
  refine ⟨_, pss_cons (ps_for PassesOwn.never rfl (pi_list (pe_fld (pv 0) rfl)) (pg_tup rfl (pgs_cons (pg_name (i := 3) scFirst.nd rfl (Or.inl rfl)) (pgs_cons (pg_name (i := 4) scFirst.nd rfl (Or.inl rfl)) pgs_nil)))
      (pss_one (ps_if (PW.pt (pw_and (pt_cmpR op_eq (pe_ix ix_tup (pv 4) pe_int (fun _ _ => rfl)) (pv 1) (nomark _)) (pw_and1 (pt_cmpR op_eq (pe_call LS.ok hr rfl LS.mg LS.kp LS.bd .nil pass0 (pa_cons (pe_fld (pv 0) rfl) (pa_cons (pv 3) pa_nil))) (pv 2) (nomark _))))) (pss_one (ps_ret (pv 3))) pss_nil)))
    (pss_one (ps_ret pe_non)), ?_⟩
  unfold nameA at q
  have n4 : n ≤ 4 := by rcases W.n34 with z | z <;> omega
  refine ⟨_, rfl, x, CA, dx, _, _, rfl, hx, C.cl, C.n4, A1.l4, lb, rfl, ⟨_, SqL.of hL⟩, for_list (K := K) (xs := vs) (fun i σ H' => H = H' ∧ (a.bids.take i).find? (fun b => decide (b.2 % 5 = r % 5) && decide (sideN n b.1 = sideN n s)) = none ∧ ∃ x3 x4, σ = [some (.ref x), some (stV (r % 5)), some (.int (sideN n s : Nat)), x3, x4]) ⟨rfl, by rw [List.take_zero]; rfl, _, _, rfl⟩ (fun i σ H' _ z => z.1 ▸ SqL.of hL) (fun i v σ H' hv z => ?_) (fun σ H' z => ?_)⟩
  · obtain ⟨rfl, h0, x3, x4, rfl⟩ := z
    have il : i < a.bids.length := by rw [← hl]; exact (List.getElem?_eq_some_iff.mp hv).1
    obtain ⟨⟨s1, r1⟩, hb⟩ : ∃ b, a.bids[i]? = some b := ⟨_, List.getElem?_eq_getElem il⟩
    obtain ⟨p, b, rfl, hp, hbb⟩ := B i v s1 r1 hv hb
    have w1 := W.bd (s1, r1) (List.mem_of_getElem? hb)
    have e1 : decide (stV (r1 % 5) = stV (r % 5)) = decide (r1 % 5 = r % 5) := st_dec _ (Nat.mod_lt _ (by decide)) _ (Nat.mod_lt _ (by decide))
    refine ⟨p, _, rfl, SqT.of hp, rfl, _, _, rfl, _, _, rfl, rfl, ?_⟩
    refine ⟨_, rfl, b, _, _, stV (r1 % 5), rfl, rfl, SqT.of hbb, rfl, _, rfl, st_scal _ _, _, rfl, chg e1 ?_⟩
    by_cases c1 : r1 % 5 = r % 5
    · rw [decide_eq_true c1]
      refine iteT ⟨_, rfl, x, CA, dx, _, _, rfl, hx, C.cl, C.n1, A1.l1, _, rfl, n, s1, rfl, W.n34, by have : s1 < n := w1.1; omega, _, rfl, rfl, _, rfl, chg nat_dec ?_⟩
      by_cases c2 : sideN n s1 = sideN n s
      · rw [decide_eq_true c2]
        have z := find_at h0 hb (show (decide (r1 % 5 = r % 5) && decide (sideN n s1 = sideN n s)) = true by rw [decide_eq_true c1, decide_eq_true c2]; rfl)
        rw [z] at q
        exact iteT ⟨_, rfl, q H (Same.refl H)⟩
      · rw [decide_eq_false c2]
        exact iteF ⟨rfl, find_next h0 hb (show (decide (r1 % 5 = r % 5) && decide (sideN n s1 = sideN n s)) = false by rw [decide_eq_false c2, Bool.and_false]), _, _, rfl⟩
    · rw [decide_eq_false c1]
      exact iteF (iteF ⟨rfl, find_next h0 hb (show (decide (r1 % 5 = r % 5) && decide (sideN n s1 = sideN n s)) = false by rw [decide_eq_false c1, Bool.false_and]), _, _, rfl⟩)
  · obtain ⟨rfl, h0, x3, x4, rfl⟩ := z
    rw [hl, List.take_length] at h0
    rw [h0] at q
    exact q H (Same.refl H)
def conL (r : Nat) (o : Option Nat) (m : Nat) : List V := [.int ((r / 5 : Nat) + 1), stV (r % 5), atV o, .int (m : Nat)]
def spCon (CA : Addr) : Sp := fun vs H Q _ => ∃ (x lb : Addr) (n : Nat) (a : Au), vs = [.ref x] ∧ IsAu CA n a H x lb ∧ WfA n a ∧ (a.bids = [] → Q .non H) ∧ ∀ bs s r, a.bids = bs ++ [(s, r)] → ∀ p H', Same H H' → H' p = some (.tup (conL r (nameA n a r s) a.times)) → Q (.ref p) H'
abbrev nCon : List Str := ["self", "last", "tricks", "strain"]
theorem scCon : FnScope nCon ["self"] (defScope sContract) := ⟨rfl, rfl, rfl, by decide +kernel, rfl, by decide +kernel, by decide +kernel⟩
theorem ok_con {k : Nat} {CA f1 m2 : Addr} {d1 e2 : FuncData} (F : Fun K "contract" "Auction.contract" sContract f fd) (C : AuC K mg CA) (LS : Lib P w K mg base k "side_of" ["seats", "seat"] spSide f1 d1) (MF : Meth K CA "first_to_name" m2) (FF : FnOk P w K mg base CX0 k m2 e2 ["self", "strain", "side"] (spFirst CA)) (BF : Binds K e2 ["self", "strain", "side"] []) (ml : mg "len" = none) :
    FnOk P w K mg base CX0 (k + 1) f fd ["self"] (spCon CA) := by
  refine F.ok scCon (fun vs H Q E h => ?_) (fun cdv A outer s H vs Q E hr h => ?_)
  · obtain ⟨x, lb, n, a, rfl, _⟩ := h
    rfl
  obtain ⟨x, lb, n, a, rfl, I, W, q1, q2⟩ := h
  refine ⟨_, pss_cons (ps_if (pt_cmpR op_eq (pe_callB call_len_seq rfl ml PySem.boot_len (pa_cons (pe_fld (pv 0) rfl) pa_nil)) pe_int (nomark _)) (pss_one (ps_ret pe_non)) pss_nil)
    (pss_cons (ps_set (i := 1) scCon.nd rfl (Or.inl rfl) (pe_ix ix_list (pe_fld (pv 0) rfl) (pe_un un_neg pe_int) (fun _ _ => rfl)))
    (pss_cons (ps_set (i := 2) scCon.nd rfl (Or.inl rfl) (pe_ix ix_tup (pe_ix ix_tup (pv 1) pe_int (fun _ _ => rfl)) pe_int (fun _ _ => rfl)))
    (pss_cons (ps_set (i := 3) scCon.nd rfl (Or.inl rfl) (pe_ix ix_tup (pe_ix ix_tup (pv 1) pe_int (fun _ _ => rfl)) pe_int (fun _ _ => rfl)))
    (pss_one (ps_ret (pe_tup (pa_cons (pv 2) (pa_cons (pv 3) (pa_cons (pe_meth (pv 0) C.cl MF FF hr BF .nil pass0 (pa_cons (pv 3) (pa_cons (pe_call LS.ok hr rfl LS.mg LS.kp LS.bd .nil pass0 (pa_cons (pe_fld (pv 0) rfl) (pa_cons (pe_ix ix_tup (pv 1) pe_int (fun _ _ => rfl)) pa_nil))) pa_nil))) (pa_cons (pe_fld (pv 0) rfl) pa_nil)))))))))), ?_⟩
  obtain ⟨dx, fs, hx, A1, B⟩ := id I
  obtain ⟨vs, hL, hl⟩ := B.len
  have n4 : n ≤ 4 := by rcases W.n34 with z | z <;> omega
  refine ⟨_, rfl, x, CA, dx, _, _, rfl, hx, C.cl, C.n4, A1.l4, lb, _, rfl, .inl (SqL.of hL), rfl, _, rfl, ?_⟩
  have e0 : decide (V.int ((vs.length : Nat) : Int) = V.int 0) = decide (a.bids = []) := (decide_eq_decide.mpr ⟨fun h => by injection h with h; omega, fun h => by rw [hl, h]; rfl⟩ : decide (V.int ((vs.length : Nat) : Int) = V.int 0) = decide (a.bids.length = 0)).trans (len_nil a.bids)
  refine chg e0 ?_
  by_cases cb : a.bids = []
  · rw [decide_eq_true cb]
    exact iteT (q1 cb)
  rw [decide_eq_false cb]
  obtain ⟨bs, ⟨s0, r0⟩, eb⟩ := snoc_of cb
  have B' := B
  rw [eb] at B'
  obtain ⟨vs', p', b', hL', hl', hat, hp', hb'⟩ := B'.last
  have w0 := (W.bd (s0, r0) (by rw [eb]; exact List.mem_append_right _ (List.mem_singleton.mpr rfl))).1
  refine iteF ⟨_, rfl, x, CA, dx, _, _, rfl, hx, C.cl, C.n4, A1.l4, _, rfl, lb, _, _, _, rfl, rfl, SqL.of hL', hat, ?_⟩
  refine ⟨_, rfl, p', _, _, _, rfl, rfl, SqT.of hp', rfl, b', _, _, _, rfl, rfl, SqT.of hb', rfl, ?_⟩
  refine ⟨_, rfl, p', _, _, _, rfl, rfl, SqT.of hp', rfl, b', _, _, stV (r0 % 5), rfl, rfl, SqT.of hb', rfl, ?_⟩
  refine ⟨_, rfl, _, rfl, _, rfl, x, dx, _, rfl, hx, A1.nm _ (by decide +kernel), _, rfl, _, rfl, x, CA, dx, _, _, rfl, hx, C.cl, C.n1, A1.l1, _, rfl, p', _, _, _, rfl, rfl, SqT.of hp', rfl, n, s0, rfl, W.n34, by have : s0 < n := w0; omega, x, lb, n, a, r0, s0, rfl, I, W, fun H1 s1 => ?_⟩
  refine ⟨_, rfl, x, CA, dx, _, _, rfl, s1 _ _ hx, C.cl, C.n5, A1.l5, fits3 4 (by decide), fun p hp => ?_⟩
  exact q2 bs s0 r0 eb p _ (s1.trans (same_upd hp _)) upd_same
end
end My

namespace My
open PySem L2
abbrev sOwn2 : Stmt := top 22
abbrev sStands : Stmt := top 23
section
variable {P : Program} {w : World} {K : PySem.W.Frag} {mg : Str → Option Value} {base : Heap} {f g : Addr} {fd gd : FuncData}
def spOwn2 : Sp := fun vs H Q _ => ∃ n i j : Nat, vs = [.int (n : Nat), .int (i : Nat), .int (j : Nat)] ∧ Q (.bl (own2 n i j)) H
abbrev pOwn2 : List Str := ["_law_seats", "_law_one", "_law_other"]
theorem scOwn2 : FnScope pOwn2 pOwn2 (defScope sOwn2) := ⟨rfl, rfl, rfl, by decide +kernel, rfl, by decide +kernel, by decide +kernel⟩
theorem ok_own2 {k : Nat} (F : Fun K "_law_own" "_law_own" sOwn2 f fd) : FnOk P w K mg base CX0 (k + 1) f fd pOwn2 spOwn2 := by
  refine F.ok scOwn2 (fun vs H Q E h => ?_) (fun cdv A outer s H vs Q E hr h => ?_)
  · obtain ⟨n, i, j, rfl, _⟩ := h
    rfl
  obtain ⟨n, i, j, rfl, q⟩ := h
  refine ⟨_, pss_one (ps_ret (pe_or (pe_cmpR op_eq (pv 1) (pv 2) (nomark _)) (pe_one (pe_and (pe_cmpR op_eq (pv 0) pe_int (nomark _)) (pe_one (pe_cmpR op_eq (pe_op op_mod (pv 1) pe_int) (pe_op op_mod (pv 2) pe_int) (nomark _))))))), ?_⟩
  unfold own2 at q
  refine ⟨_, rfl, _, rfl, rfl, _, rfl, chg nat_dec ?_⟩
  by_cases c1 : i = j
  · rw [decide_eq_true c1] at q ⊢
    exact iteT q
  rw [decide_eq_false c1] at q ⊢
  have e4 : decide (V.int ((n : Nat) : Int) = V.int 4) = decide (n = 4) := int_dec.trans (decide_eq_decide.mpr ⟨fun h => by omega, fun h => by omega⟩)
  refine iteF ⟨_, rfl, rfl, _, rfl, chg e4 ?_⟩
  by_cases c2 : n = 4
  · rw [decide_eq_true c2] at q ⊢
    refine iteT ⟨_, rfl, _, _, rfl, rfl, (show (0 : Int) < 2 by decide), _, rfl, _, _, rfl, rfl, (show (0 : Int) < 2 by decide), rfl, ?_⟩
    show Q (.bl (decide (V.int (((i : Nat) : Int) % 2) = V.int (((j : Nat) : Int) % 2)))) H
    rw [int_dec, show decide (((i : Nat) : Int) % 2 = ((j : Nat) : Int) % 2) = decide (i % 2 = j % 2) from decide_eq_decide.mpr ⟨fun h => by omega, fun h => by omega⟩]
    exact q
  · rw [decide_eq_false c2] at q ⊢
    exact iteF q
/-! ### stands -/
def spStands (K : PySem.W.Frag) : Sp := fun vs H Q _ => ∃ (a : Addr) (n c : Nat) (cs : List Nat), vs = [.ref a, .int (n : Nat), .str (cT c)] ∧ H a = some (.lst (vC cs)) ∧ (∀ c ∈ cs, c < 43) ∧ (n = 3 ∨ n = 4) ∧ c < 43 ∧ ∀ H', Same H H' → Q (.bl (standsC n cs c)) H'
abbrev nStands : List Str := ["_law_calls", "_law_seats", "_law_call", "_law_at", "_law_times", "_law_own_here"]
theorem scStands : FnScope nStands ["_law_calls", "_law_seats", "_law_call"] (defScope sStands) := ⟨rfl, rfl, rfl, by decide +kernel, rfl, by decide +kernel, by decide +kernel⟩
theorem ok_stands {k : Nat} {f1 f2 f3 f4 : Addr} {d1 d2 d3 d4 : FuncData} (F : Fun K "_law_stands" "_law_stands" sStands f fd) (LL : Lib P w K mg base k "_law_last" ["_law_calls"] (spLast K) f1 d1) (LO : Lib P w K mg base k "_law_over" ["_law_calls", "_law_seats"] (spLOver K) f2 d2) (LK : Lib P w K mg base k "_law_rank" ["_law_text_here"] spLRank f3 d3) (LW : Lib P w K mg base k "_law_own" pOwn2 spOwn2 f4 d4) (ml : mg "len" = none) :
    FnOk P w K mg base CX0 (k + 1) f fd ["_law_calls", "_law_seats", "_law_call"] (spStands K) := by
  refine F.ok scStands (fun vs H Q E h => ?_) (fun cdv A outer s H vs Q E hr h => ?_)
  · obtain ⟨a, n, c, cs, rfl, _⟩ := h
    rfl
  obtain ⟨a, n, c, cs, rfl, hL, co, n34, hc, q⟩ := h
  refine ⟨_, pss_cons (ps_asg (pe_call LL.ok hr rfl LL.mg LL.kp LL.bd .nil pass0 (pa_cons (pv 0) pa_nil)) (pg_tup rfl (pgs_cons (pg_name (i := 3) scStands.nd rfl (Or.inl rfl)) (pgs_cons (pg_name (i := 4) scStands.nd rfl (Or.inl rfl)) pgs_nil))))
    (pss_cons (ps_if (pt_truth (pe_call LO.ok hr rfl LO.mg LO.kp LO.bd .nil pass0 (pa_cons (pv 0) (pa_cons (pv 1) pa_nil))) (fun _ => rfl)) (pss_one (ps_ret pe_bl)) pss_nil)
    (pss_cons (ps_if (pt_cmpR op_eq (pv 2) pe_str (nomark _)) (pss_one (ps_ret pe_bl)) pss_nil)
    (pss_cons (ps_if (pt_cmpR op_notIn_seq (pv 2) (pe_tup (pa_cons pe_str (pa_cons pe_str pa_nil))) rfl) (pss_one (ps_ret (pe_or (pe_cmpR op_isN (pv 3) pe_non (nomark _)) (pe_one (pe_cmpR op_gt (pe_call LK.ok hr rfl LK.mg LK.kp LK.bd .nil pass0 (pa_cons (pv 2) pa_nil)) (pe_call LK.ok hr rfl LK.mg LK.kp LK.bd .nil pass0 (pa_cons (pe_ix ix_list (pv 0) (pv 3) (fun _ _ => rfl)) pa_nil)) (nomark _)))))) pss_nil)
    (pss_cons (ps_if (pt_cmpR op_isN (pv 3) pe_non (nomark _)) (pss_one (ps_ret pe_bl)) pss_nil)
    (pss_cons (ps_set (i := 5) scStands.nd rfl (Or.inl rfl) (pe_call LW.ok hr rfl LW.mg LW.kp LW.bd .nil pass0 (pa_cons (pv 1) (pa_cons (pe_op op_mod (pe_callB call_len_seq rfl ml PySem.boot_len (pa_cons (pv 0) pa_nil)) (pv 1)) (pa_cons (pe_op op_mod (pv 3) (pv 1)) pa_nil)))))
    (pss_cons (ps_if (pt_cmpR op_eq (pv 2) pe_str (nomark _)) (pss_one (ps_ret (pe_and (pe_not (pv 5)) (pe_one (pe_cmpR op_eq (pv 4) pe_int (nomark _)))))) pss_nil)
    (pss_one (ps_ret (pe_and (pv 5) (pe_one (pe_cmpR op_eq (pv 4) pe_int (nomark _)))))))))))), ?_⟩
  have n1 : 1 ≤ n := by rcases n34 with z | z <;> omega
  have n0 : (0 : Int) < ((n : Nat) : Int) := by omega
  refine ⟨_, rfl, a, cs, rfl, hL, co, fun p H1 s1 hp => ?_⟩
  refine ⟨p, _, rfl, SqT.of hp, rfl, _, _, rfl, _, _, rfl, rfl, ?_⟩
  refine ⟨_, rfl, _, rfl, a, n, cs, rfl, SqL.of (s1 _ _ hL), co, n1, _, rfl, ?_⟩
  unfold standsC at q
  have lok := last_ok cs co
  by_cases ov : overC n cs = true
  · rw [if_pos ov] at q
    exact chg ov (iteT (q H1 s1))
  rw [if_neg ov] at q
  refine chg (Bool.eq_false_iff.mpr ov) (iteF ⟨_, rfl, rfl, _, rfl, chg ((str_dec _ _).trans (cT_pass c hc)) ?_⟩)
  by_cases e40 : c = 40
  · rw [if_pos e40] at q
    rw [decide_eq_true e40]
    exact iteT (q H1 s1)
  rw [if_neg e40] at q
  rw [decide_eq_false e40]
  refine iteF ⟨_, rfl, fits3 2 (by decide), fun p2 hp2 => ?_⟩
  have s2 := same_upd hp2 (.tup [.str "double", .str "again"])
  refine ⟨p2, _, rfl, .inr (SqT.of upd_same), rfl, rfl, _, rfl, ?_⟩
  refine chg (congrArg (fun b => !b) (in_da hc)) ?_
  have s12 := s1.trans s2
  have hL2 := s12 _ _ hL
  revert s12 hL2
  generalize upd H1 p2 (.tup [.str "double", .str "again"]) = H2
  intro s12 hL2
  generalize (lastF cs).2.2 = tm at *
  generalize (lastF cs).2.1 = at' at *
  by_cases c40 : c < 40
  · rw [if_pos c40] at q
    rw [decide_eq_false (show ¬ (c = 41 ∨ c = 42) by omega)]
    refine iteT ⟨_, rfl, rfl, _, rfl, chg (atV_non at') ?_⟩
    cases at' with
    | none => exact iteT (q H2 s12)
    | some k0 =>
      obtain ⟨r, h1, h2⟩ := lok k0 rfl
      have g : cs.getD k0 0 = r := by rw [List.getD_eq_getElem?_getD, h1]; rfl
      refine iteF ⟨_, rfl, c, rfl, c40, _, rfl, _, rfl, a, _, _, _, rfl, rfl, SqL.of hL2, vC_at h1, r, rfl, h2, _, _, rfl, rfl, ?_⟩
      have z := q H2 s12
      dsimp only at z
      rw [g] at z
      have e : decide (((r : Nat) : Int) < ((c : Nat) : Int)) = decide (r < c) := decide_eq_decide.mpr ⟨fun h => by omega, fun h => by omega⟩
      show Q (.bl (decide (((r : Nat) : Int) < ((c : Nat) : Int)))) H2
      rw [e]
      exact z
  rw [if_neg c40] at q
  rw [decide_eq_true (show c = 41 ∨ c = 42 by omega)]
  refine iteF ⟨_, rfl, rfl, _, rfl, chg (atV_non at') ?_⟩
  cases at' with
  | none => exact iteT (q H2 s12)
  | some k0 =>
    obtain ⟨r, h1, h2⟩ := lok k0 rfl
    have kl : k0 < cs.length := (List.getElem?_eq_some_iff.mp h1).1
    have hl := vC_len cs
    have m1 : ((cs.length : Nat) : Int) % ((n : Nat) : Int) = ((cs.length % n : Nat) : Int) := (Int.natCast_emod _ _).symm
    have m2 : ((k0 : Nat) : Int) % ((n : Nat) : Int) = ((k0 % n : Nat) : Int) := (Int.natCast_emod _ _).symm
    refine iteF (nx_of ?_)
    refine set_nm (fun v H' => H2 = H' ∧ v = .bl (ownC n (cs.length - k0))) (fun R hR => ?_) (fun v H3 z => ?_)
    · refine ⟨_, rfl, _, rfl, a, _, rfl, .inl (SqL.of hL2), _, rfl, _, _, rfl, rfl, n0, _, rfl, _, rfl, _, _, rfl, rfl, n0, n, cs.length % n, k0 % n, ?_, ?_⟩
      · rw [hl]
        show [V.int ((n : Nat) : Int), V.int (((cs.length : Nat) : Int) % ((n : Nat) : Int)), V.int (((k0 : Nat) : Int) % ((n : Nat) : Int))] = _
        rw [m1, m2]
      · exact hR _ _ ⟨rfl, by rw [own2_C n34 (Nat.le_of_lt kl)]⟩
    obtain ⟨rfl, rfl⟩ := z
    refine ⟨_, rfl, rfl, _, rfl, chg ((str_dec _ _).trans (cT_dbl c hc)) ?_⟩
    have z := q H2 s12
    dsimp only at z
    generalize ownC n (cs.length - k0) = ow at *
    by_cases e41 : c = 41
    · rw [if_pos e41] at z
      rw [decide_eq_true e41]
      refine iteT ⟨_, rfl, _, rfl, _, rfl, ?_⟩
      cases ow with
      | true => exact iteF z
      | false =>
        refine iteT ⟨_, rfl, rfl, ?_⟩
        show Q (.bl (decide (V.int ((tm : Nat) : Int) = V.int 1))) H2
        rw [int_dec, show decide (((tm : Nat) : Int) = 1) = decide (tm = 1) from decide_eq_decide.mpr ⟨fun h => by omega, fun h => by omega⟩]
        exact z
    · rw [if_neg e41] at z
      rw [decide_eq_false e41]
      refine iteF ⟨_, rfl, _, rfl, ?_⟩
      cases ow with
      | false => exact iteF z
      | true =>
        refine iteT ⟨_, rfl, rfl, ?_⟩
        show Q (.bl (decide (V.int ((tm : Nat) : Int) = V.int 2))) H2
        rw [int_dec, show decide (((tm : Nat) : Int) = 2) = decide (tm = 2) from decide_eq_decide.mpr ⟨fun h => by omega, fun h => by omega⟩]
        exact z
end
end My

namespace My
open PySem L2
abbrev sDrawn : Stmt := top 24
abbrev sDue : Stmt := top 25
section
variable {P : Program} {w : World} {K : PySem.W.Frag} {mg : Str → Option Value} {base : Heap} {f g : Addr} {fd gd : FuncData}
/-! ### a call drawn -/
def spDrawn (K : PySem.W.Frag) : Sp := fun vs H Q _ => ∃ (a lc ls : Addr) (ns : List Int) (k : Int) (cs : List Nat) (u v : Int), vs = [.ref a, .int k, .ref lc, .ref ls] ∧ SqL K H a (ns.map V.int) ∧ ns.length ≤ 63 ∧ 0 ≤ k ∧ k ≤ 10000 ∧ H lc = some (.lst (vC cs)) ∧ (∀ c ∈ cs, c < 43) ∧ H ls = some (.lst [.int u, .int v]) ∧ ∀ c H', c < 43 → Same H H' → Q (.str (cT c)) H'
abbrev pDrawn : List Str := ["_law_script", "_law_k", "_law_calls", "_law_strains"]
abbrev nDrawn : List Str := ["_law_script", "_law_k", "_law_calls", "_law_strains", "_law_cell_here", "_law_at", "_law_times", "_law_low", "_law_way", "_law_rank_here"]
theorem scDrawn : FnScope nDrawn pDrawn (defScope sDrawn) := ⟨rfl, rfl, rfl, by decide +kernel, rfl, by decide +kernel, by decide +kernel⟩
def way6 : List V := [.str "pass", .str "pass", .str "double", .str "double", .str "again", .str "again"]
theorem way6_at : ∀ i < 6, ∃ c, c < 43 ∧ atI way6 ((i : Nat) : Int) = some (.str (cT c))
  | 0, _ => ⟨40, by decide, rfl⟩
  | 1, _ => ⟨40, by decide, rfl⟩
  | 2, _ => ⟨41, by decide, rfl⟩
  | 3, _ => ⟨41, by decide, rfl⟩
  | 4, _ => ⟨42, by decide, rfl⟩
  | 5, _ => ⟨42, by decide, rfl⟩
theorem ok_drawn {k : Nat} {f1 f2 f3 f4 : Addr} {d1 d2 d3 d4 : FuncData} (F : Fun K "_law_drawn" "_law_drawn" sDrawn f fd) (LC : Lib P w K mg base k "_law_cell" pCell (spCell K) f1 d1) (LL : Lib P w K mg base k "_law_last" ["_law_calls"] (spLast K) f2 d2) (LK : Lib P w K mg base k "_law_rank" ["_law_text_here"] spLRank f3 d3) (LT : Lib P w K mg base k "_law_text" ["_law_rank_here"] spLText f4 d4) (mN : mg "min" = none) :
    FnOk P w K mg base CX0 (k + 1) f fd pDrawn (spDrawn K) := by
  refine F.ok scDrawn (fun vs H Q E h => ?_) (fun cdv A outer s H vs Q E hr h => ?_)
  · obtain ⟨a, lc, ls, ns, j, cs, u, v, rfl, _⟩ := h
    rfl
  obtain ⟨a, lc, ls, ns, j, cs, u, v, rfl, hS, h63, j0, j1, hL, co, hU, q⟩ := h
  refine ⟨_, pss_cons (ps_set (i := 4) scDrawn.nd rfl (Or.inl rfl) (pe_call LC.ok hr rfl LC.mg LC.kp LC.bd .nil pass0 (pa_cons (pv 0) (pa_cons (pv 1) pa_nil))))
    (pss_cons (ps_asg (pe_call LL.ok hr rfl LL.mg LL.kp LL.bd .nil pass0 (pa_cons (pv 2) pa_nil)) (pg_tup rfl (pgs_cons (pg_name (i := 5) scDrawn.nd rfl (Or.inl rfl)) (pgs_cons (pg_name (i := 6) scDrawn.nd rfl (Or.inl rfl)) pgs_nil))))
    (pss_cons (ps_set (i := 7) scDrawn.nd rfl (Or.inl rfl) (pe_un un_neg pe_int))
    (pss_cons (ps_if (pt_cmpR op_notN (pv 5) pe_non (nomark _)) (pss_one (ps_set (i := 7) scDrawn.nd rfl (Or.inl rfl) (pe_call LK.ok hr rfl LK.mg LK.kp LK.bd .nil pass0 (pa_cons (pe_ix ix_list (pv 2) (pv 5) (fun _ _ => rfl)) pa_nil)))) pss_nil)
    (pss_cons (ps_set (i := 8) scDrawn.nd rfl (Or.inl rfl) (pe_op op_mod (pv 4) pe_int))
    (pss_cons (ps_if (pt_cmpR op_lt (pv 8) pe_int (nomark _)) (pss_one (ps_ret (pe_ix ix_list (pe_lst (pa_cons pe_str (pa_cons pe_str (pa_cons pe_str (pa_cons pe_str (pa_cons pe_str (pa_cons pe_str pa_nil))))))) (pv 8) (fun _ _ => rfl)))) pss_nil)
    (pss_cons (ps_set (i := 9) scDrawn.nd rfl (Or.inl rfl) (pe_op op_add (pv 7) pe_int))
    (pss_cons (ps_while PassesOwn.never (PW.pt (pw_and (pt_cmpR op_lt (pv 9) pe_int (nomark _)) (pw_and (pt_cmpR op_lt (pv 8) pe_int (nomark _)) (pw_and1 (pt_cmpR op_notIn_seq (pe_op op_mod (pv 9) pe_int) (pv 3) rfl))))) (pss_one (ps_set (i := 9) scDrawn.nd rfl (Or.inl rfl) (pe_op op_add (pv 9) pe_int))))
    (pss_one (ps_ret (pe_call LT.ok hr rfl LT.mg LT.kp LT.bd .nil pass0 (pa_cons (pe_callB (call_min2 rfl) rfl mN PyProof.Rows.Boot.«min» (pa_cons pe_int (pa_cons (pe_op op_add (pv 9) (pe_op op_mul pe_int (pe_op op_fdiv (pe_op op_mod (pe_op op_fdiv (pv 4) pe_int) pe_int) pe_int))) pa_nil))) pa_nil))))))))))), ?_⟩
  refine ⟨_, rfl, _, rfl, a, ns, j, rfl, hS, h63, j0, j1, fun z z0 => ?_⟩
  refine ⟨_, rfl, lc, cs, rfl, hL, co, fun p H1 s1 hp => ?_⟩
  refine ⟨p, _, rfl, SqT.of hp, rfl, _, _, rfl, _, _, rfl, rfl, ?_⟩
  have lok := last_ok cs co
  have hL1 := s1 _ _ hL
  have hU1 := s1 _ _ hU
  clear hp
  generalize (lastF cs).2.2 = tm at *
  generalize (lastF cs).2.1 = at' at *
  refine ⟨_, rfl, nm_of ?_⟩
  refine if_cut (fun b H' => H1 = H' ∧ b = !at'.isNone) (fun σ H' => H1 = H' ∧ ∃ low : Int, -1 ≤ low ∧ low < 40 ∧ σ = [some (.ref a), some (.int j), some (.ref lc), some (.ref ls), some (.int z), some (atV at'), some (.int (tm : Nat)), some (.int low), none, none]) (fun R hR => ?_) (fun H' y D' _ nx => ?_) (fun H' y D' _ nx => ?_) (fun σ H' y => ?_)
  · exact ⟨_, rfl, rfl, _, rfl, hR _ _ ⟨rfl, congrArg (fun b => !b) (atV_non at')⟩⟩
  · obtain ⟨rfl, hb⟩ := y
    cases at' with
    | none => cases hb
    | some k0 =>
      obtain ⟨r, h1, h2⟩ := lok k0 rfl
      exact ⟨_, rfl, _, rfl, lc, _, _, _, rfl, rfl, SqL.of hL1, vC_at h1, r, rfl, h2, nx _ _ ⟨rfl, r, by omega, by omega, rfl⟩⟩
  · obtain ⟨rfl, hb⟩ := y
    exact nx _ _ ⟨rfl, -1, by decide, by decide, rfl⟩
  obtain ⟨rfl, low, l1, l2, rfl⟩ := y
  refine ⟨_, rfl, _, _, rfl, rfl, (show (0 : Int) < 12 by decide), ?_⟩
  have w0 : 0 ≤ z % 12 := Int.emod_nonneg _ (by decide)
  obtain ⟨wy, ew⟩ := Int.eq_ofNat_of_zero_le w0
  refine ⟨_, rfl, _, _, rfl, rfl, _, rfl, ite2 (fun c => ?_) fun c => ?_⟩
  · have c' : z % 12 < 6 := of_decide_eq_true c
    refine ⟨fits3 6 (by decide), fun p1 hp1 => ?_⟩
    obtain ⟨cc, c1, c2⟩ := way6_at wy (by omega)
    exact ⟨_, rfl, p1, _, _, _, rfl, rfl, SqL.of upd_same, (by rw [ew]; exact c2), q cc _ c1 (s1.trans (same_upd hp1 _))⟩
  refine ⟨_, rfl, _, _, rfl, rfl, ?_⟩
  refine ⟨fun m σ H' => H1 = H' ∧ ∃ r : Int, 0 ≤ r ∧ r ≤ 40 ∧ σ = [some (.ref a), some (.int j), some (.ref lc), some (.ref ls), some (.int z), some (atV at'), some (.int (tm : Nat)), some (.int low), some (.int (z % 12)), some (.int r)] ∧ m = (40 - r).toNat, ⟨_, rfl, low + 1, by omega, by omega, rfl, rfl⟩, fun m σ H' y => ?_⟩
  obtain ⟨rfl, r, r0, r1, rfl, rfl⟩ := y
  have done : (tRet (tCall spLText [] E0 (tCons (tCB (fun xs H Q => ∃ i j, xs = [V.int i, V.int j] ∧ Q (V.int (if j < i then j else i)) H) (tCons (tC (.int 39)) (tCons (tOp (rI0 fun i j => .int (i + j)) (tVar 9) (tOp (rI CMul fun i j => .int (i * j)) (tC (.int 5)) (tOp (rI CDiv fun i j => .int (i / j)) (tOp (rI (fun _ j => 0 < j) fun i j => .int (i % j)) (tOp (rI CDiv fun i j => .int (i / j)) (tVar 4) (tC (.int 12))) (tC (.int 9))) (tC (.int 8))))) tNil))) tNil)) : TS) { nx := fun _ H' => Q .non H', rt := Q } [some (.ref a), some (.int j), some (.ref lc), some (.ref ls), some (.int z), some (atV at'), some (.int (tm : Nat)), some (.int low), some (.int (z % 12)), some (.int r)] H1 := by
    have m0 : 0 ≤ z / 12 % 9 := Int.emod_nonneg _ (by decide)
    have m1 : z / 12 % 9 < 9 := Int.emod_lt_of_pos _ (by decide)
    have m2 : 0 ≤ z / 12 % 9 / 8 := by omega
    refine ⟨_, rfl, _, rfl, _, _, rfl, rfl, ⟨by decide, by decide⟩, _, _, rfl, rfl, (show (0 : Int) < 9 by decide), _, _, rfl, rfl, ⟨by decide, by decide⟩, _, _, rfl, rfl, .inl ⟨by decide, by decide⟩, _, _, rfl, rfl, _, _, rfl, ?_⟩
    have v0 : 0 ≤ (if r + 5 * (z / 12 % 9 / 8) < 39 then r + 5 * (z / 12 % 9 / 8) else 39) := by split <;> omega
    have v1 : (if r + 5 * (z / 12 % 9 / 8) < 39 then r + 5 * (z / 12 % 9 / 8) else 39) < 40 := by split <;> omega
    obtain ⟨rr, er⟩ := Int.eq_ofNat_of_zero_le v0
    exact ⟨rr, (show [V.int (if r + 5 * (z / 12 % 9 / 8) < 39 then r + 5 * (z / 12 % 9 / 8) else 39)] = _ by rw [er]), by omega, q rr _ (by omega) s1⟩
  refine ⟨_, rfl, _, _, rfl, rfl, _, rfl, ite2 (fun c => ?_) fun c => iteF done⟩
  have r39 : r < 39 := of_decide_eq_true c
  refine ⟨_, rfl, _, _, rfl, rfl, _, rfl, ite2 (fun _ => ?_) fun _ => iteF done⟩
  refine ⟨_, rfl, _, _, rfl, rfl, (show (0 : Int) < 5 by decide), _, rfl, ls, _, rfl, .inl (SqL.of hU1), rfl, rfl, _, rfl, ite2 (fun _ => ?_) fun _ => done⟩
  exact ⟨fun σ' H' => H1 = H' ∧ σ' = [some (.ref a), some (.int j), some (.ref lc), some (.ref ls), some (.int z), some (atV at'), some (.int (tm : Nat)), some (.int low), some (.int (z % 12)), some (.int (r + 1))], fun σ' H' y => ⟨(40 - (r + 1)).toNat, by omega, y.1, r + 1, by omega, by omega, y.2, rfl⟩, _, rfl, _, _, rfl, rfl, rfl, rfl⟩
/-! ### what is due -/
def spDue (K : PySem.W.Frag) : Sp := fun vs H Q _ => ∃ (a : Addr) (n g : Nat) (cs : List Nat), vs = [.ref a, .int (n : Nat), .int (g : Nat)] ∧ H a = some (.lst (vC cs)) ∧ (∀ c ∈ cs, c < 43) ∧ (n = 3 ∨ n = 4) ∧ ((lastF cs).2.1 = none → ∀ H', Same H H' → Q .non H') ∧
  ∀ k r v, (lastF cs).2.1 = some k → cs[k]? = some r → (hitF (dueT n cs k r) cs).2 = some v → ∀ p H', Same H H' → H' p = some (.tup (conL r (some ((g + v.1) % n)) (lastF cs).2.2)) → Q (.ref p) H'
abbrev nDue : List Str := ["_law_calls", "_law_seats", "_law_first", "_law_at", "_law_times", "_law_rank_here", "_law_k", "_law_call", "_law_strain"]
theorem scDue : FnScope nDue ["_law_calls", "_law_seats", "_law_first"] (defScope sDue) := ⟨rfl, rfl, rfl, by decide +kernel, rfl, by decide +kernel, by decide +kernel⟩
theorem st_at {r : Nat} (h : r < 5) : atI [V.int 0, .int 1, .int 2, .int 3, .non] ((r : Nat) : Int) = some (stV r) := by
  refine atI_nat ?_
  match r, h with
  | 0, _ => rfl
  | 1, _ => rfl
  | 2, _ => rfl
  | 3, _ => rfl
  | 4, _ => rfl
theorem in_pda {c : Nat} (h : c < 43) : inV (.str (cT c)) [.str "pass", .str "double", .str "again"] = decide (40 ≤ c) := by
  have e : inV (.str (cT c)) (vS ["pass", "double", "again"]) = decide (cT c ∈ (["pass", "double", "again"] : List Str)) := inV_str
  refine e.trans ?_
  have all : ∀ c < 43, decide (cT c ∈ (["pass", "double", "again"] : List Str)) = decide (40 ≤ c) := by decide +kernel
  exact all c h
theorem ok_due {k : Nat} {f1 f2 f3 : Addr} {d1 d2 d3 : FuncData} (F : Fun K "_law_due" "_law_due" sDue f fd) (LL : Lib P w K mg base k "_law_last" ["_law_calls"] (spLast K) f1 d1) (LK : Lib P w K mg base k "_law_rank" ["_law_text_here"] spLRank f2 d2) (LW : Lib P w K mg base k "_law_own" pOwn2 spOwn2 f3 d3) (me : mg "enumerate" = none) :
    FnOk P w K mg base CX0 (k + 1) f fd ["_law_calls", "_law_seats", "_law_first"] (spDue K) := by
  refine F.ok scDue (fun vs H Q E h => ?_) (fun cdv A outer s H vs Q E hr h => ?_)
  · obtain ⟨a, n, g, cs, rfl, _⟩ := h
    rfl
  obtain ⟨a, n, g, cs, rfl, hL, co, n34, q1, q2⟩ := h
  refine ⟨_, pss_cons (ps_asg (pe_call LL.ok hr rfl LL.mg LL.kp LL.bd .nil pass0 (pa_cons (pv 0) pa_nil)) (pg_tup rfl (pgs_cons (pg_name (i := 3) scDue.nd rfl (Or.inl rfl)) (pgs_cons (pg_name (i := 4) scDue.nd rfl (Or.inl rfl)) pgs_nil))))
    (pss_cons (ps_if (pt_cmpR op_isN (pv 3) pe_non (nomark _)) (pss_one (ps_ret pe_non)) pss_nil)
    (pss_cons (ps_set (i := 5) scDue.nd rfl (Or.inl rfl) (pe_call LK.ok hr rfl LK.mg LK.kp LK.bd .nil pass0 (pa_cons (pe_ix ix_list (pv 0) (pv 3) (fun _ _ => rfl)) pa_nil)))
    (pss_cons (ps_for PassesOwn.never rfl (pi_enum rfl me (pa_cons (pv 0) pa_nil)) (pg_tup rfl (pgs_cons (pg_name (i := 6) scDue.nd rfl (Or.inl rfl)) (pgs_cons (pg_name (i := 7) scDue.nd rfl (Or.inl rfl)) pgs_nil)))
      (pss_one (ps_if (PW.pt (pw_and (pt_cmpR op_notIn_seq (pv 7) (pe_tup (pa_cons pe_str (pa_cons pe_str (pa_cons pe_str pa_nil)))) rfl) (pw_and1 (pt_cmpR op_eq (pe_op op_mod (pe_call LK.ok hr rfl LK.mg LK.kp LK.bd .nil pass0 (pa_cons (pv 7) pa_nil)) pe_int) (pe_op op_mod (pv 5) pe_int) (nomark _)))))
        (pss_one (ps_if (pt_truth (pe_call LW.ok hr rfl LW.mg LW.kp LW.bd .nil pass0 (pa_cons (pv 1) (pa_cons (pe_op op_mod (pv 6) (pv 1)) (pa_cons (pe_op op_mod (pv 3) (pv 1)) pa_nil)))) (fun _ => rfl))
          (pss_cons (ps_set (i := 8) scDue.nd rfl (Or.inl rfl) (pe_ix ix_list (pe_lst (pa_cons pe_int (pa_cons pe_int (pa_cons pe_int (pa_cons pe_int (pa_cons pe_non pa_nil)))))) (pe_op op_mod (pv 5) pe_int) (fun _ _ => rfl)))
          (pss_one (ps_ret (pe_tup (pa_cons (pe_op op_add pe_int (pe_op op_fdiv (pv 5) pe_int)) (pa_cons (pv 8) (pa_cons (pe_op op_mod (pe_op op_add (pv 2) (pv 6)) (pv 1)) (pa_cons (pv 4) pa_nil)))))))) pss_nil)) pss_nil)))
    (pss_one (ps_ret pe_non))))), ?_⟩
  have n0 : (0 : Int) < ((n : Nat) : Int) := by rcases n34 with z | z <;> omega
  refine ⟨_, rfl, a, cs, rfl, hL, co, fun p H1 s1 hp => ?_⟩
  refine ⟨p, _, rfl, SqT.of hp, rfl, _, _, rfl, _, _, rfl, rfl, ?_⟩
  have lok := last_ok cs co
  have hL1 := s1 _ _ hL
  clear hp
  generalize (lastF cs).2.2 = tm at *
  generalize (lastF cs).2.1 = at' at *
  refine ⟨_, rfl, rfl, _, rfl, chg (atV_non at') ?_⟩
  cases at' with
  | none => exact iteT (q1 rfl H1 s1)
  | some k0 =>
    obtain ⟨r, h1, h2⟩ := lok k0 rfl
    refine iteF ⟨_, rfl, _, rfl, a, _, _, _, rfl, rfl, SqL.of hL1, vC_at h1, r, rfl, h2, ?_⟩
    have hit0 : (hitF (dueT n cs k0 r) cs).2 ≠ none := by
      refine hit_some _ _ h1 h2 ?_
      unfold dueT own2
      rw [decide_eq_true rfl, decide_eq_true rfl]
      rfl
    refine ⟨_, rfl, a, _, rfl, hL1, for_enumL (K := K) (xs := vC cs) (fun i σ H' => Same H1 H' ∧ (hitF (dueT n cs k0 r) (cs.take i)).2 = none ∧ ∃ x6 x7 x8, σ = [some (.ref a), some (.int (n : Nat)), some (.int (g : Nat)), some (.int (k0 : Nat)), some (.int (tm : Nat)), some (.int (r : Nat)), x6, x7, x8]) ⟨Same.refl _, by rw [List.take_zero]; rfl, _, _, _, rfl⟩ (fun i σ H' z => SqL.of (z.1 _ _ hL1)) (fun i x p σ H2 hx z hp => ?_) (fun σ H2 z => ?_)⟩
    · obtain ⟨s2, h0, x6, x7, x8, rfl⟩ := z
      obtain ⟨c, hc, rfl⟩ := vC_get hx
      have c43 := co c (List.mem_of_getElem? hc)
      have il : i < cs.length := (List.getElem?_eq_some_iff.mp hc).1
      have s3 := same_upd hp (.tup [.int (i : Nat), .str (cT c)])
      have tk : cs.take (i + 1) = cs.take i ++ [c] := by rw [List.take_add_one, hc]; rfl
      have tf : (hitF (dueT n cs k0 r) (cs.take i)).1 = i := by rw [hit_fst, List.length_take]; omega
      have hs : (hitF (dueT n cs k0 r) (cs.take (i + 1))).2 = if c < 40 ∧ dueT n cs k0 r i c = true then some (i, c) else none := by
        rw [tk, hit_snoc]
        show (match (hitF (dueT n cs k0 r) (cs.take i)).2 with | some v => some v | none => if c < 40 ∧ dueT n cs k0 r (hitF (dueT n cs k0 r) (cs.take i)).1 c = true then some ((hitF (dueT n cs k0 r) (cs.take i)).1, c) else none) = _
        rw [h0, tf]
      refine ⟨p, _, rfl, SqT.of upd_same, rfl, _, _, rfl, _, _, rfl, rfl, ?_⟩
      refine ⟨_, rfl, fits3 3 (by decide), fun p2 hp2 => ?_⟩
      have s4 := same_upd hp2 (.tup [.str "pass", .str "double", .str "again"])
      refine ⟨p2, _, rfl, .inr (SqT.of upd_same), rfl, rfl, _, rfl, ?_⟩
      refine chg (congrArg (fun b => !b) (in_pda c43)) ?_
      have sA := s2.trans (s3.trans s4)
      revert sA
      generalize upd (upd H2 p (.tup [.int (i : Nat), .str (cT c)])) p2 (.tup [.str "pass", .str "double", .str "again"]) = H4
      intro sA
      by_cases c40 : c < 40
      · rw [decide_eq_false (show ¬ 40 ≤ c by omega)]
        have e5 : decide (V.int (((c : Nat) : Int) % 5) = V.int (((r : Nat) : Int) % 5)) = decide (c % 5 = r % 5) := int_dec.trans (decide_eq_decide.mpr ⟨fun h => by omega, fun h => by omega⟩)
        refine iteT ⟨_, rfl, c, rfl, c40, _, _, rfl, rfl, (show (0 : Int) < 5 by decide), _, rfl, _, _, rfl, rfl, (show (0 : Int) < 5 by decide), rfl, _, rfl, chg e5 ?_⟩
        by_cases c5 : c % 5 = r % 5
        · rw [decide_eq_true c5]
          have m1 : ((i : Nat) : Int) % ((n : Nat) : Int) = ((i % n : Nat) : Int) := (Int.natCast_emod _ _).symm
          have m2 : ((k0 : Nat) : Int) % ((n : Nat) : Int) = ((k0 % n : Nat) : Int) := (Int.natCast_emod _ _).symm
          refine iteT ⟨_, rfl, _, rfl, _, rfl, _, _, rfl, rfl, n0, _, rfl, _, rfl, _, _, rfl, rfl, n0, n, i % n, k0 % n, (show [V.int ((n : Nat) : Int), V.int (((i : Nat) : Int) % ((n : Nat) : Int)), V.int (((k0 : Nat) : Int) % ((n : Nat) : Int))] = _ by rw [m1, m2]), _, rfl, ?_⟩
          cases ow : own2 n (i % n) (k0 % n) with
          | true =>
            have hd : dueT n cs k0 r i c = true := by unfold dueT; rw [decide_eq_true c5, ow]; rfl
            rw [if_pos ⟨c40, hd⟩] at hs
            have hA : (hitF (dueT n cs k0 r) cs).2 = some (i, c) := by
              have z := hit_stay (dueT n cs k0 r) (cs.take (i + 1)) (cs.drop (i + 1)) hs
              rw [List.take_append_drop] at z
              exact z
            have m5 : ((r : Nat) : Int) % 5 = ((r % 5 : Nat) : Int) := by omega
            refine iteT ⟨fits3 5 (by decide), fun lq hlq => ?_⟩
            have s5 := same_upd hlq (.lst [V.int 0, .int 1, .int 2, .int 3, .non])
            refine ⟨_, rfl, _, _, rfl, rfl, (show (0 : Int) < 5 by decide), lq, _, _, stV (r % 5), rfl, rfl, SqL.of upd_same, (by rw [m5]; exact st_at (Nat.mod_lt _ (by decide))), ?_⟩
            refine ⟨_, rfl, _, _, rfl, rfl, ⟨by decide, by decide⟩, _, _, rfl, rfl, _, rfl, _, rfl, _, rfl, _, _, rfl, rfl, _, rfl, _, _, rfl, rfl, n0, _, rfl, fits3 4 (by decide), fun pz hpz => ?_⟩
            refine q2 k0 r (i, c) rfl h1 hA pz _ (s1.trans (sA.trans (s5.trans (same_upd hpz _)))) ?_
            have e1 : (1 : Int) + ((r : Nat) : Int) / 5 = ((r / 5 : Nat) : Int) + 1 := by omega
            have e2 : (((g : Nat) : Int) + ((i : Nat) : Int)) % ((n : Nat) : Int) = (((g + i) % n : Nat) : Int) := by rw [Int.natCast_emod, Int.natCast_add]
            show upd _ pz (.tup [.int ((1 : Int) + ((r : Nat) : Int) / 5), stV (r % 5), .int ((((g : Nat) : Int) + ((i : Nat) : Int)) % ((n : Nat) : Int)), .int ((tm : Nat) : Int)]) pz = _
            rw [e1, e2]
            exact upd_same
          | false =>
            have ng : ¬ (c < 40 ∧ dueT n cs k0 r i c = true) := fun z => by
              have z2 := z.2
              unfold dueT at z2
              rw [ow, Bool.and_false] at z2
              cases z2
            exact iteF ⟨sA, by rw [hs, if_neg ng], _, _, _, rfl⟩
        · rw [decide_eq_false c5]
          have ng : ¬ (c < 40 ∧ dueT n cs k0 r i c = true) := fun z => by
            have z2 := z.2
            unfold dueT at z2
            rw [decide_eq_false c5, Bool.false_and] at z2
            cases z2
          exact iteF ⟨sA, by rw [hs, if_neg ng], _, _, _, rfl⟩
      · rw [decide_eq_true (show 40 ≤ c by omega)]
        exact iteF (iteF ⟨sA, by rw [hs, if_neg (fun z => c40 z.1)], _, _, _, rfl⟩)
    · obtain ⟨s2, h0, x6, x7, x8, rfl⟩ := z
      rw [vC_len, List.take_length] at h0
      exact absurd h0 hit0
end
end My

namespace My
open PySem L2
abbrev sRight : Stmt := top 26
abbrev sLaw : Stmt := top 27
section
variable {P : Program} {w : World} {K : PySem.W.Frag} {mg : Str → Option Value} {base : Heap} {f g : Addr} {fd gd : FuncData}
theorem same_make {H : Hp} {x dx : Addr} {o : HO} (hx : H x = none) (hd : H dx = none) (n : dx ≠ x) : Same H (upd (upd H dx (.own x)) x o) := fun b u q => by
  rw [upd_ne (ne_of_none q hx), upd_ne (ne_of_none q hd)]
  exact q
theorem IsAu.putl {CA : Addr} {n : Nat} {a : Au} {H : Hp} {x lb lc : Addr} {ys zs : List V} (h : IsAu CA n a H x lb) (hl : H lc = some (.lst ys)) (ne : lb ≠ lc) : IsAu CA n a (upd H lc (.lst zs)) x lb := by
  obtain ⟨dx, fs, h1, h2, vs, b1, b2, b3⟩ := h
  refine ⟨dx, fs, by rw [upd_ne (fun z => by rw [z, hl] at h1; cases h1)]; exact h1, h2, vs, by rw [upd_ne ne]; exact b1, b2, fun i v s r e1 e2 => ?_⟩
  obtain ⟨p, q, e, y1, y2⟩ := b3 i v s r e1 e2
  exact ⟨p, q, e, by rw [upd_ne (fun z => by rw [z, hl] at y1; cases y1)]; exact y1, by rw [upd_ne (fun z => by rw [z, hl] at y2; cases y2)]; exact y2⟩
theorem SqL.kept {K : PySem.W.Frag} {H H' : Hp} {a x lb : Addr} {xs : List V} (h : SqL K H a xs) (hx : H x = none) (hl : H lb = none) (k : Kept x lb H H') : SqL K H' a xs := by
  rcases h with (h | ⟨o, h⟩) | h
  · exact .inl (.inl (k _ _ (fun z => by rw [z, hx] at h; cases h) (fun z => by rw [z, hl] at h; cases h) h))
  · exact .inl (.inr ⟨o, k _ _ (fun z => by rw [z, hx] at h; cases h) (fun z => by rw [z, hl] at h; cases h) h⟩)
  · exact .inr h
theorem Kept.upd {x lb c : Addr} {H H' : Hp} {o : HO} (k : Kept x lb H H') (hc : H c = none) : Kept x lb H (upd H' c o) := fun b u h1 h2 h => by
  rw [upd_ne (fun z => by rw [z, hc] at h; cases h)]
  exact k b u h1 h2 h
theorem Kept.same {x lb : Addr} {H H1 H2 : Hp} (k : Kept x lb H H1) (s : Same H1 H2) : Kept x lb H H2 := fun b u h1 h2 h => s _ _ (k b u h1 h2 h)
structure WfB (n : Nat) (a : Au) (m : Nat) : Prop where
  n34 : n = 3 ∨ n = 4
  ca : a.caller < n
  bd : ∀ b ∈ a.bids, b.1 < n ∧ b.2 < 40
  ln : a.bids.length ≤ m
theorem WfB.wf {n m : Nat} {a : Au} (h : WfB n a m) (hm : m ≤ 500) : WfA n a := ⟨h.n34, h.ca, h.bd, Nat.le_trans h.ln hm⟩
theorem WfB.step {n m c : Nat} {a : Au} (h : WfB n a m) : WfB n (stepA n a c) (m + 1) := by
  have n0 : 0 < n := by rcases h.n34 with z | z <;> omega
  refine ⟨h.n34, Nat.mod_lt _ n0, fun b hb => ?_, ?_⟩
  · change b ∈ (if c < 40 then a.bids ++ [(a.caller, c)] else a.bids) at hb
    by_cases c40 : c < 40
    · rw [if_pos c40] at hb
      rcases List.mem_append.mp hb with z | z
      · exact h.bd b z
      · rw [List.mem_singleton.mp z]
        exact ⟨h.ca, c40⟩
    · rw [if_neg c40] at hb
      exact h.bd b hb
  · show (if c < 40 then a.bids ++ [(a.caller, c)] else a.bids).length ≤ m + 1
    have := h.ln
    split
    · rw [List.length_append]
      show _ + 1 ≤ _
      omega
    · omega
theorem cut_to {α : Type} (xs : List V) (m : Nat) (h : m ≤ xs.length) : cutV xs none (some ((m : Nat) : Int)) = xs.take m := by
  unfold cutV
  rw [HT.sIx_none, HT.sIx_nat, List.drop_zero, Nat.sub_zero, Nat.min_eq_left h]
theorem vC_take (cs : List Nat) (m : Nat) : (vC cs).take m = vC (cs.take m) := by unfold vC; rw [List.map_take]
/-- v is the contract of these calls -/
def IsCon (n g : Nat) (cs : List Nat) (H : Hp) (v : V) : Prop := ((lastF cs).2.1 = none ∧ v = .non) ∨ ∃ k r h p, (lastF cs).2.1 = some k ∧ cs[k]? = some r ∧ (hitF (dueT n cs k r) cs).2 = some h ∧ v = .ref p ∧ H p = some (.tup (conL r (some ((g + h.1) % n)) (lastF cs).2.2))
def TupK (H H' : Hp) : Prop := ∀ p xs, H p = some (.tup xs) → H' p = some (.tup xs)
theorem TupK.of {H H' : Hp} (s : Same H H') : TupK H H' := fun p xs h => s _ _ h
theorem TupK.trans {H H1 H2 : Hp} (a : TupK H H1) (b : TupK H1 H2) : TupK H H2 := fun p xs h => b p xs (a p xs h)
theorem TupK.putl {H : Hp} {c : Addr} {ys zs : List V} (h : H c = some (.lst ys)) : TupK H (upd H c (.lst zs)) := fun p xs e => by rw [upd_ne (fun z => by rw [z, h] at e; cases e)]; exact e
theorem TupK.kept {H H' : Hp} {x lb C dx : Addr} {fs : List (Str × V)} {vs : List V} (hx : H x = some (.ins C dx fs)) (hl : H lb = some (.lst vs)) (k : Kept x lb H H') : TupK H H' := fun p xs e => k p _ (fun z => by rw [z, hx] at e; cases e) (fun z => by rw [z, hl] at e; cases e) e
theorem IsCon.keep {n g : Nat} {cs : List Nat} {H H' : Hp} {v : V} (h : IsCon n g cs H v) (t : TupK H H') : IsCon n g cs H' v := by
  rcases h with h | ⟨k, r, w, p, h1, h2, h3, h4, h5⟩
  · exact .inl h
  · exact .inr ⟨k, r, w, p, h1, h2, h3, h4, t _ _ h5⟩
theorem con_vals (r : Nat) (o m : Nat) : (conL r (some o) m).length = 4 ∧ ∀ v ∈ conL r (some o) m, v = .non ∨ ∃ i, v = .int i := by
  refine ⟨rfl, fun v hv => ?_⟩
  rcases List.mem_cons.mp hv with e | hv
  · exact .inr ⟨_, e⟩
  rcases List.mem_cons.mp hv with e | hv
  · unfold stV at e
    split at e
    · exact .inl e
    · exact .inr ⟨_, e⟩
  rcases List.mem_cons.mp hv with e | hv
  · exact .inr ⟨_, e⟩
  rcases List.mem_cons.mp hv with e | hv
  · exact .inr ⟨_, e⟩
  · exact nomatch hv
def Pair4 (H : Hp) (a b : V) : Prop := (a = .non ∧ b = .non) ∨ ∃ p q xs, a = .ref p ∧ b = .ref q ∧ H p = some (.tup xs) ∧ H q = some (.tup xs) ∧ xs.length = 4 ∧ ∀ v ∈ xs, v = .non ∨ ∃ i, v = .int i
theorem con_pair {n g : Nat} {cs : List Nat} {H : Hp} {a b : V} (h : IsCon n g cs H a) (h' : IsCon n g cs H b) : Pair4 H a b := by
  rcases h with ⟨e, rfl⟩ | ⟨k, r, w, p, h1, h2, h3, rfl, h5⟩
  · rcases h' with ⟨_, rfl⟩ | ⟨k, r, w, p, h1, h2, h3, rfl, h5⟩
    · exact .inl ⟨rfl, rfl⟩
    · rw [e] at h1; cases h1
  · rcases h' with ⟨e, rfl⟩ | ⟨k', r', w', p', g1, g2, g3, rfl, g5⟩
    · rw [e] at h1; cases h1
    · rw [h1] at g1
      cases g1
      rw [h2] at g2
      cases g2
      rw [h3] at g3
      cases g3
      exact .inr ⟨p, p', _, rfl, rfl, h5, g5, (con_vals _ _ _).1, (con_vals _ _ _).2⟩
/-! ### right -/
def spRight : Sp := fun vs H Q _ => ∃ a b, vs = [a, b] ∧ Pair4 H a b ∧ ∀ H', Same H H' → Q (.bl true) H'
abbrev nRight : List Str := ["_law_found", "_law_due_here", "_law_part", "_law_wanted"]
theorem scRight : FnScope nRight ["_law_found", "_law_due_here"] (defScope sRight) := ⟨rfl, rfl, rfl, by decide +kernel, rfl, by decide +kernel, by decide +kernel⟩
theorem ok_right {k : Nat} (F : Fun K "_law_right" "_law_right" sRight f fd) (mi : mg "isinstance" = none) (mt : mg "tuple" = none) (mI : mg "int" = none) (mB : mg "bool" = none) (ml : mg "len" = none) (mz : mg "zip" = none) : FnOk P w K mg base CX0 (k + 1) f fd ["_law_found", "_law_due_here"] spRight := by
  refine F.ok scRight (fun vs H Q E h => ?_) (fun cdv A outer s H vs Q E hr h => ?_)
  · obtain ⟨a, b, rfl, _⟩ := h
    rfl
  obtain ⟨a, b, rfl, h, q⟩ := h
  refine ⟨_, pss_cons (ps_if (pt_cmpR op_isN (pv 1) pe_non (nomark _)) (pss_one (ps_ret (pe_cmpR op_isN (pv 0) pe_non (nomark _)))) pss_nil)
    (pss_cons (ps_if (PW.pt (pw_or (pt_not (pt_truth (pe_callB call_isT rfl mi PyProof.Rows.boot_isinstance (pa_cons (pv 0) (pa_cons (pe_bltn (v := .ty "tuple") rfl mt PyProof.Rows.boot_tuple rfl) pa_nil))) (fun _ => rfl))) (pw_or1 (pt_cmpR op_ne (pe_callB call_len_seq rfl ml PySem.boot_len (pa_cons (pv 0) pa_nil)) pe_int (nomark _))))) (pss_one (ps_ret pe_bl)) pss_nil)
    (pss_cons (ps_for PassesOwn.never rfl (pi_zipT rfl mz (pa_cons (pv 0) (pa_cons (pv 1) pa_nil))) (pg_tup rfl (pgs_cons (pg_name (i := 2) scRight.nd rfl (Or.inl rfl)) (pgs_cons (pg_name (i := 3) scRight.nd rfl (Or.inl rfl)) pgs_nil)))
      (pss_one (ps_if (pt_cmpR op_isN (pv 3) pe_non (nomark _)) (pss_one (ps_if (pt_cmpR op_notN (pv 2) pe_non (nomark _)) (pss_one (ps_ret pe_bl)) pss_nil))
        (pss_one (ps_if (PW.pt (pw_or (pt_not (pt_truth (pe_callB call_isT rfl mi PyProof.Rows.boot_isinstance (pa_cons (pv 2) (pa_cons (pe_bltn (v := .ty "int") rfl mI PyProof.Rows.boot_int rfl) pa_nil))) (fun _ => rfl))) (pw_or (pt_truth (pe_callB call_isT rfl mi PyProof.Rows.boot_isinstance (pa_cons (pv 2) (pa_cons (pe_bltn (v := .ty "bool") rfl mB PyProof.Rows.boot_bool rfl) pa_nil))) (fun _ => rfl)) (pw_or1 (pt_cmpR op_ne (pv 2) (pv 3) (nomark _)))))) (pss_one (ps_ret pe_bl)) pss_nil)))))
    (pss_one (ps_ret pe_bl)))), ?_⟩
  rcases h with ⟨rfl, rfl⟩ | ⟨p, p2, xs, rfl, rfl, hp, hp2, hl, hv⟩
  · exact ⟨_, rfl, rfl, _, rfl, iteT ⟨_, rfl, rfl, q H (Same.refl H)⟩⟩
  · refine ⟨_, rfl, rfl, _, rfl, iteF ⟨_, rfl, _, _, _, true, rfl, .tup hp, rfl, true, rfl, iteF ⟨_, rfl, p, _, rfl, .inr (SqT.of hp), rfl, _, rfl, ?_⟩⟩⟩
    refine chg (show (!decide (V.int ((xs.length : Nat) : Int) = V.int 4)) = false by rw [hl]; rfl) (iteF ?_)
    refine ⟨_, rfl, _, rfl, p, p2, xs, xs, rfl, SqT.of hp, SqT.of hp2, for_zipT (K := K) (xs := xs) (ys := xs) rfl (fun i σ H' => Same H H' ∧ ∃ x2 x3, σ = [some (.ref p), some (.ref p2), x2, x3]) ⟨Same.refl _, none, none, rfl⟩ (fun i σ H' z => ⟨SqT.of (z.1 _ _ hp), SqT.of (z.1 _ _ hp2)⟩) (fun i x y pz σ H1 hx hy z hpz => ?_) (fun σ H1 z => ?_)⟩
    · obtain ⟨s1, x2, x3, rfl⟩ := z
      rw [hx] at hy
      cases hy
      have s2 := s1.trans (same_upd hpz (.tup [x, x]))
      refine ⟨pz, _, rfl, SqT.of upd_same, rfl, _, _, rfl, _, _, rfl, rfl, ?_⟩
      rcases hv x (List.mem_of_getElem? hx) with rfl | ⟨j, rfl⟩
      · exact ⟨_, rfl, rfl, _, rfl, iteT ⟨_, rfl, rfl, _, rfl, iteF ⟨s2, _, _, rfl⟩⟩⟩
      · refine ⟨_, rfl, rfl, _, rfl, iteF ⟨_, rfl, _, _, _, true, rfl, .int _, rfl, true, rfl, iteF ⟨_, rfl, _, _, _, false, rfl, .int _, by with_unfolding_all rfl, false, rfl, iteF ⟨_, rfl, _, rfl, rfl, _, rfl, ?_⟩⟩⟩⟩
        exact chg (show (!decide (V.int j = V.int j)) = false by rw [decide_eq_true rfl]; rfl) (iteF ⟨s2, _, _, rfl⟩)
    · obtain ⟨s1, x2, x3, rfl⟩ := z
      exact q H1 s1
/-! ### the law -/
theorem go_of {T : St → Hp → Prop} {σ : St} {H : Hp} {i : Nat} {v : V} (h : T (σ.set i (some v)) H) : gName i v σ H T := h
def spLaw (K : PySem.W.Frag) : Sp := fun vs H Q _ => ∃ (a : Addr) (ns : List Int), vs = [.ref a] ∧ SqL K H a (ns.map V.int) ∧ ns.length ≤ 63 ∧ ∀ H', Q (.bl true) H'
abbrev nLaw : List Str := ["_law_script", "_law_seats", "_law_first", "_law_strains", "_law_auction", "_law_calls", "_law_heard", "_law_k", "_law_found", "_law_call", "_law_size"]
theorem scLaw : FnScope nLaw ["_law_script"] (defScope sLaw) := ⟨rfl, rfl, rfl, by decide +kernel, rfl, by decide +kernel, by decide +kernel⟩
def HeardOk (n g : Nat) (cs : List Nat) (H : Hp) (v : V) : Prop := ∃ p fv sz, v = .ref p ∧ H p = some (.tup [fv, .int ((sz : Nat) : Int)]) ∧ sz ≤ cs.length ∧ IsCon n g (cs.take sz) H fv
theorem HeardOk.keep {n g : Nat} {cs : List Nat} {H H' : Hp} {v : V} (h : HeardOk n g cs H v) (t : TupK H H') : HeardOk n g cs H' v := by
  obtain ⟨p, fv, sz, h1, h2, h3, h4⟩ := h
  exact ⟨p, fv, sz, h1, t _ _ h2, h3, h4.keep t⟩
theorem HeardOk.snoc {n g : Nat} {cs : List Nat} {H : Hp} {v : V} (h : HeardOk n g cs H v) (c : Nat) : HeardOk n g (cs ++ [c]) H v := by
  obtain ⟨p, fv, sz, h1, h2, h3, h4⟩ := h
  exact ⟨p, fv, sz, h1, h2, by rw [List.length_append]; omega, by rw [List.take_append_of_le_length h3]; exact h4⟩
theorem RelB.con {n g : Nat} {cs : List Nat} {a : Au} (R : RelB n g cs a) : (a.bids = [] → (lastF cs).2.1 = none) ∧ ∀ bs s r, a.bids = bs ++ [(s, r)] → ∃ k h, (lastF cs).2.1 = some k ∧ cs[k]? = some r ∧ (hitF (dueT n cs k r) cs).2 = some h ∧ conL r (nameA n a r s) a.times = conL r (some ((g + h.1) % n)) (lastF cs).2.2 := by
  rcases R.r.bd with ⟨h1, h2, _⟩ | ⟨k, r0, bs0, h1, h2, h3, h4, _⟩
  · refine ⟨fun _ => h2, fun bs s r e => ?_⟩
    rw [h1] at e
    exact absurd e.symm (List.append_ne_nil_of_right_ne_nil _ (List.cons_ne_nil _ _))
  · refine ⟨fun e => ?_, fun bs s r e => ?_⟩
    · rw [h1] at e
      exact absurd e (List.append_ne_nil_of_right_ne_nil _ (List.cons_ne_nil _ _))
    · have z : a.bids.getLast? = some (s, r) := by rw [e, List.getLast?_concat]
      rw [h1, List.getLast?_concat] at z
      injection z with z
      injection z with z1 z2
      subst z1
      subst z2
      have hn := R.hit h3 h4
      obtain ⟨h, hh⟩ := Option.ne_none_iff_exists'.mp hn
      refine ⟨k, h, h2, h3, hh, ?_⟩
      rw [R.name, hh, R.r.tm]
      rfl
theorem ok_law {k : Nat} {CA f1 f2 f3 f4 f5 fI mS mC : Addr} {d1 d2 d3 d4 d5 dI eS eC : FuncData} (F : Fun K "law" "law" sLaw f fd) (C : AuC K mg CA) (LC : Lib P w K mg base (k + 1) "_law_cell" pCell (spCell K) f1 d1) (LG : Lib P w K mg base (k + 1) "_law_right" ["_law_found", "_law_due_here"] spRight f2 d2) (LU : Lib P w K mg base (k + 1) "_law_due" ["_law_calls", "_law_seats", "_law_first"] (spDue K) f5 d5)
    (LD : Lib P w K mg base (k + 1) "_law_drawn" pDrawn (spDrawn K) f3 d3) (LS : Lib P w K mg base (k + 1) "_law_stands" ["_law_calls", "_law_seats", "_law_call"] (spStands K) f4 d4)
    (MkA : Mk K CA fI) (FI : FnOk P w K mg base CX0 k fI dI ["self", "seats", "first"] (spAuInit CA)) (B0 : Binds K dI ["self", "seats", "first"] [])
    (MS : Meth K CA "say" mS) (FS : FnOk P w K mg base CX0 (k + 1) mS eS ["self", "text"] (spSay CA)) (BS : Binds K eS ["self", "text"] []) (MC : Meth K CA "contract" mC) (FC : FnOk P w K mg base CX0 (k + 1) mC eC ["self"] (spCon CA)) (BC : Binds K eC ["self"] []) (mr : mg "range" = none) (ml : mg "len" = none) : FnOk P w K mg base CX0 (k + 2) f fd ["_law_script"] (spLaw K) := by
  refine F.ok scLaw (fun vs H Q E h => ?_) (fun cdv A outer s H vs Q E hr h => ?_)
  · obtain ⟨a, ns, rfl, _⟩ := h
    rfl
  obtain ⟨a, ns, rfl, hS, h63, q⟩ := h
  refine ⟨_, pss_cons (ps_set (i := 1) scLaw.nd rfl (Or.inl rfl) (pe_op op_add pe_int (pe_op op_mod (pe_call LC.ok hr rfl LC.mg LC.kp LC.bd .nil pass0 (pa_cons (pv 0) (pa_cons pe_int pa_nil))) pe_int)))
    (pss_cons (ps_set (i := 2) scLaw.nd rfl (Or.inl rfl) (pe_op op_mod (pe_call LC.ok hr rfl LC.mg LC.kp LC.bd .nil pass0 (pa_cons (pv 0) (pa_cons pe_int pa_nil))) (pv 1)))
    (pss_cons (ps_set (i := 3) scLaw.nd rfl (Or.inl rfl) (pe_lst (pa_cons (pe_op op_mod (pe_call LC.ok hr rfl LC.mg LC.kp LC.bd .nil pass0 (pa_cons (pv 0) (pa_cons pe_int pa_nil))) pe_int) (pa_cons (pe_op op_mod (pe_op op_fdiv (pe_call LC.ok hr rfl LC.mg LC.kp LC.bd .nil pass0 (pa_cons (pv 0) (pa_cons pe_int pa_nil))) pe_int) pe_int) pa_nil))))
    (pss_cons (ps_set (i := 4) scLaw.nd rfl (Or.inl rfl) (pe_make MkA FI hr rfl C.mA B0 .nil pass0 (pa_cons (pv 1) (pa_cons (pv 2) pa_nil))))
    (pss_cons (ps_set (i := 5) scLaw.nd rfl (Or.inl rfl) (pe_lst pa_nil))
    (pss_cons (ps_set (i := 6) scLaw.nd rfl (Or.inl rfl) (pe_lst pa_nil))
    (pss_cons (ps_for PassesOwn.never rfl (pi_range1 rfl mr (pa_cons pe_int pa_nil)) (pg_name (i := 7) scLaw.nd rfl (Or.inl rfl))
      (pss_cons (ps_set (i := 8) scLaw.nd rfl (Or.inl rfl) (pe_meth0 (pv 4) C.cl MC FC hr BC .nil pass0))
      (pss_cons (ps_if (pt_not (pt_truth (pe_call LG.ok hr rfl LG.mg LG.kp LG.bd .nil pass0 (pa_cons (pv 8) (pa_cons (pe_call LU.ok hr rfl LU.mg LU.kp LU.bd .nil pass0 (pa_cons (pv 5) (pa_cons (pv 1) (pa_cons (pv 2) pa_nil)))) pa_nil))) (fun _ => rfl))) (pss_one (ps_ret pe_bl)) pss_nil)
      (pss_cons (ps_expr (pe_bm PySem.F.plainAttrs_list PySem.F.slot_list_append PySem.F.type_list_append mt_append (pv 6) (pa_cons (pe_tup (pa_cons (pv 8) (pa_cons (pe_callB call_len_seq rfl ml PySem.boot_len (pa_cons (pv 5) pa_nil)) pa_nil))) pa_nil)))
      (pss_cons (ps_set (i := 9) scLaw.nd rfl (Or.inl rfl) (pe_call LD.ok hr rfl LD.mg LD.kp LD.bd .nil pass0 (pa_cons (pv 0) (pa_cons (pe_op op_add pe_int (pv 7)) (pa_cons (pv 5) (pa_cons (pv 3) pa_nil))))))
      (pss_one (ps_if (pt_truth (pe_call LS.ok hr rfl LS.mg LS.kp LS.bd .nil pass0 (pa_cons (pv 5) (pa_cons (pv 1) (pa_cons (pv 9) pa_nil)))) (fun _ => rfl))
        (pss_cons (ps_expr (pe_meth (pv 4) C.cl MS FS hr BS .nil pass0 (pa_cons (pv 9) pa_nil)))
        (pss_one (ps_expr (pe_bm PySem.F.plainAttrs_list PySem.F.slot_list_append PySem.F.type_list_append mt_append (pv 5) (pa_cons (pv 9) pa_nil))))) pss_nil)))))))
    (pss_cons (ps_for PassesOwn.never rfl (pi_list (pv 6)) (pg_tup rfl (pgs_cons (pg_name (i := 8) scLaw.nd rfl (Or.inl rfl)) (pgs_cons (pg_name (i := 10) scLaw.nd rfl (Or.inl rfl)) pgs_nil)))
      (pss_one (ps_if (pt_not (pt_truth (pe_call LG.ok hr rfl LG.mg LG.kp LG.bd .nil pass0 (pa_cons (pv 8) (pa_cons (pe_call LU.ok hr rfl LU.mg LU.kp LU.bd .nil pass0 (pa_cons (pe_slice sl_list (pv 5) po_none (po_some (pv 10))) (pa_cons (pv 1) (pa_cons (pv 2) pa_nil)))) pa_nil))) (fun _ => rfl))) (pss_one (ps_ret pe_bl)) pss_nil)))
    (pss_one (ps_ret (pe_call LG.ok hr rfl LG.mg LG.kp LG.bd .nil pass0 (pa_cons (pe_meth0 (pv 4) C.cl MC FC hr BC .nil pass0) (pa_cons (pe_call LU.ok hr rfl LU.mg LU.kp LU.bd .nil pass0 (pa_cons (pv 5) (pa_cons (pv 1) (pa_cons (pv 2) pa_nil)))) pa_nil)))))))))))), ?_⟩
  have mkA : ∀ (H1 : Hp) (g : Nat) (n : Nat) (R : V → Hp → Prop), (∀ x lb H', Same H1 H' → H1 x = none → H1 lb = none → IsAu CA n ⟨g, 0, 1, []⟩ H' x lb → R (.ref x) H') → ∀ x dx, H1 x = none → H1 dx = none → dx ≠ x → spAuInit CA [.ref x, .int (n : Nat), .int (g : Nat)] (upd (upd H1 dx (.own x)) x (.ins CA dx [])) (fun v H' => v = .non ∧ R (.ref x) H') E0 := fun H1 g n R hR x dx hx hd nd =>
    ⟨x, dx, n, g, rfl, upd_same, fun lb H' kp hlb I => ⟨rfl, hR x lb H' (fun b o hb => kp b o (fun z => by rw [z, hx] at hb; cases hb) (same_make hx hd nd b o hb)) hx ((same_make hx hd nd).free hlb) I⟩⟩
  refine set_nm (fun v H' => H = H' ∧ ∃ n : Nat, (n = 3 ∨ n = 4) ∧ v = .int (n : Nat)) (fun R hR => ?_) (fun v H' z => ?_)
  · refine ⟨_, rfl, a, ns, 0, rfl, hS, h63, by decide, by decide, fun z1 w1 => ?_⟩
    have m0 : 0 ≤ z1 % 2 := Int.emod_nonneg _ (by decide)
    have m1 : z1 % 2 < 2 := Int.emod_lt_of_pos _ (by decide)
    obtain ⟨n, en⟩ := Int.eq_ofNat_of_zero_le (show 0 ≤ 3 + z1 % 2 by omega)
    exact ⟨_, _, rfl, rfl, (show (0 : Int) < 2 by decide), _, _, rfl, rfl, hR _ _ ⟨rfl, n, by omega, congrArg V.int en⟩⟩
  obtain ⟨rfl, n, n34, rfl⟩ := z
  have n0 : (0 : Int) < ((n : Nat) : Int) := by omega
  refine set_nm (fun v H' => H = H' ∧ ∃ g : Nat, g < n ∧ v = .int (g : Nat)) (fun R hR => ?_) (fun v H' z => ?_)
  · refine ⟨_, rfl, a, ns, 1, rfl, hS, h63, by decide, by decide, fun z2 w2 => ?_⟩
    obtain ⟨g, eg⟩ := Int.eq_ofNat_of_zero_le (Int.emod_nonneg z2 (show ((n : Nat) : Int) ≠ 0 by omega))
    have gl : g < n := by have := Int.emod_lt_of_pos z2 n0; omega
    exact ⟨_, rfl, _, _, rfl, rfl, n0, hR _ _ ⟨rfl, g, gl, congrArg V.int eg⟩⟩
  obtain ⟨rfl, g, gl, rfl⟩ := z
  refine set_nm (fun v H' => ∃ ls u w, v = .ref ls ∧ Same H H' ∧ H' ls = some (.lst [.int u, .int w])) (fun R hR => ?_) (fun v H1 z => ?_)
  · exact ⟨_, rfl, a, ns, 2, rfl, hS, h63, by decide, by decide, fun z1 w1 => ⟨_, _, rfl, rfl, (show (0 : Int) < 5 by decide), _, rfl, a, ns, 2, rfl, hS, h63, by decide, by decide, fun z2 w2 => ⟨_, _, rfl, rfl, ⟨by decide, by decide⟩, _, _, rfl, rfl, (show (0 : Int) < 5 by decide), fits3 2 (by decide), fun ls hls => hR _ _ ⟨ls, _, _, rfl, same_upd hls _, upd_same⟩⟩⟩⟩
  obtain ⟨ls, u, w, rfl, s0, hU⟩ := z
  have hS1 := s0.seq hS
  refine set_nm (fun v H' => ∃ x lb, v = .ref x ∧ Same H1 H' ∧ H1 x = none ∧ H1 lb = none ∧ IsAu CA n ⟨g, 0, 1, []⟩ H' x lb) (fun R hR => ?_) (fun v H2 z => ?_)
  · refine ⟨_, rfl, _, rfl, ?_⟩
    intro x dx hx hd nd
    exact mkA H1 g n R (fun x lb H' sm h1 h2 I => hR _ _ ⟨x, lb, rfl, sm, h1, h2, I⟩) x dx hx hd nd
  obtain ⟨x, lb, rfl, s1, hx0, hlb0, I1⟩ := z
  have nls : ls ≠ x ∧ ls ≠ lb := ⟨fun z => (by rw [z, hx0] at hU; cases hU), fun z => (by rw [z, hlb0] at hU; cases hU)⟩
  refine ⟨fits3 0 (by decide), fun lc hlc => ?_⟩
  have s2 := same_upd hlc (.lst [])
  have I2 := I1.same s2
  have L2' : upd H2 lc (.lst []) lc = some (.lst []) := upd_same
  revert s2 I2 L2'
  generalize upd H2 lc (.lst []) = H2'
  intro s2 I2 L2'
  refine ⟨fits3 0 (by decide), fun lh hlh => ?_⟩
  have s3 := same_upd hlh (.lst [])
  have frees : ∀ {Hx : Hp} {y : Addr}, IsAu CA n ⟨g, 0, 1, []⟩ Hx x lb → Hx y = none → lb ≠ y ∧ x ≠ y := fun {Hx y} I hy => by
    obtain ⟨_, _, b1, _, vs, b2, _, _⟩ := I
    exact ⟨fun z => (by rw [z, hy] at b2; cases b2), fun z => (by rw [z, hy] at b1; cases b1)⟩
  obtain ⟨nlb, nxc⟩ := frees I1 hlc
  obtain ⟨nlbh, nxh⟩ := frees I2 hlh
  have nch : lc ≠ lh := fun z => by rw [z, hlh] at L2'; cases L2'
  have hlc0 := s1.free hlc
  have hlh0 := (s1.trans s2).free hlh
  have nlsc : ls ≠ lc := fun z => by rw [z, hlc0] at hU; cases hU
  have nlsh : ls ≠ lh := fun z => by rw [z, hlh0] at hU; cases hU
  have con2 : ∀ {H' : Hp} {cs : List Nat} {au : Au} {bs : List (Nat × Nat)} {s r : Nat} {p : Addr}, RelB n g cs au → au.bids = bs ++ [(s, r)] → H' p = some (.tup (conL r (nameA n au r s) au.times)) → IsCon n g cs H' (.ref p) := fun {H' cs au bs s r p} Rl e hp => by
    obtain ⟨k, h, e1, e2, e3, e4⟩ := Rl.con.2 bs s r e
    rw [e4] at hp
    exact .inr ⟨k, r, h, p, e1, e2, e3, rfl, hp⟩
  refine ⟨40, rfl, by decide, by decide, ?_⟩
  refine for_range (n := 40) (fun i σ H' => Kept x lb H1 H' ∧ ∃ (cs : List Nat) (au : Au) (hv : List V) (x7 x8 x9 x10 : Option V), cs.length ≤ i ∧ hv.length = i ∧ H' lc = some (.lst (vC cs)) ∧ H' lh = some (.lst hv) ∧ IsAu CA n au H' x lb ∧ RelB n g cs au ∧ WfB n au i ∧ (∀ v ∈ hv, HeardOk n g cs H' v) ∧ σ = [some (.ref a), some (.int (n : Nat)), some (.int (g : Nat)), some (.ref ls), some (.ref x), some (.ref lc), some (.ref lh), x7, x8, x9, x10])
    ⟨Kept.of (s1.trans (s2.trans s3)), [], ⟨g, 0, 1, []⟩, [], none, none, none, none, Nat.le_refl _, rfl, s3 _ _ L2', upd_same, I2.same s3, RelB.begin n34 gl, ⟨n34, gl, (fun b hb => nomatch hb), Nat.le_refl _⟩, (fun v hv => nomatch hv), rfl⟩ (fun i σ H3 hi z => ?_) (fun σ H3 z => ?_)
  · obtain ⟨k3, cs, au, hv, x7, x8, x9, x10, cl, hvl, hL, hLh, I, R, W, hHe, rfl⟩ := z
    refine go_of ?_
    refine set_nm (fun v H' => Same H3 H' ∧ IsCon n g cs H' v) (fun R' hR => ?_) (fun fv H4 z => ?_)
    · obtain ⟨dx, fs, hx3, A3, B3⟩ := id I
      exact ⟨_, rfl, x, dx, _, rfl, hx3, A3.nm _ (by decide +kernel), x, lb, n, au, rfl, I, W.wf (by omega), fun e => hR _ _ ⟨Same.refl _, .inl ⟨R.con.1 e, rfl⟩⟩, fun bs s r e p H2 s2 hp => hR _ _ ⟨s2, con2 R e hp⟩⟩
    obtain ⟨s4, hc4⟩ := z
    refine if_cut (fun b H' => Same H4 H' ∧ b = false) (fun σ H' => Same H4 H' ∧ σ = [some (.ref a), some (.int (n : Nat)), some (.int (g : Nat)), some (.ref ls), some (.ref x), some (.ref lc), some (.ref lh), some (.int (0 + (i : Nat))), some fv, x9, x10]) (fun R' hR => ?_) (fun H' z => nomatch z.2) (fun H' z D' _ nx => nx _ _ ⟨z.1, rfl⟩) (fun σ H5 z => ?_)
    · refine ⟨_, rfl, _, rfl, _, rfl, _, rfl, lc, n, g, cs, rfl, s4 _ _ hL, R.r.co, n34, fun e H2 s2 => ?_, fun k r v e1 e2 e3 p H2 s2 hp => ?_⟩
      · exact ⟨fv, _, rfl, con_pair (hc4.keep (TupK.of s2)) (.inl ⟨e, rfl⟩), fun H6 s6 => ⟨true, rfl, hR _ _ ⟨s2.trans s6, rfl⟩⟩⟩
      · exact ⟨fv, _, rfl, con_pair (hc4.keep (TupK.of s2)) (.inr ⟨k, r, v, p, e1, e2, e3, rfl, hp⟩), fun H6 s6 => ⟨true, rfl, hR _ _ ⟨s2.trans s6, rfl⟩⟩⟩
    obtain ⟨s5, rfl⟩ := z
    have s35 := s4.trans s5
    have hL5 := s35 _ _ hL
    have hLh5 := s35 _ _ hLh
    refine ⟨_, rfl, .inl ⟨rfl, _, SqL.of hLh5⟩, _, rfl, _, rfl, lc, _, rfl, .inl (SqL.of hL5), fits3 2 (by decide), fun pt hpt => ?_⟩
    have s6 := same_upd hpt (.tup [fv, .int (((vC cs).length : Nat) : Int)])
    refine ⟨lh, hv, _, rfl, rfl, s6 _ _ hLh5, (by rw [hvl]; have := fits3 100 (by decide); omega), ?_⟩
    have K7 : Kept x lb H1 (upd (upd H5 pt (.tup [fv, .int (((vC cs).length : Nat) : Int)])) lh (.lst (hv ++ [.ref pt]))) := ((k3.same s35).same s6).upd hlh0
    have T7 : TupK H5 (upd (upd H5 pt (.tup [fv, .int (((vC cs).length : Nat) : Int)])) lh (.lst (hv ++ [.ref pt]))) := (TupK.of s6).trans (TupK.putl (s6 _ _ hLh5))
    have L7 : upd (upd H5 pt (.tup [fv, .int (((vC cs).length : Nat) : Int)])) lh (.lst (hv ++ [.ref pt])) lc = some (.lst (vC cs)) := by rw [upd_ne nch]; exact s6 _ _ hL5
    have M7 : upd (upd H5 pt (.tup [fv, .int (((vC cs).length : Nat) : Int)])) lh (.lst (hv ++ [.ref pt])) lh = some (.lst (hv ++ [.ref pt])) := upd_same
    have U7 : upd (upd H5 pt (.tup [fv, .int (((vC cs).length : Nat) : Int)])) lh (.lst (hv ++ [.ref pt])) ls = some (.lst [.int u, .int w]) := K7 _ _ nls.1 nls.2 hU
    have I7 : IsAu CA n au (upd (upd H5 pt (.tup [fv, .int (((vC cs).length : Nat) : Int)])) lh (.lst (hv ++ [.ref pt]))) x lb := ((I.same s35).same s6).putl (s6 _ _ hLh5) nlbh
    have P7 : upd (upd H5 pt (.tup [fv, .int (((vC cs).length : Nat) : Int)])) lh (.lst (hv ++ [.ref pt])) pt = some (.tup [fv, .int ((cs.length : Nat) : Int)]) := by
      rw [upd_ne (fun z => by rw [← z, hpt] at hLh5; cases hLh5), upd_same, vC_len]
    have hH7 : ∀ v ∈ hv ++ [.ref pt], HeardOk n g cs (upd (upd H5 pt (.tup [fv, .int (((vC cs).length : Nat) : Int)])) lh (.lst (hv ++ [.ref pt]))) v := fun v hvm => by
      rcases List.mem_append.mp hvm with z | z
      · exact (hHe v z).keep ((TupK.of s35).trans T7)
      · rw [List.mem_singleton.mp z]
        exact ⟨pt, fv, cs.length, rfl, P7, Nat.le_refl _, by rw [List.take_length]; exact hc4.keep ((TupK.of s5).trans T7)⟩
    revert K7 L7 M7 U7 I7 hH7
    clear T7 P7
    generalize upd (upd H5 pt (.tup [fv, .int (((vC cs).length : Nat) : Int)])) lh (.lst (hv ++ [.ref pt])) = H7
    intro K7 L7 M7 U7 I7 hH7
    refine ⟨_, rfl, _, rfl, _, _, rfl, rfl, _, rfl, _, rfl, a, lc, ls, ns, 3 + (0 + ((i : Nat) : Int)), cs, u, w, rfl, SqL.kept hS1 hx0 hlb0 K7, h63, by omega, by omega, L7, R.r.co, U7, fun c H8 hc s8 => ?_⟩
    refine ⟨_, rfl, _, rfl, _, rfl, lc, n, c, cs, rfl, s8 _ _ L7, R.r.co, n34, hc, fun H9 s9 => ⟨_, rfl, ?_⟩⟩
    have s79 := s8.trans s9
    have I9 := I7.same s79
    have L9 := s79 _ _ L7
    have M9 := s79 _ _ M7
    have hvl' : (hv ++ [V.ref pt]).length = i + 1 := by rw [List.length_append, hvl]; rfl
    have W' : WfB n au (i + 1) := ⟨W.n34, W.ca, W.bd, by have := W.ln; omega⟩
    cases st : standsC n cs c with
    | false => exact iteF ⟨K7.same s79, cs, au, _, _, _, _, _, by omega, hvl', L9, M9, I9, R, W', fun v hvm => (hH7 v hvm).keep (TupK.of s79), rfl⟩
    | true =>
      obtain ⟨dx, fs, hx9, A9, B9⟩ := id I9
      obtain ⟨vs9, hb9, _⟩ := B9.len
      refine iteT ⟨_, rfl, x, dx, _, rfl, hx9, A9.nm _ (by decide +kernel), _, rfl, x, lb, n, au, c, rfl, hc, I9, W.wf (by omega), R.r.brk hc st, fun H10 k10 I10 => ?_⟩
      have L10 := k10 _ _ (Ne.symm nxc) (Ne.symm nlb) L9
      have M10 := k10 _ _ (Ne.symm nxh) (Ne.symm nlbh) M9
      have T10 := TupK.kept hx9 hb9 k10
      refine ⟨_, rfl, .inl ⟨rfl, _, SqL.of L10⟩, _, rfl, lc, vC cs, _, rfl, rfl, L10, (by rw [vC_len]; have := fits3 100 (by decide); omega), ?_⟩
      rw [vC_snoc]
      exact ⟨((K7.same s79).trans k10).upd hlc0, cs ++ [c], stepA n au c, _, _, _, _, _, by rw [List.length_append]; show cs.length + 1 ≤ i + 1; omega, hvl', upd_same, by rw [upd_ne (Ne.symm nch)]; exact M10, I10.putl L10 nlb, R.step hc st, W.step, fun v hvm => (((hH7 v hvm).keep (TupK.of s79)).keep (T10.trans (TupK.putl L10))).snoc c, rfl⟩
  · obtain ⟨k3, cs, au, hv, x7, x8, x9, x10, cl, hvl, hL, hLh, I, R, W, hHe, rfl⟩ := z
    refine ⟨_, rfl, lh, rfl, ⟨_, SqL.of hLh⟩, for_list (K := K) (xs := hv) (fun i σ H' => Same H3 H' ∧ ∃ x8 x10, σ = [some (.ref a), some (.int (n : Nat)), some (.int (g : Nat)), some (.ref ls), some (.ref x), some (.ref lc), some (.ref lh), x7, x8, x9, x10]) ⟨Same.refl _, _, _, rfl⟩ (fun i σ H' _ z => SqL.of (z.1 _ _ hLh)) (fun i v σ H4 hv' z => ?_) (fun σ H4 z => ?_)⟩
    · obtain ⟨s4, x8, x10, rfl⟩ := z
      obtain ⟨p, fv, sz, rfl, hp, hsz, hcon⟩ := (hHe v (List.mem_of_getElem? hv')).keep (TupK.of s4)
      refine ⟨p, _, rfl, SqT.of hp, rfl, _, _, rfl, _, _, rfl, rfl, ?_⟩
      refine ⟨_, rfl, _, rfl, _, rfl, _, rfl, lc, _, rfl, SqL.of (s4 _ _ hL), fun l2 hl2 => ?_⟩
      have s5 := same_upd hl2 (.lst (cutV (vC cs) none (some ((sz : Nat) : Int))))
      have e5 : cutV (vC cs) none (some ((sz : Nat) : Int)) = vC (cs.take sz) := by rw [cut_to (α := Nat) _ _ (by rw [vC_len]; exact hsz), vC_take]
      refine ⟨_, rfl, _, rfl, l2, n, g, cs.take sz, rfl, (by rw [upd_same, e5]), fun c hc => R.r.co c (List.mem_of_mem_take hc), n34, fun e H6 s6 => ?_, fun k r v e1 e2 e3 p H6 s6 hp => ?_⟩
      · exact ⟨fv, _, rfl, con_pair (hcon.keep (TupK.of (s5.trans s6))) (.inl ⟨e, rfl⟩), fun H7 s7 => ⟨true, rfl, iteF ⟨s4.trans (s5.trans (s6.trans s7)), _, _, rfl⟩⟩⟩
      · exact ⟨fv, _, rfl, con_pair (hcon.keep (TupK.of (s5.trans s6))) (.inr ⟨k, r, v, p, e1, e2, e3, rfl, hp⟩), fun H7 s7 => ⟨true, rfl, iteF ⟨s4.trans (s5.trans (s6.trans s7)), _, _, rfl⟩⟩⟩
    · obtain ⟨s4, x8, x10, rfl⟩ := z
      have I4 := I.same s4
      obtain ⟨dx, fs, hx4, A4, B4⟩ := id I4
      have fin : ∀ fv H5, Same H4 H5 → IsCon n g cs H5 fv → ∀ dv H6, Same H5 H6 → IsCon n g cs H6 dv → Pair4 H6 fv dv := fun fv H5 s5 hc dv H6 s6 hd => con_pair (hc.keep (TupK.of s6)) hd
      have hL4 := s4 _ _ hL
      refine ⟨_, rfl, x, dx, _, rfl, hx4, A4.nm _ (by decide +kernel), x, lb, n, au, rfl, I4, W.wf (by omega), fun e0 => ?_, fun bs s0 r0 e0 p0 H5 s5 hp0 => ?_⟩
      · have hc : IsCon n g cs H4 .non := .inl ⟨R.con.1 e0, rfl⟩
        refine ⟨_, rfl, _, rfl, _, rfl, lc, n, g, cs, rfl, hL4, R.r.co, n34, fun e H6 s6 => ?_, fun k r v e1 e2 e3 p H6 s6 hp => ?_⟩
        · exact ⟨_, _, rfl, fin _ _ (Same.refl _) hc _ _ s6 (.inl ⟨e, rfl⟩), fun H7 s7 => q _⟩
        · exact ⟨_, _, rfl, fin _ _ (Same.refl _) hc _ _ s6 (.inr ⟨k, r, v, p, e1, e2, e3, rfl, hp⟩), fun H7 s7 => q _⟩
      · have hc := con2 R e0 hp0
        refine ⟨_, rfl, _, rfl, _, rfl, lc, n, g, cs, rfl, s5 _ _ hL4, R.r.co, n34, fun e H6 s6 => ?_, fun k r v e1 e2 e3 p H6 s6 hp => ?_⟩
        · exact ⟨_, _, rfl, fin _ _ s5 hc _ _ s6 (.inl ⟨e, rfl⟩), fun H7 s7 => q _⟩
        · exact ⟨_, _, rfl, fin _ _ s5 hc _ _ s6 (.inr ⟨k, r, v, p, e1, e2, e3, rfl, hp⟩), fun H7 s7 => q _⟩
end
end My

namespace My
open PySem L2
theorem all_mk {wd dtd : Option Addr} {dtc : Value} {tw1 tw2 tw3 tz : Tok} {wn dtn : Nat} {wsl dts : Array (Option Value)} {l : PySem.W.OpenLaw} {w : World} {K : PySem.W.Frag} {h : Heap} {mg : Str → Option Value} {fa f1 f2 f3 f4 f5 f6 f7 f8 f9 f10 f11 f12 f13 f14 f15 f_I f_D f_O f_X f_Y f_B f_S f_N f_K CN CA aW dT : Addr} (X : K.In h) (G : h.Ns mainGlobals mg) (hfa : mg "law" = some (.ref fa))
    {od1 an1 od2 an2 od3 an3 od4 an4 od5 an5 od6 an6 od7 an7 od8 an8 od9 an9 od10 an10 od11 an11 od12 an12 od13 an13 od14 an14 od15 an15 od_I an_I od_D an_D od_O an_O od_X an_X od_Y an_Y od_B an_B od_S an_S od_N an_N od_K an_K : Option Addr} {sl1 sl2 sl3 sl4 sl5 sl6 sl7 sl8 sl9 sl10 sl11 sl12 sl13 sl14 sl15 sl_I sl_D sl_O sl_X sl_Y sl_B sl_S sl_N sl_K : Array (Option Value)} {oc1 kV1 dc1 pm1 cd1 ct1 oc2 kV2 dc2 pm2 cd2 ct2 oc3 kV3 dc3 pm3 cd3 ct3 oc4 kV4 dc4 pm4 cd4 ct4 oc5 kV5 dc5 pm5 cd5 ct5 oc6 kV6 dc6 pm6 cd6 ct6 oc7 kV7 dc7 pm7 cd7 ct7 oc8 kV8 dc8 pm8 cd8 ct8 oc9 kV9 dc9 pm9 cd9 ct9 oc10 kV10 dc10 pm10 cd10 ct10 oc11 kV11 dc11 pm11 cd11 ct11 oc12 kV12 dc12 pm12 cd12 ct12 oc13 kV13 dc13 pm13 cd13 ct13 oc14 kV14 dc14 pm14 cd14 ct14 oc15 kV15 dc15 pm15 cd15 ct15 oc_I kV_I dc_I pm_I cd_I ct_I oc_D kV_D dc_D pm_D cd_D ct_D oc_O kV_O dc_O pm_O cd_O ct_O oc_X kV_X dc_X pm_X cd_X ct_X oc_Y kV_Y dc_Y pm_Y cd_Y ct_Y oc_B kV_B dc_B pm_B cd_B ct_B oc_S kV_S dc_S pm_S cd_S ct_S oc_N kV_N dc_N pm_N cd_N ct_N oc_K kV_K dc_K pm_K cd_K ct_K : Value} {t1 t2 t3 : Tok}
    (a1 : PySem.W.nsIn K mainGlobals "read_call" = some (some (.ref f1))) (l1 : K.lookup f1 = some ⟨oc1, od1, .func (PySem.W.fnOf "read_call" "read_call" (defArgs sReadCall) (defBody sReadCall) (defScope sReadCall) .none kV1 dc1 pm1 an1 cd1 ct1), sl1⟩) (c1 : PySem.W.codeIn K cd1 "read_call" = true) (k1 : PySem.W.keepIn K (.ref f1) = true)
    (a2 : PySem.W.nsIn K mainGlobals "rank_of" = some (some (.ref f2))) (l2 : K.lookup f2 = some ⟨oc2, od2, .func (PySem.W.fnOf "rank_of" "rank_of" (defArgs sRankOf) (defBody sRankOf) (defScope sRankOf) .none kV2 dc2 pm2 an2 cd2 ct2), sl2⟩) (c2 : PySem.W.codeIn K cd2 "rank_of" = true) (k2 : PySem.W.keepIn K (.ref f2) = true)
    (a3 : PySem.W.nsIn K mainGlobals "above" = some (some (.ref f3))) (l3 : K.lookup f3 = some ⟨oc3, od3, .func (PySem.W.fnOf "above" "above" (defArgs sAbove) (defBody sAbove) (defScope sAbove) .none kV3 dc3 pm3 an3 cd3 ct3), sl3⟩) (c3 : PySem.W.codeIn K cd3 "above" = true) (k3 : PySem.W.keepIn K (.ref f3) = true)
    (a4 : PySem.W.nsIn K mainGlobals "side_of" = some (some (.ref f4))) (l4 : K.lookup f4 = some ⟨oc4, od4, .func (PySem.W.fnOf "side_of" "side_of" (defArgs sSide) (defBody sSide) (defScope sSide) .none kV4 dc4 pm4 an4 cd4 ct4), sl4⟩) (c4 : PySem.W.codeIn K cd4 "side_of" = true) (k4 : PySem.W.keepIn K (.ref f4) = true)
    (a5 : PySem.W.nsIn K mainGlobals "_law_cell" = some (some (.ref f5))) (l5 : K.lookup f5 = some ⟨oc5, od5, .func (PySem.W.fnOf "_law_cell" "_law_cell" (defArgs sCell) (defBody sCell) (defScope sCell) .none kV5 dc5 pm5 an5 cd5 ct5), sl5⟩) (c5 : PySem.W.codeIn K cd5 "_law_cell" = true) (k5 : PySem.W.keepIn K (.ref f5) = true)
    (a6 : PySem.W.nsIn K mainGlobals "_law_text" = some (some (.ref f6))) (l6 : K.lookup f6 = some ⟨oc6, od6, .func (PySem.W.fnOf "_law_text" "_law_text" (defArgs sLText) (defBody sLText) (defScope sLText) .none kV6 dc6 pm6 an6 cd6 ct6), sl6⟩) (c6 : PySem.W.codeIn K cd6 "_law_text" = true) (k6 : PySem.W.keepIn K (.ref f6) = true)
    (a7 : PySem.W.nsIn K mainGlobals "_law_rank" = some (some (.ref f7))) (l7 : K.lookup f7 = some ⟨oc7, od7, .func (PySem.W.fnOf "_law_rank" "_law_rank" (defArgs sLRank) (defBody sLRank) (defScope sLRank) .none kV7 dc7 pm7 an7 cd7 ct7), sl7⟩) (c7 : PySem.W.codeIn K cd7 "_law_rank" = true) (k7 : PySem.W.keepIn K (.ref f7) = true)
    (a8 : PySem.W.nsIn K mainGlobals "_law_over" = some (some (.ref f8))) (l8 : K.lookup f8 = some ⟨oc8, od8, .func (PySem.W.fnOf "_law_over" "_law_over" (defArgs sLOver) (defBody sLOver) (defScope sLOver) .none kV8 dc8 pm8 an8 cd8 ct8), sl8⟩) (c8 : PySem.W.codeIn K cd8 "_law_over" = true) (k8 : PySem.W.keepIn K (.ref f8) = true)
    (a9 : PySem.W.nsIn K mainGlobals "_law_last" = some (some (.ref f9))) (l9 : K.lookup f9 = some ⟨oc9, od9, .func (PySem.W.fnOf "_law_last" "_law_last" (defArgs sLast) (defBody sLast) (defScope sLast) .none kV9 dc9 pm9 an9 cd9 ct9), sl9⟩) (c9 : PySem.W.codeIn K cd9 "_law_last" = true) (k9 : PySem.W.keepIn K (.ref f9) = true)
    (a10 : PySem.W.nsIn K mainGlobals "_law_own" = some (some (.ref f10))) (l10 : K.lookup f10 = some ⟨oc10, od10, .func (PySem.W.fnOf "_law_own" "_law_own" (defArgs sOwn2) (defBody sOwn2) (defScope sOwn2) .none kV10 dc10 pm10 an10 cd10 ct10), sl10⟩) (c10 : PySem.W.codeIn K cd10 "_law_own" = true) (k10 : PySem.W.keepIn K (.ref f10) = true)
    (a11 : PySem.W.nsIn K mainGlobals "_law_stands" = some (some (.ref f11))) (l11 : K.lookup f11 = some ⟨oc11, od11, .func (PySem.W.fnOf "_law_stands" "_law_stands" (defArgs sStands) (defBody sStands) (defScope sStands) .none kV11 dc11 pm11 an11 cd11 ct11), sl11⟩) (c11 : PySem.W.codeIn K cd11 "_law_stands" = true) (k11 : PySem.W.keepIn K (.ref f11) = true)
    (a12 : PySem.W.nsIn K mainGlobals "_law_drawn" = some (some (.ref f12))) (l12 : K.lookup f12 = some ⟨oc12, od12, .func (PySem.W.fnOf "_law_drawn" "_law_drawn" (defArgs sDrawn) (defBody sDrawn) (defScope sDrawn) .none kV12 dc12 pm12 an12 cd12 ct12), sl12⟩) (c12 : PySem.W.codeIn K cd12 "_law_drawn" = true) (k12 : PySem.W.keepIn K (.ref f12) = true)
    (a13 : PySem.W.nsIn K mainGlobals "_law_due" = some (some (.ref f13))) (l13 : K.lookup f13 = some ⟨oc13, od13, .func (PySem.W.fnOf "_law_due" "_law_due" (defArgs sDue) (defBody sDue) (defScope sDue) .none kV13 dc13 pm13 an13 cd13 ct13), sl13⟩) (c13 : PySem.W.codeIn K cd13 "_law_due" = true) (k13 : PySem.W.keepIn K (.ref f13) = true)
    (a14 : PySem.W.nsIn K mainGlobals "_law_right" = some (some (.ref f14))) (l14 : K.lookup f14 = some ⟨oc14, od14, .func (PySem.W.fnOf "_law_right" "_law_right" (defArgs sRight) (defBody sRight) (defScope sRight) .none kV14 dc14 pm14 an14 cd14 ct14), sl14⟩) (c14 : PySem.W.codeIn K cd14 "_law_right" = true) (k14 : PySem.W.keepIn K (.ref f14) = true)
    (a15 : PySem.W.nsIn K mainGlobals "law" = some (some (.ref f15))) (l15 : K.lookup f15 = some ⟨oc15, od15, .func (PySem.W.fnOf "law" "law" (defArgs sLaw) (defBody sLaw) (defScope sLaw) .none kV15 dc15 pm15 an15 cd15 ct15), sl15⟩) (c15 : PySem.W.codeIn K cd15 "law" = true) (k15 : PySem.W.keepIn K (.ref f15) = true)
    (a_I : PySem.W.findIn K (.ref CA) "__init__" = some (some (.ref f_I))) (l_I : K.lookup f_I = some ⟨oc_I, od_I, .func (PySem.W.fnOf "__init__" "Auction.__init__" (defArgs sAuInit) (defBody sAuInit) (defScope sAuInit) (.ref dT) kV_I dc_I pm_I an_I cd_I ct_I), sl_I⟩) (c_I : PySem.W.codeIn K cd_I "Auction.__init__" = true) (k_I : PySem.W.keepIn K (.ref f_I) = true)
    (i_I : PySem.W.isFn K (.ref f_I) = true)
    (a_D : PySem.W.findIn K (.ref CA) "is_done" = some (some (.ref f_D))) (l_D : K.lookup f_D = some ⟨oc_D, od_D, .func (PySem.W.fnOf "is_done" "Auction.is_done" (defArgs sDone) (defBody sDone) (defScope sDone) .none kV_D dc_D pm_D an_D cd_D ct_D), sl_D⟩) (c_D : PySem.W.codeIn K cd_D "Auction.is_done" = true) (k_D : PySem.W.keepIn K (.ref f_D) = true)
    (i_D : PySem.W.isFn K (.ref f_D) = true)
    (a_O : PySem.W.findIn K (.ref CA) "is_own_bid" = some (some (.ref f_O))) (l_O : K.lookup f_O = some ⟨oc_O, od_O, .func (PySem.W.fnOf "is_own_bid" "Auction.is_own_bid" (defArgs sOwn) (defBody sOwn) (defScope sOwn) .none kV_O dc_O pm_O an_O cd_O ct_O), sl_O⟩) (c_O : PySem.W.codeIn K cd_O "Auction.is_own_bid" = true) (k_O : PySem.W.keepIn K (.ref f_O) = true)
    (i_O : PySem.W.isFn K (.ref f_O) = true)
    (a_X : PySem.W.findIn K (.ref CA) "may_double" = some (some (.ref f_X))) (l_X : K.lookup f_X = some ⟨oc_X, od_X, .func (PySem.W.fnOf "may_double" "Auction.may_double" (defArgs sDbl) (defBody sDbl) (defScope sDbl) .none kV_X dc_X pm_X an_X cd_X ct_X), sl_X⟩) (c_X : PySem.W.codeIn K cd_X "Auction.may_double" = true) (k_X : PySem.W.keepIn K (.ref f_X) = true)
    (i_X : PySem.W.isFn K (.ref f_X) = true)
    (a_Y : PySem.W.findIn K (.ref CA) "may_again" = some (some (.ref f_Y))) (l_Y : K.lookup f_Y = some ⟨oc_Y, od_Y, .func (PySem.W.fnOf "may_again" "Auction.may_again" (defArgs sAgn) (defBody sAgn) (defScope sAgn) .none kV_Y dc_Y pm_Y an_Y cd_Y ct_Y), sl_Y⟩) (c_Y : PySem.W.codeIn K cd_Y "Auction.may_again" = true) (k_Y : PySem.W.keepIn K (.ref f_Y) = true)
    (i_Y : PySem.W.isFn K (.ref f_Y) = true)
    (a_B : PySem.W.findIn K (.ref CA) "broken_rule" = some (some (.ref f_B))) (l_B : K.lookup f_B = some ⟨oc_B, od_B, .func (PySem.W.fnOf "broken_rule" "Auction.broken_rule" (defArgs sBrk) (defBody sBrk) (defScope sBrk) .none kV_B dc_B pm_B an_B cd_B ct_B), sl_B⟩) (c_B : PySem.W.codeIn K cd_B "Auction.broken_rule" = true) (k_B : PySem.W.keepIn K (.ref f_B) = true)
    (i_B : PySem.W.isFn K (.ref f_B) = true)
    (a_S : PySem.W.findIn K (.ref CA) "say" = some (some (.ref f_S))) (l_S : K.lookup f_S = some ⟨oc_S, od_S, .func (PySem.W.fnOf "say" "Auction.say" (defArgs sSay) (defBody sSay) (defScope sSay) .none kV_S dc_S pm_S an_S cd_S ct_S), sl_S⟩) (c_S : PySem.W.codeIn K cd_S "Auction.say" = true) (k_S : PySem.W.keepIn K (.ref f_S) = true)
    (i_S : PySem.W.isFn K (.ref f_S) = true)
    (a_N : PySem.W.findIn K (.ref CA) "first_to_name" = some (some (.ref f_N))) (l_N : K.lookup f_N = some ⟨oc_N, od_N, .func (PySem.W.fnOf "first_to_name" "Auction.first_to_name" (defArgs sFirst) (defBody sFirst) (defScope sFirst) .none kV_N dc_N pm_N an_N cd_N ct_N), sl_N⟩) (c_N : PySem.W.codeIn K cd_N "Auction.first_to_name" = true) (k_N : PySem.W.keepIn K (.ref f_N) = true)
    (i_N : PySem.W.isFn K (.ref f_N) = true)
    (a_K : PySem.W.findIn K (.ref CA) "contract" = some (some (.ref f_K))) (l_K : K.lookup f_K = some ⟨oc_K, od_K, .func (PySem.W.fnOf "contract" "Auction.contract" (defArgs sContract) (defBody sContract) (defScope sContract) .none kV_K dc_K pm_K an_K cd_K ct_K), sl_K⟩) (c_K : PySem.W.codeIn K cd_K "Auction.contract" = true) (k_K : PySem.W.keepIn K (.ref f_K) = true)
    (i_K : PySem.W.isFn K (.ref f_K) = true)
    (g1 : PySem.W.nsIn K mainGlobals "FIGURES" = some (some (.str "12345678" t1)))
    (g2 : PySem.W.nsIn K mainGlobals "STRAINS" = some (some (.str "abcdn" t2)))
    (g3 : PySem.W.nsIn K mainGlobals "NO_TRUMPS" = some (some (.int 4 t3)))
    (z1 : PySem.W.nsIn K mainGlobals "len" = some none)
    (z2 : PySem.W.nsIn K mainGlobals "isinstance" = some none)
    (z3 : PySem.W.nsIn K mainGlobals "str" = some none)
    (z4 : PySem.W.nsIn K mainGlobals "tuple" = some none)
    (z5 : PySem.W.nsIn K mainGlobals "enumerate" = some none)
    (z6 : PySem.W.nsIn K mainGlobals "min" = some none)
    (z7 : PySem.W.nsIn K mainGlobals "int" = some none)
    (z8 : PySem.W.nsIn K mainGlobals "bool" = some none)
    (z9 : PySem.W.nsIn K mainGlobals "range" = some none)
    (z10 : PySem.W.nsIn K mainGlobals "zip" = some none)
    (hCN : PySem.W.nsIn K mainGlobals "NoCall" = some (some (.ref CN)))
    (hCA : PySem.W.nsIn K mainGlobals "Auction" = some (some (.ref CA)))
    (x1 : PySem.W.excIn K CN veTail "ValueError.__new__" = true)
    (pgCA : PySem.W.plainGet K CA Str.empty = true)
    (hdCA : PySem.W.hasDictIn K CA = true)
    (poCA : PySem.W.plainOver K CA = true)
    (saCA : PySem.W.findIn K (.ref CA) "__setattr__" = some (some (.builtin "object.__setattr__")))
    (mkCA : PySem.W.makesIn K CA = true)
    (kcCA : PySem.W.keepIn K (.ref CA) = true)
    (nA1 : PySem.W.findIn K (.ref CA) "seats" = some none)
    (nA2 : PySem.W.findIn K (.ref CA) "caller" = some none)
    (nA3 : PySem.W.findIn K (.ref CA) "passes" = some none)
    (nA4 : PySem.W.findIn K (.ref CA) "bids" = some none)
    (nA5 : PySem.W.findIn K (.ref CA) "times" = some none)
    (w1 : PySem.W.nsIn K mainGlobals "WORDS" = some (some (.ref aW)))
    (w2 : K.lookup aW = some ⟨.type "tuple", wd, .seq #[.str "pass" tw1, .str "double" tw2, .str "again" tw3] wn, wsl⟩)
    (w3 : K.lookup dT = some ⟨dtc, dtd, .seq #[.int 0 tz] dtn, dts⟩)
    : ∃ fd : FuncData, (∀ (s : Shared) (v : Value), BindsTo s fd ⟨[v], []⟩ [("_law_script", v)]) ∧ ∀ base : Heap, K.In base → base.Ns mainGlobals mg → FnOk l.prog w K mg base CX0 20 fa fd ["_law_script"] (spLaw K) := by
  have e := hfa.symm.trans (PySem.W.mg_of X G a15)
  cases e
  have F1 := fun_mk (st := sReadCall) l1 c1 k1
  have b1 := F1.binds (ps := ["text"]) fun _ _ _ _ _ _ us hl => match us, hl with | [_], _ => rfl
  have m1 := PySem.W.mg_of X G a1
  have F2 := fun_mk (st := sRankOf) l2 c2 k2
  have b2 := F2.binds (ps := ["strain"]) fun _ _ _ _ _ _ us hl => match us, hl with | [_], _ => rfl
  have m2 := PySem.W.mg_of X G a2
  have F3 := fun_mk (st := sAbove) l3 c3 k3
  have b3 := F3.binds (ps := ["bid", "other"]) fun _ _ _ _ _ _ us hl => match us, hl with | [_, _], _ => rfl
  have m3 := PySem.W.mg_of X G a3
  have F4 := fun_mk (st := sSide) l4 c4 k4
  have b4 := F4.binds (ps := ["seats", "seat"]) fun _ _ _ _ _ _ us hl => match us, hl with | [_, _], _ => rfl
  have m4 := PySem.W.mg_of X G a4
  have F5 := fun_mk (st := sCell) l5 c5 k5
  have b5 := F5.binds (ps := pCell) fun _ _ _ _ _ _ us hl => match us, hl with | [_, _], _ => rfl
  have m5 := PySem.W.mg_of X G a5
  have F6 := fun_mk (st := sLText) l6 c6 k6
  have b6 := F6.binds (ps := ["_law_rank_here"]) fun _ _ _ _ _ _ us hl => match us, hl with | [_], _ => rfl
  have m6 := PySem.W.mg_of X G a6
  have F7 := fun_mk (st := sLRank) l7 c7 k7
  have b7 := F7.binds (ps := ["_law_text_here"]) fun _ _ _ _ _ _ us hl => match us, hl with | [_], _ => rfl
  have m7 := PySem.W.mg_of X G a7
  have F8 := fun_mk (st := sLOver) l8 c8 k8
  have b8 := F8.binds (ps := ["_law_calls", "_law_seats"]) fun _ _ _ _ _ _ us hl => match us, hl with | [_, _], _ => rfl
  have m8 := PySem.W.mg_of X G a8
  have F9 := fun_mk (st := sLast) l9 c9 k9
  have b9 := F9.binds (ps := ["_law_calls"]) fun _ _ _ _ _ _ us hl => match us, hl with | [_], _ => rfl
  have m9 := PySem.W.mg_of X G a9
  have F10 := fun_mk (st := sOwn2) l10 c10 k10
  have b10 := F10.binds (ps := pOwn2) fun _ _ _ _ _ _ us hl => match us, hl with | [_, _, _], _ => rfl
  have m10 := PySem.W.mg_of X G a10
  have F11 := fun_mk (st := sStands) l11 c11 k11
  have b11 := F11.binds (ps := ["_law_calls", "_law_seats", "_law_call"]) fun _ _ _ _ _ _ us hl => match us, hl with | [_, _, _], _ => rfl
  have m11 := PySem.W.mg_of X G a11
  have F12 := fun_mk (st := sDrawn) l12 c12 k12
  have b12 := F12.binds (ps := pDrawn) fun _ _ _ _ _ _ us hl => match us, hl with | [_, _, _, _], _ => rfl
  have m12 := PySem.W.mg_of X G a12
  have F13 := fun_mk (st := sDue) l13 c13 k13
  have b13 := F13.binds (ps := ["_law_calls", "_law_seats", "_law_first"]) fun _ _ _ _ _ _ us hl => match us, hl with | [_, _, _], _ => rfl
  have m13 := PySem.W.mg_of X G a13
  have F14 := fun_mk (st := sRight) l14 c14 k14
  have b14 := F14.binds (ps := ["_law_found", "_law_due_here"]) fun _ _ _ _ _ _ us hl => match us, hl with | [_, _], _ => rfl
  have m14 := PySem.W.mg_of X G a14
  have F15 := fun_mk (st := sLaw) l15 c15 k15
  have m15 := PySem.W.mg_of X G a15
  have F_I := funD_mk (st := sAuInit) l_I c_I k_I
  have m_I : Meth K CA "__init__" f_I := ⟨a_I, i_I, k_I⟩
  have F_D := fun_mk (st := sDone) l_D c_D k_D
  have b_D := F_D.binds (ps := ["self"]) fun _ _ _ _ _ _ us hl => match us, hl with | [_], _ => rfl
  have m_D : Meth K CA "is_done" f_D := ⟨a_D, i_D, k_D⟩
  have F_O := fun_mk (st := sOwn) l_O c_O k_O
  have b_O := F_O.binds (ps := ["self"]) fun _ _ _ _ _ _ us hl => match us, hl with | [_], _ => rfl
  have m_O : Meth K CA "is_own_bid" f_O := ⟨a_O, i_O, k_O⟩
  have F_X := fun_mk (st := sDbl) l_X c_X k_X
  have b_X := F_X.binds (ps := ["self"]) fun _ _ _ _ _ _ us hl => match us, hl with | [_], _ => rfl
  have m_X : Meth K CA "may_double" f_X := ⟨a_X, i_X, k_X⟩
  have F_Y := fun_mk (st := sAgn) l_Y c_Y k_Y
  have b_Y := F_Y.binds (ps := ["self"]) fun _ _ _ _ _ _ us hl => match us, hl with | [_], _ => rfl
  have m_Y : Meth K CA "may_again" f_Y := ⟨a_Y, i_Y, k_Y⟩
  have F_B := fun_mk (st := sBrk) l_B c_B k_B
  have b_B := F_B.binds (ps := ["self", "call"]) fun _ _ _ _ _ _ us hl => match us, hl with | [_, _], _ => rfl
  have m_B : Meth K CA "broken_rule" f_B := ⟨a_B, i_B, k_B⟩
  have F_S := fun_mk (st := sSay) l_S c_S k_S
  have b_S := F_S.binds (ps := ["self", "text"]) fun _ _ _ _ _ _ us hl => match us, hl with | [_, _], _ => rfl
  have m_S : Meth K CA "say" f_S := ⟨a_S, i_S, k_S⟩
  have F_N := fun_mk (st := sFirst) l_N c_N k_N
  have b_N := F_N.binds (ps := ["self", "strain", "side"]) fun _ _ _ _ _ _ us hl => match us, hl with | [_, _, _], _ => rfl
  have m_N : Meth K CA "first_to_name" f_N := ⟨a_N, i_N, k_N⟩
  have F_K := fun_mk (st := sContract) l_K c_K k_K
  have b_K := F_K.binds (ps := ["self"]) fun _ _ _ _ _ _ us hl => match us, hl with | [_], _ => rfl
  have m_K : Meth K CA "contract" f_K := ⟨a_K, i_K, k_K⟩
  have mg1 := PySem.W.mg_of X G g1
  have mg2 := PySem.W.mg_of X G g2
  have mg3 := PySem.W.mg_of X G g3
  have mn_len := PySem.W.mg_none_of X G z1
  have mn_isinstance := PySem.W.mg_none_of X G z2
  have mn_str := PySem.W.mg_none_of X G z3
  have mn_tuple := PySem.W.mg_none_of X G z4
  have mn_enumerate := PySem.W.mg_none_of X G z5
  have mn_min := PySem.W.mg_none_of X G z6
  have mn_int := PySem.W.mg_none_of X G z7
  have mn_bool := PySem.W.mg_none_of X G z8
  have mn_range := PySem.W.mg_none_of X G z9
  have mn_zip := PySem.W.mg_none_of X G z10
  refine ⟨PySem.W.fnOf "law" "law" (defArgs sLaw) (defBody sLaw) (defScope sLaw) .none kV15 dc15 pm15 an15 cd15 ct15, fun s v => .of_eq rfl, fun base _ _ => ?_⟩
  have mN := PySem.W.mg_of X G hCN
  have C : AuC K mg CA := ⟨⟨pgCA, hdCA, poCA, saCA⟩, PySem.W.mg_of X G hCA, nA1, nA2, nA3, nA4, nA5⟩
  have hW : ∀ H, SqT K H aW (vS W3) := fun H => .inr ⟨_, _, _, w2, rfl, rfl, fits3 3 (by decide), .cons ⟨_, rfl⟩ (.cons ⟨_, rfl⟩ (.cons ⟨_, rfl⟩ .nil))⟩
  have LR : ∀ k, LibX l.prog w K mg base (k + 1) "read_call" ["text"] (spReadCall K CN) f1 _ := fun k => ⟨ok_readCall F1 mg2 mg1 mg3 (PySem.W.mg_of X G w1) hW mN x1 mn_isinstance mn_str mn_len, b1, k1, m1⟩
  have LA : ∀ k, Lib l.prog w K mg base (k + 2) "above" ["bid", "other"] (spAbove K) f3 _ := fun k => ⟨ok_above (k := k + 1) F3 ⟨ok_rankOf F2 mg3, b2, k2, m2⟩, b3, k3, m3⟩
  have LSd : ∀ k, Lib l.prog w K mg base (k + 1) "side_of" ["seats", "seat"] spSide f4 _ := fun k => ⟨ok_side F4, b4, k4, m4⟩
  have B0 : Binds K _ ["self", "seats", "first"] [] := fun s us hX hl => match us, hl with | [_, _, _], _ => by first | exact .of_eq rfl | exact PySem.W.binds_K (fd := PySem.W.fnOf "__init__" "Auction.__init__" (defArgs sAuInit) (defBody sAuInit) (defScope sAuInit) (.ref dT) kV_I dc_I pm_I an_I cd_I ct_I) hX rfl w3 rfl rfl rfl
  have FD : ∀ k, FnOk l.prog w K mg base CX0 (k + 1) f_D _ ["self"] (spDone CA) := fun k => ok_done F_D C mn_len
  have FO : ∀ k, FnOk l.prog w K mg base CX0 (k + 2) f_O _ ["self"] (spOwn CA) := fun k => ok_own (k := k + 1) F_O C (LSd k)
  have FX : ∀ k, FnOk l.prog w K mg base CX0 (k + 3) f_X _ ["self"] (spMayD CA 1 false) := fun k => ok_dbl (k := k + 2) F_X C m_O (FO k) b_O mn_len
  have FY : ∀ k, FnOk l.prog w K mg base CX0 (k + 3) f_Y _ ["self"] (spMayD CA 2 true) := fun k => ok_agn (k := k + 2) F_Y C m_O (FO k) b_O mn_len
  have FB : ∀ k, FnOk l.prog w K mg base CX0 (k + 4) f_B _ ["self", "call"] (spBrk CA) := fun k => ok_brk (k := k + 3) F_B C m_D (FD (k + 2)) b_D m_X (FX k) b_X m_Y (FY k) b_Y (LA (k + 1)) mn_len mn_isinstance mn_tuple
  have LC : ∀ k, Lib l.prog w K mg base (k + 1) "_law_cell" pCell (spCell K) f5 _ := fun k => ⟨ok_cell F5 mn_len, b5, k5, m5⟩
  have LT : ∀ k, Lib l.prog w K mg base (k + 1) "_law_text" ["_law_rank_here"] spLText f6 _ := fun k => ⟨ok_ltext F6, b6, k6, m6⟩
  have LK : ∀ k, Lib l.prog w K mg base (k + 1) "_law_rank" ["_law_text_here"] spLRank f7 _ := fun k => ⟨ok_lrank F7, b7, k7, m7⟩
  have LO : ∀ k, Lib l.prog w K mg base (k + 1) "_law_over" ["_law_calls", "_law_seats"] (spLOver K) f8 _ := fun k => ⟨ok_lover F8 mn_len, b8, k8, m8⟩
  have LL : ∀ k, Lib l.prog w K mg base (k + 1) "_law_last" ["_law_calls"] (spLast K) f9 _ := fun k => ⟨ok_last F9 mn_enumerate, b9, k9, m9⟩
  have FS : FnOk l.prog w K mg base CX0 19 f_S _ ["self", "text"] (spSay CA) := ok_say (k := 18) F_S C m_B (FB 14) b_B (LR 17) mn_isinstance mn_tuple
  have FC : FnOk l.prog w K mg base CX0 19 f_K _ ["self"] (spCon CA) := ok_con (k := 18) F_K C (LSd 17) m_N (ok_first (k := 17) F_N C (LSd 16)) b_N mn_len
  have LW : ∀ k, Lib l.prog w K mg base (k + 1) "_law_own" pOwn2 spOwn2 f10 _ := fun k => ⟨ok_own2 F10, b10, k10, m10⟩
  exact ok_law (k := 18) F15 C (LC 18) ⟨ok_right F14 mn_isinstance mn_tuple mn_int mn_bool mn_len mn_zip, b14, k14, m14⟩ ⟨ok_due (k := 18) F13 (LL 17) (LK 17) (LW 17) mn_enumerate, b13, k13, m13⟩ ⟨ok_drawn (k := 18) F12 (LC 17) (LL 17) (LK 17) (LT 17) mn_min, b12, k12, m12⟩ ⟨ok_stands (k := 18) F11 (LL 17) (LO 17) (LK 17) (LW 17) mn_len, b11, k11, m11⟩
    ⟨mkCA, a_I, i_I, kcCA⟩ (ok_auInit (k := 17) F_I C) B0 m_S FS b_S m_K FC b_K mn_range mn_len
theorem walk {l : PySem.W.OpenLaw} {q : Program} {loose : List Str} {XP : (Str → Option Value) → Heap → Prop} {YP : World → Heap → Prop} {d : DefRec} {K : Params → PySem.W.Frag} (hn : l.most = some 63) (hdf : d.params.defaults = [])
    (hY : ∀ (w : World) (h : Heap), YP w h → (K w.params).In h)
    (F : ∀ (w : World) (mg : Str → Option Value) (fa : Addr) (h : Heap), (K w.params).In h → h.Ns mainGlobals mg → mg d.name = some (.ref fa) →
      ∃ fd : FuncData, (∀ (s : Shared) (u : Value), BindsTo s fd ⟨[u], []⟩ [("_law_script", u)]) ∧ ∀ base : Heap, (K w.params).In base → base.Ns mainGlobals mg → FnOk l.prog w (K w.params) mg base CX0 20 fa fd ["_law_script"] (spLaw (K w.params))) :
    PySem.W.WalkO q loose XP YP l.row.toRowW d [] (fun f vs => PySem.call f vs) :=
  L2.walk_of (n := 63) (k := 20) (x := "_law_script") (CX := fun _ => CX0) (sp := fun w => spLaw (K w.params)) hn (by decide) hdf ⟨rfl, by decide, by decide⟩ hY F (fun _ _ a ns hl _ hS => ⟨a, ns, rfl, hS, hl, fun _ => rfl⟩) fun _ _ _ _ _ z => z
end My
namespace PySem.W.Fast
theorem tw590639764948363478 : True := trivial
theorem tw13548699598664267052 : True := trivial
theorem tw11793486369478570941 : True := trivial
theorem tw1487594679278809121 : True := trivial
theorem tw4228922744219789137 : True := trivial
theorem tw5614695790905996341 : True := trivial
theorem tw4434668176742025908 : True := trivial
theorem tw8739106973507245745 : True := trivial
theorem tw7951758698708974808 : True := trivial
theorem tw710409789502701387 : True := trivial
theorem tw6870253059931439476 : True := trivial
theorem tw16377725717678235602 : True := trivial
theorem tw10924670286738725577 : True := trivial
theorem tw2347490473112828905 : True := trivial
theorem tw7504483643517051174 : True := trivial
theorem tw10421595420682063639 : True := trivial
theorem tw14630566580058657802 : True := trivial
theorem tw16463439726703544514 : True := trivial
theorem tw6667390134463869120 : True := trivial
theorem tw2430109820554837258 : True := trivial
theorem tw15900957134011664909 : True := trivial
theorem tw5686671556240079109 : True := trivial
theorem tw16075940960931138498 : True := trivial
theorem tw14117876158915223227 : True := trivial
theorem tw11175456268616516315 : True := trivial
theorem tw5381132100971836012 : True := trivial
theorem tw9044533051173151625 : True := trivial
theorem tw14094211230658088342 : True := trivial
theorem tw6463605997292149602 : True := trivial
theorem tw3201268881808477236 : True := trivial
theorem tw14934516113818104096 : True := trivial
theorem tw16507757535392604837 : True := trivial
theorem tw749437404811184145 : True := trivial
theorem tw6739972086099721727 : True := trivial
theorem tw8545961682467638133 : True := trivial
theorem tw10415013450279412408 : True := trivial
theorem tw14954950329312341847 : True := trivial
theorem tw3986913929496110596 : True := trivial
theorem tw3348893031702964379 : True := trivial
theorem tw1948576663013428298 : True := trivial
theorem tw728824439924735928 : True := trivial
theorem tw5003155132966538134 : True := trivial
theorem tw1937511371020502554 : True := trivial
theorem tw8144272634733774059 : True := trivial
theorem tw9315733683765948537 : True := trivial
theorem tw14879223777969411185 : True := trivial
theorem tw7109051582603017796 : True := trivial
theorem tw9618788662447699762 : True := trivial
theorem tw14125816710764171276 : True := trivial
theorem tw6544678480722192109 : True := trivial
theorem tw7043036934364096583 : True := trivial
theorem tw5420098734369781980 : True := trivial
theorem tw8594849241320805320 : True := trivial
theorem tw1011678310823606019 : True := trivial
theorem tw12141579970905950443 : True := trivial
theorem tw3033152117671660744 : True := trivial
theorem tw729039519128889886 : True := trivial
theorem tw13083193335985643010 : True := trivial
theorem tw6943203099887189733 : True := trivial
theorem tw1705316701304397670 : True := trivial
theorem tw1000541708985221693 : True := trivial
theorem tw13998290904633585611 : True := trivial
theorem tw15546343285965745653 : True := trivial
theorem tw3065069994702862561 : True := trivial
theorem tw15158845855414619348 : True := trivial
theorem tw17346163959366152360 : True := trivial
theorem tw129491107992384497 : True := trivial
theorem tw2331925875647070017 : True := trivial
theorem tw7753663404176638140 : True := trivial
theorem tw8460319997042911936 : True := trivial
theorem tw12227552658307854434 : True := trivial
theorem tw15044085160984740968 : True := trivial
theorem tw2808795413568407341 : True := trivial
theorem tw16796084426858027370 : True := trivial
theorem tw14546145718335303864 : True := trivial
theorem tw9435574354428764824 : True := trivial
theorem tw3060709797796228564 : True := trivial
theorem tw9181763105513939611 : True := trivial
theorem tw6214186857303454317 : True := trivial
theorem tw2980062155617453120 : True := trivial
theorem tw3077267422227257792 : True := trivial
theorem tw6297835115669873738 : True := trivial
theorem tw1098453819209378673 : True := trivial
theorem tw17257842208913441473 : True := trivial
theorem tw15937902561691950852 : True := trivial
theorem tw15434493737387994475 : True := trivial
theorem tw16436545025609338870 : True := trivial
theorem tw17845513104268373149 : True := trivial
theorem tw13685490114735198027 : True := trivial
theorem tw4895509489428747647 : True := trivial
theorem tw4371087382091969218 : True := trivial
theorem tw10794528133159133656 : True := trivial
theorem tw10238184606715655258 : True := trivial
theorem tw13940814222693848824 : True := trivial
theorem tw1969712345886847818 : True := trivial
theorem tw16455016664840899243 : True := trivial
theorem tw16711009617860406672 : True := trivial
theorem tw1999345991177958264 : True := trivial
theorem tw87382407006492716 : True := trivial
theorem tw5606552927139756270 : True := trivial
theorem tw11397582913149943393 : True := trivial
theorem tw8723300046933797045 : True := trivial
theorem tw3350752164713000700 : True := trivial
theorem tw5804726150728372351 : True := trivial
theorem tw15024463613279021690 : True := trivial
theorem tw2162306419178966605 : True := trivial
theorem tw12782950839757005563 : True := trivial
theorem tw16141856080429886131 : True := trivial
theorem tw1750490666122679213 : True := trivial
theorem tw11372814439217292895 : True := trivial
theorem tw407217161749437091 : True := trivial
theorem tw1095417529367447759 : True := trivial
theorem tw1411310411578316925 : True := trivial
theorem tw961536474747583778 : True := trivial
theorem tw6563651800873210082 : True := trivial
theorem tw15329736469482351558 : True := trivial
theorem tw6668876585729672322 : True := trivial
theorem tw18395428458957000105 : True := trivial
theorem tw3451911545219099753 : True := trivial
theorem tw18308556405777965427 : True := trivial
theorem tw171818563546062788 : True := trivial
theorem tw1537801758871866943 : True := trivial
theorem tw7932828636986941162 : True := trivial
theorem tw860114287165566815 : True := trivial
theorem tw1262445023493556124 : True := trivial
theorem tw11206244301460562112 : True := trivial
theorem tw5851568312373225023 : True := trivial
theorem tw11405294289175922563 : True := trivial
theorem tw347438100373351786 : True := trivial
theorem tw1168225192175073453 : True := trivial
theorem tw2948198661799452947 : True := trivial
theorem tw15689916826307756611 : True := trivial
theorem tw18202248458920153615 : True := trivial
theorem tw11912228284342948193 : True := trivial
theorem tw8526779574949844280 : True := trivial
theorem tw9187651101603007898 : True := trivial
theorem tw12918727051737802702 : True := trivial
theorem tw10508103398415728448 : True := trivial
theorem tw2399561778523828784 : True := trivial
theorem tw15983125747265080857 : True := trivial
theorem tw15669950327620097076 : True := trivial
theorem tw14765571451334215713 : True := trivial
theorem tw3871005981987428506 : True := trivial
theorem tw1454125520300099283 : True := trivial
theorem tw3867628061887709823 : True := trivial
theorem tw9100873762154173075 : True := trivial
theorem tw15616439911935491647 : True := trivial
theorem tw11774780699631004473 : True := trivial
theorem tw9741883000719711630 : True := trivial
theorem tw5703957884895457284 : True := trivial
theorem tw16002817154347925703 : True := trivial
theorem tw1556639409685881320 : True := trivial
theorem tw13541427851111829734 : True := trivial
theorem tw3289864297085783140 : True := trivial
theorem tw2069729991229585582 : True := trivial
theorem tw12601140648111174497 : True := trivial
theorem tw7649045536034541801 : True := trivial
theorem tw11569989141477580699 : True := trivial
theorem tw14189087262735270452 : True := trivial
theorem tw6222773795654562239 : True := trivial
theorem tw11694163175463116121 : True := trivial
theorem tw8948249658369830377 : True := trivial
theorem tw16059845563419968421 : True := trivial
theorem tw16700333844094322231 : True := trivial
theorem tw18347034419792706703 : True := trivial
theorem tw8891778292722165984 : True := trivial
theorem tw5457169594693847032 : True := trivial
theorem tw5811344605029606398 : True := trivial
theorem tw851627799000466146 : True := trivial
theorem tw10601884039651009109 : True := trivial
theorem tw2324012522715134953 : True := trivial
theorem tw1185199729216488166 : True := trivial
theorem tw16104415593384575608 : True := trivial
theorem tw9440689407028052232 : True := trivial
theorem tw5437907403123973153 : True := trivial
theorem tw16660037777949700595 : True := trivial
theorem tw17108738218495338124 : True := trivial
theorem tw15240017501994285577 : True := trivial
theorem tw11557804823011278883 : True := trivial
theorem tw9984462510646022313 : True := trivial
theorem tw13229097016352052444 : True := trivial
theorem tw4836022143175112452 : True := trivial
theorem tw5809923045202743464 : True := trivial
theorem tw17731159200755176913 : True := trivial
theorem tw5545341765265472114 : True := trivial
theorem tw6222136913936101774 : True := trivial
theorem tw10340585693354957251 : True := trivial
theorem tw12616923567250172829 : True := trivial
theorem tw17576123393444573697 : True := trivial
theorem tw516270430200390272 : True := trivial
theorem tw14836806344875112000 : True := trivial
theorem tw7467943143017882594 : True := trivial
theorem tw5867535148563968892 : True := trivial
theorem tw4571610318681860274 : True := trivial
theorem tw8093530566374841871 : True := trivial
theorem tw11250170887563216921 : True := trivial
theorem tw18103614757891742738 : True := trivial
theorem tw6440873919475155491 : True := trivial
theorem tw13461501639961560780 : True := trivial
theorem tw13764525380693588837 : True := trivial
theorem tw637002512497120634 : True := trivial
theorem tw9152298721114756931 : True := trivial
theorem tw10805636024440424757 : True := trivial
theorem tw2091839665306701351 : True := trivial
theorem tw1722503133439940695 : True := trivial
theorem tw908915206827488593 : True := trivial
theorem tw4308901500931209716 : True := trivial
theorem tw6932934620472312923 : True := trivial
theorem tw11412288844192152418 : True := trivial
theorem tw5564586756314237583 : True := trivial
theorem tw14278574587381543460 : True := trivial
theorem tw18197309309794974275 : True := trivial
theorem tw11841232478895465858 : True := trivial
theorem tw3830447334166932946 : True := trivial
theorem tw13768598415108514071 : True := trivial
theorem tw16660893680167993318 : True := trivial
theorem tw2153270848701913784 : True := trivial
theorem tw18145989890231960362 : True := trivial
theorem tw12605915386760569177 : True := trivial
theorem tw10078931538037083994 : True := trivial
theorem tw3033675844568231526 : True := trivial
theorem tw13316884792489394099 : True := trivial
theorem tw2149914998884880406 : True := trivial
theorem tw13407237778542473246 : True := trivial
theorem tw7943282718765366254 : True := trivial
theorem tw12780854629457845450 : True := trivial
theorem tw17014698367162631615 : True := trivial
theorem tw1691761342944400074 : True := trivial
theorem tw6344357019461546857 : True := trivial
theorem tw11517379110586797613 : True := trivial
theorem tw18382793313546306913 : True := trivial
theorem tw15775448625773028747 : True := trivial
theorem tw5925222323972933050 : True := trivial
theorem tw1029574859945027298 : True := trivial
theorem tw6001622200800780806 : True := trivial
theorem tw12983591045536079922 : True := trivial
theorem tw14895081402726526716 : True := trivial
theorem tw779024299363628048 : True := trivial
theorem tw13762946232824547806 : True := trivial
theorem tw11145709676569457126 : True := trivial
theorem tw15025284131099009552 : True := trivial
theorem tw7588426312959676225 : True := trivial
theorem tw7135539770576212577 : True := trivial
theorem tw16980485956890740217 : True := trivial
theorem tw17834091860939422557 : True := trivial
theorem tw12818280727848849274 : True := trivial
theorem tw6554668374819415724 : True := trivial
theorem tw15900186318364739637 : True := trivial
theorem tw1765555458373901695 : True := trivial
theorem tw12518691120026557331 : True := trivial
theorem tw4454493554948449750 : True := trivial
theorem tw2236934007990943775 : True := trivial
theorem tw3949842446125306322 : True := trivial
theorem tw18271931167733538647 : True := trivial
theorem tw15409874525561564415 : True := trivial
theorem tw2966018378558618577 : True := trivial
theorem tw17023783977145006042 : True := trivial
theorem tw14248490757963578321 : True := trivial
theorem tw13902971665831983027 : True := trivial
theorem tw13100296201325659782 : True := trivial
theorem tw6366346197901187408 : True := trivial
theorem tw6632002161682443292 : True := trivial
theorem tw3346519787426219369 : True := trivial
theorem tw2025562401845135928 : True := trivial
theorem tw12837258517545233048 : True := trivial
theorem tw2181020902359740581 : True := trivial
theorem tw515623138831562769 : True := trivial
theorem tw3348190412130527660 : True := trivial
theorem tw10305959023224150373 : True := trivial
theorem tw6645394287580784857 : True := trivial
theorem tw16151127966087910657 : True := trivial
theorem tw2346246485294244070 : True := trivial
theorem tw7059555592815382321 : True := trivial
theorem tw2893215069244477257 : True := trivial
theorem tw5145004741933716064 : True := trivial
theorem tw16412954791026071533 : True := trivial
theorem tw16251348480591182190 : True := trivial
theorem tw15431871778247663514 : True := trivial
theorem tw10601853984687577955 : True := trivial
theorem tw4614376217351029340 : True := trivial
theorem tw2936175452811698268 : True := trivial
theorem tw11566484601667526555 : True := trivial
theorem tw676401521207014972 : True := trivial
theorem tw14873985278086138103 : True := trivial
theorem tw3441294741554068082 : True := trivial
theorem tw233596171799143979 : True := trivial
theorem tw3018622811503239450 : True := trivial
theorem tw17185198657568067145 : True := trivial
theorem tw4613412827418968235 : True := trivial
theorem tw17767820624985623577 : True := trivial
theorem tw13642476001623422613 : True := trivial
theorem tw7488167880361070417 : True := trivial
theorem tw4576804302453178324 : True := trivial
theorem tw1791218924273525473 : True := trivial
theorem tw7058717987210602691 : True := trivial
theorem tw51236330884108364 : True := trivial
theorem tw45646799908042495 : True := trivial
theorem tw2215458365901783561 : True := trivial
theorem tw7247457872840523326 : True := trivial
theorem tw18182698708128197270 : True := trivial
theorem tw2378141838513344576 : True := trivial
theorem tw4014614842774475275 : True := trivial
theorem tw557541497462592919 : True := trivial
theorem tw3848509873216717954 : True := trivial
theorem tw6166580188491313053 : True := trivial
theorem tw11230616274393178316 : True := trivial
theorem tw2282883842701212958 : True := trivial
theorem tw3203976979687947815 : True := trivial
theorem tw15384756606135595163 : True := trivial
theorem tw16244617913817814404 : True := trivial
theorem tw2878322225205526192 : True := trivial
theorem tw17452416852674779021 : True := trivial
theorem tw17290113325459729421 : True := trivial
theorem tw13112907527684133979 : True := trivial
theorem tw1337431644893071366 : True := trivial
theorem tw18180945977510742792 : True := trivial
theorem tw6832252972466130588 : True := trivial
theorem tw11995881711981811226 : True := trivial
theorem tw5942730561338607080 : True := trivial
theorem tw1880916178867920838 : True := trivial
theorem tw8594701623908988281 : True := trivial
theorem tw10568977616207617365 : True := trivial
theorem tw11324003431732411617 : True := trivial
theorem tw14631509133242871706 : True := trivial
theorem tw9932798464381391273 : True := trivial
theorem tw14570676069200127287 : True := trivial
theorem tw7208098496943872871 : True := trivial
theorem tw5491114974635077986 : True := trivial
theorem tw16190602014347901483 : True := trivial
theorem tw1640490580041168485 : True := trivial
theorem tw3687766145236179382 : True := trivial
theorem tw2738256142821665180 : True := trivial
theorem tw10671811473973803784 : True := trivial
theorem tw5015380816830315816 : True := trivial
theorem tw12892688074265894834 : True := trivial
theorem tw17920174293329289504 : True := trivial
theorem tw204502708437670634 : True := trivial
theorem tw16189058200930731823 : True := trivial
theorem tw14852641461531062087 : True := trivial
theorem tw15979845811455459510 : True := trivial
theorem tw17539572080930511656 : True := trivial
theorem tw8952762650617499948 : True := trivial
theorem tw4995295004115118991 : True := trivial
theorem tw17163527537901876463 : True := trivial
theorem tw10439381930163449951 : True := trivial
theorem tw12116780122603443039 : True := trivial
theorem tw12334978186739590377 : True := trivial
theorem tw15400490147214040611 : True := trivial
theorem tw5571800387927357838 : True := trivial
theorem tw1753647807548277207 : True := trivial
theorem tw16031112247654380614 : True := trivial
theorem tw16658628973394180797 : True := trivial
theorem tw6994646411161624343 : True := trivial
theorem tw2526845625781593554 : True := trivial
theorem tw4944190009089698124 : True := trivial
theorem tw12317414942019235886 : True := trivial
theorem tw9732049844664484259 : True := trivial
theorem tw16960221455648485295 : True := trivial
theorem tw16359063444479501597 : True := trivial
theorem tw13914028293125573698 : True := trivial
theorem tw8941053934931873318 : True := trivial
theorem tw2990543339424301331 : True := trivial
theorem tw13498252395287265322 : True := trivial
theorem tw9873263072234035420 : True := trivial
theorem tw10728417893202183125 : True := trivial
theorem tw13110625564187585203 : True := trivial
theorem tw15251377375874485275 : True := trivial
theorem tw17056082440890621331 : True := trivial
theorem tw6656184835375402543 : True := trivial
theorem tw17985003722937399581 : True := trivial
theorem tw10423573045681515276 : True := trivial
theorem tw12613352832758503742 : True := trivial
theorem tw9394934452947299159 : True := trivial
theorem tw18419590942440905110 : True := trivial
theorem tw6532196133506463100 : True := trivial
theorem tw1730084173497552579 : True := trivial
theorem tw16765823077550421946 : True := trivial
theorem tw10376647418841541077 : True := trivial
theorem tw2177114009462919931 : True := trivial
theorem tw346954906173667440 : True := trivial
theorem tw11986213782068807052 : True := trivial
theorem tw10997258521105326878 : True := trivial
theorem tw984919595691882757 : True := trivial
theorem tw6218749482165894412 : True := trivial
theorem tw4576973774150318726 : True := trivial
theorem tw16048762668849123083 : True := trivial
theorem tw6500384939162270958 : True := trivial
theorem tw2631114305406007890 : True := trivial
theorem tw10955991431208088850 : True := trivial
theorem tw14207945174103820902 : True := trivial
theorem tw6875745979644928343 : True := trivial
theorem tw5742840137243713221 : True := trivial
theorem tw8918710762254109712 : True := trivial
theorem tw12144776417317599388 : True := trivial
theorem tw11215775609769311508 : True := trivial
theorem tw8948244287846233853 : True := trivial
theorem tw4227487346959615418 : True := trivial
theorem tw9883128308067939541 : True := trivial
theorem tw14994499463282576926 : True := trivial
theorem tw791977901044017365 : True := trivial
theorem tw9385253494730626082 : True := trivial
theorem tw9456456727155406832 : True := trivial
theorem tw16961780943203078162 : True := trivial
theorem tw15053078570052161592 : True := trivial
theorem tw397272309496677974 : True := trivial
theorem tw9345188992111562036 : True := trivial
theorem tw15853671947596079001 : True := trivial
theorem tw1903128429704954483 : True := trivial
theorem tw2945249553547077101 : True := trivial
theorem tw890701041092008004 : True := trivial
theorem tw13589851322856494244 : True := trivial
theorem tw10609404990315351328 : True := trivial
theorem tw14865673542140256399 : True := trivial
theorem tw8793183246179511326 : True := trivial
theorem tw1123767997160403126 : True := trivial
theorem tw16749660854445112543 : True := trivial
theorem tw5903488899229108906 : True := trivial
theorem tw3508438087420638641 : True := trivial
theorem tw8653473920457230011 : True := trivial
theorem tw7985916691517057016 : True := trivial
theorem tw11975106883471418532 : True := trivial
theorem tw11985336964064972231 : True := trivial
theorem tw7057188983247305207 : True := trivial
theorem tw894435643121615637 : True := trivial
theorem tw13671373722153411358 : True := trivial
theorem tw10869703215434068809 : True := trivial
theorem tw14781976274002088912 : True := trivial
theorem tw3056306142169145523 : True := trivial
theorem tw1570438230341153955 : True := trivial
theorem tw8375258654383654738 : True := trivial
theorem tw6063847903086382202 : True := trivial
theorem tw944549390045319690 : True := trivial
theorem tw9997012744200415734 : True := trivial
theorem tw16536209435933023458 : True := trivial
theorem tw7903268054150924399 : True := trivial
theorem tw17497173229940380956 : True := trivial
theorem tw12979050646301577365 : True := trivial
theorem tw25534632879388744 : True := trivial
theorem tw16172652400765890162 : True := trivial
theorem tw2044665561119990904 : True := trivial
theorem tw7418269992038745984 : True := trivial
theorem tw6758969796532807689 : True := trivial
theorem tw4119329161930278360 : True := trivial
theorem tw9734382050187486845 : True := trivial
theorem tw5035964093250852896 : True := trivial
theorem tw10761882103530960555 : True := trivial
theorem tw12337526468614730624 : True := trivial
theorem tw13983575093164378039 : True := trivial
theorem tw14494478974680328843 : True := trivial
theorem tw15295259403080654150 : True := trivial
theorem tw16077073345858916841 : True := trivial
theorem tw9302695224035293331 : True := trivial
theorem tw12957090608191107943 : True := trivial
theorem tw1654597961508370365 : True := trivial
theorem tw17601087996235567848 : True := trivial
theorem tw1685096617945902885 : True := trivial
theorem tw17125492099496304722 : True := trivial
theorem tw17377467869974585159 : True := trivial
theorem tw16085832473769329665 : True := trivial
theorem tw11936563721330669227 : True := trivial
theorem tw13904754936878229987 : True := trivial
theorem tw13280320712636702523 : True := trivial
theorem tw13110679201994908763 : True := trivial
theorem tw10706708259748718990 : True := trivial
theorem tw5101409305550192658 : True := trivial
theorem tw5188780655475153591 : True := trivial
theorem tw17774572257270514833 : True := trivial
theorem tw10468694130152020640 : True := trivial
theorem tw12800430994827017993 : True := trivial
theorem tw6776069107475268722 : True := trivial
theorem tw5452221474675756121 : True := trivial
theorem tw15158269717399263671 : True := trivial
theorem tw11073075272125073798 : True := trivial
theorem tw4194208372446151813 : True := trivial
theorem tw2104796864637848803 : True := trivial
theorem tw510072825389952380 : True := trivial
theorem tw6251009501946771547 : True := trivial
theorem tw10938625432555768222 : True := trivial
theorem tw10326827647725563497 : True := trivial
theorem tw13893148142753874213 : True := trivial
theorem tw14235781373824796501 : True := trivial
theorem tw7370474587074877135 : True := trivial
theorem tw3747753502713515727 : True := trivial
theorem tw1597302931109949308 : True := trivial
theorem tw1623576312743379136 : True := trivial
theorem tw15294944375570330316 : True := trivial
theorem tw13650242294005915871 : True := trivial
theorem tw18158320167062048850 : True := trivial
theorem tw16910987341119311900 : True := trivial
theorem tw17679634208185719542 : True := trivial
theorem tw15472784031530028700 : True := trivial
theorem tw4186860538114102736 : True := trivial
theorem tw13075131645513495456 : True := trivial
theorem tw10046481159050884142 : True := trivial
theorem tw11672280343512509407 : True := trivial
theorem tw11060107539096727870 : True := trivial
theorem tw9824827560050714097 : True := trivial
theorem tw8271702865159501006 : True := trivial
theorem tw41640409575114373 : True := trivial
theorem tw13355302982633516506 : True := trivial
theorem tw9691745690397323499 : True := trivial
theorem tw111488263823088374 : True := trivial
theorem tw14007034892125434903 : True := trivial
theorem tw1056627517873119352 : True := trivial
theorem tw18089443698107515224 : True := trivial
theorem tw2700879843162718473 : True := trivial
theorem tw13754026609327200738 : True := trivial
theorem tw6349642871452143158 : True := trivial
theorem tw2799252618825477122 : True := trivial
theorem tw5742318173672788456 : True := trivial
theorem tw15118280366383675188 : True := trivial
theorem tw8656063687535662727 : True := trivial
theorem tw2784982780905411306 : True := trivial
theorem tw17453592645442888444 : True := trivial
theorem tw459519569305498862 : True := trivial
theorem tw14008523155174710932 : True := trivial
theorem tw3095466787968361181 : True := trivial
theorem tw11674568353046362052 : True := trivial
theorem tw10069846941492241994 : True := trivial
theorem tw6716273359701814424 : True := trivial
theorem tw14173841691794405259 : True := trivial
theorem tw17631846106527706167 : True := trivial
theorem tw8456705835505692867 : True := trivial
theorem tw3160658857322717893 : True := trivial
theorem tw4248575493276213207 : True := trivial
theorem tw719848482581897783 : True := trivial
theorem tw6697982086379151050 : True := trivial
theorem tw2105842610740772587 : True := trivial
theorem tw4391579673070929323 : True := trivial
theorem tw4536161181640039469 : True := trivial
theorem tw2765763154913334763 : True := trivial
theorem tw2237209668232990196 : True := trivial
theorem tw16430884165583826407 : True := trivial
theorem tw13223790229974199570 : True := trivial
theorem tw7299094879261179667 : True := trivial
theorem tw17025308741354818110 : True := trivial
theorem tw2277546928414280245 : True := trivial
theorem tw17764914358507139997 : True := trivial
theorem tw6746359370380675963 : True := trivial
theorem tw15656342699870992874 : True := trivial
theorem tw1016359383784863321 : True := trivial
theorem tw7588584816555436668 : True := trivial
theorem tw9094140616887798494 : True := trivial
theorem tw6051399509314771099 : True := trivial
theorem tw5114856589854093884 : True := trivial
theorem tw9626815403831948419 : True := trivial
theorem tw4613867692568576936 : True := trivial
theorem tw17237795713949364955 : True := trivial
theorem tw15927193868346207051 : True := trivial
theorem tw922062370872110668 : True := trivial
theorem tw785885834964629983 : True := trivial
theorem tw9005132729268952306 : True := trivial
theorem tw8004990133161477751 : True := trivial
theorem tw5915278728982104773 : True := trivial
theorem tw10867452091860166350 : True := trivial
theorem tw3033155712608543706 : True := trivial
theorem tw12201894536956225589 : True := trivial
theorem tw13876733692608384452 : True := trivial
theorem tw11535128700309099531 : True := trivial
theorem tw7265416024399368789 : True := trivial
theorem tw17258048750423344163 : True := trivial
theorem tw854379923287066402 : True := trivial
theorem tw8092263802881391554 : True := trivial
theorem tw1860879492274359148 : True := trivial
theorem tw18254994330963390689 : True := trivial
theorem tw15514664252342154623 : True := trivial
theorem tw15370312676864874225 : True := trivial
theorem tw17147951650170492975 : True := trivial
theorem tw17205406574445409586 : True := trivial
theorem tw15732514756474904025 : True := trivial
theorem tw8362845983682341619 : True := trivial
theorem tw823335663801603526 : True := trivial
theorem tw12151057021157064625 : True := trivial
theorem tw10943892095474585988 : True := trivial
theorem tw5334140442186818674 : True := trivial
theorem tw1817217540067532671 : True := trivial
theorem tw7267001818828638781 : True := trivial
theorem tw6823777520850302148 : True := trivial
theorem tw17792901564550966361 : True := trivial
theorem tw482049340348415761 : True := trivial
theorem tw243707311973462102 : True := trivial
theorem tw10944809052040533891 : True := trivial
theorem tw13563197240707596168 : True := trivial
theorem tw1265519046003615271 : True := trivial
theorem tw1770135242479570906 : True := trivial
theorem tw9568913827359987407 : True := trivial
theorem tw18429594556313503106 : True := trivial
theorem tw13451531491759060069 : True := trivial
theorem tw371723998951913839 : True := trivial
theorem tw9506427477840213936 : True := trivial
theorem tw5249860146043926573 : True := trivial
theorem tw4414394571317198398 : True := trivial
theorem tw12617190698353472095 : True := trivial
theorem tw13703674037497143622 : True := trivial
theorem tw10717113452943075260 : True := trivial
theorem tw869780917438812814 : True := trivial
theorem tw5503757969410864908 : True := trivial
theorem tw7053677829470241041 : True := trivial
theorem tw18116462232783231034 : True := trivial
theorem tw837423894547515212 : True := trivial
theorem tw13073129775840063564 : True := trivial
theorem tw2038767462882063445 : True := trivial
theorem tw8252801277221633805 : True := trivial
theorem tw2103755169498526460 : True := trivial
theorem tw13014946845124902353 : True := trivial
theorem tw15550504643340562463 : True := trivial
theorem tw2627639488498703671 : True := trivial
theorem tw6391218825137260950 : True := trivial
theorem tw18215626731973975988 : True := trivial
theorem tw17330401984159919935 : True := trivial
theorem tw14266815223152558828 : True := trivial
theorem tw6112473202269878389 : True := trivial
theorem tw13704411899099320453 : True := trivial
theorem tw12386810538125679189 : True := trivial
theorem tw3743706390984207858 : True := trivial
theorem tw17840961682837232224 : True := trivial
theorem tw6387298343318294814 : True := trivial
theorem tw14684408349923125678 : True := trivial
theorem tw13327489882958809448 : True := trivial
theorem tw2934208499425700146 : True := trivial
theorem tw10734091840872731900 : True := trivial
theorem tw4952202300165842604 : True := trivial
theorem tw17562280455063301531 : True := trivial
theorem tw13119774223693445393 : True := trivial
theorem tw15613653528694779091 : True := trivial
theorem tw1065981945046374836 : True := trivial
theorem tw15403635098221436030 : True := trivial
theorem tw12437553841552287910 : True := trivial
theorem tw789976506782287299 : True := trivial
theorem tw14031697060785802797 : True := trivial
theorem tw12649360451725337857 : True := trivial
theorem tw6149708473089948803 : True := trivial
theorem tw1185448567997628204 : True := trivial
theorem tw9641932512887234498 : True := trivial
theorem tw13451284519558568000 : True := trivial
theorem tw1417140942507461040 : True := trivial
theorem tw15131683092532132809 : True := trivial
theorem tw18262911446658806320 : True := trivial
theorem tw17561536328235705089 : True := trivial
theorem tw9983790892721260941 : True := trivial
theorem tw813962283511586356 : True := trivial
theorem tw16813125371021421238 : True := trivial
theorem tw3342990393144259421 : True := trivial
theorem tw8800842644088351704 : True := trivial
theorem tw101257822928433730 : True := trivial
theorem tw4288909217543318336 : True := trivial
theorem tw11286136296472326456 : True := trivial
theorem tw2537034965347537734 : True := trivial
theorem tw108759798914445001 : True := trivial
theorem tw18158903052794364909 : True := trivial
theorem tw2601886491422585711 : True := trivial
theorem tw3118238483172143998 : True := trivial
theorem tw10842438081698739804 : True := trivial
theorem tw7180194083587609020 : True := trivial
theorem tw6916011515335636904 : True := trivial
theorem tw9222168461985851726 : True := trivial
theorem tw1457327586629555335 : True := trivial
theorem tw14907084676869903227 : True := trivial
theorem tw2607281976183423969 : True := trivial
theorem tw15313341310657872484 : True := trivial
theorem tw6063719796141461658 : True := trivial
theorem tw888244559363694506 : True := trivial
theorem tw567121411853230202 : True := trivial
theorem tw16770130199618545574 : True := trivial
theorem tw4333514264027530732 : True := trivial
theorem tw3790106897631658158 : True := trivial
theorem tw9807404450596014047 : True := trivial
theorem tw8057089782179340106 : True := trivial
theorem tw8945894833995018866 : True := trivial
theorem tw16393711042254269167 : True := trivial
theorem tw591342387695765398 : True := trivial
theorem tw15004765193605815691 : True := trivial
theorem tw16044373365605195900 : True := trivial
theorem tw17732140889430285657 : True := trivial
theorem tw14326419116654078514 : True := trivial
theorem tw16059419124548818895 : True := trivial
theorem tw8215294288193246385 : True := trivial
theorem tw1436393775707262265 : True := trivial
theorem tw9862153614502335155 : True := trivial
theorem tw2086572756576823953 : True := trivial
theorem tw818038904455574675 : True := trivial
theorem tw3399816070486333979 : True := trivial
theorem tw13810368839832999204 : True := trivial
theorem tw7151780840145883735 : True := trivial
theorem tw2244795565837508625 : True := trivial
theorem tw9310056243558622792 : True := trivial
theorem tw12094235573265374677 : True := trivial
theorem tw10653305828091043985 : True := trivial
theorem tw6067277257623940796 : True := trivial
theorem tw17743069494810720315 : True := trivial
theorem tw17157278554801592490 : True := trivial
theorem tw11424161224973316726 : True := trivial
theorem tw15519721577484335562 : True := trivial
theorem tw12124455766417546154 : True := trivial
theorem tw1676581872284016984 : True := trivial
theorem tw10018715273131070156 : True := trivial
theorem tw8508419906802333658 : True := trivial
theorem tw1562685426679031214 : True := trivial
theorem tw10051709790671383863 : True := trivial
theorem tw6731942447935344039 : True := trivial
theorem tw17985994212270811560 : True := trivial
theorem tw14612863293372579154 : True := trivial
theorem tw15107004124056217373 : True := trivial
theorem tw6959073322562452015 : True := trivial
theorem tw955996443139192625 : True := trivial
theorem tw6101993390363044871 : True := trivial
theorem tw10242368608451008261 : True := trivial
theorem tw9131035916356481506 : True := trivial
theorem tw1604463564957944991 : True := trivial
theorem tw1842801554770635848 : True := trivial
theorem tw17990795611356779996 : True := trivial
theorem tw1598916069903547865 : True := trivial
theorem tw11009116698430142859 : True := trivial
theorem tw16333586764048223430 : True := trivial
theorem tw9329682193439737203 : True := trivial
theorem tw16910576723057783427 : True := trivial
theorem tw2161897733442473142 : True := trivial
theorem tw1456035894399693503 : True := trivial
theorem tw5432996103203830152 : True := trivial
theorem tw2810940428996763657 : True := trivial
theorem tw11273841867180943376 : True := trivial
theorem tw14968309960710600576 : True := trivial
theorem tw4973421310404022607 : True := trivial
theorem tw8623041588296760065 : True := trivial
theorem tw16945029638994652173 : True := trivial
theorem tw10210550853768026683 : True := trivial
theorem tw7804170877616802308 : True := trivial
theorem tw641844819763199049 : True := trivial
theorem tw11407181467314240807 : True := trivial
theorem tw8626212650746626788 : True := trivial
theorem tw14561919908206774439 : True := trivial
theorem tw9043785214940196629 : True := trivial
theorem tw563338505598810360 : True := trivial
theorem tw11370000997974222306 : True := trivial
theorem tw16842664980298318423 : True := trivial
theorem tw14932300852275290310 : True := trivial
theorem tw209667083675687997 : True := trivial
theorem tw15686824879317297914 : True := trivial
theorem tw9673360160007094860 : True := trivial
theorem tw3751914111018844286 : True := trivial
theorem tw14119720658829900283 : True := trivial
theorem tw16615565194643821913 : True := trivial
theorem tw9435495640407077224 : True := trivial
theorem tw6633510569799296864 : True := trivial
theorem tw7341504057197095792 : True := trivial
theorem tw9581629248087186692 : True := trivial
theorem tw14898259354137343248 : True := trivial
theorem tw16385366551824707110 : True := trivial
theorem tw1145534258135783300 : True := trivial
theorem tw1157040340208728812 : True := trivial
theorem tw7357753893172508371 : True := trivial
theorem tw6153660191994467279 : True := trivial
theorem tw17152750075035202677 : True := trivial
theorem tw13732869418394118028 : True := trivial
theorem tw380672012324034729 : True := trivial
theorem tw9715935412382283938 : True := trivial
theorem tw5212654831830812748 : True := trivial
theorem tw5788906718884795435 : True := trivial
theorem tw7214664017088212720 : True := trivial
theorem tw2410004065681647025 : True := trivial
theorem tw1659883792670627300 : True := trivial
theorem tw4087051882340596545 : True := trivial
theorem tw6243721505753535044 : True := trivial
theorem tw5260254083535039865 : True := trivial
theorem tw13611128253463431845 : True := trivial
theorem tw2940349135002417814 : True := trivial
theorem tw8660161405563895497 : True := trivial
theorem tw12358861392930108769 : True := trivial
theorem tw6625087261576132373 : True := trivial
theorem tw5942334036446447080 : True := trivial
theorem tw1660775571079060583 : True := trivial
theorem tw3383545080842830190 : True := trivial
theorem tw3243156573718468977 : True := trivial
theorem tw8190098418757582228 : True := trivial
theorem tw14999849519144335092 : True := trivial
theorem tw1214179775971346632 : True := trivial
theorem tw19553906733110171 : True := trivial
theorem tw15513973754054186000 : True := trivial
theorem tw16467731277764856486 : True := trivial
theorem tw14159957769668522744 : True := trivial
theorem tw1315431425524093211 : True := trivial
theorem tw12668972535821408865 : True := trivial
theorem tw1738939060994764378 : True := trivial
theorem tw5404835031820601078 : True := trivial
theorem tw370873888391465269 : True := trivial
theorem tw5949329531034238375 : True := trivial
theorem tw17483389503029713953 : True := trivial
theorem tw9651412911423388300 : True := trivial
theorem tw9327180374940139279 : True := trivial
theorem tw18011769349479681311 : True := trivial
theorem tw3272835175609406044 : True := trivial
theorem tw4984654345691233176 : True := trivial
theorem tw18058128956110197457 : True := trivial
theorem tw8035077402062197819 : True := trivial
theorem tw6830712382516806740 : True := trivial
theorem tw13093628091166657979 : True := trivial
theorem tw11016170236011739303 : True := trivial
theorem tw18058560846053559397 : True := trivial
theorem tw4995174686459810276 : True := trivial
theorem tw1229310124749051983 : True := trivial
theorem tw18288337315821765181 : True := trivial
theorem tw7113070447960722126 : True := trivial
theorem tw8595820091289530052 : True := trivial
theorem tw9890826236271449646 : True := trivial
theorem tw16547226037667919159 : True := trivial
theorem tw17420436447770872836 : True := trivial
theorem tw3611209977738383566 : True := trivial
theorem tw12072404963751265670 : True := trivial
theorem tw17318746030188904329 : True := trivial
theorem tw2610753663481525592 : True := trivial
theorem tw14056269182686894188 : True := trivial
theorem tw15284957271837773812 : True := trivial
theorem tw15742326883393046563 : True := trivial
theorem tw8965972620873428244 : True := trivial
theorem tw2246320674787908133 : True := trivial
theorem tw14249071317926013988 : True := trivial
theorem tw5236716153510081801 : True := trivial
theorem tw16624666971100703926 : True := trivial
theorem tw15123611744138883733 : True := trivial
theorem tw3921339481309901935 : True := trivial
theorem tw9902643773420572085 : True := trivial
theorem tw10077175298666086758 : True := trivial
theorem tw1701676638391908436 : True := trivial
theorem tw5367792126842789256 : True := trivial
theorem tw13743881517911126422 : True := trivial
theorem tw7368871055236397417 : True := trivial
theorem tw6401647109635709603 : True := trivial
theorem tw14806635519903828673 : True := trivial
theorem tw3214895162439461876 : True := trivial
theorem tw839470126966232440 : True := trivial
theorem tw380421781263421111 : True := trivial
theorem tw14014075499231439648 : True := trivial
theorem tw77594258616151966 : True := trivial
theorem tw5056522988862935803 : True := trivial
theorem tw3427792331452587835 : True := trivial
theorem tw3450023903772034052 : True := trivial
theorem tw814695102766165349 : True := trivial
theorem tw8019484206678963867 : True := trivial
theorem tw5129365464263405277 : True := trivial
theorem tw132622467347439718 : True := trivial
theorem tw5272560038921271483 : True := trivial
theorem tw6105825084795035980 : True := trivial
theorem tw17594148796033737525 : True := trivial
theorem tw193913135362533816 : True := trivial
theorem tw3460259044149892572 : True := trivial
theorem tw820205801745703928 : True := trivial
theorem tw14859361573279962220 : True := trivial
theorem tw15060914751079964783 : True := trivial
theorem tw15328277446317280889 : True := trivial
theorem tw16333285381757612894 : True := trivial
theorem tw9786681556363113758 : True := trivial
theorem tw1210529347719637851 : True := trivial
theorem tw1084945188268122303 : True := trivial
theorem tw17303873226473921280 : True := trivial
theorem tw11253624748091573316 : True := trivial
theorem tw10343420462904186617 : True := trivial
theorem tw12199159262500815185 : True := trivial
theorem tw249778778146722894 : True := trivial
theorem tw10259765990387524739 : True := trivial
theorem tw5554958287437616491 : True := trivial
theorem tw16682782197302689660 : True := trivial
theorem tw18219662993593741223 : True := trivial
theorem tw15299035141435301918 : True := trivial
theorem tw6360781722418011262 : True := trivial
theorem tw465671601941991034 : True := trivial
theorem tw14801596111939412243 : True := trivial
theorem tw10689786219327878882 : True := trivial
theorem tw13381211949744064034 : True := trivial
theorem tw4537871803838600031 : True := trivial
theorem tw3038337373104894303 : True := trivial
theorem tw2182041683875127311 : True := trivial
theorem tw13925389422657018320 : True := trivial
theorem tw1417765401033438488 : True := trivial
theorem tw14513835261934118035 : True := trivial
theorem tw11707648749373068414 : True := trivial
theorem tw2597342520888993940 : True := trivial
theorem tw11674662784346020876 : True := trivial
theorem tw5205642839668377985 : True := trivial
theorem tw16735524223567391782 : True := trivial
theorem tw17584934511697562607 : True := trivial
theorem tw12725219152908086614 : True := trivial
theorem tw17753851922698549438 : True := trivial
theorem tw15927813897896386759 : True := trivial
theorem tw15928414306243848198 : True := trivial
theorem tw4096014701197852682 : True := trivial
theorem tw8745903413008599912 : True := trivial
theorem tw4535339475531822749 : True := trivial
theorem tw11502589613543248405 : True := trivial
theorem tw15274905557442289411 : True := trivial
theorem tw8911073073798792788 : True := trivial
theorem tw1560431619025787106 : True := trivial
theorem tw12774199333680216522 : True := trivial
theorem tw4095765624065048448 : True := trivial
theorem tw8930394465806664419 : True := trivial
theorem tw6508918180621687593 : True := trivial
theorem tw10638393831920678607 : True := trivial
theorem tw14873277498973098707 : True := trivial
theorem tw8829847409509027797 : True := trivial
theorem tw18134235227759302124 : True := trivial
theorem tw7547431229882884184 : True := trivial
theorem tw10688328910049370714 : True := trivial
theorem tw14074904299834008704 : True := trivial
theorem tw7631873865953225513 : True := trivial
theorem tw7204073050932775043 : True := trivial
theorem tw9210677158665855702 : True := trivial
theorem tw12196810828104863788 : True := trivial
theorem tw8980715049892779989 : True := trivial
theorem tw15118072199101233687 : True := trivial
theorem tw15986916523434222177 : True := trivial
theorem tw7958731578289659328 : True := trivial
theorem tw2854424750084428863 : True := trivial
theorem tw9798241738726796647 : True := trivial
theorem tw12141334995680693466 : True := trivial
theorem tw13301660373380367281 : True := trivial
theorem tw18364714722768673509 : True := trivial
theorem tw6646853153186103318 : True := trivial
theorem tw5656391887155923828 : True := trivial
theorem tw2539338007092977634 : True := trivial
theorem tw3171408829393089700 : True := trivial
theorem tw17848097089554913727 : True := trivial
theorem tw842971679540911230 : True := trivial
theorem tw14811168892050099766 : True := trivial
theorem tw15241363490191614548 : True := trivial
theorem tw9033601836211877845 : True := trivial
theorem tw6253869950145177326 : True := trivial
theorem tw3654478830565592855 : True := trivial
theorem tw13824948310018676350 : True := trivial
theorem tw10296122179316262133 : True := trivial
theorem tw10701379144948580073 : True := trivial
theorem tw3500634659055319033 : True := trivial
theorem tw3212860186111081996 : True := trivial
theorem tw16900559299648480799 : True := trivial
theorem tw2145215927969828100 : True := trivial
theorem tw16520391504632147701 : True := trivial
theorem tw637125515361022258 : True := trivial
theorem tw12545825662395179903 : True := trivial
theorem tw14184740535161490467 : True := trivial
theorem tw12349340126114733325 : True := trivial
theorem tw7418721813625789647 : True := trivial
theorem tw10828143980297221444 : True := trivial
theorem tw4173422216706970886 : True := trivial
theorem tw15136423456490425295 : True := trivial
theorem tw15899137567086796079 : True := trivial
theorem tw6367031960728300900 : True := trivial
theorem tw10879060230270546255 : True := trivial
theorem tw10702684580810527160 : True := trivial
theorem tw4568108503852614997 : True := trivial
theorem tw11729118518787409785 : True := trivial
theorem tw9276553583207422735 : True := trivial
theorem tw3672334255587058663 : True := trivial
theorem tw10210208067997682753 : True := trivial
theorem tw8276576663228472609 : True := trivial
theorem tw681851593375628881 : True := trivial
theorem tw2682177258470670514 : True := trivial
theorem tw17998246059452479352 : True := trivial
theorem tw3503443245896276170 : True := trivial
theorem tw12099848902613100026 : True := trivial
theorem tw4341716827030511964 : True := trivial
theorem tw16623940090420303101 : True := trivial
theorem tw8654997043950850107 : True := trivial
theorem tw12094644378193582227 : True := trivial
theorem tw15933357620871238925 : True := trivial
theorem tw2192341946228650318 : True := trivial
theorem tw12186311049900906732 : True := trivial
theorem tw5604428641986474004 : True := trivial
theorem tw12476312502459370733 : True := trivial
theorem tw5596782855732840306 : True := trivial
theorem tw1927251329648854179 : True := trivial
theorem tw18315728378333578925 : True := trivial
theorem tw10495372163981728969 : True := trivial
theorem tw10247469232022101702 : True := trivial
theorem tw1676308434639689751 : True := trivial
theorem tw5401066309221333408 : True := trivial
theorem tw10904154734275377071 : True := trivial
theorem tw8939435696134138601 : True := trivial
theorem tw7968811608506485954 : True := trivial
theorem tw9792282073432606969 : True := trivial
theorem tw17020596118630436350 : True := trivial
theorem tw6021666839497223669 : True := trivial
theorem tw5287976787548121353 : True := trivial
theorem tw18020063639196550124 : True := trivial
theorem tw10226273739537656982 : True := trivial
theorem tw2509690584696167341 : True := trivial
theorem tw10991608129087052344 : True := trivial
theorem tw11180230594359771128 : True := trivial
theorem tw5572213484966317618 : True := trivial
theorem tw4431135384823492280 : True := trivial
theorem tw14544549893703555004 : True := trivial
theorem tw6999620349304628458 : True := trivial
theorem tw12886351124153762038 : True := trivial
theorem tw1709416089015169953 : True := trivial
theorem tw7607163968129776316 : True := trivial
theorem tw5681201661325813471 : True := trivial
theorem tw3556396424492227035 : True := trivial
theorem tw8492411221824903791 : True := trivial
theorem tw1674308228776992983 : True := trivial
theorem tw2414607957902524672 : True := trivial
theorem tw9074728110764861729 : True := trivial
theorem tw9490268550161306382 : True := trivial
theorem tw10127600926540602524 : True := trivial
theorem tw15927005804223975016 : True := trivial
theorem tw15349667611467755835 : True := trivial
theorem tw9896528262503458111 : True := trivial
theorem tw2572413043140804937 : True := trivial
theorem tw6967106888844129930 : True := trivial
theorem tw18433844852599740383 : True := trivial
theorem tw652388765279151603 : True := trivial
theorem tw9975510917330630723 : True := trivial
theorem tw7090482719849487112 : True := trivial
theorem tw2525567904771221760 : True := trivial
theorem tw11732075892750568316 : True := trivial
theorem tw15232630411492174030 : True := trivial
theorem tw10483899433379502318 : True := trivial
theorem tw12301776415163726926 : True := trivial
theorem tw8163114973773179001 : True := trivial
theorem tw8993223548615049122 : True := trivial
theorem tw11866632196785502576 : True := trivial
theorem tw4141038266856964240 : True := trivial
theorem tw5928362741952213214 : True := trivial
theorem tw16280827851123478606 : True := trivial
theorem tw8767615003541222133 : True := trivial
theorem tw14574579387503137697 : True := trivial
theorem tw1881226868480021220 : True := trivial
theorem tw16645498275606270735 : True := trivial
theorem tw10020025308471988392 : True := trivial
theorem tw4428939251357507636 : True := trivial
theorem tw16632287153330574876 : True := trivial
theorem tw9849902093461094095 : True := trivial
theorem tw2967305370729034893 : True := trivial
theorem tw15862807833032264705 : True := trivial
theorem tw15630266221105702581 : True := trivial
theorem tw3715541983548141624 : True := trivial
theorem tw9656874202194615758 : True := trivial
theorem tw12597014261125245028 : True := trivial
theorem tw13181939740524518419 : True := trivial
theorem tw11157134870550433114 : True := trivial
theorem tw15970745032849782397 : True := trivial
theorem tw2536794334648621907 : True := trivial
theorem tw17065028938605177828 : True := trivial
theorem tw11768823550862245634 : True := trivial
theorem tw14758561642056001962 : True := trivial
theorem tw13865145903197726955 : True := trivial
theorem tw2635851247377009932 : True := trivial
theorem tw12481384633992375436 : True := trivial
theorem tw4993242183247052864 : True := trivial
theorem tw3512897840714189416 : True := trivial
theorem tw16331645229051600873 : True := trivial
theorem tw1380674753480502514 : True := trivial
theorem tw17340577008455918008 : True := trivial
theorem tw13948810939867789615 : True := trivial
theorem tw7929457997014933537 : True := trivial
theorem tw10738590359252184549 : True := trivial
theorem tw7770782524073135135 : True := trivial
theorem tw7857540781188460336 : True := trivial
theorem tw2607297997441912310 : True := trivial
theorem tw2184061558023453170 : True := trivial
theorem tw12355158241574855429 : True := trivial
theorem tw7409072989573983825 : True := trivial
theorem tw7600878467626382644 : True := trivial
theorem tw11221210104980012073 : True := trivial
theorem tw3063217616766752015 : True := trivial
theorem tw7793484437163545937 : True := trivial
theorem tw7804115715625188558 : True := trivial
theorem tw14514605579047572628 : True := trivial
theorem tw9990578858449059569 : True := trivial
theorem tw63404336787687629 : True := trivial
theorem tw3791450673187742334 : True := trivial
theorem tw6279443174890915357 : True := trivial
theorem tw7897138176813056329 : True := trivial
theorem tw3072177149819472581 : True := trivial
theorem tw3726121883722572801 : True := trivial
theorem tw2503595595458968515 : True := trivial
theorem tw2475162022397253825 : True := trivial
theorem tw6853219997554940827 : True := trivial
theorem tw7634375187855130419 : True := trivial
theorem tw12448796040204929314 : True := trivial
theorem tw9982431661484100541 : True := trivial
theorem tw16474218325914363031 : True := trivial
theorem tw5227926807517086942 : True := trivial
theorem tw4957512038894269842 : True := trivial
theorem tw16000873468996979701 : True := trivial
theorem tw13175661969004302405 : True := trivial
theorem tw13931631202317567774 : True := trivial
theorem tw14025058710161689876 : True := trivial
theorem tw14399808878764481901 : True := trivial
theorem tw8523668767931095018 : True := trivial
theorem tw17017649148461077323 : True := trivial
theorem tw7144853491463959060 : True := trivial
theorem tw5911848860979988174 : True := trivial
theorem tw4901710089601658435 : True := trivial
theorem tw13206733986089982124 : True := trivial
theorem tw18246897490896492307 : True := trivial
theorem tw15906670870757206422 : True := trivial
theorem tw16187771582909765632 : True := trivial
theorem tw14666319630607394420 : True := trivial
theorem tw13921828564127988221 : True := trivial
theorem tw8530460036668201775 : True := trivial
theorem tw8311666725102713976 : True := trivial
theorem tw541064228853384764 : True := trivial
theorem tw3582270257769076618 : True := trivial
theorem tw16137882459029295866 : True := trivial
theorem tw4878652702017773567 : True := trivial
theorem tw11804025960759604005 : True := trivial
theorem tw5570802929198073775 : True := trivial
theorem tw14165306384847657163 : True := trivial
theorem tw6650852801574057327 : True := trivial
theorem tw17753798051932412844 : True := trivial
theorem tw3779256573221947443 : True := trivial
theorem tw14764898857800643467 : True := trivial
theorem tw10925904001793993089 : True := trivial
theorem tw15112995325631488566 : True := trivial
theorem tw11112764909345347363 : True := trivial
theorem tw4520880017791057629 : True := trivial
theorem tw4889495969993688132 : True := trivial
theorem tw17208213281880083591 : True := trivial
theorem tw13516542345485311810 : True := trivial
theorem tw2830330167825164862 : True := trivial
theorem tw15065722466217753082 : True := trivial
theorem tw7494932536805873361 : True := trivial
theorem tw8152240291486031202 : True := trivial
theorem tw3006754912429409543 : True := trivial
theorem tw2108980524158624035 : True := trivial
theorem tw12945063736690584300 : True := trivial
theorem tw1786177237253698384 : True := trivial
theorem tw14287858732832363116 : True := trivial
theorem tw8656083979216724505 : True := trivial
theorem tw5328631280141551458 : True := trivial
theorem tw3595844603344172343 : True := trivial
theorem tw14169704681614142513 : True := trivial
theorem tw7136540950586134620 : True := trivial
theorem tw15937064583162786797 : True := trivial
theorem tw2510152368936107437 : True := trivial
theorem tw1377971138424050253 : True := trivial
theorem tw16172961052439862975 : True := trivial
theorem tw5247672886619738324 : True := trivial
theorem tw5679061338989256802 : True := trivial
theorem tw418295416536739093 : True := trivial
theorem tw1357588137751862773 : True := trivial
theorem tw16994412615480800989 : True := trivial
theorem tw8015276062565785354 : True := trivial
theorem tw3825163187498447812 : True := trivial
theorem tw9482971110229748553 : True := trivial
theorem tw7855640158390114608 : True := trivial
theorem tw11912903762844820619 : True := trivial
theorem tw14822778669771477883 : True := trivial
theorem tw15302097848804291900 : True := trivial
theorem tw3524603871013436063 : True := trivial
theorem tw163836411880117166 : True := trivial
theorem tw10095841403286571686 : True := trivial
theorem tw9178855076752304674 : True := trivial
theorem tw507424783689555356 : True := trivial
theorem tw6870844992153246907 : True := trivial
theorem tw10472013280406610847 : True := trivial
theorem tw1207792985196629925 : True := trivial
theorem tw14195088175767457568 : True := trivial
theorem tw14585704336030885300 : True := trivial
theorem tw6172421205685969371 : True := trivial
theorem tw4217361014065066560 : True := trivial
theorem tw10894066638984483699 : True := trivial
theorem tw5669026277293684788 : True := trivial
theorem tw9598899086328884805 : True := trivial
theorem tw11599351039435401055 : True := trivial
theorem tw7117646433309501490 : True := trivial
theorem tw3649440293258671469 : True := trivial
theorem tw1597485259130805300 : True := trivial
theorem tw2831015114214262466 : True := trivial
theorem tw11539336226572596515 : True := trivial
theorem tw11890560317035589972 : True := trivial
theorem tw18099747216539857471 : True := trivial
theorem tw10605290621564851092 : True := trivial
theorem tw13037201447607066350 : True := trivial
theorem tw18326221613763523994 : True := trivial
theorem tw15422430751749308456 : True := trivial
theorem tw8673072031127949983 : True := trivial
theorem tw5356346413958891237 : True := trivial
theorem tw10585586330176749102 : True := trivial
theorem tw2398518010728029315 : True := trivial
theorem tw15009934556838024161 : True := trivial
theorem tw1323136424091235511 : True := trivial
theorem tw2148261521001128144 : True := trivial
theorem tw8750044980438303710 : True := trivial
theorem tw13710559458702615377 : True := trivial
theorem tw17188094667932469398 : True := trivial
theorem tw366577899617074749 : True := trivial
theorem tw3308935390684652903 : True := trivial
theorem tw281457046091283150 : True := trivial
theorem tw12502512911459305561 : True := trivial
theorem tw16675292586798312255 : True := trivial
theorem tw5909578381219614774 : True := trivial
theorem tw7717968965806086879 : True := trivial
theorem tw16536323888442942520 : True := trivial
theorem tw1063199783528146210 : True := trivial
theorem tw9574012087231408827 : True := trivial
theorem tw14220435836298310291 : True := trivial
theorem tw5463448062374864226 : True := trivial
theorem tw7993898159666843783 : True := trivial
theorem tw17130385852201529819 : True := trivial
theorem tw6048921965529577459 : True := trivial
theorem tw15408427338470400238 : True := trivial
theorem tw11977307930695092603 : True := trivial
theorem tw4378127771106581383 : True := trivial
theorem tw17424938624603074254 : True := trivial
theorem tw2720681604942568735 : True := trivial
theorem tw8208075258844118891 : True := trivial
theorem tw17911788950574010546 : True := trivial
theorem tw18190860731799720323 : True := trivial
theorem tw11979733485444071603 : True := trivial
theorem tw4005718997445600133 : True := trivial
theorem tw15989175645648343260 : True := trivial
theorem tw8749602537332556313 : True := trivial
theorem tw5472111698638318231 : True := trivial
theorem tw13131352140633195013 : True := trivial
theorem tw18299170112423251203 : True := trivial
theorem tw18359727860310464860 : True := trivial
theorem tw17333123545484721362 : True := trivial
theorem tw7379682024563179904 : True := trivial
theorem tw7989512676374370004 : True := trivial
theorem tw16234571291536235953 : True := trivial
theorem tw10658738542535137316 : True := trivial
theorem tw6895668462445889310 : True := trivial
theorem tw10889400651121322554 : True := trivial
theorem tw7412626719402458758 : True := trivial
theorem tw2792454115594661799 : True := trivial
theorem tw9121856768126463887 : True := trivial
theorem tw17490580997986748691 : True := trivial
theorem tw14473097195280743857 : True := trivial
theorem tw3085377112606958256 : True := trivial
theorem tw1374962667315398055 : True := trivial
theorem tw4478942329260584516 : True := trivial
theorem tw5554492949708317505 : True := trivial
theorem tw14198241601178751158 : True := trivial
theorem tw9378786313409515800 : True := trivial
theorem tw14833510957558969573 : True := trivial
theorem tw9022994010650716229 : True := trivial
theorem tw9231001285998835049 : True := trivial
theorem tw6576840761580685245 : True := trivial
theorem tw9379375862337751697 : True := trivial
theorem tw1070254653698926078 : True := trivial
theorem tw3071518171549565243 : True := trivial
theorem tw2524352288961462603 : True := trivial
theorem tw3108954790371453298 : True := trivial
theorem tw17406150144286385866 : True := trivial
theorem tw14385826737322208042 : True := trivial
theorem tw5659445989718609634 : True := trivial
theorem tw2932709519449440244 : True := trivial
theorem tw6888302976225127577 : True := trivial
theorem tw1117650858194930282 : True := trivial
theorem tw3530537203162476600 : True := trivial
theorem tw13821459402010299214 : True := trivial
theorem tw391286796436370172 : True := trivial
theorem tw5703326624098836224 : True := trivial
theorem tw685384334347292357 : True := trivial
theorem tw17499393039607603257 : True := trivial
theorem tw9986718510459602193 : True := trivial
theorem tw8725174687639951526 : True := trivial
theorem tw12086926681873080398 : True := trivial
theorem tw8543281156248997596 : True := trivial
theorem tw11958950012862127683 : True := trivial
theorem tw14314838470031159919 : True := trivial
theorem tw16155088170782434029 : True := trivial
theorem tw14149005993893606180 : True := trivial
theorem tw8082483248425631629 : True := trivial
theorem tw7355503560780997849 : True := trivial
theorem tw4226862587677219459 : True := trivial
theorem tw6434677831675572539 : True := trivial
theorem tw4736389880960188250 : True := trivial
theorem tw13758908501298234029 : True := trivial
theorem tw124470164275209510 : True := trivial
theorem tw17381078808134689265 : True := trivial
theorem tw11242140727150430844 : True := trivial
theorem tw1073335449722075528 : True := trivial
theorem tw8865083275820020148 : True := trivial
theorem tw5152165836213643529 : True := trivial
theorem tw911616057183439593 : True := trivial
theorem tw1105910412402901847 : True := trivial
theorem tw15972940603088624676 : True := trivial
theorem tw7407291669206638146 : True := trivial
theorem tw7828384329208044413 : True := trivial
theorem tw5859401272146901131 : True := trivial
theorem tw4500117064037423031 : True := trivial
theorem tw2179401694451051127 : True := trivial
theorem tw6177765830854221692 : True := trivial
theorem tw11965485582457255840 : True := trivial
theorem tw7748661750547258332 : True := trivial
theorem tw14590627370436649342 : True := trivial
theorem tw5825714598770393366 : True := trivial
theorem tw2980668863569740533 : True := trivial
theorem tw18286536363560050718 : True := trivial
theorem tw13863954281485148661 : True := trivial
theorem tw7951331593513231685 : True := trivial
theorem tw18230540269369434683 : True := trivial
theorem tw14099494814712982081 : True := trivial
theorem tw2463984550572357802 : True := trivial
theorem tw16115248717070639768 : True := trivial
theorem tw6335371756396575403 : True := trivial
theorem tw10005406211158937160 : True := trivial
theorem tw9131739804520898839 : True := trivial
theorem tw4026365756072170307 : True := trivial
theorem tw6528938846482702022 : True := trivial
theorem tw16983962012084758660 : True := trivial
theorem tw11252577873774642236 : True := trivial
theorem tw12771668502274714490 : True := trivial
theorem tw645100246787039987 : True := trivial
theorem tw8627063722457489236 : True := trivial
theorem tw17113921426728839467 : True := trivial
theorem tw275004744789536142 : True := trivial
theorem tw5336441067634615193 : True := trivial
theorem tw10387092091293406025 : True := trivial
theorem tw6379826955360673177 : True := trivial
theorem tw13217494226868791507 : True := trivial
theorem tw10686807118785457339 : True := trivial
theorem tw6138777910487987243 : True := trivial
theorem tw5603181538870571561 : True := trivial
theorem tw17948009932007479991 : True := trivial
theorem tw2862051217644989552 : True := trivial
theorem tw16250939286051798954 : True := trivial
theorem tw6461791749367747871 : True := trivial
theorem tw10866372353102283831 : True := trivial
theorem tw9342776272537098868 : True := trivial
theorem tw7663357247170577428 : True := trivial
theorem tw17270449529283283832 : True := trivial
theorem tw8726006815624905994 : True := trivial
theorem tw16887857256844882260 : True := trivial
theorem tw10627117315156843532 : True := trivial
theorem tw6522000030142536207 : True := trivial
theorem tw7309651690740724799 : True := trivial
theorem tw14521824080346617640 : True := trivial
theorem tw5428124141676276205 : True := trivial
theorem tw11281392282269319635 : True := trivial
theorem tw17162075612367655170 : True := trivial
theorem tw7405000341853895040 : True := trivial
theorem tw5343730098237645285 : True := trivial
theorem tw17937884108963458398 : True := trivial
theorem tw14552846172493049968 : True := trivial
theorem tw7851212451707515263 : True := trivial
theorem tw10735812718482654305 : True := trivial
theorem tw1861274118628452661 : True := trivial
theorem tw4053857444895401668 : True := trivial
theorem tw11551410418124007566 : True := trivial
theorem tw12309340325333242353 : True := trivial
theorem tw14656981231364250027 : True := trivial
theorem tw123473558708621020 : True := trivial
theorem tw17197628756963918447 : True := trivial
theorem tw15203212413819602740 : True := trivial
theorem tw11978592043426951771 : True := trivial
theorem tw493343150054425849 : True := trivial
theorem tw7709470111738797496 : True := trivial
theorem tw4652039373628393828 : True := trivial
theorem tw7935038667950198418 : True := trivial
theorem tw12100544939224167987 : True := trivial
theorem tw12884485469952156207 : True := trivial
theorem tw17888308447637609625 : True := trivial
theorem tw4037687183109329206 : True := trivial
theorem tw10042205251876409421 : True := trivial
theorem tw11827059868505534124 : True := trivial
theorem tw6109939134126655433 : True := trivial
theorem tw15551453272186813690 : True := trivial
theorem tw10286068610672928254 : True := trivial
theorem tw7802594220618642843 : True := trivial
theorem tw1877902769483163714 : True := trivial
theorem tw17377419426573128707 : True := trivial
theorem tw9088800975711837091 : True := trivial
theorem tw13830383969844035693 : True := trivial
theorem tw4751636295000100938 : True := trivial
theorem tw10613707390611685358 : True := trivial
theorem tw1088262344220448951 : True := trivial
theorem tw16948137945031010143 : True := trivial
theorem tw6804793127962422469 : True := trivial
theorem tw18013595567143097328 : True := trivial
theorem tw7607875402423247068 : True := trivial
theorem tw4428054311095194043 : True := trivial
theorem tw17466563705645648605 : True := trivial
theorem tw17768901692053478992 : True := trivial
theorem tw10702933749282668803 : True := trivial
theorem tw8508255113339091879 : True := trivial
theorem tw9469384471795426524 : True := trivial
theorem tw5894883049765414726 : True := trivial
theorem tw7449107716094921850 : True := trivial
theorem tw71172885769525152 : True := trivial
theorem tw17116088608077763085 : True := trivial
theorem tw12603022946235045605 : True := trivial
theorem tw16588623054313162988 : True := trivial
theorem tw3436908749990736312 : True := trivial
theorem tw1707930420834041348 : True := trivial
theorem tw7133071385881642581 : True := trivial
theorem tw1453745672785613307 : True := trivial
theorem tw6508199580831188865 : True := trivial
theorem tw10930893876333837634 : True := trivial
theorem tw3605679980083098637 : True := trivial
theorem tw7042345773314856140 : True := trivial
theorem tw8161574015939543788 : True := trivial
theorem tw4703403887124830942 : True := trivial
theorem tw13042040916699176371 : True := trivial
theorem tw17158372320853277625 : True := trivial
theorem tw577363348652344481 : True := trivial
theorem tw16976925276286361189 : True := trivial
theorem tw18101422422229961600 : True := trivial
theorem tw15024158656207863706 : True := trivial
theorem tw9693239559059199741 : True := trivial
theorem tw16037736615457253336 : True := trivial
theorem tw450428709197775619 : True := trivial
theorem tw119928341165133653 : True := trivial
theorem tw7650182921363038096 : True := trivial
theorem tw1716535602282634483 : True := trivial
theorem tw13220768999359434378 : True := trivial
theorem tw10971752828723528358 : True := trivial
theorem tw4931896403005181621 : True := trivial
theorem tw6277126257461570447 : True := trivial
theorem tw14006236083880385192 : True := trivial
theorem tw9387393708534285645 : True := trivial
theorem tw2817293099931909510 : True := trivial
theorem tw18346804509484468893 : True := trivial
theorem tw7956374798824518183 : True := trivial
theorem tw9901045312623260051 : True := trivial
theorem tw5905700332487789459 : True := trivial
theorem tw18208686556043462901 : True := trivial
theorem tw2161879143105897282 : True := trivial
theorem tw18145531508102945701 : True := trivial
theorem tw10323370131749949283 : True := trivial
theorem tw94520656865839773 : True := trivial
theorem tw17203518485356641889 : True := trivial
theorem tw13085120426926056373 : True := trivial
theorem tw13795294662020003492 : True := trivial
theorem tw7869097911381544241 : True := trivial
theorem tw17608198347101085335 : True := trivial
theorem tw17425614280706759421 : True := trivial
theorem tw2062092699097578450 : True := trivial
theorem tw16483108875737545608 : True := trivial
theorem tw9438375561189980292 : True := trivial
theorem tw11729485313482368231 : True := trivial
theorem tw8835909333094060631 : True := trivial
theorem tw15640520002173646178 : True := trivial
theorem tw10683149034456012829 : True := trivial
theorem tw14715961890809627403 : True := trivial
theorem tw9811266012211217229 : True := trivial
theorem tw7102406780043918108 : True := trivial
theorem tw6518816832660325835 : True := trivial
theorem tw7808076569651703654 : True := trivial
theorem tw6892975907690250512 : True := trivial
theorem tw12915717196045089251 : True := trivial
theorem tw11408605887930568556 : True := trivial
theorem tw146015605862626871 : True := trivial
theorem tw7845745127079705401 : True := trivial
theorem tw1946060541692403822 : True := trivial
theorem tw11397205628551773216 : True := trivial
theorem tw10528612323476902272 : True := trivial
theorem tw4255304241861066688 : True := trivial
theorem tw9772637301758546072 : True := trivial
theorem tw2985159309151608372 : True := trivial
theorem tw16409266204980827223 : True := trivial
theorem tw8419269212822037230 : True := trivial
theorem tw8994857408274786847 : True := trivial
theorem tw7945672734833028020 : True := trivial
theorem tw12922651245751453887 : True := trivial
theorem tw15067566167297257006 : True := trivial
theorem tw14488057960074891683 : True := trivial
theorem tw6003067211246083012 : True := trivial
theorem tw9923390260790808723 : True := trivial
theorem tw18162244277321492009 : True := trivial
theorem tw10167229647319774268 : True := trivial
theorem tw18034949551558380324 : True := trivial
theorem tw3388297159427766783 : True := trivial
theorem tw13402125552085967423 : True := trivial
theorem tw288432607201837389 : True := trivial
theorem tw2313461751820043676 : True := trivial
theorem tw6523842223830201873 : True := trivial
theorem tw13902349732619991949 : True := trivial
theorem tw15609728659178589353 : True := trivial
theorem tw6610222418869130690 : True := trivial
theorem tw10972250575632374593 : True := trivial
theorem tw6865339432472312179 : True := trivial
theorem tw6466115608782368591 : True := trivial
theorem tw12998998393726277596 : True := trivial
theorem tw4996091471122268438 : True := trivial
theorem tw6036497545358383556 : True := trivial
theorem tw2706746448077286865 : True := trivial
theorem tw6386437006240529057 : True := trivial
theorem tw12603635521456820038 : True := trivial
theorem tw10690778111708183018 : True := trivial
theorem tw5227530231667769199 : True := trivial
theorem tw17706542521201791387 : True := trivial
theorem tw5805997633427062965 : True := trivial
theorem tw10099778309689785059 : True := trivial
theorem tw16145382977759450158 : True := trivial
theorem tw3638650017152842900 : True := trivial
theorem tw11269471745168265669 : True := trivial
theorem tw18334219115513155253 : True := trivial
theorem tw9901263084292299836 : True := trivial
theorem tw6305684429697781459 : True := trivial
theorem tw6698385196886223542 : True := trivial
theorem tw6128516255325512402 : True := trivial
theorem tw11246510667463187546 : True := trivial
theorem tw2115640669623937392 : True := trivial
theorem tw9615815599687435646 : True := trivial
theorem tw4889846010886059684 : True := trivial
theorem tw16364893001133802657 : True := trivial
theorem tw14480821103733101662 : True := trivial
theorem tw11539431457063493848 : True := trivial
theorem tw538834947241134549 : True := trivial
theorem tw14977972482672110741 : True := trivial
theorem tw12556486431665502906 : True := trivial
theorem tw971218486183548999 : True := trivial
theorem tw1088372017560756944 : True := trivial
theorem tw13461578727163440756 : True := trivial
theorem tw4592760165662463959 : True := trivial
theorem tw1795085487107136384 : True := trivial
theorem tw6893578416779324706 : True := trivial
theorem tw5664678954906770370 : True := trivial
theorem tw12864981697506399584 : True := trivial
theorem tw3338731984048637414 : True := trivial
theorem tw3935410053099982173 : True := trivial
theorem tw7684533752247252470 : True := trivial
theorem tw2580151488739586035 : True := trivial
theorem tw17310136033959243622 : True := trivial
theorem tw10314008881598724869 : True := trivial
theorem tw9284536436780498919 : True := trivial
theorem tw9223240634513756176 : True := trivial
theorem tw18401018371467343040 : True := trivial
theorem tw13625990313648423339 : True := trivial
theorem tw11685328065811915703 : True := trivial
theorem tw6977820889802486431 : True := trivial
theorem tw16016110156298791517 : True := trivial
theorem tw7982098878191399095 : True := trivial
theorem tw16157349208210851890 : True := trivial
theorem tw10125435306939024075 : True := trivial
theorem tw13562737148412450121 : True := trivial
theorem tw12082111411785108782 : True := trivial
theorem tw1606619895577245950 : True := trivial
theorem tw6103648023177401546 : True := trivial
theorem tw6577544084103065358 : True := trivial
theorem tw18106420506647969566 : True := trivial
theorem tw8714388354358400105 : True := trivial
theorem tw2725729556244644158 : True := trivial
theorem tw2135300908853018224 : True := trivial
theorem tw9316881753768724185 : True := trivial
theorem tw2864389518431977556 : True := trivial
theorem tw7021138642413294944 : True := trivial
theorem tw1637691824191168845 : True := trivial
theorem tw10474123551813548879 : True := trivial
theorem tw2505294241467646763 : True := trivial
theorem tw4364869725971615203 : True := trivial
theorem tw10001147091932688346 : True := trivial
theorem tw3144868285000640911 : True := trivial
theorem tw7266643880362649985 : True := trivial
theorem tw661981629553640693 : True := trivial
theorem tw363657629650526935 : True := trivial
theorem tw238761836187982151 : True := trivial
theorem tw4541094693342917777 : True := trivial
theorem tw13435291570655373694 : True := trivial
theorem tw2419649232571819292 : True := trivial
theorem tw12290505888640332550 : True := trivial
theorem tw3748394401480238843 : True := trivial
theorem tw13890051650615165657 : True := trivial
theorem tw6778908100666268196 : True := trivial
theorem tw778516342938741140 : True := trivial
theorem tw17942791046546600613 : True := trivial
theorem tw9191208204951172674 : True := trivial
theorem tw13315363307940179113 : True := trivial
theorem tw3205026368617719295 : True := trivial
theorem tw5770515068404013302 : True := trivial
theorem tw125489539373858878 : True := trivial
theorem tw3125422386325371657 : True := trivial
theorem tw12668226114178870081 : True := trivial
theorem tw6227114397194483912 : True := trivial
theorem tw2525829778361548276 : True := trivial
theorem tw8815899756671787431 : True := trivial
theorem tw9849971499557007288 : True := trivial
theorem tw10506182339093493497 : True := trivial
theorem tw12647743666460347242 : True := trivial
theorem tw16110914950513185175 : True := trivial
theorem tw11300333818570368754 : True := trivial
theorem tw929741008999335808 : True := trivial
theorem tw4371791369914438254 : True := trivial
theorem tw5239243526612650571 : True := trivial
theorem tw11983395650892145696 : True := trivial
theorem tw5938292496196534523 : True := trivial
theorem tw8689337027403670636 : True := trivial
theorem tw10727949281378756081 : True := trivial
theorem tw8291631926785366222 : True := trivial
theorem tw8491362210716955024 : True := trivial
theorem tw11299738287098071421 : True := trivial
theorem tw11851752777905514028 : True := trivial
theorem tw7440815791317136557 : True := trivial
theorem tw11582173565083064609 : True := trivial
theorem tw234181128537070487 : True := trivial
theorem tw13197254675305885222 : True := trivial
theorem tw8257102750972369177 : True := trivial
theorem tw7003455238355292565 : True := trivial
theorem tw11792152448649648008 : True := trivial
theorem tw6783031976952583770 : True := trivial
theorem tw8084646396390973451 : True := trivial
theorem tw7853878285841726390 : True := trivial
theorem tw5806056746545593538 : True := trivial
theorem tw848713936304452687 : True := trivial
theorem tw7946900536635981775 : True := trivial
theorem tw16327889383786111571 : True := trivial
theorem tw2238256103204924032 : True := trivial
theorem tw5462386539182207271 : True := trivial
theorem tw15517928074724819968 : True := trivial
theorem tw1632635994055858326 : True := trivial
theorem tw2865973438787017068 : True := trivial
theorem tw8942992885424309917 : True := trivial
theorem tw9122622501659526869 : True := trivial
theorem tw17877588219992141543 : True := trivial
theorem tw13645903652715594268 : True := trivial
theorem tw11818457311815107370 : True := trivial
theorem tw9884979088357251407 : True := trivial
theorem tw15267182145994096162 : True := trivial
theorem tw15884995737482506923 : True := trivial
theorem tw15387098775890626085 : True := trivial
theorem tw12697332838983710297 : True := trivial
theorem tw11607758741133772067 : True := trivial
theorem tw10485432565441382616 : True := trivial
theorem tw81305317318635175 : True := trivial
theorem tw4214927333516643864 : True := trivial
theorem tw14569788006231497602 : True := trivial
theorem tw15214786557558665794 : True := trivial
theorem tw17770135999538824732 : True := trivial
theorem tw5798809940656943801 : True := trivial
theorem tw6329567683580454348 : True := trivial
theorem tw3636333467241087571 : True := trivial
theorem tw17357770620179499002 : True := trivial
theorem tw1650423610958987263 : True := trivial
theorem tw14175212526193529267 : True := trivial
theorem tw14489717839194806141 : True := trivial
theorem tw12243192868521982099 : True := trivial
theorem tw2682529226026150696 : True := trivial
theorem tw11405458640073606096 : True := trivial
theorem tw7518082307606304200 : True := trivial
theorem tw10106329728630231894 : True := trivial
theorem tw11373773766384797474 : True := trivial
theorem tw3305001069938902599 : True := trivial
theorem tw17774592372442794769 : True := trivial
theorem tw6937434465507603927 : True := trivial
theorem tw5078911672691584616 : True := trivial
theorem tw1481414255246796285 : True := trivial
theorem tw3551935869621865838 : True := trivial
theorem tw16462483234601057213 : True := trivial
theorem tw3979420335503709532 : True := trivial
theorem tw17140773174086431564 : True := trivial
theorem tw8228613337904547373 : True := trivial
theorem tw14235783038546730565 : True := trivial
theorem tw1584422400784804378 : True := trivial
theorem tw17478818555124103996 : True := trivial
theorem tw5056968543428501124 : True := trivial
theorem tw17827110836888941289 : True := trivial
theorem tw3676472575566968386 : True := trivial
theorem tw16219036274120802496 : True := trivial
theorem tw11278722361132087020 : True := trivial
theorem tw15256882380937407713 : True := trivial
theorem tw14403536453093868739 : True := trivial
theorem tw11261274159444007487 : True := trivial
theorem tw6531285335196548785 : True := trivial
theorem tw6357951201134765408 : True := trivial
theorem tw17640362092156327427 : True := trivial
theorem tw13170359625606414561 : True := trivial
theorem tw769304739841794184 : True := trivial
theorem tw11042250607681862809 : True := trivial
theorem tw13878135183341627750 : True := trivial
theorem tw18295328151313346094 : True := trivial
theorem tw14437953349089505363 : True := trivial
theorem tw16449466849177091322 : True := trivial
theorem tw3097495814664082993 : True := trivial
theorem tw13900992962168936298 : True := trivial
theorem tw264966020577987804 : True := trivial
theorem tw1986165892164463106 : True := trivial
theorem tw8626894701759746228 : True := trivial
theorem tw9993533436648087511 : True := trivial
theorem tw16074277518974150629 : True := trivial
theorem tw4279925240275561188 : True := trivial
theorem tw16089123275095286547 : True := trivial
theorem tw5911776834530794538 : True := trivial
theorem tw4399292388568220940 : True := trivial
theorem tw410410390760976910 : True := trivial
theorem tw8085515173510116444 : True := trivial
theorem tw85390729199793206 : True := trivial
theorem tw11652053627385532667 : True := trivial
theorem tw15938896022957053247 : True := trivial
theorem tw16938420374460080185 : True := trivial
theorem tw11906650349426813860 : True := trivial
theorem tw3696183903757150507 : True := trivial
theorem tw11538602995530084317 : True := trivial
theorem tw9241043079835437555 : True := trivial
theorem tw9804697439882704736 : True := trivial
theorem tw7215488520578761361 : True := trivial
theorem tw4146722381051413367 : True := trivial
theorem tw906853570435058896 : True := trivial
theorem tw13978983327612479883 : True := trivial
theorem tw838480543820527884 : True := trivial
theorem tw16681062415906611456 : True := trivial
theorem tw15554014997397729811 : True := trivial
theorem tw3936894345023441938 : True := trivial
theorem tw4073389101319453344 : True := trivial
theorem tw14898289610776947207 : True := trivial
theorem tw1396562238436749704 : True := trivial
theorem tw17645330226775882001 : True := trivial
theorem tw4466758197828245927 : True := trivial
theorem tw3656462579539625604 : True := trivial
theorem tw18154947237887200489 : True := trivial
theorem tw13355105332429492636 : True := trivial
theorem tw16366661733610762809 : True := trivial
theorem tw1546700286589290338 : True := trivial
theorem tw13814878957526973481 : True := trivial
theorem tw4321297195395583992 : True := trivial
theorem tw3588311768765057387 : True := trivial
theorem tw14393637068189033389 : True := trivial
theorem tw9889113580718018484 : True := trivial
theorem tw3384326465112251834 : True := trivial
theorem tw5512710282537895945 : True := trivial
theorem tw13532719985033442534 : True := trivial
theorem tw10946285617135658263 : True := trivial
theorem tw172977031444461049 : True := trivial
theorem tw15166603932958499339 : True := trivial
theorem tw5948805765418481123 : True := trivial
theorem tw4353449855816970728 : True := trivial
theorem tw2478880592946557582 : True := trivial
theorem tw3650539185515823545 : True := trivial
theorem tw4505982031708525767 : True := trivial
theorem tw13526169301928393551 : True := trivial
theorem tw6341329419553166796 : True := trivial
theorem tw6659091970966222570 : True := trivial
theorem tw8166010245997389858 : True := trivial
theorem tw2379260832638419720 : True := trivial
theorem tw9876588957929980135 : True := trivial
theorem tw496012858219967953 : True := trivial
theorem tw8285988903798411339 : True := trivial
theorem tw12699383810383927808 : True := trivial
theorem tw17390756813312963715 : True := trivial
theorem tw13538118945325407771 : True := trivial
theorem tw17823103050578554185 : True := trivial
theorem tw635307266421623248 : True := trivial
theorem tw6174428647542969154 : True := trivial
theorem tw15986698874092609355 : True := trivial
theorem tw10713001939875011405 : True := trivial
theorem tw15447190516910874372 : True := trivial
theorem tw5832387666244914788 : True := trivial
theorem tw12600004320733919857 : True := trivial
theorem tw12895721352441694655 : True := trivial
theorem tw16867001488482443786 : True := trivial
theorem tw17375469347459934104 : True := trivial
theorem tw14769792545062714872 : True := trivial
theorem tw5486337885179564892 : True := trivial
theorem tw12816580531195346400 : True := trivial
theorem tw204911532849470559 : True := trivial
theorem tw5378324908764481045 : True := trivial
theorem tw17428340864076080478 : True := trivial
theorem tw9083168079146757081 : True := trivial
theorem tw8533432331088504235 : True := trivial
theorem tw9057989532132732055 : True := trivial
theorem tw12220272379861068702 : True := trivial
theorem tw12733148309270483571 : True := trivial
theorem tw8395035533389905411 : True := trivial
theorem tw3264735771466000611 : True := trivial
theorem tw12860847522381672483 : True := trivial
theorem tw967176735826481530 : True := trivial
theorem tw10354723066148723775 : True := trivial
theorem tw14494152916830860116 : True := trivial
theorem tw16135789263685969176 : True := trivial
theorem tw4898939808110806033 : True := trivial
theorem tw6263972793404070957 : True := trivial
theorem tw17038557295594885803 : True := trivial
theorem tw4499930398572978006 : True := trivial
theorem tw11611762493357315611 : True := trivial
theorem tw11830802986138474202 : True := trivial
theorem tw7150859373204373836 : True := trivial
theorem tw13370708434122216902 : True := trivial
theorem tw12735939992856706057 : True := trivial
theorem tw15568358676984489590 : True := trivial
theorem tw16838078296400475187 : True := trivial
theorem tw8019726260213240107 : True := trivial
theorem tw11433253861548132071 : True := trivial
theorem tw700134373972677829 : True := trivial
theorem tw13410823735287322995 : True := trivial
theorem tw2593807691038540365 : True := trivial
theorem tw12671723441280276893 : True := trivial
theorem tw15874083008235796666 : True := trivial
theorem tw2060185532093798402 : True := trivial
theorem tw3882078660912008517 : True := trivial
theorem tw7975699807142849861 : True := trivial
theorem tw11802047016536551337 : True := trivial
theorem tw6626066360447008399 : True := trivial
theorem tw3506210007103413863 : True := trivial
theorem tw11821952531856563230 : True := trivial
theorem tw3981389502665867303 : True := trivial
theorem tw10402934852440277101 : True := trivial
theorem tw5642636363360583271 : True := trivial
theorem tw8255033597037249835 : True := trivial
theorem tw14706255289846186132 : True := trivial
theorem tw5687361320823941473 : True := trivial
theorem tw4258748590335065683 : True := trivial
theorem tw17066137169823357883 : True := trivial
theorem tw2424438873082237113 : True := trivial
theorem tw12350012425399712349 : True := trivial
theorem tw1100003346500393646 : True := trivial
theorem tw2411783470841892234 : True := trivial
theorem tw7514963769229032031 : True := trivial
theorem tw3807506304762281341 : True := trivial
theorem tw6684943296071860937 : True := trivial
theorem tw3277467674067289386 : True := trivial
theorem tw7186132485744024012 : True := trivial
end PySem.W.Fast
open PySem PySem.W PyProof.Rows
set_option maxRecDepth 100000 in
set_option maxHeartbeats 0 in
theorem PySem.Challenge.cw_trickproof_k19_contracts_holds : PySem.Challenge.rw_trickproof_k19_contracts.Holds := by
  w_on; o_law; k_head; (case hw => w_witness2)
  k_fill
  refine My.walk (l := PySem.Challenge.rw_trickproof_k19_contracts) rfl rfl (fun w h Y => PySem.W.kIn_of Y) ?F
  case F =>
    intro w mg fa h KX G hmg
    refine' My.all_mk KX G hmg ?a1 ?l1 ?c1 ?k1 ?a2 ?l2 ?c2 ?k2 ?a3 ?l3 ?c3 ?k3 ?a4 ?l4 ?c4 ?k4 ?a5 ?l5 ?c5 ?k5 ?a6 ?l6 ?c6 ?k6 ?a7 ?l7 ?c7 ?k7 ?a8 ?l8 ?c8 ?k8 ?a9 ?l9 ?c9 ?k9 ?a10 ?l10 ?c10 ?k10 ?a11 ?l11 ?c11 ?k11 ?a12 ?l12 ?c12 ?k12 ?a13 ?l13 ?c13 ?k13 ?a14 ?l14 ?c14 ?k14 ?a15 ?l15 ?c15 ?k15 ?a_I ?l_I ?c_I ?k_I ?i_I ?a_D ?l_D ?c_D ?k_D ?i_D ?a_O ?l_O ?c_O ?k_O ?i_O ?a_X ?l_X ?c_X ?k_X ?i_X ?a_Y ?l_Y ?c_Y ?k_Y ?i_Y ?a_B ?l_B ?c_B ?k_B ?i_B ?a_S ?l_S ?c_S ?k_S ?i_S ?a_N ?l_N ?c_N ?k_N ?i_N ?a_K ?l_K ?c_K ?k_K ?i_K ?g1 ?g2 ?g3 ?z1 ?z2 ?z3 ?z4 ?z5 ?z6 ?z7 ?z8 ?z9 ?z10 ?hCN ?hCA ?x1 ?pgCA ?hdCA ?poCA ?saCA ?mkCA ?kcCA ?nA1 ?nA2 ?nA3 ?nA4 ?nA5 ?w1 ?w2 ?w3
    (case hCN => k_is)
    (case hCA => k_is)
    (case w1 => k_is)
    (case a1 => k_is)
    (case l1 => k_is)
    (case c1 => k_is)
    (case k1 => k_is)
    (case a2 => k_is)
    (case l2 => k_is)
    (case c2 => k_is)
    (case k2 => k_is)
    (case a3 => k_is)
    (case l3 => k_is)
    (case c3 => k_is)
    (case k3 => k_is)
    (case a4 => k_is)
    (case l4 => k_is)
    (case c4 => k_is)
    (case k4 => k_is)
    (case a5 => k_is)
    (case l5 => k_is)
    (case c5 => k_is)
    (case k5 => k_is)
    (case a6 => k_is)
    (case l6 => k_is)
    (case c6 => k_is)
    (case k6 => k_is)
    (case a7 => k_is)
    (case l7 => k_is)
    (case c7 => k_is)
    (case k7 => k_is)
    (case a8 => k_is)
    (case l8 => k_is)
    (case c8 => k_is)
    (case k8 => k_is)
    (case a9 => k_is)
    (case l9 => k_is)
    (case c9 => k_is)
    (case k9 => k_is)
    (case a10 => k_is)
    (case l10 => k_is)
    (case c10 => k_is)
    (case k10 => k_is)
    (case a11 => k_is)
    (case l11 => k_is)
    (case c11 => k_is)
    (case k11 => k_is)
    (case a12 => k_is)
    (case l12 => k_is)
    (case c12 => k_is)
    (case k12 => k_is)
    (case a13 => k_is)
    (case l13 => k_is)
    (case c13 => k_is)
    (case k13 => k_is)
    (case a14 => k_is)
    (case l14 => k_is)
    (case c14 => k_is)
    (case k14 => k_is)
    (case a15 => k_is)
    (case l15 => k_is)
    (case c15 => k_is)
    (case k15 => k_is)
    (case a_I => k_is)
    (case l_I => k_is)
    (case c_I => k_is)
    (case k_I => k_is)
    (case i_I => k_is)
    (case a_D => k_is)
    (case l_D => k_is)
    (case c_D => k_is)
    (case k_D => k_is)
    (case i_D => k_is)
    (case a_O => k_is)
    (case l_O => k_is)
    (case c_O => k_is)
    (case k_O => k_is)
    (case i_O => k_is)
    (case a_X => k_is)
    (case l_X => k_is)
    (case c_X => k_is)
    (case k_X => k_is)
    (case i_X => k_is)
    (case a_Y => k_is)
    (case l_Y => k_is)
    (case c_Y => k_is)
    (case k_Y => k_is)
    (case i_Y => k_is)
    (case a_B => k_is)
    (case l_B => k_is)
    (case c_B => k_is)
    (case k_B => k_is)
    (case i_B => k_is)
    (case a_S => k_is)
    (case l_S => k_is)
    (case c_S => k_is)
    (case k_S => k_is)
    (case i_S => k_is)
    (case a_N => k_is)
    (case l_N => k_is)
    (case c_N => k_is)
    (case k_N => k_is)
    (case i_N => k_is)
    (case a_K => k_is)
    (case l_K => k_is)
    (case c_K => k_is)
    (case k_K => k_is)
    (case i_K => k_is)
    (case g1 => k_is)
    (case g2 => k_is)
    (case g3 => k_is)
    (case z1 => k_is)
    (case z2 => k_is)
    (case z3 => k_is)
    (case z4 => k_is)
    (case z5 => k_is)
    (case z6 => k_is)
    (case z7 => k_is)
    (case z8 => k_is)
    (case z9 => k_is)
    (case z10 => k_is)
    (case x1 => k_exc)
    (case pgCA => k_is)
    (case hdCA => k_is)
    (case poCA => k_is)
    (case saCA => k_is)
    (case mkCA => k_is)
    (case kcCA => k_is)
    (case nA1 => k_is)
    (case nA2 => k_is)
    (case nA3 => k_is)
    (case nA4 => k_is)
    (case nA5 => k_is)
    (case w2 => k_is)
    (case w3 => k_is)
#print axioms PySem.Challenge.cw_trickproof_k19_contracts_holds

