import PyProof.Rows.All
import Wide.All
import OpenK.AllK
import Wide.FinOn
import Lean
import PyProof.EqAt
import PyProof.EqKinds
import PyProof.TupleCall
import PyProof.NeKinds
import PyProof.ListStr
import PyProof.Rows.SortStr
import KE.KIntText
import PySem.Challenge.RW_trickproof_k20_whole_callings
set_option Elab.async false
set_option linter.all false
set_option maxRecDepth 100000
/-! THE HAND LAYER, for ints, bools, texts, own classes, LISTS and tuples (index, slices, in, append, pop ..), calls, loops. Paste it whole ahead of your own text; what your proof does not reach may be deleted. -/
namespace L2
open PySem PySem.Spec PyProof.Rows

/-- a key: an int or a str -/
abbrev Key := Sum Int Str
def keyIs : Key → Value → Bool
  | .inl k, v => Value.isInt k v
  | .inr x, v => Value.isStrOf x v
def keyH (w : World) : Key → Int
  | .inl k => hashInt k
  | .inr x => hashStr w x
theorem keyIs_shape : ∀ {k : Key} {v : Value}, keyIs k v = true → (∃ i t, k = Sum.inl i ∧ v = Value.int i t) ∨ (∃ x t, k = Sum.inr x ∧ v = Value.str x t)
  | .inl i, v, h => by
    obtain ⟨t, e⟩ := Value.isInt_shape (k := i) (v := v) h
    exact .inl ⟨i, t, rfl, e⟩
  | .inr x, v, h => by
    obtain ⟨t, e⟩ := Value.isStrOf_shape (x := x) (v := v) h
    exact .inr ⟨x, t, rfl, e⟩
theorem key_ll (a b : Int) : decide ((Sum.inl a : Key) = Sum.inl b) = (a == b) := by
  by_cases e : a = b
  · subst e; simp
  · have h : ¬ (Sum.inl a : Key) = Sum.inl b := fun q => e (Sum.inl.inj q)
    rw [decide_eq_false h]
    exact (beq_eq_false_iff_ne.mpr e).symm
theorem key_rr (a b : Str) : decide ((Sum.inr a : Key) = Sum.inr b) = decide (a = b) := by
  by_cases e : a = b
  · subst e; simp
  · have h : ¬ (Sum.inr a : Key) = Sum.inr b := fun q => e (Sum.inr.inj q)
    rw [decide_eq_false h, decide_eq_false e]
theorem key_lr (a : Int) (b : Str) : decide ((Sum.inl a : Key) = Sum.inr b) = false := decide_eq_false (fun q => nomatch q)
theorem key_rl (a : Str) (b : Int) : decide ((Sum.inr a : Key) = Sum.inl b) = false := decide_eq_false (fun q => nomatch q)

def mixKind (prog : Program) (w : World) : PySem.KeyKind prog w Key where
  is := keyIs
  hash := keyH w
  inj := fun v a b ha hb => by
    rcases keyIs_shape ha with ⟨i, t, rfl, rfl⟩ | ⟨x, t, rfl, rfl⟩
    · rcases keyIs_shape hb with ⟨j, u, rfl, e⟩ | ⟨y, u, rfl, e⟩
      · injection e with e1 _; rw [e1]
      · exact nomatch e
    · rcases keyIs_shape hb with ⟨j, u, rfl, e⟩ | ⟨y, u, rfl, e⟩
      · exact nomatch e
      · injection e with e1 _; rw [e1]
  byValue := fun k v h => by
    rcases keyIs_shape h with ⟨i, t, rfl, rfl⟩ | ⟨x, t, rfl, rfl⟩ <;> rfl
  pyHash := fun hv h => by
    rcases keyIs_shape hv with ⟨i, t, rfl, rfl⟩ | ⟨x, t, rfl, rfl⟩
    · exact wpAny_pyHash_int h
    · exact wpAny_pyHash_str h
  eqBool := fun hu hv h => by
    rcases keyIs_shape hu with ⟨i, t, rfl, rfl⟩ | ⟨x, t, rfl, rfl⟩
    · rcases keyIs_shape hv with ⟨j, u, rfl, rfl⟩ | ⟨y, u, rfl, rfl⟩
      · rw [key_ll] at h; exact wpAny_eqBool_int h
      · rw [key_lr] at h; exact SeqAt.EqAt.int_str i t y u _ _ _ _ h
    · rcases keyIs_shape hv with ⟨j, u, rfl, rfl⟩ | ⟨y, u, rfl, rfl⟩
      · rw [key_rl] at h; exact SeqAt.EqAt.str_int x t j u _ _ _ _ h
      · rw [key_rr] at h; exact wpAny_eqBool_str h
  «strs» := fun k x t v h => by
    rcases keyIs_shape h with ⟨i, u, rfl, e⟩ | ⟨y, u, rfl, e⟩
    · exact nomatch e
    · injection e with e1 _
      subst e1
      cases v <;> rfl

end L2

namespace L2
open PySem PySem.Spec PyProof.Rows

/-- a value, without the heap -/
inductive V where
  | non | bl (b : Bool) | int (i : Int) | str (x : Str) | byt (b : Array UInt8) | flt (b : UInt64) | ref (a : Addr) | ty (n : String)
  deriving DecidableEq

def RelV : V → Value → Prop
  | .non, u => u = Value.none
  | .bl b, u => u = Value.bool b
  | .int i, u => ∃ t, u = Value.int i t
  | .str x, u => ∃ t, u = Value.str x t
  | .byt b, u => ∃ t, u = Value.bytes b t
  | .flt b, u => ∃ t, u = Value.float b t
  | .ref a, u => u = Value.ref a
  | .ty n, u => u = Value.type n

abbrev Vals : List V → List Value → Prop := Paired RelV
theorem Vals.length {xs : List V} {us : List Value} (r : Vals xs us) : xs.length = us.length := Paired.length r
theorem Vals.get : ∀ {xs : List V} {us : List Value} {i : Nat} {x : V}, Vals xs us → xs[i]? = some x → ∃ u, us[i]? = some u ∧ RelV x u
  | _, _, _, _, .nil, e => by simp at e
  | _, _, 0, _, .cons r _, e => by simp at e; subst e; exact ⟨_, rfl, r⟩
  | _, _, i + 1, x, .cons _ t, e => by
    obtain ⟨u, h1, h2⟩ := Vals.get (i := i) (x := x) t (by simpa using e)
    exact ⟨u, by simpa using h1, h2⟩
theorem Vals.set {x : V} {u : Value} (r : RelV x u) : ∀ {xs : List V} {us : List Value} (i : Nat), Vals xs us → Vals (xs.set i x) (us.set i u)
  | _, _, _, .nil => .nil
  | _, _, 0, .cons _ t => .cons r t
  | _, _, i + 1, .cons q t => .cons q (Vals.set r i t)
theorem Vals.append : ∀ {xs ys : List V} {us ws : List Value}, Vals xs us → Vals ys ws → Vals (xs ++ ys) (us ++ ws)
  | _, _, _, _, .nil, s => s
  | _, _, _, _, .cons r t, s => .cons r (Vals.append t s)
def RelO : Option V → Option Value → Prop
  | some v, some u => RelV v u
  | none, none => True
  | _, _ => False
def KV {κ : Type} : List (κ × V) → List (κ × Value) → Prop := Paired fun (p : κ × V) (q : κ × Value) => p.1 = q.1 ∧ RelV p.2 q.2

/-- a key of a dict (00_mix): an int or a text -/
def kV : Key → V
  | .inl i => .int i
  | .inr x => .str x

/-- what stands at a tracked address -/
inductive HO where
  /-- a list -/
  | lst (xs : List V)
  /-- a tuple (never changes) -/
  | tup (xs : List V)
  /-- a dict whose keys are ints and texts; one whose keys are tuples of ints and texts (the empty one is both) -/
  | dK (kvs : List (Key × V)) | dT (kvs : List (List Key × V))
  /-- a set of ints: its members, its size -/
  | set (S : Int → Bool) (n : Nat)
  /-- an instance of the class at C, its dict at dx, its attributes -/
  | ins (C dx : Addr) (fs : List (Str × V))
  /-- the dict of the instance at x -/
  | own (x : Addr)
  /-- the dict of an exception -/
  | xd (fs : List (Str × V))
  /-- a bound method, f of x -/
  | met (f x : Addr)
  /-- a range object lo, lo + 1, .. below hi -/
  | rng (lo hi : Int)
  /-- a thing that is known to the object (the script; a dict while a loop walks it): read, never written while it is so -/
  | frz (o : Obj) (u : HO)
  /-- a code object's table -/
  | tbl (ps : Array Value)
  /-- any other thing, by what is true of its one object (a def of one's own: SetO a S n := HO.ext fun h => ..) -/
  | ext (φ : Heap → Prop)

abbrev Hp := Addr → Option HO
def upd (H : Hp) (a : Addr) (o : HO) : Hp := fun b => if b = a then some o else H b
theorem upd_same {H : Hp} {a : Addr} {o : HO} : upd H a o a = some o := by unfold upd; rw [if_pos rfl]
theorem upd_ne {H : Hp} {a b : Addr} {o : HO} (h : b ≠ a) : upd H a o b = H b := by unfold upd; rw [if_neg h]
theorem upd_upd {H : Hp} {a : Addr} {o u : HO} : upd (upd H a o) a u = upd H a u := by
  funext b; unfold upd; split <;> rfl
theorem ne_of_none {H : Hp} {a b : Addr} {o : HO} (h : H a = some o) (h' : H b = none) : a ≠ b := by
  intro e; subst e; rw [h] at h'; cases h'

section
variable (P : Program) (w : World)
def ObjOk (H : Hp) (h : Heap) (a : Addr) : HO → Prop
  | .lst xs => xs.length ≤ sizeLine ∧ ∃ (its : List Value) (n : Nat), Vals xs its ∧ h.get? a = some { cls := .type "list", data := .seq its.toArray n }
  | .tup xs => xs.length ≤ sizeLine ∧ ∃ its : List Value, Vals xs its ∧ IsTup h a its.toArray
  | .dK kvs => kvs.length ≤ sizeLine ∧ (a == sysModules) = false ∧ ∃ vs, KV kvs vs ∧ h.DictOf (mixKind P w) a vs
  | .dT kvs => kvs.length ≤ sizeLine ∧ (a == sysModules) = false ∧ ∃ xs : List (List Key × Addr × Value),
      Paired (fun (p : List Key × V) (q : List Key × Addr × Value) => p.1 = q.1 ∧ H q.2.1 = some (.tup (p.1.map kV)) ∧ RelV p.2 q.2.2) kvs xs ∧
      ∃ o es ep, h.get? a = some o ∧ o.ExactDict ∧ o.data = .dict es ep ∧ es.toList = xs.map (entryOfKey (tupleKind (mixKind P w))) ∧ (xs.map (·.1)).Nodup
  | .set S n => h.SetOf (intKind P w) a S n
  | .ins C dx fs => H dx = some (.own a) ∧ fs.length ≤ 1000 ∧ dx ≠ a ∧ h.get? a = some (PySem.W.instObj C dx) ∧
      ∃ mA, h.Ns1 dx mA ∧ (∀ f, RelO (fs.lookup f) (mA f)) ∧ PySem.Within mA (fs.map (·.1))
  | .own _ => ∃ o, h.get? a = some o
  | .xd fs => ∃ mA, h.Ns1 a mA ∧ ∀ f, RelO (fs.lookup f) (mA f)
  | .rng lo hi => ∃ t u v, h.get? a = some { cls := .type "range", data := .fields #[.int lo t, .int hi u, .int 1 v] }
  | .frz o u => h.get? a = some o ∧ ObjOk H h a u
  | .tbl ps => h.get? a = some { cls := .none, data := .fields ps }
  | .met f x => h.get? a = some (PySem.W.methodObj (.ref f) (.ref x))
  | .ext φ => φ h ∧ (∃ o, h.get? a = some o) ∧ ∀ h1 h2 : Heap, φ h1 → (∀ o, h1.get? a = some o → h2.get? a = some o) → φ h2
/-- the abstract heap is held -/
def HOk (H : Hp) (h : Heap) : Prop := ∀ a o, H a = some o → ObjOk P w H h a o
end

section
variable {P : Program} {w : World} {H H' : Hp} {h h' : Heap} {a : Addr} {o : HO}
theorem ObjOk.lt (x : ObjOk P w H h a o) : a < h.objs.size := by
  cases o with
  | lst xs => obtain ⟨_, _, _, _, e⟩ := x; exact Heap.lt_size e
  | tup xs => obtain ⟨_, _, _, p⟩ := x; exact p.lt
  | dK kvs => obtain ⟨_, _, _, _, o, _, _, e, _⟩ := x; exact Heap.lt_size e
  | dT kvs => obtain ⟨_, _, _, _, o, _, _, e, _⟩ := x; exact Heap.lt_size e
  | set S n => obtain ⟨o, _, _, _, e, _⟩ := x; exact Heap.lt_size e
  | ins C dx fs => obtain ⟨_, _, _, e, _⟩ := x; exact Heap.lt_size e
  | own y => obtain ⟨_, e⟩ := x; exact Heap.lt_size e
  | xd fs => obtain ⟨_, ⟨_, _, _, e, _⟩, _⟩ := x; exact Heap.lt_size e
  | rng lo hi => obtain ⟨_, _, _, e⟩ := x; exact Heap.lt_size e
  | frz ob u => obtain ⟨e, _⟩ := x; exact Heap.lt_size e
  | tbl ps => exact Heap.lt_size (show h.get? a = some _ from x)
  | met f y => exact Heap.lt_size (show h.get? a = some _ from x)
  | ext φ => obtain ⟨_, ⟨_, e⟩, _⟩ := x; exact Heap.lt_size e
theorem Paired.mapP {α β : Type} {F G : α → β → Prop} : ∀ {l₁ : List α} {l₂ : List β}, Paired F l₁ l₂ → (∀ a b, F a b → G a b) → Paired G l₁ l₂
  | _, _, .nil, _ => .nil
  | _, _, .cons r t, f => .cons (f _ _ r) (Paired.mapP t f)
/-- what an object's description leans on: its own object, its own dict, the tuples -/
theorem ObjOk.stay (x : ObjOk P w H h a o) (k : ∀ b u, (b = a ∨ H b = some (.own a)) → h.get? b = some u → h'.get? b = some u)
    (ho : ∀ b, H b = some (.own a) → H' b = some (.own a)) (ht : ∀ b xs, H b = some (.tup xs) → H' b = some (.tup xs)) : ObjOk P w H' h' a o := by
  induction o with
  | lst xs => obtain ⟨z, its, n, r, e⟩ := x; exact ⟨z, its, n, r, k _ _ (.inl rfl) e⟩
  | tup xs => obtain ⟨z, its, r, ob, e, c⟩ := x; exact ⟨z, its, r, ob, k _ _ (.inl rfl) e, c⟩
  | dK kvs => obtain ⟨z, y, vs, r, ob, es, ep, e, c⟩ := x; exact ⟨z, y, vs, r, ob, es, ep, k _ _ (.inl rfl) e, c⟩
  | dT kvs =>
    obtain ⟨z, y, xs, r, ob, es, ep, e, c⟩ := x
    exact ⟨z, y, xs, Paired.mapP r fun p q z => ⟨z.1, ht _ _ z.2.1, z.2.2⟩, ob, es, ep, k _ _ (.inl rfl) e, c⟩
  | set S n => obtain ⟨ob, es, ep, t, e, c⟩ := x; exact ⟨ob, es, ep, t, k _ _ (.inl rfl) e, c⟩
  | ins C dx fs =>
    obtain ⟨d, z, ne, e, mA, ⟨od, es, ep, e2, c⟩, r⟩ := x
    exact ⟨ho _ d, z, ne, k _ _ (.inl rfl) e, mA, ⟨od, es, ep, k _ _ (.inr d) e2, c⟩, r⟩
  | own y => obtain ⟨ob, e⟩ := x; exact ⟨ob, k _ _ (.inl rfl) e⟩
  | xd fs => obtain ⟨mA, ⟨od, es, ep, e, c⟩, r⟩ := x; exact ⟨mA, ⟨od, es, ep, k _ _ (.inl rfl) e, c⟩, r⟩
  | rng lo hi => obtain ⟨t, u, v, e⟩ := x; exact ⟨t, u, v, k _ _ (.inl rfl) e⟩
  | frz ob u ih => obtain ⟨e, q⟩ := x; exact ⟨k _ _ (.inl rfl) e, ih q⟩
  | tbl ps =>
    have e : h.get? a = some { cls := .none, data := .fields ps } := x
    show h'.get? a = some { cls := .none, data := .fields ps }
    exact k a _ (.inl rfl) e
  | met f y =>
    have e : h.get? a = some (PySem.W.methodObj (.ref f) (.ref y)) := x
    show h'.get? a = some (PySem.W.methodObj (.ref f) (.ref y))
    exact k a _ (.inl rfl) e
  | ext φ => obtain ⟨p, ⟨o, e⟩, st⟩ := x; exact ⟨st _ _ p fun o q => k _ _ (.inl rfl) q, ⟨o, k _ _ (.inl rfl) e⟩, st⟩
theorem HOk.lt (x : HOk P w H h) (e : H a = some o) : a < h.objs.size := (x a o e).lt
theorem HOk.fresh (x : HOk P w H h) (e : h.objs.size ≤ a) : H a = none := by
  cases q : H a with
  | none => rfl
  | some u => exact absurd (Nat.lt_of_lt_of_le (x.lt q) e) (Nat.lt_irrefl _)
/-- every object of the heap is kept -/
theorem HOk.kept (x : HOk P w H h) (k : ∀ b u, h.get? b = some u → h'.get? b = some u) : HOk P w H h' := fun a o e =>
  (x a o e).stay (fun b u _ q => k b u q) (fun _ q => q) fun _ _ q => q
/-- a new object is laid and tracked -/
theorem HOk.laid (x : HOk P w H h) (k : ∀ b u, h.get? b = some u → h'.get? b = some u) (hp : h.objs.size ≤ a) (new : ObjOk P w (upd H a o) h' a o) : HOk P w (upd H a o) h' := fun b u e => by
  have hn := x.fresh hp
  by_cases hb : b = a
  · subst hb; rw [upd_same] at e; cases e; exact new
  · rw [upd_ne hb] at e
    exact (x b u e).stay (fun c v _ q => k c v q) (fun c q => by rw [upd_ne (ne_of_none q hn)]; exact q) fun c xs q => by rw [upd_ne (ne_of_none q hn)]; exact q
end

/-- what may be read as u: it is u, or a known u -/
def Rd (H : Hp) (a : Addr) (u : HO) : Prop := H a = some u ∨ ∃ o, H a = some (.frz o u)
theorem Rd.ok {P : Program} {w : World} {H : Hp} {h : Heap} {a : Addr} {u : HO} (r : Rd H a u) (x : HOk P w H h) : ObjOk P w H h a u := by
  rcases r with r | ⟨o, r⟩
  · exact x a u r
  · obtain ⟨_, q⟩ := x a _ r
    exact q
/-- what may be written -/
def Mut : Option HO → Prop
  | some (.lst _) => True
  | some (.dK _) => True
  | some (.dT _) => True
  | some (.set _ _) => True
  | some (.ins _ _ _) => True
  | some (.ext _) => True
  | _ => False
section
variable {P : Program} {w : World} {H : Hp} {h h' : Heap} {x e : Addr} {o' : HO}
/-- the object at e is changed: x itself, or the dict of the instance x -/
theorem HOk.write (ok : HOk P w H h) (mu : Mut (H x)) (he : e = x ∨ H e = some (.own x)) (k : ∀ b u, b ≠ e → h.get? b = some u → h'.get? b = some u) (heo : ∃ u, h'.get? e = some u)
    (new : ObjOk P w (upd H x o') h' x o') : HOk P w (upd H x o') h' := fun b u q => by
  have nown : ∀ c y, H c = some (.own y) → c ≠ x := fun c y r z => by subst z; rw [r] at mu; exact mu
  have ntup : ∀ c xs, H c = some (.tup xs) → c ≠ x := fun c xs r z => by subst z; rw [r] at mu; exact mu
  by_cases hb : b = x
  · subst hb; rw [upd_same] at q; cases q; exact new
  · rw [upd_ne hb] at q
    by_cases hbe : b = e
    · have q' : H b = some (.own x) := by
        rcases he with z | z
        · exact absurd (hbe.trans z) hb
        · rw [hbe]; exact z
      rw [q] at q'; cases q'
      obtain ⟨v, hv⟩ := heo
      exact ⟨v, by rw [hbe]; exact hv⟩
    · refine (ok b u q).stay (fun c v hc r => k c v ?_ r) (fun c r => by rw [upd_ne (nown c b r)]; exact r) fun c xs r => by rw [upd_ne (ntup c xs r)]; exact r
      rcases hc with rfl | hc
      · exact hbe
      · rintro rfl
        rcases he with z | z
        · exact nown c b hc z
        · rw [hc] at z; cases z; exact hb rfl
end

/-! ### kept unless tracked; of the frames at fs (the callers') the slots may change (an exception that passes writes there); of the records at ex (iterators) nothing is said -/
structure Un (fs ex : List Addr) (H H' : Hp) (h h' : Heap) : Prop where
  keep : ∀ b o, h.get? b = some o → H b = none → b ∉ fs → b ∉ ex → h'.get? b = some o
  slot : ∀ b o, h.get? b = some o → H b = none → b ∈ fs → b ∉ ex → ∃ sl, h'.get? b = some { o with slots := sl }
  free : ∀ b o, h.get? b = some o → H b = none → b ∉ ex → H' b = none
  there : ∀ b o, h.get? b = some o → b ∉ ex → ∃ o', h'.get? b = some o'
  tups : ∀ b xs, H b = some (.tup xs) → H' b = some (.tup xs)
  frzs : ∀ b o u, H b = some (.frz o u) → H' b = some (.frz o u)
  tbls : ∀ b ps, H b = some (.tbl ps) → ∃ more, H' b = some (.tbl (ps ++ more))
section
variable {fs fs' ex ex' : List Addr} {H H1 H2 : Hp} {h h1 h2 h' : Heap} {a x e : Addr} {o : HO}
theorem Un.any (u : Un fs ex H H1 h h1) {b : Addr} {ob : Obj} (q : h.get? b = some ob) (n : H b = none) (hx : b ∉ ex) : ∃ sl, h1.get? b = some { ob with slots := sl } := by
  by_cases hb : b ∈ fs
  · exact u.slot b ob q n hb hx
  · exact ⟨ob.slots, u.keep b ob q n hb hx⟩
theorem Un.kept (k : ∀ b u, h.get? b = some u → h'.get? b = some u) : Un fs ex H H h h' :=
  ⟨fun b ob q _ _ _ => k b ob q, fun b ob q _ _ _ => ⟨ob.slots, k b ob q⟩, fun _ _ _ n _ => n, fun b ob q _ => ⟨ob, k b ob q⟩, fun _ _ q => q, fun _ _ _ q => q, fun _ ps q => ⟨#[], by rw [q]; simp⟩⟩
theorem Un.refl : Un fs ex H H h h := Un.kept fun _ _ q => q
theorem Un.laid (k : ∀ b u, h.get? b = some u → h'.get? b = some u) (hp : h.objs.size ≤ a) (hn : H a = none) : Un fs ex H (upd H a o) h h' where
  keep := fun b u q _ _ _ => k b u q
  slot := fun b u q _ _ _ => ⟨u.slots, k b u q⟩
  free := fun b u q n _ => by rw [upd_ne (Nat.ne_of_lt (Nat.lt_of_lt_of_le (Heap.lt_size q) hp))]; exact n
  there := fun b u q _ => ⟨u, k b u q⟩
  tups := fun b xs q => by rw [upd_ne (ne_of_none q hn)]; exact q
  frzs := fun b u xs q => by rw [upd_ne (ne_of_none q hn)]; exact q
  tbls := fun b ps q => ⟨#[], by rw [upd_ne (ne_of_none q hn), q]; simp⟩
theorem Un.write (mu : Mut (H x)) (he : e = x ∨ H e = some (.own x)) (k : ∀ b u, b ≠ e → h.get? b = some u → h'.get? b = some u) (heo : ∃ u, h'.get? e = some u) : Un fs ex H (upd H x o) h h' := by
  have hx : ∀ b, H b = none → b ≠ x := fun b n z => by subst z; rw [n] at mu; exact mu
  have hb : ∀ b, H b = none → b ≠ e := fun b n z => by
    subst z
    rcases he with r | r
    · exact hx b n r
    · rw [n] at r; cases r
  have hm : ∀ b u, H b = some u → ¬ Mut (some u) → b ≠ x := fun b u q nm z => by subst z; rw [q] at mu; exact nm mu
  refine ⟨fun b u q n _ _ => k b u (hb b n) q, fun b u q n _ _ => ⟨u.slots, k b u (hb b n) q⟩, fun b u q n _ => by rw [upd_ne (hx b n)]; exact n, fun b u q _ => ?_,
    fun b xs q => by rw [upd_ne (hm b _ q fun z => z)]; exact q, fun b u xs q => by rw [upd_ne (hm b _ q fun z => z)]; exact q, fun b ps q => ⟨#[], by rw [upd_ne (hm b _ q fun z => z), q]; simp⟩⟩
  by_cases hbe : b = e
  · subst hbe; exact heo
  · exact ⟨u, k b u hbe q⟩
end

/-! ### the heap without what is tracked -/
def trk (h : Heap) (H : Hp) : List Addr := (List.range h.objs.size).filter fun a => (H a).isSome
def hidT (h : Heap) (H : Hp) : Heap := PySem.W.hideAll h (trk h H)
theorem hidT_size (h : Heap) (H : Hp) : (hidT h H).objs.size = h.objs.size := PySem.W.hideAll_size _ _
theorem hidT_get {h : Heap} {H : Hp} {b : Addr} {o : Obj} (e : h.get? b = some o) (n : H b = none) : (hidT h H).get? b = some o :=
  PySem.W.hideAll_get _ e fun hm => by
    have q : (H b).isSome = true := (List.mem_filter.mp hm).2
    rw [n] at q; simp at q
theorem of_hidT {h : Heap} {H : Hp} {b : Addr} {o : Obj} (e : (hidT h H).get? b = some o) : h.get? b = some o ∧ H b = none := by
  have e' : h.get? b = some o := PySem.W.of_hideAll (trk h H) e
  refine ⟨e', ?_⟩
  cases q : H b with
  | none => rfl
  | some x =>
    have hm : b ∈ trk h H := List.mem_filter.mpr ⟨List.mem_range.mpr (Heap.lt_size e'), by simp [q]⟩
    have z : (hidT h H).get? b = none := PySem.W.hideAll_none (trk h H) hm
    rw [z] at e; cases e

/-! ### OpenK's ledger, filled with every new object but one -/
def allNews (g h : Heap) (L : Addr) : List (Addr × Obj) := (List.range h.objs.size).filterMap fun a => if a = L ∨ (g.get? a).isSome = true then none else (h.get? a).map fun o => (a, o)
def rest (g h : Heap) (L d : Addr) : List (Addr × Obj) := (allNews g h L).filter fun p => decide (p.1 ≠ d)
end L2

namespace L2
open PySem PySem.Spec PyProof.Rows

/-- the module's facts, over the base: the heap at the law's entry without what is tracked there -/
structure Mod (K : PySem.W.Frag) (mg : Str → Option Value) (base : Heap) : Prop where
  kin : K.In base
  glob : base.Ns mainGlobals mg
  blt : ∃ mb, base.Ns builtinsNs mb ∧ ∀ x : Str, x ≠ "__name__" → mb x = bootBuiltins x
  nolimit : base.NoLimit

/-- the context: a def's body (or a comprehension's block) running. base: fixed through the whole law; s₀, H₀: the entry; outer: the frames whose slots others may change (a def's callers); stack: all frames that run;
   ex: iterators that were made ahead of the entry and are walked here (a comprehension's); fn: the names whose cells were made at the entry (a def: all; a comprehension's block: its own); calm: not within an except suite; pn: pins that every state bears; xe: what is wanted of an exception that leaves the code -/
structure Cx where
  prog : Program
  w : World
  K : PySem.W.Frag
  mg : Str → Option Value
  base : Heap
  A : Around
  N : List Str
  s₀ : Shared
  H₀ : Hp
  env : Env
  outer : List Env
  stack : List Env
  ex : List Addr
  fn : Str → Bool
  calm : Bool
  pn : List (Addr × Obj)
  xe : Value → Shared → Prop
/-- the callers' frames -/
def frs (l : List Env) : List Addr := l.filterMap (·.frame)
abbrev Cx.fs (X : Cx) : List Addr := frs X.outer

def Vis (sc : Scope) (x : Str) : Prop := sc.names.lookup x = some .local ∨ sc.names.lookup x = some .cell ∨ sc.names.lookup x = some .free
def Loc (sc : Scope) (x : Str) : Prop := sc.names.lookup x = some .local ∨ sc.names.lookup x = some .cell
def Look (env : Env) (h : Heap) (m : Str → Option Value) (x : Str) (u : Value) : Prop :=
  (env.kindOf x = some .local ∧ m x = some u) ∨ ((env.kindOf x = some .cell ∨ env.kindOf x = some .free) ∧ ∃ c, env.cells.lookup x = some c ∧ h.IsCell c (some u))

structure Cx.Ok (X : Cx) : Prop where
  mod : Mod X.K X.mg X.base
  kind : X.env.scope.kind = .function
  glob : X.env.globals = mainGlobals
  blt : X.env.builtins = builtinsNs
  above : X.s₀.heap.objs.size ≤ X.env.locals
  inj : ∀ x y c, X.env.cells.lookup x = some c → X.env.cells.lookup y = some c → x = y
  has : ∀ x, (X.env.kindOf x = some .cell ∨ X.env.kindOf x = some .free) → ∃ c, X.env.cells.lookup x = some c
  cab : ∀ x c, X.fn x = true → X.env.cells.lookup x = some c → X.s₀.heap.objs.size ≤ c
  hd : X.calm = true → X.A.handled = none
  frames : X.A.frames = some X.stack
  stk : X.stack = X.outer ∨ (X.stack = X.env :: X.outer ∧ X.env.frame = some X.env.locals)
  exf : ∀ b ∈ X.ex, b ≠ X.env.locals ∧ ∀ x c, X.env.cells.lookup x = some c → c ≠ b
  bs : ∀ b o, X.base.get? b = some o → X.s₀.heap.get? b = some o ∧ X.H₀ b = none
  bsz : X.base.objs.size ≤ X.s₀.heap.objs.size
  noex : ∀ b o, X.base.get? b = some o → b ∉ X.ex
  exfs : ∀ b ∈ X.ex, b ∉ X.fs
  funs : X.s₀.heap.FunFrames X.base X.outer
  frf : ∀ b ∈ X.fs, X.H₀ b = none

structure Inv (X : Cx) (pins : List (Addr × Obj)) (σ : List (Option V)) (H : Hp) (s : Shared) : Prop where
  ok : X.Ok
  os : s.os = X.s₀.os
  bare : AllBare s.gens
  base : Un X.fs X.ex X.H₀ H X.s₀.heap s.heap
  loc : ∃ m, s.heap.Ns X.env.locals m ∧ ∀ (i : Nat) (x : Str) (v : V), X.N[i]? = some x → σ[i]? = some (some v) → Vis X.env.scope x → ∃ u, RelV v u ∧ Look X.env s.heap m x u
  cell : ∀ x c, X.env.cells.lookup x = some c → ∃ v, s.heap.IsCell c v
  free : H X.env.locals = none
  freeC : ∀ x c, X.env.cells.lookup x = some c → H c = none
  pin : ∀ p ∈ X.pn ++ pins, s.heap.get? p.1 = some p.2 ∧ H p.1 = none ∧ p.1 ≠ X.env.locals ∧ p.1 ∉ X.fs ∧ ∀ v, p.2.data ≠ .cell v
  hok : HOk X.prog X.w H s.heap
  len : σ.length = X.N.length

section
variable {X : Cx} {pins : List (Addr × Obj)} {σ : List (Option V)} {H H' : Hp} {s : Shared} {h' : Heap}

theorem Cx.Ok.nofr (ok : X.Ok) {b : Addr} {o : Obj} (e : X.base.get? b = some o) : b ∉ X.fs := fun hb => by
  have := (ok.funs.mem hb).1
  rw [e] at this; cases this
theorem Inv.bs (I : Inv X pins σ H s) : ∀ b o, X.base.get? b = some o → s.heap.get? b = some o ∧ H b = none := fun b o e =>
  ⟨I.base.keep b o (I.ok.bs b o e).1 (I.ok.bs b o e).2 (I.ok.nofr e) (I.ok.noex b o e), I.base.free b o (I.ok.bs b o e).1 (I.ok.bs b o e).2 (I.ok.noex b o e)⟩
theorem Inv.bk (I : Inv X pins σ H s) : ∀ b o, X.base.get? b = some o → s.heap.get? b = some o := fun b o e => (I.bs b o e).1
theorem Inv.mod (I : Inv X pins σ H s) : Mod X.K X.mg X.base := I.ok.mod
theorem Inv.kIn (I : Inv X pins σ H s) : X.K.In s.heap := I.ok.mod.kin.keeps I.bk
theorem Inv.lt (I : Inv X pins σ H s) : X.env.locals < s.heap.objs.size := let ⟨_, hn, _⟩ := I.loc; hn.lt
theorem Inv.sz (I : Inv X pins σ H s) : X.s₀.heap.objs.size ≤ s.heap.objs.size := Nat.le_trans I.ok.above (Nat.le_of_lt I.lt)
theorem Inv.nofs (I : Inv X pins σ H s) {a : Addr} (h : s.heap.objs.size ≤ a) : a ∉ X.fs := fun hb => by
  obtain ⟨_, o, ho, _⟩ := I.ok.funs.mem hb
  exact absurd (Nat.lt_of_lt_of_le (Heap.lt_size ho) (Nat.le_trans I.sz h)) (Nat.lt_irrefl _)
theorem Inv.cne (I : Inv X pins σ H s) : ∀ x c, X.env.cells.lookup x = some c → c ≠ X.env.locals := fun x c e z => by
  obtain ⟨v, o, ho, hd⟩ := I.cell x c e
  obtain ⟨m, ⟨o', es, ep, ho', hd', _⟩, _⟩ := I.loc
  rw [z, ho'] at ho; cases ho; rw [hd'] at hd; cases hd
theorem Inv.funs (I : Inv X pins σ H s) : s.heap.FunFrames X.base X.outer := by
  have all : ∀ (l : List Env), (∀ b ∈ frs l, b ∈ X.fs) → X.s₀.heap.FunFrames X.base l → s.heap.FunFrames X.base l := by
    intro l
    induction l with
    | nil => intro _ _; trivial
    | cons env r ih =>
      intro hs hl
      obtain ⟨hk, ⟨L, o, hf, hn, ho, hd⟩, hr⟩ := hl
      have hL : L ∈ X.fs := hs L (by unfold frs; rw [List.filterMap_cons, hf]; exact List.mem_cons_self)
      obtain ⟨sl, e⟩ := I.base.slot L o ho (I.ok.frf L hL) hL fun z => I.ok.exfs L z hL
      exact ⟨hk, ⟨L, _, hf, hn, e, hd⟩, ih (fun b hb => hs b (by unfold frs; rw [List.filterMap_cons, hf]; exact List.mem_cons_of_mem _ hb)) hr⟩
  exact all X.outer (fun _ hb => hb) I.ok.funs

/-- the frames that run, for a call -/
theorem Inv.stack (I : Inv X pins σ H s) : s.heap.FunFrames X.base X.stack := by
  rcases I.ok.stk with e | ⟨e, hf⟩
  · rw [e]; exact I.funs
  · rw [e]
    obtain ⟨m, hn, _⟩ := I.loc
    refine .cons (by rw [I.ok.kind]; decide) hf hn ?_ I.funs
    exact Heap.get?_none_of_le (Nat.le_trans I.ok.bsz I.ok.above)
theorem Inv.stkSub (I : Inv X pins σ H s) : ∀ b ∈ frs X.stack, b ∈ X.env.locals :: X.fs := fun b hb => by
  rcases I.ok.stk with e | ⟨e, hf⟩
  · rw [e] at hb; exact List.mem_cons_of_mem _ hb
  · rw [e] at hb
    unfold frs at hb
    rw [List.filterMap_cons, hf] at hb
    exact hb
theorem Inv.stkFree (I : Inv X pins σ H s) : ∀ b ∈ frs X.stack, H b = none := fun b hb => by
  rcases List.mem_cons.mp (I.stkSub b hb) with e | hb
  · rw [e]; exact I.free
  · obtain ⟨_, o, ho, _⟩ := I.ok.funs.mem hb
    exact I.base.free b o ho (I.ok.frf b hb) fun z => I.ok.exfs b z hb

/-- THE STEP: the untracked objects but the frame and the records at ch are kept (the callers' frames up to slots), the frame's map is kept, the new abstract heap is held -/
theorem Inv.step {g' : Array GenState} {t' : Nat} {d' : Drawn} {ch : List Addr} (I : Inv X pins σ H s)
    (hch : ∀ b ∈ ch, (b ∈ X.ex ∨ X.s₀.heap.objs.size ≤ b) ∧ b ≠ X.env.locals ∧ (∀ x c, X.env.cells.lookup x = some c → c ≠ b) ∧ ∀ p ∈ X.pn ++ pins, p.1 ≠ b)
    (keep : ∀ b o, b ≠ X.env.locals → b ∉ X.fs → b ∉ ch → s.heap.get? b = some o → H b = none → h'.get? b = some o)
    (slot : ∀ b o, b ≠ X.env.locals → b ∈ X.fs → b ∉ ch → s.heap.get? b = some o → H b = none → ∃ sl, h'.get? b = some { o with slots := sl }) (free : ∀ b o, b ∉ ch → s.heap.get? b = some o → H b = none → H' b = none)
    (there : ∀ b o, b ∉ ch → s.heap.get? b = some o → ∃ o', h'.get? b = some o')
    (tups : ∀ b xs, H b = some (.tup xs) → H' b = some (.tup xs)) (frzs : ∀ b o u, H b = some (.frz o u) → H' b = some (.frz o u)) (tbls : ∀ b ps, H b = some (.tbl ps) → ∃ more, H' b = some (.tbl (ps ++ more)))
    (ns : ∀ m, s.heap.Ns X.env.locals m → h'.Ns X.env.locals m) (hok : HOk X.prog X.w H' h') (hg : AllBare g') :
    Inv X pins σ H' { s with heap := h', gens := g', drawn := d', toks := t' } := by
  have neL : ∀ b o, X.s₀.heap.get? b = some o → b ≠ X.env.locals := fun b o e => Nat.ne_of_lt (Nat.lt_of_lt_of_le (Heap.lt_size e) I.ok.above)
  have neC : ∀ b o, X.s₀.heap.get? b = some o → b ∉ X.ex → b ∉ ch := fun b o e hx hb => by
    rcases (hch b hb).1 with z | z
    · exact hx z
    · exact absurd (Nat.lt_of_lt_of_le (Heap.lt_size e) z) (Nat.lt_irrefl _)
  have cellK : ∀ x c, X.env.cells.lookup x = some c → ∀ v, s.heap.IsCell c v → h'.IsCell c v := fun x c e v ⟨o, ho, hd⟩ => by
    have nch : c ∉ ch := fun z => (hch c z).2.2.1 x c e rfl
    by_cases hc : c ∈ X.fs
    · obtain ⟨sl, q⟩ := slot c o (I.cne x c e) hc nch ho (I.freeC x c e)
      exact ⟨_, q, hd⟩
    · exact ⟨o, keep c o (I.cne x c e) hc nch ho (I.freeC x c e), hd⟩
  refine ⟨I.ok, I.os, hg, ⟨fun b o e n hb hx => ?_, fun b o e n hb hx => ?_, fun b o e n hx => ?_, fun b o e hx => ?_, fun b xs e => tups b xs (I.base.tups b xs e), fun b o xs e => frzs b o xs (I.base.frzs b o xs e), fun b ps e => ?_⟩, ?_, fun x c e => ?_, ?_, fun x c e => ?_, fun p hp => ?_, hok, I.len⟩
  · exact keep b o (neL b o e) hb (neC b o e hx) (I.base.keep b o e n hb hx) (I.base.free b o e n hx)
  · obtain ⟨sl, e1⟩ := I.base.slot b o e n hb hx
    obtain ⟨sl', e2⟩ := slot b _ (neL b o e) hb (neC b o e hx) e1 (I.base.free b o e n hx)
    exact ⟨sl', e2⟩
  · obtain ⟨o', e1⟩ := I.base.there b o e hx
    exact free b o' (neC b o e hx) e1 (I.base.free b o e n hx)
  · obtain ⟨o', e1⟩ := I.base.there b o e hx
    exact there b o' (neC b o e hx) e1
  · obtain ⟨m1, e1⟩ := I.base.tbls b ps e
    obtain ⟨m2, e2⟩ := tbls b _ e1
    exact ⟨m1 ++ m2, by rw [e2, Array.append_assoc]⟩
  · obtain ⟨m, hn, hl⟩ := I.loc
    refine ⟨m, ns m hn, fun i x v e1 e2 e3 => ?_⟩
    obtain ⟨u, r, l⟩ := hl i x v e1 e2 e3
    refine ⟨u, r, ?_⟩
    rcases l with l | ⟨k, c, e, z⟩
    · exact .inl l
    · exact .inr ⟨k, c, e, cellK x c e _ z⟩
  · obtain ⟨v, z⟩ := I.cell x c e
    exact ⟨v, cellK x c e v z⟩
  · obtain ⟨m, ⟨o, _, _, ho, _⟩, _⟩ := I.loc
    exact free _ o (fun z => (hch _ z).2.1 rfl) ho I.free
  · obtain ⟨v, o, ho, hd⟩ := I.cell x c e
    exact free c o (fun z => (hch c z).2.2.1 x c e rfl) ho (I.freeC x c e)
  · obtain ⟨e, n, ne, nf, d⟩ := I.pin p hp
    have nch : p.1 ∉ ch := fun z => (hch p.1 z).2.2.2 p hp rfl
    exact ⟨keep p.1 p.2 ne nf nch e n, free p.1 p.2 nch e n, ne, nf, d⟩
/-- .. where the frame's own object is kept too -/
theorem Inv.un {t' : Nat} (I : Inv X pins σ H s) (u : Un X.fs [] H H' s.heap h') (hok : HOk X.prog X.w H' h') : Inv X pins σ H' { s with heap := h', toks := t' } := by
  obtain ⟨m, ⟨o, es, ep, ho, r⟩, _⟩ := id I.loc
  obtain ⟨sl, hL⟩ := u.any ho I.free (by simp)
  exact I.step (g' := s.gens) (d' := s.drawn) (ch := []) (fun _ z => nomatch z) (fun b o _ hb _ e n => u.keep b o e n hb (by simp)) (fun b o _ hb _ e n => u.slot b o e n hb (by simp)) (fun b o _ e n => u.free b o e n (by simp)) (fun b o _ e => u.there b o e (by simp)) u.tups u.frzs u.tbls (fun m' hm => by
    obtain ⟨o', es', ep', ho', r'⟩ := hm
    rw [ho] at ho'; cases ho'
    exact ⟨_, es', ep', hL, r'⟩) hok I.bare
/-- behind a call (or a comprehension's block): the slots of this frame may have changed too, the records at ch may have turned -/
theorem Inv.call {g' : Array GenState} {t' : Nat} {d' : Drawn} {ch : List Addr} (I : Inv X pins σ H s) (u : Un (frs X.stack) ch H H' s.heap h') (hok : HOk X.prog X.w H' h') (hg : AllBare g')
    (hch : ∀ b ∈ ch, (b ∈ X.ex ∨ X.s₀.heap.objs.size ≤ b) ∧ b ≠ X.env.locals ∧ (∀ x c, X.env.cells.lookup x = some c → c ≠ b) ∧ ∀ p ∈ X.pn ++ pins, p.1 ≠ b) :
    Inv X pins σ H' { s with heap := h', gens := g', drawn := d', toks := t' } := by
  obtain ⟨m, ⟨o, es, ep, ho, r⟩, _⟩ := id I.loc
  obtain ⟨sl, hL⟩ := u.any ho I.free fun z => (hch _ z).2.1 rfl
  exact I.step (ch := ch) hch (fun b o hL hb hc e n => u.keep b o e n (fun z => (List.mem_cons.mp (I.stkSub b z)).elim hL hb) hc) (fun b o _ _ hc e n => u.any e n hc) (fun b o hc e n => u.free b o e n hc) (fun b o hc e => u.there b o e hc) u.tups u.frzs u.tbls (fun m' hm => by
    obtain ⟨o', es', ep', ho', r'⟩ := hm
    rw [ho] at ho'; cases ho'
    exact ⟨_, es', ep', hL, r'⟩) hok hg
/-- an untracked record of ours (an iterator) has turned -/
theorem Inv.turned {t' : Nat} {it : Addr} (I : Inv X pins σ H s) (k : ∀ b o, b ≠ it → s.heap.get? b = some o → h'.get? b = some o) (hn : H it = none) (hL : it ≠ X.env.locals)
    (h1 : it ∈ X.ex ∨ X.s₀.heap.objs.size ≤ it) (h2 : ∀ x c, X.env.cells.lookup x = some c → c ≠ it) (h3 : ∀ p ∈ X.pn ++ pins, p.1 ≠ it) : Inv X pins σ H { s with heap := h', toks := t' } := by
  have nit : ∀ b u, H b = some u → b ≠ it := fun b u e z => by rw [z, hn] at e; cases e
  refine I.step (g' := s.gens) (d' := s.drawn) (ch := [it]) (fun b hb => ?_) (fun b o _ _ hc e _ => k b o (fun z => hc (by simp [z])) e) (fun b o _ _ hc e _ => ⟨o.slots, k b o (fun z => hc (by simp [z])) e⟩) (fun _ _ _ _ n => n)
    (fun b o hc e => ⟨o, k b o (fun z => hc (by simp [z])) e⟩) (fun _ _ e => e) (fun _ _ _ e => e) (fun b ps e => ⟨#[], by rw [e]; simp⟩) (fun m hm => ?_) (fun b u e => ?_) I.bare
  · have e : b = it := by simpa using hb
    subst e
    exact ⟨h1, hL, h2, h3⟩
  · obtain ⟨o, es, ep, ho, r⟩ := hm
    exact ⟨o, es, ep, k _ o (Ne.symm hL) ho, r⟩
  · refine (I.hok b u e).stay (fun c v hc q => k c v ?_ q) (fun _ q => q) fun _ _ q => q
    rcases hc with z | z
    · rw [z]; exact nit b u e
    · exact nit c _ z
theorem Inv.tok (I : Inv X pins σ H s) (t : Nat) : Inv X pins σ H { s with toks := t } := I.un (h' := s.heap) (t' := t) Un.refl I.hok
/-- all objects kept -/
theorem Inv.kept {t' : Nat} (I : Inv X pins σ H s) (k : ∀ b u, s.heap.get? b = some u → h'.get? b = some u) : Inv X pins σ H { s with heap := h', toks := t' } := I.un (Un.kept k) (I.hok.kept k)
/-- a new object laid and tracked -/
theorem Inv.laid {a : Addr} {o : HO} {t' : Nat} (I : Inv X pins σ H s) (k : ∀ b u, s.heap.get? b = some u → h'.get? b = some u) (hp : s.heap.objs.size ≤ a) (new : ObjOk X.prog X.w (upd H a o) h' a o) :
    Inv X pins σ (upd H a o) { s with heap := h', toks := t' } := I.un (Un.laid k hp (I.hok.fresh hp)) (I.hok.laid k hp new)
/-- an object written -/
theorem Inv.write {x e : Addr} {o : HO} {t' : Nat} (I : Inv X pins σ H s) (mu : Mut (H x)) (he : e = x ∨ H e = some (.own x)) (k : ∀ b u, b ≠ e → s.heap.get? b = some u → h'.get? b = some u) (heo : ∃ u, h'.get? e = some u)
    (new : ObjOk X.prog X.w (upd H x o) h' x o) : Inv X pins σ (upd H x o) { s with heap := h', toks := t' } := I.un (Un.write mu he k heo) (I.hok.write mu he k heo new)
theorem Inv.pins_of {pins' : List (Addr × Obj)} (I : Inv X pins σ H s) (h : ∀ p ∈ pins', s.heap.get? p.1 = some p.2 ∧ H p.1 = none ∧ p.1 ≠ X.env.locals ∧ p.1 ∉ X.fs ∧ ∀ v, p.2.data ≠ .cell v) : Inv X pins' σ H s :=
  ⟨I.ok, I.os, I.bare, I.base, I.loc, I.cell, I.free, I.freeC, fun p hp => (List.mem_append.mp hp).elim (fun z => I.pin p (List.mem_append_left _ z)) (h p), I.hok, I.len⟩

theorem nodup_ix {N : List Str} (hN : N.Nodup) {i j : Nat} {x : Str} (a : N[i]? = some x) (b : N[j]? = some x) : i = j := by
  obtain ⟨h1, e1⟩ := List.getElem?_eq_some_iff.mp a
  obtain ⟨h2, e2⟩ := List.getElem?_eq_some_iff.mp b
  exact (List.getElem_inj hN).mp (e1.trans e2.symm)

/-- a name is stored; what changed -/
theorem store_ok2 {M : Model} {A : Around} {E : Value → Shared → Prop} {i : Nat} {x : Str} {v : V} {u : Value} {Q : Unit → Shared → Prop} (I : Inv X pins σ H s) (hN : X.N.Nodup) (hi : X.N[i]? = some x) (hx : Loc X.env.scope x) (r : RelV v u)
    (h : ∀ s', Inv X pins (σ.set i (some v)) H s' → (∃ a, Heap.SameBut a s.heap s'.heap ∧ (a = X.env.locals ∨ X.env.cells.lookup x = some a)) → Q () s') (hf : X.fn x = true ∨ X.env.scope.names.lookup x = some .local := by first | exact .inl rfl | exact .inr rfl | assumption) : wpAny M A (storeName X.env x u) Q E s := by
  obtain ⟨m, hn, hl⟩ := id I.loc
  have hcls : (X.env.scope.kind == .class || (X.env.scope.kind == .module && X.env.locals != X.env.globals)) = false := by rw [I.ok.kind]; rfl
  have hiσ : i < σ.length := by rw [I.len]; exact (List.getElem?_eq_some_iff.mp hi).1
  have cne := I.cne
  have tracked : ∀ {a : Addr} {h' : Heap}, (∃ o, s.heap.get? a = some o ∧ H a = none) → Heap.SameBut a s.heap h' → HOk X.prog X.w H h' := fun {a h'} ha hs b ob e => by
    obtain ⟨_, _, hfree⟩ := ha
    refine (I.hok b ob e).stay (fun c w' hc q => (hs.2 c ?_).trans q) (fun _ q => q) fun _ _ q => q
    rintro rfl
    rcases hc with rfl | hc
    · rw [hfree] at e; cases e
    · rw [hfree] at hc; cases hc
  rcases hx with hk | hk
  · refine wpAny_storeName_local hk hn (fun h' hn' hs => ?_) hcls
    obtain ⟨oL, _, _, hoL, _⟩ := id hn
    refine h _ ⟨I.ok, I.os, I.bare, ⟨fun b o e n hb hx => ?_, fun b o e n hb hx => ?_, I.base.free, fun b o e hx => ?_, I.base.tups, I.base.frzs, I.base.tbls⟩, ⟨_, hn', fun j y v' e1 e2 e3 => ?_⟩, fun y c e => ?_, I.free, I.freeC, fun p hp => ?_, tracked ⟨oL, hoL, I.free⟩ hs, by simpa using I.len⟩ ⟨_, hs, .inl rfl⟩
    · exact (hs.2 b (Nat.ne_of_lt (Nat.lt_of_lt_of_le (Heap.lt_size e) I.ok.above))).trans (I.base.keep b o e n hb hx)
    · obtain ⟨sl, e1⟩ := I.base.slot b o e n hb hx
      exact ⟨sl, (hs.2 b (Nat.ne_of_lt (Nat.lt_of_lt_of_le (Heap.lt_size e) I.ok.above))).trans e1⟩
    · obtain ⟨o', e1⟩ := I.base.there b o e hx
      exact ⟨o', (hs.2 b (Nat.ne_of_lt (Nat.lt_of_lt_of_le (Heap.lt_size e) I.ok.above))).trans e1⟩
    · by_cases hj : j = i
      · subst hj
        rw [hi] at e1; cases e1
        rw [List.getElem?_set_self hiσ] at e2
        cases e2
        exact ⟨u, r, .inl ⟨hk, by simp⟩⟩
      · rw [List.getElem?_set_ne (Ne.symm hj)] at e2
        obtain ⟨u', r', q⟩ := hl j y v' e1 e2 e3
        refine ⟨u', r', ?_⟩
        rcases q with ⟨k, e⟩ | ⟨k, c, e, z⟩
        · refine .inl ⟨k, ?_⟩
          have : y ≠ x := fun e => hj (nodup_ix hN e1 (e ▸ hi))
          simp [this, e]
        · exact .inr ⟨k, c, e, z.sameBut hs (cne y c e)⟩
    · obtain ⟨w', z⟩ := I.cell y c e
      exact ⟨w', z.sameBut hs (cne y c e)⟩
    · obtain ⟨e, n, ne, nf, d⟩ := I.pin p hp
      exact ⟨(hs.2 p.1 ne).trans e, n, ne, nf, d⟩
  · have hfn : X.fn x = true := by
      rcases hf with z | z
      · exact z
      · rw [z] at hk; cases hk
    obtain ⟨c, hc⟩ := I.ok.has x (.inl hk)
    obtain ⟨w', z⟩ := I.cell x c hc
    refine wpAny_storeName_cell I.ok.kind hk hc z (fun h' hc' hs => ?_)
    obtain ⟨oc, hoc, hocd⟩ := id z
    refine h { s with heap := h' } ⟨I.ok, I.os, I.bare, ⟨fun b o e n hb hx => ?_, fun b o e n hb hx => ?_, I.base.free, fun b o e hx => ?_, I.base.tups, I.base.frzs, I.base.tbls⟩, ⟨m, hn.sameBut hs (Ne.symm (cne x c hc)), fun j y v' e1 e2 e3 => ?_⟩, fun y c' e => ?_, I.free, I.freeC, fun p hp => ?_, tracked ⟨oc, hoc, I.freeC x c hc⟩ hs, by simpa using I.len⟩ ⟨c, hs, .inr hc⟩
    · exact (hs.2 b (Nat.ne_of_lt (Nat.lt_of_lt_of_le (Heap.lt_size e) (I.ok.cab x c hfn hc)))).trans (I.base.keep b o e n hb hx)
    · obtain ⟨sl, e1⟩ := I.base.slot b o e n hb hx
      exact ⟨sl, (hs.2 b (Nat.ne_of_lt (Nat.lt_of_lt_of_le (Heap.lt_size e) (I.ok.cab x c hfn hc)))).trans e1⟩
    · obtain ⟨o', e1⟩ := I.base.there b o e hx
      exact ⟨o', (hs.2 b (Nat.ne_of_lt (Nat.lt_of_lt_of_le (Heap.lt_size e) (I.ok.cab x c hfn hc)))).trans e1⟩
    · by_cases hj : j = i
      · subst hj
        rw [hi] at e1; cases e1
        rw [List.getElem?_set_self hiσ] at e2
        cases e2
        exact ⟨u, r, .inr ⟨.inl hk, c, hc, hc'⟩⟩
      · rw [List.getElem?_set_ne (Ne.symm hj)] at e2
        obtain ⟨u', r', q⟩ := hl j y v' e1 e2 e3
        refine ⟨u', r', ?_⟩
        rcases q with q | ⟨k, c', e, z'⟩
        · exact .inl q
        · refine .inr ⟨k, c', e, z'.sameBut hs ?_⟩
          rintro rfl
          exact hj (nodup_ix hN e1 (I.ok.inj _ _ _ e hc ▸ hi))
    · by_cases hcc : c' = c
      · subst hcc; exact ⟨_, hc'⟩
      · obtain ⟨w2, z2⟩ := I.cell y c' e
        exact ⟨w2, z2.sameBut hs hcc⟩
    · obtain ⟨e, n, ne, nf, d⟩ := I.pin p hp
      refine ⟨(hs.2 p.1 ?_).trans e, n, ne, nf, d⟩
      intro q
      rw [q, hoc] at e
      have q' : oc = p.2 := Option.some.inj e
      exact d w' (by rw [← q']; exact hocd)
theorem store_ok {M : Model} {A : Around} {E : Value → Shared → Prop} {i : Nat} {x : Str} {v : V} {u : Value} {Q : Unit → Shared → Prop} (I : Inv X pins σ H s) (hN : X.N.Nodup) (hi : X.N[i]? = some x) (hx : Loc X.env.scope x) (r : RelV v u)
    (h : ∀ s', Inv X pins (σ.set i (some v)) H s' → Q () s') (hf : X.fn x = true ∨ X.env.scope.names.lookup x = some .local := by first | exact .inl rfl | exact .inr rfl | assumption) : wpAny M A (storeName X.env x u) Q E s :=
  store_ok2 I hN hi hx r (fun s' I' _ => h s' I') hf
/-- behind a call or a block, the state as it is -/
theorem Inv.call' {s' : Shared} {ch : List Addr} (I : Inv X pins σ H s) (ho : s'.os = s.os) (u : Un (frs X.stack) ch H H' s.heap s'.heap) (hok : HOk X.prog X.w H' s'.heap) (hg : AllBare s'.gens)
    (hch : ∀ b ∈ ch, (b ∈ X.ex ∨ X.s₀.heap.objs.size ≤ b) ∧ b ≠ X.env.locals ∧ (∀ x c, X.env.cells.lookup x = some c → c ≠ b) ∧ ∀ p ∈ X.pn ++ pins, p.1 ≠ b) : Inv X pins σ H' s' := by
  obtain ⟨h', g', d', t', o'⟩ := s'
  have e : o' = s.os := ho
  subst e
  exact I.call (g' := g') (t' := t') (d' := d') u hok hg hch
end

/-! ### the judgements -/
/-- an exception: its class, its own dict's address (where it has one), the abstract heap behind it -/
abbrev XK := Value → Option Addr → Hp → Prop
abbrev St := List (Option V)
abbrev VK := V → Hp → Prop
/-- an expression's reading; a test's; an argument list's -/
abbrev TE := St → Hp → VK → Prop
abbrev TT := St → Hp → (Bool → Hp → Prop) → Prop
abbrev TA := St → Hp → (List V → Hp → Prop) → Prop
/-- what is wanted behind a statement -/
structure Ends where
  nx : St → Hp → Prop
  rt : VK
  bk : St → Hp → Prop := fun _ _ => False
  ct : St → Hp → Prop := fun _ _ => False
abbrev TS := Ends → St → Hp → Prop

def EP (X : Cx) (pins : List (Addr × Obj)) (σ : St) (Q : VK) (u : Value) (s' : Shared) : Prop := ∃ v H', Inv X pins σ H' s' ∧ RelV v u ∧ Q v H'
def TP (X : Cx) (pins : List (Addr × Obj)) (σ : St) (Q : Bool → Hp → Prop) (b : Bool) (s' : Shared) : Prop := ∃ H', Inv X pins σ H' s' ∧ Q b H'
def AP (X : Cx) (pins : List (Addr × Obj)) (σ : St) (Q : List V → Hp → Prop) (us : List Value) (s' : Shared) : Prop := ∃ vs H', Inv X pins σ H' s' ∧ Vals vs us ∧ Q vs H'
def SP (X : Cx) (pins : List (Addr × Obj)) (D : Ends) (f : Flow) (s' : Shared) : Prop :=
  match f with
  | .next => ∃ σ' H', Inv X pins σ' H' s' ∧ D.nx σ' H'
  | .brk => ∃ σ' H', Inv X pins σ' H' s' ∧ D.bk σ' H'
  | .cont => ∃ σ' H', Inv X pins σ' H' s' ∧ D.ct σ' H'
  | .ret u => ∃ v σ' H', Inv X pins σ' H' s' ∧ RelV v u ∧ D.rt v H'

def PE (X : Cx) (e : Expr) (t : TE) : Prop :=
  ∀ (pins : List (Addr × Obj)) (s : Shared) (σ : St) (H : Hp) (Q : VK), Inv X pins σ H s → t σ H Q → wpAny (model X.prog X.w) X.A (eval e X.env) (EP X pins σ Q) X.xe s
def PT (X : Cx) (e : Expr) (t : TT) : Prop :=
  ∀ (pins : List (Addr × Obj)) (s : Shared) (σ : St) (H : Hp) (Q : Bool → Hp → Prop), Inv X pins σ H s → t σ H Q → wpAny (model X.prog X.w) X.A (isTrue e X.env (eval e X.env)) (TP X pins σ Q) X.xe s
/-- a test whatever its 'whole' is (and, or) -/
def PW (X : Cx) (e : Expr) (t : TT) : Prop :=
  ∀ (whole : Sem Value) (pins : List (Addr × Obj)) (s : Shared) (σ : St) (H : Hp) (Q : Bool → Hp → Prop), Inv X pins σ H s → t σ H Q → wpAny (model X.prog X.w) X.A (isTrue e X.env whole) (TP X pins σ Q) X.xe s
theorem PW.pt {X : Cx} {e : Expr} {t : TT} (h : PW X e t) : PT X e t := h _
/-- an argument list (no star), from the left -/
def PA (X : Cx) (es : List Expr) (t : TA) : Prop :=
  ∀ (pos : Pos) (pins : List (Addr × Obj)) (s : Shared) (σ : St) (H : Hp) (Q : List V → Hp → Prop), Inv X pins σ H s → t σ H Q → wpAny (model X.prog X.w) X.A (spliced (backTo pos (starEach es X.env))) (AP X pins σ Q) X.xe s
def PS (X : Cx) (st : Stmt) (t : TS) : Prop :=
  ∀ (pins : List (Addr × Obj)) (s : Shared) (σ : St) (H : Hp) (D : Ends), Inv X pins σ H s → t D σ H → wpAny (model X.prog X.w) X.A (exec st X.env) (SP X pins D) X.xe s
def PSs (X : Cx) (st : List Stmt) (t : TS) : Prop :=
  ∀ (pins : List (Addr × Obj)) (s : Shared) (σ : St) (H : Hp) (D : Ends), Inv X pins σ H s → t D σ H → wpAny (model X.prog X.w) X.A (execs st X.env) (SP X pins D) X.xe s
/-- weaken the end -/
theorem thn {α : Type} {t : Sem α} {Q Q' : α → Shared → Prop} {M : Model} {A : Around} {E : Value → Shared → Prop} {s : Shared} (h : wpAny M A t Q E s) (hQ : ∀ a s, Q a s → Q' a s) : wpAny M A t Q' E s := wpAny_mono h hQ fun _ _ x => x
end L2

namespace L2
open PySem PySem.Spec PyProof.Rows
section
variable {X : Cx}

/-! ### names and constants -/
def tVar (i : Nat) : TE := fun σ H Q => ∃ v, σ[i]? = some (some v) ∧ Q v H
def tC (v : V) : TE := fun _ H Q => Q v H
theorem pe_var {i : Nat} {x : Str} {pos : Pos} (hN : X.N[i]? = some x) (hv : Vis X.env.scope x) (hd : (x == ("__debug__" : Str)) = false := by decide) (hcd : (x == ("__classdict__" : Str)) = false := by decide) : PE X (.Name x pos) (tVar i) := by
  intro pins s σ H Q I h
  obtain ⟨v, e, h⟩ := h
  obtain ⟨m, hn, hl⟩ := I.loc
  obtain ⟨u, r, l⟩ := hl i x v hN e hv
  have fin : EP X pins σ Q u s := ⟨v, H, I, r, h⟩
  rcases l with ⟨hk, hm⟩ | ⟨hk, c, hc, hcell⟩
  · exact wpAny_Name (wpAny_loadName_local I.ok.kind hk hn hm fin) hd
  · rcases hk with hk | hk
    · exact wpAny_Name (wpAny_loadName_cell I.ok.kind hk hc hcell fin) hd
    · exact wpAny_Name (wpAny_loadName_free I.ok.kind hk hc hcell fin hcd) hd
theorem pe_int {i j pos} : PE X (.Constant (.int i) j pos) (tC (.int i)) := fun _ _ _ H _ I h => wpAny_Constant_int ⟨.int i, H, I.tok _, ⟨_, rfl⟩, h⟩
theorem pe_bl {b j pos} : PE X (.Constant (.bool b) j pos) (tC (.bl b)) := fun _ _ _ H _ I h => Constant_bool ⟨.bl b, H, I, rfl, h⟩
theorem pe_non {j pos} : PE X (.Constant .none j pos) (tC .non) := fun _ _ _ H _ I h => Constant_none ⟨.non, H, I, rfl, h⟩
theorem pe_str {x j pos} : PE X (.Constant (.str x) j pos) (tC (.str x)) := fun _ _ _ H _ I h => Calls.Constant_str ⟨.str x, H, I.tok _, ⟨_, rfl⟩, h⟩

/-- a global name of the def -/
def Gl (X : Cx) (x : Str) : Prop := X.env.kindOf x = some .globalImplicit
theorem ld_glob {E : Value → Shared → Prop} {pins : List (Addr × Obj)} {s : Shared} {σ : St} {H : Hp} {x : Str} {u : Value} {pos : Pos} {Q : Value → Shared → Prop} (I : Inv X pins σ H s) (hg : Gl X x) (hm : X.mg x = some u) (h : Q u s)
    (hd : (x == ("__debug__" : Str)) = false := by decide) : wpAny (model X.prog X.w) X.A (eval (.Name x pos) X.env) Q E s :=
  Calls.Name_function_global I.ok.kind hg (Calls.loadGlobal_global (by rw [I.ok.glob]; exact I.mod.glob.keeps I.bk) hm h) hd
theorem ld_blt {E : Value → Shared → Prop} {pins : List (Addr × Obj)} {s : Shared} {σ : St} {H : Hp} {x : Str} {u : Value} {pos : Pos} {Q : Value → Shared → Prop} (I : Inv X pins σ H s) (hg : Gl X x) (hm : X.mg x = none) (hv : bootBuiltins x = some u) (h : Q u s)
    (hn : x ≠ "__name__" := by decide) (hd : (x == ("__debug__" : Str)) = false := by decide) : wpAny (model X.prog X.w) X.A (eval (.Name x pos) X.env) Q E s := by
  obtain ⟨mb, h1, h2⟩ := I.mod.blt
  exact Calls.Name_function_global I.ok.kind hg (Calls.loadGlobal_builtin (by rw [I.ok.glob]; exact I.mod.glob.keeps I.bk) hm (by rw [I.ok.blt]; exact h1.keeps I.bk) ((h2 x hn).trans hv) h) hd
/-- a module's constant, a class, a function, as a value -/
theorem pe_glob {x : Str} {v : V} {u : Value} {pos : Pos} (hg : Gl X x) (hm : X.mg x = some u) (r : RelV v u) (hd : (x == ("__debug__" : Str)) = false := by decide) : PE X (.Name x pos) (tC v) :=
  fun _ _ _ H _ I h => ld_glob I hg hm ⟨v, H, I, r, h⟩ hd
theorem pe_bltn {x : Str} {v : V} {u : Value} {pos : Pos} (hg : Gl X x) (hm : X.mg x = none) (hv : bootBuiltins x = some u) (r : RelV v u) (hn : x ≠ "__name__" := by decide) (hd : (x == ("__debug__" : Str)) = false := by decide) : PE X (.Name x pos) (tC v) :=
  fun _ _ _ H _ I h => ld_blt I hg hm hv ⟨v, H, I, r, h⟩ hn hd

/-! ### arithmetic -/
/-- two ints -/
def t2I (ta tb : TE) (k : Int → Int → Hp → Prop) : St → Hp → Prop := fun σ H => ta σ H fun x H1 => tb σ H1 fun y H2 => ∃ i j, x = .int i ∧ y = .int j ∧ k i j H2
def tAdd (ta tb : TE) : TE := fun σ H Q => t2I ta tb (fun i j H2 => Q (.int (i + j)) H2) σ H
def tSub (ta tb : TE) : TE := fun σ H Q => t2I ta tb (fun i j H2 => Q (.int (i - j)) H2) σ H
/-- the left factor below 2^64 -/
def tMul (ta tb : TE) : TE := fun σ H Q => t2I ta tb (fun i j H2 => (-(2 ^ 64) < i ∧ i < 2 ^ 64) ∧ Q (.int (i * j)) H2) σ H
variable {a b : Expr} {ta tb : TE} {pos : Pos}
/-! ### comparisons -/
def PC (X : Cx) (op : CmpOp) (a b : Expr) (t : TE) : Prop :=
  ∀ (pins : List (Addr × Obj)) (s : Shared) (σ : St) (H : Hp) (Q : VK), Inv X pins σ H s → t σ H Q →
    wpAny (model X.prog X.w) X.A (eval a X.env) (fun v s₁ => wpAny (model X.prog X.w) X.A (eval b X.env) (fun u s₂ => wpAny (model X.prog X.w) X.A (compareOp op v u) (EP X pins σ Q) X.xe s₂) X.xe s₁) X.xe s
def tCmp (p : Int → Int → Bool) (ta tb : TE) : TE := fun σ H Q => t2I ta tb (fun i j H2 => Q (.bl (p i j)) H2) σ H
abbrev tLt : TE → TE → TE := tCmp fun i j => decide (i < j)
abbrev tLe : TE → TE → TE := tCmp fun i j => decide (i ≤ j)
abbrev tGt : TE → TE → TE := tCmp fun i j => decide (j < i)
abbrev tGe : TE → TE → TE := tCmp fun i j => decide (j ≤ i)
abbrev tEqI : TE → TE → TE := tCmp fun i j => decide (i = j)
abbrev tNeI : TE → TE → TE := tCmp fun i j => !decide (i = j)
/-- is None -/
def tIsN (ta : TE) : TE := fun σ H Q => ta σ H fun x H1 => Q (.bl (decide (x = .non))) H1
def tNotN (ta : TE) : TE := fun σ H Q => ta σ H fun x H1 => Q (.bl (!decide (x = .non))) H1
/-- a comparison as a value, as a test -/
def tB (t : TE) : TT := fun σ H Q => t σ H fun x H1 => ∃ c, x = .bl c ∧ Q c H1
/-! ### and, or, not -/
variable {tA tB' : TT} {rest : List Expr}
def tAnd (t u : TT) : TT := fun σ H Q => t σ H fun c H1 => if c = true then u σ H1 Q else Q false H1
def tOr (t u : TT) : TT := fun σ H Q => t σ H fun c H1 => if c = true then Q true H1 else u σ H1 Q
def tNot (t : TT) : TT := fun σ H Q => t σ H fun c H1 => Q (!c) H1
theorem pw_and1 (ha : PT X a tA) : PW X (.BoolOp .And [a] pos) tA := by
  intro wh pins s σ H Q I h
  refine isTrue_and (thn (ha pins s σ H Q I h) fun c s1 e => ?_)
  cases c with
  | true => exact isTrue_and_nil e
  | false => exact e
theorem pw_or1 (ha : PT X a tA) : PW X (.BoolOp .Or [a] pos) tA := by
  intro wh pins s σ H Q I h
  refine isTrue_or (thn (ha pins s σ H Q I h) fun c s1 e => ?_)
  cases c with
  | false => exact isTrue_or_nil e
  | true => exact e
theorem pw_and (ha : PT X a tA) (hb : PW X (.BoolOp .And (b :: rest) pos) tB') : PW X (.BoolOp .And (a :: b :: rest) pos) (tAnd tA tB') := by
  intro wh pins s σ H Q I h
  refine isTrue_and (thn (ha pins s σ H _ I h) fun c s1 ⟨H1, I1, q1⟩ => ?_)
  cases c with
  | true => exact hb wh pins s1 σ H1 Q I1 q1
  | false => exact ⟨H1, I1, q1⟩
theorem pw_or (ha : PT X a tA) (hb : PW X (.BoolOp .Or (b :: rest) pos) tB') : PW X (.BoolOp .Or (a :: b :: rest) pos) (tOr tA tB') := by
  intro wh pins s σ H Q I h
  refine isTrue_or (thn (ha pins s σ H _ I h) fun c s1 ⟨H1, I1, q1⟩ => ?_)
  cases c with
  | true => exact ⟨H1, I1, q1⟩
  | false => exact hb wh pins s1 σ H1 Q I1 q1
theorem pt_not (ha : PT X a tA) : PT X (.UnaryOp .Not a pos) (tNot tA) := by
  intro pins s σ H Q I h
  exact isTrue_not (ha pins s σ H (fun c H1 => Q (!c) H1) I h)
/-- .. as values (bools) -/
def tAndV (ta tb : TE) : TE := fun σ H Q => ta σ H fun x H1 => ∃ c, x = .bl c ∧ if c = true then tb σ H1 Q else Q (.bl false) H1
def tOrV (ta tb : TE) : TE := fun σ H Q => ta σ H fun x H1 => ∃ c, x = .bl c ∧ if c = true then Q (.bl true) H1 else tb σ H1 Q
def tNotV (ta : TE) : TE := fun σ H Q => ta σ H fun x H1 => ∃ c, x = .bl c ∧ Q (.bl (!c)) H1
theorem pe_one {op} {t : TE} (h : PE X a t) : PE X (.BoolOp op [a] pos) t := fun pins s σ H Q I hw => BoolOp_one (h pins s σ H Q I hw)
theorem pe_and (ha : PE X a ta) (hb : PE X (.BoolOp .And (b :: rest) pos) tb) : PE X (.BoolOp .And (a :: b :: rest) pos) (tAndV ta tb) := by
  intro pins s σ H Q I h
  refine BoolOp_and (thn (ha pins s σ H _ I h) fun v s1 ⟨x, H1, I1, r1, q1⟩ => ?_)
  obtain ⟨c, rfl, q1⟩ := q1
  cases r1
  refine wpAny_truthy_bool ?_
  cases c with
  | true => exact hb pins s1 σ H1 Q I1 q1
  | false => exact ⟨.bl false, H1, I1, rfl, q1⟩
theorem pe_or (ha : PE X a ta) (hb : PE X (.BoolOp .Or (b :: rest) pos) tb) : PE X (.BoolOp .Or (a :: b :: rest) pos) (tOrV ta tb) := by
  intro pins s σ H Q I h
  refine BoolOp_or (thn (ha pins s σ H _ I h) fun v s1 ⟨x, H1, I1, r1, q1⟩ => ?_)
  obtain ⟨c, rfl, q1⟩ := q1
  cases r1
  refine wpAny_truthy_bool ?_
  cases c with
  | false => exact hb pins s1 σ H1 Q I1 q1
  | true => exact ⟨.bl true, H1, I1, rfl, q1⟩
theorem pe_not (ha : PE X a ta) : PE X (.UnaryOp .Not a pos) (tNotV ta) := by
  intro pins s σ H Q I h
  refine UnaryOp_ (thn (ha pins s σ H _ I h) fun v s1 ⟨x, H1, I1, r1, q1⟩ => ?_)
  obtain ⟨c, rfl, q1⟩ := q1
  cases r1
  exact not_of (wpAny_truthy_bool ⟨.bl (!c), H1, I1, rfl, q1⟩)
/-- a if t else b -/
def tIf (t : TT) (ta tb : TE) : TE := fun σ H Q => t σ H fun c H1 => if c = true then ta σ H1 Q else tb σ H1 Q
theorem pe_ifExp {c : Expr} (hc : PT X c tA) (ha : PE X a ta) (hb : PE X b tb) : PE X (.IfExp c a b pos) (tIf tA ta tb) := by
  intro pins s σ H Q I h
  refine wpAny_IfExp (thn (hc pins s σ H _ I h) fun d s1 ⟨H1, I1, q1⟩ => ?_)
  cases d with
  | true => exact ha pins s1 σ H1 Q I1 q1
  | false => exact hb pins s1 σ H1 Q I1 q1
end
end L2

namespace L2
open PySem PySem.Spec PyProof.Rows

/-! ### a list, a tuple that is read: tracked, frozen, or an object of the module -/
def SqL (K : PySem.W.Frag) (H : Hp) (a : Addr) (xs : List V) : Prop :=
  Rd H a (.lst xs) ∨
    ∃ (o : Obj) (its : Array Value) (n : Nat), K.lookup a = some o ∧ o.cls = .type "list" ∧ o.dict = none ∧ o.data = .seq its n ∧ its.size ≤ sizeLine ∧ Vals xs its.toList
def SqT (K : PySem.W.Frag) (H : Hp) (a : Addr) (xs : List V) : Prop :=
  Rd H a (.tup xs) ∨
    ∃ (o : Obj) (its : Array Value) (n : Nat), K.lookup a = some o ∧ o.cls = .type "tuple" ∧ o.data = .seq its n ∧ its.size ≤ sizeLine ∧ Vals xs its.toList
def absV : Value → Option V
  | .none => some .non
  | .bool b => some (.bl b)
  | .int i _ => some (.int i)
  | .str x _ => some (.str x)
  | .bytes b _ => some (.byt b)
  | .float b _ => some (.flt b)
  | .ref a => some (.ref a)
  | .type n => some (.ty n)
  | _ => none
theorem RelV.abs {x : V} {u : Value} (r : RelV x u) : absV u = some x := by
  cases x with
  | non => cases r; rfl
  | bl _ => cases r; rfl
  | int _ => obtain ⟨t, rfl⟩ := r; rfl
  | str _ => obtain ⟨t, rfl⟩ := r; rfl
  | byt _ => obtain ⟨t, rfl⟩ := r; rfl
  | flt _ => obtain ⟨t, rfl⟩ := r; rfl
  | ref _ => cases r; rfl
  | ty _ => cases r; rfl
theorem RelV.inj {x y : V} {u : Value} (r : RelV x u) (q : RelV y u) : x = y := Option.some.inj (r.abs.symm.trans q.abs)
theorem Vals.inj : ∀ {xs ys : List V} {us : List Value}, Vals xs us → Vals ys us → xs = ys
  | _, _, _, .nil, .nil => rfl
  | _, _, _, .cons r t, .cons r' t' => by rw [r.inj r', Vals.inj t t']
section
variable {X : Cx} {pins : List (Addr × Obj)} {σ : St} {H : Hp} {s : Shared} {a : Addr} {xs ys : List V}
theorem SqL.of {K : PySem.W.Frag} (h : H a = some (.lst xs)) : SqL K H a xs := .inl (.inl h)
theorem SqT.of {K : PySem.W.Frag} (h : H a = some (.tup xs)) : SqT K H a xs := .inl (.inl h)
theorem Inv.list (I : Inv X pins σ H s) (h : SqL X.K H a xs) : ∃ its : List Value, Vals xs its ∧ PlainL s.heap a its.toArray ∧ xs.length ≤ sizeLine := by
  rcases h with h | ⟨o, its, n, hk, hc, hd, hs, hz, r⟩
  · obtain ⟨z, its, n, r, e⟩ := h.ok I.hok
    exact ⟨its, r, ⟨_, n, e, rfl, rfl, rfl⟩, z⟩
  · refine ⟨its.toList, r, ⟨o, n, I.kIn a o hk, hc, hd, by simpa using hs⟩, ?_⟩
    have e := r.length
    simp only [Array.length_toList] at e
    omega
theorem Inv.tuple (I : Inv X pins σ H s) (h : SqT X.K H a xs) : ∃ its : List Value, Vals xs its ∧ IsTup s.heap a its.toArray ∧ xs.length ≤ sizeLine := by
  rcases h with h | ⟨o, its, n, hk, hc, hs, hz, r⟩
  · obtain ⟨z, its, r, p⟩ := h.ok I.hok
    exact ⟨its, r, p, z⟩
  · refine ⟨its.toList, r, ⟨o, I.kIn a o hk, hc, n, by simpa using hs⟩, ?_⟩
    have e := r.length
    simp only [Array.length_toList] at e
    omega
theorem Inv.list_inj (I : Inv X pins σ H s) (h : SqL X.K H a xs) (h' : SqL X.K H a ys) : xs = ys := by
  obtain ⟨its, r, ⟨o, n, e, _, _, d⟩, _⟩ := I.list h
  obtain ⟨its', r', ⟨o', n', e', _, _, d'⟩, _⟩ := I.list h'
  rw [e] at e'; cases e'
  rw [d] at d'
  injection d' with d1 _
  have : its = its' := by simpa using congrArg Array.toList d1
  subst this
  exact r.inj r'
end

/-! ### another wish about exceptions -/
abbrev Cx.wish (X : Cx) (E : Value → Shared → Prop) : Cx := { X with xe := E }
/-- no exception leaves -/
abbrev Cx.nox (X : Cx) : Cx := X.wish fun _ _ => False
theorem Cx.Ok.wish {X : Cx} (ok : X.Ok) (E : Value → Shared → Prop) : (X.wish E).Ok :=
  ⟨ok.mod, ok.kind, ok.glob, ok.blt, ok.above, ok.inj, ok.has, ok.cab, ok.hd, ok.frames, ok.stk, ok.exf, ok.bs, ok.bsz, ok.noex, ok.exfs, ok.funs, ok.frf⟩
theorem Cx.Ok.unwish {X : Cx} {E : Value → Shared → Prop} (ok : (X.wish E).Ok) : X.Ok :=
  ⟨ok.mod, ok.kind, ok.glob, ok.blt, ok.above, ok.inj, ok.has, ok.cab, ok.hd, ok.frames, ok.stk, ok.exf, ok.bs, ok.bsz, ok.noex, ok.exfs, ok.funs, ok.frf⟩
section
variable {X : Cx} {pins : List (Addr × Obj)} {σ : St} {H : Hp} {s : Shared} {E : Value → Shared → Prop}
theorem Inv.wish (I : Inv X pins σ H s) (E : Value → Shared → Prop) : Inv (X.wish E) pins σ H s := ⟨I.ok.wish E, I.os, I.bare, I.base, I.loc, I.cell, I.free, I.freeC, I.pin, I.hok, I.len⟩
theorem Inv.unwish (I : Inv (X.wish E) pins σ H s) : Inv X pins σ H s := ⟨I.ok.unwish, I.os, I.bare, I.base, I.loc, I.cell, I.free, I.freeC, I.pin, I.hok, I.len⟩
theorem SP.unwish {D : Ends} {f : Flow} {s' : Shared} (h : SP (X.wish E) pins D f s') : SP X pins D f s' := by
  cases f with
  | next => obtain ⟨σ', H', I, q⟩ := h; exact ⟨σ', H', I.unwish, q⟩
  | brk => obtain ⟨σ', H', I, q⟩ := h; exact ⟨σ', H', I.unwish, q⟩
  | cont => obtain ⟨σ', H', I, q⟩ := h; exact ⟨σ', H', I.unwish, q⟩
  | ret u => obtain ⟨v, σ', H', I, r, q⟩ := h; exact ⟨v, σ', H', I.unwish, r, q⟩
theorem PSs.nox {st : List Stmt} {t : TS} (h : PSs X.nox st t) : PSs X st t := fun pins s σ H D I hw =>
  wpAny_mono (h pins s σ H D (I.wish _) hw) (fun _ _ q => q.unwish) fun _ _ z => False.elim z
end

/-! ### blocks and small statements -/
section
variable {X : Cx} {st : Stmt} {rest : List Stmt} {t u : TS} {e : Expr} {te : TE} {pos : Pos}
def tNext : TS := fun D σ H => D.nx σ H
def tSeq (t u : TS) : TS := fun D σ H => t { D with nx := u D } σ H
theorem pss_nil : PSs X [] tNext := fun _ _ σ H _ I h => wpAny_execs_nil ⟨σ, H, I, h⟩
theorem pss_cons (h1 : PS X st t) (h2 : PSs X rest u) : PSs X (st :: rest) (tSeq t u) := by
  intro pins s σ H D I h
  refine wpAny_execs_cons (thn (h1 pins s σ H { D with nx := u D } I h) fun f s1 q => ?_)
  cases f with
  | next =>
    obtain ⟨σ', H', I', q⟩ := q
    exact h2 pins s1 σ' H' D I' q
  | ret v => exact q
  | brk => exact q
  | cont => exact q
theorem pss_one (h1 : PS X st t) : PSs X [st] t := by
  intro pins s σ H D I h
  refine wpAny_execs_cons (thn (h1 pins s σ H D I h) fun f s1 q => ?_)
  cases f with
  | next => exact wpAny_execs_nil q
  | ret v => exact q
  | brk => exact q
  | cont => exact q
def tBreak : TS := fun D σ H => D.bk σ H
def tCont : TS := fun D σ H => D.ct σ H
/-- in a def's body nothing is shown -/
theorem Inv.quiet {pins : List (Addr × Obj)} {σ : St} {H : Hp} {s : Shared} (I : Inv X pins σ H s) : interactive X.env = false := by simp [interactive, I.ok.kind]
/-- an expression whose value is dropped -/
def tDrop (te : TE) : TS := fun D σ H => te σ H fun _ H1 => D.nx σ H1
theorem ps_expr (he : PE X e te) (hs : swapsWith e none pos.line X.env = pure false := by rfl) : PS X (.Expr e pos) (tDrop te) := by
  intro pins s σ H D I h
  exact wpAny_Expr_any (thn (he pins s σ H _ I h) fun v s1 ⟨x, H1, I1, r1, q1⟩ => ⟨σ, H1, I1, q1⟩) I.quiet hs
def tRet (te : TE) : TS := fun D σ H => te σ H D.rt
theorem ps_ret (he : PE X e te) : PS X (.Return (some e) pos) (tRet te) := by
  intro pins s σ H D I h
  exact wpAny_Return_some (thn (he pins s σ H _ I h) fun v s1 ⟨x, H1, I1, r1, q1⟩ => ⟨x, σ, H1, I1, r1, q1⟩)
def tRetN : TS := fun D _ H => D.rt .non H
def tIfS (c : TT) (t u : TS) : TS := fun D σ H => c σ H fun b H1 => if b = true then t D σ H1 else u D σ H1
theorem ps_if {c : Expr} {a b : List Stmt} {tc : TT} (hc : PT X c tc) (ha : PSs X a t) (hb : PSs X b u) : PS X (.If c a b pos) (tIfS tc t u) := by
  intro pins s σ H D I h
  refine wpAny_If (thn (hc pins s σ H _ I h) fun d s1 ⟨H1, I1, q1⟩ => ?_)
  cases d with
  | true => exact ha pins s1 σ H1 D I1 q1
  | false => exact hb pins s1 σ H1 D I1 q1
/-- code that the proof never comes to -/
def tNever : TS := fun _ _ _ => False
end

/-! ### targets -/
abbrev TG := V → St → Hp → (St → Hp → Prop) → Prop
abbrev TGs := List V → St → Hp → (St → Hp → Prop) → Prop
def PG (X : Cx) (target : Expr) (t : TG) : Prop :=
  ∀ (pins : List (Addr × Obj)) (s : Shared) (σ : St) (H : Hp) (v : V) (u : Value) (Q : St → Hp → Prop), Inv X pins σ H s → RelV v u → t v σ H Q →
    wpAny (model X.prog X.w) X.A (assign target X.env u) (fun _ s' => ∃ σ' H', Inv X pins σ' H' s' ∧ Q σ' H') X.xe s
/-- several targets, one after another -/
def PGs (X : Cx) (ts : List Expr) (t : TGs) : Prop :=
  ∀ (pins : List (Addr × Obj)) (s : Shared) (σ : St) (H : Hp) (vs : List V) (us : List Value) (Q : St → Hp → Prop), Inv X pins σ H s → Vals vs us → t vs σ H Q →
    wpAny (model X.prog X.w) X.A (assignInOrder ((assignEach ts X.env).map (·.2)) us) (fun _ s' => ∃ σ' H', Inv X pins σ' H' s' ∧ Q σ' H') X.xe s
/-- o[i] = v, by values -/
abbrev TSet := V → V → V → Hp → (Hp → Prop) → Prop
def PSet (X : Cx) (t : TSet) : Prop :=
  ∀ (pins : List (Addr × Obj)) (s : Shared) (σ : St) (H : Hp) (o i v : V) (ov iv u : Value) (Q : Hp → Prop), Inv X pins σ H s → RelV o ov → RelV i iv → RelV v u → t o i v H Q →
    wpAny (model X.prog X.w) X.A (setItem ov iv u) (fun _ s' => ∃ H', Inv X pins σ H' s' ∧ Q H') X.xe s
/-- a op= b, by values -/
abbrev TIp := V → V → Hp → VK → Prop
def PIp (X : Cx) (op : Operator) (t : TIp) : Prop :=
  ∀ (pins : List (Addr × Obj)) (s : Shared) (σ : St) (H : Hp) (x y : V) (v u : Value) (Q : VK), Inv X pins σ H s → RelV x v → RelV y u → t x y H Q →
    wpAny (model X.prog X.w) X.A (inplaceOp op v u) (EP X pins σ Q) X.xe s
section
variable {X : Cx} {pos : Pos}
def gName (i : Nat) : TG := fun v σ H Q => Q (σ.set i (some v)) H
theorem pg_name {i : Nat} {x : Str} (hN : X.N.Nodup) (hi : X.N[i]? = some x) (hx : Loc X.env.scope x) (hf : X.fn x = true ∨ X.env.scope.names.lookup x = some .local := by first | exact .inl rfl | exact .inr rfl | assumption) : PG X (.Name x pos) (gName i) := by
  intro pins s σ H v u Q I r h
  exact wpAny_assign_Name (store_ok I hN hi hx r (fun s' I' => ⟨_, H, I', h⟩) hf)
def gNil : TGs := fun vs σ H Q => vs = [] ∧ Q σ H
def gCons (t : TG) (u : TGs) : TGs := fun vs σ H Q => ∃ v r, vs = v :: r ∧ t v σ H fun σ' H' => u r σ' H' Q
theorem pgs_nil : PGs X [] gNil := by
  intro pins s σ H vs us Q I r h
  obtain ⟨e, h⟩ := h
  subst e
  cases r
  exact assignInOrder_nil ⟨σ, H, I, h⟩
theorem pgs_cons {e : Expr} {es : List Expr} {t : TG} {u : TGs} (h1 : PG X e t) (h2 : PGs X es u)
    (hs : (assignEach (e :: es) X.env).map (·.2) = assign e X.env :: (assignEach es X.env).map (·.2) := by rfl) : PGs X (e :: es) (gCons t u) := by
  intro pins s σ H vs us Q I r h
  obtain ⟨v, vr, e1, h⟩ := h
  subst e1
  cases r with
  | cons r rr =>
    rw [hs]
    refine assignInOrder_cons (thn (h1 pins s σ H _ _ _ I r h) fun _ s1 ⟨σ1, H1, I1, q1⟩ => ?_)
    exact h2 pins s1 σ1 H1 _ _ Q I1 rr q1
/-- (a, b, ..) = a tuple of that length -/
def gTup (K : PySem.W.Frag) (n : Nat) (t : TGs) : TG := fun v σ H Q => ∃ a xs, v = .ref a ∧ SqT K H a xs ∧ xs.length = n ∧ t xs σ H Q
theorem pg_tup {es : List Expr} {k : Nat} {t : TGs} {n : Nat} (hc : X.calm = true) (h : PGs X es t)
    (hn : (assignEach es X.env).length = n := by rfl) (hst : (assignEach es X.env).findIdx? (·.1) = none := by rfl) : PG X (.Tuple es k pos) (gTup X.K n t) := by
  intro pins s σ H v u Q I r hw
  obtain ⟨a, xs, e1, hq, hl, hw⟩ := hw
  subst e1
  cases r
  obtain ⟨its, rv, ht, hz⟩ := I.tuple hq
  refine assign_Tuple_tuple (I.ok.hd hc) ht (by simp [hn, ← hl, rv.length]) hst fun h' hx => ?_
  have I1 : Inv X pins σ H { s with heap := h' } := I.kept (t' := s.toks) fun b o e => hx b o (Nat.ne_of_lt (Heap.lt_size e)) e
  exact h pins _ σ H xs _ Q I1 (by simpa using rv) hw
/-- o[i] = .. -/
def gSub (to ti : TE) (t : TSet) : TG := fun v σ H Q => to σ H fun o H1 => ti σ H1 fun i H2 => t o i v H2 fun H3 => Q σ H3
theorem pg_sub {o i : Expr} {to ti : TE} {t : TSet} (ho : PE X o to) (hi : PE X i ti) (hs : PSet X t)
    (ha : ∀ v, assign (.Subscript o i pos) X.env v = (do
      let ov ← holding [v] (eval o X.env)
      let iv ← holding [v, ov] (eval i X.env)
      standAt pos
      holding [v, ov, iv] (setItem ov iv v)
      release [v, ov, iv] []) := by intro _; rfl) : PG X (.Subscript o i pos) (gSub to ti t) := by
  intro pins s σ H v u Q I r h
  rw [ha]
  refine wpAny_bind (wpAny_holding (thn (ho pins s σ H _ I h) fun ov s1 ⟨x, H1, I1, r1, q1⟩ => ?_))
  refine wpAny_bind (wpAny_holding (thn (hi pins s1 σ H1 _ I1 q1) fun iv s2 ⟨y, H2, I2, r2, q2⟩ => ?_))
  refine wpAny_bind (wpAny_standAt (wpAny_bind (wpAny_holding (thn (hs pins s2 σ H2 x y v ov iv u _ I2 r1 r2 r q2) fun _ s3 ⟨H3, I3, q3⟩ => ?_))))
  exact wpAny_release ⟨σ, H3, I3, q3⟩
/-- target = value -/
def tAsg (te : TE) (g : TG) : TS := fun D σ H => te σ H fun x H1 => g x σ H1 D.nx
theorem ps_asg {tg e : Expr} {te : TE} {g : TG} (he : PE X e te) (hg : PG X tg g) (hs : swapsWithSole [tg] e pos.line X.env = pure false := by rfl) (hw : swappedStores [tg] e X.env = pure none := by rfl)
    (h1 : (assignEach [tg] X.env).map (·.2) = [assign tg X.env] := by rfl) : PS X (.Assign [tg] e pos) (tAsg te g) := by
  intro pins s σ H D I h
  refine wpAny_Assign_stores (thn (he pins s σ H _ I h) fun v s1 ⟨x, H1, I1, r1, q1⟩ => ?_) hs hw
  rw [h1]
  exact thn (hg pins s1 σ H1 x v _ I1 r1 q1) fun _ s2 q => q
/-- name = value -/
theorem ps_set {i : Nat} {x : Str} {e : Expr} {te : TE} {pos' : Pos} (hN : X.N.Nodup) (hi : X.N[i]? = some x) (hx : Loc X.env.scope x) (he : PE X e te) (hs : swapsWith e (some (.Name x pos')) pos.line X.env = pure false := by rfl) (hf : X.fn x = true ∨ X.env.scope.names.lookup x = some .local := by first | exact .inl rfl | exact .inr rfl | assumption) :
    PS X (.Assign [.Name x pos'] e pos) (tAsg te (gName i)) := by
  intro pins s σ H D I h
  refine wpAny_Assign_Name (thn (he pins s σ H _ I h) fun v s1 ⟨y, H1, I1, r1, q1⟩ => ?_) hs
  exact store_ok I1 hN hi hx r1 (fun s2 I2 => ⟨_, H1, I2, q1⟩) hf
/-- a, b = x, y with plain local names: stored from the right; the pair itself is not tracked (the opening rows as in PyProof/Rows/TupAssign.lean:23) -/
def tPar (i j : Nat) (ta : TA) : TS := fun D σ H => ta σ H fun vs H1 => ∃ v w, vs = [v, w] ∧ D.nx ((σ.set i (some v)).set j (some w)) H1
/-- name op= e -/
def tAug (i : Nat) (te : TE) (ti : TIp) : TS := fun D σ H => ∃ x, σ[i]? = some (some x) ∧ te σ H fun y H1 => ti x y H1 fun z H2 => D.nx (σ.set i (some z)) H2
/-- o[i] op= e -/
def tAugS (to ti te : TE) (tget : V → V → Hp → VK → Prop) (tip : TIp) (tset : TSet) : TS := fun D σ H => to σ H fun o H1 => ti σ H1 fun i H2 => tget o i H2 fun x H3 => te σ H3 fun y H4 => tip x y H4 fun z H5 => tset o i z H5 fun H6 => D.nx σ H6
/-- o[i], by values -/
def PGet (X : Cx) (t : V → V → Hp → VK → Prop) : Prop :=
  ∀ (pins : List (Addr × Obj)) (s : Shared) (σ : St) (H : Hp) (o i : V) (ov iv : Value) (Q : VK), Inv X pins σ H s → RelV o ov → RelV i iv → t o i H Q →
    wpAny (model X.prog X.w) X.A (getItem ov iv) (EP X pins σ Q) X.xe s
/-- ints -/
def ipI (f : Int → Int → Int) : TIp := fun x y H Q => ∃ i j, x = .int i ∧ y = .int j ∧ Q (.int (f i j)) H
end

/-! ### while -/
section
variable {X : Cx} {pos : Pos}
/-- the invariant W with its measure -/
def tWhile (c : TT) (tb : TS) : TS := fun D σ H => ∃ W : Nat → St → Hp → Prop, (∃ m, W m σ H) ∧ ∀ m σ H, W m σ H →
  c σ H fun b H1 => if b = true then ∃ N : St → Hp → Prop, (∀ σ' H', N σ' H' → ∃ m', m' < m ∧ W m' σ' H') ∧ tb { D with nx := N, ct := N, bk := D.nx } σ H1 else D.nx σ H1
theorem ps_while {c : Expr} {body : List Stmt} {tc : TT} {tb : TS} (hp : PassesOwn (model X.prog X.w) X.A X.env X.xe) (hc : PT X c tc) (hb : PSs X body tb) : PS X (.While c body [] pos) (tWhile tc tb) := by
  intro pins s σ H D I h
  obtain ⟨W, ⟨m0, w0⟩, turn⟩ := h
  refine wpAny_While (codeAny_whileLoop (fun n s' => ∃ σ' H', Inv X pins σ' H' s' ∧ W n σ' H') ?_ m0 ⟨σ, H, I, w0⟩)
  rintro n s1 ⟨σ1, H1, I1, w1⟩
  refine wpAny_passesOwn hp (thn (hc pins s1 σ1 H1 _ I1 (turn n σ1 H1 w1)) fun b s2 ⟨H2, I2, q2⟩ => ?_)
  cases b with
  | true =>
    obtain ⟨N, hN, q2⟩ := q2
    rw [if_pos rfl]
    refine wpAny_passesOwn hp (thn (hb pins s2 σ1 H2 _ I2 q2) fun f s3 q3 => ?_)
    cases f with
    | next =>
      obtain ⟨σ3, H3, I3, n3⟩ := q3
      obtain ⟨m', hm, w3⟩ := hN σ3 H3 n3
      exact ⟨m', hm, σ3, H3, I3, w3⟩
    | cont =>
      obtain ⟨σ3, H3, I3, n3⟩ := q3
      obtain ⟨m', hm, w3⟩ := hN σ3 H3 n3
      exact ⟨m', hm, σ3, H3, I3, w3⟩
    | brk => exact q3
    | ret v => exact q3
  | false =>
    rw [if_neg Bool.false_ne_true]
    exact wpAny_execs_nil ⟨σ1, H2, I2, q2⟩
end

/-! ### what a loop or a comprehension walks -/
/-- at turn i: it yields x (the heap may grow), or it stops -/
structure It where
  go : Nat → Hp → Prop
  yld : Nat → Hp → V → Hp → Prop
  stop : Nat → Hp → Prop
/-- the iterator's own objects may turn: they are not the frame's, not pinned, younger than the entry (or a comprehension's own) -/
def FpOk (X : Cx) (pins : List (Addr × Obj)) (H : Hp) (b : Addr) : Prop :=
  H b = none ∧ b ≠ X.env.locals ∧ b ∉ X.fs ∧ (b ∈ X.ex ∨ X.s₀.heap.objs.size ≤ b) ∧ (∀ x c, X.env.cells.lookup x = some c → c ≠ b) ∧ ∀ p ∈ X.pn ++ pins, p.1 ≠ b
theorem Inv.fpOk {X : Cx} {pins : List (Addr × Obj)} {σ : St} {H H' : Hp} {s : Shared} {b : Addr} (I : Inv X pins σ H s) (hb : s.heap.objs.size ≤ b) (hn : H' b = none) : FpOk X pins H' b := by
  refine ⟨hn, Nat.ne_of_gt (Nat.lt_of_lt_of_le I.lt hb), I.nofs hb, .inr (Nat.le_trans I.sz hb), fun x c e z => ?_, fun p hp z => ?_⟩
  · obtain ⟨v, q⟩ := I.cell x c e
    exact absurd (Nat.lt_of_lt_of_le q.lt (by rw [z]; exact hb)) (Nat.lt_irrefl _)
  · exact absurd (Nat.lt_of_lt_of_le (Heap.lt_size (I.pin p hp).1) (by rw [z]; exact hb)) (Nat.lt_irrefl _)
structure Turn (P : Program) (w : World) (K : PySem.W.Frag) (tg : Expr) (J : It) (fp : List Addr) (it : Addr) (tn : Nat → Heap → Prop) : Prop where
  mem : it ∈ fp
  obj : ∀ i h, tn i h → ∀ b ∈ fp, ∃ o, h.get? b = some o ∧ ∀ v, o.data ≠ .cell v
  keep : ∀ i h h', tn i h → (∀ b ∈ fp, ∀ o, h.get? b = some o → h'.get? b = some o) → tn i h'
  item : ∀ (X : Cx), X.prog = P → X.w = w → X.K = K → X.calm = true → ∀ (i : Nat) (pins : List (Addr × Obj)) (s : Shared) (σ : St) (H : Hp) (E : Value → Shared → Prop), Inv X pins σ H s → (∀ b ∈ fp, FpOk X pins H b) → tn i s.heap → J.go i H →
    wpAny (model P w) X.A (pyNext (.ref it)) (fun r s1 => ∃ u, r = some u ∧
      wpAny (model P w) X.A (letOwnedTupleGo tg (.ref it) u) (fun _ s2 => ∃ x H', Inv X pins σ H' s2 ∧ RelV x u ∧ J.yld i H x H' ∧ tn (i + 1) s2.heap ∧ ∀ b ∈ fp, H' b = none) E s1) E s
  done : ∀ (X : Cx), X.prog = P → X.w = w → X.K = K → X.calm = true → ∀ (i : Nat) (pins : List (Addr × Obj)) (s : Shared) (σ : St) (H : Hp) (E : Value → Shared → Prop), Inv X pins σ H s → (∀ b ∈ fp, FpOk X pins H b) → tn i s.heap → J.stop i H →
    wpAny (model P w) X.A (pyNext (.ref it)) (fun r s1 => r = none ∧ Inv X pins σ H s1) E s
  self : ∀ (A : Around) (i : Nat) (s : Shared) (Q : Value → Shared → Prop) (E : Value → Shared → Prop), tn i s.heap → Q (.ref it) s → wpAny (model P w) A (pyIter (.ref it)) Q E s
abbrev TI := St → Hp → (It → Hp → Prop) → Prop
/-- an iterator has come -/
def PIE (X : Cx) (pins : List (Addr × Obj)) (σ : St) (tg : Expr) (R : It → Hp → Prop) (itv : Value) (s2 : Shared) : Prop :=
  ∃ (it : Addr) (fp : List Addr) (tn : Nat → Heap → Prop) (J : It) (H' : Hp), itv = .ref it ∧ Inv X pins σ H' s2 ∧ Turn X.prog X.w X.K tg J fp it tn ∧ tn 0 s2.heap ∧ (∀ b ∈ fp, FpOk X pins H' b) ∧ R J H'
def PI (X : Cx) (tg iter : Expr) (wi : TI) : Prop :=
  ∀ (pins : List (Addr × Obj)) (s : Shared) (σ : St) (H : Hp) (R : It → Hp → Prop), Inv X pins σ H s → wi σ H R →
    wpAny (model X.prog X.w) X.A (eval iter X.env) (fun v s1 => wpAny (model X.prog X.w) X.A (pyIter v) (PIE X pins σ tg R) X.xe s1) X.xe s

/-- the step ahead of the store is nothing for an iterator that keeps no tuple -/
theorem go_of {M : Model} {A : Around} {E : Value → Shared → Prop} {s : Shared} {tg : Expr} {it : Addr} {u : Value} {o : Obj} {n : String} {vs : Array Value} {Q : Unit → Shared → Prop} (ho : s.heap.get? it = some o) (hc : o.cls = .type n) (hd : o.data = .fields vs)
    (hn : ["enumerate", "zip", "dict_itemiterator", "dict_reverseitemiterator", "odict_iterator", "itertools.zip_longest", "itertools.pairwise"].contains n = false) (hQ : Q () s) : wpAny M A (letOwnedTupleGo tg (.ref it) u) Q E s := by
  unfold letOwnedTupleGo
  cases tg <;> first
    | exact wpAny_pure hQ
    | (cases u <;> first
        | exact wpAny_pure hQ
        | (refine wpAny_bind (wpAny_load ho ?_)
           rw [hc, hd]
           show wpAny M A (if (["enumerate", "zip", "dict_itemiterator", "dict_reverseitemiterator", "odict_iterator", "itertools.zip_longest", "itertools.pairwise"].contains n && vs[0]? == some (rawInt _)) = true then _ else _) Q E s
           rw [if_neg (by intro h; rw [hn, Bool.false_and] at h; cases h)]
           exact wpAny_pure hQ))

/-- the list at a, as it stands at each turn (a loop may append to it) -/
def Itl (K : PySem.W.Frag) (a : Addr) : It :=
  ⟨fun i H => ∃ xs x, SqL K H a xs ∧ xs[i]? = some x, fun i H x H' => H' = H ∧ ∀ xs, SqL K H a xs → xs[i]? = some x, fun i H => ∃ xs, SqL K H a xs ∧ xs.length ≤ i⟩
def Itt (K : PySem.W.Frag) (a : Addr) : It :=
  ⟨fun i H => ∃ xs x, SqT K H a xs ∧ xs[i]? = some x, fun i H x H' => H' = H ∧ ∀ xs, SqT K H a xs → xs[i]? = some x, fun i H => ∃ xs, SqT K H a xs ∧ xs.length ≤ i⟩
/-- lo, lo + 1, .. (n of them) -/
def Itr (lo : Int) (n : Nat) : It := ⟨fun i _ => i < n, fun i H x H' => H' = H ∧ x = .int (lo + i), fun i _ => n ≤ i⟩
theorem turn_list {P : Program} {w : World} {K : PySem.W.Frag} {tg : Expr} (a it : Addr) : Turn P w K tg (Itl K a) [it] it (fun i h => h.IsListIter it a i) where
  mem := by simp
  obj := fun i h st b hb => by
    have e : b = it := by simpa using hb
    subst e
    obtain ⟨o, e, c, d⟩ := st
    exact ⟨o, e, fun v z => by rw [d] at z; cases z⟩
  keep := fun i h h' st k => st.at fun o e => k it (by simp) o e
  item := by
    intro X hP hw hK hc i pins s σ H E I hf st hg
    subst hP hw hK
    obtain ⟨xs, x, hq, hx⟩ := hg
    obtain ⟨its, rv, p, hz⟩ := I.list hq
    obtain ⟨u, hu, ru⟩ := rv.get hx
    obtain ⟨f0, f1, f2, f3, f4, f5⟩ := hf it (by simp)
    refine wpAny_pyNext_list_item st p.isList (x := u) (by simpa using hu) fun h' st' sb => ?_
    have I1 : Inv X pins σ H { s with heap := h' } := I.turned (t' := s.toks) (fun b o hb e => (sb.2 b hb).trans e) f0 f1 f3 f4 f5
    obtain ⟨o, e, c, d⟩ := id st'
    exact ⟨u, rfl, go_of (s := { s with heap := h' }) e c d (by decide) ⟨x, H, I1, ru, ⟨rfl, fun ys hy => by rw [I.list_inj hy hq]; exact hx⟩, st', fun b hb => (hf b hb).1⟩⟩
  done := by
    intro X hP hw hK hc i pins s σ H E I hf st hg
    subst hP hw hK
    obtain ⟨xs, hq, hx⟩ := hg
    obtain ⟨its, rv, p, hz⟩ := I.list hq
    obtain ⟨f0, f1, f2, f3, f4, f5⟩ := hf it (by simp)
    have hl := rv.length
    exact wpAny_pyNext_list_end (I.ok.hd hc) st p.isList (by simp; omega) fun h' eb => ⟨rfl, I.turned (t' := s.toks) (fun b o hb e => eb b o hb e) f0 f1 f3 f4 f5⟩
  self := fun _ _ _ _ _ st h => wpAny_pyIter_listiter st h
theorem turn_range {P : Program} {w : World} {K : PySem.W.Frag} {tg : Expr} (it : Addr) (lo : Int) (n : Nat) : Turn P w K tg (Itr lo n) [it] it (fun i h => IsRangeIter h it (lo + (i : Nat) * 1) ((n : Int) - (i : Nat)) 1) where
  mem := by simp
  obj := fun i h st b hb => by
    have e : b = it := by simpa using hb
    subst e
    exact ⟨_, st, fun v z => by
      have z' : Data.fields _ = Data.cell v := z
      cases z'⟩
  keep := fun i h h' st k => k it (by simp) _ st
  item := by
    intro X hP hw hK hc i pins s σ H E I hf st hg
    subst hP hw hK
    obtain ⟨f0, f1, f2, f3, f4, f5⟩ := hf it (by simp)
    have W := Walks.range (prog := X.prog) (w := X.w) (I.ok.hd hc) it lo 1 n
    refine W.item i s _ _ hg st fun v h' tk hv st' kk => ?_
    obtain ⟨t, rfl⟩ := hv
    have I1 : Inv X pins σ H { s with heap := h', toks := tk } := I.turned (fun b o hb e => kk b o (by simpa using hb) e) f0 f1 f3 f4 f5
    refine ⟨_, rfl, go_of (s := { s with heap := h', toks := tk }) (n := "range_iterator") st' rfl rfl (by decide) ⟨.int (lo + i), H, I1, ⟨t, ?_⟩, ⟨rfl, rfl⟩, st', fun b hb => (hf b hb).1⟩⟩
    rw [Int.mul_one]
  done := by
    intro X hP hw hK hc i pins s σ H E I hf st hg
    subst hP hw hK
    obtain ⟨f0, f1, f2, f3, f4, f5⟩ := hf it (by simp)
    exact wpAny_pyNext_range_end (I.ok.hd hc) st (by have : n ≤ i := hg; omega) fun h' eb => ⟨rfl, I.turned (t' := s.toks) (fun b o hb e => eb b o hb e) f0 f1 f3 f4 f5⟩
  self := fun _ _ _ _ _ st h => wpAny_pyIter_rangeiter st h
end L2

namespace L2
open PySem PySem.Spec PyProof.Rows
section
variable {X : Cx} {tg : Expr}
def iList (K : PySem.W.Frag) (tl : TE) : TI := fun σ H R => tl σ H fun x H1 => ∃ a, x = .ref a ∧ (∃ xs, SqL K H1 a xs) ∧ R (Itl K a) H1
def iTup (K : PySem.W.Frag) (tl : TE) : TI := fun σ H R => tl σ H fun x H1 => ∃ a, x = .ref a ∧ (∃ xs, SqT K H1 a xs) ∧ R (Itt K a) H1
theorem pi_list {l : Expr} {tl : TE} (hl : PE X l tl) : PI X tg l (iList X.K tl) := by
  intro pins s σ H R I h
  refine thn (hl pins s σ H _ I h) fun v s1 ⟨x, H1, I1, r1, q1⟩ => ?_
  obtain ⟨a, e, ⟨xs, hq⟩, q⟩ := q1
  subst e
  cases r1
  obtain ⟨its, rv, p, hz⟩ := I1.list hq
  refine wpAny_pyIter_list p.isList ?_
  refine ⟨s1.heap.objs.size, [s1.heap.objs.size], _, _, H1, rfl, I1.kept (t' := s1.toks) fun b o e => Heap.get?_push_of_some _ e, turn_list a _, ⟨_, Heap.get?_push_size _ rfl, rfl, rfl⟩, fun b hb => ?_, q⟩
  have e : b = s1.heap.objs.size := by simpa using hb
  subst e
  exact I1.fpOk (Nat.le_refl _) (I1.hok.fresh (Nat.le_refl _))
/-- a range object just made, walked -/
theorem range_it {pins : List (Addr × Obj)} {σ : St} {H : Hp} {s : Shared} {R : It → Hp → Prop} {E : Value → Shared → Prop} {lo hi : Int} {t u v : Tok} {tk : Nat} (I : Inv X pins σ H s) (h1 : -(2 ^ 62) ≤ lo) (h2 : lo < 2 ^ 62) (h3 : -(2 ^ 62) ≤ hi) (h4 : hi < 2 ^ 62)
    (q : R (Itr lo (hi - lo).toNat) H) : wpAny (model X.prog X.w) X.A (pyIter (.ref s.heap.objs.size)) (PIE X pins σ tg R) E { s with heap := s.heap.push { cls := .type "range", data := .fields #[.int lo t, .int hi u, .int 1 v] }, toks := tk } := by
  refine wpAny_pyIter_range (IsRange.new ..) (small_one h1 h2 h3 h4) ?_
  have I1 : Inv X pins σ H { s with heap := s.heap.push { cls := .type "range", data := .fields #[.int lo t, .int hi u, .int 1 v] }, toks := tk } := I.kept fun b o e => Heap.get?_push_of_some _ e
  refine ⟨(s.heap.push { cls := .type "range", data := .fields #[.int lo t, .int hi u, .int 1 v] }).objs.size, [(s.heap.push { cls := .type "range", data := .fields #[.int lo t, .int hi u, .int 1 v] }).objs.size], _, _, H, rfl,
    I1.kept (t' := tk) fun b o e => Heap.get?_push_of_some _ e, turn_range _ lo (hi - lo).toNat, ?_, fun b hb => ?_, q⟩
  · have e1 : lo + ((0 : Nat) : Int) * 1 = lo := by simp
    have e2 : (((hi - lo).toNat : Nat) : Int) - ((0 : Nat) : Int) = Builtin.Range.rangeSize lo hi 1 := by rw [rangeSize_one]; split <;> omega
    show IsRangeIter _ _ (lo + ((0 : Nat) : Int) * 1) ((((hi - lo).toNat : Nat) : Int) - ((0 : Nat) : Int)) 1
    rw [e1, e2]
    exact Heap.get?_push_size _ rfl
  · have e : b = (s.heap.push { cls := .type "range", data := .fields #[.int lo t, .int hi u, .int 1 v] }).objs.size := by simpa using hb
    subst e
    exact I1.fpOk (Nat.le_refl _) (I1.hok.fresh (Nat.le_refl _))
def iRng1 (ta : TA) : TI := fun σ H R => ta σ H fun vs H1 => ∃ j : Int, vs = [.int j] ∧ -(2 ^ 62) ≤ j ∧ j < 2 ^ 62 ∧ R (Itr 0 j.toNat) H1
def iRng2 (ta : TA) : TI := fun σ H R => ta σ H fun vs H1 => ∃ i j : Int, vs = [.int i, .int j] ∧ (-(2 ^ 62) ≤ i ∧ i < 2 ^ 62 ∧ -(2 ^ 62) ≤ j ∧ j < 2 ^ 62) ∧ R (Itr i (j - i).toNat) H1
theorem pi_range1 {a : Expr} {ta : TA} {p pos : Pos} (hg : Gl X "range") (hm : X.mg "range" = none) (ha : PA X [a] ta) (hs : starEach [a] X.env = [(false, eval a X.env)] := by rfl) : PI X tg (.Call (.Name "range" p) [a] [] pos) (iRng1 ta) := by
  intro pins s σ H R I h
  refine Call_ (ld_blt I hg hm boot_range (PyProof.Rows.callWith_type1 (thn (ha pos pins s σ H _ I h) fun us s1 ⟨vs, H1, I1, r1, q1⟩ => ?_) hs rfl))
  obtain ⟨j, e, q1, q2, q⟩ := q1
  subst e
  cases r1 with
  | cons r rr =>
    cases rr
    obtain ⟨t, rfl⟩ := r
    exact call_range_1 (range_it I1 (by omega) (by omega) q1 q2 (by simpa using q))
theorem pi_range2 {a b : Expr} {ta : TA} {p pos : Pos} (hg : Gl X "range") (hm : X.mg "range" = none) (ha : PA X [a, b] ta) (hs : starEach [a, b] X.env = [(false, eval a X.env), (false, eval b X.env)] := by rfl) (hs2 : starEach [b] X.env = [(false, eval b X.env)] := by rfl) :
    PI X tg (.Call (.Name "range" p) [a, b] [] pos) (iRng2 ta) := by
  intro pins s σ H R I h
  refine Call_ (ld_blt I hg hm boot_range (PyProof.Rows.callWith_type1 (thn (ha pos pins s σ H _ I h) fun us s1 ⟨vs, H1, I1, r1, q1⟩ => ?_) (by rw [hs, hs2]) (by rw [hs2]; rfl)))
  obtain ⟨i, j, e, ⟨q1, q2, q3, q4⟩, q⟩ := q1
  subst e
  cases r1 with
  | cons r rr =>
    cases rr with
    | cons r' rr =>
      cases rr
      obtain ⟨t, rfl⟩ := r
      obtain ⟨t', rfl⟩ := r'
      exact call_range_2 (range_it I1 q1 q2 q3 q4 q)

/-! ### for -/
/-- W: the invariant by the turn and a measure; N: what the body is to reach -/
def tFor (wi : TI) (g : TG) (tb : TS) : TS := fun D σ H => wi σ H fun J H1 => ∃ W : Nat → Nat → St → Hp → Prop, (∃ m, W 0 m σ H1) ∧ ∀ i m σ H, W i m σ H →
  (J.stop i H ∧ D.nx σ H) ∨ (J.go i H ∧ ∃ N : St → Hp → Prop, (∀ σ' H', N σ' H' → ∃ m', m' < m ∧ W (i + 1) m' σ' H') ∧ ∀ x H', J.yld i H x H' → g x σ H' fun σ2 H2 => tb { D with nx := N, ct := N, bk := D.nx } σ2 H2)
/-- the records at fp as they stand -/
def pinsAt (fp : List Addr) (h : Heap) : List (Addr × Obj) := fp.filterMap fun b => (h.get? b).map fun o => (b, o)
theorem mem_pinsAt {fp : List Addr} {h : Heap} {b : Addr} {o : Obj} (hb : b ∈ fp) (e : h.get? b = some o) : (b, o) ∈ pinsAt fp h := List.mem_filterMap.mpr ⟨b, hb, by rw [e]; rfl⟩
theorem of_pinsAt {fp : List Addr} {h : Heap} {p : Addr × Obj} (hp : p ∈ pinsAt fp h) : p.1 ∈ fp ∧ h.get? p.1 = some p.2 := by
  obtain ⟨b, hb, e⟩ := List.mem_filterMap.mp hp
  cases q : h.get? b with
  | none => rw [q] at e; cases e
  | some o =>
    rw [q] at e
    have e' : (b, o) = p := Option.some.inj e
    subst e'
    exact ⟨hb, q⟩
theorem Inv.pinned {pins : List (Addr × Obj)} {σ : St} {H : Hp} {s : Shared} {fp : List Addr} (I : Inv X pins σ H s) (hf : ∀ b ∈ fp, FpOk X pins H b) (ho : ∀ b ∈ fp, ∃ o, s.heap.get? b = some o ∧ ∀ v, o.data ≠ .cell v) : Inv X (pins ++ pinsAt fp s.heap) σ H s :=
  I.pins_of fun p hp => (List.mem_append.mp hp).elim (fun z => I.pin p (List.mem_append_right _ z)) fun z => by
    obtain ⟨hb, e⟩ := of_pinsAt z
    obtain ⟨f0, f1, f2, _⟩ := hf p.1 hb
    obtain ⟨o, e', d⟩ := ho p.1 hb
    rw [e] at e'; cases e'
    exact ⟨e, f0, f1, f2, d⟩
theorem Inv.unpinned {pins pl : List (Addr × Obj)} {σ : St} {H : Hp} {s : Shared} (I : Inv X (pins ++ pl) σ H s) : Inv X pins σ H s := I.pins_of fun p hp => I.pin p (List.mem_append_right _ (List.mem_append_left _ hp))
theorem ps_for {iter : Expr} {body : List Stmt} {wi : TI} {g : TG} {tb : TS} {pos : Pos} (hp : PassesOwn (model X.prog X.w) X.A X.env X.xe) (hc : X.calm = true) (hi : PI X tg iter wi) (hg : PG X tg g) (hb : PSs X body tb)
    (hs : ∀ x, foldedSetIterable iter X.env x = pure x := by intro _; rfl) : PS X (.For tg iter body [] pos) (tFor wi g tb) := by
  intro pins s σ H D I h
  refine wpAny_For (thn (hi pins s σ H _ I h) fun v s1 h1 => thn h1 fun itv s2 h2 => ?_) hs
  obtain ⟨it, fp, tn, J, H2, e, I2, T, st2, f2, W, ⟨m0, w0⟩, turn⟩ := h2
  subst e
  -- what stays true of the iterator's objects through the loop
  have stat : ∀ {H' : Hp}, (∀ b ∈ fp, H' b = none) → ∀ b ∈ fp, FpOk X pins H' b := fun hn b hb => ⟨hn b hb, (f2 b hb).2⟩
  refine codeAny_forLoop_any (fun n s' => ∃ i σ' H', Inv X pins σ' H' s' ∧ tn i s'.heap ∧ (∀ b ∈ fp, H' b = none) ∧ W i n σ' H') ?_ m0 ⟨0, σ, H2, I2, st2, fun b hb => (f2 b hb).1, w0⟩
  rintro n s3 ⟨i, σ3, H3, I3, st3, fr3, w3⟩
  rcases turn i n σ3 H3 w3 with ⟨stop, qn⟩ | ⟨go, N, hN, step⟩
  · refine wpAny_passesOwn hp (thn (T.done X rfl rfl rfl hc i pins s3 σ3 H3 X.xe I3 (stat fr3) st3 stop) fun r s4 ⟨hr, I4⟩ => ?_)
    subst hr
    exact wpAny_execs_nil ⟨σ3, H3, I4, qn⟩
  · refine wpAny_passesOwn hp (thn (T.item X rfl rfl rfl hc i pins s3 σ3 H3 X.xe I3 (stat fr3) st3 go) fun r s4 ⟨u, hr, h4⟩ => ?_)
    subst hr
    refine wpAny_passesOwn hp (thn h4 fun _ s5 ⟨x, H5, I5, r5, y5, st5, fr5⟩ => ?_)
    have I5' := I5.pinned (stat fr5) (T.obj _ _ st5)
    refine wpAny_passesOwn hp (thn (hg _ s5 σ3 H5 x u _ I5' r5 (step x H5 y5)) fun _ s6 ⟨σ6, H6, I6, q6⟩ => ?_)
    refine wpAny_passesOwn hp (thn (hb _ s6 σ6 H6 _ I6 q6) fun f s7 q7 => ?_)
    have again : ∀ {σ7 : St} {H7 : Hp}, Inv X (pins ++ pinsAt fp s5.heap) σ7 H7 s7 → N σ7 H7 → ∃ m, m < n ∧ ∃ i σ' H', Inv X pins σ' H' s7 ∧ tn i s7.heap ∧ (∀ b ∈ fp, H' b = none) ∧ W i m σ' H' := fun {σ7 H7} I7 n7 => by
      obtain ⟨m', hm, w7⟩ := hN σ7 H7 n7
      refine ⟨m', hm, i + 1, σ7, H7, I7.unpinned, T.keep _ _ _ st5 fun b hb o e => (I7.pin (b, o) (List.mem_append_right _ (List.mem_append_right _ (mem_pinsAt hb e)))).1, fun b hb => ?_, w7⟩
      obtain ⟨o, e, d⟩ := T.obj _ _ st5 b hb
      exact (I7.pin (b, o) (List.mem_append_right _ (List.mem_append_right _ (mem_pinsAt hb e)))).2.1
    cases f with
    | next => obtain ⟨σ7, H7, I7, n7⟩ := q7; exact again I7 n7
    | cont => obtain ⟨σ7, H7, I7, n7⟩ := q7; exact again I7 n7
    | brk => obtain ⟨σ7, H7, I7, q7⟩ := q7; exact ⟨σ7, H7, I7.unpinned, q7⟩
    | ret v => obtain ⟨x7, σ7, H7, I7, r7, q7⟩ := q7; exact ⟨x7, σ7, H7, I7.unpinned, r7, q7⟩
end

/-! ### the forms one uses -/
/-- over a list that the body leaves as it is -/
theorem for_list {K : PySem.W.Frag} {a : Addr} {xs : List V} {g : TG} {tb : TS} {D : Ends} {σ : St} {H : Hp} (Pv : Nat → St → Hp → Prop) (h0 : Pv 0 σ H) (hl : ∀ i σ H, i ≤ xs.length → Pv i σ H → SqL K H a xs)
    (hs : ∀ i x σ H, xs[i]? = some x → Pv i σ H → g x σ H fun σ2 H2 => tb { D with nx := Pv (i + 1), ct := Pv (i + 1), bk := D.nx } σ2 H2) (hd : ∀ σ H, Pv xs.length σ H → D.nx σ H) :
    ∃ W : Nat → Nat → St → Hp → Prop, (∃ m, W 0 m σ H) ∧ ∀ i m σ H, W i m σ H →
      ((Itl K a).stop i H ∧ D.nx σ H) ∨ ((Itl K a).go i H ∧ ∃ N : St → Hp → Prop, (∀ σ' H', N σ' H' → ∃ m', m' < m ∧ W (i + 1) m' σ' H') ∧ ∀ x H', (Itl K a).yld i H x H' → g x σ H' fun σ2 H2 => tb { D with nx := N, ct := N, bk := D.nx } σ2 H2) := by
  refine ⟨fun i m σ H => m = xs.length - i ∧ i ≤ xs.length ∧ Pv i σ H, ⟨xs.length, by simp, Nat.zero_le _, h0⟩, ?_⟩
  rintro i m σ H ⟨rfl, hi, p⟩
  have q := hl i σ H hi p
  by_cases hlt : i < xs.length
  · refine .inr ⟨⟨xs, xs[i], q, by simp [hlt]⟩, Pv (i + 1), fun σ' H' p' => ⟨xs.length - (i + 1), by omega, rfl, hlt, p'⟩, fun x H' y => ?_⟩
    obtain ⟨e, y⟩ := y
    subst e
    exact hs i x σ _ (y xs q) p
  · have e : i = xs.length := by omega
    subst e
    exact .inl ⟨⟨xs, q, Nat.le_refl _⟩, hd σ H p⟩
theorem for_range {lo : Int} {n : Nat} {g : TG} {tb : TS} {D : Ends} {σ : St} {H : Hp} (Pv : Nat → St → Hp → Prop) (h0 : Pv 0 σ H)
    (hs : ∀ i σ H, i < n → Pv i σ H → g (.int (lo + i)) σ H fun σ2 H2 => tb { D with nx := Pv (i + 1), ct := Pv (i + 1), bk := D.nx } σ2 H2) (hd : ∀ σ H, Pv n σ H → D.nx σ H) :
    ∃ W : Nat → Nat → St → Hp → Prop, (∃ m, W 0 m σ H) ∧ ∀ i m σ H, W i m σ H →
      ((Itr lo n).stop i H ∧ D.nx σ H) ∨ ((Itr lo n).go i H ∧ ∃ N : St → Hp → Prop, (∀ σ' H', N σ' H' → ∃ m', m' < m ∧ W (i + 1) m' σ' H') ∧ ∀ x H', (Itr lo n).yld i H x H' → g x σ H' fun σ2 H2 => tb { D with nx := N, ct := N, bk := D.nx } σ2 H2) := by
  refine ⟨fun i m σ H => m = n - i ∧ i ≤ n ∧ Pv i σ H, ⟨n, by simp, Nat.zero_le _, h0⟩, ?_⟩
  rintro i m σ H ⟨rfl, hi, p⟩
  by_cases hlt : i < n
  · refine .inr ⟨hlt, Pv (i + 1), fun σ' H' p' => ⟨n - (i + 1), by omega, rfl, hlt, p'⟩, fun x H' y => ?_⟩
    obtain ⟨e, y⟩ := y
    subst e y
    exact hs i σ _ hlt p
  · have e : i = n := by omega
    subst e
    exact .inl ⟨Nat.le_refl _, hd σ H p⟩
end L2

namespace L2
open PySem PySem.Spec PyProof.Rows

abbrev R2 := V → V → Hp → VK → Prop
/-- a two-place operation on values: f is binaryOp op, inplaceOp op or compareOp op -/
def OpR (X : Cx) (f : Value → Value → Sem Value) (r : R2) : Prop :=
  ∀ (pins : List (Addr × Obj)) (s : Shared) (σ : St) (H : Hp) (x y : V) (v u : Value) (Q : VK), Inv X pins σ H s → RelV x v → RelV y u → r x y H Q →
    wpAny (model X.prog X.w) X.A (f v u) (EP X pins σ Q) X.xe s
/-- a one-place operation -/
def UnR (X : Cx) (f : Value → Sem Value) (r : V → Hp → VK → Prop) : Prop :=
  ∀ (pins : List (Addr × Obj)) (s : Shared) (σ : St) (H : Hp) (x : V) (v : Value) (Q : VK), Inv X pins σ H s → RelV x v → r x H Q →
    wpAny (model X.prog X.w) X.A (f v) (EP X pins σ Q) X.xe s
/-- a call of a value that is known (a builtin, a type) with values -/
def CallR (X : Cx) (f : Value) (r : List V → Hp → VK → Prop) : Prop :=
  ∀ (pins : List (Addr × Obj)) (s : Shared) (σ : St) (H : Hp) (xs : List V) (us : List Value) (Q : VK), Inv X pins σ H s → Vals xs us → r xs H Q →
    wpAny (model X.prog X.w) X.A (call f us) (EP X pins σ Q) X.xe s
/-- a value's truth -/
def TruR (X : Cx) (r : V → Hp → (Bool → Hp → Prop) → Prop) : Prop :=
  ∀ (pins : List (Addr × Obj)) (s : Shared) (σ : St) (H : Hp) (x : V) (v : Value) (Q : Bool → Hp → Prop), Inv X pins σ H s → RelV x v → r x H Q →
    wpAny (model X.prog X.w) X.A (truthy v) (TP X pins σ Q) X.xe s

def tOp (r : R2) (ta tb : TE) : TE := fun σ H Q => ta σ H fun x H1 => tb σ H1 fun y H2 => r x y H2 Q
def tUn (r : V → Hp → VK → Prop) (ta : TE) : TE := fun σ H Q => ta σ H fun x H1 => r x H1 Q
/-- ints in, under C, and a value out -/
def rI (C : Int → Int → Prop) (g : Int → Int → V) : R2 := fun x y H Q => ∃ i j, x = .int i ∧ y = .int j ∧ C i j ∧ Q (g i j) H
def rI0 (g : Int → Int → V) : R2 := fun x y H Q => ∃ i j, x = .int i ∧ y = .int j ∧ Q (g i j) H
def rU (g : Int → V) : V → Hp → VK → Prop := fun x H Q => ∃ i, x = .int i ∧ Q (g i) H

section
variable {X : Cx} {a b c : Expr} {ta tb tc : TE} {pos : Pos}

theorem binT (ha : PE X a ta) (hb : PE X b tb) {pins : List (Addr × Obj)} {s : Shared} {σ : St} {H : Hp} {R : V → V → Hp → Prop} (I : Inv X pins σ H s)
    (h : ta σ H fun x H1 => tb σ H1 fun y H2 => R x y H2) {Q : Value → Shared → Prop} {f : Value → Value → Sem Value}
    (hf : ∀ v u s2 x y H2, Inv X pins σ H2 s2 → RelV x v → RelV y u → R x y H2 → wpAny (model X.prog X.w) X.A (f v u) Q X.xe s2) :
    wpAny (model X.prog X.w) X.A (eval a X.env) (fun v s₁ => wpAny (model X.prog X.w) X.A (eval b X.env) (fun u s₂ => wpAny (model X.prog X.w) X.A (f v u) Q X.xe s₂) X.xe s₁) X.xe s := by
  refine thn (ha pins s σ H _ I h) fun v s1 ⟨x, H1, I1, r1, q1⟩ => ?_
  refine thn (hb pins s1 σ H1 _ I1 q1) fun u s2 ⟨y, H2, I2, r2, q2⟩ => ?_
  exact hf v u s2 x y H2 I2 r1 r2 q2

theorem pe_op {op : Operator} {r : R2} (ho : OpR X (binaryOp op) r) (ha : PE X a ta) (hb : PE X b tb) : PE X (.BinOp a op b pos) (tOp r ta tb) := by
  intro pins s σ H Q I h
  exact wpAny_BinOp (binT ha hb I h fun v u s2 x y H2 I2 rx ry q => ho pins s2 σ H2 x y v u Q I2 rx ry q)
theorem pe_un {op : UnaryOp} {r : V → Hp → VK → Prop} (ho : UnR X (unaryOp op) r) (ha : PE X a ta) : PE X (.UnaryOp op a pos) (tUn r ta) := by
  intro pins s σ H Q I h
  exact UnaryOp_ (thn (ha pins s σ H _ I h) fun v s1 ⟨x, H1, I1, r1, q1⟩ => ho pins s1 σ H1 x v Q I1 r1 q1)
/-! ### ints -/
theorem opI {f : Value → Value → Sem Value} {C : Int → Int → Prop} {g : Int → Int → Int}
    (rule : ∀ (i j : Int) (t u : Tok) (s : Shared) (Q : Value → Shared → Prop) (E : Value → Shared → Prop), C i j → Q (.int (g i j) s.toks) { s with toks := s.toks + 1 } → wpAny (model X.prog X.w) X.A (f (.int i t) (.int j u)) Q E s) :
    OpR X f (rI C fun i j => .int (g i j)) := by
  intro pins s σ H x y v u Q I rx ry h
  obtain ⟨i, j, rfl, rfl, hc, q⟩ := h
  obtain ⟨t, rfl⟩ := rx
  obtain ⟨t', rfl⟩ := ry
  exact rule i j t t' s _ _ hc ⟨.int (g i j), H, I.tok _, ⟨_, rfl⟩, q⟩
theorem opI0 {f : Value → Value → Sem Value} {g : Int → Int → Int}
    (rule : ∀ (i j : Int) (t u : Tok) (s : Shared) (Q : Value → Shared → Prop) (E : Value → Shared → Prop), Q (.int (g i j) s.toks) { s with toks := s.toks + 1 } → wpAny (model X.prog X.w) X.A (f (.int i t) (.int j u)) Q E s) :
    OpR X f (rI0 fun i j => .int (g i j)) := by
  intro pins s σ H x y v u Q I rx ry h
  obtain ⟨i, j, rfl, rfl, q⟩ := h
  obtain ⟨t, rfl⟩ := rx
  obtain ⟨t', rfl⟩ := ry
  exact rule i j t t' s _ _ ⟨.int (g i j), H, I.tok _, ⟨_, rfl⟩, q⟩
theorem opB0 {f : Value → Value → Sem Value} {g : Int → Int → Bool}
    (rule : ∀ (i j : Int) (t u : Tok) (s : Shared) (Q : Value → Shared → Prop) (E : Value → Shared → Prop), Q (.bool (g i j)) s → wpAny (model X.prog X.w) X.A (f (.int i t) (.int j u)) Q E s) :
    OpR X f (rI0 fun i j => .bl (g i j)) := by
  intro pins s σ H x y v u Q I rx ry h
  obtain ⟨i, j, rfl, rfl, q⟩ := h
  obtain ⟨t, rfl⟩ := rx
  obtain ⟨t', rfl⟩ := ry
  exact rule i j t t' s _ _ ⟨.bl (g i j), H, I, rfl, q⟩

def CDiv (i j : Int) : Prop := 0 < j ∧ j < 1073741824
def CDivN (i j : Int) : Prop := j ≠ 0 ∧ j.natAbs < 1073741824
def CPow (i j : Int) : Prop := 0 ≤ j ∧ j ≤ 1000000 ∧ i.natAbs < 2 ^ 64
def CMul (i j : Int) : Prop := (-(2 ^ 64) < i ∧ i < 2 ^ 64) ∨ (-(2 ^ 64) < j ∧ j < 2 ^ 64)
theorem CMul.ok {i j : Int} (h : CMul i j) : IntMulOk i j := by
  rcases h with ⟨h1, h2⟩ | ⟨h1, h2⟩
  · exact .of_left (intBits_le_64 h1 h2)
  · exact .of_right (intBits_le_64 h1 h2)
theorem op_add : OpR X (binaryOp .Add) (rI0 fun i j => .int (i + j)) := opI0 fun _ _ _ _ _ _ _ q => add_int q
theorem op_sub : OpR X (binaryOp .Sub) (rI0 fun i j => .int (i - j)) := opI0 fun _ _ _ _ _ _ _ q => sub_int q
theorem op_mul : OpR X (binaryOp .Mult) (rI CMul fun i j => .int (i * j)) := opI fun _ _ _ _ _ _ _ hc q => mul_int q hc.ok
/-- // by a positive divisor -/
theorem op_fdiv : OpR X (binaryOp .FloorDiv) (rI CDiv fun i j => .int (i / j)) := opI fun i j _ _ _ _ _ hc q => by
  have h1 : (0 : Int) < j := hc.1
  have h2 : j < 1073741824 := hc.2
  exact floordiv_int (by omega) (by rw [Int.fdiv_eq_ediv_of_nonneg i (by omega)]; exact q) (.inl (PyProof.noPylong_small (by omega)))
/-- % by a positive divisor of any size -/
theorem op_mod : OpR X (binaryOp .Mod) (rI (fun _ j => 0 < j) fun i j => .int (i % j)) := opI fun i j _ _ _ _ _ hc q => by
  have h1 : (0 : Int) < j := hc
  exact mod_int' (by omega) (by rw [Int.fmod_eq_emod_of_nonneg i (by omega)]; exact q)
theorem op_pow : OpR X (binaryOp .Pow) (rI CPow fun i j => .int (i ^ j.toNat)) := opI fun _ _ _ _ _ _ _ hc q => pow_int_small hc.1 hc.2.1 hc.2.2 q
theorem op_shl : OpR X (binaryOp .LShift) (rI CPow fun i j => .int (i * 2 ^ j.toNat)) := opI fun _ _ _ _ _ _ _ hc q => lshift_int_small hc.1 hc.2.1 hc.2.2 q
theorem op_or : OpR X (binaryOp .BitOr) (rI0 fun i j => .int (Builtin.bitOr i j)) := opI0 fun _ _ _ _ _ _ _ q => or_int q
theorem unI {f : Value → Sem Value} {g : Int → Int}
    (rule : ∀ (i : Int) (t : Tok) (s : Shared) (Q : Value → Shared → Prop) (E : Value → Shared → Prop), Q (.int (g i) s.toks) { s with toks := s.toks + 1 } → wpAny (model X.prog X.w) X.A (f (.int i t)) Q E s) :
    UnR X f (rU fun i => .int (g i)) := by
  intro pins s σ H x v Q I rx h
  obtain ⟨i, rfl, q⟩ := h
  obtain ⟨t, rfl⟩ := rx
  exact rule i t s _ _ ⟨.int (g i), H, I.tok _, ⟨_, rfl⟩, q⟩
theorem un_neg : UnR X (unaryOp .USub) (rU fun i => .int (-i)) := unI fun _ _ _ _ _ q => neg_int q
/-! ### bools among ints: n += (a < b) -/
end

/-! ### comparisons -/
/-- the scalars that == tells apart as data does -/
def scal : V → V → Bool
  | .non, .non => true | .non, .int _ => true | .int _, .non => true | .non, .bl _ => true | .bl _, .non => true | .non, .str _ => true | .str _, .non => true
  | .int _, .int _ => true | .bl _, .bl _ => true | .str _, .str _ => true | .byt _, .byt _ => true
  | .int _, .str _ => true | .str _, .int _ => true | .bl _, .str _ => true | .str _, .bl _ => true
  | _, _ => false
def rEq : R2 := fun x y H Q => scal x y = true ∧ Q (.bl (decide (x = y))) H
def rNe : R2 := fun x y H Q => scal x y = true ∧ Q (.bl (!decide (x = y))) H

theorem dec_int {i j : Int} : decide (V.int i = V.int j) = (i == j) := by
  rw [Bool.eq_iff_iff]
  simp
theorem dec_bl {i j : Bool} : decide (V.bl i = V.bl j) = (i == j) := by
  rw [Bool.eq_iff_iff]
  simp
theorem dec_str {i j : Str} : decide (V.str i = V.str j) = (i == j) := by
  rw [Bool.eq_iff_iff]
  simp
theorem dec_byt {i j : Array UInt8} : decide (V.byt i = V.byt j) = (i.toList == j.toList) := by
  rw [Bool.eq_iff_iff]
  cases i
  cases j
  simp

section
variable {X : Cx} {a b c : Expr} {ta tb tc : TE} {pos : Pos}
theorem fin_bl {pins : List (Addr × Obj)} {σ : St} {H : Hp} {s : Shared} {Q : VK} {k k' : Bool} (I : Inv X pins σ H s) (q : Q (.bl k) H) (e : k = k') : EP X pins σ Q (.bool k') s := by
  subst e
  exact ⟨.bl k, H, I, rfl, q⟩
theorem op_eq : OpR X (compareOp .Eq) rEq := by
  intro pins s σ H x y v u Q I rx ry h
  obtain ⟨hs, q⟩ := h
  cases x with
  | non =>
    cases rx
    cases y with
    | non => cases ry; exact PySem.EqNone.eq_none_none (fin_bl I q (by simp))
    | bl j => cases ry; exact PySem.EqNone.eq_none_bool (fin_bl I q (by simp))
    | int j => obtain ⟨t', rfl⟩ := ry; exact PySem.EqNone.eq_none_int (fin_bl I q (by simp))
    | str j => obtain ⟨t', rfl⟩ := ry; exact PySem.EqNone.eq_none_str (fin_bl I q (by simp))
    | _ => exact absurd (show false = true from hs) Bool.false_ne_true
  | bl i =>
    cases rx
    cases y with
    | non => cases ry; exact PySem.EqNone.eq_bool_none (fin_bl I q (by simp))
    | bl j => cases ry; exact eq_bool (fin_bl I q dec_bl)
    | str j => obtain ⟨t', rfl⟩ := ry; exact PySem.EqMixed.eq_bool_str (fin_bl I q (by simp))
    | _ => exact absurd (show false = true from hs) Bool.false_ne_true
  | int i =>
    obtain ⟨t, rfl⟩ := rx
    cases y with
    | non => cases ry; exact PySem.EqNone.eq_int_none (fin_bl I q (by simp))
    | int j => obtain ⟨t', rfl⟩ := ry; exact eq_int (fin_bl I q dec_int)
    | str j => obtain ⟨t', rfl⟩ := ry; exact PySem.EqMixed.eq_int_str (fin_bl I q (by simp))
    | _ => exact absurd (show false = true from hs) Bool.false_ne_true
  | str i =>
    obtain ⟨t, rfl⟩ := rx
    cases y with
    | non => cases ry; exact PySem.EqNone.eq_str_none (fin_bl I q (by simp))
    | bl j => cases ry; exact PySem.EqMixed.eq_str_bool (fin_bl I q (by simp))
    | int j => obtain ⟨t', rfl⟩ := ry; exact PySem.EqMixed.eq_str_int (fin_bl I q (by simp))
    | str j => obtain ⟨t', rfl⟩ := ry; exact eq_str (fin_bl I q dec_str)
    | _ => exact absurd (show false = true from hs) Bool.false_ne_true
  | byt i =>
    obtain ⟨t, rfl⟩ := rx
    cases y with
    | byt j => obtain ⟨t', rfl⟩ := ry; exact PySem.W.eq_bytes (fin_bl I q dec_byt)
    | _ => exact absurd (show false = true from hs) Bool.false_ne_true
  | _ => cases y <;> exact absurd (show false = true from hs) Bool.false_ne_true
theorem op_ne : OpR X (compareOp .NotEq) rNe := by
  intro pins s σ H x y v u Q I rx ry h
  obtain ⟨hs, q⟩ := h
  cases x with
  | non =>
    cases rx
    cases y with
    | non => cases ry; exact PySem.EqNone.ne_none_none (fin_bl I q (by simp))
    | bl j => cases ry; exact PySem.EqNone.ne_none_bool (fin_bl I q (by simp))
    | int j => obtain ⟨t', rfl⟩ := ry; exact PySem.EqNone.ne_none_int (fin_bl I q (by simp))
    | str j => obtain ⟨t', rfl⟩ := ry; exact PySem.EqNone.ne_none_str (fin_bl I q (by simp))
    | _ => exact absurd (show false = true from hs) Bool.false_ne_true
  | bl i =>
    cases rx
    cases y with
    | non => cases ry; exact PySem.EqNone.ne_bool_none (fin_bl I q (by simp))
    | bl j => cases ry; exact ne_bool (fin_bl I q (congrArg not dec_bl))
    | str j => obtain ⟨t', rfl⟩ := ry; exact PySem.EqMixed.ne_bool_str (fin_bl I q (by simp))
    | _ => exact absurd (show false = true from hs) Bool.false_ne_true
  | int i =>
    obtain ⟨t, rfl⟩ := rx
    cases y with
    | non => cases ry; exact PySem.EqNone.ne_int_none (fin_bl I q (by simp))
    | int j => obtain ⟨t', rfl⟩ := ry; exact ne_int (fin_bl I q (congrArg not dec_int))
    | str j => obtain ⟨t', rfl⟩ := ry; exact PySem.EqMixed.ne_int_str (fin_bl I q (by simp))
    | _ => exact absurd (show false = true from hs) Bool.false_ne_true
  | str i =>
    obtain ⟨t, rfl⟩ := rx
    cases y with
    | non => cases ry; exact PySem.EqNone.ne_str_none (fin_bl I q (by simp))
    | bl j => cases ry; exact PySem.EqMixed.ne_str_bool (fin_bl I q (by simp))
    | int j => obtain ⟨t', rfl⟩ := ry; exact PySem.EqMixed.ne_str_int (fin_bl I q (by simp))
    | str j => obtain ⟨t', rfl⟩ := ry; exact ne_str (fin_bl I q (congrArg not dec_str))
    | _ => exact absurd (show false = true from hs) Bool.false_ne_true
  | byt i =>
    obtain ⟨t, rfl⟩ := rx
    cases y with
    | byt j => obtain ⟨t', rfl⟩ := ry; exact PySem.W.ne_bytes (fin_bl I q (congrArg not dec_byt))
    | _ => exact absurd (show false = true from hs) Bool.false_ne_true
  | _ => cases y <;> exact absurd (show false = true from hs) Bool.false_ne_true

theorem op_lt : OpR X (compareOp .Lt) (rI0 fun i j => .bl (decide (i < j))) := opB0 fun _ _ _ _ _ _ _ q => lt_int q
theorem op_gt : OpR X (compareOp .Gt) (rI0 fun i j => .bl (decide (j < i))) := opB0 fun _ _ _ _ _ _ _ q => gt_int q
theorem op_ge : OpR X (compareOp .GtE) (rI0 fun i j => .bl (decide (j ≤ i))) := opB0 fun _ _ _ _ _ _ _ q => ge_int q
/-- is None, is not None: the right side a value none -/
theorem op_isN : OpR X (compareOp .Is) (fun x y H Q => y = .non ∧ Q (.bl (decide (x = .non))) H) := by
  intro pins s σ H x y v u Q I rx ry h
  obtain ⟨rfl, q⟩ := h
  cases ry
  refine is_none_gen (fin_bl I q ?_)
  cases x <;> first
    | (cases rx; rfl)
    | (obtain ⟨t, rfl⟩ := rx; rfl)
theorem op_notN : OpR X (compareOp .IsNot) (fun x y H Q => y = .non ∧ Q (.bl (!decide (x = .non))) H) := by
  intro pins s σ H x y v u Q I rx ry h
  obtain ⟨rfl, q⟩ := h
  cases ry
  refine isnot_none_gen (fin_bl I q ?_)
  cases x <;> first
    | (cases rx; rfl)
    | (obtain ⟨t, rfl⟩ := rx; rfl)

/-- is, is not of two objects that are tracked lists or instances -/
def isObj : HO → Bool
  | .lst _ => true
  | .ins _ _ _ => true
  | _ => false
theorem nomark (b : Expr) {op : CmpOp} (h : op ≠ .In := by decide) (h2 : op ≠ .NotIn := by decide) : behindInMarks op b = false := by
  have e1 : (op == CmpOp.In) = false := by cases op <;> first | rfl | exact absurd rfl h
  have e2 : (op == CmpOp.NotIn) = false := by cases op <;> first | rfl | exact absurd rfl h2
  cases b <;> simp [behindInMarks, e1, e2]
/-- a comparison as a value; hm: nomark b, or (for in, not in) by with_unfolding_all rfl -/
theorem pe_cmpR {op : CmpOp} {r : R2} (ho : OpR X (compareOp op) r) (ha : PE X a ta) (hb : PE X b tb) (hm : behindInMarks op b = false) : PE X (.Compare a [op] [b] pos) (tOp r ta tb) := by
  intro pins s σ H Q I h
  exact wpAny_Compare1 (binT ha hb I h fun v u s2 x y H2 I2 rx ry q => ho pins s2 σ H2 x y v u Q I2 rx ry q) hm
/-- a reading of a value as a test -/
def tTest (t : TE) : TT := fun σ H Q => t σ H fun x H' => ∃ k, x = .bl k ∧ Q k H'
theorem pt_cmpR {op : CmpOp} {r : R2} (ho : OpR X (compareOp op) r) (ha : PE X a ta) (hb : PE X b tb) (hm : behindInMarks op b = false) : PT X (.Compare a [op] [b] pos) (tTest (tOp r ta tb)) := by
  intro pins s σ H Q I h
  refine wpAny_isTrue_Compare1 (thn (ha pins s σ H _ I h) fun v s1 ⟨x, H1, I1, r1, q1⟩ => thn (hb pins s1 σ H1 _ I1 q1) fun u s2 ⟨y, H2, I2, r2, q2⟩ =>
    thn (ho pins s2 σ H2 x y v u _ I2 r1 r2 q2) fun c s3 ⟨z, H3, I3, r3, k, e, q3⟩ => ?_) hm
  subst e
  cases r3
  exact wpAny_truthy_bool ⟨H3, I3, q3⟩
/-- a op1 b op2 c -/
def tChain (r r' : R2) (ta tb tc : TE) : TE := fun σ H Q => ta σ H fun x H1 => tb σ H1 fun y H2 => r x y H2 fun z H3 => ∃ k, z = .bl k ∧
  (if k = true then tc σ H3 fun w' H4 => r' y w' H4 Q else Q (.bl false) H3)
/-! ### truth -/
/-- a value's truth by the abstract heap -/
def TruV (K : PySem.W.Frag) (x : V) (H : Hp) (k : Bool) : Prop :=
  match x with
  | .non => k = false
  | .bl b => k = b
  | .int i => k = (i != 0)
  | .str y => y.length ≤ sizeLine ∧ k = ((y.length : Int) != 0)
  | .byt y => y.size ≤ sizeLine ∧ k = ((y.size : Int) != 0)
  | .ref p => (∃ xs, SqL K H p xs ∧ k = !xs.isEmpty) ∨ (∃ xs, SqT K H p xs ∧ k = !xs.isEmpty) ∨ ∃ kvs, H p = some (.dK kvs) ∧ k = !kvs.isEmpty
  | _ => False
theorem isEmpty_kv {κ : Type} {kvs : List (κ × V)} {vs : List (κ × Value)} (r : KV kvs vs) : (!vs.isEmpty) = !kvs.isEmpty := by
  cases r <;> rfl
theorem isEmpty_of {xs : List V} {its : List Value} (r : Vals xs its) : (!its.toArray.isEmpty) = !xs.isEmpty := by
  cases r <;> simp
theorem line63 : (sizeLine : Nat) < 2 ^ 63 := by rw [sizeLine_eq]; decide
theorem tru_ok : TruR X (fun x H Q => ∃ k, TruV X.K x H k ∧ Q k H) := by
  intro pins s σ H x v Q I rx h
  obtain ⟨k, e, q⟩ := h
  have hl := line63
  have hs : sizeLine = 16777216 := sizeLine_eq
  cases x with
  | non =>
    cases rx
    have e' : k = false := e
    subst e'
    exact truthy_none ⟨H, I, q⟩
  | bl b =>
    cases rx
    have e' : k = b := e
    subst e'
    exact wpAny_truthy_bool ⟨H, I, q⟩
  | int i =>
    obtain ⟨t, rfl⟩ := rx
    have e' : k = (i != 0) := e
    subst e'
    exact PySem.P.truthy_int ⟨H, I, q⟩
  | str y =>
    obtain ⟨t, rfl⟩ := rx
    obtain ⟨hy, e'⟩ : y.length ≤ sizeLine ∧ k = ((y.length : Int) != 0) := e
    subst e'
    exact PySem.P.truthy_str (by omega) ⟨H, I.tok _, q⟩
  | byt y =>
    obtain ⟨t, rfl⟩ := rx
    obtain ⟨hy, e'⟩ : y.size ≤ sizeLine ∧ k = ((y.size : Int) != 0) := e
    subst e'
    exact PySem.W.truthy_bytes (by omega) ⟨H, I.tok _, q⟩
  | ref p =>
    cases rx
    have e' : (∃ xs, SqL X.K H p xs ∧ k = !xs.isEmpty) ∨ (∃ xs, SqT X.K H p xs ∧ k = !xs.isEmpty) ∨ ∃ kvs, H p = some (.dK kvs) ∧ k = !kvs.isEmpty := e
    rcases e' with ⟨xs, hx, e'⟩ | ⟨xs, hx, e'⟩ | ⟨kvs, hx, e'⟩
    · subst e'
      obtain ⟨its, r, pl, hz⟩ := I.list hx
      have hlen := r.length
      exact wpAny_truthy_list pl.isList (by simp only [List.size_toArray]; omega) ⟨H, I.tok _, by rw [isEmpty_of r]; exact q⟩
    · subst e'
      obtain ⟨its, r, pl, hz⟩ := I.tuple hx
      have hlen := r.length
      exact truthy_tuple pl (by simp only [List.size_toArray]; omega) ⟨H, I.tok _, by rw [isEmpty_of r]; exact q⟩
    · subst e'
      obtain ⟨hz, hS, vs, r, m⟩ : kvs.length ≤ sizeLine ∧ (p == sysModules) = false ∧ ∃ vs, KV kvs vs ∧ s.heap.DictOf (mixKind X.prog X.w) p vs := I.hok p _ hx
      have hlen : kvs.length = vs.length := Paired.length r
      exact wpAny_truthy_dict hS m (by omega) ⟨H, I.tok _, by rw [isEmpty_kv r]; exact q⟩
  | _ => exact (show False from e).elim
/-- any expression whose test is its value's truth (a name, a call, a subscript, a field ..: he by fun _ => rfl) -/
theorem pt_truth (ha : PE X a ta) (he : ∀ whole, isTrue a X.env whole = (do let v ← whole; standAt a.pos; holding [v] (truthy v))) :
    PT X a (fun σ H Q => ta σ H fun x H' => ∃ k, TruV X.K x H' k ∧ Q k H') := by
  intro pins s σ H Q I h
  exact isTrue_plain (thn (ha pins s σ H _ I h) fun v s1 ⟨x, H1, I1, r1, q1⟩ => tru_ok pins s1 σ H1 x v Q I1 r1 q1) (he _)

/-! ### strs and bytes -/
theorem op_add_str : OpR X (binaryOp .Add) (fun x y H Q => ∃ i j, x = .str i ∧ y = .str j ∧ i.length + j.length ≤ sizeLine ∧ Q (.str (i ++ j)) H) := by
  intro pins s σ H x y v u Q I rx ry h
  obtain ⟨i, j, rfl, rfl, hz, q⟩ := h
  obtain ⟨t, rfl⟩ := rx
  obtain ⟨t', rfl⟩ := ry
  exact add_str (fun t' tk => ⟨.str (i ++ j), H, I.tok _, ⟨_, rfl⟩, q⟩) hz
def PlainIxT (b : Expr) : Prop := ∀ o i, subscripted b false o i = operate [o, i] (getItem o i)
/-! ### scalar builtins, by CallR -/
theorem vals1 {x : V} {us : List Value} (r : Vals [x] us) : ∃ u, us = [u] ∧ RelV x u := by
  cases r with
  | cons r1 r2 => cases r2; exact ⟨_, rfl, r1⟩
theorem vals2 {x y : V} {us : List Value} (r : Vals [x, y] us) : ∃ u w', us = [u, w'] ∧ RelV x u ∧ RelV y w' := by
  cases r with
  | cons r1 r2 =>
    cases r2 with
    | cons r3 r4 => cases r4; exact ⟨_, _, rfl, r1, r3⟩
theorem call_max2 (hc : X.calm = true) : CallR X (.builtin "max") (fun xs H Q => ∃ i j, xs = [.int i, .int j] ∧ Q (.int (if j > i then j else i)) H) := by
  intro pins s σ H xs us Q I r h
  obtain ⟨i, j, rfl, q⟩ := h
  obtain ⟨u, w', rfl, ⟨t, rfl⟩, ⟨t', rfl⟩⟩ := vals2 r
  refine max_two_ints (I.ok.hd hc) fun h' tk k => ⟨_, H, I.kept k, ?_, q⟩
  by_cases hj : j > i
  · rw [if_pos hj, if_pos hj]; exact ⟨_, rfl⟩
  · rw [if_neg hj, if_neg hj]; exact ⟨_, rfl⟩
theorem call_min2 (hc : X.calm = true) : CallR X (.builtin "min") (fun xs H Q => ∃ i j, xs = [.int i, .int j] ∧ Q (.int (if j < i then j else i)) H) := by
  intro pins s σ H xs us Q I r h
  obtain ⟨i, j, rfl, q⟩ := h
  obtain ⟨u, w', rfl, ⟨t, rfl⟩, ⟨t', rfl⟩⟩ := vals2 r
  refine min_two_ints (I.ok.hd hc) fun h' tk k => ⟨_, H, I.kept k, ?_, q⟩
  by_cases hj : j < i
  · rw [if_pos hj, if_pos hj]; exact ⟨_, rfl⟩
  · rw [if_neg hj, if_neg hj]; exact ⟨_, rfl⟩
/-- len of a str, a bytes, a list, a tuple -/
def LenV (K : PySem.W.Frag) (x : V) (H : Hp) (n : Nat) : Prop :=
  match x with
  | .str y => y.length ≤ sizeLine ∧ n = y.length
  | .byt y => y.size ≤ sizeLine ∧ n = y.size
  | .ref p => (∃ xs, SqL K H p xs ∧ n = xs.length) ∨ ∃ xs, SqT K H p xs ∧ n = xs.length
  | _ => False
end
end L2

namespace L2
open PySem PySem.Spec PyProof.Rows

/-! ### an instance, its attributes a map -/
structure ObjM (h : Heap) (x dx C : Addr) (mA : Str → Option Value) : Prop where
  obj : h.get? x = some (PySem.W.instObj C dx)
  ns : h.Ns1 dx mA
  ne : dx ≠ x

theorem lookIn_ns {h : Heap} {dx : Addr} {mA : Str → Option Value} (n : h.Ns1 dx mA) : ∃ od, h.get? dx = some od ∧ ∀ name, PySem.W.lookIn name od = some (mA name) := by
  obtain ⟨o, es, ep, ho, hd, hk, _, hm⟩ := n
  refine ⟨o, ho, fun name => ?_⟩
  have e := hm name
  unfold nsFind findBy at e
  rw [← Array.find?_toList] at e
  unfold PySem.W.lookIn
  rw [hd]
  dsimp only
  split
  · rename_i y q
    rw [q] at e
    exact congrArg some e
  · rename_i q
    rw [q] at e
    have a : es.toList.any (·.refKey) = false := by
      rw [List.any_eq_false]
      intro y hy
      obtain ⟨z, t, hkey⟩ := hk y (Array.mem_toList_iff.mp hy)
      simp [DictEntry.refKey, hkey]
    have a' : ¬ es.toList.any (·.refKey) = true := by rw [a]; exact Bool.false_ne_true
    rw [if_neg a']
    exact congrArg some e

theorem ObjM.look {h : Heap} {x dx C : Addr} {mA : Str → Option Value} (I : ObjM h x dx C mA) : ∃ od, PySem.W.InstAt h x (PySem.W.instObj C dx) C (some od) ∧ ∀ name, PySem.W.lookIn name od = some (mA name) :=
  let ⟨od, ho, hl⟩ := lookIn_ns I.ns
  ⟨od, ⟨I.obj, rfl, rfl, ho⟩, hl⟩

section
variable {prog : Program} {w : World} {A : Around} {E : Value → Shared → Prop} {s : Shared} {K : PySem.W.Frag} {x dx C f : Addr} {mA : Str → Option Value} {name : Str} {v : Value}

theorem get_map {expr : Bool} {Q : Value → Shared → Prop} (X : K.In s.heap) (I : ObjM s.heap x dx C mA) (hg : PySem.W.plainGet K C name = true) (hh : PySem.W.hasDictIn K C = true)
    (ha : PySem.W.findIn K (.ref C) name = some none) (hv : mA name = some v) (hv' : PySem.W.handedIn v = true) (h : Q v { s with toks := s.toks + 1 }) :
    wpAny (model prog w) A (getAttr (.ref x) name expr) Q E s := by
  obtain ⟨od, J, hl⟩ := I.look
  exact PySem.W.get_value X J (PySem.W.plainGet_of hg).1 (PySem.W.findObj_own hh ha rfl (by rw [hl, hv])) hv' h

theorem get_meth {pl : Sem Bool} {Q : Value × List Value → Shared → Prop} (X : K.In s.heap) (I : ObjM s.heap x dx C mA) (hg : PySem.W.plainGet K C name = true)
    (hf : PySem.W.findIn K (.ref C) name = some (some (.ref f))) (ht : PySem.W.isFn K (.ref f) = true) (hv : mA name = none) (h : Q (.ref f, [.ref x]) s) :
    wpAny (model prog w) A (getMethod (.ref x) name pl) Q E s := by
  obtain ⟨od, J, hl⟩ := I.look
  exact PySem.W.method_fn X J (PySem.W.plainGet_of hg).1 (PySem.W.plainGet_of hg).2 hf (beq_iff_eq.mp ht) (by show (PySem.W.lookIn name od).map (·.isSome) = some false; rw [hl, hv]; rfl) h

theorem set_map {ns : List Str} {Q : Unit → Shared → Prop} (X : K.In s.heap) (I : ObjM s.heap x dx C mA)
    (hs : PySem.W.findIn K (.ref C) "__setattr__" = some (some (.builtin "object.__setattr__"))) (hp : PySem.W.plainOver K C = true) (ht : PySem.W.takerIn K C name = some none) (hh : PySem.W.hasDictIn K C = true)
    (hw : PySem.Within mA ns) (hsz : ns.length ≤ sizeLine)
    (h : ∀ h', ObjM h' x dx C (fun y => if y = name then some v else mA y) → Heap.SameBut dx s.heap h' → Q () { s with heap := h', toks := s.toks + 2 }) :
    wpAny (model prog w) A (setAttr (.ref x) name v) Q E s := by
  obtain ⟨od, J, hl⟩ := I.look
  refine PySem.W.set_plain X J hs (PySem.W.osa_open (s := { s with toks := s.toks + 1 }) (r := none) X J hp ht fun b => ?_)
  obtain ⟨cd, hc, hd'⟩ := PySem.W.any_some hh
  have hx : s.heap.get? x = some ⟨.ref C, some dx, .plain, #[]⟩ := I.obj
  refine wpAny_bind (wpAny_pure (wpAny_bind (wpAny_bind (wpAny_loadPart hx (wpAny_bind (PySem.W.Looks.here (s := { s with toks := s.toks + 1 }) (PySem.W.looks_clsIn X hc) ?_))))))
  rw [hd']
  refine wpAny_pure (a := some dx) (wpAny_bind (wpAny_pure (wpAny_bind ?_)))
  refine wpAny_nsSet1 (s := { s with toks := s.toks + 1 }) I.ns fun h' hn2 hs2 => ?_
  obtain ⟨oD, esD, epD, hoD, hdD, hcD⟩ := hn2.count (PySem.Within.cons name v hw)
  refine wpAny_bind (wpAny_lookBehind hoD (by rw [hdD]; exact pastItsLine_dict (Nat.le_trans hcD (by rw [List.length_cons]; omega))) ?_)
  exact wpAny_pure (h _ ⟨(hs2.2 _ (Ne.symm I.ne)).trans I.obj, hn2, I.ne⟩ hs2)

/-- C(..): the dict at the heap's end, the instance behind it; then its __init__ -/
theorem make_map {R : Result → Shared → Prop} {vs : List Value} {kw : List (Str × Value)} (X : K.In s.heap) (hm : PySem.W.makesIn K C = true)
    (hi : PySem.W.findIn K (.ref C) "__init__" = some (some (.ref f))) (hf : PySem.W.typeIn K (.ref f) = some (.type "function"))
    (h : codeAny (model prog w) (A.under (.builtin "type.__call__" ⟨.ref C :: vs, kw⟩)) (.call (.ref f) ⟨.ref (s.heap.objs.size + 1) :: vs, kw⟩) (PySem.W.InitBack (s.heap.objs.size + 1) R)
      { s with heap := (s.heap.push PySem.W.emptyDict).push (PySem.W.instObj C s.heap.objs.size) }) :
    codeAny (model prog w) A (.call (.ref C) ⟨vs, kw⟩) R s := by
  obtain ⟨hh, g, d, t, os⟩ := s
  exact PySem.W.make_core (PySem.W.makes_of X hm) (PySem.W.looks_findIn X hi) (fun self => PySem.W.bind_fn X self hf) (.inl rfl) h
end

/-! ### the attributes as a list of pairs -/
def putF (f : Str) (v : V) : List (Str × V) → List (Str × V)
  | [] => [(f, v)]
  | (g, x) :: r => if g = f then (g, v) :: r else (g, x) :: putF f v r
theorem lookup_putF (f g : Str) (v : V) : ∀ fs : List (Str × V), (putF f v fs).lookup g = if g = f then some v else fs.lookup g
  | [] => by
    show List.lookup g [(f, v)] = _
    by_cases h : g = f
    · have hb : (g == f) = true := beq_iff_eq.mpr h
      simp only [List.lookup, hb, if_pos h]
    · have hb : (g == f) = false := beq_eq_false_iff_ne.mpr h
      simp only [List.lookup, hb, if_neg h]
  | (k, x) :: r => by
    have ih := lookup_putF f g v r
    rw [show putF f v ((k, x) :: r) = (if k = f then (k, v) :: r else (k, x) :: putF f v r) from rfl]
    by_cases hk : k = f
    · rw [if_pos hk]
      by_cases h : g = k
      · have hb : (g == k) = true := beq_iff_eq.mpr h
        simp only [List.lookup, hb, if_pos (h.trans hk)]
      · have hb : (g == k) = false := beq_eq_false_iff_ne.mpr h
        simp only [List.lookup, hb, if_neg (fun e : g = f => h (e.trans hk.symm))]
    · rw [if_neg hk]
      by_cases h : g = k
      · have hb : (g == k) = true := beq_iff_eq.mpr h
        simp only [List.lookup, hb, if_neg (fun e : g = f => hk (h.symm.trans e))]
      · have hb : (g == k) = false := beq_eq_false_iff_ne.mpr h
        simp only [List.lookup, hb]
        exact ih
theorem keys_putF (f : Str) (v : V) : ∀ fs : List (Str × V), f ∈ (putF f v fs).map (·.1) ∧ ∀ g, g ∈ fs.map (·.1) → g ∈ (putF f v fs).map (·.1)
  | [] => ⟨by simp [putF], fun g h => by simp at h⟩
  | (k, x) :: r => by
    obtain ⟨i1, i2⟩ := keys_putF f v r
    rw [show putF f v ((k, x) :: r) = (if k = f then (k, v) :: r else (k, x) :: putF f v r) from rfl]
    by_cases hk : k = f
    · rw [if_pos hk]
      subst hk
      exact ⟨by simp, fun g h => by simpa using h⟩
    · rw [if_neg hk]
      refine ⟨?_, fun g h => ?_⟩
      · rw [List.map_cons]
        exact List.mem_cons_of_mem _ i1
      · rw [List.map_cons] at h ⊢
        rcases List.mem_cons.mp h with e | e
        · exact List.mem_cons.mpr (.inl e)
        · exact List.mem_cons_of_mem _ (i2 g e)
theorem length_putF (f : Str) (v : V) : ∀ fs : List (Str × V), (putF f v fs).length ≤ fs.length + 1
  | [] => by simp [putF]
  | (k, x) :: r => by
    have ih := length_putF f v r
    rw [show putF f v ((k, x) :: r) = (if k = f then (k, v) :: r else (k, x) :: putF f v r) from rfl]
    by_cases hk : k = f
    · rw [if_pos hk, List.length_cons, List.length_cons]; omega
    · rw [if_neg hk, List.length_cons, List.length_cons]; omega

theorem RelO.some_of {v : V} {o : Option Value} (r : RelO (some v) o) : ∃ u, o = some u ∧ RelV v u := by
  cases o with
  | none => exact (show False from r).elim
  | some u => exact ⟨u, rfl, r⟩
theorem RelO.none_of {o : Option Value} (r : RelO none o) : o = none := by
  cases o with
  | none => rfl
  | some u => exact (show False from r).elim
theorem handed_of {v : V} {u : Value} (r : RelV v u) : PySem.W.handedIn u = true := by
  cases v with
  | non => cases (show u = Value.none from r); rfl
  | bl b => cases (show u = Value.bool b from r); rfl
  | int i => obtain ⟨t, e⟩ := (show ∃ t, u = Value.int i t from r); cases e; rfl
  | str x => obtain ⟨t, e⟩ := (show ∃ t, u = Value.str x t from r); cases e; rfl
  | byt b => obtain ⟨t, e⟩ := (show ∃ t, u = Value.bytes b t from r); cases e; rfl
  | flt b => obtain ⟨t, e⟩ := (show ∃ t, u = Value.float b t from r); cases e; rfl
  | ref a => cases (show u = Value.ref a from r); rfl
  | ty n => cases (show u = Value.type n from r); rfl

section
variable {P : Program} {w : World} {H H' : Hp} {h h' : Heap} {a C dx : Addr} {fs fs' : List (Str × V)}
theorem ins_get (hok : HOk P w H h) (e : H a = some (.ins C dx fs)) : ∃ mA, ObjM h a dx C mA ∧ (∀ f, RelO (fs.lookup f) (mA f)) ∧ PySem.Within mA (fs.map (·.1)) ∧ fs.length ≤ 1000 ∧ H dx = some (.own a) := by
  obtain ⟨d, z, ne, ob, mA, n, r, q⟩ := (show ObjOk P w H h a (.ins C dx fs) from hok a _ e)
  exact ⟨mA, ⟨ob, n, ne⟩, r, q, z, d⟩
end

/-! ### what of the text a class must have -/
structure Cls (K : PySem.W.Frag) (C : Addr) : Prop where
  pg : PySem.W.plainGet K C Str.empty = true
  hd : PySem.W.hasDictIn K C = true
  po : PySem.W.plainOver K C = true
  sa : PySem.W.findIn K (.ref C) "__setattr__" = some (some (.builtin "object.__setattr__"))
theorem Cls.get {K : PySem.W.Frag} {C : Addr} (c : Cls K C) (f : Str) : PySem.W.plainGet K C f = true := c.pg
/-- no class of it has the name -/
def NoAttr (K : PySem.W.Frag) (C : Addr) (f : Str) : Prop := PySem.W.findIn K (.ref C) f = some none
theorem NoAttr.taker {K : PySem.W.Frag} {C : Addr} {f : Str} (n : NoAttr K C f) : PySem.W.takerIn K C f = some none := by
  unfold PySem.W.takerIn
  rw [show PySem.W.findIn K (.ref C) f = some none from n]
  rfl
/-- a constant of the class -/
structure Con (K : PySem.W.Frag) (C : Addr) (f : Str) (v : V) (u : Value) : Prop where
  at_ : PySem.W.findIn K (.ref C) f = some (some u)
  rel : RelV v u
  get : PySem.W.specialIn K u "__get__" = some none
  cp : PySem.W.copiedNames.contains f = false
/-- a method: a plain def of the class or of one above it -/
structure Meth (K : PySem.W.Frag) (C : Addr) (m : Str) (f : Addr) : Prop where
  at_ : PySem.W.findIn K (.ref C) m = some (some (.ref f))
  fn : PySem.W.isFn K (.ref f) = true
  kp : PySem.W.keepIn K (.ref f) = true

section
variable {X : Cx} {pins : List (Addr × Obj)} {σ : St} {H : Hp} {s : Shared} {a C dx : Addr} {fs : List (Str × V)} {f : Str} {v : V} {A : Around} {E : Value → Shared → Prop}

theorem getattr_ok {b : Bool} {Q : Value → Shared → Prop} (I : Inv X pins σ H s) (e : H a = some (.ins C dx fs)) (c : Cls X.K C) (n : NoAttr X.K C f) (l : fs.lookup f = some v)
    (h : ∀ u s', Inv X pins σ H s' → RelV v u → Q u s') : wpAny (model X.prog X.w) A (getAttr (.ref a) f b) Q E s := by
  obtain ⟨mA, O, r, _, _, _⟩ := ins_get I.hok e
  obtain ⟨u, hu, ru⟩ := RelO.some_of (v := v) (o := mA f) (by rw [← l]; exact r f)
  exact get_map I.kIn O (c.get f) c.hd n hu (handed_of ru) (h u _ (I.tok _) ru)

theorem getmeth_ok {m : Str} {g : Addr} {pl : Sem Bool} {Q : Value × List Value → Shared → Prop} (I : Inv X pins σ H s) (e : H a = some (.ins C dx fs)) (c : Cls X.K C) (k : Meth X.K C m g) (l : fs.lookup m = none)
    (h : Q (.ref g, [.ref a]) s) : wpAny (model X.prog X.w) A (getMethod (.ref a) m pl) Q E s := by
  obtain ⟨mA, O, r, _, _, _⟩ := ins_get I.hok e
  have hn : mA m = none := RelO.none_of (by rw [← l]; exact r m)
  exact get_meth I.kIn O (c.get m) k.at_ k.fn hn h

theorem setattr_ok {y : V} {u : Value} {Q : Unit → Shared → Prop} (I : Inv X pins σ H s) (e : H a = some (.ins C dx fs)) (c : Cls X.K C) (n : NoAttr X.K C f) (hl : fs.length < 1000) (ry : RelV y u)
    (h : ∀ s', Inv X pins σ (upd H a (.ins C dx (putF f y fs))) s' → Q () s') : wpAny (model X.prog X.w) A (setAttr (.ref a) f u) Q E s := by
  obtain ⟨mA, O, r, wi, _, ho⟩ := ins_get I.hok e
  have hz : (fs.map (·.1)).length ≤ sizeLine := by rw [List.length_map, sizeLine_eq]; omega
  refine set_map I.kIn O c.sa c.po n.taker c.hd wi hz fun h' O' sb => h _ ?_
  have hd : ∃ o, h'.get? dx = some o := let ⟨o, _, _, e', _⟩ := O'.ns; ⟨o, e'⟩
  refine I.write (x := a) (e := dx) (by rw [e]; exact True.intro) (.inr ho) (fun b q hb z => (sb.2 b hb).trans z) hd ?_
  refine ⟨by rw [upd_ne O.ne]; exact ho, ?_, O.ne, O'.obj, _, O'.ns, fun g => ?_, fun g hg => ?_⟩
  · have := length_putF f y fs; omega
  · show RelO ((putF f y fs).lookup g) (if g = f then some u else mA g)
    rw [lookup_putF]
    by_cases q : g = f
    · rw [if_pos q, if_pos q]; exact ry
    · rw [if_neg q, if_neg q]; exact r g
  · by_cases q : g = f
    · rw [q]; exact (keys_putF f y fs).1
    · refine (keys_putF f y fs).2 g (wi g fun z => hg ?_)
      show (if g = f then some u else mA g) = none
      rw [if_neg q]; exact z

/-- a new instance, tracked, without attributes -/
theorem Inv.made (I : Inv X pins σ H s) : Inv X pins σ (upd (upd H s.heap.objs.size (.own (s.heap.objs.size + 1))) (s.heap.objs.size + 1) (.ins C s.heap.objs.size []))
    { s with heap := (s.heap.push PySem.W.emptyDict).push (PySem.W.instObj C s.heap.objs.size) } := by
  have e1 : (s.heap.push PySem.W.emptyDict).get? s.heap.objs.size = some PySem.W.emptyDict := Heap.get?_push_size s.heap rfl
  have e2 : ((s.heap.push PySem.W.emptyDict).push (PySem.W.instObj C s.heap.objs.size)).get? (s.heap.objs.size + 1) = some (PySem.W.instObj C s.heap.objs.size) := by
    have := Heap.get?_push_size (s.heap.push PySem.W.emptyDict) (o := PySem.W.instObj C s.heap.objs.size) rfl
    rwa [Heap.size_push] at this
  have e3 : (s.heap.push PySem.W.emptyDict).Ns s.heap.objs.size (fun _ => none) := ⟨PySem.W.emptyDict, #[], _, e1, rfl, (fun e he => absurd he (by simp)), fun _ => rfl⟩
  have I1 := I.laid (a := s.heap.objs.size) (o := .own (s.heap.objs.size + 1)) (h' := s.heap.push PySem.W.emptyDict) (t' := s.toks) (fun b u q => Heap.get?_push_of_some _ q) (Nat.le_refl _) ⟨_, e1⟩
  refine I1.laid (a := s.heap.objs.size + 1) (o := .ins C s.heap.objs.size []) (t' := s.toks) (fun b u q => Heap.get?_push_of_some _ q) (Nat.le_of_eq (Heap.size_push _ _)) ?_
  have ne : s.heap.objs.size ≠ s.heap.objs.size + 1 := Nat.ne_of_lt (Nat.lt_succ_self _)
  refine ⟨by rw [upd_ne ne, upd_same], Nat.zero_le _, ne, e2, fun _ => none, (Heap.Ns1.of_empty e3).at fun o q => Heap.get?_push_of_some _ q, fun _ => True.intro, fun y hy => absurd rfl hy⟩

/-- e.f where nothing but the object is asked: through attributeBase (super) and the last hold -/
theorem attr_of {prog : Program} {w : World} {env : Env} {e : Expr} {f : Str} {pos : Pos} {s : Shared} {Q : Value → Shared → Prop} (hb : attributeBase e f env (eval e env) = eval e env)
    (h : wpAny (model prog w) A (eval e env) (fun o s₁ => wpAny (model prog w) A (getAttr o f true) Q E s₁) E s) : wpAny (model prog w) A (eval (.Attribute e f pos) env) Q E s :=
  Attribute_any_ h (by rw [arm_eval_Attribute, hb])
end

/-! ### readings and rules -/
/-- e.f, an attribute of the instance -/
def tFld (K : PySem.W.Frag) (ta : TE) (f : Str) : TE := fun σ H Q => ta σ H fun x H1 => ∃ a C dx fs v, x = .ref a ∧ H1 a = some (.ins C dx fs) ∧ Cls K C ∧ NoAttr K C f ∧ fs.lookup f = some v ∧ Q v H1
/-- e.f, a constant of the class -/
def tCon (K : PySem.W.Frag) (ta : TE) (f : Str) : TE := fun σ H Q => ta σ H fun x H1 => ∃ a C dx fs v u, x = .ref a ∧ H1 a = some (.ins C dx fs) ∧ Cls K C ∧ Con K C f v u ∧ fs.lookup f = none ∧ Q v H1
/-- e.f = value -/
def sFld (K : PySem.W.Frag) (ta tv : TE) (f : Str) : TS := fun D σ H => tv σ H fun y H1 => ta σ H1 fun x H2 => ∃ a C dx fs, x = .ref a ∧ H2 a = some (.ins C dx fs) ∧ Cls K C ∧ NoAttr K C f ∧ fs.length < 1000 ∧
  D.nx σ (upd H2 a (.ins C dx (putF f y fs)))
/-- an augmented operator on two values -/
def InOp (X : Cx) (op : Operator) (rd : V → V → Hp → VK → Prop) : Prop :=
  ∀ (pins : List (Addr × Obj)) (s : Shared) (σ : St) (H : Hp) (x y : V) (u v : Value) (Q : VK), Inv X pins σ H s → RelV x u → RelV y v → rd x y H Q → wpAny (model X.prog X.w) X.A (inplaceOp op u v) (EP X pins σ Q) X.xe s
/-- e.f op= value -/
def sFldAug (K : PySem.W.Frag) (ta tv : TE) (rd : V → V → Hp → VK → Prop) (f : Str) : TS := fun D σ H => ta σ H fun x H1 => ∃ a C dx fs v, x = .ref a ∧ H1 a = some (.ins C dx fs) ∧ Cls K C ∧ NoAttr K C f ∧ fs.lookup f = some v ∧
  tv σ H1 fun y H2 => rd v y H2 fun z H3 => ∃ dx' fs', H3 a = some (.ins C dx' fs') ∧ fs'.length < 1000 ∧ D.nx σ (upd H3 a (.ins C dx' (putF f z fs')))

section
variable {X : Cx} {o e value : Expr} {f : Str} {pos pos' tpos : Pos} {ta tv : TE}
theorem pe_fld (he : PE X e ta) (hb : attributeBase e f X.env (eval e X.env) = eval e X.env) : PE X (.Attribute e f pos) (tFld X.K ta f) := by
  intro pins s σ H Q I h
  refine attr_of hb (thn (he pins s σ H _ I h) fun u s1 ⟨x, H1, I1, rx, a, C, dx, fs, v, ex, ea, c, n, l, q⟩ => ?_)
  subst ex
  obtain rfl : u = Value.ref a := rx
  exact getattr_ok I1 ea c n l fun u' s2 I2 ru => ⟨v, H1, I2, ru, q⟩
theorem ps_fld (ha : PE X o ta) (hv : PE X value tv) (hs : swapsWith value (some (.Attribute o f pos')) pos.line X.env = pure false) : PS X (.Assign [.Attribute o f pos'] value pos) (sFld X.K ta tv f) := by
  intro pins s σ H D I h
  refine plainObj_wpAny_Assign_Attribute (thn (hv pins s σ H _ I h) fun u s1 ⟨y, H1, I1, ry, q⟩ => thn (ha pins s1 σ H1 _ I1 q) fun ov s2 ⟨x, H2, I2, rx, a, C, dx, fs, ex, ea, c, n, l, q2⟩ => ?_) hs
  subst ex
  obtain rfl : ov = Value.ref a := rx
  exact setattr_ok I2 ea c n l ry fun s3 I3 => ⟨σ, _, I3, q2⟩
def rAdd : V → V → Hp → VK → Prop := fun x y H Q => ∃ i j, x = .int i ∧ y = .int j ∧ Q (.int (i + j)) H
def rSub : V → V → Hp → VK → Prop := fun x y H Q => ∃ i j, x = .int i ∧ y = .int j ∧ Q (.int (i - j)) H
end

/-! ### isinstance -/
section
variable {X : Cx} {pins : List (Addr × Obj)} {σ : St} {H : Hp} {s : Shared} {A : Around} {E : Value → Shared → Prop} {Q : Value → Shared → Prop} {c : Value} {b : Bool}
/-- the type of a value, as the fragment's deciders take it; for an instance its class -/
inductive TyOf (K : PySem.W.Frag) (H : Hp) : V → Value → Prop where
  | non : TyOf K H .non (.type "NoneType")
  | bl (x : Bool) : TyOf K H (.bl x) (.type "bool")
  | int (i : Int) : TyOf K H (.int i) (.type "int")
  | str (x : Str) : TyOf K H (.str x) (.type "str")
  | flt (x : UInt64) : TyOf K H (.flt x) (.type "float")
  | lst {a : Addr} {xs : List V} (e : H a = some (.lst xs)) : TyOf K H (.ref a) (.type "list")
  | frz {a : Addr} {o : Obj} {xs : List V} (e : H a = some (.frz o (.lst xs))) : TyOf K H (.ref a) (.type "list")
  | tup {a : Addr} {xs : List V} (e : H a = some (.tup xs)) : TyOf K H (.ref a) (.type "tuple")
  | dK {a : Addr} {kvs : List (Key × V)} (e : H a = some (.dK kvs)) : TyOf K H (.ref a) (.type "dict")
  | dT {a : Addr} {kvs : List (List Key × V)} (e : H a = some (.dT kvs)) : TyOf K H (.ref a) (.type "dict")
  | ins {a C dx : Addr} {fs : List (Str × V)} (e : H a = some (.ins C dx fs)) (cl : Cls K C) (ha : PySem.W.findIn K (.ref C) "__class__" = some (some (.builtin "object.__class__")))
      (hn : PySem.W.specialIn K (.builtin "object.__class__") "__get__" = some (some (.builtin "getset_descriptor.__get__"))) (htk : PySem.W.takesIn K (.builtin "object.__class__") = some true)
      (hm : PySem.W.mroIn K C (.type "object") = some true) : TyOf K H (.ref a) (.ref C)
/-- isinstance(x, c) for one class c, a built-in or an own one: kitOne's answer -/
theorem isinst_ok {x : V} {u t : Value} (I : Inv X pins σ H s) (rx : RelV x u) (ty : TyOf X.K H x t) (e : PySem.W.kitOne X.K t c = some b) (h : ∀ tk, Q (.bool b) { s with toks := tk }) :
    wpAny (model X.prog X.w) A (call (.builtin "isinstance") [u, c]) Q E s := by
  cases ty with
  | non => cases (show u = Value.none from rx); exact PySem.W.kia_one PySem.W.kitx_none I.kIn True.intro e (fun z => nomatch z) h
  | bl y => cases (show u = Value.bool y from rx); exact PySem.W.kia_one PySem.W.kitx_bool I.kIn True.intro e (fun z => nomatch z) h
  | int i => obtain ⟨t, q⟩ := (show ∃ t, u = Value.int i t from rx); cases q; exact PySem.W.kia_one PySem.W.kitx_int I.kIn True.intro e (fun z => nomatch z) h
  | str y => obtain ⟨t, q⟩ := (show ∃ t, u = Value.str y t from rx); cases q; exact PySem.W.kia_one PySem.W.kitx_str I.kIn True.intro e (fun z => nomatch z) h
  | flt y => obtain ⟨t, q⟩ := (show ∃ t, u = Value.float y t from rx); cases q; exact PySem.W.kia_one PySem.W.kitx_float I.kIn True.intro e (fun z => nomatch z) h
  | @lst a xs ea =>
    cases (show u = Value.ref a from rx)
    obtain ⟨_, _, n, _, h1⟩ := (show ObjOk X.prog X.w H s.heap a (.lst xs) from I.hok a _ ea)
    exact PySem.W.kia_one PySem.W.kitx_list I.kIn ⟨_, h1, rfl⟩ e (fun z => nomatch z) h
  | @frz a ob xs ea =>
    cases (show u = Value.ref a from rx)
    obtain ⟨_, _, _, n, _, h1⟩ := (show ObjOk X.prog X.w H s.heap a (.frz ob (.lst xs)) from I.hok a _ ea)
    exact PySem.W.kia_one PySem.W.kitx_list I.kIn ⟨_, h1, rfl⟩ e (fun z => nomatch z) h
  | @tup a xs ea =>
    cases (show u = Value.ref a from rx)
    obtain ⟨_, _, _, p⟩ := (show ObjOk X.prog X.w H s.heap a (.tup xs) from I.hok a _ ea)
    obtain ⟨o, h1, h2, _⟩ := p
    exact PySem.W.kia_one PySem.W.kitx_tuple I.kIn ⟨o, h1, h2⟩ e (fun z => nomatch z) h
  | @dK a kvs ea =>
    cases (show u = Value.ref a from rx)
    obtain ⟨_, _, vs, _, p⟩ := (show ObjOk X.prog X.w H s.heap a (.dK kvs) from I.hok a _ ea)
    obtain ⟨o, es, ep, h1, h2, _⟩ := p
    exact PySem.W.kia_one PySem.W.kitx_dict I.kIn ⟨o, h1, h2.1⟩ e (fun z => nomatch z) h
  | @dT a kvs ea =>
    cases (show u = Value.ref a from rx)
    obtain ⟨_, _, xs, _, o, es, ep, h1, h2, _⟩ := (show ObjOk X.prog X.w H s.heap a (.dT kvs) from I.hok a _ ea)
    exact PySem.W.kia_one PySem.W.kitx_dict I.kIn ⟨o, h1, h2.1⟩ e (fun z => nomatch z) h
  | @ins a C dx fs ea cl ha hn htk hm =>
    cases (show u = Value.ref a from rx)
    obtain ⟨mA, O, _⟩ := ins_get I.hok ea
    obtain ⟨od, J, _⟩ := O.look
    exact PySem.W.kia_one (PySem.W.kitx_own (cl.get _) cl.hd ha hn htk hm) I.kIn J e (fun z => nomatch z) h
end
end L2

namespace L2
open PySem PySem.Spec PyProof.Rows

/-! ### room -/
structure Room (k : Nat) (A : Around) : Prop where
  hd : A.handled = none
  dp : A.depth + 3 * k + 5 < recursionLimit
  un : A.units + 16 * k + 200 < cLine
theorem Room.deeper {k : Nat} {A : Around} (r : Room (k + 1) A) (env : Env) : Room k (A.deeper env) :=
  ⟨r.hd, by have := r.dp; show A.depth + 1 + 3 * k + 5 < _; omega, by have := r.un; show A.units + 3 + 16 * k + 200 < _; omega⟩
theorem make_depth {A : Around} {C : Addr} {us : List Value} {kw : List (Str × Value)} : (A.under (.builtin "type.__call__" ⟨.ref C :: us, kw⟩)).depth = A.depth + 1 := by
  first | rfl | simp [Around.under, Code.weight, Code.isCreation, Code.isGuard, Code.isCaller, Code.frames, Code.isFrame, guardIds]
theorem make_units {A : Around} {C : Addr} {us : List Value} {kw : List (Str × Value)} : (A.under (.builtin "type.__call__" ⟨.ref C :: us, kw⟩)).units = A.units + 1 := by
  first | rfl | simp [Around.under, Code.cUnits, Code.frames, Code.isFrame]
theorem Room.make {k : Nat} {A : Around} (r : Room (k + 1) A) (C : Addr) (us : List Value) (kw : List (Str × Value)) : Room k (A.under (.builtin "type.__call__" ⟨.ref C :: us, kw⟩)) :=
  ⟨r.hd, by have := r.dp; rw [make_depth]; omega, by have := r.un; rw [make_units]; omega⟩
theorem Room.depth {k : Nat} {A : Around} (r : Room k A) : A.depth < recursionLimit := by have := r.dp; omega
theorem Room.units {k : Nat} {A : Around} (r : Room k A) : A.units + 64 < cLine := by have := r.un; omega
/-! ### argument lists and displays -/
def tNil : TA := fun _ H Q => Q [] H
def tCons (ta : TE) (tr : TA) : TA := fun σ H Q => ta σ H fun x H1 => tr σ H1 fun xs H2 => Q (x :: xs) H2
section
variable {X : Cx} {e : Expr} {es : List Expr} {te : TE} {t : TA} {pos : Pos}
theorem pa_nil : PA X [] tNil := fun _ _ _ _ H Q I h => Calls.spliced_nil ⟨[], H, I, .nil, h⟩
theorem pa_cons (ha : PE X e te) (hr : PA X es t) (hs : starEach (e :: es) X.env = (false, eval e X.env) :: starEach es X.env := by rfl) : PA X (e :: es) (tCons te t) := by
  intro pos pins s σ H Q I h
  rw [hs]
  show wpAny _ _ (spliced ((false, eval e X.env) :: backTo pos (starEach es X.env))) _ _ s
  refine Calls.spliced_cons (thn (ha pins s σ H _ I h) fun u s1 ⟨x, H1, I1, r1, q1⟩ => ?_)
  exact thn (hr pos pins s1 σ H1 _ I1 q1) fun us s2 ⟨xs, H2, I2, r2, q2⟩ => ⟨x :: xs, H2, I2, .cons r1 r2, q2⟩

/-- a tuple, a list of written items -/
def tTup (t : TA) : TE := fun σ H Q => t σ H fun xs H1 => xs.length ≤ sizeLine ∧ ∀ p, H1 p = none → Q (.ref p) (upd H1 p (.tup xs))
def tLst (t : TA) : TE := fun σ H Q => t σ H fun xs H1 => xs.length ≤ sizeLine ∧ ∀ p, H1 p = none → Q (.ref p) (upd H1 p (.lst xs))
theorem pe_tup {x1} (h : PA X es t) : PE X (.Tuple es x1 pos) (tTup t) := by
  intro pins s σ H Q I hq
  refine wpAny_Tuple_spliced (thn (h pos pins s σ H _ I hq) fun us s1 ⟨xs, H1, I1, r, z, q⟩ => ⟨by rw [← r.length]; exact z, ?_⟩)
  have hf : H1 s1.heap.objs.size = none := I1.hok.fresh (Nat.le_refl _)
  refine ⟨.ref s1.heap.objs.size, upd H1 s1.heap.objs.size (.tup xs), I1.laid (t' := s1.toks) (fun b u e => Heap.get?_push_of_some _ e) (Nat.le_refl _) ?_, rfl, q _ hf⟩
  exact ⟨z, us, r, ⟨_, Heap.get?_push_size _ rfl, rfl, _, rfl⟩⟩
theorem pe_lst (h : PA X es t) : PE X (.List es pos) (tLst t) := by
  intro pins s σ H Q I hq
  refine wpAny_List_spliced (thn (h pos pins s σ H _ I hq) fun us s1 ⟨xs, H1, I1, r, z, q⟩ => ⟨by rw [← r.length]; exact z, ?_⟩)
  have hf : H1 s1.heap.objs.size = none := I1.hok.fresh (Nat.le_refl _)
  refine ⟨.ref s1.heap.objs.size, upd H1 s1.heap.objs.size (.lst xs), I1.laid (t' := s1.toks) (fun b u e => Heap.get?_push_of_some _ e) (Nat.le_refl _) ?_, rfl, q _ hf⟩
  exact ⟨z, us, 0, r, Heap.get?_push_size _ rfl⟩
end

/-! ### what a def promises -/
/-- a def's promise: the bound arguments in the parameters' order, the heap, the wanted end, the wanted exception -/
abbrev Sp := List V → Hp → VK → XK → Prop
/-- how an exception lies behind a call (file 08 gives it): the callers' frames, abstract heap and state ahead of the call, the wish, the exception, the state -/
abbrev CXT := List Env → Hp → Shared → XK → Value → Shared → Prop

/-- the state at a call -/
structure Env0 (P : Program) (w : World) (K : PySem.W.Frag) (mg : Str → Option Value) (base : Heap) (A : Around) (outer : List Env) (s : Shared) (H : Hp) : Prop where
  frames : A.frames = some outer
  mod : Mod K mg base
  bs : ∀ b o, base.get? b = some o → s.heap.get? b = some o ∧ H b = none
  bsz : base.objs.size ≤ s.heap.objs.size
  funs : s.heap.FunFrames base outer
  frf : ∀ b ∈ frs outer, H b = none
  hok : HOk P w H s.heap
  bare : AllBare s.gens
/-- a call's end -/
def CE (outer : List Env) (P : Program) (w : World) (H : Hp) (s : Shared) (Q : VK) (u : Value) (s' : Shared) : Prop :=
  ∃ v H', s'.os = s.os ∧ AllBare s'.gens ∧ Un (frs outer) [] H H' s.heap s'.heap ∧ HOk P w H' s'.heap ∧ RelV v u ∧ Q v H'
def CR (CX : CXT) (outer : List Env) (P : Program) (w : World) (H : Hp) (s : Shared) (Q : VK) (E : XK) (r : Result) (s' : Shared) : Prop :=
  match r with
  | .ok (.ret u) => CE outer P w H s Q u s'
  | .ok _ => False
  | .error e => CX outer H s E e s'
structure FnOk (P : Program) (w : World) (K : PySem.W.Frag) (mg : Str → Option Value) (base : Heap) (CX : CXT) (k : Nat) (f : Addr) (fd : FuncData) (ps : List Str) (sp : Sp) : Prop where
  len : ∀ vs H Q E, sp vs H Q E → vs.length = ps.length
  run : ∀ (A : Around) (outer : List Env) (s : Shared) (H : Hp) (args : Args) (us : List Value) (vs : List V) (Q : VK) (E : XK), Room k A → Env0 P w K mg base A outer s H → BindsTo s fd args (ps.zip us) → Vals vs us → sp vs H Q E →
    codeAny (model P w) A (.call (.ref f) args) (CR CX outer P w H s Q E) s
theorem Env0.make {P : Program} {w : World} {K : PySem.W.Frag} {mg : Str → Option Value} {base : Heap} {A : Around} {outer : List Env} {s : Shared} {H : Hp} (e : Env0 P w K mg base A outer s H) (C : Addr) (us : List Value) (kw : List (Str × Value)) :
    Env0 P w K mg base (A.under (.builtin "type.__call__" ⟨.ref C :: us, kw⟩)) outer s H := ⟨by first | exact e.frames | (simpa [Around.under, Code.envs, Code.isFrame, pushEnvs] using e.frames), e.mod, e.bs, e.bsz, e.funs, e.frf, e.hok, e.bare⟩
section
variable {X : Cx} {pins : List (Addr × Obj)} {σ : St} {H : Hp} {s s' : Shared}
/-- from a body: what a callee wants -/
theorem Inv.env0 (I : Inv X pins σ H s) : Env0 X.prog X.w X.K X.mg X.base X.A X.stack s H :=
  ⟨I.ok.frames, I.ok.mod, I.bs, Nat.le_trans I.ok.bsz I.sz, I.stack, I.stkFree, I.hok, I.bare⟩
/-- behind a call -/
theorem Inv.after {Q : VK} {u : Value} (I : Inv X pins σ H s) (h : CE X.stack X.prog X.w H s Q u s') : EP X pins σ Q u s' := by
  obtain ⟨v, H', os, bare, un, hok, r, q⟩ := h
  obtain ⟨hh, g, d, t, os'⟩ := s'
  obtain rfl : os' = s.os := os
  exact ⟨v, H', I.call (h' := hh) (g' := g) (d' := d) (t' := t) (ch := []) un hok bare (fun b z => absurd z (by simp)), r, q⟩
end

/-! ### calls -/
/-- f(..): the written arguments, then the defaults dvs; E: what is wanted of an exception -/
def tCall (sp : Sp) (dvs : List V) (E : XK) (t : TA) : TE := fun σ H Q => t σ H fun vs H1 => sp (vs ++ dvs) H1 Q E
/-- o.m(..) of an instance of the class at C -/
def tMeth (C : Addr) (m : Str) (sp : Sp) (dvs : List V) (E : XK) (ta : TE) (t : TA) : TE := fun σ H Q => ta σ H fun x H1 => ∃ a dx fs, x = .ref a ∧ H1 a = some (.ins C dx fs) ∧ fs.lookup m = none ∧
  t σ H1 fun vs H2 => sp (x :: (vs ++ dvs)) H2 Q E
/-- C(..): a new instance and its dict, then __init__ -/
def tMake (C : Addr) (sp : Sp) (dvs : List V) (E : XK) (t : TA) : TE := fun σ H Q => t σ H fun vs H1 => ∀ x dx, H1 x = none → H1 dx = none → dx ≠ x →
  sp (.ref x :: (vs ++ dvs)) (upd (upd H1 dx (.own x)) x (.ins C dx [])) (fun v H2 => v = .non ∧ Q (.ref x) H2) E

/-- how the parameters are bound: us the positional arguments, kw the keywords' values by name, ds the defaults that fill up -/
def Binds (K : PySem.W.Frag) (fd : FuncData) (ps : List Str) (ds : List Value) : Prop :=
  ∀ (s : Shared) (us : List Value), K.In s.heap → (us ++ ds).length = ps.length → BindsTo s fd ⟨us, []⟩ (ps.zip (us ++ ds))
/-- every parameter is given -/
theorem Binds.all {K : PySem.W.Frag} {fd : FuncData} {ps : List Str} (h : ∀ us : List Value, us.length = ps.length → bindArgs fd ⟨us, []⟩ = pure (ps.zip us)) : Binds K fd ps [] := fun s us _ hl => by
  rw [List.append_nil] at hl ⊢
  exact .of_eq (h us hl)

/-- an exception of a callee reaches what this body wants of exceptions -/
def Passes (CX : CXT) (X : Cx) (E : XK) : Prop := ∀ (pins : List (Addr × Obj)) (σ : St) (H : Hp) (s : Shared) (e : Value) (s' : Shared), Inv X pins σ H s → CX X.stack H s E e s' → X.xe e s'

section
variable {X : Cx} {CX : CXT} {k : Nat} {f C : Addr} {fd : FuncData} {ps : List Str} {sp : Sp} {dvs : List V} {ds : List Value} {E : XK} {x m : Str} {p pos apos : Pos} {e o : Expr} {es : List Expr} {ta : TE} {t : TA}

/-- the callee runs -/
theorem run_fn {pins : List (Addr × Obj)} {σ : St} {H : Hp} {s : Shared} {Q : VK} {us : List Value} {vs : List V} (F : FnOk X.prog X.w X.K X.mg X.base CX k f fd ps sp) (hr : Room k X.A) (hb : Binds X.K fd ps ds) (hd : Vals dvs ds) (hx : Passes CX X E)
    (I : Inv X pins σ H s) (r : Vals vs us) (h : sp (vs ++ dvs) H Q E) : wpAny (model X.prog X.w) X.A (call (.ref f) us) (EP X pins σ Q) X.xe s := by
  have r2 : Vals (vs ++ dvs) (us ++ ds) := r.append hd
  have hl : (us ++ ds).length = ps.length := by rw [← r2.length]; exact F.len _ _ _ _ h
  refine wpAny_call (codeAny_mono (F.run X.A X.stack s H ⟨us, []⟩ (us ++ ds) (vs ++ dvs) Q E hr I.env0 (hb s us I.kIn hl) r2 h) fun r s' hq => ?_)
  cases r with
  | error e => exact hx pins σ H s e s' I hq
  | ok fl =>
    cases fl with
    | ret u => exact I.after hq
    | next => exact False.elim hq
    | brk => exact False.elim hq
    | cont => exact False.elim hq

theorem pe_call (F : FnOk X.prog X.w X.K X.mg X.base CX k f fd ps sp) (hr : Room k X.A) (hg : Gl X x) (hm : X.mg x = some (.ref f)) (hk : PySem.W.keepIn X.K (.ref f) = true) (hb : Binds X.K fd ps ds) (hd : Vals dvs ds) (hx : Passes CX X E)
    (ha : PA X (e :: es) t) (hdb : (x == ("__debug__" : Str)) = false := by decide) (he : starEach (e :: es) X.env = (false, eval e X.env) :: starEach es X.env := by rfl) (hpl : (backTo pos (starEach es X.env)).any (·.1) = false := by rfl) :
    PE X (.Call (.Name x p) (e :: es) [] pos) (tCall sp dvs E t) := by
  intro pins s σ H Q I h
  refine wpAny_Call_Name_kw (ld_glob I hg hm ?_ hdb)
  refine PySem.W.callWith_K (h₀ := X.base) I.ok.mod.kin hk (thn (ha pos pins s σ H _ I h) fun us s1 ⟨vs, H1, I1, r, q⟩ => ⟨I1.kIn, ?_⟩) he hpl
  exact run_fn F hr hb hd hx I1 r q
/-- o.m(e, ..) -/
theorem pe_meth {pl : Sem Bool} (he : PE X o ta) (c : Cls X.K C) (hm : Meth X.K C m f) (F : FnOk X.prog X.w X.K X.mg X.base CX k f fd ps sp) (hr : Room k X.A) (hb : Binds X.K fd ps ds) (hd : Vals dvs ds) (hx : Passes CX X E) (ha : PA X (e :: es) t)
    (hst : starEach (e :: es) X.env = (false, eval e X.env) :: starEach es X.env := by rfl) (hpl : (backTo pos (starEach es X.env)).any (·.1) = false := by rfl)
    (ht : eval (.Call (.Attribute o m apos) (e :: es) [] pos) X.env = (do
      let ov ← eval o X.env
      standAt apos.atName
      let (f, first) ← holding [ov] (getMethod ov m pl)
      callWith pos f first (backTo pos (starEach (e :: es) X.env)) (backToKw pos (keywordEach [] X.env))) := by rfl) :
    PE X (.Call (.Attribute o m apos) (e :: es) [] pos) (tMeth C m sp dvs E ta t) := by
  intro pins s σ H Q I h
  refine PySem.W.methodCall_KW (pl := pl) (thn (he pins s σ H _ I h) fun u s1 ⟨x, H1, I1, rx, a, dx, fs, ex, ea, l, q⟩ => ?_) ht
  subst ex
  obtain rfl : u = Value.ref a := rx
  refine getmeth_ok I1 ea c hm l ?_
  refine PySem.W.callWith_K (first := [.ref a]) (h₀ := X.base) I.ok.mod.kin hm.kp (thn (ha pos pins s1 σ H1 _ I1 q) fun us s2 ⟨vs, H2, I2, r, q2⟩ => ⟨I2.kIn, ?_⟩) hst hpl
  exact run_fn (us := .ref a :: us) (vs := .ref a :: vs) F hr hb hd hx I2 (.cons rfl r) q2
/-- o.m() -/
theorem pe_meth0 {pl : Sem Bool} (he : PE X o ta) (c : Cls X.K C) (hm : Meth X.K C m f) (F : FnOk X.prog X.w X.K X.mg X.base CX k f fd ps sp) (hr : Room k X.A) (hb : Binds X.K fd ps ds) (hd : Vals dvs ds) (hx : Passes CX X E)
    (ht : eval (.Call (.Attribute o m apos) [] [] pos) X.env = (do
      let ov ← eval o X.env
      standAt apos.atName
      let (f, first) ← holding [ov] (getMethod ov m pl)
      callWith pos f first (backTo pos (starEach [] X.env)) (backToKw pos (keywordEach [] X.env))) := by rfl) :
    PE X (.Call (.Attribute o m apos) [] [] pos) (tMeth C m sp dvs E ta tNil) := by
  intro pins s σ H Q I h
  refine PySem.W.methodCall_KW (pl := pl) (thn (he pins s σ H _ I h) fun u s1 ⟨x, H1, I1, rx, a, dx, fs, ex, ea, l, q⟩ => ?_) ht
  subst ex
  obtain rfl : u = Value.ref a := rx
  refine getmeth_ok I1 ea c hm l ?_
  exact PySem.W.callWith_K0 (first := [.ref a]) I1.kIn hm.kp (run_fn (us := [.ref a]) (vs := [.ref a]) F hr hb hd hx I1 (.cons rfl .nil) q)

/-- what a class must have to be made -/
structure Mk (K : PySem.W.Frag) (C f : Addr) : Prop where
  makes : PySem.W.makesIn K C = true
  init : PySem.W.findIn K (.ref C) "__init__" = some (some (.ref f))
  fn : PySem.W.isFn K (.ref f) = true
  kp : PySem.W.keepIn K (.ref C) = true

theorem run_make {pins : List (Addr × Obj)} {σ : St} {H : Hp} {s : Shared} {Q : VK} {us : List Value} {vs : List V} (M : Mk X.K C f) (F : FnOk X.prog X.w X.K X.mg X.base CX k f fd ps sp) (hr : Room (k + 1) X.A) (hb : Binds X.K fd ps ds) (hd : Vals dvs ds)
    (hx : Passes CX X E) (I : Inv X pins σ H s) (r : Vals vs us)
    (h : ∀ x dx, H x = none → H dx = none → dx ≠ x → sp (.ref x :: (vs ++ dvs)) (upd (upd H dx (.own x)) x (.ins C dx [])) (fun v H2 => v = .non ∧ Q (.ref x) H2) E) :
    wpAny (model X.prog X.w) X.A (call (.ref C) us) (EP X pins σ Q) X.xe s := by
  have hq := h (s.heap.objs.size + 1) s.heap.objs.size (I.hok.fresh (Nat.le_succ _)) (I.hok.fresh (Nat.le_refl _)) (Nat.ne_of_lt (Nat.lt_succ_self _))
  have I2 := Inv.made (C := C) I
  have r2 : Vals (V.ref (s.heap.objs.size + 1) :: (vs ++ dvs)) (Value.ref (s.heap.objs.size + 1) :: (us ++ ds)) := .cons rfl (r.append hd)
  have hl : (Value.ref (s.heap.objs.size + 1) :: us ++ ds).length = ps.length := by
    have e := r2.length
    rw [F.len _ _ _ _ hq] at e
    exact e.symm
  refine wpAny_call (make_map (f := f) I.kIn M.makes M.init (beq_iff_eq.mp M.fn) (codeAny_mono (F.run _ X.stack _ _ ⟨Value.ref (s.heap.objs.size + 1) :: us, []⟩ (Value.ref (s.heap.objs.size + 1) :: (us ++ ds)) _ _ E (hr.make C us [])
    (I2.env0.make C us []) (hb _ (Value.ref (s.heap.objs.size + 1) :: us) I2.kIn hl) r2 hq) fun r s' hq' => ?_))
  cases r with
  | error e => exact hx pins σ _ _ e s' I2 hq'
  | ok fl =>
    cases fl with
    | ret u =>
      obtain ⟨v, H', I3, rv, ev, q3⟩ := I2.after hq'
      subst ev
      exact ⟨rv, ⟨V.ref (s.heap.objs.size + 1), H', I3, rfl, q3⟩⟩
    | next => exact False.elim hq'
    | brk => exact False.elim hq'
    | cont => exact False.elim hq'
theorem pe_make (M : Mk X.K C f) (F : FnOk X.prog X.w X.K X.mg X.base CX k f fd ps sp) (hr : Room (k + 1) X.A) (hg : Gl X x) (hm : X.mg x = some (.ref C)) (hb : Binds X.K fd ps ds) (hd : Vals dvs ds) (hx : Passes CX X E)
    (ha : PA X (e :: es) t) (hdb : (x == ("__debug__" : Str)) = false := by decide) (he : starEach (e :: es) X.env = (false, eval e X.env) :: starEach es X.env := by rfl) (hpl : (backTo pos (starEach es X.env)).any (·.1) = false := by rfl) :
    PE X (.Call (.Name x p) (e :: es) [] pos) (tMake C sp dvs E t) := by
  intro pins s σ H Q I h
  refine wpAny_Call_Name_kw (ld_glob I hg hm ?_ hdb)
  refine PySem.W.callWith_K (h₀ := X.base) I.ok.mod.kin M.kp (thn (ha pos pins s σ H _ I h) fun us s1 ⟨vs, H1, I1, r, q⟩ => ⟨I1.kIn, ?_⟩) he hpl
  exact run_make M F hr hb hd hx I1 r q
end

/-! ### keywords -/
/-- the values of the keywords, from the left -/
def PK (X : Cx) (kws : List Keyword) (t : TA) : Prop :=
  ∀ (pos : Pos) (pins : List (Addr × Obj)) (s : Shared) (σ : St) (H : Hp) (Q : List V → Hp → Prop), Inv X pins σ H s → t σ H Q → wpAny (model X.prog X.w) X.A (evalAll ((backToKw pos (keywordEach kws X.env)).map (·.2))) (AP X pins σ Q) X.xe s
section
variable {X : Cx} {CX : CXT} {k : Nat} {f C : Addr} {fd : FuncData} {ps ks : List Str} {sp : Sp} {E : XK} {x m : Str} {p pos apos kpos : Pos} {e o : Expr} {es : List Expr} {kws : List Keyword} {te ta : TE} {t tk : TA} {nm : Option Str}
/-- how a call with keywords binds: g puts the positional values us and the keywords' values ws (names ks) in the parameters' order, defaults among them -/
structure KBinds (K : PySem.W.Frag) (fd : FuncData) (ps ks : List Str) (g : List Value → List Value → List Value) (gV : List V → List V → List V) : Prop where
  to : ∀ (s : Shared) (us ws : List Value), K.In s.heap → (g us ws).length = ps.length → BindsTo s fd ⟨us, ks.zip ws⟩ (ps.zip (g us ws))
  rel : ∀ {vs : List V} {us : List Value} {zs : List V} {ws : List Value}, Vals vs us → Vals zs ws → Vals (gV vs zs) (g us ws)
def tCallK (sp : Sp) (gV : List V → List V → List V) (E : XK) (t tk : TA) : TE := fun σ H Q => t σ H fun vs H1 => tk σ H1 fun zs H2 => sp (gV vs zs) H2 Q E
variable {g : List Value → List Value → List Value} {gV : List V → List V → List V}
end

/-! ### a def's body keeps its promise -/
/-- names: the parameters first -/
structure FnScope (N P : List Str) (sc : Scope) : Prop where
  kind : sc.kind = .function
  co : sc.isCoroutine = false
  gen : sc.isGenerator = false
  nd : N.Nodup
  pre : N.take P.length = P
  par : ∀ x ∈ P, sc.names.lookup x = some .local ∨ sc.names.lookup x = some .cell
  nofree : ∀ y ∈ sc.names, y.2 ≠ .free

theorem bindL_out {kindOf : Str → Option NameKind} {x : Str} : ∀ {binds : List (Str × Value)} {m : Str → Option Value}, (∀ v, (x, v) ∉ binds) → bindL kindOf binds m x = m x
  | [], _, _ => rfl
  | (n, v) :: r, m, h => by
    unfold bindL
    rw [bindL_out fun w hw => h w (List.mem_cons_of_mem _ hw)]
    split
    · have : x ≠ n := by rintro rfl; exact h v List.mem_cons_self
      simp [this]
    · rfl
theorem bindC_out {kindOf : Str → Option NameKind} {x : Str} : ∀ {binds : List (Str × Value)} {m : Str → Option Value}, (∀ v, (x, v) ∉ binds) → bindC kindOf binds m x = m x
  | [], _, _ => rfl
  | (n, v) :: r, m, h => by
    unfold bindC
    rw [bindC_out fun w hw => h w (List.mem_cons_of_mem _ hw)]
    split
    · rfl
    · have : x ≠ n := by rintro rfl; exact h v List.mem_cons_self
      simp [this]
theorem bindL_get {kindOf : Str → Option NameKind} {x : Str} {v : Value} : ∀ {P : List Str} {vs : List Value} {i : Nat} {m : Str → Option Value}, P.Nodup → P[i]? = some x → vs[i]? = some v → kindOf x = some .local →
    bindL kindOf (P.zip vs) m x = some v
  | [], _, _, _, _, h, _, _ => by simp at h
  | _ :: _, [], _, _, _, _, h, _ => by simp at h
  | p :: P, w :: vs, 0, m, nd, h1, h2, hk => by
    simp at h1 h2; subst h1; subst h2
    show bindL kindOf ((p, w) :: P.zip vs) m p = _
    unfold bindL
    rw [bindL_out fun v hv => (List.nodup_cons.mp nd).1 (List.of_mem_zip hv).1, if_pos hk]
    simp
  | p :: P, w :: vs, i + 1, m, nd, h1, h2, hk => by
    show bindL kindOf ((p, w) :: P.zip vs) m x = _
    unfold bindL
    exact bindL_get (i := i) (List.nodup_cons.mp nd).2 (by simpa using h1) (by simpa using h2) hk
theorem bindC_get {kindOf : Str → Option NameKind} {x : Str} {v : Value} : ∀ {P : List Str} {vs : List Value} {i : Nat} {m : Str → Option Value}, P.Nodup → P[i]? = some x → vs[i]? = some v → kindOf x ≠ some .local →
    bindC kindOf (P.zip vs) m x = some v
  | [], _, _, _, _, h, _, _ => by simp at h
  | _ :: _, [], _, _, _, _, h, _ => by simp at h
  | p :: P, w :: vs, 0, m, nd, h1, h2, hk => by
    simp at h1 h2; subst h1; subst h2
    show bindC kindOf ((p, w) :: P.zip vs) m p = _
    unfold bindC
    rw [bindC_out fun v hv => (List.nodup_cons.mp nd).1 (List.of_mem_zip hv).1, if_neg hk]
    simp
  | p :: P, w :: vs, i + 1, m, nd, h1, h2, hk => by
    show bindC kindOf ((p, w) :: P.zip vs) m x = _
    unfold bindC
    exact bindC_get (i := i) (List.nodup_cons.mp nd).2 (by simpa using h1) (by simpa using h2) hk

/-- the names' values at the entry -/
def start (N : List Str) (vs : List V) : St := vs.map some ++ List.replicate (N.length - vs.length) none

/-- the context of a def's body, at its entry; an exception leaves the frame, then lies as CX says -/
def cxOf (CX : CXT) (P : Program) (w : World) (K : PySem.W.Frag) (mg : Str → Option Value) (base : Heap) (N : List Str) (qual : Str) (scope : Scope) (f : Addr) (cd : Value) (A : Around) (outer : List Env) (s : Shared) (H : Hp) (E : XK) : Cx where
  prog := P
  w := w
  K := K
  mg := mg
  base := base
  A := A.deeper (envOfC qual scope s.heap.objs.size f cd)
  N := N
  s₀ := s
  H₀ := H
  env := envOfC qual scope s.heap.objs.size f cd
  outer := outer
  stack := envOfC qual scope s.heap.objs.size f cd :: outer
  ex := []
  calm := true
  fn := fun _ => true
  pn := []
  xe := fun e s' => wpAny (model P w) (A.deeper (envOfC qual scope s.heap.objs.size f cd)) (leaving (envOfC qual scope s.heap.objs.size f cd) e) (fun _ s'' => CX outer H s E e s'') (fun e' s'' => CX outer H s E e' s'') s'

theorem cell_has {sc : Scope} {n : Nat} {x : Str} (h : sc.names.lookup x = some .cell) : ∃ c, (cellsFrom n sc.names []).lookup x = some c := by
  have q := PySem.W.cellsFrom_some sc.names n [] (.inl h)
  exact Option.isSome_iff_exists.mp q

theorem inv_start {CX : CXT} {P : Program} {w : World} {K : PySem.W.Frag} {mg : Str → Option Value} {base : Heap} {N ps : List Str} {qual : Str} {scope : Scope} {f : Addr} {cd : Value} {A : Around} {outer : List Env} {s s1 : Shared} {H : Hp} {E : XK} {us : List Value} {vs : List V}
    (S : FnScope N ps scope) (hd : A.handled = none) (e0 : Env0 P w K mg base A outer s H) (hl : vs.length = ps.length) (r : Vals vs us)
    (x : InCallC s s.heap.objs.size (bindL (envOfC qual scope s.heap.objs.size f cd).kindOf (ps.zip us) fun _ => none) (cellsFrom (s.heap.objs.size + 1) scope.names []) (bindC (envOfC qual scope s.heap.objs.size f cd).kindOf (ps.zip us) fun _ => none) s1) :
    Inv (cxOf CX P w K mg base N qual scope f cd A outer s H E) [] (start N vs) H s1 := by
  have hpl : ps.length ≤ N.length := by have := congrArg List.length S.pre; rw [List.length_take] at this; omega
  obtain ⟨h1, tk, rfl, hk⟩ := x.done
  have noA : ∀ b : Addr, b ∉ (cxOf CX P w K mg base N qual scope f cd A outer s H E).ex := fun b z => absurd (show b ∈ ([] : List Addr) from z) (by simp)
  refine ⟨⟨e0.mod, S.kind, rfl, rfl, Nat.le_refl _, fun y z c h1 h2 => ?_, fun y hy => ?_, fun y c _ h => ?_, fun _ => hd, Around.frames_deeper e0.frames, .inr ⟨rfl, rfl⟩, fun b z => absurd z (noA b), e0.bs, e0.bsz, fun b _ _ => noA b, fun b z => absurd z (noA b), e0.funs, e0.frf⟩,
    rfl, e0.bare, Un.kept hk, ⟨_, x.toInCall.ns, fun i y v h1 h2 h3 => ?_⟩, fun y c h => ⟨_, x.cell y c h⟩, e0.hok.fresh (Nat.le_refl _), fun y c h => ?_, fun p hp => absurd (show p ∈ ([] : List (Addr × Obj)) from hp) (by simp), e0.hok.kept hk, ?_⟩
  · exact name_of_addr x.apart (PySem.mem_of_lookup h1) (PySem.mem_of_lookup h2)
  · have hy : scope.names.lookup y = some .cell ∨ scope.names.lookup y = some .free := hy
    rcases hy with hy | hy
    · exact cell_has hy
    · exact absurd rfl (S.nofree _ (PySem.mem_of_lookup hy))
  · exact Nat.le_of_lt (x.above y c (PySem.mem_of_lookup h))
  · have hi : i < vs.length := by
      unfold start at h2
      by_cases hi : i < vs.length
      · exact hi
      · rw [List.getElem?_append_right (by simpa using hi)] at h2
        rw [List.getElem?_replicate] at h2
        split at h2 <;> cases h2
    have ha : vs[i]? = some v := by
      unfold start at h2
      rw [List.getElem?_append_left (by simpa using hi), List.getElem?_map] at h2
      cases e : vs[i]? with
      | none => rw [e] at h2; cases h2
      | some a => rw [e] at h2; cases h2; rfl
    obtain ⟨u, hu, rv⟩ := r.get ha
    have hp : ps[i]? = some y := by
      rw [← S.pre, List.getElem?_take_of_lt (by omega)]; exact h1
    have ndP : ps.Nodup := by rw [← S.pre]; exact S.nd.sublist (List.take_sublist _ _)
    refine ⟨u, rv, ?_⟩
    rcases S.par y (List.mem_of_getElem? hp) with k | k
    · exact .inl ⟨k, bindL_get ndP hp hu k⟩
    · obtain ⟨c, e⟩ := cell_has (n := s.heap.objs.size + 1) k
      refine .inr ⟨.inl k, c, e, ?_⟩
      have q := x.cell y c e
      rw [bindC_get ndP hp hu (by show scope.names.lookup y ≠ _; rw [k]; decide)] at q
      exact q
  · exact e0.hok.fresh (Nat.le_of_lt (x.above y c (PySem.mem_of_lookup h)))
  · unfold start
    show _ = N.length
    rw [List.length_append, List.length_map, List.length_replicate]
    omega

/-- THE RULE: a def (or a method) of the text, by its body. The body's reading t is chosen for each entry; it is run at the parameters' values -/
theorem fn_of {CX : CXT} {P : Program} {w : World} {K : PySem.W.Frag} {mg : Str → Option Value} {base : Heap} {k : Nat} {f : Addr} {name qual : Str} {params : Arguments} {body : List Stmt} {scope : Scope} {dV kV doc pm cdv ct oc : Value} {an od : Option Addr}
    {osl : Array (Option Value)} {N ps : List Str} {sp : Sp} (lk : K.lookup f = some ⟨oc, od, .func (PySem.W.fnOf name qual params body scope dV kV doc pm an cdv ct), osl⟩) (hcd : PySem.W.codeIn K cdv qual = true) (S : FnScope N ps scope)
    (len : ∀ vs H Q E, sp vs H Q E → vs.length = ps.length)
    (hbody : ∀ (A : Around) (outer : List Env) (s : Shared) (H : Hp) (vs : List V) (Q : VK) (E : XK), Room k (A.deeper (envOfC qual scope s.heap.objs.size f cdv)) → sp vs H Q E →
      ∃ t, PSs (cxOf CX P w K mg base N qual scope f cdv A outer s H E) body t ∧ t { nx := fun _ H' => Q .non H', rt := Q } (start N vs) H) :
    FnOk P w K mg base CX (k + 1) f (PySem.W.fnOf name qual params body scope dV kV doc pm an cdv ct) ps sp := by
  refine ⟨len, fun A outer s H args us vs Q E hr e0 hb r hsp => ?_⟩
  have hl := len _ _ _ _ hsp
  have KX : K.In s.heap := e0.mod.kin.keeps fun b o e => (e0.bs b o e).1
  have lim : s.heap.NoLimit := e0.mod.nolimit.keeps fun b o e => (e0.bs b o e).1
  have hkind : ∀ y ∈ ps.zip us, scope.names.lookup y.1 = some .local ∨ (scope.names.lookup y.1 = some .cell ∧ ((cellsFrom (s.heap.objs.size + 1) scope.names []).lookup y.1).isSome = true) := fun ⟨n, v⟩ hy => by
    rcases S.par n (List.of_mem_zip hy).1 with q | q
    · exact .inl q
    · exact .inr ⟨q, PySem.W.cellsFrom_some _ _ _ (.inl q)⟩
  refine codeAny_call_function hr.depth (KX _ _ lk) rfl S.co S.gen rfl (PySem.W.codeRec_of KX hcd) (hb _ _ _ _ ?_)
  refine wpAny_newFunctionEnv_cells S.kind hkind fun env he s1 x => ?_
  subst he
  refine ⟨lim.keeps x.toInCall.keep, codeAny_func ?_⟩
  obtain ⟨t, ht, hq⟩ := hbody A outer s H vs Q E (hr.deeper _) hsp
  have I : Inv (cxOf CX P w K mg base N qual scope f cdv A outer s H E) [] (start N vs) H s1 := inv_start S hr.hd e0 hl r x
  refine wpAny_mono (ht [] s1 (start N vs) H _ I hq) (fun fl s' hs => ?_) fun e s' hs => hs
  have fin : ∀ {σ' : St} {H' : Hp} {v : V} {u : Value}, Inv (cxOf CX P w K mg base N qual scope f cdv A outer s H E) [] σ' H' s' → RelV v u → Q v H' → CE outer P w H s Q u s' :=
    fun {σ' H' v u} J rv q => ⟨v, H', J.os, J.bare, J.base, J.hok, rv, q⟩
  cases fl with
  | ret u =>
    obtain ⟨v, σ', H', J, rv, q⟩ := hs
    exact fin J rv q
  | next =>
    obtain ⟨σ', H', J, q⟩ := hs
    exact fin (v := V.non) (u := Value.none) J rfl q
  | brk =>
    obtain ⟨_, _, _, q⟩ := hs
    exact False.elim q
  | cont =>
    obtain ⟨_, _, _, q⟩ := hs
    exact False.elim q
end L2

namespace L2
open PySem PySem.Spec PyProof.Rows
section
variable {X : Cx} {x : Str} {p pos : Pos} {e : Expr} {es : List Expr} {t : TA} {id T : String} {r : List V → Hp → VK → Prop}

def tCB (r : List V → Hp → VK → Prop) (t : TA) : TE := fun σ H Q => t σ H fun vs H1 => r vs H1 Q
/-- f(e, ..), f a built-in function -/
theorem pe_callB (hc : CallR X (.builtin id) r) (hg : Gl X x) (hm : X.mg x = none) (hv : bootBuiltins x = some (.builtin id)) (ha : PA X (e :: es) t) (hn : x ≠ "__name__" := by decide) (hdb : (x == ("__debug__" : Str)) = false := by decide)
    (he : starEach (e :: es) X.env = (false, eval e X.env) :: starEach es X.env := by rfl) (hpl : (backTo pos (starEach es X.env)).any (·.1) = false := by rfl) : PE X (.Call (.Name x p) (e :: es) [] pos) (tCB r t) := by
  intro pins s σ H Q I h
  refine wpAny_Call_Name_kw (ld_blt I hg hm hv ?_ hn hdb)
  exact PyProof.Rows.callWith_builtin1 (thn (ha pos pins s σ H _ I h) fun us s1 ⟨vs, H1, I1, r1, q1⟩ => hc pins s1 σ H1 vs us Q I1 r1 q1) he hpl
/-- T(e, ..), T a built-in type -/
theorem pe_callTy (hc : CallR X (.type T) r) (hg : Gl X x) (hm : X.mg x = none) (hv : bootBuiltins x = some (.type T)) (ha : PA X (e :: es) t) (hn : x ≠ "__name__" := by decide) (hdb : (x == ("__debug__" : Str)) = false := by decide)
    (he : starEach (e :: es) X.env = (false, eval e X.env) :: starEach es X.env := by rfl) (hpl : (backTo pos (starEach es X.env)).any (·.1) = false := by rfl) : PE X (.Call (.Name x p) (e :: es) [] pos) (tCB r t) := by
  intro pins s σ H Q I h
  refine wpAny_Call_Name_kw (ld_blt I hg hm hv ?_ hn hdb)
  exact PyProof.Rows.callWith_type1 (thn (ha pos pins s σ H _ I h) fun us s1 ⟨vs, H1, I1, r1, q1⟩ => hc pins s1 σ H1 vs us Q I1 r1 q1) he hpl
end
end L2

namespace HT
open PySem PyProof.Rows

/-- t < u of tuples of ints -/
def lexLt : List Int → List Int → Bool
  | [], [] => false
  | [], _ :: _ => true
  | _ :: _, [] => false
  | x :: xs, y :: ys => if x = y then lexLt xs ys else decide (x < y)
theorem lexLt_cons (x y : Int) (xs ys : List Int) : lexLt (x :: xs) (y :: ys) = if x = y then lexLt xs ys else decide (x < y) := rfl
theorem lexLt_nil_nil : lexLt [] [] = false := rfl
theorem lexLt_nil_cons (y : Int) (ys : List Int) : lexLt [] (y :: ys) = true := rfl
theorem lexLt_cons_nil (x : Int) (xs : List Int) : lexLt (x :: xs) [] = false := rfl

theorem eqAt_int (A : Around) (s : Shared) (a : Int) (t : Tok) (c : Int) (u : Tok) : ∃ e, SeqAt.EqAt A s (.int a t) (.int c u) e ∧ (e = true ↔ a = c) :=
  ⟨(a == c), SeqAt.EqAt.int_int a t c u, by simp⟩
section
open PySem.SeqAt
open PySem.AutoSeq1 (wpAny_loadPart')
open PySem.MeetsSeq PySem.MeetsSeq2 PySem.MeetsSeq3

end

section
variable {prog : Program} {w : World} {A : Around} {E : Value → Shared → Prop} {s : Shared}

/-! ### t[a:b], not the whole -/
/-- a slice's bound as a place among n (d where it is left out) -/
def sIx (n d : Nat) : Option Int → Nat
  | none => d
  | some v => if v < 0 then (v + (n : Int)).toNat else min v.toNat n
end
end HT

namespace L2
open PySem PySem.Spec PyProof.Rows

/-! ### the parts of a slice -/
abbrev TO := St → Hp → (Option Int → Hp → Prop) → Prop
/-- a slice's part (left out, or an int) -/
def PO (X : Cx) (e : Option Expr) (t : TO) : Prop :=
  ∀ (pins : List (Addr × Obj)) (s : Shared) (σ : St) (H : Hp) (Q : Option Int → Hp → Prop), Inv X pins σ H s → t σ H Q →
    wpAny (model X.prog X.w) X.A (evalPart e X.env) (fun u s' => ∃ o H', Inv X pins σ H' s' ∧ IsPart u o ∧ Q o H') X.xe s
def tNoPart : TO := fun _ H Q => Q none H
def tPart (t : TE) : TO := fun σ H Q => t σ H fun x H1 => ∃ i, x = .int i ∧ Q (some i) H1

theorem intsAre_of {ns : List Int} : ∀ {us : List Value}, Vals (ns.map V.int) us → IntsAre us ns := by
  induction ns with
  | nil => intro us r; rw [List.map_nil] at r; cases r; exact .nil
  | cons n ns ih =>
    intro us r
    rw [List.map_cons] at r
    cases r with
    | cons r1 r2 =>
      obtain ⟨t, e⟩ := r1
      subst e
      exact .cons n t (ih r2)

section
variable {X : Cx} {e : Expr} {te : TE} {lo hi : Option Expr} {tl th : TO} {pos p2 : Pos}

/-- what a slice of a value is, by values: the slice object stands at sl -/
def SlR (X : Cx) (r : V → Option Int → Option Int → Hp → VK → Prop) : Prop :=
  ∀ (pins : List (Addr × Obj)) (s : Shared) (σ : St) (H : Hp) (x : V) (v vl vu : Value) (lo hi : Option Int) (sl : Addr) (Q : VK), Inv X pins σ H s → RelV x v → s.heap.IsSliceOf sl vl vu .none → IsPart vl lo → IsPart vu hi → r x lo hi H Q →
    ∃ T id, typeLookup (.type T) "__getitem__" = pure (some (.builtin id)) ∧ s.TypeIs v T ∧ wpAny (model X.prog X.w) X.A (getItem v (.ref sl)) (EP X pins σ Q) X.xe s
def tSl (r : V → Option Int → Option Int → Hp → VK → Prop) (te : TE) (tl th : TO) : TE := fun σ H Q => te σ H fun x H1 => tl σ H1 fun l H2 => th σ H2 fun u H3 => r x l u H3 Q
/-- the items of xs[lo:hi] -/
def cutV (xs : List V) (lo hi : Option Int) : List V := (xs.drop (HT.sIx xs.length 0 lo)).take (HT.sIx xs.length xs.length hi - HT.sIx xs.length 0 lo)
/-- t[lo:hi], not the whole of it (the whole would be t itself) -/
def rSlT (K : PySem.W.Frag) : V → Option Int → Option Int → Hp → VK → Prop := fun x lo hi H Q => ∃ a xs, x = .ref a ∧ SqT K H a xs ∧
  ¬ (HT.sIx xs.length 0 lo = 0 ∧ HT.sIx xs.length xs.length hi = xs.length) ∧ ∀ p, H p = none → Q (.ref p) (upd H p (.tup (cutV xs lo hi)))
/-! ### t < u, t + u -/
def rLtT (K : PySem.W.Frag) : R2 := fun x y H Q => ∃ a b ns ms, x = .ref a ∧ y = .ref b ∧ SqT K H a (ns.map V.int) ∧ SqT K H b (ms.map V.int) ∧ Q (.bl (HT.lexLt ns ms)) H
/-- t + u, t not empty: u empty gives t itself -/
def rCatT (K : PySem.W.Frag) : R2 := fun x y H Q => ∃ a b xs ys, x = .ref a ∧ y = .ref b ∧ SqT K H a xs ∧ SqT K H b ys ∧ xs ≠ [] ∧ xs.length + ys.length ≤ sizeLine ∧
  (ys = [] → Q (.ref a) H) ∧ (ys ≠ [] → ∀ p, H p = none → Q (.ref p) (upd H p (.tup (xs ++ ys))))
end
end L2

namespace L2
open PySem PySem.Spec PyProof.Rows

/-! ### places -/
/-- the place that an index of any sign means -/
def ixN (n : Nat) (i : Int) : Option Nat := if 0 ≤ i then (if i < n then some i.toNat else none) else if -(n : Int) ≤ i then some (i + n).toNat else none
def atI {α : Type} (xs : List α) (i : Int) : Option α := (ixN xs.length i).bind fun j => xs[j]?
theorem ixN_seq {n : Nat} {i : Int} {j : Nat} (h : ixN n i = some j) : seqIndex? i n = some j ∧ j < n ∧ -(n : Int) ≤ i ∧ i < n := by
  unfold ixN at h
  by_cases h0 : 0 ≤ i
  · rw [if_pos h0] at h
    by_cases h1 : i < n
    · rw [if_pos h1] at h
      have e : i.toNat = j := Option.some.inj h
      exact ⟨by rw [seqIndex_of h0 h1, e], by omega, by omega, h1⟩
    · rw [if_neg h1] at h; cases h
  · rw [if_neg h0] at h
    by_cases h1 : -(n : Int) ≤ i
    · rw [if_pos h1] at h
      have e : (i + n).toNat = j := Option.some.inj h
      exact ⟨by rw [seqIndex_neg (by omega) h1, e], by omega, h1, by omega⟩
    · rw [if_neg h1] at h; cases h
theorem atI_get {α : Type} {xs : List α} {i : Int} {v : α} (h : atI xs i = some v) : ∃ j, seqIndex? i xs.length = some j ∧ xs[j]? = some v ∧ j < xs.length ∧ -(xs.length : Int) ≤ i ∧ i < xs.length := by
  unfold atI at h
  cases e : ixN xs.length i with
  | none => rw [e] at h; cases h
  | some j =>
    rw [e] at h
    obtain ⟨h1, h2, h3, h4⟩ := ixN_seq e
    exact ⟨j, h1, h, h2, h3, h4⟩
theorem atI_nat {α : Type} {xs : List α} {j : Nat} {v : α} (h : xs[j]? = some v) : atI xs (j : Int) = some v := by
  have hj : j < xs.length := (List.getElem?_eq_some_iff.mp h).1
  have e : ixN xs.length (j : Int) = some j := by
    unfold ixN
    rw [if_pos (by omega), if_pos (by omega)]; simp
  unfold atI; rw [e]; exact h
/-! ### what may be subscripted -/
/-- what stands as an index of a plain subscript -/
def PlainIx (b : Expr) : Prop := ∀ o i, subscripted b false o i = operate [o, i] (getItem o i)
/-- a subscript by values -/
def IxR (X : Cx) (r : R2) : Prop :=
  ∀ (value slice : Expr) (pins : List (Addr × Obj)) (s : Shared) (σ : St) (H : Hp) (x y : V) (v u : Value) (Q : VK), Inv X pins σ H s → RelV x v → RelV y u → r x y H Q →
    subscripted slice false v u = operate [v, u] (getItem v u) → wpAny (model X.prog X.w) X.A (subscriptTail value slice v u) (EP X pins σ Q) X.xe s
/-- a call of a builtin's method by values: the receiver, the arguments -/
def MtR (X : Cx) (id : String) (r : V → List V → Hp → VK → Prop) : Prop :=
  ∀ (pins : List (Addr × Obj)) (s : Shared) (σ : St) (H : Hp) (x : V) (xs : List V) (v : Value) (us : List Value) (Q : VK), Inv X pins σ H s → RelV x v → Vals xs us → r x xs H Q →
    wpAny (model X.prog X.w) X.A (call (.builtin id) (v :: us)) (EP X pins σ Q) X.xe s
section
variable {X : Cx} {a b : Expr} {ta tb : TE} {pos : Pos}
/-- a[b] -/
theorem pe_ix {r : R2} (hr : IxR X r) (ha : PE X a ta) (hb : PE X b tb) (hs : PlainIx b) : PE X (.Subscript a b pos) (tOp r ta tb) := by
  intro pins s σ H Q I h
  exact Subscript_ (binT ha hb I h fun v u s2 x y H2 I2 rx ry q => hr a b pins s2 σ H2 x y v u Q I2 rx ry q (hs _ _))

def rIxL (K : PySem.W.Frag) : R2 := fun x y H Q => ∃ p xs i v, x = .ref p ∧ y = .int i ∧ SqL K H p xs ∧ atI xs i = some v ∧ Q v H
def rIxT (K : PySem.W.Frag) : R2 := fun x y H Q => ∃ p xs i v, x = .ref p ∧ y = .int i ∧ SqT K H p xs ∧ atI xs i = some v ∧ Q v H
def rIxS : R2 := fun x y H Q => ∃ z i c, x = .str z ∧ y = .int i ∧ z.length ≤ sizeLine ∧ atI z.cps.toList i = some c ∧ Q (.str ⟨#[c]⟩) H
theorem ix_list : IxR X (rIxL X.K) := by
  intro value slice pins s σ H x y v u Q I rx ry h hs
  obtain ⟨p, xs, i, z, rfl, rfl, hq, he, q⟩ := h
  cases rx
  obtain ⟨t, rfl⟩ := ry
  obtain ⟨its, r, pl, hz⟩ := I.list hq
  obtain ⟨j, h1, h2, h3, h4, h5⟩ := atI_get he
  obtain ⟨w, ew, rw'⟩ := r.get h2
  have hl := r.length
  have hn := line63
  have fin : EP X pins σ Q w s := ⟨z, H, I, rw', q⟩
  by_cases h0 : 0 ≤ i
  · have hj : i.toNat = j := by
      rw [seqIndex_of h0 h5] at h1
      exact Option.some.inj h1
    exact item_listR pl.isList h0 (by omega) (by rw [hj]; simpa using ew) fin hs
  · have hj : (i + (its.toArray.size : Int)).toNat = j := by
      rw [seqIndex_neg (by omega) h4] at h1
      rw [List.size_toArray, ← hl]
      exact Option.some.inj h1
    exact subscriptTail_builtinR (x := w) pl.isList.typeIs slot_list_getitem.lookup
      (wpAny_getItem_list_neg (Q := fun r s' => r = w ∧ EP X pins σ Q r s') pl.isList (by omega) (by rw [List.size_toArray] <;> omega) (by omega) (by rw [hj]; simpa using ew) ⟨rfl, fin⟩) hs
theorem ix_tup : IxR X (rIxT X.K) := by
  intro value slice pins s σ H x y v u Q I rx ry h hs
  obtain ⟨p, xs, i, z, rfl, rfl, hq, he, q⟩ := h
  cases rx
  obtain ⟨t, rfl⟩ := ry
  obtain ⟨its, r, pl, hz⟩ := I.tuple hq
  obtain ⟨j, h1, h2, h3, h4, h5⟩ := atI_get he
  obtain ⟨w, ew, rw'⟩ := r.get h2
  have hl := r.length
  have hn := line63
  have fin : EP X pins σ Q w s := ⟨z, H, I, rw', q⟩
  exact subscriptTail_builtinR (x := w) pl.typeIs slot_tuple_getitem.lookup
    (getItem_tuple (j := j) (Q := fun r s' => r = w ∧ EP X pins σ Q r s') pl (by omega) (by omega) (by rw [List.size_toArray, ← hl]; exact h1) (by simpa using ew) ⟨rfl, fin⟩) hs
theorem ix_str : IxR X rIxS := by
  intro value slice pins s σ H x y v u Q I rx ry h hs
  obtain ⟨z, i, c, rfl, rfl, hz, he, q⟩ := h
  obtain ⟨t, rfl⟩ := rx
  obtain ⟨t', rfl⟩ := ry
  obtain ⟨j, h1, h2, h3, h4, h5⟩ := atI_get he
  have hl : z.cps.toList.length = z.length := by simp [Str.length]
  rw [hl] at h1 h4 h5
  have hn := line63
  exact tail_any (typeIs_str s z t) slot_str_getitem.lookup (getItem_str (c := c) (by
    have e1 : decide (i < -(2 ^ 63 : Int)) = false := decide_eq_false (by omega)
    have e2 : decide (i ≥ 2 ^ 63) = false := decide_eq_false (by omega)
    rw [e1, e2, Bool.or_false]) (by rw [h1]; simpa using h2) ⟨.str ⟨#[c]⟩, H, I.tok _, ⟨_, rfl⟩, q⟩) hs
/-- list, tuple or str -/
def rIx (K : PySem.W.Frag) : R2 := fun x y H Q => rIxL K x y H Q ∨ rIxT K x y H Q ∨ rIxS x y H Q
/-! ### xs[i] = v, any sign -/
/-- the list's object behind a store -/
theorem mapSeq_set (its : List Value) (n j : Nat) (u : Value) : Obj.mapSeq (·.setIfInBounds j u) { cls := .type "list", data := .seq its.toArray n } = { cls := .type "list", data := .seq (its.set j u).toArray n } := by
  simp [Obj.mapSeq]
theorem Inv.lst {pins : List (Addr × Obj)} {σ : St} {H : Hp} {s : Shared} {p : Addr} {xs : List V} (I : Inv X pins σ H s) (h : H p = some (.lst xs)) :
    ∃ (its : List Value) (n : Nat), Vals xs its ∧ s.heap.get? p = some { cls := .type "list", data := .seq its.toArray n } ∧ xs.length ≤ sizeLine := by
  obtain ⟨z, its, n, r, e⟩ := I.hok p _ h
  exact ⟨its, n, r, e, z⟩
/-- the list at p is written by an update of its object -/
theorem Inv.lstUpd {pins : List (Addr × Obj)} {σ : St} {H : Hp} {s : Shared} {p : Addr} {xs ys : List V} {its its' : List Value} {n n' : Nat} {f : Obj → Obj} (I : Inv X pins σ H s) (h : H p = some (.lst xs))
    (ho : s.heap.get? p = some { cls := .type "list", data := .seq its.toArray n }) (hf : f { cls := .type "list", data := .seq its.toArray n } = { cls := .type "list", data := .seq its'.toArray n' }) (r : Vals ys its') (hz : ys.length ≤ sizeLine) (t : Nat) :
    Inv X pins σ (upd H p (.lst ys)) { s with heap := s.heap.update p f, toks := t } := by
  have e : (s.heap.update p f).get? p = some { cls := .type "list", data := .seq its'.toArray n' } := by
    rw [Heap.get?_update_self f ho (by rw [hf] <;> rfl), hf]
  refine I.write (x := p) (e := p) (by rw [h]; trivial) (.inl rfl) (fun b u hb q => (Heap.get?_update_other _ _ (Ne.symm hb)).trans q) ⟨_, e⟩ ?_
  exact ⟨hz, its', n', r, e⟩
def rSetL : V → V → V → Hp → (Hp → Prop) → Prop := fun o i v H Q => ∃ p xs k j, o = .ref p ∧ i = .int k ∧ H p = some (.lst xs) ∧ ixN xs.length k = some j ∧ Q (upd H p (.lst (xs.set j v)))
theorem set_list : PSet X rSetL := by
  intro pins s σ H o i v ov iv u Q I ro ri rv h
  obtain ⟨p, xs, k, j, rfl, rfl, hp, hj, q⟩ := h
  cases ro
  obtain ⟨t, rfl⟩ := ri
  obtain ⟨its, n, r, ho, hz⟩ := I.lst hp
  obtain ⟨h1, h2, h3, h4⟩ := ixN_seq hj
  have hl := r.length
  have hn := line63
  have I' : Inv X pins σ (upd H p (.lst (xs.set j v))) { s with heap := s.heap.update p (Obj.mapSeq (·.setIfInBounds j u)) } :=
    I.lstUpd hp ho (mapSeq_set its n j u) (r.set rv j) (by rw [List.length_set]; exact hz) s.toks
  by_cases h0 : 0 ≤ k
  · have hk : k.toNat = j := by
      rw [seqIndex_of h0 h4] at h1
      exact Option.some.inj h1
    exact PySem.W.ki_setAt ho h0 (by omega) (by rw [List.size_toArray, ← hl]; exact h4) (by rw [hk]; exact ⟨_, I', q⟩)
  · have hk : (k + (its.toArray.size : Int)).toNat = j := by
      rw [seqIndex_neg (by omega) h3] at h1
      rw [List.size_toArray, ← hl]
      exact Option.some.inj h1
    exact PySem.W.ki_setBack ho (by omega) (by rw [List.size_toArray, ← hl]; exact h3) (by omega) (by rw [hk]; exact ⟨_, I', q⟩)

/-! ### slices -/
/-- xs[lo:hi] of a list: a new list -/
def rSlL (K : PySem.W.Frag) : V → Option Int → Option Int → Hp → VK → Prop := fun x lo hi H Q => ∃ a xs, x = .ref a ∧ SqL K H a xs ∧ ∀ p, H p = none → Q (.ref p) (upd H p (.lst (cutV xs lo hi)))
/-! ### in, not in: flat items -/
def flatV : V → Bool
  | .non => true
  | .bl _ => true
  | .int _ => true
  | .str _ => true
  | _ => false
/-- == of flat values -/
def eqV : V → V → Bool
  | .non, .non => true
  | .bl a, .bl b => a == b
  | .bl a, .int b => (if a then 1 else 0) == b
  | .int a, .bl b => a == (if b then 1 else 0)
  | .int a, .int b => a == b
  | .str a, .str b => a == b
  | _, _ => false
theorem eqAt_V {A : Around} {s : Shared} {y x : V} {u v : Value} (ry : RelV y u) (rx : RelV x v) (fy : flatV y = true) (fx : flatV x = true) : SeqAt.EqAt A s u v (eqV y x) := by
  cases y with
  | non =>
    cases ry
    cases x with
    | non => cases rx; exact SeqAt.EqAt.same _
    | bl b => cases rx; exact SeqAt.EqAt.none_bool b
    | int b => obtain ⟨t, rfl⟩ := rx; exact SeqAt.EqAt.none_int b t
    | str b => obtain ⟨t, rfl⟩ := rx; exact SeqAt.EqAt.none_str b t
    | _ => exact absurd (show false = true from fx) Bool.false_ne_true
  | bl a =>
    cases ry
    cases x with
    | non => cases rx; exact SeqAt.EqAt.bool_none a
    | bl b => cases rx; exact SeqAt.EqAt.bool_bool a b
    | int b => obtain ⟨t, rfl⟩ := rx; exact SeqAt.EqAt.bool_int a b t
    | str b => obtain ⟨t, rfl⟩ := rx; exact SeqAt.EqAt.bool_str a b t
    | _ => exact absurd (show false = true from fx) Bool.false_ne_true
  | int a =>
    obtain ⟨t', rfl⟩ := ry
    cases x with
    | non => cases rx; exact SeqAt.EqAt.int_none a t'
    | bl b => cases rx; exact SeqAt.EqAt.int_bool a t' b
    | int b => obtain ⟨t, rfl⟩ := rx; exact SeqAt.EqAt.int_int a t' b t
    | str b => obtain ⟨t, rfl⟩ := rx; exact SeqAt.EqAt.int_str a t' b t
    | _ => exact absurd (show false = true from fx) Bool.false_ne_true
  | str a =>
    obtain ⟨t', rfl⟩ := ry
    cases x with
    | non => cases rx; exact SeqAt.EqAt.str_none a t'
    | bl b => cases rx; exact SeqAt.EqAt.str_bool a t' b
    | int b => obtain ⟨t, rfl⟩ := rx; exact SeqAt.EqAt.str_int a t' b t
    | str b => obtain ⟨t, rfl⟩ := rx; exact SeqAt.EqAt.str_str a t' b t
    | _ => exact absurd (show false = true from fx) Bool.false_ne_true
  | _ => exact absurd (show false = true from fy) Bool.false_ne_true
/-- the items' answers, read off the values (a value's own answer does not lean on its token) -/
def eqU (x : V) (u : Value) : Bool := match u with
  | .none => eqV .non x
  | .bool b => eqV (.bl b) x
  | .int i _ => eqV (.int i) x
  | .str z _ => eqV (.str z) x
  | _ => false
theorem eqU_of {x y : V} {u : Value} (r : RelV y u) (f : flatV y = true) : eqU x u = eqV y x := by
  cases y with
  | non => cases r; rfl
  | bl b => cases r; rfl
  | int i => obtain ⟨t, rfl⟩ := r; rfl
  | str z => obtain ⟨t, rfl⟩ := r; rfl
  | _ => exact absurd (show false = true from f) Bool.false_ne_true
theorem any_eqU {x : V} : ∀ {xs : List V} {us : List Value}, Vals xs us → xs.all flatV = true → us.any (eqU x) = xs.any fun y => eqV y x
  | _, _, .nil, _ => rfl
  | y :: xs, u :: us, .cons r t, f => by
    rw [List.all_cons, Bool.and_eq_true] at f
    rw [List.any_cons, List.any_cons, eqU_of r f.1, any_eqU t f.2]
theorem mem_eqAt {A : Around} {s : Shared} {x : V} {v : Value} (rx : RelV x v) (fx : flatV x = true) : ∀ {xs : List V} {us : List Value}, Vals xs us → xs.all flatV = true → ∀ u ∈ us, SeqAt.EqAt A s u v (eqU x u)
  | _, _, .nil, _ => fun u hu => by cases hu
  | y :: xs, u :: us, .cons r t, f => fun u' hu => by
    rw [List.all_cons, Bool.and_eq_true] at f
    rcases List.mem_cons.mp hu with rfl | hu
    · rw [eqU_of r f.1]; exact eqAt_V r rx f.1 fx
    · exact mem_eqAt rx fx t f.2 u' hu
def inV (x : V) (xs : List V) : Bool := xs.any fun y => eqV y x
/-- x in a list or tuple of flat items -/
def rIn (K : PySem.W.Frag) (neg : Bool) : R2 := fun x y H Q => ∃ p xs, y = .ref p ∧ (SqL K H p xs ∨ SqT K H p xs) ∧ flatV x = true ∧ xs.all flatV = true ∧ Q (.bl (if neg then !inV x xs else inV x xs)) H
theorem op_in_seq : OpR X (compareOp .In) (rIn X.K false) := by
  intro pins s σ H x y v u Q I rx ry h
  obtain ⟨p, xs, rfl, hq, fx, fs, q⟩ := h
  cases ry
  rcases hq with hq | hq
  · obtain ⟨its, r, pl, hz⟩ := I.list hq
    refine SeqAt.in_listAt (eqU x) pl.isList (fun w hw => mem_eqAt rx fx r fs w (by simpa using hw)) ⟨.bl _, H, I, rfl, ?_⟩
    rw [show its.toArray.any (eqU x) = its.any (eqU x) by simp, any_eqU r fs]
    exact q
  · obtain ⟨its, r, pl, hz⟩ := I.tuple hq
    refine SeqAt.in_tupleAt (eqU x) pl (fun w hw => mem_eqAt rx fx r fs w (by simpa using hw)) ⟨.bl _, H, I, rfl, ?_⟩
    rw [show its.toArray.any (eqU x) = its.any (eqU x) by simp, any_eqU r fs]
    exact q
theorem op_notIn_seq : OpR X (compareOp .NotIn) (rIn X.K true) := by
  intro pins s σ H x y v u Q I rx ry h
  obtain ⟨p, xs, rfl, hq, fx, fs, q⟩ := h
  cases ry
  rcases hq with hq | hq
  · obtain ⟨its, r, pl, hz⟩ := I.list hq
    refine SeqAt.notIn_listAt (eqU x) pl.isList (fun w hw => mem_eqAt rx fx r fs w (by simpa using hw)) ⟨.bl _, H, I, rfl, ?_⟩
    rw [show its.toArray.any (eqU x) = its.any (eqU x) by simp, any_eqU r fs]
    exact q
  · obtain ⟨its, r, pl, hz⟩ := I.tuple hq
    refine SeqAt.notIn_tupleAt (eqU x) pl (fun w hw => mem_eqAt rx fx r fs w (by simpa using hw)) ⟨.bl _, H, I, rfl, ?_⟩
    rw [show its.toArray.any (eqU x) = its.any (eqU x) by simp, any_eqU r fs]
    exact q
theorem op_notIn_str : OpR X (compareOp .NotIn) (fun x y H Q => ∃ i j, x = .str i ∧ y = .str j ∧ Q (.bl (!(!(Builtin.Str.occurrences j i 0 j.length 1).isEmpty))) H) := by
  intro pins s σ H x y v u Q I rx ry h
  obtain ⟨i, j, rfl, rfl, q⟩ := h
  obtain ⟨t, rfl⟩ := rx
  obtain ⟨t', rfl⟩ := ry
  exact notIn_str ⟨.bl _, H, I, rfl, q⟩

/-! ### len, list(x), tuple(x) of any list or tuple that is read -/
theorem call_len_seq : CallR X (.builtin "len") (fun xs H Q => ∃ p ys, xs = [.ref p] ∧ (SqL X.K H p ys ∨ SqT X.K H p ys) ∧ Q (.int ys.length) H) := by
  intro pins s σ H xs us Q I r h
  obtain ⟨p, ys, rfl, hq, q⟩ := h
  obtain ⟨u, rfl, rx⟩ := vals1 r
  cases rx
  have hn := line63
  rcases hq with hq | hq
  · obtain ⟨its, r', pl, hz⟩ := I.list hq
    have hlen := r'.length
    exact Calls.call_len_list pl.isList (by simp only [List.size_toArray] <;> omega) ⟨.int ys.length, H, I.tok _, ⟨s.toks + 1, by rw [List.size_toArray, hlen]⟩, q⟩
  · obtain ⟨its, r', pl, hz⟩ := I.tuple hq
    have hlen := r'.length
    exact len_tuple pl (by simp only [List.size_toArray] <;> omega) ⟨.int ys.length, H, I.tok _, ⟨s.toks + 1, by rw [List.size_toArray, hlen]⟩, q⟩
theorem call_len_str : CallR X (.builtin "len") (fun xs H Q => ∃ z, xs = [.str z] ∧ z.length ≤ sizeLine ∧ Q (.int z.length) H) := by
  intro pins s σ H xs us Q I r h
  obtain ⟨z, rfl, hz, q⟩ := h
  obtain ⟨u, rfl, t, rfl⟩ := vals1 r
  have hn := line63
  exact len_str (by omega) ⟨.int z.length, H, I.tok _, ⟨_, rfl⟩, q⟩
/-! ### the call of a builtin's method: o.m(..) -/
/-- the value is of that builtin type -/
def tyV (K : PySem.W.Frag) (T : String) (x : V) (H : Hp) : Prop := match x with
  | .str _ => T = "str"
  | .int _ => T = "int"
  | .ref p => (T = "list" ∧ ∃ xs, SqL K H p xs) ∨ (T = "tuple" ∧ ∃ o, K.lookup p = some o ∧ o.cls = .type "tuple" ∧ o.dict = none) ∨
      (T = "dict" ∧ ((∃ kvs, H p = some (.dK kvs)) ∨ ∃ kvs, H p = some (.dT kvs))) ∨ (T = "set" ∧ ∃ S n, H p = some (.set S n))
  | _ => False
theorem tyV_is {pins : List (Addr × Obj)} {σ : St} {H : Hp} {s : Shared} {T : String} {x : V} {v : Value} (I : Inv X pins σ H s) (r : RelV x v) (ty : tyV X.K T x H) :
    s.TypeIs v T ∧ ∀ a, v = .ref a → ∃ ob, s.heap.get? a = some ob ∧ ob.dict = none := by
  cases x with
  | str z =>
    obtain ⟨t, rfl⟩ := r
    cases (show T = "str" from ty)
    exact ⟨typeIs_str s z t, fun _ e => nomatch e⟩
  | int i =>
    obtain ⟨t, rfl⟩ := r
    cases (show T = "int" from ty)
    exact ⟨typeIs_int s i t, fun _ e => nomatch e⟩
  | ref p =>
    cases r
    rcases ty with ⟨rfl, xs, hq⟩ | ⟨rfl, o, hk, hc, hd⟩ | ⟨rfl, hk⟩ | ⟨rfl, S, n, hk⟩
    · obtain ⟨its, _, pl, _⟩ := I.list hq
      refine ⟨pl.isList.typeIs, fun a e => ?_⟩
      cases e
      obtain ⟨o, n, e, c, hd, _⟩ := pl
      exact ⟨o, e, hd⟩
    · refine ⟨⟨o, I.kIn p o hk, hc⟩, fun a e => ?_⟩
      cases e
      exact ⟨o, I.kIn _ o hk, hd⟩
    · have z : ∃ o, s.heap.get? p = some o ∧ o.ExactDict := by
        rcases hk with ⟨kvs, hk⟩ | ⟨kvs, hk⟩
        · obtain ⟨_, _, _, _, o, _, _, e, ex, _⟩ := I.hok p _ hk
          exact ⟨o, e, ex⟩
        · obtain ⟨_, _, _, _, o, _, _, e, ex, _⟩ := I.hok p _ hk
          exact ⟨o, e, ex⟩
      obtain ⟨o, e, ex⟩ := z
      refine ⟨⟨o, e, ex.1⟩, fun a e2 => ?_⟩
      cases e2
      exact ⟨o, e, ex.2.1⟩
    · obtain ⟨o, _, _, _, e, ex, _⟩ := I.hok p _ hk
      refine ⟨⟨o, e, ex.1⟩, fun a e2 => ?_⟩
      cases e2
      exact ⟨o, e, ex.2.1⟩
  | _ => exact False.elim ty
def tBM0 (K : PySem.W.Frag) (T : String) (r : V → List V → Hp → VK → Prop) (to : TE) : TE := fun σ H Q => to σ H fun x H1 => tyV K T x H1 ∧ r x [] H1 Q
def tBM (K : PySem.W.Frag) (T : String) (r : V → List V → Hp → VK → Prop) (to : TE) (t : TA) : TE := fun σ H Q => to σ H fun x H1 => tyV K T x H1 ∧ t σ H1 fun xs H2 => r x xs H2 Q
variable {o e : Expr} {es : List Expr} {to : TE} {t : TA} {name : Str} {apos cpos : Pos} {T id : String} {r : V → List V → Hp → VK → Prop}
theorem pe_bm (pa : PlainAttrs T) (slot : Slot T name id) (hty : typeOf (.builtin id) = pure (.type "method_descriptor")) (hm : MtR X id r) (ho : PE X o to) (ha : PA X (e :: es) t)
    (hbase : attributeBase o name X.env (eval o X.env) = eval o X.env := by rfl)
    (hfew : ((backTo cpos (starEach (e :: es) X.env)).all (fun x => !x.1) && (backToKw cpos (keywordEach [] X.env)).all (fun x => x.1.isSome)
      && decide ((e :: es).length + ([] : List Keyword).length + (if ([] : List Keyword).isEmpty then 0 else 1) < 30)) = true := by rfl)
    (hline : (apos.endLine == cpos.line) = true := by rfl) (hs : starEach (e :: es) X.env = (false, eval e X.env) :: starEach es X.env := by rfl) (hplain : (backTo cpos (starEach es X.env)).any (·.1) = false := by rfl) :
    PE X (.Call (.Attribute o name apos) (e :: es) [] cpos) (tBM X.K T r to t) := by
  intro pins s σ H Q I h
  refine wpAny_Call_method_late hbase hfew hline rfl (thn (ho pins s σ H _ I h) fun v s1 ⟨x, H1, I1, r1, ty, q1⟩ => ?_)
  obtain ⟨h1, h2⟩ := tyV_is I1 r1 ty
  refine ⟨T, id, pa, slot, hty, h1, h2, ?_⟩
  have hA := ha cpos pins s1 σ H1 _ I1 q1
  rw [hs] at hA ⊢
  refine Calls.callWith_builtin (by show (false || (backTo cpos (starEach es X.env)).any (·.1)) = false; rw [hplain] <;> rfl) (Calls.evalArgs_plain ?_)
  exact thn hA fun us s2 ⟨vs, H2, I2, r2, q2⟩ => hm pins s2 σ H2 x vs v us Q I2 r1 r2 q2
/- xs.append(e), list.index on a module's tuple .. are MtR facts of 06m -/
end
end L2

namespace L2
open PySem PySem.Spec PyProof.Rows

def MtM (X : Cx) (id : String) (r : V → List V → Hp → VK → Prop) : Prop :=
  ∀ (pins : List (Addr × Obj)) (s : Shared) (σ : St) (H : Hp) (x : V) (xs : List V) (v : Value) (us : List Value) (Q : VK), Inv X pins σ H s → RelV x v → Vals xs us → r x xs H Q →
    wpAny (model X.prog X.w) X.A (call (.builtin id) (v :: us)) (EP X pins σ Q) X.xe s

/-! ### lists of values -/
theorem Vals.one : ∀ {x : V} {us : List Value}, Vals [x] us → ∃ u, us = [u] ∧ RelV x u
  | _, _, .cons r .nil => ⟨_, rfl, r⟩
section
variable {X : Cx} {pins : List (Addr × Obj)} {σ : St} {H : Hp} {s : Shared} {l b : Addr} {xs ys zs : List V}

/-! ### the two steps: a tracked list is rewritten, a new list is laid -/
theorem Inv.lset {its its' : List Value} {n : Nat} {f : Array Value → Array Value} {t' : Nat} (I : Inv X pins σ H s) (hH : H l = some (.lst xs))
    (e : s.heap.get? l = some { cls := .type "list", data := .seq its.toArray n }) (hf : f its.toArray = its'.toArray) (hv : Vals ys its') (hz : ys.length ≤ sizeLine) :
    Inv X pins σ (upd H l (.lst ys)) { s with heap := s.heap.update l (Obj.mapSeq f), toks := t' } := by
  have q := PySem.IsL.update e f
  rw [hf] at q
  refine I.write (x := l) (e := l) (by rw [hH]; exact trivial) (.inl rfl) (fun b' u hb hu => (Heap.get?_update_other s.heap (Obj.mapSeq f) (Ne.symm hb)).trans hu) ⟨_, q⟩ ?_
  exact ⟨hz, its', _, hv, q⟩
theorem Inv.lnew {its : List Value} {t' : Nat} (I : Inv X pins σ H s) (hv : Vals ys its) (hz : ys.length ≤ sizeLine) :
    Inv X pins σ (upd H s.heap.objs.size (.lst ys)) { s with heap := s.heap.push { cls := .type "list", data := .seq its.toArray }, toks := t' } :=
  I.laid (fun _ _ q => Heap.get?_push_of_some _ q) (Nat.le_refl _) ⟨hz, its, 0, hv, Heap.get?_push_size _ rfl⟩
theorem Inv.fresh (I : Inv X pins σ H s) : H s.heap.objs.size = none := I.hok.fresh (Nat.le_refl _)
theorem Inv.lstM (I : Inv X pins σ H s) (hH : H l = some (.lst xs)) : xs.length ≤ sizeLine ∧ ∃ (its : List Value) (n : Nat), Vals xs its ∧ xs.length = its.length ∧ s.heap.get? l = some { cls := .type "list", data := .seq its.toArray n } := by
  obtain ⟨z, its, n, r, e⟩ := I.hok l _ hH
  exact ⟨z, its, n, r, r.length, e⟩

end

section
variable {X : Cx}

/-! ### methods -/
def rAppend : V → List V → Hp → VK → Prop := fun x vs H Q => ∃ l xs y, x = .ref l ∧ vs = [y] ∧ H l = some (.lst xs) ∧ xs.length < sizeLine ∧ Q .non (upd H l (.lst (xs ++ [y])))
theorem mt_append : MtM X "list.append" rAppend := by
  intro pins s σ H x vs v us Q I rx rv h
  obtain ⟨l, xs, y, rfl, rfl, hH, hz, q⟩ := h
  cases rx
  obtain ⟨u, rfl, ru⟩ := rv.one
  obtain ⟨z, its, n, r, hl, e⟩ := I.lstM hH
  refine call_meets F.slot_list_append ⟨_, e, rfl⟩ F.entry_list_append (F.args_list_append_2 _ _) (PySem.list_append l its.toArray n u (by rw [List.size_toArray]; omega)) ⟨e, ?_⟩
  refine ⟨.non, _, I.lset (its' := its ++ [u]) hH e (by simp) (r.append (.cons ru .nil)) ?_, rfl, q⟩
  rw [List.length_append, List.length_singleton]
  omega

def rExtend : V → List V → Hp → VK → Prop := fun x vs H Q => ∃ l b xs zs, x = .ref l ∧ vs = [.ref b] ∧ H l = some (.lst xs) ∧ H b = some (.lst zs) ∧ xs.length + zs.length ≤ sizeLine ∧ Q .non (upd H l (.lst (xs ++ zs)))
def rPop : V → List V → Hp → VK → Prop := fun x vs H Q => ∃ l xs y, x = .ref l ∧ vs = [] ∧ H l = some (.lst xs) ∧ xs[xs.length - 1]? = some y ∧ Q y (upd H l (.lst xs.dropLast))
def rPopAt : V → List V → Hp → VK → Prop := fun x vs H Q => ∃ l xs i k y, x = .ref l ∧ vs = [.int i] ∧ H l = some (.lst xs) ∧ -(2 ^ 63) ≤ i ∧ i < 2 ^ 63 ∧ seqIndex? i xs.length = some k ∧ xs[k]? = some y ∧ Q y (upd H l (.lst (xs.eraseIdx k)))
def rReverse : V → List V → Hp → VK → Prop := fun x vs H Q => ∃ l xs, x = .ref l ∧ vs = [] ∧ H l = some (.lst xs) ∧ Q .non (upd H l (.lst xs.reverse))
def rClear : V → List V → Hp → VK → Prop := fun x vs H Q => ∃ l xs, x = .ref l ∧ vs = [] ∧ H l = some (.lst xs) ∧ Q .non (upd H l (.lst []))
/-! ### list + list, list += list, list * int -/
def rCat : R2 := fun x y H Q => ∃ l b xs zs, x = .ref l ∧ y = .ref b ∧ H l = some (.lst xs) ∧ H b = some (.lst zs) ∧ xs.length + zs.length ≤ sizeLine ∧ ∀ p, H p = none → Q (.ref p) (upd H p (.lst (xs ++ zs)))
/-- a list times an int (a negative one is nothing) -/
def rRep : R2 := fun x y H Q => ∃ l k xs, x = .ref l ∧ y = .int k ∧ H l = some (.lst xs) ∧ -(2 ^ 63) ≤ k ∧ k < 2 ^ 63 ∧ xs.length * k.toNat ≤ sizeLine ∧
  ∀ p, H p = none → Q (.ref p) (upd H p (.lst (List.replicate k.toNat xs).flatten))
/-! ### del xs[i] -/
end

/-! ### xs[a:b] = ys -/
section
variable {prog : Program} {w : World} {A : Around} {E : Value → Shared → Prop} {s : Shared}
end

section
variable {X : Cx}
end
end L2

namespace Att
open PySem PySem.W PySem.Calls PyProof.Rows

/-! ### the script -/
theorem ints_of_wellAll {P : Params} {h : Heap} : ∀ (ns : List Int) (vs : List Value), WellAll P h vs (ns.map WData.int) → IntsAre vs ns := by
  intro ns
  induction ns with
  | nil =>
    intro vs w
    rw [List.map_nil] at w
    cases w
    exact .nil
  | cons n ns ih =>
    intro vs w
    rw [List.map_cons] at w
    cases w with
    | cons a b =>
      cases a
      exact .cons _ _ (ih _ b)

theorem script_of {l : OpenLaw} {n : Nat} (hn : l.most = some n) {P : Params} {h : Heap} {args : List WData} {vals : List Value}
    (hpre : l.row.toRowW.claim.pre args = true) (hwl : WellAll P h vals args) :
    ∃ a vs ns, vals = [Value.ref a] ∧ args = [WData.list (ns.map WData.int)] ∧ h.get? a = some { cls := .type "list", data := .seq vs.toArray } ∧ IntsAre vs ns ∧ ns.length ≤ n := by
  have hsh : WShape.hasAll [] args [.list .int] = true := (pre_splitW hpre).1
  have hc : l.pre.holds [] { args := args } = true := (pre_splitW hpre).2
  obtain ⟨d, r, rfl, h1, h2⟩ := hasAllW_cons hsh
  obtain rfl := hasAllW_nil h2
  obtain ⟨xs, rfl, h3⟩ := hasW_list h1
  obtain ⟨ns, rfl⟩ := items_int h3
  have hlen : ns.length ≤ n := by
    unfold OpenLaw.pre at hc
    have h4 : (WTm.not (.lt (.lit (.int (n : Int))) (.len (.arg 0)))).holds [] { args := [.list (ns.map .int)] } = true := by
      have h4 := (holds_andW hc).1
      rw [hn] at h4
      exact h4
    have h5 := condW_of h4 (w_not (w_lt w_lit (w_len_list (w_arg rfl))))
    rw [List.length_map] at h5
    refine Nat.le_of_not_lt fun q => ?_
    have q' : (n : Int) < ((ns.length : Nat) : Int) := by omega
    first
      | (rw [decide_eq_true q'] at h5; exact absurd h5 (by decide))
      | (simp at h5; omega)
  cases hwl with
  | cons w1 w2 =>
    cases w2
    cases w1 with
    | list ho hall => exact ⟨_, _, ns, rfl, rfl, ho, ints_of_wellAll ns _ hall, hlen⟩

theorem post_true (l : OpenLaw) (args : List WData) : l.row.toRowW.claim.post args (.bool true) args = true :=
  postW_of (r := l.row.toRowW) (X := (true == true))
    (show WShape.has [] (.bool true) .bool = true by first | rfl | decide | simp [WShape.has, WShape.arms, WShape.armsAll])
    (show (WTm.eq .res (.lit (.bool true))).value [] { args := args, res := some (.bool true), after := args } = some (.bool (true == true)) from w_eq_bool (w_res rfl) w_lit) rfl

/-! ### the attachment: holds_open's last premise (the goal 'hc' behind k_head) from a wpAny of the law's body -/
/-- the same from a codeAny of the CALL (for a layer whose function contracts speak of calls) -/
theorem attach_call {l : OpenLaw} {n : Nat} {q : Program} {loose : List Str} {XP : (Str → Option Value) → Heap → Prop} {YP : World → Heap → Prop} {d : DefRec}
    (hn : l.most = some n) (hdf : d.params.defaults = [])
    (call : ∀ (w : World) (s₀ s₁ : Shared) (mg mb : Str → Option Value) (fa : Addr) (o : Obj) (pm cd doc : Value) (a : Addr) (vs : List Value) (ns : List Int),
      Ground q loose [] XP w s₀ mg mb s₁.heap → YP w s₁.heap →
      s₁.heap.get? fa = some o → o.data = .func (docDef d.name d.params d.body d.scope pm cd doc) → s₁.heap.CodeRec cd d.name → mg d.name = some (.ref fa) →
      s₁.heap.get? a = some { cls := .type "list", data := .seq vs.toArray } → IntsAre vs ns → ns.length ≤ n → s₁.gens = #[] →
      codeAny (model l.prog w) callerA (.call (.ref fa) ⟨[.ref a], []⟩) (fun r s' => r = .ok (.ret (.bool true)) ∧ OldK s₁.heap s'.heap ∧ s'.os = s₁.os ∧ AllBare s'.gens) s₁) :
    WalkO q loose XP YP l.row.toRowW d [] (fun f vs => PySem.call f vs) := by
  intro w s₀ s₁ mg mb G Y fa o pm cd doc dV kV ho hd hcd hD hmg hg args vals as hpre hlay hrd hwl hlo
  obtain rfl : dV = .none := Dflts.none hD hdf
  obtain rfl : kV = .none := Dflts.noKw hD
  obtain ⟨a, vs, ns, rfl, rfl, hobj, hints, hlen⟩ := script_of hn hpre hwl
  refine enter_call (codeAny_mono (call w s₀ s₁ mg mb fa o pm cd doc a vs ns G Y ho (fd_plain hd) hcd hmg hobj hints hlen hg) fun r s' hq => ?_)
  obtain ⟨rfl, h2, h3, h4⟩ := hq
  exact ⟨.inl ⟨.bool true, .bool true, [], rfl, fun _ => rfl, .bool true, post_true l _, fun _ => ⟨List.Pairwise.nil, fun _ hm => (nomatch hm)⟩⟩, h2, h3, h4⟩

/-! ### rules over ANY heap (no ledger) from facts about the written part K: the library's own take a ledger (News) for what they write -/
section
variable {prog : Program} {w : World} {A : Around} {E : Value → Shared → Prop} {s : Shared} {K : Frag}

/-! the whole heap as the ledger: makes every rule that writes through a ledger a rule over any heap -/
def noObjs (h : Heap) : Heap := { h with objs := #[] }
def ledger (h : Heap) (L d : Addr) : List (Addr × Obj) := (List.range h.objs.size).filterMap fun a => if a = L ∨ a = d then none else (h.get? a).map fun o => (a, o)
end
end Att

namespace L2
open PySem PySem.Spec PyProof.Rows

theorem vals_ints : ∀ {vs : List Value} {ns : List Int}, IntsAre vs ns → Vals (ns.map V.int) vs
  | _, _, .nil => .nil
  | _, _, .cons n t h => .cons ⟨t, rfl⟩ (vals_ints h)

/-- nothing is tracked but the script, known to the object (or it is an object of the module) -/
def Only (H : Hp) : Prop := ∀ b, H b = none ∨ ∃ o xs, H b = some (.frz o (.lst xs))

/-- THE HEAD: the law's promise, at the heap behind the top. F, the promise of the law's def, may use that base is part of the heap (so K.In base, base.Ns mainGlobals mg stand in Mod) -/
theorem law_call {P : Program} {w : World} {K : PySem.W.Frag} {mg mb : Str → Option Value} {CX : CXT} {k : Nat} {fa a : Addr} {fd : FuncData} {x : Str} {sp : Sp} {s₁ : Shared} {vs : List Value} {ns : List Int}
    (KX : K.In s₁.heap) (hns : s₁.heap.Ns mainGlobals mg) (hb : s₁.heap.Ns builtinsNs mb) (hbb : ∀ x : Str, x ≠ "__name__" → mb x = bootBuiltins x) (hlim : s₁.heap.NoLimit) (hg : s₁.gens = #[])
    (ha : s₁.heap.get? a = some { cls := .type "list", data := .seq vs.toArray }) (hi : IntsAre vs ns) (hl : ns.length ≤ sizeLine) (hr : Room k callerA)
    (F : ∀ base : Heap, K.In base → base.Ns mainGlobals mg → FnOk P w K mg base CX k fa fd [x] sp) (hbind : ∀ (s : Shared) (u : Value), BindsTo s fd ⟨[u], []⟩ [(x, u)])
    (hsp : ∀ H : Hp, Only H → SqL K H a (ns.map V.int) → sp [.ref a] H (fun v _ => v = .bl true) fun _ _ _ => False)
    (hCX : ∀ H e s', CX [] H s₁ (fun _ _ _ => False) e s' → False) :
    codeAny (model P w) callerA (.call (.ref fa) ⟨[.ref a], []⟩) (fun r s' => r = .ok (.ret (.bool true)) ∧ OldK s₁.heap s'.heap ∧ s'.os = s₁.os ∧ AllBare s'.gens) s₁ := by
  have rv := vals_ints hi
  have lenV := hi.length
  -- from an abstract heap in which nothing but the script may be tracked
  have core : ∀ H : Hp, Only H → SqL K H a (ns.map V.int) → HOk P w H s₁.heap → (∀ b, H b ≠ none → b = a) → (H a ≠ none → K.lookup a = none) →
      codeAny (model P w) callerA (.call (.ref fa) ⟨[.ref a], []⟩) (fun r s' => r = .ok (.ret (.bool true)) ∧ OldK s₁.heap s'.heap ∧ s'.os = s₁.os ∧ AllBare s'.gens) s₁ := by
    intro H hO hS hok hA hK
    have base_of : ∀ {b : Addr} {o : Obj}, s₁.heap.get? b = some o → H b = none → (hidT s₁.heap H).get? b = some o := fun e n => hidT_get e n
    have noA : ∀ {b : Addr} {o : Obj} {es : Array DictEntry} {ep : Nat}, s₁.heap.get? b = some o → o.data = .dict es ep → H b = none := fun {b o es ep} e d => by
      cases q : H b with
      | none => rfl
      | some u =>
        have e' : b = a := hA b (by rw [q]; simp)
        subst e'
        rw [ha] at e; cases e
        have d' : Data.seq vs.toArray _ = Data.dict es ep := d
        cases d'
    have nsK : ∀ {b : Addr} {m : Str → Option Value}, s₁.heap.Ns b m → (hidT s₁.heap H).Ns b m := fun {b m} ⟨o, es, ep, e, d, r⟩ => ⟨o, es, ep, base_of e (noA e d), d, r⟩
    have hKb : K.In (hidT s₁.heap H) := fun b o e => base_of (KX b o e) (by
      cases q : H b with
      | none => rfl
      | some u =>
        have e' : b = a := hA b (by rw [q]; simp)
        subst e'
        rw [hK (by rw [q]; simp)] at e; cases e)
    have hM : Mod K mg (hidT s₁.heap H) := ⟨hKb, nsK hns, ⟨mb, nsK hb, hbb⟩, let ⟨mc, h1, h2⟩ := hlim; ⟨mc, nsK h1, h2⟩⟩
    have e0 : Env0 P w K mg (hidT s₁.heap H) callerA [] s₁ H := ⟨rfl, hM, fun b o e => of_hidT e, Nat.le_of_eq (hidT_size _ _), trivial, fun b hb => absurd (show b ∈ ([] : List Addr) from hb) (by simp), hok, .of_eq hg⟩
    refine codeAny_mono ((F _ hKb (nsK hns)).run callerA [] s₁ H ⟨[.ref a], []⟩ [.ref a] [.ref a] _ _ hr e0 (hbind s₁ (.ref a)) (.cons rfl .nil) (hsp H hO hS)) fun r s' h => ?_
    cases r with
    | error e => exact (hCX H e s' h).elim
    | ok fl =>
      cases fl with
      | next => exact False.elim h
      | brk => exact False.elim h
      | cont => exact False.elim h
      | ret u =>
        obtain ⟨v, H', os, bare, un, hok', r', q⟩ := h
        have q' : v = .bl true := q
        subst q'
        obtain rfl : u = Value.bool true := r'
        refine ⟨rfl, OldK.of_keep fun b o e => ?_, os, bare⟩
        cases q : H b with
        | none => exact un.keep b o e q (by intro z; exact absurd (show b ∈ ([] : List Addr) from z) (by simp)) (by simp)
        | some u =>
          rcases hO b with z | ⟨ob, xs, z⟩
          · rw [q] at z; cases z
          · have z2 := un.frzs b ob _ z
            obtain ⟨e1, _⟩ := hok b _ z
            obtain ⟨e2, _⟩ := hok' b _ z2
            rw [e] at e1; cases e1
            exact e2
  cases hk : K.lookup a with
  | some o =>
    -- the script is one of the module's own objects
    have e := KX a o hk
    rw [ha] at e
    cases e
    refine core (fun _ => none) (fun _ => .inl rfl) (.inr ⟨_, vs.toArray, _, hk, rfl, rfl, rfl, by rw [List.size_toArray, lenV]; exact hl, by simpa using rv⟩) (fun b u z => by have z' : (none : Option HO) = some u := z; cases z') (fun b z => absurd rfl z) fun z => absurd rfl z
  | none =>
    refine core (fun b => if b = a then some (.frz { cls := .type "list", data := .seq vs.toArray } (.lst (ns.map V.int))) else none) (fun b => ?_) (.inl (.inr ⟨{ cls := .type "list", data := .seq vs.toArray }, if_pos rfl⟩)) (fun b u z => ?_) (fun b z => ?_) fun _ => hk
    · by_cases hb : b = a
      · exact .inr ⟨_, _, if_pos hb⟩
      · exact .inl (if_neg hb)
    · by_cases hb : b = a
      · have z' := (if_pos hb).symm.trans z
        cases z'
        subst hb
        exact ⟨ha, by rw [List.length_map]; exact hl, vs, _, rv, ha⟩
      · have z' := (if_neg hb).symm.trans z
        cases z'
    · by_cases hb : b = a
      · exact hb
      · exact absurd (if_neg hb) z
end L2

namespace L2
open PySem PySem.Spec PyProof.Rows

abbrev KOf {K : PySem.W.Frag} {h : Heap} (_ : K.In h) : PySem.W.Frag := K

/-- the goal that k_head leaves (case hc), from the law's promise. F gives the function object fd (K's own) once, then the promise over every base -/
theorem walk_of {l : PySem.W.OpenLaw} {n k : Nat} {q : Program} {loose : List Str} {XP : (Str → Option Value) → Heap → Prop} {YP : World → Heap → Prop} {d : DefRec} {K : Params → PySem.W.Frag} {CX : World → CXT} {sp : World → Sp} {x : Str}
    (hn : l.most = some n) (hn2 : n ≤ sizeLine) (hdf : d.params.defaults = []) (hr : Room k callerA)
    (hY : ∀ (w : World) (h : Heap), YP w h → (K w.params).In h)
    (F : ∀ (w : World) (mg : Str → Option Value) (fa : Addr) (h : Heap), (K w.params).In h → h.Ns mainGlobals mg → mg d.name = some (.ref fa) →
      ∃ fd : FuncData, (∀ (s : Shared) (u : Value), BindsTo s fd ⟨[u], []⟩ [(x, u)]) ∧
        ∀ base : Heap, (K w.params).In base → base.Ns mainGlobals mg → FnOk l.prog w (K w.params) mg base (CX w) k fa fd [x] (sp w))
    (hsp : ∀ (w : World) (H : Hp) (a : Addr) (ns : List Int), ns.length ≤ n → Only H → SqL (K w.params) H a (ns.map V.int) → sp w [.ref a] H (fun v _ => v = .bl true) fun _ _ _ => False)
    (hCX : ∀ (w : World) (H : Hp) (s : Shared) (e : Value) (s' : Shared), CX w [] H s (fun _ _ _ => False) e s' → False) :
    PySem.W.WalkO q loose XP YP l.row.toRowW d [] (fun f vs => PySem.call f vs) := by
  refine Att.attach_call hn hdf fun w s₀ s₁ mg mb fa o pm cd doc a vs ns G Y ho hd hcd hmg hobj hints hlen hg => ?_
  have KX := hY w _ Y
  obtain ⟨fd, hb, hF⟩ := F w mg fa _ KX G.T.g hmg
  exact law_call KX G.T.g G.T.b G.T.builtins G.T.nolimit hg hobj hints (Nat.le_trans hlen hn2) hr hF hb (fun H hO hS => hsp w H a ns hlen hO hS) fun H e s' => hCX w H s₁ e s'
end L2

/- THE LAST THEOREM (shape; LID, My.* are yours):
   My.Adr: a structure of the addresses that your layer names (classes, functions); My.Txt K t: a structure (Prop) of the equations over K;
   My.txt_mk : {K} {implicit addresses ..} (e1 : nsIn K mainGlobals "law" = some (some (.ref f))) (e2 : K.lookup f = some ⟨oc, od, .func (fnOf "law" "law" params body scope dV kV doc pm an cdv ct), sl⟩) (e3 : codeIn K cdv "law" = true) .. : ∃ t, My.Txt K t

set_option maxRecDepth 100000 in
set_option maxHeartbeats 0 in
theorem PySem.Challenge.cw_LID_holds : PySem.Challenge.rw_LID.Holds := by
  w_on; o_law; k_head; (case hw => w_witness2)
  k_fill
  refine L2.walk_of (l := PySem.Challenge.rw_LID) (n := 63) (k := 40) (x := "script") (CX := fun w => ..) (sp := fun _ => My.sp_law) rfl (by decide) rfl ⟨rfl, by decide, by decide⟩ (fun w h Y => PySem.W.kIn_of Y) ?F ?S ?C
  case F =>
    intro w mg fa h KX G hmg
    have T : ∃ t, My.Txt (L2.KOf KX) t := by
      dsimp only [L2.KOf]                          -- K must stand as «<heap const> w.params» for k_is
      refine' My.txt_mk ?e1 ?e2 ?e3 ..
      (case e1 => PySem.W.k_is)                    -- in the order: a name -> its address -> its object -> its parts
      (case e2 => PySem.W.k_is)
      ..
    obtain ⟨t, T⟩ := T
    have e0 := hmg.symm.trans (PySem.W.mg_of KX G T.law)
    cases e0                                       -- fa is the law's own address
    exact ⟨_, fun s u => .of_eq rfl, fun base kb nb => My.law_fn T kb nb⟩     -- if «.of_eq rfl» comes too early: refine' ⟨_, ?b, fun base kb nb => My.law_fn T kb nb⟩; exact fun s u => .of_eq rfl
  case S => exact fun w H a ns hl hO hS => ..
  case C => exact ..
(the tactic k_is has no namespace: write k_is) -/

/-! SHORT WORDS over the layer: a def of the text, its body, what a loop and a test want. -/
namespace L2
open PySem PySem.Spec PyProof.Rows

/-! ### the text by places -/
/-- the j-th statement of a class's body -/
def inClass (s : Stmt) (j : Nat) : Stmt := match s with
  | .ClassDef _ _ _ body _ _ _ _ _ _ _ => body.getD j (.Pass ⟨0, 0, 0, 0⟩)
  | _ => .Pass ⟨0, 0, 0, 0⟩
def defArgs (s : Stmt) : Arguments := match s with
  | .FunctionDef _ a _ _ _ _ _ _ _ _ => a
  | _ => { posonlyargs := [], args := [], vararg := none, kwonlyargs := [], kw_defaults := [], kwarg := none, defaults := [] }
def defBody (s : Stmt) : List Stmt := match s with
  | .FunctionDef _ _ b _ _ _ _ _ _ _ => b
  | _ => []
def defScope (s : Stmt) : Scope := match s with
  | .FunctionDef _ _ _ _ _ _ sc _ _ _ => sc
  | _ => { kind := .function, names := [], isGenerator := false, isCoroutine := false }

/-! ### no exception leaves a def -/
abbrev CX0 : CXT := fun _ _ _ _ _ _ => False
abbrev E0 : XK := fun _ _ _ => False
theorem pass0 {X : Cx} : Passes CX0 X E0 := fun _ _ _ _ _ _ _ h => h.elim

/-! ### a def (or method) of the text as it stands behind the top -/
structure Fun (K : PySem.W.Frag) (x qual : Str) (st : Stmt) (f : Addr) (fd : FuncData) : Prop where
  ex : ∃ (oc : Value) (od : Option Addr) (kV doc pm : Value) (an : Option Addr) (cdv ct : Value) (osl : Array (Option Value)),
    fd = PySem.W.fnOf x qual (defArgs st) (defBody st) (defScope st) .none kV doc pm an cdv ct ∧ K.lookup f = some ⟨oc, od, .func fd, osl⟩ ∧ PySem.W.codeIn K cdv qual = true
  kp : PySem.W.keepIn K (.ref f) = true
section
variable {P : Program} {w : World} {K : PySem.W.Frag} {mg : Str → Option Value} {base : Heap}
/-- THE RULE for a def: its body as a term of rules, and the reading of that term -/
theorem Fun.ok {x qual : Str} {st : Stmt} {f : Addr} {fd : FuncData} {N ps : List Str} {k : Nat} {sp : Sp} (F : Fun K x qual st f fd) (S : FnScope N ps (defScope st)) (len : ∀ vs H Q E, sp vs H Q E → vs.length = ps.length)
    (hbody : ∀ (cdv : Value) (A : Around) (outer : List Env) (s : Shared) (H : Hp) (vs : List V) (Q : VK) (E : XK), Room k (A.deeper (envOfC qual (defScope st) s.heap.objs.size f cdv)) → sp vs H Q E →
      ∃ t, PSs (cxOf CX0 P w K mg base N qual (defScope st) f cdv A outer s H E).nox (defBody st) t ∧ t { nx := fun _ H' => Q .non H', rt := Q } (start N vs) H) : FnOk P w K mg base CX0 (k + 1) f fd ps sp := by
  obtain ⟨oc, od, kV, doc, pm, an, cdv, ct, osl, rfl, lk, hcd⟩ := F.ex
  refine fn_of lk hcd S len fun A outer s H vs Q E hr hsp => ?_
  obtain ⟨t, h, q⟩ := hbody cdv A outer s H vs Q E hr hsp
  exact ⟨t, h.nox, q⟩
/-- how its arguments bind (no defaults): h is «fun _ _ _ _ _ _ us hl => match us, hl with | [_, _], _ => rfl», one _ a parameter -/
theorem Fun.binds {x qual : Str} {st : Stmt} {f : Addr} {fd : FuncData} {ps : List Str} (F : Fun K x qual st f fd)
    (h : ∀ (kV doc pm : Value) (an : Option Addr) (cdv ct : Value) (us : List Value), us.length = ps.length → bindArgs (PySem.W.fnOf x qual (defArgs st) (defBody st) (defScope st) .none kV doc pm an cdv ct) ⟨us, []⟩ = pure (ps.zip us)) : Binds K fd ps [] := by
  obtain ⟨oc, od, kV, doc, pm, an, cdv, ct, osl, rfl, lk, hcd⟩ := F.ex
  exact .all (h kV doc pm an cdv ct)
theorem fun_mk {x qual : Str} {st : Stmt} {f : Addr} {oc : Value} {od an : Option Addr} {osl : Array (Option Value)} {kV doc pm cdv ct : Value} (l : K.lookup f = some ⟨oc, od, .func (PySem.W.fnOf x qual (defArgs st) (defBody st) (defScope st) .none kV doc pm an cdv ct), osl⟩)
    (c : PySem.W.codeIn K cdv qual = true) (k : PySem.W.keepIn K (.ref f) = true) : Fun K x qual st f (PySem.W.fnOf x qual (defArgs st) (defBody st) (defScope st) .none kV doc pm an cdv ct) := ⟨⟨oc, od, kV, doc, pm, an, cdv, ct, osl, rfl, l, c⟩, k⟩
end
/-! ### expressions in short: the name that stands in the i-th slot -/
section
variable {X : Cx}
theorem pv (i : Nat) {x : Str} {pos : Pos} (hN : X.N[i]? = some x := by rfl) (hv : Vis X.env.scope x := by first | exact Or.inl rfl | exact Or.inr (Or.inl rfl) | exact Or.inr (Or.inr rfl)) (hd : (x == ("__debug__" : Str)) = false := by decide)
    (hcd : (x == ("__classdict__" : Str)) = false := by decide) : PE X (.Name x pos) (tVar i) := pe_var hN hv hd hcd
end

/-! ### tests -/
theorem iteF {A B : Prop} (h : B) : if false = true then A else B := by
  rw [if_neg Bool.false_ne_true]
  exact h
theorem iteT {A B : Prop} (h : A) : if true = true then A else B := by
  rw [if_pos rfl]
  exact h
theorem ite2 {c A B : Prop} [Decidable c] (h1 : c → A) (h2 : ¬ c → B) : if c then A else B := by
  by_cases h : c
  · rw [if_pos h]
    exact h1 h
  · rw [if_neg h]
    exact h2 h
/-! ### heaps -/
/-- all that was tracked is as it was -/
def Same (H H' : Hp) : Prop := ∀ b o, H b = some o → H' b = some o
theorem Same.refl (H : Hp) : Same H H := fun _ _ h => h
theorem Same.trans {H H1 H2 : Hp} (a : Same H H1) (b : Same H1 H2) : Same H H2 := fun c o h => b c o (a c o h)
theorem Same.free {H H' : Hp} (e : Same H H') {l : Addr} (h : H' l = Option.none) : H l = Option.none := by
  cases q : H l with
  | none => rfl
  | some o =>
    rw [e l o q] at h
    cases h
theorem Same.seq {K : PySem.W.Frag} {H H' : Hp} {a : Addr} {xs : List V} (e : Same H H') (h : SqL K H a xs) : SqL K H' a xs := by
  rcases h with (h | ⟨o, h⟩) | h
  · exact .inl (.inl (e _ _ h))
  · exact .inl (.inr ⟨o, e _ _ h⟩)
  · exact .inr h

end L2

set_option maxHeartbeats 4000000
namespace L2
open PySem PySem.Spec PyProof.Rows

/-! ### a comprehension's block -/
def clOf (env : Env) : List (Str × NameKind) → List (Str × Addr) → List (Str × Addr)
  | [], acc => acc
  | (n, k) :: r, acc => clOf env r (if k == NameKind.free then (match env.cells.lookup n with | some c => (n, c) :: acc | none => acc) else acc)

theorem clo_fold {env : Env} {f : Str × NameKind → List (Str × Addr) → Sem (ForInStep (List (Str × Addr)))}
    (hf : ∀ n k acc, f (n, k) acc = if (k == NameKind.free) = true then (do let c ← cellOf env n; pure (ForInStep.yield ((n, c) :: acc))) else pure (ForInStep.yield acc)) :
    ∀ (l : List (Str × NameKind)) (acc : List (Str × Addr)), (∀ y ∈ l, y.2 = .free → ∃ c, env.cells.lookup y.1 = some c) → forIn l acc f = (pure (clOf env l acc) : Sem _)
  | [], acc, _ => rfl
  | (n, k) :: r, acc, h => by
    rw [List.forIn_cons, hf]
    have ih := clo_fold hf r
    by_cases hk : (k == NameKind.free) = true
    · have hk' : k = .free := by simpa using hk
      obtain ⟨c, hc⟩ := h (n, k) List.mem_cons_self hk'
      have e : cellOf env n = (pure c : Sem _) := by unfold cellOf; rw [hc]
      rw [if_pos hk, e, pure_bind, pure_bind]
      show forIn r ((n, c) :: acc) f = _
      rw [ih _ fun y hy => h y (List.mem_cons_of_mem _ hy)]
      unfold clOf
      rw [if_pos hk]
      have hc2 : List.lookup n env.cells = some c := hc
      simp only [hc2]
      cases r <;> rfl
    · rw [if_neg hk, pure_bind]
      show forIn r acc f = _
      rw [ih _ fun y hy => h y (List.mem_cons_of_mem _ hy)]
      conv => rhs; unfold clOf
      rw [if_neg hk]
theorem clo_eq {scope : Scope} {env : Env} (h : ∀ y ∈ scope.names, y.2 = .free → ∃ c, env.cells.lookup y.1 = some c) : closureFor scope env = (pure (clOf env scope.names []) : Sem _) := by
  have e : closureFor scope env = (forIn scope.names ([] : List (Str × Addr)) (fun x cs => match x with
      | (name, kind) => if (kind == NameKind.free) = true then (do let c ← cellOf env name; pure (ForInStep.yield ((name, c) :: cs))) else pure (ForInStep.yield cs)) >>= fun cs => pure cs) := rfl
  rw [e, clo_fold (env := env) (fun n k acc => rfl) scope.names [] h]
  rfl
theorem cl_sub {env : Env} : ∀ {l : List (Str × NameKind)} {acc : List (Str × Addr)}, (∀ x c, acc.lookup x = some c → env.cells.lookup x = some c) → ∀ x c, (clOf env l acc).lookup x = some c → env.cells.lookup x = some c
  | [], acc, h, x, c, e => h x c e
  | (n, k) :: r, acc, h, x, c, e => by
    unfold clOf at e
    refine cl_sub (l := r) (fun y d hd => ?_) x c e
    by_cases hk : (k == NameKind.free) = true
    · rw [if_pos hk] at hd
      cases hc : env.cells.lookup n with
      | none => rw [hc] at hd; exact h y d hd
      | some c' =>
        rw [hc] at hd
        simp only [List.lookup_cons] at hd
        by_cases hy : (y == n) = true
        · rw [hy] at hd
          have e1 : y = n := by simpa using hy
          cases hd
          rw [e1]; exact hc
        · have hy' : (y == n) = false := by simpa using hy
          rw [hy'] at hd
          exact h y d hd
    · rw [if_neg hk] at hd; exact h y d hd
theorem cl_mono {env : Env} : ∀ {l : List (Str × NameKind)} {acc : List (Str × Addr)} {x : Str}, (acc.lookup x).isSome = true → ((clOf env l acc).lookup x).isSome = true
  | [], acc, x, h => h
  | (n, k) :: r, acc, x, h => by
    unfold clOf
    refine cl_mono (l := r) ?_
    by_cases hk : (k == NameKind.free) = true
    · rw [if_pos hk]
      cases hc : env.cells.lookup n with
      | none => exact h
      | some c' =>
        simp only [List.lookup_cons]
        by_cases hy : (x == n) = true
        · rw [hy]; rfl
        · have hy' : (x == n) = false := by simpa using hy
          rw [hy']; exact h
    · rw [if_neg hk]; exact h
theorem cl_has {env : Env} : ∀ {l : List (Str × NameKind)} {acc : List (Str × Addr)} {x : Str} {c : Addr}, (x, NameKind.free) ∈ l → env.cells.lookup x = some c → ((clOf env l acc).lookup x).isSome = true
  | (n, k) :: r, acc, x, c, hm, hc => by
    unfold clOf
    rcases List.mem_cons.mp hm with e | hm
    · cases e
      rw [if_pos (by rfl)]
      rw [hc]
      refine cl_mono ?_
      simp
    · exact cl_has hm hc

/-- the names of a block as its scope has them behind the relabelling -/
theorem relabel_of {env : Env} : ∀ {names : List (Str × NameKind)} {x : Str} {k : NameKind}, (∀ y ∈ names, y.2 ≠ .cell) →
    (names.map fun (n, k) => if (k == NameKind.free && env.scope.kind == .function && env.kindOf n == some .cell) then (n, NameKind.cell) else (n, k)).lookup x = some k → (k = .cell ∨ k = .free) → (x, NameKind.free) ∈ names
  | [], _, _, _, h, _ => by simp at h
  | (n, j) :: r, x, k, hn, h, hk => by
    rw [List.map_cons] at h
    cases hx : x == n with
    | true =>
      have hxe : x = n := by simpa using hx
      subst hxe
      by_cases hc : (j == NameKind.free && env.scope.kind == .function && env.kindOf x == some .cell) = true
      · have hj : j = .free := by
          simp only [Bool.and_eq_true] at hc
          simpa using hc.1.1
        subst hj
        exact List.mem_cons_self
      · rw [show (match ((x, j) : Str × NameKind) with | (n, k) => if (k == NameKind.free && env.scope.kind == .function && env.kindOf n == some .cell) = true then (n, NameKind.cell) else (n, k)) = (x, j) from if_neg hc] at h
        simp only [List.lookup_cons, beq_self_eq_true] at h
        cases h
        rcases hk with e | e
        · exact absurd e (hn (x, j) List.mem_cons_self)
        · rw [e]; exact List.mem_cons_self
    | false =>
      refine List.mem_cons_of_mem _ (relabel_of (env := env) (fun y hy => hn y (List.mem_cons_of_mem _ hy)) ?_ hk)
      by_cases hc : (j == NameKind.free && env.scope.kind == .function && env.kindOf n == some .cell) = true
      · rw [show (match ((n, j) : Str × NameKind) with | (n, k) => if (k == NameKind.free && env.scope.kind == .function && env.kindOf n == some .cell) = true then (n, NameKind.cell) else (n, k)) = (n, NameKind.cell) from if_pos hc] at h
        simp only [List.lookup_cons, hx] at h
        exact h
      · rw [show (match ((n, j) : Str × NameKind) with | (n, k) => if (k == NameKind.free && env.scope.kind == .function && env.kindOf n == some .cell) = true then (n, NameKind.cell) else (n, k)) = (n, j) from if_neg hc] at h
        simp only [List.lookup_cons, hx] at h
        exact h

theorem relabel_free {env : Env} : ∀ {names : List (Str × NameKind)} {x : Str}, names.lookup x = some .free →
    (names.map fun (n, k) => if (k == NameKind.free && env.scope.kind == .function && env.kindOf n == some .cell) then (n, NameKind.cell) else (n, k)).lookup x = some .cell ∨
    (names.map fun (n, k) => if (k == NameKind.free && env.scope.kind == .function && env.kindOf n == some .cell) then (n, NameKind.cell) else (n, k)).lookup x = some .free
  | [], _, h => by simp at h
  | (n, j) :: r, x, h => by
    rw [List.map_cons]
    cases hx : x == n with
    | true =>
      simp only [List.lookup_cons, hx] at h
      cases h
      by_cases hc : (NameKind.free == NameKind.free && env.scope.kind == .function && env.kindOf n == some .cell) = true
      · refine .inl ?_
        rw [show (match ((n, NameKind.free) : Str × NameKind) with | (n, k) => if (k == NameKind.free && env.scope.kind == .function && env.kindOf n == some .cell) = true then (n, NameKind.cell) else (n, k)) = (n, NameKind.cell) from if_pos hc]
        simp only [List.lookup_cons, hx]
      · refine .inr ?_
        rw [show (match ((n, NameKind.free) : Str × NameKind) with | (n, k) => if (k == NameKind.free && env.scope.kind == .function && env.kindOf n == some .cell) = true then (n, NameKind.cell) else (n, k)) = (n, NameKind.free) from if_neg hc]
        simp only [List.lookup_cons, hx]
    | false =>
      simp only [List.lookup_cons, hx] at h
      have ih := relabel_free (env := env) h
      by_cases hc : (j == NameKind.free && env.scope.kind == .function && env.kindOf n == some .cell) = true
      · rw [show (match ((n, j) : Str × NameKind) with | (n, k) => if (k == NameKind.free && env.scope.kind == .function && env.kindOf n == some .cell) = true then (n, NameKind.cell) else (n, k)) = (n, NameKind.cell) from if_pos hc]
        simp only [List.lookup_cons, hx]
        exact ih
      · rw [show (match ((n, j) : Str × NameKind) with | (n, k) => if (k == NameKind.free && env.scope.kind == .function && env.kindOf n == some .cell) = true then (n, NameKind.cell) else (n, k)) = (n, j) from if_neg hc]
        simp only [List.lookup_cons, hx]
        exact ih
theorem lookup_mem {x : Str} {k : NameKind} : ∀ {l : List (Str × NameKind)}, l.lookup x = some k → (x, k) ∈ l
  | [], h => by simp at h
  | (n, j) :: r, h => by
    cases hx : x == n with
    | true =>
      simp only [List.lookup_cons, hx] at h
      cases h
      have e : x = n := by simpa using hx
      rw [e]; exact List.mem_cons_self
    | false =>
      simp only [List.lookup_cons, hx] at h
      exact List.mem_cons_of_mem _ (lookup_mem h)
/-- the block's context -/
def blk (X : Cx) (N : List Str) (scope : Scope) (C : Addr) (s₀ : Shared) (H₀ : Hp) (ex : List Addr) (xe : Value → Shared → Prop) : Cx :=
  { X with N := N, s₀ := s₀, H₀ := H₀, env := compEnvC scope (clOf X.env scope.names []) C X.env, outer := X.stack, stack := X.stack, ex := ex, fn := fun _ => false, pn := [], xe := xe }
/-- what of the text a block must have: N its names, those at caps.. taken from the outer names -/
structure Blk (X : Cx) (N : List Str) (caps : List (Option Nat)) (scope : Scope) : Prop where
  kind : scope.kind = .function
  nocell : ∀ y ∈ scope.names, y.2 ≠ .cell
  names : ∀ y ∈ scope.names, y.2 = .local → scope.names.lookup y.1 = some .local
  free : ∀ y ∈ scope.names, y.2 = .free → X.env.kindOf y.1 = some .cell ∨ X.env.kindOf y.1 = some .free
  len : caps.length = N.length
  cap : ∀ (i j : Nat) (x : Str), caps[i]? = some (some j) → N[i]? = some x → X.N[j]? = some x ∧ Vis X.env.scope x ∧ scope.names.lookup x = some .free
/-- the block's names' values at its start -/
def capSt (caps : List (Option Nat)) (σ : St) : St := caps.map fun c => match c with | some j => (σ[j]?).join | none => none

section
variable {X : Cx} {pins : List (Addr × Obj)} {σ : St} {H : Hp} {s : Shared}
theorem blk_ok {N : List Str} {caps : List (Option Nat)} {scope : Scope} {fp : List Addr} {xe : Value → Shared → Prop} (B : Blk X N caps scope) (I : Inv X pins σ H s) (hlt : ∀ b ∈ fp, b < s.heap.objs.size) (hf : ∀ b ∈ fp, FpOk X pins H b) :
    (blk X N scope s.heap.objs.size s H fp xe).Ok where
  mod := I.ok.mod
  kind := B.kind
  glob := I.ok.glob
  blt := I.ok.blt
  above := Nat.le_refl _
  inj := fun x y c hx hy => I.ok.inj x y c (cl_sub (fun _ _ e => by simp at e) x c hx) (cl_sub (fun _ _ e => by simp at e) y c hy)
  has := fun x hk => by
    have hm : (x, NameKind.free) ∈ scope.names := hk.elim (fun e => relabel_of B.nocell e (.inl rfl)) fun e => relabel_of B.nocell e (.inr rfl)
    obtain ⟨c, hc⟩ := I.ok.has x (B.free _ hm rfl)
    exact Option.isSome_iff_exists.mp (cl_has hm hc)
  cab := fun x c h _ => by cases h
  hd := I.ok.hd
  frames := I.ok.frames
  stk := .inl rfl
  exf := fun b hb => ⟨Nat.ne_of_lt (hlt b hb), fun x c hc => (hf b hb).2.2.2.2.1 x c (cl_sub (fun _ _ e => by simp at e) x c hc)⟩
  bs := I.bs
  bsz := Nat.le_trans I.ok.bsz I.sz
  noex := fun b o e hb => by
    rcases (hf b hb).2.2.2.1 with h | h
    · exact I.ok.noex b o e h
    · exact absurd (Heap.lt_size (I.ok.bs b o e).1) (Nat.not_lt.mpr h)
  exfs := fun b hb hs => by
    rcases List.mem_cons.mp (I.stkSub b hs) with e | e
    · exact (hf b hb).2.1 e
    · exact (hf b hb).2.2.1 e
  funs := I.stack
  frf := I.stkFree

theorem blk_inv {N : List Str} {caps : List (Option Nat)} {scope : Scope} {fp : List Addr} {xe : Value → Shared → Prop} {h₁ : Heap} {t' : Nat} (B : Blk X N caps scope) (I : Inv X pins σ H s) (hlt : ∀ b ∈ fp, b < s.heap.objs.size) (hf : ∀ b ∈ fp, FpOk X pins H b)
    {m : Str → Option Value} (hn : h₁.Ns s.heap.objs.size m) (hk : ∀ b o, s.heap.get? b = some o → h₁.get? b = some o) :
    Inv (blk X N scope s.heap.objs.size s H fp xe) [] (capSt caps σ) H { s with heap := h₁, toks := t' } where
  ok := blk_ok B I hlt hf
  os := rfl
  bare := I.bare
  base := Un.kept hk
  loc := by
    refine ⟨m, hn, fun i x v hN hσ hv => ?_⟩
    unfold capSt at hσ
    rw [List.getElem?_map] at hσ
    cases hc : caps[i]? with
    | none => rw [hc] at hσ; cases hσ
    | some oj =>
      rw [hc] at hσ
      cases oj with
      | none => cases hσ
      | some j =>
        have hσ' : (σ[j]?).join = some v := Option.some.inj hσ
        have hj : σ[j]? = some (some v) := by
          cases q : σ[j]? with
          | none => rw [q] at hσ'; cases hσ'
          | some o => rw [q] at hσ'; have : o = some v := hσ'; rw [this]
        obtain ⟨hNj, hVis, hfr⟩ := B.cap i j x hc hN
        obtain ⟨m', _, hl⟩ := I.loc
        obtain ⟨u, ru, lk⟩ := hl j x v hNj hj hVis
        have hm := lookup_mem hfr
        have hkX := B.free _ hm rfl
        refine ⟨u, ru, .inr ⟨relabel_free hfr, ?_⟩⟩
        rcases lk with ⟨e, _⟩ | ⟨_, c, hc1, hc2⟩
        · rcases hkX with e' | e'
          · rw [e] at e'; cases e'
          · rw [e] at e'; cases e'
        · obtain ⟨c', hc'⟩ := Option.isSome_iff_exists.mp (cl_has (env := X.env) (acc := []) hm hc1)
          have h2 := cl_sub (fun _ _ e => by simp at e) x c' hc'
          rw [hc1] at h2
          cases h2
          exact ⟨c, hc', hc2.keeps hk⟩
  cell := fun x c hc => by
    obtain ⟨v, hv⟩ := I.cell x c (cl_sub (fun _ _ e => by simp at e) x c hc)
    exact ⟨v, hv.keeps hk⟩
  free := I.hok.fresh (Nat.le_refl _)
  freeC := fun x c hc => I.freeC x c (cl_sub (fun _ _ e => by simp at e) x c hc)
  pin := fun p hp => by cases hp
  hok := I.hok.kept hk
  len := by unfold capSt; rw [List.length_map]; exact B.len
end
end L2

namespace L2
open PySem PySem.Spec PyProof.Rows
section
variable {prog : Program} {w : World} {A : Around} {R : Result → Shared → Prop} {s : Shared}
abbrev testsOf (ifs : List Expr) (env : Env) : Sem Bool := forIn ifs true fun c r => if r = true then do let ok ← isTrue c env (eval c env); pure (ForInStep.yield ok) else pure (ForInStep.yield r)
theorem comp_loop {elt target iter : Expr} {ifs : List Expr} {scope : Scope} {pos : Pos} {it acc : Value} {env : Env} (I : Nat → Shared → Prop)
    (turn : ∀ n s, I n s → wpAny (model prog w) A (pyNext it) (fun r s₁ => match r with
      | none => R (.ok .next) s₁
      | some v => wpAny (model prog w) A (letOwnedTupleGo target it v) (fun _ s₁' => wpAny (model prog w) A (assign target env v) (fun _ s₂ =>
          wpAny (model prog w) A (testsOf ifs env) (fun ok s₃ =>
            if ok = true then wpAny (model prog w) A (eval elt env) (fun x s₄ =>
              wpAny (model prog w) A (call (.builtin "list.append") [acc, x]) (fun _ s₅ => ∃ m, m < n ∧ I m s₅) (notedBy (model prog w) A env fun e s' => R (.error e) s') s₄) (notedBy (model prog w) A env fun e s' => R (.error e) s') s₃
            else ∃ m, m < n ∧ I m s₃) (notedBy (model prog w) A env fun e s' => R (.error e) s') s₂) (notedBy (model prog w) A env fun e s' => R (.error e) s') s₁') (notedBy (model prog w) A env fun e s' => R (.error e) s') s₁) (notedBy (model prog w) A env fun e s' => R (.error e) s') s)
    (n : Nat) (h : I n s) : codeAny (model prog w) A (.compLoop (.ListComp elt [⟨target, iter, ifs, 0⟩] scope pos) 0 it acc env) R s := by
  refine codeAny_loop rfl I (fun n s hI => ?_) n h
  show wpAny _ A ((compTurn (.ListComp elt [⟨target, iter, ifs, 0⟩] scope pos) 0 it acc env).onRaise (fun x => do noteFrame x env; theTreesLotGoes x)) _ _ s
  refine wpAny_noted ?_
  rw [compTurn_list]
  refine wpAny_bind (wpAny_standAt (wpAny_bind (wpAny_mono (turn n s hI) (fun r s₁ h₁ => ?_) fun _ _ h' => h')))
  cases r with
  | none => exact wpAny_pure h₁
  | some v =>
    refine wpAny_bind (wpAny_mono h₁ (fun _ s₁' h₁' => ?_) fun _ _ h' => h')
    refine wpAny_bind (wpAny_mono h₁' (fun _ s₂ h₂ => wpAny_bind (wpAny_mono h₂ (fun ok s₃ h₃ => ?_) fun _ _ h' => h')) fun _ _ h' => h')
    cases ok with
    | false => exact wpAny_pure ⟨rfl, h₃⟩
    | true =>
      exact wpAny_bind (wpAny_bind (wpAny_mono h₃ (fun x s₄ h₄ => wpAny_bind (wpAny_mono h₄ (fun _ s₅ h₅ => wpAny_pure (wpAny_pure ⟨rfl, h₅⟩)) fun _ _ h' => h')) fun _ _ h' => h'))
end

/-! ### the tests of a clause -/
def PF (X : Cx) (ifs : List Expr) (t : TT) : Prop :=
  ∀ (pins : List (Addr × Obj)) (s : Shared) (σ : St) (H : Hp) (Q : Bool → Hp → Prop), Inv X pins σ H s → t σ H Q → wpAny (model X.prog X.w) X.A (testsOf ifs X.env) (TP X pins σ Q) X.xe s
def tYes : TT := fun _ H Q => Q true H
theorem pf_nil {X : Cx} : PF X [] tYes := fun pins s σ H Q I h => wpAny_tests_nil ⟨H, I, h⟩
/-- what a comprehension reads as: l is the new list -/
def tCompR (g : TG) (tt : TT) (te : TE) (σ0 : St) (J : It) (H1 : Hp) (Q : V → Hp → Prop) : Prop :=
  ∀ l, H1 l = none → ∃ W : Nat → Nat → St → Hp → Prop, (∃ m, W 0 m σ0 (upd H1 l (.lst []))) ∧ ∀ i m σ H, W i m σ H →
    (J.stop i H ∧ Q (.ref l) H) ∨ (J.go i H ∧ ∀ x H', J.yld i H x H' → g x σ H' fun σ2 H2 => tt σ2 H2 fun c H3 =>
      if c = true then te σ2 H3 fun v H4 => ∃ xs, H4 l = some (.lst xs) ∧ xs.length < sizeLine ∧ ∃ m', m' < m ∧ W (i + 1) m' σ2 (upd H4 l (.lst (xs ++ [v])))
      else ∃ m', m' < m ∧ W (i + 1) m' σ2 H3)
def tComp (caps : List (Option Nat)) (wi : TI) (g : TG) (tt : TT) (te : TE) : TE := fun σ H Q => wi σ H fun J H1 => tCompR g tt te (capSt caps σ) J H1 Q

/-- the block's own frame, behind the block: nobody's -/
structure Loose (X : Cx) (pins : List (Addr × Obj)) (H : Hp) (C : Addr) : Prop where
  un : H C = none
  loc : C ≠ X.env.locals
  ab : X.s₀.heap.objs.size ≤ C
  cel : ∀ x c, X.env.cells.lookup x = some c → c ≠ C
  pin : ∀ p ∈ X.pn ++ pins, p.1 ≠ C
section
variable {X : Cx} {pins : List (Addr × Obj)} {σ : St} {H : Hp} {s : Shared}
/-- what the block's exceptions are to reach -/
def blkX (X : Cx) (N : List Str) (scope : Scope) (use : Option (Value → Sem Unit)) (Q : Value → Shared → Prop) (acc : Value) (C : Addr) : Value → Shared → Prop :=
  notedBy (model X.prog X.w) X.A (compEnvC scope (clOf X.env scope.names []) C X.env) fun e s' => compPost (model X.prog X.w) X.A X.xe use Q acc C (.error e) s'

theorem comp_core {tg elt iter : Expr} {ifs : List Expr} {scope : Scope} {pos pos' : Pos} {N : List Str} {caps : List (Option Nat)} {wi : TI} {g : TG} {tt : TT} {te : TE} {use : Option (Value → Sem Unit)} {Q : Value → Shared → Prop} {Qv : V → Hp → Prop}
    {xe : Value → Shared → Prop} (hc : X.calm = true) (B : Blk X N caps scope) (hi : PI X tg iter wi)
    (hg : ∀ C s₀ H₀ ex, PG (blk X N scope C s₀ H₀ ex xe) tg g) (ht : ∀ C s₀ H₀ ex, PF (blk X N scope C s₀ H₀ ex xe) ifs tt) (he : ∀ C s₀ H₀ ex, PE (blk X N scope C s₀ H₀ ex xe) elt te)
    (I : Inv X pins σ H s) (h : wi σ H fun J H1 => tCompR g tt te (capSt caps σ) J H1 Qv)
    (fin : ∀ l C H' s5, Inv X pins σ H' s5 → (∃ m, s5.heap.Ns C m) → Loose X pins H' C → Qv (.ref l) H' → compPost (model X.prog X.w) X.A X.xe use Q (.ref l) C (.ok .next) s5)
    (hx : ∀ acc C e s', xe e s' → blkX X N scope use Q acc C e s')
    (hs : ∀ x, foldedSetIterable iter X.env x = pure x := by intro _; rfl) :
    wpAny (model X.prog X.w) X.A (comprehension (.ListComp elt [⟨tg, iter, ifs, 0⟩] scope pos) scope X.env pos' (newList []) false (eval iter X.env) use) Q X.xe s := by
  have hclos : closureFor scope X.env = (pure (clOf X.env scope.names []) : Sem _) := clo_eq fun y hy hf => I.ok.has y.1 (B.free y hy hf)
  refine wpAny_comprehension_free rfl hs hclos B.kind B.names (thn (hi pins s σ H _ I h) fun v s1 h1 => thn h1 fun itv s2 h2 => ?_)
  obtain ⟨it, fp, tn, J, H2, e, I2, T, st2, f2, hJ⟩ := h2
  subst e
  -- the list
  have I3 : Inv X pins σ (upd H2 s2.heap.objs.size (.lst [])) { s2 with heap := s2.heap.push { cls := .type "list", data := .seq ([] : List Value).toArray }, toks := s2.toks } := I2.lnew (ys := []) (its := []) .nil (Nat.zero_le _)
  have hfr2 : H2 s2.heap.objs.size = none := I2.fresh
  obtain ⟨W, ⟨m0, w0⟩, turn⟩ := hJ s2.heap.objs.size hfr2
  refine wpAny_newList ?_
  generalize hs3 : ({ s2 with heap := s2.heap.push { cls := .type "list", data := .seq ([] : List Value).toArray } } : Shared) = s3
  have es3 : ({ s2 with heap := s2.heap.push { cls := .type "list", data := .seq ([] : List Value).toArray }, toks := s2.toks } : Shared) = s3 := hs3
  rw [es3] at I3
  have keep3 : ∀ b o, s2.heap.get? b = some o → s3.heap.get? b = some o := fun b o e => by rw [← hs3]; exact Heap.get?_push_of_some _ e
  have fpo : ∀ b ∈ fp, ∃ o, s2.heap.get? b = some o ∧ ∀ v, o.data ≠ .cell v := T.obj _ _ st2
  have hlt2 : ∀ b ∈ fp, b < s2.heap.objs.size := fun b hb => by obtain ⟨o, e, _⟩ := fpo b hb; exact Heap.lt_size e
  have hlt3 : ∀ b ∈ fp, b < s3.heap.objs.size := fun b hb => by obtain ⟨o, e, _⟩ := fpo b hb; exact Heap.lt_size (keep3 b o e)
  have hf3 : ∀ b ∈ fp, FpOk X pins (upd H2 s2.heap.objs.size (.lst [])) b := fun b hb => ⟨by rw [upd_ne (Nat.ne_of_lt (hlt2 b hb))]; exact (f2 b hb).1, (f2 b hb).2⟩
  refine wpAny_newFunctionEnv B.nocell (by intro y hy; simp at hy) (fun h₁ hns₁ hsb₁ => ?_) B.kind
  try dsimp only at hns₁ hsb₁ ⊢
  have keep4 : ∀ b o, s3.heap.get? b = some o → h₁.get? b = some o := fun b o e => hsb₁.extBut b o (Nat.ne_of_lt (Heap.lt_size e)) (Heap.get?_push_of_some _ e)
  have I4 : ∀ t', Inv (blk X N scope s3.heap.objs.size s3 (upd H2 s2.heap.objs.size (.lst [])) fp xe) [] (capSt caps σ) (upd H2 s2.heap.objs.size (.lst [])) { s3 with heap := h₁, toks := t' } := fun t' => blk_inv B I3 hlt3 hf3 hns₁ keep4
  generalize hY : blk X N scope s3.heap.objs.size s3 (upd H2 s2.heap.objs.size (.lst [])) fp xe = Y at I4
  have Yp : Y.prog = X.prog := by rw [← hY]; rfl
  have Yw : Y.w = X.w := by rw [← hY]; rfl
  have YK : Y.K = X.K := by rw [← hY]; rfl
  have Yc : Y.calm = true := by rw [← hY]; exact hc
  have YA : Y.A = X.A := by rw [← hY]; rfl
  have Yx : Y.xe = xe := by rw [← hY]; rfl
  have Ye : Y.env = compEnvC scope (clOf X.env scope.names []) s3.heap.objs.size X.env := by rw [← hY]; rfl
  have hgY : PG Y tg g := by rw [← hY]; exact hg _ _ _ _
  have htY : PF Y ifs tt := by rw [← hY]; exact ht _ _ _ _
  have heY : PE Y elt te := by rw [← hY]; exact he _ _ _ _
  have stat : ∀ {H' : Hp}, (∀ b ∈ fp, H' b = none) → ∀ b ∈ fp, FpOk Y [] H' b := fun {H'} hn b hb => by
    refine ⟨hn b hb, ?_, ?_, .inl (by rw [← hY]; exact hb), ?_, ?_⟩
    · rw [Ye]; exact Nat.ne_of_lt (hlt3 b hb)
    · intro hm
      rw [← hY] at hm
      rcases List.mem_cons.mp (I3.stkSub b hm) with e | e
      · exact (f2 b hb).2.1 e
      · exact (f2 b hb).2.2.1 e
    · intro x c hcl
      rw [Ye] at hcl
      exact (f2 b hb).2.2.2.2.1 x c (cl_sub (fun _ _ e => by simp at e) x c hcl)
    · intro p hp
      rw [← hY] at hp
      cases hp
  have st4 : tn 0 h₁ := T.keep _ _ _ st2 fun b hb o e => keep4 b o (keep3 b o e)
  have toX : ∀ e s', xe e s' → notedBy (model X.prog X.w) X.A (compEnvC scope (clOf X.env scope.names []) s3.heap.objs.size X.env) (fun e s' => compPost (model X.prog X.w) X.A X.xe use Q (.ref s2.heap.objs.size) s3.heap.objs.size (.error e) s') e s' := fun e s' hxe => hx _ _ e s' hxe
  have loop : ∀ tk, codeAny (model X.prog X.w) X.A (.compLoop (.ListComp elt [⟨tg, iter, ifs, 0⟩] scope pos) 0 (.ref it) (.ref s2.heap.objs.size) (compEnvC scope (clOf X.env scope.names []) s3.heap.objs.size X.env))
      (compPost (model X.prog X.w) X.A X.xe use Q (.ref s2.heap.objs.size) s3.heap.objs.size) { s3 with heap := h₁, toks := tk } := by
    intro tk
    refine comp_loop (fun n s' => ∃ i σ' H', Inv Y [] σ' H' s' ∧ tn i s'.heap ∧ (∀ b ∈ fp, H' b = none) ∧ W i n σ' H') ?_ m0 ⟨0, _, _, I4 tk, st4, fun b hb => (hf3 b hb).1, w0⟩
    rintro n s5 ⟨i, σ5, H5, I5, st5, fr5, w5⟩
    have moX : ∀ {α : Type} {t : Sem α} {Q1 : α → Shared → Prop} {s : Shared}, wpAny (model X.prog X.w) X.A t Q1 xe s → wpAny (model X.prog X.w) X.A t Q1
        (notedBy (model X.prog X.w) X.A (compEnvC scope (clOf X.env scope.names []) s3.heap.objs.size X.env) (fun e s' => compPost (model X.prog X.w) X.A X.xe use Q (.ref s2.heap.objs.size) s3.heap.objs.size (.error e) s')) s :=
      fun h => wpAny_mono h (fun _ _ q => q) toX
    rcases turn i n σ5 H5 w5 with ⟨stop, q⟩ | ⟨go, step⟩
    · have z := T.done Y Yp Yw YK Yc i [] s5 σ5 H5 xe I5 (stat fr5) st5 stop
      rw [YA] at z
      refine moX (thn z fun r s6 ⟨hr, I6⟩ => ?_)
      subst hr
      -- behind the block
      obtain ⟨m, hm, _⟩ := I6.loc
      have hCn : H5 s3.heap.objs.size = none := by have z := I6.free; rw [Ye] at z; exact z
      have un : Un (frs X.stack) fp (upd H2 s2.heap.objs.size (.lst [])) H5 s3.heap s6.heap := by have z := I6.base; rw [← hY] at z; exact z
      have hos : s6.os = s3.os := by have z := I6.os; rw [← hY] at z; exact z
      have hok : HOk X.prog X.w H5 s6.heap := by have z := I6.hok; rw [Yp, Yw] at z; exact z
      have IX : Inv X pins σ H5 s6 := I3.call' (ch := fp) hos un hok I6.bare fun b hb => ⟨(f2 b hb).2.2.2.1, (f2 b hb).2.1, (f2 b hb).2.2.2.2.1, (f2 b hb).2.2.2.2.2⟩
      refine fin _ _ H5 s6 IX ⟨m, by rw [Ye] at hm; exact hm⟩ ⟨hCn, ?_, I3.sz, ?_, ?_⟩ q
      · exact Nat.ne_of_gt I3.lt
      · intro x c hcl
        obtain ⟨v, hv⟩ := I3.cell x c hcl
        exact Nat.ne_of_lt hv.lt
      · intro p hp
        exact Nat.ne_of_lt (Heap.lt_size (I3.pin p hp).1)
    · have z := T.item Y Yp Yw YK Yc i [] s5 σ5 H5 xe I5 (stat fr5) st5 go
      rw [YA] at z
      refine moX (thn z fun r s6 ⟨u, hr, h6⟩ => ?_)
      subst hr
      refine moX (thn h6 fun _ s7 ⟨x, H7, I7, r7, y7, st7, fr7⟩ => ?_)
      have I7' := I7.pinned (stat fr7) (T.obj _ _ st7)
      have hN := step x H7 y7
      have again : ∀ {σ' : St} {H' : Hp} {s' : Shared} {m' : Nat}, m' < n → Inv Y ([] ++ pinsAt fp s7.heap) σ' H' s' → W (i + 1) m' σ' H' → ∃ m, m < n ∧ ∃ i σ'' H'', Inv Y [] σ'' H'' s' ∧ tn i s'.heap ∧ (∀ b ∈ fp, H'' b = none) ∧ W i m σ'' H'' := fun {σ' H' s' m'} hm I' w' => by
        refine ⟨m', hm, i + 1, σ', H', I'.unpinned, T.keep _ _ _ st7 fun b hb o e => (I'.pin (b, o) (List.mem_append_right _ (List.mem_append_right _ (mem_pinsAt hb e)))).1, fun b hb => ?_, w'⟩
        obtain ⟨o, e, d⟩ := T.obj _ _ st7 b hb
        exact (I'.pin (b, o) (List.mem_append_right _ (List.mem_append_right _ (mem_pinsAt hb e)))).2.1
      have z := hgY _ s7 σ5 H7 x u _ I7' r7 hN
      rw [Yp, Yw, YA, Ye, Yx] at z
      refine moX (thn z fun _ s8 ⟨σ8, H8, I8, q8⟩ => ?_)
      have z := htY _ s8 σ8 H8 _ I8 q8
      rw [Yp, Yw, YA, Ye, Yx] at z
      refine moX (thn z fun ok s9 ⟨H9, I9, q9⟩ => ?_)
      cases ok with
      | false =>
        obtain ⟨m', hm, w'⟩ := q9
        exact again hm I9 w'
      | true =>
        have q9' : te σ8 H9 fun v H4 => ∃ xs, H4 s2.heap.objs.size = some (.lst xs) ∧ xs.length < sizeLine ∧ ∃ m', m' < n ∧ W (i + 1) m' σ8 (upd H4 s2.heap.objs.size (.lst (xs ++ [v]))) := q9
        have z := heY _ s9 σ8 H9 _ I9 q9'
        rw [Yp, Yw, YA, Ye, Yx] at z
        refine moX (thn z fun u10 s10 ⟨v10, H10, I10, r10, q10⟩ => ?_)
        obtain ⟨xs, hl, hz, m', hm, w'⟩ := q10
        have ap := mt_append (X := Y) _ s10 σ8 H10 (.ref s2.heap.objs.size) [v10] (.ref s2.heap.objs.size) [u10] (fun _ H' => W (i + 1) m' σ8 H') I10 rfl (.cons r10 .nil) ⟨_, xs, v10, rfl, rfl, hl, hz, w'⟩
        rw [Yp, Yw, YA, Yx] at ap
        refine moX (thn ap fun _ s11 ⟨_, H11, I11, _, w11⟩ => again hm I11 w11)
  exact codeAny_compStart_list (loop _) (T.self _ 0 _ _ _ st4 (loop _))

/-- [elt for tg in iter if ..] as a value; nothing is raised within -/
theorem pe_comp {tg elt iter : Expr} {ifs : List Expr} {scope : Scope} {pos : Pos} (N : List Str) (caps : List (Option Nat)) {wi : TI} {g : TG} {tt : TT} {te : TE} (hc : X.calm = true) (B : Blk X N caps scope) (hi : PI X tg iter wi)
    (hg : ∀ C s₀ H₀ ex, PG (blk X N scope C s₀ H₀ ex fun _ _ => False) tg g) (ht : ∀ C s₀ H₀ ex, PF (blk X N scope C s₀ H₀ ex fun _ _ => False) ifs tt) (he : ∀ C s₀ H₀ ex, PE (blk X N scope C s₀ H₀ ex fun _ _ => False) elt te)
    (hs : ∀ x, foldedSetIterable iter X.env x = pure x := by intro _; rfl) : PE X (.ListComp elt [⟨tg, iter, ifs, 0⟩] scope pos) (tComp caps wi g tt te) := by
  intro pins s σ H Q I h
  rw [eval_ListComp]
  refine comp_core (use := none) (Qv := Q) hc B hi hg ht he I h (fun l C H' s5 I5 ⟨m, hm⟩ lo q => ?_) (fun _ _ _ _ f => f.elim) hs
  refine ⟨m, hm, fun h' hs' => ⟨.ref l, H', ?_, rfl, q⟩⟩
  exact I5.turned (it := C) (t' := s5.toks) (fun b o hb e => hs'.extBut b o hb e) lo.un lo.loc (.inr lo.ab) lo.cel lo.pin
/-- name = [elt for tg in iter if ..] -/
theorem ps_setcomp {i : Nat} {x : Str} {pos' : Pos} {tg elt iter : Expr} {ifs : List Expr} {scope : Scope} {pos spos : Pos} (N : List Str) (caps : List (Option Nat)) {wi : TI} {g : TG} {tt : TT} {te : TE} (hc : X.calm = true)
    (hN : X.N.Nodup) (hi' : X.N[i]? = some x) (hx : Loc X.env.scope x) (B : Blk X N caps scope) (hi : PI X tg iter wi)
    (hg : ∀ C s₀ H₀ ex, PG (blk X N scope C s₀ H₀ ex fun _ _ => False) tg g) (ht : ∀ C s₀ H₀ ex, PF (blk X N scope C s₀ H₀ ex fun _ _ => False) ifs tt) (he : ∀ C s₀ H₀ ex, PE (blk X N scope C s₀ H₀ ex fun _ _ => False) elt te)
    (hsw : swapsWith (.ListComp elt [⟨tg, iter, ifs, 0⟩] scope pos) (some (.Name x pos')) spos.line X.env = pure true := by rfl)
    (hs : ∀ x, foldedSetIterable iter X.env x = pure x := by intro _; rfl) (hf : X.fn x = true ∨ X.env.scope.names.lookup x = some .local := by first | exact .inl rfl | exact .inr rfl | assumption) :
    PS X (.Assign [.Name x pos'] (.ListComp elt [⟨tg, iter, ifs, 0⟩] scope pos) spos) (tAsg (tComp caps wi g tt te) (gName i)) := by
  intro pins s σ H D I h
  rw [exec_Assign_Name_used _ _ _ _ hsw]
  refine wpAny_bind (wpAny_standAt (wpAny_bind ?_))
  show wpAny _ X.A (do let _ ← comprehension (.ListComp elt [⟨tg, iter, ifs, 0⟩] scope pos) scope X.env _ (newList []) false (eval iter X.env) (some (assign (.Name x pos') X.env))) _ _ s
  refine wpAny_bind (wpAny_mono (comp_core (use := some (assign (.Name x pos') X.env)) (Q := fun _ s' => SP X pins D .next s') (Qv := fun v H1 => gName i v σ H1 D.nx) hc B hi hg ht he I h (fun l C H' s5 I5 ⟨m, hm⟩ lo q => ?_) (fun _ _ _ _ f => f.elim) hs)
    (fun _ s' hq => wpAny_pure (wpAny_pure hq)) fun _ _ e => e)
  show wpAny _ X.A (assign (.Name x pos') X.env (.ref l)) _ _ _
  refine wpAny_assign_Name (store_ok2 I5 hN hi' hx (v := .ref l) rfl (fun s6 I6 ⟨a, sb, ha⟩ => ?_) hf)
  have hCa : C ≠ a := by
    rcases ha with e | e
    · rw [e]; exact lo.loc
    · exact Ne.symm (lo.cel x a e)
  refine ⟨m, hm.sameBut sb hCa, fun h' hs' => ⟨_, H', ?_, q⟩⟩
  exact I6.turned (it := C) (t' := s6.toks) (fun b o hb e => hs'.extBut b o hb e) lo.un lo.loc (.inr lo.ab) lo.cel lo.pin
end
end L2

namespace L2
open PySem PySem.Spec PyProof.Rows
section
variable {X : Cx}
/-! ### wider numbers -/
/-- below 2 ^ 4000 either way -/
def Wide (i : Int) : Prop := i.natAbs < 2 ^ 4000
def CMulW (i j : Int) : Prop := Wide i ∧ Wide j
def CDivW (i j : Int) : Prop := 0 < j ∧ Wide j
/-! ### == and != of lists of ints -/
def rEqL (K : PySem.W.Frag) (neg : Bool) : R2 := fun x y H Q => ∃ (a b : Addr) (ns ms : List Int), x = .ref a ∧ y = .ref b ∧ SqL K H a (ns.map V.int) ∧ SqL K H b (ms.map V.int) ∧ Q (.bl (if neg then !decide (ns = ms) else decide (ns = ms))) H
/-! ### isinstance(x, T), T a built-in type or an own class -/
def rIsT (K : PySem.W.Frag) : List V → Hp → VK → Prop := fun xs H Q => ∃ x n t b, xs = [x, .ty n] ∧ TyOf K H x t ∧ PySem.W.kitOne K t (.type n) = some b ∧ Q (.bl b) H
theorem call_isT : CallR X (.builtin "isinstance") (rIsT X.K) := by
  intro pins s σ H xs us Q I r h
  obtain ⟨x, n, t, b, rfl, ty, e, q⟩ := h
  obtain ⟨u, w', rfl, r1, r2⟩ := vals2 r
  cases r2
  exact isinst_ok I r1 ty e fun tk => ⟨.bl b, H, I.tok tk, rfl, q⟩
end

/-! ### a block's facts by computing -/
def blkOk (sc : Scope) (N0 N : List Str) (caps : List (Option Nat)) (scope : Scope) : Bool :=
  decide (scope.kind = .function) && scope.names.all (fun y => decide (y.2 ≠ .cell)) && scope.names.all (fun y => decide (y.2 ≠ .local) || decide (scope.names.lookup y.1 = some .local)) &&
  scope.names.all (fun y => decide (y.2 ≠ .free) || (decide (sc.names.lookup y.1 = some .cell) || decide (sc.names.lookup y.1 = some .free))) && decide (caps.length = N.length) &&
  (List.range caps.length).all fun i => match caps[i]?, N[i]? with
    | some (some j), some x => decide (N0[j]? = some x) && (decide (sc.names.lookup x = some .cell) || decide (sc.names.lookup x = some .free)) && decide (scope.names.lookup x = some .free)
    | _, _ => true
theorem Blk.by {X : Cx} {N : List Str} {caps : List (Option Nat)} {scope : Scope} {sc : Scope} {N0 : List Str} (hsc : X.env.scope = sc) (hN : X.N = N0) (h : blkOk sc N0 N caps scope = true) : Blk X N caps scope := by
  unfold blkOk at h
  simp only [Bool.and_eq_true, decide_eq_true_eq, List.all_eq_true, Bool.or_eq_true] at h
  obtain ⟨⟨⟨⟨⟨h1, h2⟩, h3⟩, h4⟩, h5⟩, h6⟩ := h
  subst hsc
  subst hN
  refine ⟨h1, h2, fun y hy e => (h3 y hy).elim (fun z => absurd e z) id, fun y hy e => (h4 y hy).elim (fun z => absurd e z) id, h5, fun i j x e1 e2 => ?_⟩
  have hi : i < caps.length := (List.getElem?_eq_some_iff.mp e1).1
  have z := h6 i (List.mem_range.mpr hi)
  rw [e1, e2] at z
  simp only [Bool.and_eq_true, decide_eq_true_eq, Bool.or_eq_true] at z
  exact ⟨z.1.1, .inr z.1.2, z.2⟩
/-! ### comprehensions, the forms one uses -/
theorem same_upd {H : Hp} {p : Addr} (h : H p = none) (o : HO) : Same H (upd H p o) := fun b u q => by rw [upd_ne (ne_of_none q h)]; exact q
theorem same_upd2 {H0 H : Hp} {p : Addr} (h : H0 p = none) (s : Same H0 H) (o : HO) : Same H0 (upd H p o) := fun b u q => by rw [upd_ne (ne_of_none q h)]; exact s b u q
end L2

namespace L2
open PySem PySem.Spec PyProof.Rows
section
variable {X : Cx} {e st : Expr} {te : TE} {ts : TO} {pos p2 : Pos}
/-! ### xs[::-1] -/
def tRev (K : PySem.W.Frag) (te : TE) (ts : TO) : TE := fun σ H Q => te σ H fun x H1 => ts σ H1 fun o H2 => o = some (-1) ∧ ∃ a xs, x = .ref a ∧ SqL K H2 a xs ∧ ∀ p, H2 p = none → Q (.ref p) (upd H2 p (.lst xs.reverse))
/-! ### all(xs) of bools -/
end
end L2

namespace L2
open PySem PySem.Spec PyProof.Rows
/-! ### an exception's record with its context: what the frames' notes leave of it -/
/-- the record at e: its class, its context ctx, a traceback's entry at T whose flight is fl -/
def RecAt (base : Heap) (e : Addr) (cls : Value) (od : Option Addr) (ctx fl : Value) (h : Heap) : Prop :=
  ∃ oe vs T oT ts, (h.get? e = some oe ∧ (oe.cls = cls ∧ oe.dict = od) ∧ oe.data = .fields vs ∧ vs[1]? = some (.ref T) ∧ vs[2]? = some ctx) ∧ base.get? T = none ∧ T ≠ e ∧ h.get? T = some oT ∧ oT.data = .fields ts ∧ ts[3]? = some fl
structure FlyC (base : Heap) (l : List Env) (e : Addr) (cls : Value) (od : Option Addr) (ctx fl : Value) (h : Heap) : Prop where
  stays : base.StaysIn h
  new : base.get? e = none
  frames : h.FunFrames base l
  rcd : RecAt base e cls od ctx fl h
section
variable {M : Model} {A : Around} {E : Value → Shared → Prop} {s : Shared} {base : Heap} {env : Env} {outer : List Env} {L e : Addr} {cls ctx : Value} {od : Option Addr} {Q : Unit → Shared → Prop}
theorem dict_mapFields (o : Obj) (f : Array Value → Array Value) : (o.mapFields f).dict = o.dict := by
  unfold Obj.mapFields
  split <;> rfl
theorem noFields {h : Heap} {a : Addr} {o : Obj} {vs : Array Value} (ho : h.get? a = some o) (hd : o.data = .fields vs) {b : Addr} {u : Obj} (hb : h.get? b = some u) (hn : ∀ ws, u.data ≠ .fields ws) : b ≠ a := by
  rintro rfl
  have z := hb.symm.trans ho
  cases z
  exact hn vs hd
/-- a field of a record that is not of the base is set: what stays -/
theorem setRec {h : Heap} {a : Addr} {i : Nat} {v : Value} (hk : base.StaysIn h) (ha : base.get? a = none) {l : List Env} (hl : h.FunFrames base l) {o : Obj} {vs : Array Value} (ho : h.get? a = some o) (hd : o.data = .fields vs) :
    let h' := h.update a (Obj.mapFields (·.setIfInBounds i v))
    base.StaysIn h' ∧ h'.FunFrames base l ∧ h.UpToSlots h' ∧ (∀ b, b ≠ a → h'.get? b = h.get? b) ∧ ∃ o', h'.get? a = some o' ∧ (o'.cls = o.cls ∧ o'.dict = o.dict) ∧ o'.data = .fields (vs.setIfInBounds i v) := by
  intro h'
  have oth : ∀ b, b ≠ a → h'.get? b = h.get? b := fun b hb => Heap.get?_update_other _ _ (Ne.symm hb)
  have hd' := Obj.data_mapFields hd (·.setIfInBounds i v)
  refine ⟨fun b u hb => ?_, hl.of_keeps fun b u hb hn => ?_, fun b u hb hn => ?_, oth, _, Heap.get?_update_self _ ho (Obj.isFreed_of_fields hd'), ⟨Obj.cls_mapFields _ _, dict_mapFields _ _⟩, hd'⟩
  · rw [oth b (fun z => by rw [z, ha] at hb; cases hb)]
    exact hk b u hb
  · exact ⟨u, (oth b (noFields ho hd hb hn)).trans hb, rfl⟩
  · exact ⟨u.slots, (oth b (noFields ho hd hb hn)).trans hb⟩
/-- a new entry of the traceback -/
theorem entryC {head : Value} {hadNext : Bool} {oe : Obj} {vs : Array Value} (hfr : A.frames = some (env :: outer)) (hl : s.heap.FunFrames base (env :: outer)) (hf : env.frame = some L) (hk : base.StaysIn s.heap) (hn : base.get? e = none)
    (he : s.heap.get? e = some oe) (hc : oe.cls = cls ∧ oe.dict = od) (hd : oe.data = .fields vs) (h2 : vs[2]? = some ctx)
    (h : ∀ h', FlyC base (env :: outer) e cls od ctx (rawInt L) h' → s.heap.UpToSlots h' → Q () { s with heap := h' }) :
    wpAny M A (do let a ← frameOf env; let pl ← entryPlaceOf L hadNext; let b ← EntryCells.newEntry head a .none (rawInt L) .none pl; setField (.ref e) 1 b) Q E s := by
  have hef : e ∉ (env :: outer).filterMap (·.frame) := fun hm => by
    obtain ⟨_, o, ho, hnf⟩ := hl.mem hm
    exact noFields he hd ho hnf rfl
  refine wpAny_bind (wpAny_frameOf_fun hfr hl hf fun g1 so => wpAny_bind (wpAny_entryPlaceOf fun pl hpl => ?_))
  unfold EntryCells.newEntry
  unfold newFields
  refine wpAny_bind (wpAny_newObj_type ?_ (hpl.sizeOk5 _ _ _ _ _))
  generalize hob : ({ cls := .type "traceback", dict := none, data := .fields ([head, Value.ref L, .none, rawInt L, .none] ++ (if pl.isEmpty then List.replicate 6 Value.none else pl)).toArray } : Obj) = ob
  have obd : ∃ ts : Array Value, ob.data = .fields ts ∧ ts[3]? = some (rawInt L) := by
    rw [← hob]
    refine ⟨_, rfl, ?_⟩
    simp
  have e1 : g1.get? e = some oe := (so.2.1 e hef).trans he
  have k1 : base.StaysIn g1 := fun b o hb => (so.2.1 b fun hm => by rw [(hl.mem hm).1] at hb; cases hb).trans (hk b o hb)
  have l1 : g1.FunFrames base (env :: outer) := hl.of_keeps fun b o hb _ => by
    obtain ⟨sl, q⟩ := so.2.2 b o hb
    exact ⟨_, q, rfl⟩
  have up1 : s.heap.UpToSlots g1 := fun b o hb _ => so.2.2 b o hb
  have e2 : (g1.push ob).get? e = some oe := Heap.get?_push_of_some _ e1
  have k2 : base.StaysIn (g1.push ob) := fun b o hb => Heap.get?_push_of_some _ (k1 b o hb)
  have l2 : (g1.push ob).FunFrames base (env :: outer) := l1.of_keeps fun b o hb _ => ⟨o, Heap.get?_push_of_some _ hb, rfl⟩
  have up2 : g1.UpToSlots (g1.push ob) := Heap.UpToSlots.of_keeps fun b o hb => Heap.get?_push_of_some _ hb
  have hT : (g1.push ob).get? g1.objs.size = some ob := Heap.get?_push_size _ (by obtain ⟨ts, z, _⟩ := obd; exact Obj.isFreed_of_fields z)
  have hsz : 1 < vs.size := Nat.lt_trans (by decide) (Array.getElem?_eq_some_iff.mp h2).1
  obtain ⟨k3, l3, up3, oth, oe3, e3, c3, d3⟩ := setRec (i := 1) (v := .ref g1.objs.size) k2 hn l2 e2 hd
  refine wpAny_setField e2 hd hsz (h _ ⟨k3, hn, l3, oe3, vs.setIfInBounds 1 (.ref g1.objs.size), g1.objs.size, ob, ?_⟩ ((up1.trans up2).trans up3))
  obtain ⟨ts, z1, z2⟩ := obd
  have hTe : g1.objs.size ≠ e := Nat.ne_of_gt (Heap.lt_size e1)
  refine ⟨ts, ⟨e3, ⟨c3.1.trans hc.1, c3.2.trans hc.2⟩, d3, by simp [hsz], ?_⟩, k1.fresh, hTe, (oth _ hTe).trans hT, z1, z2⟩
  rw [Array.getElem?_setIfInBounds_ne (by decide)]
  exact h2
/-- the frame is noted at an exception that has no entry yet -/
theorem noteC0 {oe : Obj} {vs : Array Value} (hfr : A.frames = some (env :: outer)) (hl : s.heap.FunFrames base (env :: outer)) (hf : env.frame = some L) (hk : base.StaysIn s.heap) (hn : base.get? e = none)
    (he : s.heap.get? e = some oe) (hc : oe.cls = cls ∧ oe.dict = od) (hd : oe.data = .fields vs) (h1 : vs[1]? = some .none) (h2 : vs[2]? = some ctx)
    (h : ∀ h', FlyC base (env :: outer) e cls od ctx (rawInt L) h' → s.heap.UpToSlots h' → Q () { s with heap := h' }) : wpAny M A (noteFrame (.ref e) env) Q E s := by
  unfold noteFrame
  simp only [hf]
  refine wpAny_bind (wpAny_field he hd h1 ?_)
  rw [if_neg (by decide)]
  exact entryC hfr hl hf hk hn he hc hd h2 h
/-- .. at one that flies -/
theorem noteC (hfr : A.frames = some (env :: outer)) (hf : env.frame = some L) (x : FlyC base (env :: outer) e cls od ctx .none s.heap)
    (h : ∀ h', FlyC base (env :: outer) e cls od ctx (rawInt L) h' → s.heap.UpToSlots h' → Q () { s with heap := h' }) : wpAny M A (noteFrame (.ref e) env) Q E s := by
  obtain ⟨oe, vs, T, oT, ts, ⟨he, hc, hd, h1, h2⟩, hT0, hTe, hT, hdT, h3⟩ := x.rcd
  unfold noteFrame
  simp only [hf]
  refine wpAny_bind (wpAny_field he hd h1 ?_)
  rw [if_pos (by simp : (Value.ref T != Value.none) = true)]
  refine wpAny_bind (wpAny_field hT hdT h3 ?_)
  rw [if_neg (by simp [rawInt] : ¬ ((Value.none == rawInt L) = true))]
  obtain ⟨k3, l3, up3, oth, _⟩ := setRec (i := 3) (v := .none) x.stays hT0 x.frames hT hdT
  refine wpAny_bind (wpAny_setField hT hdT (Array.getElem?_eq_some_iff.mp h3).1 ?_)
  exact entryC hfr l3 hf k3 x.new ((oth e (Ne.symm hTe)).trans he) hc hd h2 fun h' y up => h h' y (up3.trans up)
/-- it lands -/
theorem landC {fl : Value} {l : List Env} (x : FlyC base l e cls od ctx fl s.heap) (h : ∀ h', FlyC base l e cls od ctx .none h' → s.heap.UpToSlots h' → Q () { s with heap := h' }) : wpAny M A (setFlight (.ref e) none) Q E s := by
  obtain ⟨oe, vs, T, oT, ts, ⟨he, hc, hd, h1, h2⟩, hT0, hTe, hT, hdT, h3⟩ := x.rcd
  have hsz := (Array.getElem?_eq_some_iff.mp h3).1
  obtain ⟨k3, l3, up3, oth, oT3, e3, c3, d3⟩ := setRec (i := 3) (v := .none) x.stays hT0 x.frames hT hdT
  unfold setFlight
  refine wpAny_bind (wpAny_field he hd h1 ?_)
  rw [if_pos (by simp : (Value.ref T != Value.none) = true)]
  refine wpAny_setField hT hdT hsz (h _ ⟨k3, x.new, l3, oe, vs, T, oT3, _, ⟨(oth e (Ne.symm hTe)).trans he, hc, hd, h1, h2⟩, hT0, hTe, e3, d3, by simp [hsz]⟩ up3)
theorem FlyC.pop {fl : Value} {h : Heap} (x : FlyC base (env :: outer) e cls od ctx fl h) : FlyC base outer e cls od ctx fl h := ⟨x.stays, x.new, x.frames.2.2, x.rcd⟩
/-- a frame is left: by a new exception, by one that flies -/
theorem leaveC0 {oe : Obj} {vs : Array Value} (hfr : A.frames = some (env :: outer)) (hl : s.heap.FunFrames base (env :: outer)) (hf : env.frame = some L) (hk : base.StaysIn s.heap) (hn : base.get? e = none)
    (he : s.heap.get? e = some oe) (hc : oe.cls = cls ∧ oe.dict = od) (hd : oe.data = .fields vs) (h1 : vs[1]? = some .none) (h2 : vs[2]? = some ctx)
    (h : ∀ h', FlyC base outer e cls od ctx .none h' → s.heap.UpToSlots h' → Q () { s with heap := h' }) : wpAny M A (leaving env (.ref e)) Q E s := by
  unfold leaving
  exact wpAny_bind (noteC0 hfr hl hf hk hn he hc hd h1 h2 fun g1 x1 u1 => landC (s := { s with heap := g1 }) x1 fun g2 x2 u2 => h g2 x2.pop (u1.trans u2))
theorem leaveC (hfr : A.frames = some (env :: outer)) (hf : env.frame = some L) (x : FlyC base (env :: outer) e cls od ctx .none s.heap)
    (h : ∀ h', FlyC base outer e cls od ctx .none h' → s.heap.UpToSlots h' → Q () { s with heap := h' }) : wpAny M A (leaving env (.ref e)) Q E s := by
  unfold leaving
  exact wpAny_bind (noteC hfr hf x fun g1 x1 u1 => landC (s := { s with heap := g1 }) x1 fun g2 x2 u2 => h g2 x2.pop (u1.trans u2))
end
end L2

namespace L2
open PySem PySem.Spec PyProof.Rows
/-! ### exceptions: how one lies behind a call -/
section
variable {P : Program} {w : World} {H : Hp} {h h'' B : Heap} {a : Addr} {o : HO}
theorem ObjOk.there (x : ObjOk P w H h a o) : ∃ ob, h.get? a = some ob := by
  cases o with
  | lst xs => obtain ⟨_, _, _, _, e⟩ := x; exact ⟨_, e⟩
  | tup xs => obtain ⟨_, _, _, ob, e, _⟩ := x; exact ⟨ob, e⟩
  | dK kvs => obtain ⟨_, _, _, _, ob, _, _, e, _⟩ := x; exact ⟨ob, e⟩
  | dT kvs => obtain ⟨_, _, _, _, ob, _, _, e, _⟩ := x; exact ⟨ob, e⟩
  | set S n => obtain ⟨ob, _, _, _, e, _⟩ := x; exact ⟨ob, e⟩
  | ins C dx fs => obtain ⟨_, _, _, e, _⟩ := x; exact ⟨_, e⟩
  | own y => exact x
  | xd fs => obtain ⟨_, ⟨_, _, _, e, _⟩, _⟩ := x; exact ⟨_, e⟩
  | rng lo hi => obtain ⟨_, _, _, e⟩ := x; exact ⟨_, e⟩
  | frz ob u => exact ⟨_, x.1⟩
  | tbl ps => exact ⟨_, (show h.get? a = some _ from x)⟩
  | met f y => exact ⟨_, (show h.get? a = some _ from x)⟩
  | ext φ => exact x.2.1
/-- what is tracked lies in B, and B stays -/
theorem HOk.stays (x : HOk P w H h) (trk : ∀ b o, H b = some o → ∃ ob, B.get? b = some ob) (b1 : B.StaysIn h) (b2 : B.StaysIn h'') : HOk P w H h'' := fun a o e =>
  (x a o e).stay (fun b u hb q => by
    have z : ∃ ob, B.get? b = some ob := hb.elim (fun z => z ▸ trk a o e) fun z => trk b _ z
    obtain ⟨ob, e1⟩ := z
    have e2 := (b1 _ _ e1).symm.trans q
    cases e2
    exact b2 _ _ e1) (fun _ q => q) fun _ _ q => q
end
/-- the contexts of an exception, to their end -/
inductive Chn (B : Heap) : Value → Prop where
  | nil : Chn B .none
  | cons {c : Addr} {o : Obj} {vs : Array Value} {ctx : Value} : B.get? c = some o → o.data = .fields vs → vs[2]? = some ctx → Chn B ctx → Chn B (.ref c)
/-- the exception at e flies over the frames l; B: what stood when it was made, but the frames -/
structure Fly (l : List Env) (H : Hp) (e : Addr) (cls : Value) (od : Option Addr) (B h : Heap) : Prop where
  fly : ∃ ctx, FlyC B l e cls od ctx .none h ∧ Chn B ctx
  trk : ∀ b o, H b = some o → ∃ ob, B.get? b = some ob
  noe : H e = none
def CX1 (P : Program) (w : World) : CXT := fun outer H s E e s' => ∃ (ea : Addr) (cls : Value) (od : Option Addr) (H' : Hp) (B : Heap), e = .ref ea ∧ s'.os = s.os ∧ AllBare s'.gens ∧ Un (frs outer) [] H H' s.heap s'.heap ∧ HOk P w H' s'.heap ∧
  Fly outer H' ea cls od B s'.heap ∧ (∀ b o, s.heap.get? b = some o → b ∉ frs outer → ∃ ob, B.get? b = some ob) ∧ E cls od H'
section
variable {X : Cx} {pins : List (Addr × Obj)} {σ : St} {H : Hp} {s : Shared} {B h'' : Heap}
theorem Inv.un_fly (J : Inv X pins σ H s) (hex : X.ex = []) (b1 : B.StaysIn s.heap) (b2 : B.StaysIn h'') (up : s.heap.UpToSlots h'') (inB : ∀ b o, X.s₀.heap.get? b = some o → b ∉ X.fs → ∃ ob, B.get? b = some ob) :
    Un X.fs [] X.H₀ H X.s₀.heap h'' where
  keep := fun b o e n hb _ => by
    have e1 := J.base.keep b o e n hb (by rw [hex]; simp)
    obtain ⟨ob, eb⟩ := inB b o e hb
    have e2 := (b1 _ _ eb).symm.trans e1
    cases e2
    exact b2 _ _ eb
  slot := fun b o e n hb _ => by
    obtain ⟨sl, e1⟩ := J.base.slot b o e n hb (by rw [hex]; simp)
    obtain ⟨_, o2, ho2, hd⟩ := J.funs.mem hb
    rw [e1] at ho2
    cases ho2
    obtain ⟨sl2, e2⟩ := up b _ e1 hd
    exact ⟨sl2, e2⟩
  free := fun b o e n _ => J.base.free b o e n (by rw [hex]; simp)
  there := fun b o e _ => by
    by_cases hb : b ∈ X.fs
    · obtain ⟨_, o2, ho2, hd⟩ := J.funs.mem hb
      obtain ⟨sl, e2⟩ := up b o2 ho2 hd
      exact ⟨_, e2⟩
    · obtain ⟨ob, eb⟩ := inB b o e hb
      exact ⟨ob, b2 _ _ eb⟩
  tups := J.base.tups
  frzs := J.base.frzs
  tbls := J.base.tbls
theorem Inv.notFr (J : Inv X pins σ H s) {b : Addr} {o : Obj} (e : X.s₀.heap.get? b = some o) (hb : b ∉ X.fs) : b ∉ frs X.stack := fun z => by
  rcases List.mem_cons.mp (J.stkSub b z) with q | q
  · exact absurd (Nat.lt_of_lt_of_le (Heap.lt_size e) J.ok.above) (by rw [q]; exact Nat.lt_irrefl _)
  · exact hb q
/-- all but the frames that run -/
def under (X : Cx) (s : Shared) : Heap := PySem.W.hideAll s.heap (frs X.stack)
theorem under_in {b : Addr} {o : Obj} (e : s.heap.get? b = some o) (hb : b ∉ frs X.stack) : (under X s).get? b = some o := PySem.W.hideAll_get _ e hb
theorem under_stays : (under X s).StaysIn s.heap := fun b o q => PySem.W.of_hideAll _ q
theorem Inv.under_frames (J : Inv X pins σ H s) : s.heap.FunFrames (under X s) X.stack := PySem.W.funFrames_hide J.stack fun env he a ha => List.mem_filterMap.mpr ⟨env, he, ha⟩
theorem Inv.under_trk (J : Inv X pins σ H s) : ∀ b o, H b = some o → ∃ ob, (under X s).get? b = some ob := fun b o e => by
  obtain ⟨ob, q⟩ := (J.hok b o e).there
  exact ⟨ob, under_in q fun z => by rw [J.stkFree b z] at e; cases e⟩
end
/-- a new exception: all else is kept -/
structure MadeC (h h' : Heap) (e : Addr) (cls ctx : Value) : Prop where
  keeps : ∀ b o, h.get? b = some o → h'.get? b = some o
  new : h.get? e = none
  rcd : ∃ oe vs, h'.get? e = some oe ∧ (oe.cls = cls ∧ oe.dict = none) ∧ oe.data = .fields vs ∧ vs[1]? = some .none ∧ vs[2]? = some ctx
theorem MadeC.of {h h' : Heap} {e : Addr} {cls : Value} {args : List Value} (x : Heap.MadeExcOf h h' e cls args) : MadeC h h' e cls .none := by
  obtain ⟨t, he, _⟩ := x.there
  exact ⟨x.keeps, x.new, _, _, he, ⟨rfl, rfl⟩, rfl, rfl, rfl⟩
/-- the body of a def, whose exceptions leave it -/
structure Thr (X : Cx) (E : XK) : Prop where
  new : ∀ (pins : List (Addr × Obj)) (σ : St) (H : Hp) (s : Shared) (h' : Heap) (e C : Addr) (ctx : Value), Inv X pins σ H s → MadeC s.heap h' e (.ref C) ctx → Chn (under X s) ctx → E (.ref C) none H → X.xe (.ref e) { s with heap := h' }
  on : Passes (CX1 X.prog X.w) X E
  own : PassesOwn (model X.prog X.w) X.A X.env X.xe
  ownAt : ∀ hd, PassesOwnAt (model X.prog X.w) (X.A.mark hd) X.A X.env X.xe
theorem thr_def {P : Program} {w : World} {K : PySem.W.Frag} {mg : Str → Option Value} {base : Heap} {N : List Str} {qual : Str} {scope : Scope} {f : Addr} {cd : Value} {A : Around} {outer : List Env} {s : Shared} {H : Hp} {E : XK} :
    Thr (cxOf (CX1 P w) P w K mg base N qual scope f cd A outer s H E) E where
  own := PassesOwn.leaving
  ownAt := fun _ => PassesOwnAt.leaving
  new := by
    intro pins σ H1 s1 h' e C ctx I hx hch hE
    have fr : (under (cxOf (CX1 P w) P w K mg base N qual scope f cd A outer s H E) s1).StaysIn s1.heap := under_stays
    have hn : (under (cxOf (CX1 P w) P w K mg base N qual scope f cd A outer s H E) s1).get? e = none := by
      cases q : (under (cxOf (CX1 P w) P w K mg base N qual scope f cd A outer s H E) s1).get? e with
      | none => rfl
      | some o =>
        have z := fr _ _ q
        rw [hx.new] at z
        cases z
    obtain ⟨oe, vs, he, hc, hd, h1, h2⟩ := hx.rcd
    refine leaveC0 (outer := outer) I.ok.frames (I.under_frames.of_keeps fun b o hb _ => ⟨o, hx.keeps b o hb, rfl⟩) rfl (fun b o q => hx.keeps b o (fr b o q)) hn he hc hd h1 h2 fun h'' x1 x4 => ?_
    have up : s1.heap.UpToSlots h'' := (Heap.UpToSlots.of_keeps hx.keeps).trans x4
    have inB : ∀ b o, s.heap.get? b = some o → b ∉ frs outer → ∃ ob, (under (cxOf (CX1 P w) P w K mg base N qual scope f cd A outer s H E) s1).get? b = some ob := fun b o eb hb => by
      obtain ⟨o', e'⟩ := I.base.there b o eb (by intro z; cases z)
      exact ⟨o', under_in e' (I.notFr eb hb)⟩
    refine ⟨e, .ref C, none, H1, _, rfl, I.os, I.bare, I.un_fly rfl fr x1.stays up inB, I.hok.stays I.under_trk fr x1.stays, ⟨⟨ctx, x1, hch⟩, I.under_trk, ?_⟩, inB, hE⟩
    cases q : H1 e with
    | none => rfl
    | some o =>
      obtain ⟨ob, z⟩ := (I.hok e o q).there
      rw [hx.new] at z
      cases z
  on := by
    intro pins σ H1 s1 e s' I hc
    obtain ⟨ea, cls, od, H', B, rfl, os, bare, un, hok, F, inB, hE⟩ := hc
    have J := I.call' os un hok bare fun b z => absurd z (by simp)
    obtain ⟨ctx, fl, hch⟩ := F.fly
    refine leaveC (outer := outer) I.ok.frames rfl fl fun h'' x1 x2 => ?_
    have inB' : ∀ b o, s.heap.get? b = some o → b ∉ frs outer → ∃ ob, B.get? b = some ob := fun b o eb hb => by
      obtain ⟨o', e'⟩ := I.base.there b o eb (by intro z; cases z)
      exact inB b o' e' (I.notFr eb hb)
    exact ⟨ea, cls, od, H', B, rfl, J.os, J.bare, J.un_fly rfl fl.stays x1.stays x2 inB', hok.stays F.trk fl.stays x1.stays, ⟨⟨ctx, x1, hch⟩, F.trk, F.noe⟩, inB', hE⟩
/-- THE RULE for a def that may raise -/
theorem Fun.okX {P : Program} {w : World} {K : PySem.W.Frag} {mg : Str → Option Value} {base : Heap} {x qual : Str} {st : Stmt} {f : Addr} {fd : FuncData} {N ps : List Str} {k : Nat} {sp : Sp} (F : Fun K x qual st f fd) (S : FnScope N ps (defScope st)) (len : ∀ vs H Q E, sp vs H Q E → vs.length = ps.length)
    (hbody : ∀ (cdv : Value) (A : Around) (outer : List Env) (s : Shared) (H : Hp) (vs : List V) (Q : VK) (E : XK), Room k (A.deeper (envOfC qual (defScope st) s.heap.objs.size f cdv)) → sp vs H Q E →
      Thr (cxOf (CX1 P w) P w K mg base N qual (defScope st) f cdv A outer s H E) E →
      ∃ t, PSs (cxOf (CX1 P w) P w K mg base N qual (defScope st) f cdv A outer s H E) (defBody st) t ∧ t { nx := fun _ H' => Q .non H', rt := Q } (start N vs) H) : FnOk P w K mg base (CX1 P w) (k + 1) f fd ps sp := by
  obtain ⟨oc, od, kV, doc, pm, an, cdv, ct, osl, rfl, lk, hcd⟩ := F.ex
  exact fn_of lk hcd S len fun A outer s H vs Q E hr hsp => hbody cdv A outer s H vs Q E hr hsp thr_def

/-! ### raise C("..") of an own class under ValueError -/
abbrev veTail : List Value := [.type "ValueError", .type "Exception", .type "BaseException", .type "object"]
theorem exc_obj {K : PySem.W.Frag} {h : Heap} {C : Addr} {bmB : List Value} {newId : String} (X : K.In h) (q : PySem.W.excIn K C bmB newId = true) :
    ∃ bm N nm qn bs hdct sn sub ab col dd k0 k1 k2 k3 k5 mN, h.get? C = some (excClassObj nm qn C N bs bm hdct sn sub ab col dd k0 k1 k2 k3 k5 newId) ∧ h.Ns N mN ∧ mN "__init__" = none ∧ OwnTail h bmB bm := by
  unfold PySem.W.excIn at q
  split at q
  · rename_i ddx cdx slx hlook
    split at q
    · rename_i Cx bmx j0 j1 j2 j3 nx j5 hmro hslots
      simp only [beq_iff_eq, Bool.and_eq_true, Bool.not_eq_true'] at q
      obtain ⟨⟨⟨⟨⟨eC, eN⟩, edel⟩, etl⟩, eok⟩, eni⟩ := q
      subst eC
      subst eN
      obtain ⟨f1, f2, f3, f4, f5, f6, f7, f8, f9, f10, f11⟩ := cdx
      have e1 : f3 = _ := hmro
      have e2 : f11 = false := edel
      subst e1
      subst e2
      obtain ⟨lst⟩ := slx
      have e3 : lst = _ := hslots
      subst e3
      exact ⟨bmx, f4, f1, f5, f2, f6, f7, f8, f9, f10, ddx, j0, j1, j2, j3, j5, _, X _ _ hlook, .of_isNs (PySem.W.isNs_of_in X eok), PySem.W.nsMap_none_of_in X eok eni, PySem.W.tail_of_in X etl⟩
    · cases q
  · cases q
def tRaise (C : Addr) (E : XK) (t : TA) : TS := fun _ σ H => t σ H fun vs H1 => vs.length ≤ sizeLine ∧ E (.ref C) none H1
theorem ps_raise {X : Cx} {x : Str} {np cpos pos : Pos} {e : Expr} {es : List Expr} {t : TA} {C : Addr} {E : XK} (T : Thr X E) (hh : X.A.handled = none) (hg : Gl X x) (hm : X.mg x = some (.ref C)) (hc : PySem.W.excIn X.K C veTail "ValueError.__new__" = true) (ha : PA X (e :: es) t)
    (hdb : (x == ("__debug__" : Str)) = false := by decide) (he : starEach (e :: es) X.env = (false, eval e X.env) :: starEach es X.env := by rfl) (hpl : (backTo cpos (starEach es X.env)).any (·.1) = false := by rfl) :
    PS X (.Raise (some (.Call (.Name x np) (e :: es) [] cpos)) none pos) (tRaise C E t) := by
  intro pins s σ H D I h
  obtain ⟨bm, N, nm, qn, bs, hdct, sn, sub, ab, col, dd, k0, k1, k2, k3, k5, mN, hC, hN, hni, hT⟩ := exc_obj I.mod.kin hc
  have hB : bm.contains (.type "BaseException") = true := hT.hasType PySem.F.excBase_ValueError.hasBase
  refine wpAny_Raise_call_subT (k5 := k5) (k3 := k3) (k2 := k2) (k1 := k1) (k0 := k0) (dd := dd) (col := col) (ab := ab) (sub := sub) (sn := sn) (hdct := hdct) (bs := bs) (N := N) (q := qn) (nm := nm) (bm := bm) (C := C) PySem.F.excBase_ValueError (mN := mN) hB hh (by rw [he]; show (false || (backTo cpos (starEach es X.env)).any (·.1)) = false; rw [hpl]; rfl) hni (ld_glob I hg hm ⟨rfl, ?_⟩ hdb)
  have hA := ha cpos pins s σ H _ I h
  rw [he] at hA ⊢
  refine Calls.evalArgs_plain (thn hA fun us s2 q2 => ?_)
  obtain ⟨vs, H2, I2, r, hz, hE⟩ := q2
  exact ⟨rfl, by rw [← r.length]; exact hz, I2.bk _ _ hC, hN.keeps I2.bk, hT.keeps I2.bk, fun h' e' hx => T.new pins σ H2 s2 h' e' C .none I2 (.of hx) .nil hE⟩
end L2

namespace L2
open PySem PySem.Spec PyProof.Rows
/-! ### what may raise, asked at one state -/
def Held (X : Cx) (pins : List (Addr × Obj)) (B : Heap) : Prop := (∀ b o, X.s₀.heap.get? b = some o → b ∉ X.ex → b ∉ X.fs → ∃ ob, B.get? b = some ob) ∧ ∀ p ∈ X.pn ++ pins, ∃ ob, B.get? p.1 = some ob
def XP (X : Cx) (pins : List (Addr × Obj)) (σ : St) (Ex : XK) (e : Value) (s' : Shared) : Prop :=
  ∃ (ea : Addr) (cls : Value) (od : Option Addr) (H' : Hp) (B : Heap), e = .ref ea ∧ Inv X pins σ H' s' ∧ Fly X.stack H' ea cls od B s'.heap ∧ Held X pins B ∧ Ex cls od H'
section
variable {X : Cx} {pins : List (Addr × Obj)} {σ : St} {H : Hp} {s : Shared} {B h'' : Heap}
theorem Inv.held (I : Inv X pins σ H s) (inB : ∀ b o, s.heap.get? b = some o → b ∉ frs X.stack → ∃ ob, B.get? b = some ob) : Held X pins B := by
  refine ⟨fun b o e hx hb => ?_, fun p hp => ?_⟩
  · obtain ⟨o', e'⟩ := I.base.there b o e hx
    exact inB b o' e' (I.notFr e hb)
  · obtain ⟨e, n, ne, nf, d⟩ := I.pin p hp
    exact inB _ _ e fun z => by
      rcases List.mem_cons.mp (I.stkSub _ z) with q | q
      · exact ne q
      · exact nf q
/-- the exception has landed (or was looked at): nothing of ours has changed -/
theorem Inv.landed (J : Inv X pins σ H s) (hB : Held X pins B) (trk : ∀ b o, H b = some o → ∃ ob, B.get? b = some ob) (b1 : B.StaysIn s.heap) (b2 : B.StaysIn h'') (up : s.heap.UpToSlots h'') : Inv X pins σ H { s with heap := h'' } := by
  have exact_ : ∀ b o, s.heap.get? b = some o → (∃ ob, B.get? b = some ob) → h''.get? b = some o := fun b o e z => by
    obtain ⟨ob, eb⟩ := z
    have e2 := (b1 _ _ eb).symm.trans e
    cases e2
    exact b2 _ _ eb
  have cellK : ∀ c v, s.heap.IsCell c v → h''.IsCell c v := fun c v z => by
    obtain ⟨o, ho, hd⟩ := z
    obtain ⟨sl, e⟩ := up c o ho fun ws q => by rw [hd] at q; cases q
    exact ⟨_, e, hd⟩
  refine ⟨J.ok, J.os, J.bare, ⟨fun b o e n hb hx => ?_, fun b o e n hb hx => ?_, J.base.free, fun b o e hx => ?_, J.base.tups, J.base.frzs, J.base.tbls⟩, ?_, fun x c e => ?_, J.free, J.freeC, fun p hp => ?_, J.hok.stays trk b1 b2, J.len⟩
  · exact exact_ b o (J.base.keep b o e n hb hx) (hB.1 b o e hx hb)
  · obtain ⟨sl, e1⟩ := J.base.slot b o e n hb hx
    obtain ⟨_, o2, ho2, hd⟩ := J.funs.mem hb
    rw [e1] at ho2
    cases ho2
    obtain ⟨sl2, e2⟩ := up b _ e1 hd
    exact ⟨sl2, e2⟩
  · by_cases hb : b ∈ X.fs
    · obtain ⟨_, o2, ho2, hd⟩ := J.funs.mem hb
      obtain ⟨sl, e2⟩ := up b o2 ho2 hd
      exact ⟨_, e2⟩
    · obtain ⟨ob, eb⟩ := hB.1 b o e hx hb
      exact ⟨ob, b2 _ _ eb⟩
  · obtain ⟨m, hn, hl⟩ := J.loc
    refine ⟨m, up.ns hn, fun i x v e1 e2 e3 => ?_⟩
    obtain ⟨u, r, l⟩ := hl i x v e1 e2 e3
    refine ⟨u, r, ?_⟩
    rcases l with l | ⟨k, c, e, z⟩
    · exact .inl l
    · exact .inr ⟨k, c, e, cellK c _ z⟩
  · obtain ⟨v, z⟩ := J.cell x c e
    exact ⟨v, cellK c v z⟩
  · obtain ⟨e, n, ne, nf, d⟩ := J.pin p hp
    exact ⟨exact_ _ _ e (hB.2 p hp), n, ne, nf, d⟩
/-- an exception that was caught: its class -/
def excO (a C : Addr) : HO := .ext fun h => ∃ o vs, h.get? a = some o ∧ o.cls = .ref C ∧ o.data = .fields vs
/-- the context of an except suite from which nothing is raised -/
def hCx (X : Cx) (e : Addr) : Cx := { X with A := X.A.mark (some (.ref e)), calm := false, xe := fun _ _ => False }
theorem Inv.inH {e : Addr} (J : Inv X pins σ H s) : Inv (hCx X e) pins σ H s :=
  ⟨⟨J.ok.mod, J.ok.kind, J.ok.glob, J.ok.blt, J.ok.above, J.ok.inj, J.ok.has, J.ok.cab, fun z => Bool.noConfusion z, J.ok.frames, J.ok.stk, J.ok.exf, J.ok.bs, J.ok.bsz, J.ok.noex, J.ok.exfs, J.ok.funs, J.ok.frf⟩, J.os, J.bare, J.base, J.loc, J.cell, J.free, J.freeC, J.pin, J.hok, J.len⟩
theorem Inv.outH {e : Addr} (ok : X.Ok) (J : Inv (hCx X e) pins σ H s) : Inv X pins σ H s := ⟨ok, J.os, J.bare, J.base, J.loc, J.cell, J.free, J.freeC, J.pin, J.hok, J.len⟩
/-- the name behind 'as' goes -/
theorem name_gone {M : Model} {A : Around} {E : Value → Shared → Prop} {i : Nat} {n : Str} {pos : Pos} {Q : Unit → Shared → Prop} (J : Inv X pins σ H s) (hN : X.N.Nodup) (hi : X.N[i]? = some n) (hlo : X.env.kindOf n = some .local)
    (h : ∀ s', Inv X pins (σ.set i none) H s' → Q () s') : wpAny M A (do bindName X.env n .none; unbindBehindTheSuite X.env n pos) Q E s := by
  obtain ⟨m, hn, hl⟩ := J.loc
  refine wpAny_nameGoes_keeps hlo hn (by rw [J.ok.kind]; rfl) fun h' v hn' hs => h _ ?_
  have hiσ : i < σ.length := by rw [J.len]; exact (List.getElem?_eq_some_iff.mp hi).1
  obtain ⟨oL, esL, epL, hoL, hdL, _⟩ := id hn
  have neB : ∀ b o, X.s₀.heap.get? b = some o → b ≠ X.env.locals := fun b o e => Nat.ne_of_lt (Nat.lt_of_lt_of_le (Heap.lt_size e) J.ok.above)
  refine ⟨J.ok, J.os, J.bare, ⟨fun b o e k hb hx => ?_, fun b o e k hb hx => ?_, J.base.free, fun b o e hx => ?_, J.base.tups, J.base.frzs, J.base.tbls⟩, ⟨_, hn', fun j y v' e1 e2 e3 => ?_⟩, fun y c e => ?_, J.free, J.freeC, fun p hp => ?_, fun b ob e => ?_, by simpa using J.len⟩
  · exact (hs.2 b (neB b o e)).trans (J.base.keep b o e k hb hx)
  · obtain ⟨sl, q⟩ := J.base.slot b o e k hb hx
    exact ⟨sl, (hs.2 b (neB b o e)).trans q⟩
  · obtain ⟨o', q⟩ := J.base.there b o e hx
    exact ⟨o', (hs.2 b (neB b o e)).trans q⟩
  · by_cases hj : j = i
    · subst hj
      rw [List.getElem?_set_self hiσ] at e2
      cases e2
    · rw [List.getElem?_set_ne (Ne.symm hj)] at e2
      obtain ⟨u', r', q⟩ := hl j y v' e1 e2 e3
      refine ⟨u', r', ?_⟩
      have hy : y ≠ n := fun z => hj (nodup_ix hN e1 (z ▸ hi))
      rcases q with ⟨k, e⟩ | ⟨k, c, e, z⟩
      · exact .inl ⟨k, by simp [hy, e]⟩
      · exact .inr ⟨k, c, e, z.sameBut hs (J.cne y c e)⟩
  · obtain ⟨w', z⟩ := J.cell y c e
    exact ⟨w', z.sameBut hs (J.cne y c e)⟩
  · obtain ⟨e, k, ne, nf, d⟩ := J.pin p hp
    exact ⟨(hs.2 p.1 ne).trans e, k, ne, nf, d⟩
  · refine (J.hok b ob e).stay (fun c w' hc q => (hs.2 c ?_).trans q) (fun _ q => q) fun _ _ q => q
    rintro rfl
    have fr := J.free
    rcases hc with hc | hc
    · rw [hc, e] at fr
      cases fr
    · rw [hc] at fr
      cases fr
end
/-! ### the judgements with an exception's wish -/
def PEX (X : Cx) (e : Expr) (t : XK → TE) : Prop :=
  ∀ (pins : List (Addr × Obj)) (s : Shared) (σ : St) (H : Hp) (Q : VK) (Ex : XK), Inv X pins σ H s → t Ex σ H Q → wpAny (model X.prog X.w) X.A (eval e X.env) (EP X pins σ Q) (XP X pins σ Ex) s
def PSX (X : Cx) (st : List Stmt) (t : XK → TS) : Prop :=
  ∀ (pins : List (Addr × Obj)) (s : Shared) (σ : St) (H : Hp) (D : Ends) (Ex : XK), Inv X pins σ H s → t Ex D σ H → wpAny (model X.prog X.w) X.A (execs st X.env) (SP X pins D) (XP X pins σ Ex) s
section
variable {X : Cx} {k : Nat} {f : Addr} {fd : FuncData} {ps : List Str} {sp : Sp} {dvs : List V} {ds : List Value} {x : Str} {p pos : Pos} {e : Expr} {es : List Expr} {t : TA}
theorem run_fnX {pins : List (Addr × Obj)} {σ : St} {H : Hp} {s : Shared} {Q : VK} {Ex : XK} {us : List Value} {vs : List V} (F : FnOk X.prog X.w X.K X.mg X.base (CX1 X.prog X.w) k f fd ps sp) (hr : Room k X.A) (hb : Binds X.K fd ps ds) (hd : Vals dvs ds)
    (I : Inv X pins σ H s) (r : Vals vs us) (h : sp (vs ++ dvs) H Q Ex) : wpAny (model X.prog X.w) X.A (call (.ref f) us) (EP X pins σ Q) (XP X pins σ Ex) s := by
  have r2 : Vals (vs ++ dvs) (us ++ ds) := r.append hd
  have hl : (us ++ ds).length = ps.length := by rw [← r2.length]; exact F.len _ _ _ _ h
  refine wpAny_call (codeAny_mono (F.run X.A X.stack s H ⟨us, []⟩ (us ++ ds) (vs ++ dvs) Q Ex hr I.env0 (hb s us I.kIn hl) r2 h) fun r s' hq => ?_)
  cases r with
  | error e =>
    obtain ⟨ea, cls, od, H', B, rfl, os, bare, un, hok, F, inB, hE⟩ := hq
    exact ⟨ea, cls, od, H', B, rfl, I.call' os un hok bare fun b z => absurd z (by simp), F, I.held inB, hE⟩
  | ok fl =>
    cases fl with
    | ret u => exact I.after hq
    | next => exact False.elim hq
    | brk => exact False.elim hq
    | cont => exact False.elim hq
end
theorem FlyC.looks {M : Model} {base h : Heap} {l : List Env} {e : Addr} {cls ctx fl : Value} {od : Option Addr} (x : FlyC base l e cls od ctx fl h) : PySem.W.Looks M h (typeOf (.ref e)) cls := by
  obtain ⟨oe, vs, _, _, _, ⟨ho, hc, _⟩, _⟩ := x.rcd
  exact hc.1 ▸ (PySem.W.Looks.ld ho).andThen .now
/-! ### try: .. except T as n: .. -/
def tTryAs (K : PySem.W.Frag) (tb : XK → TS) (i : Nat) (CT : Value) (th : TS) : TS := fun D σ H =>
  tb (fun cls _ H1 => PySem.W.exmOne K cls CT = some true ∧ ∃ C, cls = .ref C ∧ ∀ ea, H1 ea = none →
    th { nx := fun σ' H' => D.nx (σ'.set i none) H', rt := D.rt, bk := fun σ' H' => D.bk (σ'.set i none) H', ct := fun σ' H' => D.ct (σ'.set i none) H' } (σ.set i (some (.ref ea))) (upd H1 ea (excO ea C))) D σ H
end L2

namespace L2
open PySem PySem.Spec PyProof.Rows Builtin Builtin.ObjectAttr Builtin.Getset_descriptor
/-! ### the class of an exception that was caught -/
structure ExcF (K : PySem.W.Frag) (C : Addr) : Prop where
  cl : (PySem.W.clsIn K C).isSome = true
  ga : PySem.W.findIn K (.ref C) "__getattribute__" = some (some (.builtin "BaseException.__getattribute__"))
  hk : PySem.W.findIn K (.ref C) "__getattr__" = some none
  cs : PySem.W.findIn K (.ref C) "__class__" = some (some (.builtin "object.__class__"))
  gt : PySem.W.specialIn K (.builtin "object.__class__") "__get__" = some (some (.builtin "getset_descriptor.__get__"))
  tk : PySem.W.takesIn K (.builtin "object.__class__") = some true
  mo : PySem.W.mroIn K C (.type "object") = some true
  mb : PySem.W.mroIn K C (.type "BaseException") = some true
def ExcAt (a C : Addr) (h : Heap) : Prop := ∃ o, h.get? a = some o ∧ o.cls = .ref C
theorem excAt_ty {a C : Addr} {M : Model} {h : Heap} (p : ExcAt a C h) : PySem.W.Looks M h (typeOf (.ref a)) (.ref C) := by
  obtain ⟨o, h1, h2⟩ := p
  exact h2 ▸ (PySem.W.Looks.ld h1).andThen .now
section
variable {prog : Program} {w : World} {A : Around} {E : Value → Shared → Prop} {K : PySem.W.Frag} {a C : Addr}
theorem excAt_get {s : Shared} {tp : Value} {R : Result → Shared → Prop} (F : ExcF K C) (X : K.In s.heap) (p : ExcAt a C s.heap) (h : R (.ok (.ret (.ref C))) s) :
    codeAny (model prog w) A (.call (.builtin "getset_descriptor.__get__") ⟨[.builtin "object.__class__", .ref a, tp], []⟩) R s := by
  obtain ⟨hh, g, dr, t, os⟩ := s
  have L0 := excAt_ty (M := model prog w) p
  have L1 := PySem.W.looks_mroIn (M := model prog w) X F.mo
  refine codeAny_call_builtin PySem.W.KF.slot_gs.plain PySem.W.KF.entry_gs (PySem.W.KF.slot_gs.check _ _ _ _ _ _ _ _ PySem.W.KF.type_class (PySem.W.KF.args_gs _ _ _) ?_)
  unfold Builtin.«getset_descriptor.__get__»
  unfold descrGet
  rw [PySem.W.dga_obj]
  refine wpAny_bind (wpAny_pure ?_)
  unfold descrGetter descrCheckInstance
  unfold descrNameAndClass isInstance
  simp only [PySem.W.KF.owner_class]
  repeat lk
  refine ⟨Code.quiet_builtin _ (by decide +kernel), codeAny_builtin PySem.W.KF.entry_class ?_⟩
  unfold Builtin.«object.__class__»
  unfold shownTypeOf
  repeat lk
  exact h
end
end L2

namespace My
open PySem L2
/-! ### a card's text -/
def cardL : List Nat → Option Nat
  | [l, f] => if 97 ≤ l ∧ l ≤ 100 ∧ 49 ≤ f ∧ f ≤ 56 then some (8 * (l - 97) + (f - 49)) else none
  | _ => none
def cardOf (t : Str) : Option Nat := cardL t.cps.toList
def cardT (c : Nat) : Str := ⟨#[97 + c / 8, 49 + c % 8]⟩
abbrev sLet : Str := "abcd"
abbrev sFig : Str := "12345678"
theorem fig_at : ∀ n < 8, atI sFig.cps.toList ((n : Nat) : Int) = some (49 + n) := by decide +kernel
theorem fig_mem (c : Nat) : c ∈ sFig.cps.toList ↔ 49 ≤ c ∧ c ≤ 56 := by
  have e : sFig.cps.toList = [49, 50, 51, 52, 53, 54, 55, 56] := by decide +kernel
  rw [e]
  simp only [List.mem_cons, List.not_mem_nil, or_false]
  omega
theorem find_fig (c : Nat) : Txt.find sFig ⟨#[c]⟩ = if 49 ≤ c ∧ c ≤ 56 then ((c - 49 : Nat) : Int) else -1 := by
  by_cases h : 49 ≤ c ∧ c ≤ 56
  · rw [if_pos h]
    have h4 : c = 49 ∨ c = 50 ∨ c = 51 ∨ c = 52 ∨ c = 53 ∨ c = 54 ∨ c = 55 ∨ c = 56 := by omega
    rcases h4 with rfl | rfl | rfl | rfl | rfl | rfl | rfl | rfl <;> decide +kernel
  · rw [if_neg h]
    have e := PyProof.Rows.empty_one sFig c
    rw [decide_eq_false (fun z => h ((fig_mem c).mp z))] at e
    unfold Txt.find
    cases q : Builtin.Str.occurrences sFig ⟨#[c]⟩ 0 sFig.length 1 with
    | nil => rfl
    | cons a b => rw [q] at e; cases e
theorem two_fit (a b : Nat) : (⟨#[a]⟩ : Str).length + (⟨#[b]⟩ : Str).length ≤ sizeLine := by
  show 1 + 1 ≤ sizeLine
  rw [sizeLine_eq]
  decide
end My

namespace L2
open PySem PySem.Spec PyProof.Rows Builtin Builtin.ObjectAttr Builtin.Getset_descriptor
section
variable {prog : Program} {w : World} {A : Around} {E : Value → Shared → Prop} {K : PySem.W.Frag} {a C : Addr}
theorem excAt_find {M : Model} {h : Heap} (F : ExcF K C) (X : K.In h) : PySem.W.Looks M h (Builtin.ObjectAttr.find (.ref a) (.ref C) "__class__") (.bind (.builtin "getset_descriptor.__get__") (.builtin "object.__class__")) := by
  have L1 := PySem.W.looks_findIn (M := M) X F.cs
  have L2 := PySem.W.looks_specialIn (M := M) X F.gt
  have L3 := PySem.W.looks_takesIn (M := M) X F.tk
  have L4 : PySem.W.Looks M h (Builtin.ObjectAttr.dataDescriptor? (some (.builtin "object.__class__")) (some (.builtin "getset_descriptor.__get__"))) (some (.builtin "getset_descriptor.__get__", .builtin "object.__class__")) := L3.andThen .now
  exact L1.andThen (L2.andThen (L4.andThen (PySem.W.Looks.tag .now)))
theorem excAt_check {M : Model} {s : Shared} {nameV : Value} {Q : Unit → Shared → Prop} (F : ExcF K C) (X : K.In s.heap) (p : ExcAt a C s.heap) (hq : Q () s) : wpAny M A (checkBuiltinCall "BaseException.__getattribute__" ⟨[.ref a, nameV], []⟩) Q E s := by
  have hk : builtinKind "BaseException.__getattribute__" = some .slot := by decide +kernel
  have hsplit : splitId "BaseException.__getattribute__" = some ("BaseException", "__getattribute__") := by decide +kernel
  have ha := PySem.F.args_bexc_ga (.ref a) nameV
  have LI : PySem.W.Looks M s.heap (isInstance (.ref a) (.type "BaseException")) true := (excAt_ty p).andThen (PySem.W.looks_mroIn X F.mb)
  simp only [checkBuiltinCall, hk, hsplit]
  refine wpAny_bind (LI.here ?_)
  obtain ⟨hh, g, d, t, os⟩ := s
  repeat (first | assumption | wp_step)
theorem excAt_entry {s : Shared} {tk : Tok} {Q : Fin → Shared → Prop} (F : ExcF K C) (X : K.In s.heap) (p : ExcAt a C s.heap) (hq : Q (.done (.ret (.ref C))) s) :
    wpAny (model prog w) A (Builtin.«object.__getattribute__» ⟨[.ref a, .str "__class__" tk], []⟩) Q E s := by
  obtain ⟨hh, g, d, t, os⟩ := s
  have L0 := excAt_ty (M := model prog w) p
  have L1 := excAt_find (a := a) (M := model prog w) F X
  unfold Builtin.«object.__getattribute__»
  repeat (first | (with_reducible refine wpAny_call (excAt_get F X p ?_)) | lk | wp_step)
  exact hq
theorem excAt_class {s : Shared} {Q : Option Value → Shared → Prop} (F : ExcF K C) (X : K.In s.heap) (p : ExcAt a C s.heap) (h : Q (some (.ref C)) { s with toks := s.toks + 1 }) : wpAny (model prog w) A (getAttr? (.ref a) "__class__") Q E s := by
  obtain ⟨hh, g, d, t, os⟩ := s
  have L0 := excAt_ty (M := model prog w) p
  have L1 := PySem.W.looks_findIn (M := model prog w) X F.ga
  have L2 := PySem.W.looks_findIn (M := model prog w) X F.hk
  have hb : bindSpecial (.builtin "BaseException.__getattribute__") (.ref a) = pure (.builtin "BaseException.__getattribute__", [.ref a]) := PySem.F.excAttr_ValueError.ga.bind (.ref a)
  unfold getAttr? getAttrBy? getAttrBy
  refine wpAny_bind (wpAny_mkText (wpAny_bind (wpAny_attempt (wpAny_holding (wpAny_bind (L0.at (wpAny_bind (L1.at ?_))))))))
  show wpAny _ _ (getAttrByItsOwn (.ref a) _ (.ref C) (.builtin "BaseException.__getattribute__") false false) _ _ _
  unfold getAttrByItsOwn hookBefore
  refine wpAny_bind ?_
  rw [if_pos (show onTheHeap (Value.ref C) = true from rfl)]
  refine L2.at ?_
  refine wpAny_bind (wpAny_attempt (wpAny_holding ?_))
  show wpAny _ _ (boundAndCalled (.builtin "BaseException.__getattribute__") (.ref a) _) _ _ _
  unfold boundAndCalled
  rw [hb]
  refine wpAny_bind (wpAny_pure ?_)
  refine wpAny_call (codeAny_call_builtin PySem.F.excAttr_ValueError.ga.plain PySem.F.entry_bexc_ga (excAt_check F X p (excAt_entry F X p ?_)))
  show wpAny (model prog w) A (handedOut (.ref C)) _ _ _
  exact PySem.W.handed_on rfl (wpAny_pure h)
theorem kitx_exc (F : ExcF K C) : PySem.W.KitX K (.ref a) (.ref C) (ExcAt a C) where
  ty := fun M h _ p => excAt_ty p
  it := fun M h X _ => by
    have z := F.cl
    unfold PySem.W.clsIn at z
    split at z
    · rename_i c1 d1 cd1 sl1 ho
      intro A1 Q1 E1 s1 k1 q1
      unfold isType loadHead
      exact wpAny_bind (wpAny_loadPart (k1 _ _ (X _ _ ho)) (wpAny_pure q1))
    · cases z
  ne := fun h tp dd its n sl X htp => by
    refine Bool.eq_false_iff.mpr fun q => ?_
    have e : C = tp := Value.ref.inj (beq_iff_eq.mp q)
    subst e
    have z := F.cl
    unfold PySem.W.clsIn at z
    split at z
    · rename_i c1 d1 cd1 sl1 ho
      have y := (X _ _ ho).symm.trans htp
      cases y
    · cases z
  ca := fun X p k => excAt_class F X p k
end
/-! ### isinstance(e, T) of a caught exception -/
def isC : V → Bool | .ref _ => true | .ty _ => true | _ => false
def toC : V → Value | .ref D => .ref D | .ty n => .type n | _ => .none
theorem toC_eq {c : V} {u : Value} (h : isC c = true) (r : RelV c u) : u = toC c := by
  cases c with
  | ref D => exact r
  | ty n => exact r
  | _ => cases h
end L2

namespace L2
open PySem PySem.Spec PyProof.Rows
/-! ### texts -/
section
variable {X : Cx} {pos : Pos}
theorem mt_find : MtR X "str.find" (fun x xs H Q => ∃ i j, x = .str i ∧ xs = [.str j] ∧ Q (.int (Txt.find i j)) H) := by
  intro pins s σ H x xs v us Q I rx rv h
  obtain ⟨i, j, rfl, rfl, q⟩ := h
  obtain ⟨t, rfl⟩ := rx
  obtain ⟨u, rfl, ru⟩ := rv.one
  obtain ⟨t', rfl⟩ := ru
  exact SC.find ⟨.int _, H, I.tok _, ⟨_, rfl⟩, q⟩
/-! ### {} -/
def tDNew : TE := fun _ H Q => ∀ p, H p = none → Q (.ref p) (upd H p (.dK []))
/-! ### a callee that may raise, asked where it does not -/
end
end L2

namespace L2
open PySem PySem.Spec PyProof.Rows
/-! ### lists of texts -/
def vS (ys : List Str) : List V := ys.map V.str
section
variable {X : Cx}
/-! ### join, split -/
/-! ### slices of texts -/
def rSlS : V → Option Int → Option Int → Hp → VK → Prop := fun x lo hi H Q => ∃ z, x = .str z ∧ z.length ≤ 10000 ∧ Q (.str (Txt.slice z lo hi)) H
/-! ### for c in a text -/
def Its (x : Str) : It := ⟨fun i _ => i < x.cps.size, fun i H v H' => H' = H ∧ ∃ c, x.cps[i]? = some c ∧ v = .str ⟨#[c]⟩, fun i _ => x.cps.size ≤ i⟩
def iStr (tl : TE) : TI := fun σ H R => tl σ H fun x H1 => ∃ z, x = .str z ∧ R (Its z) H1
end
end L2

namespace L2
open PySem PySem.Spec PyProof.Rows
/-! ### raise C("..") from None, in an except suite -/
inductive Pth (h : Heap) : Addr → Addr → Prop where
  | here (a : Addr) : Pth h a a
  | step {a b c : Addr} {o : Obj} {vs : Array Value} : h.get? a = some o → o.data = .fields vs → vs[2]? = some (.ref b) → Pth h b c → Pth h a c
section
variable {prog : Program} {w : World}
end
end L2

namespace L2
open PySem PySem.Spec PyProof.Rows
section
variable {X : Cx} {pins : List (Addr × Obj)} {σ : St} {H : Hp} {s : Shared} {x : Str} {np cp cp2 cpos rpos : Pos} {msg : Str} {j j2 : Nat} {C e1 : Addr}
end
end L2

namespace L2
open PySem PySem.Spec PyProof.Rows
/-! ### try: .. except T: raise C("..") from None -/
def tTryR (K : PySem.W.Frag) (tb : XK → TS) (CT : Value) (C2 : Addr) (E : XK) : TS := fun D σ H => tb (fun cls _ H1 => PySem.W.exmOne K cls CT = some true ∧ E (.ref C2) none H1) D σ H
/-! ### f(a), where a may raise and f not -/
/-! ### xs == [] -/
end L2

namespace L2
open PySem PySem.Spec PyProof.Rows
/-! ### sorted(..): what comes is the same things in some order, whatever the comparisons answer -/
section
variable {P : Program} {w : World} {A : Around} {E : Value → Shared → Prop} {s : Shared} {kd : SortKind} {a0 : Array Keyed}
/-- comparisons of these keys answer, and change nothing -/
def Cmp (P : Program) (w : World) (A : Around) (s : Shared) (kd : SortKind) (ks : List Value) : Prop :=
  ∀ x ∈ ks, ∀ y ∈ ks, ∀ (E : Value → Shared → Prop) (Q : Bool → Shared → Prop), (∀ b, Q b s) → wpAny (model P w) A (keyLt' kd x y) Q E s
structure SB (kd : SortKind) (a0 : Array Keyed) (st : SortSt) : Prop where
  pm : (arrOf st).Perm a0
  kn : kindOf st = kd
  fl : failedOf st = none
  pn : pendingOf st = #[]
variable (hC : Cmp P w A s kd (a0.toList.map (·.1)))
include hC
end
section
variable {P : Program} {w : World} {A : Around} {E : Value → Shared → Prop} {s : Shared} {kd : SortKind}
/-- what sorting needs to know of the keys, in any state that keeps what is there -/
structure Keys (P : Program) (w : World) (A : Around) (s : Shared) (kd : SortKind) (vs : List Value) : Prop where
  kind : 2 ≤ vs.length → ∀ (E : Value → Shared → Prop) (Q : SortKind → Shared → Prop), Q kd s → wpAny (model P w) A (keyKind' vs.toArray) Q E s
  cmp : Cmp P w A s kd vs
end
end L2

namespace L2
open PySem PySem.Spec PyProof.Rows
/-! ### sorted(..) of pairs of whole numbers -/
section
variable {P : Program} {w : World} {A : Around} {E : Value → Shared → Prop} {s : Shared}
/-- a pair of whole numbers on the heap -/
def PairAt (h : Heap) (v : Value) : Prop := ∃ (a : Addr) (i j : Int) (t u : Tok) (o : Obj) (n : Nat), v = .ref a ∧ h.get? a = some o ∧ o.cls = .type "tuple" ∧ o.data = .seq #[.int i t, .int j u] n
end
end L2

namespace L2
open PySem PySem.Spec PyProof.Rows
section
variable {X : Cx}
/-! ### sum(xs), xs.count(k) -/
/-! ### e as a row of its own, where e may raise -/
theorem psx_expr {e : Expr} {te : XK → TE} {pos : Pos} (he : PEX X e te) (hs : swapsWith e none pos.line X.env = pure false := by rfl) : PSX X [.Expr e pos] (fun Ex => tDrop (te Ex)) := by
  intro pins s σ H D Ex I h
  exact wpAny_execs_cons (wpAny_Expr_any (thn (he pins s σ H _ Ex I h) fun v s1 ⟨x, H1, I1, r1, q1⟩ => wpAny_execs_nil ⟨σ, H1, I1, q1⟩) I.quiet hs)
end
/-! ### for i, x in enumerate(xs) -/
def Ite (K : PySem.W.Frag) (a : Addr) : It :=
  ⟨fun i H => ∃ xs x, SqL K H a xs ∧ xs[i]? = some x, fun i H v H' => ∃ p x, v = .ref p ∧ H p = none ∧ H' = upd H p (.tup [.int (i : Nat), x]) ∧ ∀ xs, SqL K H a xs → xs[i]? = some x, fun i H => ∃ xs, SqL K H a xs ∧ xs.length ≤ i⟩
theorem turn_enum {P : Program} {w : World} {K : PySem.W.Frag} {es : List Expr} {x1} {tp : Pos} (a e it : Addr) (hne : e ≠ it) : Turn P w K (.Tuple es x1 tp) (Ite K a) [e, it] e (fun i h => (∃ old, IsEnum h e it i old) ∧ h.IsListIter it a i) where
  mem := by simp
  obj := fun i h st b hb => by
    obtain ⟨⟨old, he⟩, ⟨o, ho, c, d⟩⟩ := st
    rcases List.mem_cons.mp hb with rfl | hb
    · exact ⟨_, he, fun v z => by cases z⟩
    · have q : b = it := by simpa using hb
      subst q
      exact ⟨o, ho, fun v z => by rw [d] at z; cases z⟩
  keep := fun i h h' st k => by
    obtain ⟨⟨old, he⟩, hi⟩ := st
    exact ⟨⟨old, k e (by simp) _ he⟩, hi.at fun o q => k it (by simp) o q⟩
  item := by
    intro X hP hw hK hc i pins s σ H E I hf st hg
    subst hP hw hK
    obtain ⟨xs, x, hq, hx⟩ := hg
    obtain ⟨⟨old, he⟩, hit⟩ := st
    obtain ⟨its, rv, p, hz⟩ := I.list hq
    obtain ⟨u, hu, ru⟩ := rv.get hx
    obtain ⟨a0, a1, a2, a3, a4, a5⟩ := hf e (by simp)
    obtain ⟨f0, f1, f2, f3, f4, f5⟩ := hf it (by simp)
    refine wpAny_pyNext_enum_item he hit p.isList (x := u) (by simpa using hu) hne fun h' eo hit' ht hsz hk => ⟨_, rfl, ?_⟩
    refine wpAny_letOwnedTupleGo_enum eo fun h2 he2 sb2 => ?_
    have sb2' : Heap.SameBut e h' h2 := sb2
    have hn : H s.heap.objs.size = none := I.fresh
    have le : e < s.heap.objs.size := Heap.lt_size he
    obtain ⟨oi, hoi, ci, di⟩ := id hit
    have li : it < s.heap.objs.size := Heap.lt_size hoi
    -- the pair is laid, then the two iterators move on
    have I1 : Inv X pins σ (upd H s.heap.objs.size (.tup [.int (i : Nat), x])) { s with heap := s.heap.push { cls := .type "tuple", data := .seq #[.int i s.toks, u] }, toks := s.toks + 1 } :=
      I.laid (t' := s.toks + 1) (fun b ob q => Heap.get?_push_of_some _ q) (Nat.le_refl _) ⟨by rw [sizeLine_eq]; show 2 ≤ _; decide, [.int i s.toks, u], .cons ⟨_, rfl⟩ (.cons ru .nil), IsTup.new _ _⟩
    obtain ⟨oi2, hoi2, ci2, di2⟩ := id hit'
    have hoi3 : h2.get? it = some oi2 := (sb2'.2 it (Ne.symm hne)).trans hoi2
    have gi : ((s.heap.push { cls := .type "tuple", data := .seq #[.int i s.toks, u] }).update it (fun _ => oi2)).get? it = some oi2 := by
      refine Heap.get?_update_self _ (Heap.get?_push_of_some _ hoi) ?_
      exact Obj.isFreed_of_fields di2
    have I2 := I1.turned (h' := (s.heap.push { cls := .type "tuple", data := .seq #[.int i s.toks, u] }).update it (fun _ => oi2)) (t' := s.toks + 1) (it := it) (fun b o hb q => (Heap.get?_update_other _ _ (Ne.symm hb)).trans q) (by rw [upd_ne (Nat.ne_of_lt li)]; exact f0) f1 f3 f4 f5
    have I3 := I2.turned (h' := h2) (t' := s.toks + 1) (it := e) (fun b o hb q => by
      by_cases c : b = it
      · subst c
        have q' := gi.symm.trans q
        cases q'
        exact hoi3
      · have q1 : (s.heap.push { cls := .type "tuple", data := .seq #[.int i s.toks, u] }).get? b = some o := (Heap.get?_update_other _ _ (Ne.symm c)).symm.trans q
        by_cases d : b = s.heap.objs.size
        · subst d
          have q2 := (Heap.get?_push_size s.heap (o := { cls := .type "tuple", data := .seq #[.int i s.toks, u] }) rfl).symm.trans q1
          cases q2
          exact (sb2'.2 _ hb).trans ht
        · rw [Heap.get?_push_ne _ _ _ d] at q1
          exact (sb2'.2 b hb).trans (hk b o hb c q1)) (by rw [upd_ne (Nat.ne_of_lt le)]; exact a0) a1 a3 a4 a5
    refine ⟨.ref s.heap.objs.size, _, I3, rfl, ⟨s.heap.objs.size, x, rfl, hn, rfl, fun ys hy => by rw [I.list_inj hy hq]; exact hx⟩, ⟨⟨_, he2⟩, oi2, hoi3, ci2, di2⟩, fun b hb => ?_⟩
    rcases List.mem_cons.mp hb with rfl | hb
    · rw [upd_ne (Nat.ne_of_lt le)]; exact a0
    · have q : b = it := by simpa using hb
      subst q
      rw [upd_ne (Nat.ne_of_lt li)]; exact f0
  done := by
    intro X hP hw hK hc i pins s σ H E I hf st hg
    subst hP hw hK
    obtain ⟨xs, hq, hx⟩ := hg
    obtain ⟨⟨old, he⟩, hit⟩ := st
    obtain ⟨its, rv, p, hz⟩ := I.list hq
    obtain ⟨f0, f1, f2, f3, f4, f5⟩ := hf it (by simp)
    have hl := rv.length
    exact wpAny_pyNext_enum_end (I.ok.hd hc) he hit p.isList (by simp; omega) fun h' eb => ⟨rfl, I.turned (t' := s.toks) (fun b o hb e => eb b o hb e) f0 f1 f3 f4 f5⟩
  self := fun _ _ _ _ _ st h => by
    obtain ⟨⟨old, he⟩, _⟩ := st
    exact wpAny_pyIter_enum he h
section
variable {X : Cx}
def iEnum (K : PySem.W.Frag) (ta : TA) : TI := fun σ H R => ta σ H fun vs H1 => ∃ a xs, vs = [.ref a] ∧ H1 a = some (.lst xs) ∧ R (Ite K a) H1
theorem pi_enum {es : List Expr} {x1} {tp p pos : Pos} {l : Expr} {ta : TA} (hg : Gl X "enumerate") (hm : X.mg "enumerate" = none) (ha : PA X [l] ta) (hs : starEach [l] X.env = [(false, eval l X.env)] := by rfl) : PI X (.Tuple es x1 tp) (.Call (.Name "enumerate" p) [l] [] pos) (iEnum X.K ta) := by
  intro pins s σ H R I h
  refine Call_ (ld_blt I hg hm boot_enumerate (PyProof.Rows.callWith_type1 (thn (ha pos pins s σ H _ I h) fun us s1 ⟨vs, H1, I1, r1, q1⟩ => ?_) hs rfl))
  obtain ⟨a, xs, rfl, hL, q⟩ := q1
  obtain ⟨u, rfl, ru⟩ := vals1 r1
  cases ru
  obtain ⟨z, its, n, r, hl, e⟩ := I1.lstM hL
  refine call_enumerate_1 e fun h' en li sz hk => ?_
  have I2 : Inv X pins σ H1 { s1 with heap := h' } := I1.kept (t' := s1.toks) hk
  refine wpAny_pyIter_enum en ⟨s1.heap.objs.size + 1, [s1.heap.objs.size + 1, s1.heap.objs.size], _, Ite X.K a, H1, rfl, I2, turn_enum a _ _ (Nat.succ_ne_self _), ⟨⟨_, en⟩, li⟩, fun b hb => ?_, q⟩
  have hb' : s1.heap.objs.size ≤ b := by
    rcases List.mem_cons.mp hb with rfl | hb
    · exact Nat.le_succ _
    · have q : b = s1.heap.objs.size := by simpa using hb
      rw [q]
      exact Nat.le_refl _
  have z := I1.fpOk (H' := H1) hb' (I1.hok.fresh hb')
  exact z
end
end L2

namespace L2
open PySem PySem.Spec PyProof.Rows
section
open PySem.SeqAt
open PySem.AutoSeq1 (wpAny_loadPart')
open PySem.MeetsSeq PySem.MeetsSeq2 PySem.MeetsSeq3
/-! ### xs < ys of lists of whole numbers -/
end
section
variable {X : Cx}
end
end L2

namespace L2
open PySem PySem.Spec PyProof.Rows
/-! ### [.. for k in range(n)], where of each item only something is known -/
theorem comp_some {te : TE} {σ0 : St} {H1 : Hp} {Q : V → Hp → Prop} {lo : Int} {n : Nat} (G : Nat → V → Hp → Prop) (hn : n ≤ sizeLine) (hG : ∀ i v H H', G i v H → Same H H' → G i v H') (hU : ∀ i v H l xs ys, G i v H → H l = some (.lst xs) → G i v (upd H l (.lst ys)))
    (hE : ∀ i H, i < n → Same H1 H → ∀ R : V → Hp → Prop, (∀ v H', Same H H' → G i v H' → R v H') → te (σ0.set 0 (some (.int (lo + (i : Nat))))) H R)
    (hQ : ∀ l H vs, Same H1 H → H1 l = none → H l = some (.lst vs) → vs.length = n → (∀ i v, vs[i]? = some v → G i v H) → Q (.ref l) H) : tCompR (gName 0) tYes te σ0 (Itr lo n) H1 Q := by
  intro l hl
  refine ⟨fun i m σ H => m = n - i ∧ i ≤ n ∧ Same H1 H ∧ (∃ vs, H l = some (.lst vs) ∧ vs.length = i ∧ ∀ j v, vs[j]? = some v → G j v H) ∧ ∀ o, σ.set 0 o = σ0.set 0 o, ⟨n, by simp, Nat.zero_le _, same_upd hl _, ⟨[], upd_same, rfl, fun j v z => by simp at z⟩, fun _ => rfl⟩, ?_⟩
  rintro i m σ H ⟨rfl, hi, sm, ⟨vs, hL, hvl, hvs⟩, hσ⟩
  by_cases lt : i < n
  · refine .inr ⟨lt, fun x H' y => ?_⟩
    obtain ⟨rfl, rfl⟩ := y
    unfold gName tYes
    dsimp only
    rw [hσ, if_pos rfl]
    refine hE i H' lt sm _ fun v H3 s3 hv => ⟨vs, s3 _ _ hL, by omega, n - (i + 1), by omega, rfl, lt, same_upd2 hl (sm.trans s3) _, ⟨vs ++ [v], upd_same, by rw [List.length_append, hvl]; rfl, fun j u hj => ?_⟩, fun o => List.set_set _⟩
    by_cases c : j < vs.length
    · rw [List.getElem?_append_left c] at hj
      exact hU j u H3 l _ _ (hG j u H' H3 (hvs j u hj) s3) (s3 _ _ hL)
    · rw [List.getElem?_append_right (by omega)] at hj
      have e : j - vs.length = 0 := by
        cases q : j - vs.length with
        | zero => rfl
        | succ k => rw [q] at hj; simp at hj
      rw [e] at hj
      have e2 : v = u := by simpa using hj
      subst e2
      have e3 : j = i := by omega
      subst e3
      exact hU j v H3 l _ _ hv (s3 _ _ hL)
  · have e : i = n := by omega
    subst e
    exact .inl ⟨Nat.le_refl _, hQ l H vs sm hl hL hvl hvs⟩
end L2

namespace L2
open PySem PySem.Spec PyProof.Rows
section
variable {X : Cx} {pins : List (Addr × Obj)} {σ : St} {H : Hp} {s : Shared}
end
/-! ### for x, y in zip(xs, ys) -/
def Itz (K : PySem.W.Frag) (a b : Addr) : It :=
  ⟨fun i H => ∃ xs ys x y, SqL K H a xs ∧ SqL K H b ys ∧ xs[i]? = some x ∧ ys[i]? = some y, fun i H v H' => ∃ p x y, v = .ref p ∧ H p = none ∧ H' = upd H p (.tup [x, y]) ∧ (∀ xs, SqL K H a xs → xs[i]? = some x) ∧ ∀ ys, SqL K H b ys → ys[i]? = some y,
    fun i H => ∃ xs ys, SqL K H a xs ∧ SqL K H b ys ∧ (xs.length ≤ i ∨ ys.length ≤ i)⟩
section
variable {X : Cx}
def iZip (K : PySem.W.Frag) (ta : TA) : TI := fun σ H R => ta σ H fun vs H1 => ∃ a b xs ys, vs = [.ref a, .ref b] ∧ SqL K H1 a xs ∧ SqL K H1 b ys ∧ R (Itz K a b) H1
/-! ### max(xs), xs.index(k) -/
end
/-! ### [.. for k in range(n) if p(k)], where of each item only something is known -/
end L2

namespace L2
open PySem PySem.Spec PyProof.Rows
/-! ### xs != [] -/
end L2

namespace L2
open PySem PySem.Spec PyProof.Rows
/-! ### t > u of tuples of whole numbers -/
theorem rcGt_int (A : Around) (s : Shared) (a : Int) (t : Tok) (c : Int) (u : Tok) (prog : Program) (w : World) (E : Value → Shared → Prop) (Q : Value → Shared → Prop) (h : Q (.bool (decide (c < a))) s) :
    wpAny (model prog w) A (richCompare .Gt (.int a t) (.int c u)) Q E s :=
  (PyProof.Rows.gt_int h : wpAny (model prog w) A (compareOp .Gt (.int a t) (.int c u)) Q E s)
section
open PySem.SeqAt
open PySem.AutoSeq1 (wpAny_loadPart')
open PySem.MeetsSeq PySem.MeetsSeq2 PySem.MeetsSeq3
theorem tuple_gt_ints (l b : Addr) (items items2 : Array Value) (n n2 : Nat) (dd dd2 : Option Addr) (sl sl2 : Array (Option Value)) (ns ms : List Int) (hi : IntsAre items.toList ns) (hj : IntsAre items2.toList ms) :
    Meets (Builtin.«tuple.__gt__» ⟨[.ref l, .ref b], []⟩)
      (fun _ R s => s.heap.get? l = some { cls := .type "tuple", dict := dd, data := .seq items n, slots := sl } ∧ s.heap.get? b = some { cls := .type "tuple", dict := dd2, data := .seq items2 n2, slots := sl2 } ∧
        R (.ok (.ret (.bool (HT.lexLt ms ns)))) s) :=
  .of_wp fun prog w A R s h => by
    obtain ⟨hp, g, d, tk, os⟩ := s; obtain ⟨hl, hb, h⟩ := h
    have f2 := AutoSeq1.sub_tuple_tuple
    have z1 : items.size = ns.length := by rw [← hi.length]; simp
    have z2 : items2.size = ms.length := by rw [← hj.length]; simp
    wp_walk using wpAny_loadPart' hl, wpAny_loadPart' hb, wpAny_forIn_list _ (fun rest b s' => b.1 = none ∧ s' = ⟨hp, g, d, tk, os⟩ ∧ ∃ (vs ws : List Value) (ns' ms' : List Int), rest = vs.zip ws ∧
      IntsAre vs ns' ∧ IntsAre ws ms' ∧ ns'.length + items2.size = ms'.length + items.size ∧ R (.ok (.ret (.bool (HT.lexLt ms' ns')))) ⟨hp, g, d, tk, os⟩) _
    case turn =>
      rintro ⟨y, x⟩ rest b s' ⟨hb', rfl, vs, ws, ns', ms', hz, hvi, hwi, hlen, hR⟩
      cases hvi with
      | nil => rw [List.zip_nil_left] at hz; cases hz
      | cons a t hvi' =>
        cases hwi with
        | nil => rw [List.zip_nil_right] at hz; cases hz
        | cons c u hwi' =>
          rw [List.zip_cons_cons] at hz
          injection hz with hyx hrest
          injection hyx with hy hx
          subst hy hx
          rw [HT.lexLt_cons] at hR
          simp only [List.length_cons] at hlen
          obtain ⟨e, he, hiff⟩ := HT.eqAt_int A.in1 ⟨hp, g, d, tk, os⟩ a t c u
          refine wpAny_bind (he prog w _ _ ?_)
          cases e with
          | true =>
            rw [if_pos (hiff.mp rfl).symm] at hR
            wp_walk
            exact ⟨rfl, rfl, _, _, _, _, hrest, hvi', hwi', by omega, hR⟩
          | false =>
            rw [if_neg (fun q => absurd (hiff.mpr q.symm) Bool.false_ne_true)] at hR
            have hri := rcGt_int A.in1 ⟨hp, g, d, tk, os⟩ a t c u prog w
            wp_walk using hri
            exact ⟨_, rfl, by simpa using hR⟩
    case fin =>
      rintro ⟨b1, b2⟩ s' ⟨hb', rfl, vs, ws, ns', ms', hz, hvi, hwi, hlen, hR⟩
      simp only at hb'
      subst hb'
      have hv : HT.lexLt ms' ns' = decide (items2.size < items.size) := by
        cases hvi with
        | nil =>
          cases hwi with
          | nil =>
            simp only [List.length_nil] at hlen
            rw [HT.lexLt_nil_nil]
            exact (decide_eq_false (by omega)).symm
          | cons c u hw =>
            simp only [List.length_nil, List.length_cons] at hlen
            rw [HT.lexLt_cons_nil]
            exact (decide_eq_false (by omega)).symm
        | cons a t hv =>
          cases hwi with
          | nil =>
            simp only [List.length_nil, List.length_cons] at hlen
            rw [HT.lexLt_nil_cons]
            exact (decide_eq_true (by omega)).symm
          | cons c u hw =>
            rw [List.zip_cons_cons] at hz
            cases hz
      rw [hv] at hR
      wp_walk
      exact ⟨_, rfl, by simpa [Builtin.Tuple.tupleCompareSizes] using hR⟩
    case h =>
      exact ⟨rfl, rfl, items.toList, items2.toList, ns, ms, rfl, hi, hj, by omega, h⟩
end
section
variable {X : Cx}
theorem op_gtT (hu : X.A.units + 64 < cLine) : OpR X (compareOp .Gt) (fun x y H Q => ∃ (a b : Addr) (ns ms : List Int), x = .ref a ∧ y = .ref b ∧ SqT X.K H a (ns.map V.int) ∧ SqT X.K H b (ms.map V.int) ∧ Q (.bl (HT.lexLt ms ns)) H) := by
  intro pins s σ H x y v u Q I rx ry h
  obtain ⟨a, b, ns, ms, rfl, rfl, ha, hb, q⟩ := h
  cases rx
  cases ry
  obtain ⟨its, r1, p1, _⟩ := I.tuple ha
  obtain ⟨its2, r2, p2, _⟩ := I.tuple hb
  have i1 : IntsAre its.toArray.toList ns := intsAre_of r1
  have i2 : IntsAre its2.toArray.toList ms := intsAre_of r2
  obtain ⟨⟨cls, dd, data, sl⟩, ho, hc, n, hd⟩ := id p1
  obtain ⟨⟨cls2, dd2, data2, sl2⟩, ho2, hc2, n2, hd2⟩ := id p2
  simp only at hc hd hc2 hd2
  subst hc hd hc2 hd2
  exact richCompare_meets_room (op := .Gt) ⟨_, ho, rfl⟩ ⟨_, ho2, rfl⟩ PySem.F.slot_tuple_gt PySem.F.entry_tuple_gt (PySem.F.args_tuple_gt_2 _ _) (tuple_gt_ints a b its.toArray its2.toArray n n2 dd dd2 sl sl2 ns ms i1 i2)
    ⟨ho, ho2, (fun z => nomatch z), .bl (HT.lexLt ms ns), H, I, rfl, q⟩ (by omega)
/-! ### ==, != of lists and of tuples of flat items -/
def eqVs : List V → List V → Bool
  | [], [] => true
  | x :: xs, y :: ys => eqV x y && eqVs xs ys
  | _, _ => false
theorem eqVs_all : ∀ (xs ys : List V), ((List.range (min xs.length ys.length)).all (fun j => eqV (xs.getD j .non) (ys.getD j .non)) && xs.length == ys.length) = eqVs xs ys
  | [], [] => rfl
  | [], _ :: _ => rfl
  | _ :: _, [] => rfl
  | x :: xs, y :: ys => by
    have e : min (x :: xs).length (y :: ys).length = min xs.length ys.length + 1 := by simp only [List.length_cons]; omega
    rw [e, List.range_succ_eq_map, List.all_cons, List.all_map]
    show _ = (eqV x y && eqVs xs ys)
    rw [← eqVs_all xs ys, Bool.and_assoc]
    have e2 : ((x :: xs).length == (y :: ys).length) = (xs.length == ys.length) := by simp
    rw [e2]
    rfl
theorem flat_at {xs : List V} {us : List Value} (r : Vals xs us) (f : xs.all flatV = true) {j : Nat} (h : j < us.toArray.size) : RelV (xs.getD j .non) us.toArray[j] ∧ flatV (xs.getD j .non) = true := by
  have hj : j < us.length := by simpa using h
  have hx : j < xs.length := by rw [r.length]; exact hj
  obtain ⟨u, e, ru⟩ := r.get (List.getElem?_eq_getElem hx)
  rw [List.getElem?_eq_getElem hj] at e
  have g : xs.getD j .non = xs[j] := by rw [List.getD_eq_getElem?_getD, List.getElem?_eq_getElem hx]; rfl
  rw [g]
  have eu : us[j] = u := Option.some.inj e
  refine ⟨?_, List.all_eq_true.mp f _ (List.getElem_mem hx)⟩
  show RelV xs[j] us.toArray[j]
  rw [List.getElem_toArray, eu]
  exact ru
def rEqF (K : PySem.W.Frag) (tup neg : Bool) : R2 := fun x y H Q => ∃ (a b : Addr) (xs ys : List V), x = .ref a ∧ y = .ref b ∧ (if tup then SqT K H a xs ∧ SqT K H b ys else SqL K H a xs ∧ SqL K H b ys) ∧ xs.all flatV = true ∧ ys.all flatV = true ∧ Q (.bl (if neg then !eqVs xs ys else eqVs xs ys)) H
theorem eqVs_len : ∀ {xs ys : List V}, xs.length ≠ ys.length → eqVs xs ys = false
  | [], [], h => absurd rfl h
  | [], _ :: _, _ => rfl
  | _ :: _, [], _ => rfl
  | x :: xs, y :: ys, h => by
    show (eqV x y && eqVs xs ys) = false
    rw [eqVs_len (xs := xs) (ys := ys) (fun z => h (by simp [z])), Bool.and_false]
theorem op_eqFL (hu : X.A.units + 64 < cLine) : OpR X (compareOp .Eq) (rEqF X.K false false) := by
  intro pins s σ H x y v u Q I rx ry h
  obtain ⟨a, b, xs, ys, rfl, rfl, ⟨ha, hb⟩, fx, fy, q⟩ := h
  cases rx
  cases ry
  obtain ⟨its, r1, p1, _⟩ := I.list ha
  obtain ⟨its2, r2, p2, _⟩ := I.list hb
  by_cases e : xs.length = ys.length
  · refine SeqAt.RcAt.lists (e := fun j => eqV (xs.getD j .non) (ys.getD j .non)) p1.isList p2.isList (by simp [← r1.length, ← r2.length, e]) (by omega) (fun j h1 h2 => eqAt_V (flat_at r1 fx h1).1 (flat_at r2 fy h2).1 (flat_at r1 fx h1).2 (flat_at r2 fy h2).2) _ _ _ _ ⟨.bl _, H, I, rfl, ?_⟩
    have z := eqVs_all xs ys
    rw [e, Nat.min_self, beq_self_eq_true, Bool.and_true, ← e, r1.length] at z
    rw [List.size_toArray, z]
    exact q
  · refine SeqAt.RcAt.lists_lengths p1.isList p2.isList (by simp [← r1.length, ← r2.length, e]) (by omega) _ _ _ _ ⟨.bl false, H, I, rfl, ?_⟩
    have q' : Q (.bl (eqVs xs ys)) H := q
    rw [eqVs_len e] at q'
    exact q'
theorem op_neFL (hu : X.A.units + 64 < cLine) : OpR X (compareOp .NotEq) (rEqF X.K false true) := by
  intro pins s σ H x y v u Q I rx ry h
  obtain ⟨a, b, xs, ys, rfl, rfl, ⟨ha, hb⟩, fx, fy, q⟩ := h
  cases rx
  cases ry
  obtain ⟨its, r1, p1, _⟩ := I.list ha
  obtain ⟨its2, r2, p2, _⟩ := I.list hb
  by_cases e : xs.length = ys.length
  · refine SeqAt.RcNeAt.lists (e := fun j => eqV (xs.getD j .non) (ys.getD j .non)) p1.isList p2.isList (by simp [← r1.length, ← r2.length, e]) (by omega) (fun j h1 h2 => eqAt_V (flat_at r1 fx h1).1 (flat_at r2 fy h2).1 (flat_at r1 fx h1).2 (flat_at r2 fy h2).2) _ _ _ _ ⟨.bl _, H, I, rfl, ?_⟩
    have z := eqVs_all xs ys
    rw [e, Nat.min_self, beq_self_eq_true, Bool.and_true, ← e, r1.length] at z
    rw [List.size_toArray, z]
    exact q
  · refine SeqAt.RcNeAt.lists_lengths p1.isList p2.isList (by simp [← r1.length, ← r2.length, e]) (by omega) _ _ _ _ ⟨.bl true, H, I, rfl, ?_⟩
    have q' : Q (.bl (!eqVs xs ys)) H := q
    rw [eqVs_len e] at q'
    exact q'
/-! ### list.index of flat items -/
end
/-! ### [.. for x in ..], where of each item only something is known -/
theorem Same.seqT {K : PySem.W.Frag} {H H' : Hp} {a : Addr} {xs : List V} (e : Same H H') (h : SqT K H a xs) : SqT K H' a xs := by
  rcases h with (h | ⟨o, h⟩) | h
  · exact .inl (.inl (e _ _ h))
  · exact .inl (.inr ⟨o, e _ _ h⟩)
  · exact .inr h
end L2

namespace L2
open PySem PySem.Spec PyProof.Rows
/-! ### isinstance(e, (C1, C2, ..)) of a caught exception -/
theorem toC_all : ∀ {cs : List V} {us : List Value}, cs.all isC = true → Vals cs us → us = cs.map toC
  | _, _, _, .nil => rfl
  | c :: cs, u :: us, f, .cons r t => by
    rw [List.all_cons, Bool.and_eq_true] at f
    rw [List.map_cons, toC_eq f.1 r, toC_all f.2 t]
def rIsX (K : PySem.W.Frag) : List V → Hp → VK → Prop := fun xs H Q => ∃ a C c b, xs = [.ref a, c] ∧ isC c = true ∧ H a = some (excO a C) ∧ ExcF K C ∧ PySem.W.kitOne K (.ref C) (toC c) = some b ∧ Q (.bl b) H
def rIsXT (K : PySem.W.Frag) : List V → Hp → VK → Prop := fun xs H Q => ∃ a C p cs b, xs = [.ref a, .ref p] ∧ H p = some (.tup cs) ∧ cs.all isC = true ∧ H a = some (excO a C) ∧ ExcF K C ∧ PySem.W.kitAny K (.ref C) (cs.map toC) = some b ∧ Q (.bl b) H
/-! ### text.index(text), where it is found -/
theorem mt_sindex {X : Cx} : MtR X "str.index" (fun x xs H Q => ∃ i j k, x = .str i ∧ xs = [.str j] ∧ 0 ≤ Txt.find i j ∧ Txt.find i j = k ∧ Q (.int k) H) := by
  intro pins s σ H x xs v us Q I rx rv h
  obtain ⟨i, j, k, rfl, rfl, h0, hk, q⟩ := h
  obtain ⟨t, rfl⟩ := rx
  obtain ⟨u, rfl, ru⟩ := rv.one
  obtain ⟨t', rfl⟩ := ru
  unfold Txt.find at h0 hk
  cases ho : Builtin.Str.occurrences i j 0 i.length 1 with
  | nil =>
    rw [ho] at h0
    exact absurd h0 (by decide)
  | cons m rest =>
    rw [ho] at hk
    have hk' : ((m : Nat) : Int) = k := hk
    subst hk'
    exact SC.index ho ⟨.int _, H, I.tok _, ⟨_, rfl⟩, q⟩
end L2

namespace L2
open PySem PySem.Spec PyProof.Rows
/-! ### C() of a class without an __init__ of its own -/
structure Mk0 (K : PySem.W.Frag) (C : Addr) : Prop where
  makes : PySem.W.makesIn K C = true
  init : PySem.W.findIn K (.ref C) "__init__" = some (some (.builtin "object.__init__"))
  kp : PySem.W.keepIn K (.ref C) = true
def tMake0 (C : Addr) : TE := fun σ H Q => ∀ x dx, H x = none → H dx = none → dx ≠ x → Q (.ref x) (upd (upd H dx (.own x)) x (.ins C dx []))
section
variable {X : Cx} {CX : CXT} {k : Nat} {C : Addr} {E : XK} {x m : Str} {p pos apos : Pos} {e o : Expr} {es : List Expr} {ta : TE} {t : TA}
/-! ### o.m(..) of an instance of one of several classes -/
structure MethF (P : Program) (w : World) (K : PySem.W.Frag) (mg : Str → Option Value) (base : Heap) (CX : CXT) (k : Nat) (ι : Type) (m : Str) (ps : List Str) (sp : ι → Sp) (cs : ι → Addr) (f : ι → Addr) (fd : ι → FuncData) : Prop where
  c : ∀ i, Cls K (cs i)
  hm : ∀ i, Meth K (cs i) m (f i)
  F : ∀ i, FnOk P w K mg base CX k (f i) (fd i) ps (sp i)
  hb : ∀ i, Binds K (fd i) ps []
def tMethF {ι : Type} (m : Str) (sp : ι → Sp) (cs : ι → Addr) (E : XK) (ta : TE) (t : TA) : TE := fun σ H Q => ta σ H fun x H1 => ∃ i a dx fs, x = .ref a ∧ H1 a = some (.ins (cs i) dx fs) ∧ fs.lookup m = none ∧ t σ H1 fun vs H2 => sp i (x :: vs) H2 Q E
end
/-! ### isinstance(x, C), C an own class -/
def rIsO (K : PySem.W.Frag) : List V → Hp → VK → Prop := fun xs H Q => ∃ x c t b, xs = [x, c] ∧ isC c = true ∧ TyOf K H x t ∧ PySem.W.kitOne K t (toC c) = some b ∧ Q (.bl b) H
end L2

namespace My
open PySem L2
/-! ### small helpers of the laws -/
theorem pickA {α : Type} (xs : List α) (m : Int) (hm : m = (xs.length : Int)) (h0 : 0 < xs.length) (z : Int) : ∃ v, v ∈ xs ∧ atI xs (z % m) = some v := by
  subst hm
  have a0 : 0 ≤ z % (xs.length : Int) := Int.emod_nonneg _ (by omega)
  have a1 : z % (xs.length : Int) < xs.length := Int.emod_lt_of_pos _ (by omega)
  obtain ⟨k, hk⟩ := Int.eq_ofNat_of_zero_le a0
  rw [hk] at a1 ⊢
  have hk' : k < xs.length := by omega
  exact ⟨xs[k], List.getElem_mem hk', atI_nat (List.getElem?_eq_getElem hk')⟩
theorem fits3 (n : Nat) (h : n ≤ 1000) : n ≤ sizeLine := by rw [sizeLine_eq]; omega
theorem item_at {ns : List Int} {k : Int} (h : 0 < ns.length) : ∃ v : Int, atI (ns.map V.int) (k % (((ns.map V.int).length : Nat) : Int)) = some (.int v) := by
  obtain ⟨v, hv, e⟩ := pickA (ns.map V.int) _ rfl (by rw [List.length_map]; exact h) k
  obtain ⟨n, _, rfl⟩ := List.mem_map.mp hv
  exact ⟨n, e⟩
theorem list2 {α : Type} {l : List α} (h : l.length = 2) : ∃ a b, l = [a, b] := match l, h with | [a, b], _ => ⟨a, b, rfl⟩
section
variable {P : Program} {w : World} {K : PySem.W.Frag} {mg : Str → Option Value} {base : Heap}
structure Lib (P : Program) (w : World) (K : PySem.W.Frag) (mg : Str → Option Value) (base : Heap) (k : Nat) (x : Str) (ps : List Str) (sp : Sp) (f : Addr) (fd : FuncData) : Prop where
  ok : FnOk P w K mg base CX0 k f fd ps sp
  bd : Binds K fd ps []
  kp : PySem.W.keepIn K (.ref f) = true
  mg : mg x = some (.ref f)
structure LibX (P : Program) (w : World) (K : PySem.W.Frag) (mg : Str → Option Value) (base : Heap) (k : Nat) (x : Str) (ps : List Str) (sp : Sp) (f : Addr) (fd : FuncData) : Prop where
  ok : FnOk P w K mg base (CX1 P w) k f fd ps sp
  bd : Binds K fd ps []
  kp : PySem.W.keepIn K (.ref f) = true
  mg : mg x = some (.ref f)
end
end My

namespace My
open PySem L2
/-! ### the 43 calls -/
abbrev sStr : Str := "abcdn"
def cpL (r : Nat) : Nat := if r = 4 then 110 else 97 + r
theorem str_at : ∀ n < 5, atI sStr.cps.toList ((n : Nat) : Int) = some (cpL n) := by decide +kernel
theorem str_mem (c : Nat) : c ∈ sStr.cps.toList ↔ (97 ≤ c ∧ c ≤ 100) ∨ c = 110 := by
  have e : sStr.cps.toList = [97, 98, 99, 100, 110] := by decide +kernel
  rw [e]
  simp only [List.mem_cons, List.not_mem_nil, or_false]
  omega
theorem find_str (c : Nat) : Txt.find sStr ⟨#[c]⟩ = if 97 ≤ c ∧ c ≤ 100 then ((c - 97 : Nat) : Int) else if c = 110 then 4 else -1 := by
  by_cases h : 97 ≤ c ∧ c ≤ 100
  · rw [if_pos h]
    have h4 : c = 97 ∨ c = 98 ∨ c = 99 ∨ c = 100 := by omega
    rcases h4 with rfl | rfl | rfl | rfl <;> decide +kernel
  · rw [if_neg h]
    by_cases h2 : c = 110
    · subst h2
      decide +kernel
    · rw [if_neg h2]
      have e := PyProof.Rows.empty_one sStr c
      rw [decide_eq_false (fun z => by rcases (str_mem c).mp z with z | z; exact h z; exact h2 z)] at e
      unfold Txt.find
      cases q : Builtin.Str.occurrences sStr ⟨#[c]⟩ 0 sStr.length 1 with
      | nil => rfl
      | cons a b => rw [q] at e; cases e
theorem find_cp : ∀ r < 5, Txt.find sStr ⟨#[cpL r]⟩ = ((r : Nat) : Int) := by decide +kernel
theorem find_fg : ∀ r < 8, Txt.find sFig ⟨#[49 + r]⟩ = ((r : Nat) : Int) := by decide +kernel
def callT (m : Nat) : Str := ⟨#[49 + m / 5, cpL (m % 5)]⟩
def W3 : List Str := ["pass", "double", "again"]
def all43 : List Str := W3 ++ (List.range 40).map callT
theorem W3_len : ∀ t ∈ W3, t.length ≠ 2 := by decide +kernel
theorem callT_len (m : Nat) : (callT m).length = 2 := rfl
theorem call_notW {m : Nat} : callT m ∉ W3 := fun h => W3_len _ h rfl
theorem all_cases {t : Str} (h : t ∈ all43) : t ∈ W3 ∨ ∃ m, m < 40 ∧ t = callT m := by
  rcases List.mem_append.mp h with h | h
  · exact .inl h
  · obtain ⟨m, hm, rfl⟩ := List.mem_map.mp h
    exact .inr ⟨m, List.mem_range.mp hm, rfl⟩
theorem all_W {t : Str} (h : t ∈ W3) : t ∈ all43 := List.mem_append_left _ h
theorem all_call {m : Nat} (h : m < 40) : callT m ∈ all43 := List.mem_append_right _ (List.mem_map.mpr ⟨m, List.mem_range.mpr h, rfl⟩)
theorem all_short {t : Str} (h : t ∈ all43) : t.length ≤ 6 := by
  rcases all_cases h with h | ⟨m, _, rfl⟩
  · revert t
    decide +kernel
  · exact (show 2 ≤ 6 by decide)
theorem inV_str {t : Str} : ∀ {ys : List Str}, inV (.str t) (vS ys) = decide (t ∈ ys)
  | [] => by
    rw [decide_eq_false (List.not_mem_nil)]
    rfl
  | y :: ys => by
    have e : inV (.str t) (vS (y :: ys)) = ((y == t) || inV (.str t) (vS ys)) := rfl
    rw [e, inV_str (ys := ys)]
    by_cases c : t = y
    · subst c
      simp
    · have c2 : ¬ y = t := fun z => c z.symm
      have b : (y == t) = false := beq_eq_false_iff_ne.mpr c2
      rw [b, Bool.false_or]
      by_cases d : t ∈ ys
      · rw [decide_eq_true d, decide_eq_true (List.mem_cons_of_mem _ d)]
      · rw [decide_eq_false d, decide_eq_false fun z => by
          rcases List.mem_cons.mp z with z | z
          · exact c z
          · exact d z]
theorem vS_flat : ∀ (ys : List Str), (vS ys).all flatV = true
  | [] => rfl
  | _ :: ys => by
    show (true && (vS ys).all flatV) = true
    rw [vS_flat ys]
    rfl
theorem not_call {a b : Nat} (h : ¬ (49 ≤ a ∧ a ≤ 56 ∧ ((97 ≤ b ∧ b ≤ 100) ∨ b = 110))) : (⟨#[a, b]⟩ : Str) ∉ all43 := fun z => by
  rcases all_cases z with z | ⟨m, hm, e⟩
  · exact W3_len _ z rfl
  · unfold callT at e
    injection e with e
    have e1 : [a, b] = [49 + m / 5, cpL (m % 5)] := congrArg Array.toList e
    injection e1 with e1 e2
    injection e2 with e2 _
    unfold cpL at e2
    split at e2 <;> omega
theorem is_call {a b : Nat} {r : Nat} (h : 49 ≤ a ∧ a ≤ 56) (hb : b = cpL r) (hr : r < 5) : (⟨#[a, b]⟩ : Str) = callT (5 * (a - 49) + r) := by
  unfold callT
  have e1 : 49 + (5 * (a - 49) + r) / 5 = a := by omega
  have e2 : (5 * (a - 49) + r) % 5 = r := by omega
  rw [e1, e2, hb]
theorem callT_inj {m n : Nat} (hm : m < 40) (hn : n < 40) (h : callT m = callT n) : m = n := by
  unfold callT at h
  injection h with h
  have e1 : [49 + m / 5, cpL (m % 5)] = [49 + n / 5, cpL (n % 5)] := congrArg Array.toList h
  injection e1 with e1 e2
  injection e2 with e2 _
  unfold cpL at e2
  split at e2 <;> split at e2 <;> omega
end My

namespace L2
open PySem PySem.Spec PyProof.Rows
section
variable {prog : Program} {w : World} {A : Around} {E : Value → Shared → Prop} {s : Shared}
/-! ### a, b, .. = a list -/
end
section
variable {X : Cx} {e st : Expr} {te : TE} {lo : Option Expr} {tl ts : TO} {pos p2 : Pos}
def gLst (K : PySem.W.Frag) (n : Nat) (t : TGs) : TG := fun v σ H Q => ∃ a xs, v = .ref a ∧ SqL K H a xs ∧ xs.length = n ∧ t xs σ H Q
/-! ### xs[lo::2] of a list of ten items -/
def tStep (K : PySem.W.Frag) (te : TE) (tl ts : TO) : TE := fun σ H Q => te σ H fun x H1 => tl σ H1 fun o H2 => ts σ H2 fun o2 H3 => o2 = some 2 ∧ ∃ a x0 x1 x2 x3 x4 x5 x6 x7 x8 x9, x = .ref a ∧ SqL K H3 a [x0, x1, x2, x3, x4, x5, x6, x7, x8, x9] ∧
  ((o = some 0 ∧ ∀ p, H3 p = none → Q (.ref p) (upd H3 p (.lst [x0, x2, x4, x6, x8]))) ∨ (o = some 1 ∧ ∀ p, H3 p = none → Q (.ref p) (upd H3 p (.lst [x1, x3, x5, x7, x9]))))
/-! ### int(text), list(text), sorted(text) -/
def chars (t : Str) : List Str := t.cps.toList.map fun c => ⟨#[c]⟩
end
/-! ### text.find(..) within a comprehension's block -/
def rFind : V → List V → Hp → VK → Prop := fun x xs H Q => ∃ i j, x = .str i ∧ xs = [.str j] ∧ Q (.int (Txt.find i j)) H
/-! ### a def with a default -/
structure FunD (K : PySem.W.Frag) (x qual : Str) (st : Stmt) (f : Addr) (fd : FuncData) : Prop where
  ex : ∃ (oc : Value) (od : Option Addr) (dV kV doc pm : Value) (an : Option Addr) (cdv ct : Value) (osl : Array (Option Value)),
    fd = PySem.W.fnOf x qual (defArgs st) (defBody st) (defScope st) dV kV doc pm an cdv ct ∧ K.lookup f = some ⟨oc, od, .func fd, osl⟩ ∧ PySem.W.codeIn K cdv qual = true
  kp : PySem.W.keepIn K (.ref f) = true
theorem FunD.ok {P : Program} {w : World} {K : PySem.W.Frag} {mg : Str → Option Value} {base : Heap} {x qual : Str} {st : Stmt} {f : Addr} {fd : FuncData} {N ps : List Str} {k : Nat} {sp : Sp} (F : FunD K x qual st f fd) (S : FnScope N ps (defScope st)) (len : ∀ vs H Q E, sp vs H Q E → vs.length = ps.length)
    (hbody : ∀ (cdv : Value) (A : Around) (outer : List Env) (s : Shared) (H : Hp) (vs : List V) (Q : VK) (E : XK), Room k (A.deeper (envOfC qual (defScope st) s.heap.objs.size f cdv)) → sp vs H Q E →
      ∃ t, PSs (cxOf CX0 P w K mg base N qual (defScope st) f cdv A outer s H E).nox (defBody st) t ∧ t { nx := fun _ H' => Q .non H', rt := Q } (start N vs) H) : FnOk P w K mg base CX0 (k + 1) f fd ps sp := by
  obtain ⟨oc, od, dV, kV, doc, pm, an, cdv, ct, osl, rfl, lk, hcd⟩ := F.ex
  refine fn_of lk hcd S len fun A outer s H vs Q E hr hsp => ?_
  obtain ⟨t, h, q⟩ := hbody cdv A outer s H vs Q E hr hsp
  exact ⟨t, h.nox, q⟩
theorem funD_mk {K : PySem.W.Frag} {x qual : Str} {st : Stmt} {f : Addr} {oc : Value} {od an : Option Addr} {osl : Array (Option Value)} {dV kV doc pm cdv ct : Value} (l : K.lookup f = some ⟨oc, od, .func (PySem.W.fnOf x qual (defArgs st) (defBody st) (defScope st) dV kV doc pm an cdv ct), osl⟩)
    (c : PySem.W.codeIn K cdv qual = true) (k : PySem.W.keepIn K (.ref f) = true) : FunD K x qual st f (PySem.W.fnOf x qual (defArgs st) (defBody st) (defScope st) dV kV doc pm an cdv ct) := ⟨⟨oc, od, dV, kV, doc, pm, an, cdv, ct, osl, rfl, l, c⟩, k⟩
end L2

namespace L2
open PySem PySem.Spec PyProof.Rows
/-! ### x is True, x is False, of a truth -/
end L2

namespace L2
open PySem PySem.Spec PyProof.Rows
open AutoSeq1 (wpAny_loadPart')
/-! ### for i, x in enumerate(t), t a tuple -/
section
variable {prog : Program} {w : World} {A : Around} {E : Value → Shared → Prop} {s : Shared} {it t : Addr} {i : Nat} {items : Array Value}
end
def IteT (K : PySem.W.Frag) (a : Addr) : It :=
  ⟨fun i H => ∃ xs x, SqT K H a xs ∧ xs[i]? = some x, fun i H v H' => ∃ p x, v = .ref p ∧ H p = none ∧ H' = upd H p (.tup [.int (i : Nat), x]) ∧ ∀ xs, SqT K H a xs → xs[i]? = some x, fun i H => ∃ xs, SqT K H a xs ∧ xs.length ≤ i⟩
section
variable {X : Cx}
def iEnumT (K : PySem.W.Frag) (ta : TA) : TI := fun σ H R => ta σ H fun vs H1 => ∃ a xs, vs = [.ref a] ∧ SqT K H1 a xs ∧ R (IteT K a) H1
end
end L2

namespace L2
open PySem PySem.Spec PyProof.Rows
end L2

namespace L2
open PySem PySem.Spec PyProof.Rows

/-! ### lists of pairs as tables -/
section
variable {κ : Type} [DecidableEq κ]
def valV (kvs : List (κ × V)) (k : κ) : Option V := (kvs.find? fun kv => decide (kv.1 = k)).map (·.2)
/-- in its place, or at the end -/
def putK (kvs : List (κ × V)) (k : κ) (v : V) : List (κ × V) :=
  if (kvs.any fun kv => decide (kv.1 = k)) = true then kvs.map (fun kv => if kv.1 = k then (kv.1, v) else kv) else kvs ++ [(k, v)]
def dropK (kvs : List (κ × V)) (k : κ) : List (κ × V) := kvs.filter fun kv => decide (kv.1 ≠ k)

end


/-! ### a tracked dict, its keys ints and texts or tuples of these -/
/-- raw entries of a dict with tuple keys -/
abbrev KT (H : Hp) : List (List Key × V) → List (List Key × Addr × Value) → Prop := Paired fun p q => p.1 = q.1 ∧ H q.2.1 = some (.tup (p.1.map kV)) ∧ RelV p.2 q.2.2
section
variable {P : Program} {w : World} {H : Hp} {h : Heap} {a : Addr}
end

/-- what the dict at a holds at the key y -/
def DGet (H : Hp) (a : Addr) (y : V) (r : Option V) : Prop :=
  (∃ kvs k, Rd H a (.dK kvs) ∧ y = kV k ∧ r = valV kvs k) ∨ ∃ kvs k b, Rd H a (.dT kvs) ∧ y = .ref b ∧ H b = some (.tup (k.map kV)) ∧ r = valV kvs k
/-- the heap behind a[y] = v -/
def DPut (H : Hp) (a : Addr) (y v : V) (H' : Hp) : Prop :=
  (∃ kvs k, H a = some (.dK kvs) ∧ y = kV k ∧ kvs.length < sizeLine ∧ H' = upd H a (.dK (putK kvs k v))) ∨
  ∃ kvs k b, H a = some (.dT kvs) ∧ y = .ref b ∧ H b = some (.tup (k.map kV)) ∧ kvs.length < sizeLine ∧ H' = upd H a (.dT (putK kvs k v))
section
variable {X : Cx} {pins : List (Addr × Obj)} {σ : St} {H : Hp} {s : Shared} {a : Addr} {y v : V} {u r : Value} {o : Option V} {A : Around} {E : Value → Shared → Prop}

end

section
variable {X : Cx} {pins : List (Addr × Obj)} {σ : St} {H : Hp} {s : Shared} {a : Addr} {kvs : List (Key × V)} {k : Key} {u : Value} {A : Around} {E : Value → Shared → Prop}
end


/-! ### readings and rules -/
/-- the element of a subscription, not a slice -/
def NoSl (i : Expr) : Prop := ∀ ov iv, subscripted i false ov iv = operate [ov, iv] (getItem ov iv)
/-- d[y] -/
def tDGet (td ty : TE) : TE := fun σ H Q => td σ H fun x H1 => ty σ H1 fun y H2 => ∃ a v, x = .ref a ∧ DGet H2 a y (some v) ∧ Q v H2
/-- y in d, y not in d -/
def tDIn (ty td : TE) : TE := fun σ H Q => ty σ H fun y H1 => td σ H1 fun x H2 => ∃ a o, x = .ref a ∧ DGet H2 a y o ∧ Q (.bl o.isSome) H2
def tDNotIn (ty td : TE) : TE := fun σ H Q => ty σ H fun y H1 => td σ H1 fun x H2 => ∃ a o, x = .ref a ∧ DGet H2 a y o ∧ Q (.bl (!o.isSome)) H2
/-- d[y] = v -/
def sDPut (td ty tv : TE) : TS := fun D σ H => tv σ H fun v H1 => td σ H1 fun x H2 => ty σ H2 fun y H3 => ∃ a H4, x = .ref a ∧ DPut H3 a y v H4 ∧ D.nx σ H4
/-- d[y] op= v -/
def sDAug (td ty tv : TE) (rd : V → V → Hp → VK → Prop) : TS := fun D σ H => td σ H fun x H1 => ty σ H1 fun y H2 => ∃ a v, x = .ref a ∧ DGet H2 a y (some v) ∧
  tv σ H2 fun y2 H3 => rd v y2 H3 fun z H4 => ∃ H5, DPut H4 a y z H5 ∧ D.nx σ H5
/-- del d[y] -/
def sDDel (td ty : TE) : TS := fun D σ H => td σ H fun x H1 => ty σ H1 fun y H2 => ∃ a kvs k, x = .ref a ∧ H2 a = some (.dK kvs) ∧ y = kV k ∧ (valV kvs k).isSome = true ∧ D.nx σ (upd H2 a (.dK (dropK kvs k)))

section
variable {X : Cx} {o i e value : Expr} {pos pos' tpos : Pos} {td ty tv : TE}
end


/-! ### displays -/
/-- {}, to be a dict of the kind that is wanted -/
def tDNewK : TE := fun _ H Q => ∀ p, H p = none → Q (.ref p) (upd H p (.dK []))
def tDNewT : TE := fun _ H Q => ∀ p, H p = none → Q (.ref p) (upd H p (.dT []))
section
variable {X : Cx} {pos : Pos}
end

/-- the pairs of a display, from the left -/
def tPairs : List (TE × TE) → St → Hp → (List (V × V) → Hp → Prop) → Prop
  | [], _, H, Q => Q [] H
  | (tk, tv) :: r, σ, H, Q => tk σ H fun x H1 => tv σ H1 fun y H2 => tPairs r σ H2 fun ps H3 => Q ((x, y) :: ps) H3
abbrev VV : List (V × V) → List (Value × Value) → Prop := Paired fun p q => RelV p.1 q.1 ∧ RelV p.2 q.2
def PPs (X : Cx) (pos : Pos) (keys : List (Option Expr)) (values : List Expr) (trs : List (TE × TE)) : Prop :=
  ∀ (pins : List (Addr × Obj)) (s : Shared) (σ : St) (H : Hp) (Q : List (V × V) → Hp → Prop), Inv X pins σ H s → tPairs trs σ H Q →
    wpAny (model X.prog X.w) X.A (evalPairs (pairTrees keys values X.env pos)) (fun vs s' => ∃ ps H', Inv X pins σ H' s' ∧ VV ps vs ∧ Q ps H') X.xe s
def mergeK (kvs more : List (Key × V)) : List (Key × V) := more.foldl (fun acc kv => putK acc kv.1 kv.2) kvs
/-- {k: v, ..} with keys ints and texts; the new dict stands empty while the pairs are made -/
def tDisp (trs : List (TE × TE)) : TE := fun σ H Q => ∀ p, H p = none → tPairs trs σ (upd H p (.dK [])) fun ps H2 => H2 p = some (.dK []) ∧ ∃ kvs : List (Key × V), ps = kvs.map (fun kv => (kV kv.1, kv.2)) ∧ kvs.length ≤ 15 ∧ Q (.ref p) (upd H2 p (.dK (mergeK [] kvs)))
/-! ### methods -/
/-- a method call o.m(e) of a built-in, with one argument: what must be seen of the text -/
structure M1 (X : Cx) (o : Expr) (m : Str) (apos : Pos) (e : Expr) (cpos : Pos) : Prop where
  base : attributeBase o m X.env (eval o X.env) = eval o X.env
  few : ((backTo cpos (starEach [e] X.env)).all (fun x => !x.1) && (backToKw cpos (keywordEach [] X.env)).all (fun x => x.1.isSome)
    && decide (([e] : List Expr).length + ([] : List Keyword).length + (if ([] : List Keyword).isEmpty then 0 else 1) < 30)) = true
  line : (apos.endLine == cpos.line) = true
  trees : backTo cpos (starEach [e] X.env) = [(false, eval e X.env)]
structure M2 (X : Cx) (o : Expr) (m : Str) (apos : Pos) (e f : Expr) (cpos : Pos) : Prop where
  base : attributeBase o m X.env (eval o X.env) = eval o X.env
  few : ((backTo cpos (starEach [e, f] X.env)).all (fun x => !x.1) && (backToKw cpos (keywordEach [] X.env)).all (fun x => x.1.isSome)
    && decide (([e, f] : List Expr).length + ([] : List Keyword).length + (if ([] : List Keyword).isEmpty then 0 else 1) < 30)) = true
  line : (apos.endLine == cpos.line) = true
  trees : backTo cpos (starEach [e, f] X.env) = [(false, eval e X.env), (false, eval f X.env)]

/-- a is a dict, whatever its keys -/
def IsD (H : Hp) (a : Addr) : Prop := (∃ kvs, Rd H a (.dK kvs)) ∨ ∃ kvs, Rd H a (.dT kvs)
section
variable {X : Cx} {pins : List (Addr × Obj)} {σ : St} {H : Hp} {s : Shared} {a : Addr} {y d : V} {u r : Value} {o : Option V} {A : Around} {E : Value → Shared → Prop}
end

def tDGet1 (td ty : TE) : TE := fun σ H Q => td σ H fun x H1 => ∃ a, x = .ref a ∧ IsD H1 a ∧ ty σ H1 fun y H2 => ∃ o, DGet H2 a y o ∧ Q (o.getD .non) H2
def tDGet2 (td ty tx : TE) : TE := fun σ H Q => td σ H fun x H1 => ∃ a, x = .ref a ∧ IsD H1 a ∧ ty σ H1 fun y H2 => tx σ H2 fun z H3 => ∃ o, DGet H3 a y o ∧ Q (o.getD z) H3
/-- d.pop(k): there; d.pop(k, x): there or not -/
def tDPop1 (td ty : TE) : TE := fun σ H Q => td σ H fun x H1 => ∃ a, x = .ref a ∧ IsD H1 a ∧ ty σ H1 fun y H2 => ∃ kvs k v, H2 a = some (.dK kvs) ∧ y = kV k ∧ valV kvs k = some v ∧ Q v (upd H2 a (.dK (dropK kvs k)))
def tDPop2 (td ty tx : TE) : TE := fun σ H Q => td σ H fun x H1 => ∃ a, x = .ref a ∧ IsD H1 a ∧ ty σ H1 fun y H2 => tx σ H2 fun z H3 => ∃ kvs k, H3 a = some (.dK kvs) ∧ y = kV k ∧
  (∀ v, valV kvs k = some v → Q v (upd H3 a (.dK (dropK kvs k)))) ∧ (valV kvs k = none → Q z H3)
section
variable {X : Cx} {o e f : Expr} {apos cpos : Pos} {td ty tx : TE}
end

/-! ### dict(d): a copy -/
section
variable {X : Cx} {pins : List (Addr × Obj)} {σ : St} {H : Hp} {s : Shared} {a : Addr} {kvs : List (Key × V)} {A : Around} {E : Value → Shared → Prop}
end


section
variable {X : Cx} {pins : List (Addr × Obj)} {σ : St} {H : Hp} {s : Shared} {a : Addr} {y : V} {u : Value} {A : Around} {E : Value → Shared → Prop}
end
end L2

namespace My
open PySem L2
/-! ### calls as numbers -/
def cT (c : Nat) : Str := if c < 40 then callT c else if c = 40 then "pass" else if c = 41 then "double" else "again"
def vC (cs : List Nat) : List V := cs.map fun c => V.str (cT c)
theorem vC_len (cs : List Nat) : (vC cs).length = cs.length := List.length_map _
theorem vC_snoc (cs : List Nat) (c : Nat) : vC cs ++ [V.str (cT c)] = vC (cs ++ [c]) := by unfold vC; rw [List.map_append]; rfl
theorem vC_get {cs : List Nat} {i : Nat} {x : V} (h : (vC cs)[i]? = some x) : ∃ c, cs[i]? = some c ∧ x = .str (cT c) := by
  unfold vC at h
  rw [List.getElem?_map] at h
  cases e : cs[i]? with
  | none => rw [e] at h; cases h
  | some c => rw [e] at h; exact ⟨c, rfl, (Option.some.inj h).symm⟩
theorem vC_at {cs : List Nat} {i c : Nat} (h : cs[i]? = some c) : atI (vC cs) ((i : Nat) : Int) = some (.str (cT c)) := by
  refine atI_nat ?_
  unfold vC
  rw [List.getElem?_map, h]
  rfl
theorem cT_bid {c : Nat} (h : c < 40) : cT c = callT c := if_pos h
theorem cT_pass : ∀ c < 43, decide (cT c = "pass") = decide (c = 40) := by decide +kernel
theorem cT_dbl : ∀ c < 43, decide (cT c = "double") = decide (c = 41) := by decide +kernel
theorem cT_agn : ∀ c < 43, decide (cT c = "again") = decide (c = 42) := by decide +kernel
theorem str_dec (s t : Str) : decide (V.str s = V.str t) = decide (s = t) := decide_eq_decide.mpr ⟨fun h => by injection h, fun h => by rw [h]⟩
/-- the number of calls, the place of the last bid, the times -/
def lst3 (s : Nat × Option Nat × Nat) (c : Nat) : Nat × Option Nat × Nat := (s.1 + 1, if c = 41 ∨ c = 42 then (s.2.1, 2 * s.2.2) else if c = 40 then s.2 else (some s.1, 1))
def lastF (cs : List Nat) : Nat × Option Nat × Nat := cs.foldl lst3 (0, none, 1)
theorem last_snoc (cs : List Nat) (c : Nat) : lastF (cs ++ [c]) = lst3 (lastF cs) c := by unfold lastF; rw [List.foldl_append]; rfl
def tailF (cs : List Nat) : Nat := cs.foldl (fun n c => if c = 40 then n + 1 else 0) 0
theorem tail_snoc (cs : List Nat) (c : Nat) : tailF (cs ++ [c]) = if c = 40 then tailF cs + 1 else 0 := by unfold tailF; rw [List.foldl_append]; rfl
theorem snoc_ind {P : List Nat → Prop} (h0 : P []) (h1 : ∀ cs c, P cs → P (cs ++ [c])) (cs : List Nat) : P cs := by
  have h : ∀ l : List Nat, P l.reverse := fun l => by
    induction l with
    | nil => exact h0
    | cons c l ih => rw [List.reverse_cons]; exact h1 _ _ ih
  have := h cs.reverse
  rwa [List.reverse_reverse] at this
theorem last_fst (cs : List Nat) : (lastF cs).1 = cs.length := by
  refine snoc_ind (P := fun cs => (lastF cs).1 = cs.length) rfl (fun cs c ih => ?_) cs
  rw [last_snoc, List.length_append]
  show (lastF cs).1 + 1 = _
  rw [ih]
  rfl
theorem tail_le (cs : List Nat) : tailF cs ≤ cs.length := by
  refine snoc_ind (P := fun cs => tailF cs ≤ cs.length) (Nat.le_refl _) (fun cs c ih => ?_) cs
  rw [tail_snoc, List.length_append]
  show _ ≤ cs.length + 1
  split <;> omega
/-- the last so many are passes, and the one ahead is none -/
theorem tail_at (cs : List Nat) : (∀ j, j < tailF cs → cs[cs.length - 1 - j]? = some 40) ∧ (tailF cs < cs.length → ∃ c, cs[cs.length - 1 - tailF cs]? = some c ∧ c ≠ 40) := by
  refine snoc_ind (P := fun cs => (∀ j, j < tailF cs → cs[cs.length - 1 - j]? = some 40) ∧ (tailF cs < cs.length → ∃ c, cs[cs.length - 1 - tailF cs]? = some c ∧ c ≠ 40)) ⟨fun j h => absurd h (Nat.not_lt_zero _), fun h => absurd h (Nat.not_lt_zero _)⟩ (fun cs c ih => ?_) cs
  have hl : (cs ++ [c]).length = cs.length + 1 := by rw [List.length_append]; rfl
  have htl := tail_le cs
  rw [tail_snoc, hl]
  by_cases e : c = 40
  · rw [if_pos e]
    refine ⟨fun j hj => ?_, fun hj => ?_⟩
    · cases j with
      | zero =>
        rw [show cs.length + 1 - 1 - 0 = cs.length by omega, List.getElem?_append_right (Nat.le_refl _), Nat.sub_self, e]
        rfl
      | succ j =>
        rw [show cs.length + 1 - 1 - (j + 1) = cs.length - 1 - j by omega, List.getElem?_append_left (by omega)]
        exact ih.1 j (by omega)
    · obtain ⟨d, h1, h2⟩ := ih.2 (by omega)
      refine ⟨d, ?_, h2⟩
      rw [show cs.length + 1 - 1 - (tailF cs + 1) = cs.length - 1 - tailF cs by omega, List.getElem?_append_left (by omega)]
      exact h1
  · rw [if_neg e]
    refine ⟨fun j hj => absurd hj (Nat.not_lt_zero _), fun _ => ⟨c, ?_, e⟩⟩
    rw [show cs.length + 1 - 1 - 0 = cs.length by omega, List.getElem?_append_right (Nat.le_refl _), Nat.sub_self]
    rfl
def overC (n : Nat) (cs : List Nat) : Bool := if tailF cs = cs.length then decide (tailF cs = n) else decide (tailF cs = n - 1)
def ownC (n d : Nat) : Bool := decide (d % n = 0) || (decide (n = 4) && decide (d % 2 = 0))
def standsC (n : Nat) (cs : List Nat) (c : Nat) : Bool :=
  if overC n cs = true then false else if c = 40 then true else
  if c < 40 then (match (lastF cs).2.1 with | none => true | some k => decide (cs.getD k 0 < c)) else
  match (lastF cs).2.1 with
  | none => false
  | some k => if c = 41 then (!ownC n (cs.length - k) && decide ((lastF cs).2.2 = 1)) else (ownC n (cs.length - k) && decide ((lastF cs).2.2 = 2))
/-! ### the calling's own state -/
structure Au where
  caller : Nat
  passes : Nat
  times : Nat
  bids : List (Nat × Nat)
def stepA (n : Nat) (a : Au) (c : Nat) : Au :=
  { caller := (a.caller + 1) % n, passes := if c = 40 then a.passes + 1 else 0, times := if c < 40 then 1 else if c = 41 then 2 else if c = 42 then 4 else a.times, bids := if c < 40 then a.bids ++ [(a.caller, c)] else a.bids }
def sideN (n s : Nat) : Nat := if n = 4 then 2 ^ s ||| 2 ^ ((s + 2) % n) else 2 ^ s
theorem side3 : ∀ s < 3, ∀ t < 3, decide (sideN 3 s = sideN 3 t) = decide (s = t) := by decide +kernel
theorem side4 : ∀ s < 4, ∀ t < 4, decide (sideN 4 s = sideN 4 t) = decide (s % 2 = t % 2) := by decide +kernel
structure Rel (n first : Nat) (cs : List Nat) (a : Au) : Prop where
  n34 : n = 3 ∨ n = 4
  ca : a.caller = (first + cs.length) % n
  pa : a.passes = tailF cs
  co : ∀ c ∈ cs, c < 43
  tm : a.times = (lastF cs).2.2
  bd : (a.bids = [] ∧ (lastF cs).2.1 = none ∧ tailF cs = cs.length ∧ tailF cs ≤ n) ∨ ∃ k r bs, a.bids = bs ++ [((first + k) % n, r)] ∧ (lastF cs).2.1 = some k ∧ cs[k]? = some r ∧ r < 40 ∧ tailF cs < cs.length ∧ tailF cs ≤ n - 1
theorem Rel.begin {n first : Nat} (h : n = 3 ∨ n = 4) (hf : first < n) : Rel n first [] ⟨first, 0, 1, []⟩ :=
  ⟨h, (Nat.mod_eq_of_lt hf).symm, rfl, (fun c hc => nomatch hc), rfl, .inl ⟨rfl, rfl, rfl, Nat.zero_le _⟩⟩
def doneA (n : Nat) (a : Au) : Bool := decide ((if a.bids.length = 0 then n else n - 1) ≤ a.passes)
theorem Rel.done {n first : Nat} {cs : List Nat} {a : Au} (R : Rel n first cs a) : doneA n a = overC n cs := by
  unfold doneA overC
  rcases R.bd with ⟨h1, h2, h3, h4⟩ | ⟨k, r, bs, h1, h2, h3, h4, h5, h6⟩
  · rw [h1, if_pos (show ([] : List (Nat × Nat)).length = 0 from rfl), if_pos h3, R.pa]
    exact decide_eq_decide.mpr ⟨fun z => by omega, fun z => by omega⟩
  · rw [h1, if_neg (by rw [List.length_append]; exact Nat.succ_ne_zero _), if_neg (by omega), R.pa]
    exact decide_eq_decide.mpr ⟨fun z => by omega, fun z => by omega⟩
theorem own_side {n : Nat} (h : n = 3 ∨ n = 4) (first k l : Nat) (hk : k ≤ l) : decide (sideN n ((first + k) % n) = sideN n ((first + l) % n)) = ownC n (l - k) := by
  unfold ownC
  rcases h with rfl | rfl
  · rw [side3 _ (Nat.mod_lt _ (by decide)) _ (Nat.mod_lt _ (by decide)), show decide (3 = 4) = false from rfl, Bool.false_and, Bool.or_false]
    exact decide_eq_decide.mpr ⟨fun z => by omega, fun z => by omega⟩
  · rw [side4 _ (Nat.mod_lt _ (by decide)) _ (Nat.mod_lt _ (by decide)), show decide (4 = 4) = true from rfl, Bool.true_and, ← Bool.decide_or]
    exact decide_eq_decide.mpr ⟨fun z => by omega, fun z => by omega⟩
theorem Rel.step {n first : Nat} {cs : List Nat} {a : Au} {c : Nat} (R : Rel n first cs a) (hc : c < 43) (st : standsC n cs c = true) : Rel n first (cs ++ [c]) (stepA n a c) := by
  have n34 := R.n34
  have hl : (cs ++ [c]).length = cs.length + 1 := by rw [List.length_append]; rfl
  have hov : overC n cs = false := by
    unfold standsC at st
    by_cases z : overC n cs = true
    · rw [if_pos z] at st; cases st
    · exact Bool.eq_false_iff.mpr z
  unfold standsC at st
  rw [hov, if_neg (by decide)] at st
  have htl := tail_le cs
  have lf := last_fst cs
  have nov : ∀ (m : Nat), (tailF cs = cs.length → m = n) → (tailF cs ≠ cs.length → m = n - 1) → tailF cs ≠ m := fun m e1 e2 z => by
    unfold overC at hov
    by_cases y : tailF cs = cs.length
    · rw [if_pos y, decide_eq_true (z.trans (e1 y))] at hov; cases hov
    · rw [if_neg y, decide_eq_true (z.trans (e2 y))] at hov; cases hov
  refine ⟨n34, ?_, ?_, ?_, ?_, ?_⟩
  · show (a.caller + 1) % n = _
    rw [R.ca, hl]
    rcases n34 with rfl | rfl <;> omega
  · show (if c = 40 then a.passes + 1 else 0) = _
    rw [tail_snoc, R.pa]
  · intro d hd
    rcases List.mem_append.mp hd with z | z
    · exact R.co d z
    · rw [List.mem_singleton.mp z]; exact hc
  · show (if c < 40 then 1 else if c = 41 then 2 else if c = 42 then 4 else a.times) = _
    rw [last_snoc]
    show _ = (if c = 41 ∨ c = 42 then ((lastF cs).2.1, 2 * (lastF cs).2.2) else if c = 40 then (lastF cs).2 else (some (lastF cs).1, 1)).2
    by_cases c40 : c < 40
    · rw [if_pos c40, if_neg (by omega), if_neg (by omega)]
    · rw [if_neg c40]
      by_cases e40 : c = 40
      · rw [if_neg (by omega), if_neg (by omega), if_neg (by omega), if_pos e40, R.tm]
      · rw [if_neg e40, if_neg c40] at st
        cases e : (lastF cs).2.1 with
        | none => rw [e] at st; cases st
        | some k =>
          rw [e] at st
          dsimp only at st
          by_cases e41 : c = 41
          · rw [if_pos e41] at st
            have := of_decide_eq_true (Bool.and_eq_true_iff.mp st).2
            rw [if_pos e41, if_pos (.inl e41)]
            show 2 = 2 * (lastF cs).2.2
            omega
          · rw [if_neg e41] at st
            have := of_decide_eq_true (Bool.and_eq_true_iff.mp st).2
            have e42 : c = 42 := by omega
            rw [if_neg e41, if_pos e42, if_pos (.inr e42)]
            show 4 = 2 * (lastF cs).2.2
            omega
  · rw [tail_snoc, hl, last_snoc]
    show ((if c < 40 then a.bids ++ [(a.caller, c)] else a.bids) = [] ∧ (if c = 41 ∨ c = 42 then ((lastF cs).2.1, 2 * (lastF cs).2.2) else if c = 40 then (lastF cs).2 else (some (lastF cs).1, 1)).1 = none ∧ _ ∧ _) ∨ ∃ k r bs, (if c < 40 then a.bids ++ [(a.caller, c)] else a.bids) = bs ++ [((first + k) % n, r)] ∧ (if c = 41 ∨ c = 42 then ((lastF cs).2.1, 2 * (lastF cs).2.2) else if c = 40 then (lastF cs).2 else (some (lastF cs).1, 1)).1 = some k ∧ _
    by_cases c40 : c < 40
    · rw [if_pos c40, if_neg (by omega), if_neg (by omega), if_neg (by omega)]
      refine .inr ⟨cs.length, c, a.bids, by rw [R.ca], by rw [lf], ?_, c40, Nat.succ_pos _, Nat.zero_le _⟩
      rw [List.getElem?_append_right (Nat.le_refl _), Nat.sub_self]
      rfl
    · rw [if_neg c40]
      by_cases e40 : c = 40
      · rw [if_neg (by omega), if_pos e40, if_pos e40]
        rcases R.bd with ⟨h1, h2, h3, h4⟩ | ⟨k, r, bs, h1, h2, h3, h4, h5, h6⟩
        · have := nov n (fun _ => rfl) (fun z => absurd h3 z)
          exact .inl ⟨h1, h2, by omega, by omega⟩
        · have := nov (n - 1) (fun z => absurd z (by omega)) (fun _ => rfl)
          refine .inr ⟨k, r, bs, h1, h2, ?_, h4, by omega, by omega⟩
          rw [List.getElem?_append_left (List.getElem?_eq_some_iff.mp h3).1]
          exact h3
      · rw [if_neg e40, if_neg c40] at st
        rw [if_pos (by omega), if_neg e40]
        rcases R.bd with ⟨h1, h2, h3, h4⟩ | ⟨k, r, bs, h1, h2, h3, h4, h5, h6⟩
        · rw [h2] at st; cases st
        · refine .inr ⟨k, r, bs, h1, h2, ?_, h4, Nat.succ_pos _, Nat.zero_le _⟩
          rw [List.getElem?_append_left (List.getElem?_eq_some_iff.mp h3).1]
          exact h3
def ownA (n : Nat) (a : Au) : Bool := match a.bids.getLast? with | none => false | some (s, _) => decide (sideN n s = sideN n a.caller)
/-- the rule by which a call does not stand -/
def brkA (n : Nat) (a : Au) (c : Nat) : Option Str :=
  if doneA n a = true then some "over" else
  match a.bids.getLast? with
  | none => if c = 41 then some "double" else if c = 42 then some "again" else none
  | some (_, r) => if c < 40 then (if r < c then none else some "low") else if c = 41 then (if a.times = 1 ∧ ownA n a = false then none else some "double") else if c = 42 then (if a.times = 2 ∧ ownA n a = true then none else some "again") else none
theorem Rel.own {n first : Nat} {cs : List Nat} {a : Au} (R : Rel n first cs a) {k r : Nat} {bs : List (Nat × Nat)} (h1 : a.bids = bs ++ [((first + k) % n, r)]) (hk : k ≤ cs.length) : ownA n a = ownC n (cs.length - k) := by
  unfold ownA
  rw [h1, List.getLast?_concat]
  show decide (sideN n ((first + k) % n) = sideN n a.caller) = _
  rw [R.ca]
  exact own_side R.n34 first k cs.length hk
end My

namespace My
open PySem L2
def top (i : Nat) : Stmt := PySem.Challenge.pw_trickproof_k20_whole_callings.main.body.getD i (.Pass ⟨0, 0, 0, 0⟩)
abbrev sReadCall : Stmt := top 23
abbrev sRankOf : Stmt := top 24
abbrev sAbove : Stmt := top 25
abbrev sSide : Stmt := top 27
abbrev sCell : Stmt := top 30
abbrev sAuInit : Stmt := inClass (top 28) 0
abbrev sDone : Stmt := inClass (top 28) 1
abbrev sTurn : Stmt := inClass (top 28) 2
abbrev sOwn : Stmt := inClass (top 28) 3
abbrev sDbl : Stmt := inClass (top 28) 4
abbrev sAgn : Stmt := inClass (top 28) 5
abbrev sBrk : Stmt := inClass (top 28) 6
abbrev sSay : Stmt := inClass (top 28) 7
abbrev sFirst : Stmt := inClass (top 28) 8
abbrev sContract : Stmt := inClass (top 28) 9
section
variable {P : Program} {w : World} {K : PySem.W.Frag} {mg : Str → Option Value} {base : Heap} {f g : Addr} {fd gd : FuncData}
/-! ### a drawn cell -/
def spCell (K : PySem.W.Frag) : Sp := fun vs H Q _ => ∃ (a : Addr) (ns : List Int) (k : Int), vs = [.ref a, .int k] ∧ SqL K H a (ns.map V.int) ∧ ns.length ≤ 63 ∧ 0 ≤ k ∧ k ≤ 10000 ∧ ∀ z : Int, 0 ≤ z → Q (.int z) H
abbrev pCell : List Str := ["_law_script", "_law_k"]
theorem scCell : FnScope ["_law_script", "_law_k", "_law_cell_here"] pCell (defScope sCell) := ⟨rfl, rfl, rfl, by decide +kernel, rfl, by decide +kernel, by decide +kernel⟩
theorem ok_cell {k : Nat} (F : Fun K "_law_cell" "_law_cell" sCell f fd) (ml : mg "len" = none) : FnOk P w K mg base CX0 (k + 1) f fd pCell (spCell K) := by
  refine F.ok scCell (fun vs H Q E h => ?_) (fun cdv A outer s H vs Q E hr h => ?_)
  · obtain ⟨a, ns, k, rfl, _⟩ := h
    rfl
  obtain ⟨a, ns, j, rfl, hS, h63, h0, h1, q⟩ := h
  refine ⟨_, pss_cons (ps_set (i := 2) scCell.nd rfl (Or.inl rfl) (pe_op op_add (pe_op op_mul (pe_op op_mul (pv 1) (pv 1)) pe_int) pe_int))
    (pss_cons (ps_if (pt_cmpR op_gt (pe_callB call_len_seq rfl ml PySem.boot_len (pa_cons (pv 0) pa_nil)) pe_int (nomark _))
      (pss_one (ps_set (i := 2) scCell.nd rfl (Or.inl rfl) (pe_op op_add (pe_op op_mod (pe_ix ix_list (pv 0) (pe_op op_mod (pv 1) (pe_callB call_len_seq rfl ml PySem.boot_len (pa_cons (pv 0) pa_nil))) (fun _ _ => rfl)) (pe_op op_pow pe_int pe_int))
        (pe_op op_mul (pe_op op_fdiv (pv 1) (pe_callB call_len_seq rfl ml PySem.boot_len (pa_cons (pv 0) pa_nil))) pe_int)))) pss_nil)
    (pss_one (ps_ret (pe_op op_mod (pe_op op_mul (pe_op op_mod (pe_op op_add (pe_op op_mul (pv 2) pe_int) (pe_op op_mul (pv 1) pe_int)) pe_int) (pe_op op_add (pe_op op_mod (pv 2) pe_int) pe_int)) pe_int)))), ?_⟩
  have hl : (ns.map V.int).length = ns.length := List.length_map _
  refine ⟨_, rfl, _, rfl, _, _, rfl, rfl, .inl ⟨by omega, by omega⟩, _, _, rfl, rfl, .inr ⟨by decide, by decide⟩, _, _, rfl, rfl, ?_⟩
  refine ⟨_, rfl, a, _, rfl, .inl hS, _, _, rfl, rfl, _, rfl, ?_⟩
  have fin : ∀ (n : Int), (tRet (tOp (rI (fun _ j => 0 < j) fun i j => .int (i % j)) (tOp (rI CMul fun i j => .int (i * j)) (tOp (rI (fun _ j => 0 < j) fun i j => .int (i % j)) (tOp (rI0 fun i j => .int (i + j)) (tOp (rI CMul fun i j => .int (i * j)) (tVar 2) (tC (.int 48271))) (tOp (rI CMul fun i j => .int (i * j)) (tVar 1) (tC (.int 69621)))) (tC (.int 2147483647)))
      (tOp (rI0 fun i j => .int (i + j)) (tOp (rI (fun _ j => 0 < j) fun i j => .int (i % j)) (tVar 2) (tC (.int 65521))) (tC (.int 3)))) (tC (.int 999999937))) : TS)
        { nx := fun _ H' => Q .non H', rt := Q } [some (.ref a), some (.int j), some (.int n)] H := by
    intro n
    refine ⟨_, rfl, _, _, rfl, rfl, .inr ⟨by decide, by decide⟩, _, rfl, _, _, rfl, rfl, .inr ⟨by decide, by decide⟩, _, _, rfl, rfl, _, _, rfl, rfl, (show (0 : Int) < 2147483647 by decide), ?_⟩
    refine ⟨_, rfl, _, _, rfl, rfl, (show (0 : Int) < 65521 by decide), _, _, rfl, rfl, _, _, rfl, rfl, .inl ⟨?_, ?_⟩, _, _, rfl, rfl, (show (0 : Int) < 999999937 by decide), ?_⟩
    · have := Int.emod_nonneg (n * 48271 + j * 69621) (show (2147483647 : Int) ≠ 0 by decide)
      omega
    · have := Int.emod_lt_of_pos (n * 48271 + j * 69621) (show (0 : Int) < 2147483647 by decide)
      omega
    · exact q _ (Int.emod_nonneg _ (by decide))
  refine ite2 (fun c => ?_) (fun c => ?_)
  · have c' : (((ns.map V.int).length : Nat) : Int) > 0 := of_decide_eq_true c
    rw [hl] at c'
    obtain ⟨v, hv⟩ := item_at (ns := ns) (k := j) (by omega)
    have p0 : (0 : Int) < 10 ^ (30 : Int).toNat := by decide
    exact ⟨_, rfl, _, rfl, _, rfl, a, _, rfl, .inl hS, _, _, rfl, rfl, (by rw [hl]; omega), a, _, _, _, rfl, rfl, hS, hv, _, _, rfl, rfl, ⟨by decide, by decide, by decide⟩, _, _, rfl, rfl, p0, _, rfl, _, rfl, a, _, rfl, .inl hS, _, _, rfl, rfl, ⟨by rw [hl]; omega, by rw [hl]; omega⟩, _, _, rfl, rfl, .inr ⟨by decide, by decide⟩, _, _, rfl, rfl, fin _⟩
  · exact fin _
/-! ### bids -/
def stV (r : Nat) : V := if r = 4 then .non else .int (r : Nat)
def bidV (t : Int) (r : Nat) : List V := [.int t, stV r]
def spRankOf (K : PySem.W.Frag) : Sp := fun vs H Q _ => ∃ r : Nat, vs = [stV r] ∧ r < 5 ∧ Q (.int (r : Nat)) H
theorem scRankOf : FnScope ["strain"] ["strain"] (defScope sRankOf) := ⟨rfl, rfl, rfl, by decide +kernel, rfl, by decide +kernel, by decide +kernel⟩
theorem ok_rankOf {k : Nat} {t1 : Tok} (F : Fun K "rank_of" "rank_of" sRankOf f fd) (mN : mg "NO_TRUMPS" = some (.int 4 t1)) : FnOk P w K mg base CX0 (k + 1) f fd ["strain"] (spRankOf K) := by
  refine F.ok scRankOf (fun vs H Q E h => ?_) (fun cdv A outer s H vs Q E hr h => ?_)
  · obtain ⟨r, rfl, _⟩ := h
    rfl
  obtain ⟨r, rfl, h5, q⟩ := h
  refine ⟨_, pss_one (ps_ret (pe_ifExp (pt_cmpR op_isN (pv 0) pe_non (nomark _)) (pe_glob (v := .int 4) rfl mN ⟨_, rfl⟩) (pv 0))), ?_⟩
  refine ⟨_, rfl, rfl, _, rfl, ?_⟩
  by_cases c : r = 4
  · subst c
    exact iteT q
  · have e : stV r = .int (r : Nat) := if_neg c
    rw [e]
    exact iteF ⟨_, rfl, q⟩
/-! ### read_call -/
def spReadCall (K : PySem.W.Frag) (CN : Addr) : Sp := fun vs H Q E => ∃ t : Str, vs = [.str t] ∧ t.length ≤ 1000 ∧ (t ∈ W3 → Q (.str t) H) ∧ (∀ m < 40, t = callT m → ∀ p H', Same H H' → H p = none → H' p = some (.tup (bidV ((m / 5 : Nat) + 1) (m % 5))) → Q (.ref p) H') ∧ (t ∉ all43 → E (.ref CN) none H)
theorem scReadCall : FnScope ["text", "tricks", "rank"] ["text"] (defScope sReadCall) := ⟨rfl, rfl, rfl, by decide +kernel, rfl, by decide +kernel, by decide +kernel⟩
theorem ok_readCall {k : Nat} {CN aW : Addr} {t2 t3 t4 : Tok} (F : Fun K "read_call" "read_call" sReadCall f fd) (mS : mg "STRAINS" = some (.str sStr t2)) (mF : mg "FIGURES" = some (.str sFig t3)) (mN : mg "NO_TRUMPS" = some (.int 4 t4)) (mW : mg "WORDS" = some (.ref aW)) (hW : ∀ H, SqT K H aW (vS W3))
    (mC : mg "NoCall" = some (.ref CN)) (hC : PySem.W.excIn K CN veTail "ValueError.__new__" = true) (mi : mg "isinstance" = none) (ms : mg "str" = none) (ml : mg "len" = none) : FnOk P w K mg base (CX1 P w) (k + 1) f fd ["text"] (spReadCall K CN) := by
  refine F.okX scReadCall (fun vs H Q E h => ?_) (fun cdv A outer s H vs Q E hr h T => ?_)
  · obtain ⟨x, rfl, _⟩ := h
    rfl
  obtain ⟨t, rfl, ht, q1, q2, q3⟩ := h
  refine ⟨_, pss_cons (ps_if (pt_not (pt_truth (pe_callB call_isT rfl mi PyProof.Rows.boot_isinstance (pa_cons (pv 0) (pa_cons (pe_bltn (v := .ty "str") rfl ms PyProof.Rows.boot_str rfl) pa_nil))) (fun _ => rfl))) (pss_one (ps_raise T hr.hd rfl mC hC (pa_cons pe_str pa_nil))) pss_nil)
    (pss_cons (ps_if (pt_cmpR op_in_seq (pv 0) (pe_glob (v := .ref aW) rfl mW rfl) rfl) (pss_one (ps_ret (pv 0))) pss_nil)
    (pss_cons (ps_if (pt_cmpR op_ne (pe_callB call_len_str rfl ml PySem.boot_len (pa_cons (pv 0) pa_nil)) pe_int (nomark _)) (pss_one (ps_raise T hr.hd rfl mC hC (pa_cons pe_str pa_nil))) pss_nil)
    (pss_cons (ps_set (i := 1) scReadCall.nd rfl (Or.inl rfl) (pe_op op_add (pe_bm PySem.F.plainAttrs_str PySem.F.slot_str_find PySem.F.type_str_find mt_find (pe_glob (v := .str sFig) rfl mF ⟨_, rfl⟩) (pa_cons (pe_ix ix_str (pv 0) pe_int (fun _ _ => rfl)) pa_nil)) pe_int))
    (pss_cons (ps_set (i := 2) scReadCall.nd rfl (Or.inl rfl) (pe_bm PySem.F.plainAttrs_str PySem.F.slot_str_find PySem.F.type_str_find mt_find (pe_glob (v := .str sStr) rfl mS ⟨_, rfl⟩) (pa_cons (pe_ix ix_str (pv 0) pe_int (fun _ _ => rfl)) pa_nil)))
    (pss_cons (ps_if (PW.pt (pw_or (pt_cmpR op_eq (pv 1) pe_int (nomark _)) (pw_or1 (pt_cmpR op_lt (pv 2) pe_int (nomark _))))) (pss_one (ps_raise T hr.hd rfl mC hC (pa_cons pe_str pa_nil))) pss_nil)
    (pss_one (ps_ret (pe_tup (pa_cons (pv 1) (pa_cons (pe_ifExp (pt_cmpR op_eq (pv 2) (pe_glob (v := .int 4) rfl mN ⟨_, rfl⟩) (nomark _)) pe_non (pv 2)) pa_nil)))))))))), ?_⟩
  have one : (1 : Nat) ≤ sizeLine := fits3 1 (by decide)
  refine ⟨_, rfl, _, _, _, true, rfl, .str t, rfl, true, rfl, iteF ?_⟩
  refine ⟨_, rfl, aW, vS W3, rfl, .inr (hW _), rfl, vS_flat _, _, rfl, ?_⟩
  show if (inV (.str t) (vS W3)) = true then _ else _
  rw [inV_str]
  by_cases cw : t ∈ W3
  · rw [decide_eq_true cw]
    exact iteT ⟨_, rfl, q1 cw⟩
  rw [decide_eq_false cw]
  refine iteF ?_
  have hz : t.length ≤ sizeLine := fits3 _ ht
  refine ⟨_, rfl, _, rfl, hz, rfl, _, rfl, ite2 (fun c => ?_) fun c => ?_⟩
  · refine ⟨one, q3 fun z => ?_⟩
    rcases all_cases z with z | ⟨m, hm, e⟩
    · exact cw z
    · rw [e, callT_len] at c
      exact absurd c (by decide)
  · have c' : t.length = 2 := by
      have z : ¬ (!decide (V.int ((t.length : Nat) : Int) = V.int 2)) = true := c
      by_cases e : t.length = 2
      · exact e
      · refine absurd ?_ z
        rw [decide_eq_false (fun y => e (by injection y with y; omega))]
        rfl
    obtain ⟨a, b, eab⟩ := list2 (l := t.cps.toList) c'
    have et : t = ⟨#[a, b]⟩ := by
      obtain ⟨⟨l⟩⟩ := t
      have e : l = [a, b] := eab
      rw [e]
    have at0 : atI t.cps.toList ((0 : Nat) : Int) = some a := atI_nat (by rw [eab]; rfl)
    have at1 : atI t.cps.toList ((1 : Nat) : Int) = some b := atI_nat (by rw [eab]; rfl)
    refine ⟨rfl, _, rfl, _, _, _, rfl, rfl, hz, at0, _, _, rfl, rfl, _, _, rfl, rfl, ?_⟩
    refine ⟨rfl, _, rfl, _, _, _, rfl, rfl, hz, at1, _, _, rfl, rfl, ?_⟩
    rw [find_fig, find_str]
    by_cases ha : 49 ≤ a ∧ a ≤ 56
    · rw [if_pos ha]
      refine ⟨_, rfl, rfl, _, rfl, ?_⟩
      rw [decide_eq_false (fun y => by injection y with y; omega)]
      refine iteF ⟨_, rfl, _, _, rfl, rfl, _, rfl, ?_⟩
      by_cases hb : (97 ≤ b ∧ b ≤ 100) ∨ b = 110
      · obtain ⟨r, hr5, hbr, er⟩ : ∃ r, r < 5 ∧ b = cpL r ∧ (if 97 ≤ b ∧ b ≤ 100 then ((b - 97 : Nat) : Int) else if b = 110 then 4 else -1) = ((r : Nat) : Int) := by
          rcases hb with hb | hb
          · refine ⟨b - 97, by omega, ?_, by rw [if_pos hb]⟩
            unfold cpL
            rw [if_neg (by omega)]
            omega
          · refine ⟨4, by decide, hb, ?_⟩
            rw [if_neg (by omega), if_pos hb]
            rfl
        rw [er, decide_eq_false (show ¬ ((r : Nat) : Int) < 0 by omega)]
        refine iteF ⟨_, rfl, _, rfl, rfl, _, rfl, ?_⟩
        have go : ∀ (x : V), x = stV r → (2 ≤ sizeLine ∧ ∀ p, H p = none → Q (.ref p) (upd H p (.tup [.int (((a - 49 : Nat) : Int) + 1), x]))) := fun x hx => by
          refine ⟨fits3 2 (by decide), fun p hp => ?_⟩
          have z := q2 (5 * (a - 49) + r) (by omega) (by rw [et]; exact is_call ha hbr hr5) p _ (same_upd hp _) hp upd_same
          have e1 : (5 * (a - 49) + r) / 5 = a - 49 := by omega
          have e2 : (5 * (a - 49) + r) % 5 = r := by omega
          rw [e1, e2] at z
          unfold bidV at z
          rw [← hx] at z
          exact z
        by_cases c4 : r = 4
        · subst c4
          exact iteT (go _ rfl)
        · rw [decide_eq_false (fun y => c4 (by injection y with y; omega))]
          exact iteF ⟨_, rfl, go _ (if_neg c4).symm⟩
      · rw [if_neg (fun z => hb (.inl z)), if_neg (fun z => hb (.inr z)), decide_eq_true (show (-1 : Int) < 0 by decide)]
        refine iteT ⟨one, q3 ?_⟩
        rw [et]
        exact not_call fun z => hb z.2.2
    · rw [if_neg ha]
      refine ⟨_, rfl, rfl, _, rfl, ?_⟩
      rw [decide_eq_true (show V.int (-1 + 1) = V.int 0 from rfl)]
      refine iteT (iteT ⟨one, q3 ?_⟩)
      rw [et]
      exact not_call fun z => ha ⟨z.1, z.2.1⟩
def spAbove (K : PySem.W.Frag) : Sp := fun vs H Q _ => ∃ (a b : Addr) (t u : Int) (r q : Nat), vs = [.ref a, .ref b] ∧ SqT K H a (bidV t r) ∧ SqT K H b (bidV u q) ∧ r < 5 ∧ q < 5 ∧ ∀ H', Same H H' → Q (.bl (HT.lexLt [u, (q : Nat)] [t, (r : Nat)])) H'
theorem scAbove : FnScope ["bid", "other"] ["bid", "other"] (defScope sAbove) := ⟨rfl, rfl, rfl, by decide +kernel, rfl, by decide +kernel, by decide +kernel⟩
theorem ok_above {k : Nat} (F : Fun K "above" "above" sAbove f fd) (L : Lib P w K mg base k "rank_of" ["strain"] (spRankOf K) g gd) : FnOk P w K mg base CX0 (k + 1) f fd ["bid", "other"] (spAbove K) := by
  refine F.ok scAbove (fun vs H Q E h => ?_) (fun cdv A outer s H vs Q E hr h => ?_)
  · obtain ⟨a, b, t, u, r, q, rfl, _⟩ := h
    rfl
  obtain ⟨a, b, t, u, r, m, rfl, hA, hB, h5, h6, q⟩ := h
  refine ⟨_, pss_one (ps_ret (pe_cmpR (op_gtT hr.units) (pe_tup (pa_cons (pe_ix ix_tup (pv 0) pe_int (fun _ _ => rfl)) (pa_cons (pe_call L.ok hr rfl L.mg L.kp L.bd .nil pass0 (pa_cons (pe_ix ix_tup (pv 0) pe_int (fun _ _ => rfl)) pa_nil)) pa_nil)))
    (pe_tup (pa_cons (pe_ix ix_tup (pv 1) pe_int (fun _ _ => rfl)) (pa_cons (pe_call L.ok hr rfl L.mg L.kp L.bd .nil pass0 (pa_cons (pe_ix ix_tup (pv 1) pe_int (fun _ _ => rfl)) pa_nil)) pa_nil))) (nomark _))), ?_⟩
  refine ⟨_, rfl, a, _, 0, .int t, rfl, rfl, hA, rfl, _, rfl, a, bidV t r, 1, stV r, rfl, rfl, hA, rfl, r, rfl, h5, by show 2 ≤ sizeLine; decide, fun p hp => ?_⟩
  have s1 : Same H (upd H p (.tup [.int t, .int (r : Nat)])) := same_upd hp _
  refine ⟨_, rfl, b, _, 0, .int u, rfl, rfl, s1.seqT hB, rfl, _, rfl, b, bidV u m, 1, stV m, rfl, rfl, s1.seqT hB, rfl, m, rfl, h6, by show 2 ≤ sizeLine; decide, fun p2 hp2 => ?_⟩
  have s2 : Same (upd H p (.tup [.int t, .int (r : Nat)])) (upd (upd H p (.tup [.int t, .int (r : Nat)])) p2 (.tup [.int u, .int (m : Nat)])) := same_upd hp2 _
  exact ⟨p, p2, [t, (r : Nat)], [u, (m : Nat)], rfl, rfl, SqT.of (s2 _ _ upd_same), SqT.of upd_same, q _ (s1.trans s2)⟩
theorem or_pp {x y : Int} (hx : 0 ≤ x) (hy : 0 ≤ y) : Builtin.bitOr x y = ((x.toNat ||| y.toNat : Nat) : Int) := by
  rw [PyProof.Rows.bitOr_and, PyProof.Rows.bitAnd_pp hx hy]
  have := PyProof.Rows.nat_or_add_and x.toNat y.toNat
  omega
theorem chg {a b : Bool} {A B : Prop} (e : a = b) (h : if b = true then A else B) : if a = true then A else B := by rw [e]; exact h
/-! ### == of a tuple and a text -/
def rEqS (K : PySem.W.Frag) : R2 := fun x y H Q => rEq x y H Q ∨ ∃ (a : Addr) (xs : List V) (t : Str), x = .ref a ∧ y = .str t ∧ SqT K H a xs ∧ Q (.bl false) H
theorem op_eqS {X : Cx} (hu : X.A.units + 64 < cLine) : OpR X (compareOp .Eq) (rEqS X.K) := by
  intro pins s σ H x y v u Q I rx ry h
  rcases h with h | ⟨a, xs, t, rfl, rfl, hS, q⟩
  · exact op_eq pins s σ H x y v u Q I rx ry h
  · cases rx
    obtain ⟨tk, rfl⟩ := ry
    obtain ⟨its, r1, p1, _⟩ := I.tuple hS
    exact SeqAt.RcAt.tuple_str t tk p1 (by omega) _ _ _ _ ⟨.bl false, H, I, rfl, q⟩
/-! ### the object of a calling -/
theorem length_putF_of (f : Str) (v : V) : ∀ fs : List (Str × V), fs.lookup f ≠ none → (putF f v fs).length = fs.length
  | [], h => absurd rfl h
  | (k, x) :: r, h => by
    rw [show putF f v ((k, x) :: r) = (if k = f then (k, v) :: r else (k, x) :: putF f v r) from rfl]
    by_cases hk : k = f
    · rw [if_pos hk]; rfl
    · rw [if_neg hk]
      have e : (f == k) = false := beq_eq_false_iff_ne.mpr (Ne.symm hk)
      rw [List.lookup_cons, e] at h
      show (putF f v r).length + 1 = r.length + 1
      rw [length_putF_of f v r h]
structure AuC (K : PySem.W.Frag) (mg : Str → Option Value) (CA : Addr) : Prop where
  cl : Cls K CA
  mA : mg "Auction" = some (.ref CA)
  n1 : NoAttr K CA "seats"
  n2 : NoAttr K CA "caller"
  n3 : NoAttr K CA "passes"
  n4 : NoAttr K CA "bids"
  n5 : NoAttr K CA "times"
def auN : List Str := ["seats", "caller", "passes", "bids", "times"]
structure AuF (n : Nat) (a : Au) (lb : Addr) (fs : List (Str × V)) : Prop where
  l1 : fs.lookup ("seats" : Str) = some (.int (n : Nat))
  l2 : fs.lookup ("caller" : Str) = some (.int (a.caller : Nat))
  l3 : fs.lookup ("passes" : Str) = some (.int (a.passes : Nat))
  l4 : fs.lookup ("bids" : Str) = some (.ref lb)
  l5 : fs.lookup ("times" : Str) = some (.int (a.times : Nat))
  nm : ∀ m : Str, m ∉ auN → fs.lookup m = none
  ln : fs.length ≤ 10
theorem AuF.pPasses {n : Nat} {a : Au} {lb : Addr} {fs : List (Str × V)} (A : AuF n a lb fs) (p : Nat) : AuF n { a with passes := p } lb (putF "passes" (.int (p : Nat)) fs) :=
  ⟨by rw [lookup_putF, if_neg (by decide +kernel)]; exact A.l1, by rw [lookup_putF, if_neg (by decide +kernel)]; exact A.l2, by rw [lookup_putF, if_pos rfl], by rw [lookup_putF, if_neg (by decide +kernel)]; exact A.l4, by rw [lookup_putF, if_neg (by decide +kernel)]; exact A.l5,
    fun m hm => by rw [lookup_putF, if_neg (fun z => hm (by rw [z]; decide +kernel))]; exact A.nm m hm, by rw [length_putF_of _ _ _ (by rw [A.l3]; exact fun z => nomatch z)]; exact A.ln⟩
theorem AuF.pTimes {n : Nat} {a : Au} {lb : Addr} {fs : List (Str × V)} (A : AuF n a lb fs) (p : Nat) : AuF n { a with times := p } lb (putF "times" (.int (p : Nat)) fs) :=
  ⟨by rw [lookup_putF, if_neg (by decide +kernel)]; exact A.l1, by rw [lookup_putF, if_neg (by decide +kernel)]; exact A.l2, by rw [lookup_putF, if_neg (by decide +kernel)]; exact A.l3, by rw [lookup_putF, if_neg (by decide +kernel)]; exact A.l4, by rw [lookup_putF, if_pos rfl],
    fun m hm => by rw [lookup_putF, if_neg (fun z => hm (by rw [z]; decide +kernel))]; exact A.nm m hm, by rw [length_putF_of _ _ _ (by rw [A.l5]; exact fun z => nomatch z)]; exact A.ln⟩
theorem AuF.pCaller {n : Nat} {a : Au} {lb : Addr} {fs : List (Str × V)} (A : AuF n a lb fs) (p : Nat) : AuF n { a with caller := p } lb (putF "caller" (.int (p : Nat)) fs) :=
  ⟨by rw [lookup_putF, if_neg (by decide +kernel)]; exact A.l1, by rw [lookup_putF, if_pos rfl], by rw [lookup_putF, if_neg (by decide +kernel)]; exact A.l3, by rw [lookup_putF, if_neg (by decide +kernel)]; exact A.l4, by rw [lookup_putF, if_neg (by decide +kernel)]; exact A.l5,
    fun m hm => by rw [lookup_putF, if_neg (fun z => hm (by rw [z]; decide +kernel))]; exact A.nm m hm, by rw [length_putF_of _ _ _ (by rw [A.l2]; exact fun z => nomatch z)]; exact A.ln⟩
theorem AuF.bids {n : Nat} {a : Au} {lb : Addr} {fs : List (Str × V)} (A : AuF n a lb fs) (bs : List (Nat × Nat)) : AuF n { a with bids := bs } lb fs := ⟨A.l1, A.l2, A.l3, A.l4, A.l5, A.nm, A.ln⟩
def bidR (r : Nat) : List V := bidV ((r / 5 : Nat) + 1) (r % 5)
def IsBids (H : Hp) (lb : Addr) (bs : List (Nat × Nat)) : Prop := ∃ vs, H lb = some (.lst vs) ∧ vs.length = bs.length ∧ ∀ (i : Nat) (v : V) (s r : Nat), vs[i]? = some v → bs[i]? = some (s, r) → ∃ p b : Addr, v = .ref p ∧ H p = some (.tup [.int (s : Nat), .ref b]) ∧ H b = some (.tup (bidR r))
def IsAu (CA : Addr) (n : Nat) (a : Au) (H : Hp) (x lb : Addr) : Prop := ∃ dx fs, H x = some (.ins CA dx fs) ∧ AuF n a lb fs ∧ IsBids H lb a.bids
/-- all but the object at x and the list at lb stays -/
def Kept (x lb : Addr) (H H' : Hp) : Prop := ∀ b o, b ≠ x → b ≠ lb → H b = some o → H' b = some o
theorem Kept.refl {x lb : Addr} {H : Hp} : Kept x lb H H := fun _ _ _ _ h => h
theorem Kept.trans {x lb : Addr} {H H1 H2 : Hp} (a : Kept x lb H H1) (b : Kept x lb H1 H2) : Kept x lb H H2 := fun c o h1 h2 h => b c o h1 h2 (a c o h1 h2 h)
theorem Kept.of {x lb : Addr} {H H' : Hp} (s : Same H H') : Kept x lb H H' := fun b o _ _ h => s b o h
theorem Kept.putx {x lb : Addr} {H : Hp} (o : HO) : Kept x lb H (upd H x o) := fun b u h1 _ h => by rw [upd_ne h1]; exact h
theorem Kept.putl {x lb : Addr} {H : Hp} (o : HO) : Kept x lb H (upd H lb o) := fun b u _ h2 h => by rw [upd_ne h2]; exact h
theorem IsBids.same {H H' : Hp} {lb : Addr} {bs : List (Nat × Nat)} (h : IsBids H lb bs) (s : Same H H') : IsBids H' lb bs := by
  obtain ⟨vs, h1, h2, h3⟩ := h
  exact ⟨vs, s _ _ h1, h2, fun i v t r a b => (h3 i v t r a b).imp fun p => Exists.imp fun b z => ⟨z.1, s _ _ z.2.1, s _ _ z.2.2⟩⟩
theorem IsAu.same {CA : Addr} {n : Nat} {a : Au} {H H' : Hp} {x lb : Addr} (h : IsAu CA n a H x lb) (s : Same H H') : IsAu CA n a H' x lb := by
  obtain ⟨dx, fs, h1, h2, h3⟩ := h
  exact ⟨dx, fs, s _ _ h1, h2, h3.same s⟩
theorem IsBids.putx {H : Hp} {x C dx lb : Addr} {fs fs' : List (Str × V)} {bs : List (Nat × Nat)} (X : H x = some (.ins C dx fs)) (h : IsBids H lb bs) : IsBids (upd H x (.ins C dx fs')) lb bs := by
  obtain ⟨vs, h1, h2, h3⟩ := h
  refine ⟨vs, by rw [upd_ne (fun z => by rw [z, X] at h1; cases h1)]; exact h1, h2, fun i v t r a b => ?_⟩
  obtain ⟨p, q, e, y1, y2⟩ := h3 i v t r a b
  exact ⟨p, q, e, by rw [upd_ne (fun z => by rw [z, X] at y1; cases y1)]; exact y1, by rw [upd_ne (fun z => by rw [z, X] at y2; cases y2)]; exact y2⟩
theorem IsBids.snoc {H : Hp} {lb p b : Addr} {vs : List V} {bs : List (Nat × Nat)} {s r : Nat} (X : H lb = some (.lst vs)) (h : IsBids H lb bs) (hp : H p = some (.tup [.int (s : Nat), .ref b])) (hb : H b = some (.tup (bidR r))) : IsBids (upd H lb (.lst (vs ++ [.ref p]))) lb (bs ++ [(s, r)]) := by
  obtain ⟨vs', h1, h2, h3⟩ := h
  rw [X] at h1
  injection h1 with h1
  injection h1 with h1
  subst h1
  have ne : ∀ {q : Addr} {xs : List V}, H q = some (.tup xs) → upd H lb (.lst (vs ++ [.ref p])) q = some (.tup xs) := fun {q xs} hq => by rw [upd_ne (fun z => by rw [z, X] at hq; cases hq)]; exact hq
  refine ⟨_, upd_same, by rw [List.length_append, List.length_append, h2]; rfl, fun i v t u a c => ?_⟩
  by_cases e : i < vs.length
  · rw [List.getElem?_append_left e] at a
    rw [List.getElem?_append_left (by omega)] at c
    obtain ⟨p', q', e', y1, y2⟩ := h3 i v t u a c
    exact ⟨p', q', e', ne y1, ne y2⟩
  · have e2 : i = vs.length := by
      have := (List.getElem?_eq_some_iff.mp a).1
      rw [List.length_append] at this
      have : i < vs.length + 1 := this
      omega
    rw [e2, List.getElem?_append_right (Nat.le_refl _), Nat.sub_self] at a
    rw [e2, h2, List.getElem?_append_right (Nat.le_refl _), Nat.sub_self] at c
    have ea := Option.some.inj a
    have ec := Option.some.inj c
    injection ec with ec1 ec2
    subst ec1
    subst ec2
    exact ⟨p, b, ea.symm, ne hp, ne hb⟩
theorem IsBids.last {H : Hp} {lb : Addr} {bs : List (Nat × Nat)} {s r : Nat} (h : IsBids H lb (bs ++ [(s, r)])) : ∃ (vs : List V) (p b : Addr), H lb = some (.lst vs) ∧ 0 < vs.length ∧ atI vs (-1) = some (.ref p) ∧ H p = some (.tup [.int (s : Nat), .ref b]) ∧ H b = some (.tup (bidR r)) := by
  obtain ⟨vs, h1, h2, h3⟩ := h
  rw [List.length_append] at h2
  have h2' : vs.length = bs.length + 1 := h2
  have hi : vs[bs.length]? = some (vs[bs.length]'(by omega)) := List.getElem?_eq_getElem (by omega)
  obtain ⟨p, b, e, y1, y2⟩ := h3 bs.length _ s r hi (by rw [List.getElem?_append_right (Nat.le_refl _), Nat.sub_self]; rfl)
  refine ⟨vs, p, b, h1, by omega, ?_, y1, y2⟩
  rw [e] at hi
  have ix : ixN vs.length (-1) = some bs.length := by
    unfold ixN
    rw [if_neg (by decide), if_pos (by omega)]
    exact congrArg some (by omega)
  unfold atI
  rw [ix]
  exact hi
/-- the call c as the value v -/
def CallIs (H : Hp) (c : Nat) (v : V) : Prop := (c < 40 ∧ ∃ p, v = .ref p ∧ H p = some (.tup (bidR c))) ∨ (40 ≤ c ∧ v = .str (cT c))
structure WfA (n : Nat) (a : Au) : Prop where
  n34 : n = 3 ∨ n = 4
  ca : a.caller < n
  bd : ∀ b ∈ a.bids, b.1 < n ∧ b.2 < 40
  ln : a.bids.length ≤ 500
theorem lex_rank : ∀ r < 40, ∀ c < 40, HT.lexLt [((r / 5 : Nat) : Int) + 1, ((r % 5 : Nat) : Int)] [((c / 5 : Nat) : Int) + 1, ((c % 5 : Nat) : Int)] = decide (r < c) := by decide +kernel
def oS (o : Option Str) : V := match o with | none => .non | some s => .str s
end
end My

namespace My
open PySem L2
section
variable {P : Program} {w : World} {K : PySem.W.Frag} {mg : Str → Option Value} {base : Heap} {f g : Addr} {fd gd : FuncData}
/-! ### sides -/
def spSide : Sp := fun vs H Q _ => ∃ n s : Nat, vs = [.int (n : Nat), .int (s : Nat)] ∧ (n = 3 ∨ n = 4) ∧ s < 4 ∧ Q (.int (sideN n s : Nat)) H
theorem scSide : FnScope ["seats", "seat"] ["seats", "seat"] (defScope sSide) := ⟨rfl, rfl, rfl, by decide +kernel, rfl, by decide +kernel, by decide +kernel⟩
theorem ok_side {k : Nat} (F : Fun K "side_of" "side_of" sSide f fd) : FnOk P w K mg base CX0 (k + 1) f fd ["seats", "seat"] spSide := by
  refine F.ok scSide (fun vs H Q E h => ?_) (fun cdv A outer s H vs Q E hr h => ?_)
  · obtain ⟨n, s, rfl, _⟩ := h
    rfl
  obtain ⟨n, s, rfl, hn, hs, q⟩ := h
  refine ⟨_, pss_cons (ps_if (pt_cmpR op_eq (pv 0) pe_int (nomark _)) (pss_one (ps_ret (pe_op op_or (pe_op op_shl pe_int (pv 1)) (pe_op op_shl pe_int (pe_op op_mod (pe_op op_add (pv 1) pe_int) (pv 0)))))) pss_nil)
    (pss_one (ps_ret (pe_op op_shl pe_int (pv 1)))), ?_⟩
  refine ⟨_, rfl, rfl, _, rfl, ?_⟩
  have e4 : decide (V.int (n : Nat) = V.int 4) = decide (n = 4) := decide_eq_decide.mpr ⟨fun h => by injection h with h; omega, fun h => by rw [h]; rfl⟩
  refine chg e4 ?_
  unfold sideN at q
  by_cases c : n = 4
  · rw [decide_eq_true c]
    rw [if_pos c] at q
    subst c
    have em : (((s : Nat) : Int) + 2) % ((4 : Nat) : Int) = (((s + 2) % 4 : Nat) : Int) := by omega
    refine iteT ⟨_, rfl, _, _, rfl, rfl, ⟨by omega, by omega, by decide⟩, _, rfl, _, _, rfl, rfl, _, rfl, _, _, rfl, rfl, (show (0 : Int) < ((4 : Nat) : Int) by decide), _, _, rfl, rfl, ⟨?_, ?_, by decide⟩, _, _, rfl, rfl, ?_⟩
    · rw [em]; omega
    · rw [em]; omega
    · show Q (.int (Builtin.bitOr (1 * 2 ^ ((s : Nat) : Int).toNat) (1 * 2 ^ ((((s : Nat) : Int) + 2) % ((4 : Nat) : Int)).toNat))) H
      rw [em, Int.toNat_natCast, Int.toNat_natCast, Int.one_mul, Int.one_mul]
      have e2 : ∀ m : Nat, ((2 : Int) ^ m) = ((2 ^ m : Nat) : Int) := fun m => by rw [Int.natCast_pow]; rfl
      rw [e2, e2, show Builtin.bitOr ((2 ^ s : Nat) : Int) ((2 ^ ((s + 2) % 4) : Nat) : Int) = ((2 ^ s ||| 2 ^ ((s + 2) % 4) : Nat) : Int) by rw [or_pp (Int.natCast_nonneg _) (Int.natCast_nonneg _), Int.toNat_natCast, Int.toNat_natCast]]
      exact q
  · rw [decide_eq_false c]
    rw [if_neg c] at q
    refine iteF ⟨_, rfl, _, _, rfl, rfl, ⟨by omega, by omega, by decide⟩, ?_⟩
    show Q (.int (1 * 2 ^ ((s : Nat) : Int).toNat)) H
    rw [Int.toNat_natCast, Int.one_mul]
    have e2 : ∀ m : Nat, ((2 : Int) ^ m) = ((2 ^ m : Nat) : Int) := fun m => by rw [Int.natCast_pow]; rfl
    rw [e2]
    exact q
/-! ### the methods -/
def spAuInit (CA : Addr) : Sp := fun vs H Q _ => ∃ (x dx : Addr) (n g : Nat), vs = [.ref x, .int (n : Nat), .int (g : Nat)] ∧ H x = some (.ins CA dx []) ∧ ∀ lb H', (∀ b o, b ≠ x → H b = some o → H' b = some o) → H lb = none → IsAu CA n ⟨g, 0, 1, []⟩ H' x lb → Q .non H'
theorem scAuInit : FnScope ["self", "seats", "first"] ["self", "seats", "first"] (defScope sAuInit) := ⟨rfl, rfl, rfl, by decide +kernel, rfl, by decide +kernel, by decide +kernel⟩
theorem ok_auInit {k : Nat} {CA : Addr} (F : FunD K "__init__" "Auction.__init__" sAuInit f fd) (C : AuC K mg CA) : FnOk P w K mg base CX0 (k + 1) f fd ["self", "seats", "first"] (spAuInit CA) := by
  refine F.ok scAuInit (fun vs H Q E h => ?_) (fun cdv A outer s H vs Q E hr h => ?_)
  · obtain ⟨x, dx, n, g, rfl, _⟩ := h
    rfl
  obtain ⟨x, dx, n, g, rfl, hx, q⟩ := h
  refine ⟨_, pss_cons (ps_fld (pv 0) (pv 1) rfl) (pss_cons (ps_fld (pv 0) (pv 2) rfl) (pss_cons (ps_fld (pv 0) pe_int rfl) (pss_cons (ps_fld (pv 0) (pe_lst pa_nil) rfl) (pss_one (ps_fld (pv 0) pe_int rfl))))), ?_⟩
  refine ⟨_, rfl, _, rfl, x, CA, dx, [], rfl, hx, C.cl, C.n1, by decide, ?_⟩
  have b1 : (putF "seats" (.int (n : Nat)) []).length < 1000 := Nat.lt_of_le_of_lt (length_putF _ _ _) (by decide)
  refine ⟨_, rfl, _, rfl, x, CA, dx, _, rfl, upd_same, C.cl, C.n2, b1, ?_⟩
  have b2 : (putF "caller" (.int (g : Nat)) (putF "seats" (.int (n : Nat)) [])).length < 1000 := Nat.lt_of_le_of_lt (length_putF _ _ _) (Nat.lt_of_le_of_lt (Nat.succ_le_succ (length_putF _ _ _)) (by decide))
  refine ⟨_, rfl, x, CA, dx, _, rfl, upd_same, C.cl, C.n3, b2, ?_⟩
  have b3 : (putF "passes" (.int 0) (putF "caller" (.int (g : Nat)) (putF "seats" (.int (n : Nat)) []))).length < 1000 := Nat.lt_of_le_of_lt (length_putF _ _ _) (Nat.lt_of_le_of_lt (Nat.succ_le_succ (length_putF _ _ _)) (Nat.lt_of_le_of_lt (Nat.succ_le_succ (Nat.succ_le_succ (length_putF _ _ _))) (by decide)))
  refine ⟨fits3 0 (by decide), fun lb hlb => ?_⟩
  rw [upd_upd, upd_upd] at hlb
  have nx : x ≠ lb := fun z => by rw [← z, upd_same] at hlb; cases hlb
  have hlb0 : H lb = none := by rw [upd_ne (Ne.symm nx)] at hlb; exact hlb
  rw [upd_upd, upd_upd]
  refine ⟨_, rfl, x, CA, dx, _, rfl, (by rw [upd_ne nx]; exact upd_same), C.cl, C.n4, b3, ?_⟩
  have b4 : (putF "bids" (.ref lb) (putF "passes" (.int 0) (putF "caller" (.int (g : Nat)) (putF "seats" (.int (n : Nat)) [])))).length < 1000 := Nat.lt_of_le_of_lt (length_putF _ _ _) (Nat.lt_of_le_of_lt (Nat.succ_le_succ (length_putF _ _ _)) (Nat.lt_of_le_of_lt (Nat.succ_le_succ (Nat.succ_le_succ (length_putF _ _ _))) (Nat.lt_of_le_of_lt (Nat.succ_le_succ (Nat.succ_le_succ (Nat.succ_le_succ (length_putF _ _ _)))) (by decide))))
  refine ⟨_, rfl, x, CA, dx, _, rfl, upd_same, C.cl, C.n5, b4, ?_⟩
  rw [upd_upd]
  refine q lb _ (fun b o h1 h => ?_) hlb0 ⟨dx, _, upd_same, ?_, [], ?_, rfl, fun i v s r a _ => by cases a⟩
  · have h2 : b ≠ lb := fun z => by rw [z, hlb0] at h; cases h
    rw [upd_ne h1, upd_ne h2, upd_ne h1]
    exact h
  · refine ⟨?_, ?_, ?_, ?_, ?_, fun m hm => ?_, ?_⟩
    · rw [lookup_putF, if_neg (by decide +kernel), lookup_putF, if_neg (by decide +kernel), lookup_putF, if_neg (by decide +kernel), lookup_putF, if_neg (by decide +kernel), lookup_putF, if_pos rfl]
    · rw [lookup_putF, if_neg (by decide +kernel), lookup_putF, if_neg (by decide +kernel), lookup_putF, if_neg (by decide +kernel), lookup_putF, if_pos rfl]
    · rw [lookup_putF, if_neg (by decide +kernel), lookup_putF, if_neg (by decide +kernel), lookup_putF, if_pos rfl]
      rfl
    · rw [lookup_putF, if_neg (by decide +kernel), lookup_putF, if_pos rfl]
    · rw [lookup_putF, if_pos rfl]
      rfl
    · have ne : ∀ g ∈ auN, m ≠ g := fun g hg z => hm (z ▸ hg)
      rw [lookup_putF, if_neg (ne _ (by decide +kernel)), lookup_putF, if_neg (ne _ (by decide +kernel)), lookup_putF, if_neg (ne _ (by decide +kernel)), lookup_putF, if_neg (ne _ (by decide +kernel)), lookup_putF, if_neg (ne _ (by decide +kernel))]
      rfl
    · have y1 := length_putF "times" (.int 1) (putF "bids" (.ref lb) (putF "passes" (.int 0) (putF "caller" (.int (g : Nat)) (putF "seats" (.int (n : Nat)) []))))
      have y2 := length_putF "bids" (.ref lb) (putF "passes" (.int 0) (putF "caller" (.int (g : Nat)) (putF "seats" (.int (n : Nat)) [])))
      have y3 := length_putF "passes" (.int 0) (putF "caller" (.int (g : Nat)) (putF "seats" (.int (n : Nat)) []))
      have y4 := length_putF "caller" (.int (g : Nat)) (putF "seats" (.int (n : Nat)) [])
      have y5 := length_putF "seats" (.int (n : Nat)) []
      have y6 : ([] : List (Str × V)).length = 0 := rfl
      omega
  · rw [upd_ne (Ne.symm nx)]
    exact upd_same
theorem IsBids.len {H : Hp} {lb : Addr} {bs : List (Nat × Nat)} (h : IsBids H lb bs) : ∃ vs, H lb = some (.lst vs) ∧ vs.length = bs.length := by
  obtain ⟨vs, h1, h2, _⟩ := h
  exact ⟨vs, h1, h2⟩
def spDone (CA : Addr) : Sp := fun vs H Q _ => ∃ (x lb : Addr) (n : Nat) (a : Au), vs = [.ref x] ∧ IsAu CA n a H x lb ∧ 1 ≤ n ∧ Q (.bl (doneA n a)) H
theorem scDone : FnScope ["self", "needed"] ["self"] (defScope sDone) := ⟨rfl, rfl, rfl, by decide +kernel, rfl, by decide +kernel, by decide +kernel⟩
theorem ok_done {k : Nat} {CA : Addr} (F : Fun K "is_done" "Auction.is_done" sDone f fd) (C : AuC K mg CA) (ml : mg "len" = none) : FnOk P w K mg base CX0 (k + 1) f fd ["self"] (spDone CA) := by
  refine F.ok scDone (fun vs H Q E h => ?_) (fun cdv A outer s H vs Q E hr h => ?_)
  · obtain ⟨x, lb, n, a, rfl, _⟩ := h
    rfl
  obtain ⟨x, lb, n, a, rfl, ⟨dx, fs, hx, A1, B⟩, hn, q⟩ := h
  refine ⟨_, pss_cons (ps_set (i := 1) scDone.nd rfl (Or.inl rfl) (pe_ifExp (pt_cmpR op_eq (pe_callB call_len_seq rfl ml PySem.boot_len (pa_cons (pe_fld (pv 0) rfl) pa_nil)) pe_int (nomark _)) (pe_fld (pv 0) rfl) (pe_op op_sub (pe_fld (pv 0) rfl) pe_int)))
    (pss_one (ps_ret (pe_cmpR op_ge (pe_fld (pv 0) rfl) (pv 1) (nomark _)))), ?_⟩
  obtain ⟨vs, hL, hl⟩ := B.len
  refine ⟨_, rfl, x, CA, dx, _, _, rfl, hx, C.cl, C.n4, A1.l4, lb, _, rfl, .inl (SqL.of hL), rfl, _, rfl, ?_⟩
  have e0 : decide (V.int ((vs.length : Nat) : Int) = V.int 0) = decide (a.bids.length = 0) := decide_eq_decide.mpr ⟨fun h => by injection h with h; omega, fun h => by rw [hl, h]; rfl⟩
  refine chg e0 ?_
  unfold doneA at q
  by_cases c : a.bids.length = 0
  · rw [decide_eq_true c]
    rw [if_pos c] at q
    refine iteT ⟨_, rfl, x, CA, dx, _, _, rfl, hx, C.cl, C.n1, A1.l1, ?_⟩
    refine ⟨_, rfl, x, CA, dx, _, _, rfl, hx, C.cl, C.n3, A1.l3, _, rfl, _, _, rfl, rfl, ?_⟩
    have e : decide (((n : Nat) : Int) ≤ ((a.passes : Nat) : Int)) = decide (n ≤ a.passes) := decide_eq_decide.mpr ⟨fun h => by omega, fun h => by omega⟩
    show Q (.bl (decide (((n : Nat) : Int) ≤ ((a.passes : Nat) : Int)))) H
    rw [e]
    exact q
  · rw [decide_eq_false c]
    rw [if_neg c] at q
    refine iteF ⟨_, rfl, x, CA, dx, _, _, rfl, hx, C.cl, C.n1, A1.l1, _, _, rfl, rfl, ?_⟩
    refine ⟨_, rfl, x, CA, dx, _, _, rfl, hx, C.cl, C.n3, A1.l3, _, rfl, _, _, rfl, rfl, ?_⟩
    have e : decide (((n : Nat) : Int) - 1 ≤ ((a.passes : Nat) : Int)) = decide (n - 1 ≤ a.passes) := decide_eq_decide.mpr ⟨fun h => by omega, fun h => by omega⟩
    show Q (.bl (decide (((n : Nat) : Int) - 1 ≤ ((a.passes : Nat) : Int)))) H
    rw [e]
    exact q
def spTurn (CA : Addr) : Sp := fun vs H Q _ => ∃ (x lb : Addr) (n : Nat) (a : Au), vs = [.ref x] ∧ IsAu CA n a H x lb ∧ 1 ≤ n ∧ Q (if doneA n a = true then .non else .int (a.caller : Nat)) H
theorem scTurn : FnScope ["self"] ["self"] (defScope sTurn) := ⟨rfl, rfl, rfl, by decide +kernel, rfl, by decide +kernel, by decide +kernel⟩
theorem ok_turn {k : Nat} {CA m1 : Addr} {e1 : FuncData} (F : Fun K "turn" "Auction.turn" sTurn f fd) (C : AuC K mg CA) (MD : Meth K CA "is_done" m1) (FD : FnOk P w K mg base CX0 k m1 e1 ["self"] (spDone CA)) (BD : Binds K e1 ["self"] []) : FnOk P w K mg base CX0 (k + 1) f fd ["self"] (spTurn CA) := by
  refine F.ok scTurn (fun vs H Q E h => ?_) (fun cdv A outer s H vs Q E hr h => ?_)
  · obtain ⟨x, lb, n, a, rfl, _⟩ := h
    rfl
  obtain ⟨x, lb, n, a, rfl, I, hn, q⟩ := h
  refine ⟨_, pss_one (ps_ret (pe_ifExp (pt_truth (pe_meth0 (pv 0) C.cl MD FD hr BD .nil pass0) (fun _ => rfl)) pe_non (pe_fld (pv 0) rfl))), ?_⟩
  obtain ⟨dx, fs, hx, A1, B⟩ := id I
  refine ⟨_, rfl, x, dx, _, rfl, hx, A1.nm _ (by decide +kernel), x, lb, n, a, rfl, I, hn, _, rfl, ?_⟩
  cases e : doneA n a with
  | true =>
    rw [e, if_pos rfl] at q
    exact iteT q
  | false =>
    rw [e, if_neg (by decide)] at q
    exact iteF ⟨_, rfl, x, CA, dx, _, _, rfl, hx, C.cl, C.n2, A1.l2, q⟩
def spOwn (CA : Addr) : Sp := fun vs H Q _ => ∃ (x lb : Addr) (n : Nat) (a : Au), vs = [.ref x] ∧ IsAu CA n a H x lb ∧ WfA n a ∧ a.bids ≠ [] ∧ Q (.bl (ownA n a)) H
theorem scOwn : FnScope ["self"] ["self"] (defScope sOwn) := ⟨rfl, rfl, rfl, by decide +kernel, rfl, by decide +kernel, by decide +kernel⟩
theorem snoc_of {α : Type} {l : List α} (h : l ≠ []) : ∃ bs b, l = bs ++ [b] := ⟨l.dropLast, l.getLast h, (List.dropLast_concat_getLast h).symm⟩
theorem ok_own {k : Nat} {CA f1 : Addr} {d1 : FuncData} (F : Fun K "is_own_bid" "Auction.is_own_bid" sOwn f fd) (C : AuC K mg CA) (LS : Lib P w K mg base k "side_of" ["seats", "seat"] spSide f1 d1) : FnOk P w K mg base CX0 (k + 1) f fd ["self"] (spOwn CA) := by
  refine F.ok scOwn (fun vs H Q E h => ?_) (fun cdv A outer s H vs Q E hr h => ?_)
  · obtain ⟨x, lb, n, a, rfl, _⟩ := h
    rfl
  obtain ⟨x, lb, n, a, rfl, ⟨dx, fs, hx, A1, B⟩, W, hb, q⟩ := h
  refine ⟨_, pss_one (ps_ret (pe_cmpR op_eq (pe_call LS.ok hr rfl LS.mg LS.kp LS.bd .nil pass0 (pa_cons (pe_fld (pv 0) rfl) (pa_cons (pe_ix ix_tup (pe_ix ix_list (pe_fld (pv 0) rfl) (pe_un un_neg pe_int) (fun _ _ => rfl)) pe_int (fun _ _ => rfl)) pa_nil))) (pe_call LS.ok hr rfl LS.mg LS.kp LS.bd .nil pass0 (pa_cons (pe_fld (pv 0) rfl) (pa_cons (pe_fld (pv 0) rfl) pa_nil))) (nomark _))), ?_⟩
  obtain ⟨bs, ⟨s0, r0⟩, eb⟩ := snoc_of hb
  have B' := B
  rw [eb] at B'
  obtain ⟨vs, p, b, hL, hl, hat, hp, hbb⟩ := B'.last
  have hs0 := (W.bd (s0, r0) (by rw [eb]; exact List.mem_append_right _ (List.mem_singleton.mpr rfl))).1
  have n4 : n ≤ 4 := by rcases W.n34 with z | z <;> omega
  have hca := W.ca
  refine ⟨_, rfl, x, CA, dx, _, _, rfl, hx, C.cl, C.n1, A1.l1, _, rfl, x, CA, dx, _, _, rfl, hx, C.cl, C.n4, A1.l4, _, rfl, lb, _, _, _, rfl, rfl, SqL.of hL, hat, p, _, _, _, rfl, rfl, SqT.of hp, rfl, n, s0, rfl, W.n34, by have : s0 < n := hs0; omega, ?_⟩
  refine ⟨_, rfl, x, CA, dx, _, _, rfl, hx, C.cl, C.n1, A1.l1, _, rfl, x, CA, dx, _, _, rfl, hx, C.cl, C.n2, A1.l2, n, a.caller, rfl, W.n34, by omega, rfl, ?_⟩
  unfold ownA at q
  rw [eb, List.getLast?_concat] at q
  have e : decide (V.int (sideN n s0 : Nat) = V.int (sideN n a.caller : Nat)) = decide (sideN n s0 = sideN n a.caller) := decide_eq_decide.mpr ⟨fun h => by injection h with h; exact Int.ofNat.inj h, fun h => by rw [h]⟩
  show Q (.bl (decide (V.int (sideN n s0 : Nat) = V.int (sideN n a.caller : Nat)))) H
  rw [e]
  exact q
def spMayD (CA : Addr) (t : Nat) (o : Bool) : Sp := fun vs H Q _ => ∃ (x lb : Addr) (n : Nat) (a : Au), vs = [.ref x] ∧ IsAu CA n a H x lb ∧ WfA n a ∧ Q (.bl (!decide (a.bids = []) && (decide (a.times = t) && (ownA n a == o)))) H
theorem scDbl : FnScope ["self"] ["self"] (defScope sDbl) := ⟨rfl, rfl, rfl, by decide +kernel, rfl, by decide +kernel, by decide +kernel⟩
theorem scAgn : FnScope ["self"] ["self"] (defScope sAgn) := ⟨rfl, rfl, rfl, by decide +kernel, rfl, by decide +kernel, by decide +kernel⟩
theorem len_gt {α : Type} {vs : List V} {bs : List α} (h : vs.length = bs.length) : decide (((vs.length : Nat) : Int) > 0) = !decide (bs.length = 0) := by
  rw [h]
  by_cases c : bs.length = 0
  · rw [c]; rfl
  · rw [decide_eq_false c]
    exact decide_eq_true (by omega)
theorem len_nil {α : Type} [DecidableEq α] (bs : List α) : decide (bs.length = 0) = decide (bs = []) := by cases bs <;> simp
theorem ok_dbl {k : Nat} {CA m1 : Addr} {e1 : FuncData} (F : Fun K "may_double" "Auction.may_double" sDbl f fd) (C : AuC K mg CA) (MO : Meth K CA "is_own_bid" m1) (FO : FnOk P w K mg base CX0 k m1 e1 ["self"] (spOwn CA)) (BO : Binds K e1 ["self"] []) (ml : mg "len" = none) : FnOk P w K mg base CX0 (k + 1) f fd ["self"] (spMayD CA 1 false) := by
  refine F.ok scDbl (fun vs H Q E h => ?_) (fun cdv A outer s H vs Q E hr h => ?_)
  · obtain ⟨x, lb, n, a, rfl, _⟩ := h
    rfl
  obtain ⟨x, lb, n, a, rfl, I, W, q⟩ := h
  refine ⟨_, pss_one (ps_ret (pe_and (pe_cmpR op_gt (pe_callB call_len_seq rfl ml PySem.boot_len (pa_cons (pe_fld (pv 0) rfl) pa_nil)) pe_int (nomark _)) (pe_and (pe_cmpR op_eq (pe_fld (pv 0) rfl) pe_int (nomark _)) (pe_one (pe_not (pe_meth0 (pv 0) C.cl MO FO hr BO .nil pass0)))))), ?_⟩
  obtain ⟨dx, fs, hx, A1, B⟩ := id I
  obtain ⟨vs, hL, hl⟩ := B.len
  refine ⟨_, rfl, x, CA, dx, _, _, rfl, hx, C.cl, C.n4, A1.l4, lb, _, rfl, .inl (SqL.of hL), _, _, rfl, rfl, _, rfl, ?_⟩
  refine chg ((len_gt hl).trans (congrArg (fun b => !b) (len_nil a.bids))) ?_
  by_cases c : a.bids = []
  · rw [decide_eq_true c] at q ⊢
    exact iteF q
  rw [decide_eq_false c] at q ⊢
  refine iteT ⟨_, rfl, x, CA, dx, _, _, rfl, hx, C.cl, C.n5, A1.l5, rfl, _, rfl, ?_⟩
  have e : decide (V.int (a.times : Nat) = V.int 1) = decide (a.times = 1) := decide_eq_decide.mpr ⟨fun h => by injection h with h; omega, fun h => by rw [h]; rfl⟩
  refine chg e ?_
  by_cases c2 : a.times = 1
  · rw [decide_eq_true c2] at q ⊢
    refine iteT ⟨_, rfl, x, dx, _, rfl, hx, A1.nm _ (by decide +kernel), x, lb, n, a, rfl, I, W, c, _, rfl, ?_⟩
    cases e : ownA n a <;> (rw [e] at q; exact q)
  · rw [decide_eq_false c2] at q ⊢
    exact iteF q
theorem ok_agn {k : Nat} {CA m1 : Addr} {e1 : FuncData} (F : Fun K "may_again" "Auction.may_again" sAgn f fd) (C : AuC K mg CA) (MO : Meth K CA "is_own_bid" m1) (FO : FnOk P w K mg base CX0 k m1 e1 ["self"] (spOwn CA)) (BO : Binds K e1 ["self"] []) (ml : mg "len" = none) : FnOk P w K mg base CX0 (k + 1) f fd ["self"] (spMayD CA 2 true) := by
  refine F.ok scAgn (fun vs H Q E h => ?_) (fun cdv A outer s H vs Q E hr h => ?_)
  · obtain ⟨x, lb, n, a, rfl, _⟩ := h
    rfl
  obtain ⟨x, lb, n, a, rfl, I, W, q⟩ := h
  refine ⟨_, pss_one (ps_ret (pe_and (pe_cmpR op_gt (pe_callB call_len_seq rfl ml PySem.boot_len (pa_cons (pe_fld (pv 0) rfl) pa_nil)) pe_int (nomark _)) (pe_and (pe_cmpR op_eq (pe_fld (pv 0) rfl) pe_int (nomark _)) (pe_one (pe_meth0 (pv 0) C.cl MO FO hr BO .nil pass0))))), ?_⟩
  obtain ⟨dx, fs, hx, A1, B⟩ := id I
  obtain ⟨vs, hL, hl⟩ := B.len
  refine ⟨_, rfl, x, CA, dx, _, _, rfl, hx, C.cl, C.n4, A1.l4, lb, _, rfl, .inl (SqL.of hL), _, _, rfl, rfl, _, rfl, ?_⟩
  refine chg ((len_gt hl).trans (congrArg (fun b => !b) (len_nil a.bids))) ?_
  by_cases c : a.bids = []
  · rw [decide_eq_true c] at q ⊢
    exact iteF q
  rw [decide_eq_false c] at q ⊢
  refine iteT ⟨_, rfl, x, CA, dx, _, _, rfl, hx, C.cl, C.n5, A1.l5, rfl, _, rfl, ?_⟩
  have e : decide (V.int (a.times : Nat) = V.int 2) = decide (a.times = 2) := decide_eq_decide.mpr ⟨fun h => by injection h with h; omega, fun h => by rw [h]; rfl⟩
  refine chg e ?_
  by_cases c2 : a.times = 2
  · rw [decide_eq_true c2] at q ⊢
    refine iteT ⟨_, rfl, x, dx, _, rfl, hx, A1.nm _ (by decide +kernel), x, lb, n, a, rfl, I, W, c, ?_⟩
    cases e : ownA n a <;> (rw [e] at q; exact q)
  · rw [decide_eq_false c2] at q ⊢
    exact iteF q
end
end My

namespace My
open PySem L2
section
variable {P : Program} {w : World} {K : PySem.W.Frag} {mg : Str → Option Value} {base : Heap} {f g : Addr} {fd gd : FuncData}
def spBrk (CA : Addr) : Sp := fun vs H Q _ => ∃ (x lb : Addr) (n : Nat) (a : Au) (c : Nat) (v : V), vs = [.ref x, v] ∧ c < 43 ∧ CallIs H c v ∧ IsAu CA n a H x lb ∧ WfA n a ∧ ∀ H', Same H H' → Q (oS (brkA n a c)) H'
theorem scBrk : FnScope ["self", "call"] ["self", "call"] (defScope sBrk) := ⟨rfl, rfl, rfl, by decide +kernel, rfl, by decide +kernel, by decide +kernel⟩
theorem eqS_call {c : Nat} {v : V} {H : Hp} {R : V → Hp → Prop} {t : Str} (hc : c < 43) (h : CallIs H c v) (ht : ∀ m < 40, callT m ≠ t) (q : R (.bl (decide (cT c = t))) H) : rEqS K v (.str t) H R := by
  rcases h with ⟨h1, p, rfl, h2⟩ | ⟨h1, rfl⟩
  · refine .inr ⟨p, _, t, rfl, rfl, SqT.of h2, ?_⟩
    rw [cT_bid h1, decide_eq_false (ht c h1)] at q
    exact q
  · refine .inl ⟨rfl, ?_⟩
    rw [str_dec]
    exact q
theorem no_pass : ∀ m < 40, callT m ≠ "pass" := by decide +kernel
theorem no_dbl : ∀ m < 40, callT m ≠ "double" := by decide +kernel
theorem no_agn : ∀ m < 40, callT m ≠ "again" := by decide +kernel
theorem isTup_call {c : Nat} {v : V} {H : Hp} (h : CallIs H c v) : ∃ t, TyOf K H v t ∧ PySem.W.kitOne K t (.type "tuple") = some (decide (c < 40)) := by
  rcases h with ⟨h1, p, rfl, h2⟩ | ⟨h1, rfl⟩
  · rw [decide_eq_true h1]
    exact ⟨_, .tup h2, rfl⟩
  · rw [decide_eq_false (by omega)]
    exact ⟨_, .str _, by with_unfolding_all rfl⟩
theorem ok_brk {k : Nat} {CA m1 m2 m3 f4 : Addr} {e1 e2 e3 d4 : FuncData} (F : Fun K "broken_rule" "Auction.broken_rule" sBrk f fd) (C : AuC K mg CA) (MD : Meth K CA "is_done" m1) (FD : FnOk P w K mg base CX0 k m1 e1 ["self"] (spDone CA)) (BD : Binds K e1 ["self"] [])
    (M1 : Meth K CA "may_double" m2) (F1 : FnOk P w K mg base CX0 k m2 e2 ["self"] (spMayD CA 1 false)) (B1 : Binds K e2 ["self"] []) (M2 : Meth K CA "may_again" m3) (F2 : FnOk P w K mg base CX0 k m3 e3 ["self"] (spMayD CA 2 true)) (B2 : Binds K e3 ["self"] [])
    (LA : Lib P w K mg base k "above" ["bid", "other"] (spAbove K) f4 d4) (ml : mg "len" = none) (mi : mg "isinstance" = none) (mt : mg "tuple" = none) : FnOk P w K mg base CX0 (k + 1) f fd ["self", "call"] (spBrk CA) := by
  refine F.ok scBrk (fun vs H Q E h => ?_) (fun cdv A outer s H vs Q E hr h => ?_)
  · obtain ⟨x, lb, n, a, c, v, rfl, _⟩ := h
    rfl
  obtain ⟨x, lb, n, a, c, v, rfl, hc, hv, I, W, q⟩ := h
  refine ⟨_, pss_cons (ps_if (pt_truth (pe_meth0 (pv 0) C.cl MD FD hr BD .nil pass0) (fun _ => rfl)) (pss_one (ps_ret pe_str)) pss_nil)
    (pss_cons (ps_if (PW.pt (pw_and (pt_truth (pe_callB call_isT rfl mi PyProof.Rows.boot_isinstance (pa_cons (pv 1) (pa_cons (pe_bltn (v := .ty "tuple") rfl mt PyProof.Rows.boot_tuple rfl) pa_nil))) (fun _ => rfl)) (pw_and (pt_cmpR op_gt (pe_callB call_len_seq rfl ml PySem.boot_len (pa_cons (pe_fld (pv 0) rfl) pa_nil)) pe_int (nomark _)) (pw_and1 (pt_not (pt_truth (pe_call LA.ok hr rfl LA.mg LA.kp LA.bd .nil pass0 (pa_cons (pv 1) (pa_cons (pe_ix ix_tup (pe_ix ix_list (pe_fld (pv 0) rfl) (pe_un un_neg pe_int) (fun _ _ => rfl)) pe_int (fun _ _ => rfl)) pa_nil))) (fun _ => rfl))))))) (pss_one (ps_ret pe_str)) pss_nil)
    (pss_cons (ps_if (PW.pt (pw_and (pt_cmpR (op_eqS hr.units) (pv 1) pe_str (nomark _)) (pw_and1 (pt_not (pt_truth (pe_meth0 (pv 0) C.cl M1 F1 hr B1 .nil pass0) (fun _ => rfl)))))) (pss_one (ps_ret pe_str)) pss_nil)
    (pss_cons (ps_if (PW.pt (pw_and (pt_cmpR (op_eqS hr.units) (pv 1) pe_str (nomark _)) (pw_and1 (pt_not (pt_truth (pe_meth0 (pv 0) C.cl M2 F2 hr B2 .nil pass0) (fun _ => rfl)))))) (pss_one (ps_ret pe_str)) pss_nil)
    (pss_one (ps_ret pe_non))))), ?_⟩
  obtain ⟨dx, fs, hx, A1, B⟩ := id I
  have n1 : 1 ≤ n := by rcases W.n34 with z | z <;> omega
  refine ⟨_, rfl, x, dx, _, rfl, hx, A1.nm _ (by decide +kernel), x, lb, n, a, rfl, I, n1, _, rfl, ?_⟩
  unfold brkA at q
  by_cases cd : doneA n a = true
  · rw [if_pos cd] at q
    exact chg cd (iteT (q H (Same.refl H)))
  rw [if_neg cd] at q
  refine chg (Bool.eq_false_iff.mpr cd) (iteF ?_)
  have T : decide (c < 40) = true ∨ decide (c < 40) = false := by cases decide (c < 40) <;> simp
  by_cases c40 : c < 40
  · have e41 : decide (cT c = "double") = false := by rw [cT_dbl c hc]; exact decide_eq_false (by omega)
    have e42 : decide (cT c = "again") = false := by rw [cT_agn c hc]; exact decide_eq_false (by omega)
    obtain ⟨p, rfl, hp⟩ : ∃ p, v = .ref p ∧ H p = some (.tup (bidR c)) := by
      rcases hv with ⟨_, z⟩ | ⟨z, _⟩
      · exact z
      · omega
    obtain ⟨vs, hL, hl⟩ := B.len
    obtain ⟨ty, ty1, ty2⟩ := isTup_call (K := K) hv
    refine ⟨_, rfl, _, _, ty, _, rfl, ty1, ty2, _, rfl, chg (decide_eq_true c40) (iteT ?_)⟩
    refine ⟨_, rfl, x, CA, dx, _, _, rfl, hx, C.cl, C.n4, A1.l4, lb, _, rfl, .inl (SqL.of hL), _, _, rfl, rfl, _, rfl, ?_⟩
    refine chg ((len_gt hl).trans (congrArg (fun b => !b) (len_nil a.bids))) ?_
    by_cases cb : a.bids = []
    · rw [decide_eq_true cb]
      rw [cb, List.getLast?_nil] at q
      dsimp only at q
      rw [if_neg (by omega), if_neg (by omega)] at q
      refine iteF (iteF ⟨_, rfl, eqS_call (K := K) hc hv no_dbl ⟨_, rfl, chg e41 (iteF (iteF ⟨_, rfl, eqS_call (K := K) hc hv no_agn ⟨_, rfl, chg e42 (iteF (iteF ?_))⟩⟩))⟩⟩)
      exact q H (Same.refl H)
    · rw [decide_eq_false cb]
      obtain ⟨bs, ⟨s0, r0⟩, eb⟩ := snoc_of cb
      have B' := B
      rw [eb] at B'
      obtain ⟨vs', p', b', hL', hl', hat, hp', hb'⟩ := B'.last
      have hr0 : r0 < 40 := (W.bd (s0, r0) (by rw [eb]; exact List.mem_append_right _ (List.mem_singleton.mpr rfl))).2
      rw [eb, List.getLast?_concat] at q
      dsimp only at q
      rw [if_pos c40] at q
      refine iteT ⟨_, rfl, _, rfl, x, CA, dx, _, _, rfl, hx, C.cl, C.n4, A1.l4, _, rfl, lb, _, _, _, rfl, rfl, SqL.of hL', hat, p', _, _, _, rfl, rfl, SqT.of hp', rfl, p, b', _, _, c % 5, r0 % 5, rfl, SqT.of hp, SqT.of hb', Nat.mod_lt _ (by decide), Nat.mod_lt _ (by decide), fun H1 s1 => ⟨_, rfl, ?_⟩⟩
      refine chg (congrArg (fun b => !b) (lex_rank r0 hr0 c c40)) ?_
      by_cases lt : r0 < c
      · rw [if_pos lt] at q
        rw [decide_eq_true lt]
        have hv1 : CallIs H1 c (.ref p) := .inl ⟨c40, p, rfl, s1 _ _ hp⟩
        exact iteF ⟨_, rfl, eqS_call (K := K) hc hv1 no_dbl ⟨_, rfl, chg e41 (iteF (iteF ⟨_, rfl, eqS_call (K := K) hc hv1 no_agn ⟨_, rfl, chg e42 (iteF (iteF (q H1 s1)))⟩⟩))⟩⟩
      · rw [if_neg lt] at q
        rw [decide_eq_false lt]
        exact iteT (q H1 s1)
  · obtain ⟨ty, ty1, ty2⟩ := isTup_call (K := K) hv
    refine ⟨_, rfl, _, _, ty, _, rfl, ty1, ty2, _, rfl, chg (decide_eq_false c40) (iteF (iteF ?_))⟩
    have e41 : decide (cT c = "double") = decide (c = 41) := cT_dbl c hc
    have e42 : decide (cT c = "again") = decide (c = 42) := cT_agn c hc
    refine ⟨_, rfl, eqS_call (K := K) hc hv no_dbl ⟨_, rfl, chg e41 ?_⟩⟩
    by_cases d1 : c = 41
    · have d2 : ¬ c = 42 := by omega
      rw [decide_eq_true d1]
      refine iteT ⟨_, rfl, x, dx, _, rfl, hx, A1.nm _ (by decide +kernel), x, lb, n, a, rfl, I, W, _, rfl, ?_⟩
      by_cases cb : a.bids = []
      · rw [cb, List.getLast?_nil] at q
        dsimp only at q
        rw [if_pos d1] at q
        refine chg (show (!(!decide (a.bids = []) && (decide (a.times = 1) && (ownA n a == false)))) = true by rw [decide_eq_true cb]; rfl) (iteT (q H (Same.refl H)))
      · obtain ⟨bs, ⟨s0, r0⟩, eb⟩ := snoc_of cb
        rw [eb, List.getLast?_concat] at q
        dsimp only at q
        rw [if_neg c40, if_pos d1] at q
        by_cases g : a.times = 1 ∧ ownA n a = false
        · rw [if_pos g] at q
          refine chg (show (!(!decide (a.bids = []) && (decide (a.times = 1) && (ownA n a == false)))) = false by rw [decide_eq_false cb, decide_eq_true g.1, g.2]; rfl) (iteF ?_)
          exact ⟨_, rfl, eqS_call (K := K) hc hv no_agn ⟨_, rfl, chg (e42.trans (decide_eq_false d2)) (iteF (iteF (q H (Same.refl H))))⟩⟩
        · rw [if_neg g] at q
          refine chg (show (!(!decide (a.bids = []) && (decide (a.times = 1) && (ownA n a == false)))) = true by
            rw [decide_eq_false cb]
            by_cases g1 : a.times = 1
            · have : ownA n a = true := by cases h : ownA n a with | true => rfl | false => exact absurd ⟨g1, h⟩ g
              rw [decide_eq_true g1, this]; rfl
            · rw [decide_eq_false g1]; rfl) (iteT (q H (Same.refl H)))
    · rw [decide_eq_false d1]
      refine iteF (iteF ⟨_, rfl, eqS_call (K := K) hc hv no_agn ⟨_, rfl, chg e42 ?_⟩⟩)
      by_cases d2 : c = 42
      · rw [decide_eq_true d2]
        refine iteT ⟨_, rfl, x, dx, _, rfl, hx, A1.nm _ (by decide +kernel), x, lb, n, a, rfl, I, W, _, rfl, ?_⟩
        by_cases cb : a.bids = []
        · rw [cb, List.getLast?_nil] at q
          dsimp only at q
          rw [if_neg d1, if_pos d2] at q
          refine chg (show (!(!decide (a.bids = []) && (decide (a.times = 2) && (ownA n a == true)))) = true by rw [decide_eq_true cb]; rfl) (iteT (q H (Same.refl H)))
        · obtain ⟨bs, ⟨s0, r0⟩, eb⟩ := snoc_of cb
          rw [eb, List.getLast?_concat] at q
          dsimp only at q
          rw [if_neg c40, if_neg d1, if_pos d2] at q
          by_cases g : a.times = 2 ∧ ownA n a = true
          · rw [if_pos g] at q
            exact chg (show (!(!decide (a.bids = []) && (decide (a.times = 2) && (ownA n a == true)))) = false by rw [decide_eq_false cb, decide_eq_true g.1, g.2]; rfl) (iteF (q H (Same.refl H)))
          · rw [if_neg g] at q
            refine chg (show (!(!decide (a.bids = []) && (decide (a.times = 2) && (ownA n a == true)))) = true by
              rw [decide_eq_false cb]
              by_cases g1 : a.times = 2
              · have : ownA n a = false := by cases h : ownA n a with | false => rfl | true => exact absurd ⟨g1, h⟩ g
                rw [decide_eq_true g1, this]; rfl
              · rw [decide_eq_false g1]; rfl) (iteT (q H (Same.refl H)))
      · rw [decide_eq_false d2]
        have qn : Q .non H := by
          have z := q H (Same.refl H)
          cases e : a.bids.getLast? with
          | none =>
            rw [e] at z
            dsimp only at z
            rw [if_neg d1, if_neg d2] at z
            exact z
          | some b =>
            rw [e] at z
            dsimp only at z
            rw [if_neg c40, if_neg d1, if_neg d2] at z
            exact z
        exact iteF (iteF qn)
end
end My

namespace L2
open PySem PySem.Spec PyProof.Rows Builtin Builtin.ObjectAttr
/-! ### an own exception with an own __init__: made -/
section
variable {prog : Program} {w : World} {A : Around} {E : Value → Shared → Prop} {h : Heap} {g : Array GenState} {d : Drawn} {t : Nat} {os : OsState}
variable {nm q : Str} {C N : Addr} {bs bm bmB : List Value} {hdct : Bool} {sn : List Str} {sub : List Value} {ab : Bool} {col : Option Bool} {dd : Option Addr} {k0 k1 k2 k3 k5 : Option Value} {B newId initId : String}
theorem type_call_initT (F : ExcBaseFacts B newId initId bmB) (T : OwnTail h bmB bm) {mN : Str → Option Value} {rest : List Value} {fI : Addr} {oI : Obj} {Q : Fin → Shared → Prop}
    (hC : h.get? C = some (excClassObj nm q C N bs bm hdct sn sub ab col dd k0 k1 k2 k3 k5 newId)) (hn : h.Ns N mN) (hi : mN "__init__" = some (.ref fI)) (hfI : h.get? fI = some oI) (hfc : oI.cls = .type "function")
    (hq : ∀ h' e, Heap.MadeExcOf h h' e (.ref C) rest → wpAny (model prog w) A (call (.ref fI) (.ref e :: rest)) (fun r s' => r = .none ∧ Q (.done (.ret (.ref e))) s') E ⟨h', g, d, t, os⟩) (hrest : rest.length ≤ sizeLine) :
    wpAny (model prog w) A (Builtin.«type.__call__» ⟨.ref C :: rest, []⟩) Q E ⟨h, g, d, t, os⟩ := by
  repeat (first | with_reducible refine wpAny_loadPart_at hC ?_ | with_reducible refine wpAny_madeBy_exc hC ?_ | wp_step)
  refine codeAny_call_builtin_code (Code.quiet_builtin _ F.quiet) (wpAny_check_new_subT F T hC ?_)
  refine codeAny_exc_new_subT F T hC ?_ hrest
  show wpAny _ _ _ _ _ _
  generalize hp1 : h.push { cls := .type "tuple", data := .seq rest.toArray } = p1
  generalize hp2 : p1.push { cls := .ref C, data := .fields #[.ref h.objs.size, .none, .none, .none, .bool false, .none] } = p2
  have kp : ∀ b o, h.get? b = some o → p2.get? b = some o := fun b o e => by rw [← hp2, ← hp1]; exact Heap.get?_push_of_some _ (Heap.get?_push_of_some _ e)
  have hC₁ := kp _ _ hC
  have hfI₁ := kp _ _ hfI
  have hn₁ : p2.Ns N mN := hn.keeps kp
  have T₁ := T.keeps kp
  have hget : p2.get? (h.objs.size + 1) = some { cls := .ref C, data := .fields #[.ref h.objs.size, .none, .none, .none, .bool false, .none] } := by
    rw [← hp2]
    exact Heap.get?_push_at (by rw [← hp1, Heap.size_push]) rfl
  have hcC : (Value.ref C :: bm).contains (.ref C) = true := by simp
  unfold isInstance
  repeat (first | with_reducible refine wpAny_loadPart_at hget ?_ | (with_reducible refine wpAny_isSubtype_exc hC₁ ?_; rw [hcC]) | wp_step)
  show wpAny _ _ (typeLookup (.ref C) _) _ _ _
  refine wpAny_typeLookup_tail hC₁ hn₁ T₁ F.mroIs F.init.lookup ?_
  rw [hi]
  refine wpAny_holding (wpAny_bind ?_)
  unfold bindSpecial
  refine wpAny_bind (wpAny_typeOf (T := "function") ⟨_, hfI₁, hfc⟩ ?_)
  rw [if_pos (by decide)]
  refine wpAny_pure (wpAny_bind (wpAny_mono (hq _ (h.objs.size + 1) ⟨kp, Heap.get?_none_of_le (Nat.le_succ _), h.objs.size, hget, Heap.get?_none_of_le (Nat.le_refl _), ?_⟩) (fun r s' hr => ?_) fun _ _ x => x))
  · rw [← hp2, ← hp1]; exact Heap.get?_push_of_some _ (Heap.get?_push_at rfl rfl)
  · obtain ⟨rfl, hQ⟩ := hr
    wp_walk
    exact hQ
theorem call_initT (F : ExcBaseFacts B newId initId bmB) (T : OwnTail h bmB bm) {mN : Str → Option Value} {rest : List Value} {fI : Addr} {oI : Obj} {Q : Value → Shared → Prop}
    (hC : h.get? C = some (excClassObj nm q C N bs bm hdct sn sub ab col dd k0 k1 k2 k3 k5 newId)) (hn : h.Ns N mN) (hi : mN "__init__" = some (.ref fI)) (hfI : h.get? fI = some oI) (hfc : oI.cls = .type "function")
    (hq : ∀ h' e, Heap.MadeExcOf h h' e (.ref C) rest → wpAny (model prog w) (A.under (.builtin "type.__call__" ⟨.ref C :: rest, []⟩)) (call (.ref fI) (.ref e :: rest)) (fun r s' => r = .none ∧ Q (.ref e) s') E ⟨h', g, d, t, os⟩) (hrest : rest.length ≤ sizeLine) :
    wpAny (model prog w) A (call (.ref C) rest) Q E ⟨h, g, d, t, os⟩ := by
  have f1 := tc_lookup
  have f2 := tc_bind (.ref C)
  have hT : (⟨h, g, d, t, os⟩ : Shared).TypeIs (.ref C) "type" := ⟨_, hC, rfl⟩
  refine wpAny_call (codeAny_of_tree ?_)
  show wpAny _ _ (callAny (.ref C) _) _ _ _
  repeat (any_goals (first | assumption | with_reducible refine wpAny_loadPart_at hC ?_ | wp_step))
  refine ⟨rfl, ?_⟩
  refine codeAny_call_builtin_at (Code.quiet_builtin _ (by decide +kernel)) entry_typeCall (wpAny_check_type_call_sub hC (type_call_initT (hrest := hrest) F T hC hn hi hfI hfc fun h' e hm => ?_))
  exact hq h' e hm
end
/-! ### its attributes -/
def onlyTail : List Value → Bool
  | .ref _ :: r => onlyTail r
  | l => l == veTail
theorem refuse_tail (self : Value) : ∀ {l : List Value}, onlyTail l = true → refuseLoop self "__setattr__" l = pure ()
  | .ref c :: r, e => by rw [refuseLoop_ref]; exact refuse_tail self e
  | [], e => by rw [show ([] : List Value) = veTail from beq_iff_eq.mp e]; exact PySem.F.store_ValueError.passes self
  | .none :: r, e => by rw [show (.none :: r : List Value) = veTail from beq_iff_eq.mp e]; exact PySem.F.store_ValueError.passes self
  | .type n :: r, e => by rw [show (.type n :: r : List Value) = veTail from beq_iff_eq.mp e]; exact PySem.F.store_ValueError.passes self
  | .bool n :: r, e => by rw [show (.bool n :: r : List Value) = veTail from beq_iff_eq.mp e]; exact PySem.F.store_ValueError.passes self
  | .builtin n :: r, e => by rw [show (.builtin n :: r : List Value) = veTail from beq_iff_eq.mp e]; exact PySem.F.store_ValueError.passes self
  | .int n t :: r, e => by rw [show (.int n t :: r : List Value) = veTail from beq_iff_eq.mp e]; exact PySem.F.store_ValueError.passes self
  | .str n t :: r, e => by rw [show (.str n t :: r : List Value) = veTail from beq_iff_eq.mp e]; exact PySem.F.store_ValueError.passes self
  | .bytes n t :: r, e => by rw [show (.bytes n t :: r : List Value) = veTail from beq_iff_eq.mp e]; exact PySem.F.store_ValueError.passes self
  | .float n t :: r, e => by rw [show (.float n t :: r : List Value) = veTail from beq_iff_eq.mp e]; exact PySem.F.store_ValueError.passes self
theorem tail_has : ∀ {l : List Value}, onlyTail l = true → l.contains (.type "object") = true := by
  intro l e
  induction l with
  | nil => exact absurd e (by decide)
  | cons v r ih =>
    have gen : ((v :: r) == veTail) = true → (v :: r).contains (.type "object") = true := fun q => by
      rw [beq_iff_eq.mp q]
      decide
    cases v with
    | ref c => rw [List.contains_cons, ih e, Bool.or_true]
    | _ => exact gen e
def overX (K : PySem.W.Frag) (C : Addr) : Bool := (PySem.W.clsIn K C).any fun cd => onlyTail cd.mro
/-- what of the text an exception's class must have so that its attributes are set and read -/
structure ExcS (K : PySem.W.Frag) (C : Addr) : Prop where
  sa : PySem.W.findIn K (.ref C) "__setattr__" = some (some (.builtin "object.__setattr__"))
  ov : overX K C = true
  hd : PySem.W.hasDictIn K C = true
section
variable {prog : Program} {w : World} {A : Around} {E : Value → Shared → Prop} {s : Shared} {K : PySem.W.Frag} {x C : Addr} {o : Obj} {vs : Array Value} {name : Str} {v : Value}
theorem osx_open {tk : Tok} {R : Result → Shared → Prop} (X : K.In s.heap) (hx : s.heap.get? x = some o) (hc : o.cls = .ref C) (F : ExcS K C) (n : NoAttr K C name)
    (h : ∀ b, wpAny (model prog w) A.in1 (storeInOwnDict (.ref x) (.ref C) (.str name tk) name v b)
      (fun fin s' => match fin with | .done f => R (.ok f) s' | .again c' => c'.quiet = true ∧ codeAny (model prog w) A c' R s') (fun e s' => R (.error e) s') s) :
    codeAny (model prog w) A (.call (.builtin "object.__setattr__") ⟨[.ref x, .str name tk, v], []⟩) R s := by
  have SF := PySem.F.store_object
  have ty : PySem.W.Looks (model prog w) s.heap (typeOf (.ref x)) (.ref C) := hc ▸ (PySem.W.Looks.ld hx).andThen .now
  obtain ⟨cd, hcd, ho⟩ := PySem.W.any_some F.ov
  have ne : cd.mro.isEmpty = false := by cases q : cd.mro with | nil => rw [q] at ho; exact absurd ho (by decide) | cons _ _ => rfl
  have sub : PySem.W.Looks (model prog w) s.heap (isInstance (.ref x) (.type "object")) true := ty.andThen (PySem.W.looks_mroIn X (by unfold PySem.W.mroIn; rw [hcd, Option.bind_some, if_neg (by rw [ne]; decide), tail_has ho]))
  refine codeAny_call_builtin SF.slot.plain SF.entry (@PySem.W.check_slot (model prog w) _ _ s "object.__setattr__" "object" "__setattr__" (.ref x) [.str name tk, v] [] _ SF.kind SF.split sub (SF.args (.ref x) (.str name tk) v) ?_)
  have hm : PySem.W.Looks (model prog w) s.heap (mroOf (.ref C)) cd.mro := (PySem.W.looks_clsIn X hcd).andThen .now
  rw [PySem.W.osa_eq, refuse_eq]
  refine wpAny_bind (wpAny_bind (ty.here (wpAny_bind (hm.here ?_))))
  rw [refuse_tail _ ho]
  refine wpAny_pure (wpAny_bind (ty.here (wpAny_bind ((PySem.W.looks_findIn X n).here (wpAny_bind (wpAny_pure ?_))))))
  exact h _
/-- the first attribute: its dict is made -/
theorem set_exc0 {Q : Unit → Shared → Prop} (X : K.In s.heap) (hx : s.heap.get? x = some o) (hc : o.cls = .ref C) (hd : o.data = .fields vs) (hn : o.dict = none) (F : ExcS K C) (n : NoAttr K C name)
    (h : ∀ h' t', h'.Ns1 s.heap.objs.size (fun y => if y = name then some v else none) → h'.get? x = some { o with dict := some s.heap.objs.size } → (∀ b ob, b ≠ x → s.heap.get? b = some ob → h'.get? b = some ob) → Q () { s with heap := h', toks := t' }) :
    wpAny (model prog w) A (setAttr (.ref x) name v) Q E s := by
  have J : PySem.W.InstAt s.heap x o C none := ⟨hx, hc, by unfold PySem.W.notCls; rw [hd], by rw [hn]; trivial⟩
  refine PySem.W.set_plain X J F.sa (osx_open (s := { s with toks := s.toks + 1 }) X hx hc F n fun b => ?_)
  obtain ⟨cd, hcd, hdd⟩ := PySem.W.any_some F.hd
  obtain ⟨hp, g, d, t, os⟩ := s
  have hx₁ : (hp.push { cls := .type "dict", data := .dict #[] }).get? x = some o := Heap.get?_push_of_some _ hx
  have hxs : x ≠ hp.objs.size := Nat.ne_of_lt (Heap.lt_size hx)
  refine wpAny_bind (wpAny_pure (wpAny_bind (wpAny_bind (wpAny_loadPart hx ?_))))
  rw [hc]
  dsimp only
  refine wpAny_bind ((PySem.W.looks_clsIn X hcd).at ?_)
  rw [hdd]
  dsimp only
  rw [hn, hd]
  dsimp only
  refine wpAny_bind (wpAny_alloc' ?_)
  refine wpAny_bind (wpAny_update' hx₁ ?_)
  refine wpAny_pure ?_
  have hgd : ((hp.push { cls := .type "dict", data := .dict #[] }).update x fun o => { o with dict := some hp.objs.size }).get? hp.objs.size = some { cls := .type "dict", data := .dict #[] } :=
    (Heap.get?_update_ne _ _ _ _ hxs.symm).trans (Heap.get?_push_at rfl rfl)
  have hnd : ((hp.push { cls := .type "dict", data := .dict #[] }).update x fun o => { o with dict := some hp.objs.size }).Ns hp.objs.size (fun _ => none) :=
    ⟨_, #[], _, hgd, rfl, fun e he => absurd he (by simp), fun _ => rfl⟩
  show wpAny _ _ (storeInDict hp.objs.size (.str name _) name v) _ _ _
  unfold storeInDict newKeyGuard
  refine wpAny_bind (wpAny_pure (wpAny_bind (wpAny_nsSet1 (Heap.Ns1.of_empty hnd) fun h' hn' hs => ?_)))
  obtain ⟨oD, esD, epD, hoD, hdD, hcD⟩ := hn'.count (Within.cons name v Within.nil)
  refine wpAny_bind (wpAny_lookBehind hoD (by rw [hdD]; exact pastItsLine_dict (Nat.le_trans hcD (by rw [List.length_cons, List.length_nil, sizeLine_eq]; omega))) ?_)
  refine wpAny_pure (h h' _ hn' ?_ fun b ob hb hob => ?_)
  · refine (hs.2 x hxs).trans (Heap.get?_update_self _ hx₁ ?_)
    have hfr := (Heap.get?_some_iff.mp hx).2
    obtain ⟨oc, od, odt, osl⟩ := o
    cases odt <;> first | rfl | exact hfr
  · exact (hs.2 b (Nat.ne_of_lt (Heap.lt_size hob))).trans ((Heap.get?_update_ne _ _ _ _ hb).trans (Heap.get?_push_of_some _ hob))
/-- e.name -/
theorem get_exc {expr : Bool} {dx : Addr} {mA : Str → Option Value} {Q : Value → Shared → Prop} (X : K.In s.heap) (F : ExcF K C) (G : ExcS K C) (n : NoAttr K C name) (hx : s.heap.get? x = some o) (hc : o.cls = .ref C) (hd : o.data = .fields vs) (hn : o.dict = some dx) (hN : s.heap.Ns1 dx mA)
    (hv : mA name = some v) (hh : PySem.W.handedIn v = true) (h : Q v { s with toks := s.toks + 1 }) : wpAny (model prog w) A (getAttr (.ref x) name expr) Q E s := by
  obtain ⟨od, hod, hl⟩ := lookIn_ns hN
  have J : PySem.W.InstAt s.heap x o C (some od) := ⟨hx, hc, by unfold PySem.W.notCls; rw [hd], by rw [hn]; exact hod⟩
  have p : ExcAt x C s.heap := ⟨o, hx, hc⟩
  obtain ⟨hp, g, d, t, os⟩ := s
  have L0 := excAt_ty (M := model prog w) p
  have L1 := PySem.W.looks_findIn (M := model prog w) X F.ga
  have L2 := PySem.W.looks_findIn (M := model prog w) X F.hk
  have L3 := PySem.W.looks_find (M := model prog w) X J (PySem.W.findObj_own G.hd n rfl (by rw [hl, hv]))
  have hb : bindSpecial (.builtin "BaseException.__getattribute__") (.ref x) = pure (.builtin "BaseException.__getattribute__", [.ref x]) := PySem.F.excAttr_ValueError.ga.bind (.ref x)
  have hx0 : (expr && onTheHeap (Value.builtin "BaseException.__getattribute__")) = false := by cases expr <;> rfl
  unfold getAttr getAttrBy
  refine wpAny_bind (wpAny_mkText (wpAny_holding (wpAny_bind (L0.at (wpAny_bind (L1.at ?_))))))
  show wpAny _ _ (getAttrByItsOwn (.ref x) _ (.ref C) (.builtin "BaseException.__getattribute__") true expr) _ _ _
  unfold getAttrByItsOwn hookBefore callGetattribute
  refine wpAny_bind ?_
  rw [if_pos (show onTheHeap (Value.ref C) = true from rfl)]
  refine L2.at ?_
  refine wpAny_bind (wpAny_attempt (wpAny_holding ?_))
  rw [hx0, if_neg Bool.false_ne_true]
  show wpAny _ _ (boundAndCalled (.builtin "BaseException.__getattribute__") (.ref x) _) _ _ _
  unfold boundAndCalled
  rw [hb]
  refine wpAny_bind (wpAny_pure ?_)
  refine wpAny_call (codeAny_call_builtin PySem.F.excAttr_ValueError.ga.plain PySem.F.entry_bexc_ga (excAt_check (s := ⟨hp, g, d, t + 1, os⟩) F X p ?_))
  unfold Builtin.«object.__getattribute__»
  have ent : ∀ (Q : Fin → Shared → Prop) (E : Value → Shared → Prop) (A : Around), Q (.done (.ret v)) ⟨hp, g, d, t + 1, os⟩ → wpAny (model prog w) A (Builtin.«object.__getattribute__» ⟨[.ref x, .str name t], []⟩) Q E ⟨hp, g, d, t + 1, os⟩ := fun Q E A q => by
    unfold Builtin.«object.__getattribute__»
    repeat (first | exact q | lk | wp_step)
  refine ent _ _ _ ?_
  show wpAny (model prog w) A (handedOut v) _ _ _
  rw [PySem.W.handedOut_of hh]
  exact wpAny_pure h
end
end L2

namespace L2
open PySem PySem.Spec PyProof.Rows
/-! ### an exception that is being made -/
def rawX (a C : Addr) (od : Option Addr) : HO := .ext fun h => ∃ o vs, h.get? a = some o ∧ o.cls = .ref C ∧ o.dict = od ∧ o.data = .fields vs ∧ vs[1]? = some .none ∧ vs[2]? = some .none
theorem rawX_ok {P : Program} {w : World} {H : Hp} {h : Heap} {a C : Addr} {od : Option Addr} {o : Obj} {vs : Array Value} (e : h.get? a = some o) (c : o.cls = .ref C) (d : o.dict = od) (f : o.data = .fields vs) (h1 : vs[1]? = some .none) (h2 : vs[2]? = some .none) : ObjOk P w H h a (rawX a C od) :=
  ⟨⟨o, vs, e, c, d, f, h1, h2⟩, ⟨o, e⟩, fun _ _ ⟨o, ws, e1, e2⟩ k => ⟨o, ws, k _ e1, e2⟩⟩
theorem xd_ok {P : Program} {w : World} {H : Hp} {h : Heap} {a : Addr} {f : Str} {y : V} {u : Value} (n : h.Ns1 a (fun z => if z = f then some u else none)) (r : RelV y u) : ObjOk P w H h a (.xd [(f, y)]) := by
  refine ⟨_, n, fun g => ?_⟩
  by_cases q : g = f
  · have hb : (g == f) = true := beq_iff_eq.mpr q
    simp only [List.lookup, hb, if_pos q]
    exact r
  · have hb : (g == f) = false := beq_eq_false_iff_ne.mpr q
    simp only [List.lookup, hb, if_neg q]
    exact True.intro
/-- self.f = value, the first one of an exception -/
def sFldX (K : PySem.W.Frag) (ta tv : TE) (f : Str) : TS := fun D σ H => tv σ H fun y H1 => ta σ H1 fun x H2 => ∃ a C, x = .ref a ∧ H2 a = some (rawX a C none) ∧ ExcS K C ∧ NoAttr K C f ∧
  ∀ d, H2 d = none → d ≠ a → D.nx σ (upd (upd H2 a (rawX a C (some d))) d (.xd [(f, y)]))
theorem ps_fldX {X : Cx} {o value : Expr} {f : Str} {pos pos' : Pos} {ta tv : TE} (ha : PE X o ta) (hv : PE X value tv) (hs : swapsWith value (some (.Attribute o f pos')) pos.line X.env = pure false) : PS X (.Assign [.Attribute o f pos'] value pos) (sFldX X.K ta tv f) := by
  intro pins s σ H D I h
  refine plainObj_wpAny_Assign_Attribute (thn (hv pins s σ H _ I h) fun u s1 ⟨y, H1, I1, ry, q⟩ => thn (ha pins s1 σ H1 _ I1 q) fun ov s2 ⟨x, H2, I2, rx, a, C, ex, ea, F, n, q2⟩ => ?_) hs
  subst ex
  obtain rfl : ov = Value.ref a := rx
  obtain ⟨⟨oe, vs, e1, e2, e3, e4, e5, e6⟩, _, _⟩ := I2.hok a _ ea
  refine set_exc0 I2.kIn e1 e2 e4 e3 F n fun h' t' hN hx hk => ⟨σ, _, ?_, q2 s2.heap.objs.size I2.fresh (fun z => absurd (Heap.lt_size e1) (by rw [← z]; exact Nat.lt_irrefl _))⟩
  have hd : s2.heap.objs.size ≠ a := fun z => absurd (Heap.lt_size e1) (by rw [← z]; exact Nat.lt_irrefl _)
  have old : ∀ b u, H2 b = some u → b ≠ s2.heap.objs.size := fun b u q z => by
    have y := I2.fresh
    rw [← z, q] at y
    cases y
  have up1 : ∀ b, b ≠ a → b ≠ s2.heap.objs.size → upd (upd H2 a (rawX a C (some s2.heap.objs.size))) s2.heap.objs.size (.xd [(f, y)]) b = H2 b := fun b h1 h2 => by rw [upd_ne h2, upd_ne h1]
  have na : ∀ b u, H2 b = some u → (∀ φ, u ≠ .ext φ) → b ≠ a := fun b u q k z => by
    rw [z, ea] at q
    cases q
    exact k _ rfl
  refine I2.un (t' := t') ⟨fun b ob q nn _ _ => hk b ob (fun z => by rw [z, ea] at nn; cases nn) q, fun b ob q nn _ _ => ⟨ob.slots, hk b ob (fun z => by rw [z, ea] at nn; cases nn) q⟩, fun b ob q nn _ => ?_, fun b ob q _ => ?_, fun b xs q => ?_, fun b ob u q => ?_, fun b ps q => ?_⟩ fun b u q => ?_
  · rw [up1 b (fun z => by rw [z, ea] at nn; cases nn) (Nat.ne_of_lt (Heap.lt_size q))]
    exact nn
  · by_cases z : b = a
    · subst z; exact ⟨_, hx⟩
    · exact ⟨ob, hk b ob z q⟩
  · rw [up1 b (na b _ q fun _ z => by cases z) (old b _ q)]
    exact q
  · rw [up1 b (na b _ q fun _ z => by cases z) (old b _ q)]
    exact q
  · refine ⟨#[], ?_⟩
    rw [up1 b (na b _ q fun _ z => by cases z) (old b _ q), q]
    simp
  · by_cases z1 : b = s2.heap.objs.size
    · subst z1
      rw [upd_same] at q
      cases q
      exact xd_ok hN ry
    · rw [upd_ne z1] at q
      by_cases z2 : b = a
      · subst z2
        rw [upd_same] at q
        cases q
        exact rawX_ok hx e2 rfl e4 e5 e6
      · rw [upd_ne z2] at q
        refine (I2.hok b u q).stay (fun c w' hc r => hk c w' ?_ r) (fun c r => ?_) fun c xs r => ?_
        · rcases hc with hc | hc
          · rw [hc]; exact z2
          · exact na c _ hc fun _ z => by cases z
        · rw [up1 c (na c _ r fun _ z => by cases z) (old c _ r)]; exact r
        · rw [up1 c (na c _ r fun _ z => by cases z) (old c _ r)]; exact r
/-! ### raise C(..), C with an own __init__ -/
def excInI (K : PySem.W.Frag) (C : Addr) (bmB : List Value) (newId : String) (fI : Addr) : Bool := match K.lookup C with
  | some ⟨.type "type", _, .cls cd, sl⟩ => (match cd.mro, sl.toList with
    | .ref C' :: bm, [_, _, _, _, some (.builtin n), _] => C' == C && n == newId && !cd.hasDel && PySem.W.tailIn K bmB bm && PySem.W.nsOkIn K cd.ns && PySem.W.nsIn K cd.ns "__init__" == some (some (.ref fI))
    | _, _ => false)
  | _ => false
theorem ns_some_of {K : PySem.W.Frag} {h : Heap} {N : Addr} {mg : Str → Option Value} {n : Str} {v : Value} (X : K.In h) (G : h.Ns N mg) (e : PySem.W.nsIn K N n = some (some v)) : mg n = some v := by
  obtain ⟨o, es, ep, ho, hd, _, hf⟩ := G
  unfold PySem.W.nsIn at e
  split at e
  · rename_i c d es' n' sl q
    have := X _ _ q
    rw [ho] at this
    cases this
    cases hd
    split at e
    · rename_i en he
      rw [← hf]
      unfold nsFind findBy
      rw [← Array.find?_toList, he]
      exact Option.some.inj e
    · split at e <;> cases e
  · cases e
theorem exc_objI {K : PySem.W.Frag} {h : Heap} {C fI : Addr} {bmB : List Value} {newId : String} (X : K.In h) (q : excInI K C bmB newId fI = true) :
    ∃ bm N nm qn bs hdct sn sub ab col dd k0 k1 k2 k3 k5 mN, h.get? C = some (excClassObj nm qn C N bs bm hdct sn sub ab col dd k0 k1 k2 k3 k5 newId) ∧ h.Ns N mN ∧ mN "__init__" = some (.ref fI) ∧ OwnTail h bmB bm := by
  unfold excInI at q
  split at q
  · rename_i ddx cdx slx hlook
    split at q
    · rename_i Cx bmx j0 j1 j2 j3 nx j5 hmro hslots
      simp only [beq_iff_eq, Bool.and_eq_true, Bool.not_eq_true'] at q
      obtain ⟨⟨⟨⟨⟨eC, eN⟩, edel⟩, etl⟩, eok⟩, eni⟩ := q
      subst eC
      subst eN
      obtain ⟨f1, f2, f3, f4, f5, f6, f7, f8, f9, f10, f11⟩ := cdx
      have e1 : f3 = _ := hmro
      have e2 : f11 = false := edel
      subst e1
      subst e2
      obtain ⟨lst⟩ := slx
      have e3 : lst = _ := hslots
      subst e3
      exact ⟨bmx, f4, f1, f5, f2, f6, f7, f8, f9, f10, ddx, j0, j1, j2, j3, j5, _, X _ _ hlook, .of_isNs (PySem.W.isNs_of_in X eok), ns_some_of X (.of_isNs (PySem.W.isNs_of_in X eok)) eni, PySem.W.tail_of_in X etl⟩
    · cases q
  · cases q
section
variable {M : Model} {A : Around} {E : Value → Shared → Prop} {env : Env}
variable {nm q : Str} {C N : Addr} {bs bm : List Value} {hdct : Bool} {sn : List Str} {sub : List Value} {ab : Bool} {col : Option Bool} {dd : Option Addr} {k0 k1 k2 k3 k5 : Option Value} {newId : String}
theorem raise_madeI {s : Shared} {x : Sem Value} {Q : Flow → Shared → Prop} (hbase : bm.contains (.type "BaseException") = true) (hh : A.handled = none)
    (h : wpAny M A x (fun v s₁ => ∃ e o vs, v = .ref e ∧ s₁.heap.get? C = some (excClassObj nm q C N bs bm hdct sn sub ab col dd k0 k1 k2 k3 k5 newId) ∧ s₁.heap.get? e = some o ∧ o.cls = .ref C ∧ o.data = .fields vs ∧ vs[1]? = some .none ∧ E (.ref e) s₁) E s) :
    wpAny M A (raiseStmt env (some x) none) Q E s := by
  have hcB : (Value.ref C :: bm).contains (.type "BaseException") = true := by rw [List.contains_cons, hbase, Bool.or_true]
  unfold raiseStmt
  refine wpAny_bind (wpAny_mono h (fun v s₁ h₁ => ?_) fun _ _ x => x)
  obtain ⟨e, o, vs, rfl, hC, he, hc, hd, h1, hE⟩ := h₁
  obtain ⟨hp, g, d, tk, os⟩ := s₁
  obtain ⟨oc, od, odt, osl⟩ := o
  have hc' : oc = .ref C := hc
  have hd' : odt = .fields vs := hd
  subst hc' hd'
  repeat (first | with_reducible refine wpAny_field he rfl h1 ?_ | with_reducible refine wpAny_loadPart_at he ?_ | with_reducible refine wpAny_loadPart_at hC ?_ | (with_reducible refine wpAny_isSubtype_exc hC ?_; rw [hcB]) | wp_step)
  exact wpAny_raiseNew_none hh hE
end
def ThrD (X : Cx) (E : XK) : Prop := ∀ (pins : List (Addr × Obj)) (σ : St) (H : Hp) (s : Shared) (e C : Addr) (oe : Obj) (vs : Array Value) (od : Option Addr), Inv X pins σ H s → H e = none → X.s₀.heap.get? e = none → s.heap.get? e = some oe → oe.cls = .ref C → oe.dict = od → oe.data = .fields vs → vs[1]? = some .none → vs[2]? = some .none → E (.ref C) od H → X.xe (.ref e) s
theorem thrD_def {P : Program} {w : World} {K : PySem.W.Frag} {mg : Str → Option Value} {base : Heap} {N : List Str} {qual : Str} {scope : Scope} {f : Addr} {cd : Value} {A : Around} {outer : List Env} {s : Shared} {H : Hp} {E : XK} :
    ThrD (cxOf (CX1 P w) P w K mg base N qual scope f cd A outer s H E) E := by
  intro pins σ H1 s1 e C oe vs od I hHe h0 he hc hdo hd h1 h2 hE
  generalize hX : cxOf (CX1 P w) P w K mg base N qual scope f cd A outer s H E = X at I
  have hk : (PySem.W.hideAll s1.heap (e :: frs X.stack)).StaysIn s1.heap := fun b o q => PySem.W.of_hideAll _ q
  have hn : (PySem.W.hideAll s1.heap (e :: frs X.stack)).get? e = none := PySem.W.hideAll_none _ (.head _)
  have hfr : s1.heap.FunFrames (PySem.W.hideAll s1.heap (e :: frs X.stack)) X.stack := PySem.W.funFrames_hide I.stack fun env he a ha => List.mem_cons_of_mem _ (List.mem_filterMap.mpr ⟨env, he, ha⟩)
  have trk : ∀ b o, H1 b = some o → ∃ ob, (PySem.W.hideAll s1.heap (e :: frs X.stack)).get? b = some ob := fun b o q => by
    obtain ⟨ob, z⟩ := (I.hok b o q).there
    refine ⟨ob, PySem.W.hideAll_get _ z fun y => ?_⟩
    rcases List.mem_cons.mp y with y | y
    · rw [y, hHe] at q; cases q
    · rw [I.stkFree b y] at q; cases q
  have inB : ∀ b o, s.heap.get? b = some o → b ∉ frs outer → ∃ ob, (PySem.W.hideAll s1.heap (e :: frs X.stack)).get? b = some ob := fun b o eb hb => by
    subst hX
    obtain ⟨o', e'⟩ := I.base.there b o eb (by intro z; cases z)
    refine ⟨o', PySem.W.hideAll_get _ e' fun y => ?_⟩
    rcases List.mem_cons.mp y with y | y
    · rw [y] at eb
      rw [show s.heap.get? e = none from h0] at eb
      cases eb
    · exact I.notFr eb hb y
  subst hX
  refine leaveC0 (outer := outer) I.ok.frames hfr rfl hk hn he ⟨hc, hdo⟩ hd h1 h2 fun h'' x1 x4 => ?_
  exact ⟨e, .ref C, od, H1, _, rfl, I.os, I.bare, I.un_fly rfl hk x1.stays x4 inB, I.hok.stays trk hk x1.stays, ⟨⟨_, x1, .nil⟩, trk, hHe⟩, inB, hE⟩
/-- THE RULE for a def that may raise, also own exceptions with an own __init__ -/
theorem Fun.okXD {P : Program} {w : World} {K : PySem.W.Frag} {mg : Str → Option Value} {base : Heap} {x qual : Str} {st : Stmt} {f : Addr} {fd : FuncData} {N ps : List Str} {k : Nat} {sp : Sp} (F : Fun K x qual st f fd) (S : FnScope N ps (defScope st)) (len : ∀ vs H Q E, sp vs H Q E → vs.length = ps.length)
    (hbody : ∀ (cdv : Value) (A : Around) (outer : List Env) (s : Shared) (H : Hp) (vs : List V) (Q : VK) (E : XK), Room k (A.deeper (envOfC qual (defScope st) s.heap.objs.size f cdv)) → sp vs H Q E →
      Thr (cxOf (CX1 P w) P w K mg base N qual (defScope st) f cdv A outer s H E) E → ThrD (cxOf (CX1 P w) P w K mg base N qual (defScope st) f cdv A outer s H E) E →
      ∃ t, PSs (cxOf (CX1 P w) P w K mg base N qual (defScope st) f cdv A outer s H E) (defBody st) t ∧ t { nx := fun _ H' => Q .non H', rt := Q } (start N vs) H) : FnOk P w K mg base (CX1 P w) (k + 1) f fd ps sp :=
  F.okX S len fun cdv A outer s H vs Q E hr h T => hbody cdv A outer s H vs Q E hr h T thrD_def
def dropH (H : Hp) (a : Addr) : Hp := fun b => if b = a then none else H b
theorem dropH_ne {H : Hp} {a b : Addr} (h : b ≠ a) : dropH H a b = H b := if_neg h
theorem dropH_same {H : Hp} {a : Addr} : dropH H a a = none := if_pos rfl
def tRaiseI (C : Addr) (sp : Sp) (E : XK) (t : TA) : TS := fun _ σ H => t σ H fun vs H1 => vs.length ≤ sizeLine ∧ ∀ ea, H1 ea = none →
  sp (.ref ea :: vs) (upd H1 ea (rawX ea C none)) (fun v H2 => v = .non ∧ ∃ od, H2 ea = some (rawX ea C od) ∧ E (.ref C) od (dropH H2 ea)) E0
theorem ps_raiseI {X : Cx} {k : Nat} {f : Addr} {fd : FuncData} {ps : List Str} {sp : Sp} {x : Str} {np cpos pos : Pos} {e : Expr} {es : List Expr} {t : TA} {C : Addr} {E : XK} (T : ThrD X E) (hh : X.A.handled = none) (hg : Gl X x) (hm : X.mg x = some (.ref C))
    (hc : excInI X.K C veTail "ValueError.__new__" f = true) (hfn : PySem.W.isFn X.K (.ref f) = true) (F : FnOk X.prog X.w X.K X.mg X.base CX0 k f fd ps sp) (hr : Room (k + 1) X.A) (hb : Binds X.K fd ps []) (hex : X.ex = []) (ha : PA X (e :: es) t)
    (hdb : (x == ("__debug__" : Str)) = false := by decide) (he : starEach (e :: es) X.env = (false, eval e X.env) :: starEach es X.env := by rfl) (hpl : (backTo cpos (starEach es X.env)).any (·.1) = false := by rfl) :
    PS X (.Raise (some (.Call (.Name x np) (e :: es) [] cpos)) none pos) (tRaiseI C sp E t) := by
  intro pins s σ H D I h
  obtain ⟨bm, N, nm, qn, bs, hdct, sn, sub, ab, col, dd, k0, k1, k2, k3, k5, mN, hC, hN, hni, hT⟩ := exc_objI I.mod.kin hc
  have hB : bm.contains (.type "BaseException") = true := hT.hasType PySem.F.excBase_ValueError.hasBase
  rw [arm_exec_Raise]
  simp only [evalOpt, Option.map]
  refine wpAny_bind (wpAny_standAt (raise_madeI (C := C) (nm := nm) (q := qn) (N := N) (bs := bs) (bm := bm) (hdct := hdct) (sn := sn) (sub := sub) (ab := ab) (col := col) (dd := dd) (k0 := k0) (k1 := k1) (k2 := k2) (k3 := k3) (k5 := k5) (newId := "ValueError.__new__") hB hh ?_))
  refine wpAny_bind (wpAny_mono (wpAny_Call_ofName (ld_glob I hg hm ?_ hdb)) (fun v s₃ h₃ => wpAny_bind (wpAny_standAt (wpAny_pure h₃))) fun _ _ x => x)
  unfold callWith
  have hplain : (backTo cpos (starEach (e :: es) X.env)).any (·.1) = false := by rw [he]; show (false || (backTo cpos (starEach es X.env)).any (·.1)) = false; rw [hpl]; rfl
  have hA := ha cpos pins s σ H _ I h
  rw [he] at hA hplain ⊢
  refine wpAny_bind (wpAny_holding (Calls.evalArgs_plain (thn hA fun us s2 q2 => wpAny_bind (wpAny_standAt ?_))))
  obtain ⟨vs, H2, I2, r, hz, hE⟩ := q2
  have lenu := r.length
  have hC2 := I2.bk _ _ hC
  have hN2 := hN.keeps I2.bk
  have hT2 := hT.keeps I2.bk
  obtain ⟨oI, hoI, hfc⟩ : ∃ oI, s2.heap.get? f = some oI ∧ oI.cls = .type "function" := by
    have z : PySem.W.typeIn X.K (.ref f) = some (.type "function") := beq_iff_eq.mp hfn
    obtain ⟨oI, ho, hc⟩ := Option.map_eq_some_iff.mp z
    exact ⟨oI, I2.kIn _ _ ho, hc⟩
  obtain ⟨hp, g, d, tk, os⟩ := s2
  simp only [hplain, List.nil_append]
  refine wpAny_bind (wpAny_keeperOf_exc hC2 ?_)
  refine wpAny_bind (call_initT (hrest := by omega) PySem.F.excBase_ValueError hT2 hC2 hN2 hni hoI hfc fun h1 ea hm1 => ?_)
  obtain ⟨tp, e1, _, _⟩ := hm1.there
  have new : hp.get? ea = none := hm1.new
  have nea : ∀ b o, hp.get? b = some o → b ≠ ea := fun b o q z => by rw [z, new] at q; cases q
  have hHe : H2 ea = none := by
    cases q : H2 ea with
    | none => rfl
    | some o =>
      obtain ⟨ob, z⟩ := (I2.hok ea o q).there
      exact absurd rfl (nea ea ob z)
  have nex : ∀ b o, H2 b = some o → b ≠ ea := fun b o q z => by rw [z, hHe] at q; cases q
  have h0 : X.s₀.heap.get? ea = none := by
    cases q : X.s₀.heap.get? ea with
    | none => rfl
    | some o =>
      obtain ⟨o', z⟩ := I2.base.there ea o q (by rw [hex]; simp)
      exact absurd rfl (nea ea o' z)
  have I3 : Inv X pins σ (upd H2 ea (rawX ea C none)) ⟨h1, g, d, tk, os⟩ := by
    refine I2.un (t' := tk) ⟨fun b o q _ _ _ => hm1.keeps b o q, fun b o q _ _ _ => ⟨o.slots, hm1.keeps b o q⟩, fun b o q n _ => by rw [upd_ne (nea b o q)]; exact n, fun b o q _ => ⟨o, hm1.keeps b o q⟩,
      fun b xs q => by rw [upd_ne (nex b _ q)]; exact q, fun b o u q => by rw [upd_ne (nex b _ q)]; exact q, fun b ps q => ⟨#[], by rw [upd_ne (nex b _ q), q]; simp⟩⟩ fun b u q => ?_
    by_cases z : b = ea
    · subst z
      rw [upd_same] at q
      cases q
      exact rawX_ok e1 rfl rfl rfl rfl rfl
    · rw [upd_ne z] at q
      exact (I2.hok b u q).stay (fun c w' _ r => hm1.keeps c w' r) (fun c r => by rw [upd_ne (nex c _ r)]; exact r) fun c xs r => by rw [upd_ne (nex c _ r)]; exact r
  have hq := hE ea hHe
  have r2 : Vals (V.ref ea :: vs) (Value.ref ea :: us) := .cons rfl r
  have hl : (Value.ref ea :: us ++ []).length = ps.length := by
    have e := r2.length
    rw [F.len _ _ _ _ hq] at e
    rw [List.append_nil]
    exact e.symm
  have hbb := hb ⟨h1, g, d, tk, os⟩ (Value.ref ea :: us) I3.kIn hl
  rw [List.append_nil] at hbb
  refine wpAny_call (codeAny_mono (F.run _ X.stack _ _ ⟨Value.ref ea :: us, []⟩ (Value.ref ea :: us) _ _ E0 (hr.make C us []) (I3.env0.make C us []) hbb r2 hq) fun r' s' hq' => ?_)
  cases r' with
  | error e => exact (show False from hq').elim
  | ok fl =>
    cases fl with
    | next => exact False.elim hq'
    | brk => exact False.elim hq'
    | cont => exact False.elim hq'
    | ret u =>
      obtain ⟨v, H4, os', bare, un, hok, rv, rfl, od, hH4, hE4⟩ := hq'
      have nown : ∀ b o, H4 b = some o → (∀ φ, o ≠ .ext φ) → b ≠ ea := fun b o q k z => by
        rw [z, hH4] at q
        cases q
        exact k _ rfl
      have un5 : Un (frs X.stack) [] H2 (dropH H4 ea) hp s'.heap := by
        refine ⟨fun b o q n hb hx => un.keep b o (hm1.keeps b o q) (by rw [upd_ne (nea b o q)]; exact n) hb hx, fun b o q n hb hx => un.slot b o (hm1.keeps b o q) (by rw [upd_ne (nea b o q)]; exact n) hb hx,
          fun b o q n hx => by rw [dropH_ne (nea b o q)]; exact un.free b o (hm1.keeps b o q) (by rw [upd_ne (nea b o q)]; exact n) hx, fun b o q hx => un.there b o (hm1.keeps b o q) hx,
          fun b xs q => by rw [dropH_ne (nex b _ q)]; exact un.tups b xs (by rw [upd_ne (nex b _ q)]; exact q), fun b o u q => by rw [dropH_ne (nex b _ q)]; exact un.frzs b o u (by rw [upd_ne (nex b _ q)]; exact q),
          fun b ps q => by rw [dropH_ne (nex b _ q)]; exact un.tbls b ps (by rw [upd_ne (nex b _ q)]; exact q)⟩
      have hok5 : HOk X.prog X.w (dropH H4 ea) s'.heap := fun b o q => by
        by_cases z : b = ea
        · rw [z, dropH_same] at q; cases q
        · rw [dropH_ne z] at q
          exact (hok b o q).stay (fun _ _ _ r => r) (fun c r => by rw [dropH_ne (nown c _ r fun _ y => by cases y)]; exact r) fun c xs r => by rw [dropH_ne (nown c _ r fun _ y => by cases y)]; exact r
      have I5 : Inv X pins σ (dropH H4 ea) s' := I2.call' (ch := []) os' un5 hok5 bare fun b z => absurd z (by simp)
      obtain ⟨⟨oe, ws, e1', c1, d1, f1, g1, g2⟩, _, _⟩ := hok ea _ hH4
      refine ⟨rv, wpAny_bind (wpAny_holding (wpAny_point (wpAny_pure ?_)))⟩
      exact ⟨ea, oe, ws, rfl, I5.bk _ _ hC, e1', c1, f1, g1, T pins σ (dropH H4 ea) s' ea C oe ws od I5 dropH_same h0 e1' c1 d1 f1 g1 g2 hE4⟩
end L2

namespace L2
open PySem PySem.Spec PyProof.Rows
/-! ### a def called in an except suite -/
structure RoomH (k : Nat) (A : Around) : Prop where
  dp : A.depth + 3 * k + 5 < recursionLimit
  un : A.units + 16 * k + 200 < cLine
theorem Room.h {k : Nat} {A : Around} (r : Room k A) {e : Addr} : RoomH k (A.mark (some (.ref e))) := ⟨r.dp, r.un⟩
structure FnOkH (P : Program) (w : World) (K : PySem.W.Frag) (mg : Str → Option Value) (base : Heap) (k : Nat) (f : Addr) (fd : FuncData) (ps : List Str) (sp : Sp) : Prop where
  len : ∀ vs H Q E, sp vs H Q E → vs.length = ps.length
  run : ∀ (A : Around) (outer : List Env) (s : Shared) (H : Hp) (args : Args) (us : List Value) (vs : List V) (Q : VK) (E : XK), RoomH k A → Env0 P w K mg base A outer s H → BindsTo s fd args (ps.zip us) → Vals vs us → sp vs H Q E →
    codeAny (model P w) A (.call (.ref f) args) (CR CX0 outer P w H s Q E) s
def cxH (P : Program) (w : World) (K : PySem.W.Frag) (mg : Str → Option Value) (base : Heap) (N : List Str) (qual : Str) (scope : Scope) (f : Addr) (cd : Value) (A : Around) (outer : List Env) (s : Shared) (H : Hp) (E : XK) : Cx :=
  { cxOf CX0 P w K mg base N qual scope f cd A outer s H E with calm := false }
theorem fn_ofH {P : Program} {w : World} {K : PySem.W.Frag} {mg : Str → Option Value} {base : Heap} {k : Nat} {f : Addr} {name qual : Str} {params : Arguments} {body : List Stmt} {scope : Scope} {dV kV doc pm cdv ct oc : Value} {an od : Option Addr}
    {osl : Array (Option Value)} {N ps : List Str} {sp : Sp} (lk : K.lookup f = some ⟨oc, od, .func (PySem.W.fnOf name qual params body scope dV kV doc pm an cdv ct), osl⟩) (hcd : PySem.W.codeIn K cdv qual = true) (S : FnScope N ps scope)
    (len : ∀ vs H Q E, sp vs H Q E → vs.length = ps.length)
    (hbody : ∀ (A : Around) (outer : List Env) (s : Shared) (H : Hp) (vs : List V) (Q : VK) (E : XK), sp vs H Q E →
      ∃ t, PSs (cxH P w K mg base N qual scope f cdv A outer s H E) body t ∧ t { nx := fun _ H' => Q .non H', rt := Q } (start N vs) H) :
    FnOkH P w K mg base (k + 1) f (PySem.W.fnOf name qual params body scope dV kV doc pm an cdv ct) ps sp := by
  refine ⟨len, fun A outer s H args us vs Q E hr e0 hb r hsp => ?_⟩
  have hl := len _ _ _ _ hsp
  have KX : K.In s.heap := e0.mod.kin.keeps fun b o e => (e0.bs b o e).1
  have lim : s.heap.NoLimit := e0.mod.nolimit.keeps fun b o e => (e0.bs b o e).1
  have hkind : ∀ y ∈ ps.zip us, scope.names.lookup y.1 = some .local ∨ (scope.names.lookup y.1 = some .cell ∧ ((cellsFrom (s.heap.objs.size + 1) scope.names []).lookup y.1).isSome = true) := fun ⟨n, v⟩ hy => by
    rcases S.par n (List.of_mem_zip hy).1 with q | q
    · exact .inl q
    · exact .inr ⟨q, PySem.W.cellsFrom_some _ _ _ (.inl q)⟩
  refine codeAny_call_function (by have := hr.dp; omega) (KX _ _ lk) rfl S.co S.gen rfl (PySem.W.codeRec_of KX hcd) (hb _ _ _ _ ?_)
  refine wpAny_newFunctionEnv_cells S.kind hkind fun env he s1 x => ?_
  subst he
  refine ⟨lim.keeps x.toInCall.keep, codeAny_func ?_⟩
  obtain ⟨t, ht, hq⟩ := hbody A outer s H vs Q E hsp
  have e0' : Env0 P w K mg base { A with handled := none } outer s H := ⟨e0.frames, e0.mod, e0.bs, e0.bsz, e0.funs, e0.frf, e0.hok, e0.bare⟩
  have I0 : Inv (cxOf CX0 P w K mg base N qual scope f cdv { A with handled := none } outer s H E) [] (start N vs) H s1 := inv_start S rfl e0' hl r x
  have I : Inv (cxH P w K mg base N qual scope f cdv A outer s H E) [] (start N vs) H s1 :=
    ⟨⟨I0.ok.mod, I0.ok.kind, I0.ok.glob, I0.ok.blt, I0.ok.above, I0.ok.inj, I0.ok.has, I0.ok.cab, fun z => Bool.noConfusion z, Around.frames_deeper e0.frames, I0.ok.stk, I0.ok.exf, I0.ok.bs, I0.ok.bsz, I0.ok.noex, I0.ok.exfs, I0.ok.funs, I0.ok.frf⟩,
      I0.os, I0.bare, I0.base, I0.loc, I0.cell, I0.free, I0.freeC, I0.pin, I0.hok, I0.len⟩
  refine wpAny_mono (ht [] s1 (start N vs) H _ I hq) (fun fl s' hs => ?_) fun e s' hs => hs
  have fin : ∀ {σ' : St} {H' : Hp} {v : V} {u : Value}, Inv (cxH P w K mg base N qual scope f cdv A outer s H E) [] σ' H' s' → RelV v u → Q v H' → CE outer P w H s Q u s' :=
    fun {σ' H' v u} J rv q => ⟨v, H', J.os, J.bare, J.base, J.hok, rv, q⟩
  cases fl with
  | ret u =>
    obtain ⟨v, σ', H', J, rv, q⟩ := hs
    exact fin J rv q
  | next =>
    obtain ⟨σ', H', J, q⟩ := hs
    exact fin (v := V.non) (u := Value.none) J rfl q
  | brk =>
    obtain ⟨_, _, _, q⟩ := hs
    exact False.elim q
  | cont =>
    obtain ⟨_, _, _, q⟩ := hs
    exact False.elim q
theorem Fun.okH {P : Program} {w : World} {K : PySem.W.Frag} {mg : Str → Option Value} {base : Heap} {x qual : Str} {st : Stmt} {f : Addr} {fd : FuncData} {N ps : List Str} {k : Nat} {sp : Sp} (F : Fun K x qual st f fd) (S : FnScope N ps (defScope st)) (len : ∀ vs H Q E, sp vs H Q E → vs.length = ps.length)
    (hbody : ∀ (cdv : Value) (A : Around) (outer : List Env) (s : Shared) (H : Hp) (vs : List V) (Q : VK) (E : XK), sp vs H Q E →
      ∃ t, PSs (cxH P w K mg base N qual (defScope st) f cdv A outer s H E) (defBody st) t ∧ t { nx := fun _ H' => Q .non H', rt := Q } (start N vs) H) : FnOkH P w K mg base (k + 1) f fd ps sp := by
  obtain ⟨oc, od, kV, doc, pm, an, cdv, ct, osl, rfl, lk, hcd⟩ := F.ex
  exact fn_ofH lk hcd S len fun A outer s H vs Q E hsp => hbody cdv A outer s H vs Q E hsp
theorem pe_callH {X : Cx} {k : Nat} {f : Addr} {fd : FuncData} {ps : List Str} {sp : Sp} {x : Str} {p pos : Pos} {e : Expr} {es : List Expr} {t : TA} (F : FnOkH X.prog X.w X.K X.mg X.base k f fd ps sp) (hr : RoomH k X.A) (hg : Gl X x) (hm : X.mg x = some (.ref f)) (hk : PySem.W.keepIn X.K (.ref f) = true) (hb : Binds X.K fd ps [])
    (ha : PA X (e :: es) t) (hdb : (x == ("__debug__" : Str)) = false := by decide) (he : starEach (e :: es) X.env = (false, eval e X.env) :: starEach es X.env := by rfl) (hpl : (backTo pos (starEach es X.env)).any (·.1) = false := by rfl) :
    PE X (.Call (.Name x p) (e :: es) [] pos) (tCall sp [] E0 t) := by
  intro pins s σ H Q I h
  refine wpAny_Call_Name_kw (ld_glob I hg hm ?_ hdb)
  refine PySem.W.callWith_K (h₀ := X.base) I.ok.mod.kin hk (thn (ha pos pins s σ H _ I h) fun us s1 ⟨vs, H1, I1, r, q⟩ => ⟨I1.kIn, ?_⟩) he hpl
  have q' : sp (vs ++ []) H1 Q E0 := q
  rw [List.append_nil] at q'
  have hl : (us ++ []).length = ps.length := by rw [List.append_nil, ← r.length]; exact F.len _ _ _ _ q'
  have hbb := hb s1 us I1.kIn hl
  rw [List.append_nil] at hbb
  refine wpAny_call (codeAny_mono (F.run X.A X.stack s1 H1 ⟨us, []⟩ us vs Q E0 hr I1.env0 hbb r q') fun r s' hq => ?_)
  cases r with
  | error e => exact (show False from hq).elim
  | ok fl =>
    cases fl with
    | ret u => exact I1.after hq
    | next => exact False.elim hq
    | brk => exact False.elim hq
    | cont => exact False.elim hq
/-! ### an exception that was caught: its class, its dict -/
def excD (a C : Addr) (od : Option Addr) : HO := .ext fun h => ∃ o vs, h.get? a = some o ∧ o.cls = .ref C ∧ o.dict = od ∧ o.data = .fields vs
theorem Inv.trackD {X : Cx} {pins : List (Addr × Obj)} {σ : St} {H : Hp} {s : Shared} {a C : Addr} {od : Option Addr} {ob : Obj} {vs : Array Value} (J : Inv X pins σ H s) (hn : H a = none) (h0 : X.s₀.heap.get? a = none) (ho : s.heap.get? a = some ob) (hc : ob.cls = .ref C) (hdd : ob.dict = od) (hd : ob.data = .fields vs) (hp : ∀ p ∈ X.pn ++ pins, p.1 ≠ a) :
    Inv X pins σ (upd H a (excD a C od)) s := by
  have other : ∀ b u, H b = some u → upd H a (excD a C od) b = some u := fun b u q => by rw [upd_ne (ne_of_none q hn)]; exact q
  have nel : X.env.locals ≠ a := fun z => by
    obtain ⟨m, ⟨o, es, ep, h1, h2, _⟩, _⟩ := J.loc
    rw [z, ho] at h1
    cases h1
    rw [hd] at h2
    cases h2
  have nec : ∀ x c, X.env.cells.lookup x = some c → c ≠ a := fun x c e z => by
    obtain ⟨v, o, h1, h2⟩ := J.cell x c e
    rw [z, ho] at h1
    cases h1
    rw [hd] at h2
    cases h2
  refine ⟨J.ok, J.os, J.bare, ⟨J.base.keep, J.base.slot, fun b o e n hx => ?_, J.base.there, fun b xs q => other _ _ (J.base.tups b xs q), fun b o u q => other _ _ (J.base.frzs b o u q), fun b ps q => ?_⟩, J.loc, J.cell, ?_, fun x c e => ?_, fun p q => ?_, fun b u e => ?_, J.len⟩
  · rw [upd_ne fun z => by rw [z, h0] at e; cases e]
    exact J.base.free b o e n hx
  · obtain ⟨more, e⟩ := J.base.tbls b ps q
    exact ⟨more, other _ _ e⟩
  · rw [upd_ne nel]
    exact J.free
  · rw [upd_ne (nec x c e)]
    exact J.freeC x c e
  · obtain ⟨e, n, r⟩ := J.pin p q
    exact ⟨e, by rw [upd_ne (hp p q)]; exact n, r⟩
  · by_cases hb : b = a
    · subst hb
      rw [upd_same] at e
      cases e
      exact ⟨⟨ob, vs, ho, hc, hdd, hd⟩, ⟨ob, ho⟩, fun h1 h2 ⟨o, ws, e1, e2⟩ k => ⟨o, ws, k _ e1, e2⟩⟩
    · rw [upd_ne hb] at e
      exact (J.hok b u e).stay (fun _ _ _ q => q) (fun c q => other _ _ q) fun c xs q => other _ _ q
def rIsXD (K : PySem.W.Frag) : List V → Hp → VK → Prop := fun xs H Q => ∃ a C od c b, xs = [.ref a, c] ∧ isC c = true ∧ H a = some (excD a C od) ∧ ExcF K C ∧ PySem.W.kitOne K (.ref C) (toC c) = some b ∧ Q (.bl b) H
theorem call_isXD {X : Cx} : CallR X (.builtin "isinstance") (rIsXD X.K) := by
  intro pins s σ H xs us Q I r h
  obtain ⟨a, C, od, c, b, rfl, hc, hH, F, e, q⟩ := h
  obtain ⟨u, w', rfl, r1, r2⟩ := vals2 r
  cases r1
  have e2 := toC_eq hc r2
  subst e2
  obtain ⟨⟨o, vs, e1, e3, e4⟩, _, _⟩ := I.hok a _ hH
  exact PySem.W.kia_one (kitx_exc F) I.kIn ⟨o, e1, e3⟩ e (fun z => nomatch z) fun tk => ⟨.bl b, H, I.tok tk, rfl, q⟩
def rIsXTD (K : PySem.W.Frag) : List V → Hp → VK → Prop := fun xs H Q => ∃ a C od p cs b, xs = [.ref a, .ref p] ∧ H p = some (.tup cs) ∧ cs.all isC = true ∧ H a = some (excD a C od) ∧ ExcF K C ∧ PySem.W.kitAny K (.ref C) (cs.map toC) = some b ∧ Q (.bl b) H
theorem call_isXTD {X : Cx} : CallR X (.builtin "isinstance") (rIsXTD X.K) := by
  intro pins s σ H xs us Q I r h
  obtain ⟨a, C, od, p, cs, b, rfl, hp, hc, hH, F, e, q⟩ := h
  obtain ⟨u, w', rfl, r1, r2⟩ := vals2 r
  cases r1
  cases r2
  obtain ⟨⟨o, vs, e1, e3, e4⟩, _, _⟩ := I.hok a _ hH
  obtain ⟨its, ri, pt, _⟩ := I.tuple (SqT.of hp)
  obtain ⟨⟨cls, dd, data, sl⟩, ho, hcl, n, hd⟩ := id pt
  simp only at hcl hd
  subst hcl hd
  have ei := toC_all hc ri
  rw [← ei] at e
  exact PySem.W.kia_tup (kitx_exc F) I.kIn ⟨o, e1, e3⟩ ho e (fun z => nomatch z) fun tk => ⟨.bl b, H, I.tok tk, rfl, q⟩
/-- e.f of a caught exception -/
def tFldX (K : PySem.W.Frag) (ta : TE) (f : Str) : TE := fun σ H Q => ta σ H fun x H1 => ∃ a C d fs v, x = .ref a ∧ H1 a = some (excD a C (some d)) ∧ H1 d = some (.xd fs) ∧ ExcF K C ∧ ExcS K C ∧ NoAttr K C f ∧ fs.lookup f = some v ∧ Q v H1
theorem pe_fldX {X : Cx} {e : Expr} {f : Str} {pos : Pos} {ta : TE} (he : PE X e ta) (hb : attributeBase e f X.env (eval e X.env) = eval e X.env) : PE X (.Attribute e f pos) (tFldX X.K ta f) := by
  intro pins s σ H Q I h
  refine attr_of hb (thn (he pins s σ H _ I h) fun u s1 ⟨x, H1, I1, rx, a, C, d, fs, v, ex, ea, ed, F, G, n, l, q⟩ => ?_)
  subst ex
  obtain rfl : u = Value.ref a := rx
  obtain ⟨⟨o, vs, e1, e2, e3, e4⟩, _, _⟩ := I1.hok a _ ea
  obtain ⟨mA, hN, hr⟩ := I1.hok d _ ed
  obtain ⟨u', hu, ru⟩ := RelO.some_of (v := v) (o := mA f) (by rw [← l]; exact hr f)
  exact get_exc I1.kIn F G n e1 e2 e4 e3 hN hu (handed_of ru) ⟨v, H1, I1.tok _, ru, q⟩
/-! ### try: .. except T1 as n: .. except T2 as n: .. -/
section
variable {X : Cx} {n : Str} {np hpos np2 hpos2 pos : Pos} {i : Nat}
def asD (D : Ends) (i : Nat) : Ends := { nx := fun σ' H' => D.nx (σ'.set i none) H', rt := D.rt, bk := fun σ' H' => D.bk (σ'.set i none) H', ct := fun σ' H' => D.ct (σ'.set i none) H' }
def tTry2 (K : PySem.W.Frag) (tb : XK → TS) (i : Nat) (CT CT2 : Value) (th th2 : TS) : TS := fun D σ H =>
  tb (fun cls od H1 => ∃ C, cls = .ref C ∧ ((PySem.W.exmOne K cls CT = some true ∧ ∀ ea, H1 ea = none → th (asD D i) (σ.set i (some (.ref ea))) (upd H1 ea (excD ea C od))) ∨
    (PySem.W.exmOne K cls CT = some false ∧ PySem.W.exmOne K cls CT2 = some true ∧ ∀ ea, H1 ea = none → th2 (asD D i) (σ.set i (some (.ref ea))) (upd H1 ea (excD ea C od))))) D σ H
/-- a suite that takes it -/
theorem suite_as {pins : List (Addr × Obj)} {σ : St} {H1 : Hp} {D : Ends} {ea C : Addr} {od : Option Addr} {B : Heap} {s1 : Shared} {h5 : Heap} {l : List Env} {ctx : Value} {b₀ : Stmt} {suite : List Stmt} {th : TS} (hex : X.ex = []) (hN : X.N.Nodup) (hi : X.N[i]? = some n) (hlo : X.env.kindOf n = some .local)
    (J : Inv X pins σ H1 s1) (hB : Held X pins B) (trk : ∀ b o, H1 b = some o → ∃ ob, B.get? b = some ob) (noe : H1 ea = none) (st : B.StaysIn s1.heap) (fl5 : FlyC B l ea (.ref C) od ctx .none h5) (up5 : s1.heap.UpToSlots h5)
    (hs : ∀ e, PSs (hCx X e) (b₀ :: suite) th) (hth : th (asD D i) (σ.set i (some (.ref ea))) (upd H1 ea (excD ea C od))) :
    codeAny (model X.prog X.w) (X.A.mark (some (.ref ea))) (.handlers (.ref ea) [.ExceptHandler none (some n) (b₀ :: suite) hpos] X.env) (fun r s₂ => match r with
      | .ok f => wpAny (model X.prog X.w) X.A (do bindName X.env n .none; unbindBehindTheSuite X.env n hpos) (fun _ s₃ => SP X pins D f s₃) X.xe s₂
      | .error x => cameBackBy (model X.prog X.w) X.A X.env X.xe x s₂) { s1 with heap := h5 } := by
  refine codeAny_handlers_suite_as (landC fl5 fun h6 fl6 up6 => ?_)
  have J6 : Inv X pins σ H1 { s1 with heap := h6 } := J.landed hB trk st fl6.stays (up5.trans up6)
  obtain ⟨oe, vs, _, _, _, ⟨ho, hc, hd, _, _⟩, _⟩ := fl6.rcd
  have h0 : X.s₀.heap.get? ea = none := by
    cases q : X.s₀.heap.get? ea with
    | none => rfl
    | some o =>
      by_cases hb : ea ∈ X.fs
      · obtain ⟨_, o2, ho2, hd2⟩ := J6.funs.mem hb
        rw [ho] at ho2
        cases ho2
        exact absurd hd (hd2 vs)
      · obtain ⟨ob, z⟩ := hB.1 ea o q (by rw [hex]; simp) hb
        rw [fl6.new] at z
        cases z
  have J7 : Inv X pins σ (upd H1 ea (excD ea C od)) { s1 with heap := h6 } := J6.trackD noe h0 ho hc.1 hc.2 hd fun p hp z => by
    obtain ⟨ob, y⟩ := hB.2 p hp
    rw [z, fl6.new] at y
    cases y
  have J8 : Inv (hCx X ea) pins σ (upd H1 ea (excD ea C od)) { s1 with heap := h6 } := J7.inH
  refine store_ok (X := hCx X ea) J8 hN hi (Or.inl hlo) (v := .ref ea) rfl (fun s7 I7 => ?_) (Or.inr hlo)
  refine wpAny_mono (hs ea pins s7 _ _ _ I7 hth) (fun fw s8 q8 => ?_) fun _ _ z => False.elim z
  show wpAny (model X.prog X.w) X.A (do bindName X.env n .none; unbindBehindTheSuite X.env n hpos) (fun _ s9 => SP X pins D fw s9) X.xe s8
  cases fw with
  | next =>
    obtain ⟨σ', H', I', q'⟩ := q8
    exact name_gone (I'.outH J.ok) hN hi hlo fun s' K' => ⟨_, H', K', q'⟩
  | brk =>
    obtain ⟨σ', H', I', q'⟩ := q8
    exact name_gone (I'.outH J.ok) hN hi hlo fun s' K' => ⟨_, H', K', q'⟩
  | cont =>
    obtain ⟨σ', H', I', q'⟩ := q8
    exact name_gone (I'.outH J.ok) hN hi hlo fun s' K' => ⟨_, H', K', q'⟩
  | ret u =>
    obtain ⟨v, σ', H', I', r', q'⟩ := q8
    exact name_gone (I'.outH J.ok) hN hi hlo fun s' K' => ⟨v, _, H', K', r', q'⟩
theorem ps_try2 {body : List Stmt} {T T2 : Str} {b₀ c₀ : Stmt} {suite suite2 : List Stmt} {CT CT2 : Addr} {tb : XK → TS} {th th2 : TS} (hst : X.stack = X.env :: X.outer) (hfr : X.env.frame = some X.env.locals) (hex : X.ex = []) (hN : X.N.Nodup) (hi : X.N[i]? = some n)
    (hlo : X.env.kindOf n = some .local) (hb : PSX X body tb) (hg : Gl X T) (hm : X.mg T = some (.ref CT)) (hg2 : Gl X T2) (hm2 : X.mg T2 = some (.ref CT2)) (hs : ∀ e, PSs (hCx X e) (b₀ :: suite) th) (hs2 : ∀ e, PSs (hCx X e) (c₀ :: suite2) th2)
    (hdb : (T == ("__debug__" : Str)) = false := by decide) (hdb2 : (T2 == ("__debug__" : Str)) = false := by decide) :
    PS X (.Try body [.ExceptHandler (some (.Name T np)) (some n) (b₀ :: suite) hpos, .ExceptHandler (some (.Name T2 np2)) (some n) (c₀ :: suite2) hpos2] [] [] pos) (tTry2 X.K tb i (.ref CT) (.ref CT2) th th2) := by
  intro pins s σ H D I h
  refine wpAny_Try_except (wpAny_mono (hb pins s σ H D _ I h) (fun f s1 hq => ?_) fun e s1 hx => ?_)
  · cases f with
    | next => exact wpAny_execs_nil hq
    | brk => exact hq
    | cont => exact hq
    | ret u => exact hq
  obtain ⟨ea, cls, od, H1, B, rfl, J, F, hB, C, rfl, hth⟩ := hx
  obtain ⟨ctx, fl, hch⟩ := F.fly
  rw [hst] at fl
  refine noteC (by rw [J.ok.frames, hst]) hfr fl fun h4 held4 up4 => landC held4 fun h5 fl5 up5 => ?_
  have J5 : Inv X pins σ H1 { s1 with heap := h5 } := J.landed hB F.trk fl.stays fl5.stays (up4.trans up5)
  have LT : PySem.W.Looks (model X.prog X.w) h5 (typeOf (.ref ea)) (.ref C) := fl5.looks
  refine wpAny_handleBy_cons (codeAny_handlers_test (ld_glob (X := hCx X ea) J5.inH hg hm ?_ hdb)) (by intro q; cases q)
  rcases hth with ⟨hm1, hth⟩ | ⟨hm1, hm3, hth⟩
  · refine (PySem.W.exm_one J5.kIn LT hm1).here ?_
    exact suite_as hex hN hi hlo J hB F.trk F.noe fl.stays fl5 (up4.trans up5) hs (hth ea F.noe)
  · refine (PySem.W.exm_one J5.kIn LT hm1).here ?_
    show wpAny (model X.prog X.w) X.A (handleBy (.ref ea) X.env [.ExceptHandler (some (.Name T2 np2)) (some n) (c₀ :: suite2) hpos2]) _ _ _
    refine wpAny_handleBy_cons (codeAny_handlers_test (ld_glob (X := hCx X ea) J5.inH hg2 hm2 ?_ hdb2)) (by intro q; cases q)
    refine (PySem.W.exm_one J5.kIn LT hm3).here ?_
    exact suite_as hex hN hi hlo J hB F.trk F.noe fl.stays fl5 (up4.trans up5) hs2 (hth ea F.noe)
/-! ### the same with one handler -/
def tTry1 (K : PySem.W.Frag) (tb : XK → TS) (i : Nat) (CT : Value) (th : TS) : TS := fun D σ H =>
  tb (fun cls od H1 => ∃ C, cls = .ref C ∧ PySem.W.exmOne K cls CT = some true ∧ ∀ ea, H1 ea = none → th (asD D i) (σ.set i (some (.ref ea))) (upd H1 ea (excD ea C od))) D σ H
end
/-! ### a method that may raise; xs.append(e), e may raise -/
section
variable {X : Cx} {k : Nat} {f C : Addr} {fd : FuncData} {ps : List Str} {sp : Sp} {dvs : List V} {ds : List Value} {m name : Str} {p pos apos cpos : Pos} {o e a : Expr} {es : List Expr} {ta to : TE} {t : TA}
theorem pex_meth {pl : Sem Bool} (he : PE X.nox o ta) (c : Cls X.K C) (hm : Meth X.K C m f) (F : FnOk X.prog X.w X.K X.mg X.base (CX1 X.prog X.w) k f fd ps sp) (hr : Room k X.A) (hb : Binds X.K fd ps ds) (hd : Vals dvs ds) (ha : PA X.nox (e :: es) t)
    (hst : starEach (e :: es) X.env = (false, eval e X.env) :: starEach es X.env := by rfl) (hpl : (backTo pos (starEach es X.env)).any (·.1) = false := by rfl)
    (ht : eval (.Call (.Attribute o m apos) (e :: es) [] pos) X.env = (do
      let ov ← eval o X.env
      standAt apos.atName
      let (f, first) ← holding [ov] (getMethod ov m pl)
      callWith pos f first (backTo pos (starEach (e :: es) X.env)) (backToKw pos (keywordEach [] X.env))) := by rfl) :
    PEX X (.Call (.Attribute o m apos) (e :: es) [] pos) (fun Ex => tMeth C m sp dvs Ex ta t) := by
  intro pins s σ H Q Ex I h
  refine PySem.W.methodCall_KW (pl := pl) (wpAny_mono (he pins s σ H _ (I.wish _) h) (fun u s1 ⟨x, H1, I1, rx, a, dx, fs, ex, ea, l, q⟩ => ?_) fun _ _ z => False.elim z) ht
  subst ex
  obtain rfl : u = Value.ref a := rx
  refine getmeth_ok I1.unwish ea c hm l ?_
  refine PySem.W.callWith_K (first := [.ref a]) (h₀ := X.base) I.ok.mod.kin hm.kp (wpAny_mono (ha pos pins s1 σ H1 _ I1 q) (fun us s2 ⟨vs, H2, I2, r, q2⟩ => ⟨I2.unwish.kIn, ?_⟩) fun _ _ z => False.elim z) hst hpl
  exact run_fnX (us := .ref a :: us) (vs := .ref a :: vs) F hr hb hd I2.unwish (.cons rfl r) q2
theorem pex_bm1 {T id : String} {r : V → List V → Hp → VK → Prop} {te : XK → TE} (pa : PlainAttrs T) (slot : Slot T name id) (hty : typeOf (.builtin id) = pure (.type "method_descriptor")) (hm : MtR X.nox id r) (ho : PE X.nox o to) (ha : PEX X a te)
    (hbase : attributeBase o name X.env (eval o X.env) = eval o X.env := by rfl)
    (hfew : ((backTo cpos (starEach [a] X.env)).all (fun x => !x.1) && (backToKw cpos (keywordEach [] X.env)).all (fun x => x.1.isSome)
      && decide (([a] : List Expr).length + ([] : List Keyword).length + (if ([] : List Keyword).isEmpty then 0 else 1) < 30)) = true := by rfl)
    (hline : (apos.endLine == cpos.line) = true := by rfl) (hs : starEach [a] X.env = [(false, eval a X.env)] := by rfl) :
    PEX X (.Call (.Attribute o name apos) [a] [] cpos) (fun Ex σ H Q => to σ H fun x H1 => tyV X.K T x H1 ∧ te Ex σ H1 fun y H2 => r x [y] H2 Q) := by
  intro pins s σ H Q Ex I h
  refine wpAny_Call_method_late hbase hfew hline rfl (wpAny_mono (ho pins s σ H _ (I.wish _) h) (fun v s1 ⟨x, H1, I1, r1, ty, q1⟩ => ?_) fun _ _ z => False.elim z)
  obtain ⟨h1, h2⟩ := tyV_is I1.unwish r1 ty
  refine ⟨T, id, pa, slot, hty, h1, h2, ?_⟩
  rw [hs]
  refine Calls.callWith_builtin rfl (Calls.evalArgs_plain ?_)
  refine Calls.spliced_cons (thn (ha pins s1 σ H1 _ Ex I1.unwish q1) fun u s2 ⟨y, H2, I2, r2, q2⟩ => Calls.spliced_nil ?_)
  exact wpAny_mono (hm pins s2 σ H2 x [y] v [u] Q (I2.wish _) r1 (.cons r2 .nil) q2) (fun _ _ ⟨v', H', I', r', q'⟩ => ⟨v', H', I'.unwish, r', q'⟩) fun _ _ z => False.elim z
end
end L2

namespace My
open PySem L2
abbrev sNotNow : Stmt := inClass (top 8) 0
section
variable {P : Program} {w : World} {K : PySem.W.Frag} {mg : Str → Option Value} {base : Heap} {f g : Addr} {fd gd : FuncData}
theorem set_nm {te : TE} {i : Nat} {u : TS} {D : Ends} {σ : St} {H : Hp} (G : V → Hp → Prop) (h : ∀ R : V → Hp → Prop, (∀ v H', G v H' → R v H') → te σ H R) (hu : ∀ v H', G v H' → u D (σ.set i (some v)) H') : tSeq (tAsg te (gName i)) u D σ H := h _ hu
theorem seq_cut {s u : TS} {D : Ends} {σ : St} {H : Hp} (Pv : St → Hp → Prop) (h1 : ∀ D' : Ends, D'.rt = D.rt → (∀ σ H, Pv σ H → D'.nx σ H) → s D' σ H) (h2 : ∀ σ H, Pv σ H → u D σ H) : tSeq s u D σ H := h1 { D with nx := u D } rfl h2
theorem if_cut {c : TT} {t u r : TS} {D : Ends} {σ : St} {H : Hp} (Cb : Bool → Hp → Prop) (Pv : St → Hp → Prop) (hc : ∀ R : Bool → Hp → Prop, (∀ b H', Cb b H' → R b H') → c σ H R)
    (h1 : ∀ H', Cb true H' → ∀ D' : Ends, D'.rt = D.rt → (∀ σ H, Pv σ H → D'.nx σ H) → t D' σ H') (h2 : ∀ H', Cb false H' → ∀ D' : Ends, D'.rt = D.rt → (∀ σ H, Pv σ H → D'.nx σ H) → u D' σ H') (h3 : ∀ σ H, Pv σ H → r D σ H) : tSeq (tIfS c t u) r D σ H :=
  hc _ fun b H' hb => match b, hb with | true, hb => iteT (h1 H' hb { D with nx := r D } rfl h3) | false, hb => iteF (h2 H' hb { D with nx := r D } rfl h3)
theorem cT_mem : ∀ c < 43, 40 ≤ c → cT c ∈ W3 := by decide +kernel
theorem cT_ne {c m : Nat} (hc : 40 ≤ c) (h43 : c < 43) (hm : m < 40) (h : cT c = callT m) : False := call_notW (h ▸ cT_mem c h43 hc)
theorem cT_all {c : Nat} (h : c < 43) : cT c ∈ all43 := by
  by_cases c40 : c < 40
  · rw [cT_bid c40]; exact all_call c40
  · exact all_W (cT_mem c h (by omega))
theorem cT_short {c : Nat} (h : c < 43) : (cT c).length ≤ 1000 := Nat.le_trans (all_short (cT_all h)) (by decide)
theorem CallIs.kept {x lb : Addr} {H H' : Hp} {c : Nat} {v : V} {CA dx : Addr} {fs : List (Str × V)} {vs : List V} (h : CallIs H c v) (hx : H x = some (.ins CA dx fs)) (hl : H lb = some (.lst vs)) (k : Kept x lb H H') : CallIs H' c v := by
  rcases h with ⟨h1, p, rfl, h2⟩ | h
  · exact .inl ⟨h1, p, rfl, k p _ (fun z => by rw [z, hx] at h2; cases h2) (fun z => by rw [z, hl] at h2; cases h2) h2⟩
  · exact .inr h
theorem IsAu.putx {CA x lb dx : Addr} {n : Nat} {a a' : Au} {H : Hp} {fs fs' : List (Str × V)} (hx : H x = some (.ins CA dx fs)) (B : IsBids H lb a.bids) (A : AuF n a' lb fs') (e : a'.bids = a.bids) : IsAu CA n a' (upd H x (.ins CA dx fs')) x lb := ⟨dx, fs', upd_same, A, by rw [e]; exact B.putx hx⟩
/-! ### the refusal -/
theorem all_c {t : Str} (h : t ∈ all43) : ∃ c, c < 43 ∧ t = cT c := by
  rcases all_cases h with h | ⟨m, hm, e⟩
  · have e3 : ∀ u ∈ W3, u = cT 40 ∨ u = cT 41 ∨ u = cT 42 := by decide +kernel
    rcases e3 t h with e | e | e
    · exact ⟨40, by decide, e⟩
    · exact ⟨41, by decide, e⟩
    · exact ⟨42, by decide, e⟩
  · exact ⟨m, by omega, by rw [e, cT_bid hm]⟩
structure XC (K : PySem.W.Frag) (mg : Str → Option Value) (CW fN : Addr) : Prop where
  mW : mg "NotNow" = some (.ref CW)
  ex : excInI K CW veTail "ValueError.__new__" fN = true
  fn : PySem.W.isFn K (.ref fN) = true
  es : ExcS K CW
  nr : NoAttr K CW "rule"
def spNN (CW : Addr) : Sp := fun vs H Q _ => ∃ (ea : Addr) (v : V), vs = [.ref ea, v] ∧ H ea = some (rawX ea CW none) ∧ ∀ d, H d = none → d ≠ ea → Q .non (upd (upd H ea (rawX ea CW (some d))) d (.xd [("rule", v)]))
theorem scNN : FnScope ["self", "rule"] ["self", "rule"] (defScope sNotNow) := ⟨rfl, rfl, rfl, by decide +kernel, rfl, by decide +kernel, by decide +kernel⟩
theorem ok_nn {k : Nat} {CW fN : Addr} (F : Fun K "__init__" "NotNow.__init__" sNotNow f fd) (C : XC K mg CW fN) : FnOk P w K mg base CX0 (k + 1) f fd ["self", "rule"] (spNN CW) := by
  refine F.ok scNN (fun vs H Q E h => ?_) (fun cdv A outer s H vs Q E hr h => ?_)
  · obtain ⟨ea, v, rfl, _⟩ := h
    rfl
  obtain ⟨ea, v, rfl, he, q⟩ := h
  refine ⟨_, pss_one (ps_fldX (pv 0) (pv 1) rfl), ?_⟩
  exact ⟨_, rfl, _, rfl, ea, CW, rfl, he, C.es, C.nr, fun d hd ne => q d hd ne⟩
def spSayX (CA CN CW : Addr) : Sp := fun vs H Q E => ∃ (x lb : Addr) (n : Nat) (a : Au) (t : Str), vs = [.ref x, .str t] ∧ t.length ≤ 1000 ∧ IsAu CA n a H x lb ∧ WfA n a ∧ (t ∉ all43 → E (.ref CN) none H) ∧
  (∀ c < 43, t = cT c → ∀ r, brkA n a c = some r → ∀ d H', Same H H' → H' d = some (.xd [("rule", .str r)]) → E (.ref CW) (some d) H') ∧ (∀ c < 43, t = cT c → brkA n a c = none → ∀ H', Kept x lb H H' → IsAu CA n (stepA n a c) H' x lb → Q .non H')
theorem scSay : FnScope ["self", "text", "call", "rule"] ["self", "text"] (defScope sSay) := ⟨rfl, rfl, rfl, by decide +kernel, rfl, by decide +kernel, by decide +kernel⟩
theorem ok_say {k : Nat} {CA CN CW fN m1 f2 : Addr} {e1 d2 dN : FuncData} (F : Fun K "say" "Auction.say" sSay f fd) (C : AuC K mg CA) (X : XC K mg CW fN) (FN : FnOk P w K mg base CX0 k fN dN ["self", "rule"] (spNN CW)) (BN : Binds K dN ["self", "rule"] []) (MB : Meth K CA "broken_rule" m1) (FB : FnOk P w K mg base CX0 (k + 1) m1 e1 ["self", "call"] (spBrk CA)) (BB : Binds K e1 ["self", "call"] [])
    (LR : LibX P w K mg base (k + 1) "read_call" ["text"] (spReadCall K CN) f2 d2) (mi : mg "isinstance" = none) (mt : mg "tuple" = none) : FnOk P w K mg base (CX1 P w) (k + 2) f fd ["self", "text"] (spSayX CA CN CW) := by
  refine F.okXD scSay (fun vs H Q E h => ?_) (fun cdv A outer s H vs Q E hr h T TD => ?_)
  · obtain ⟨x, lb, n, a, t, rfl, _⟩ := h
    rfl
  obtain ⟨x, lb, n, a, t, rfl, ht, I, W, q1, q2, q3⟩ := h
  refine ⟨_, pss_cons (ps_set (i := 2) scSay.nd rfl (Or.inl rfl) (pe_call LR.ok hr rfl LR.mg LR.kp LR.bd .nil T.on (pa_cons (pv 1) pa_nil)))
    (pss_cons (ps_set (i := 3) scSay.nd rfl (Or.inl rfl) (pe_meth (pv 0) C.cl MB FB hr BB .nil pass0 (pa_cons (pv 2) pa_nil)))
    (pss_cons (ps_if (pt_cmpR op_notN (pv 3) pe_non (nomark _)) (pss_one (ps_raiseI TD hr.hd rfl X.mW X.ex X.fn FN hr BN rfl (pa_cons (pv 3) pa_nil))) pss_nil)
    (pss_cons (ps_fld (pv 0) (pe_ifExp (pt_cmpR (op_eqS hr.units) (pv 2) pe_str (nomark _)) (pe_op op_add (pe_fld (pv 0) rfl) pe_int) pe_int) rfl)
    (pss_cons (ps_if (pt_cmpR (op_eqS hr.units) (pv 2) pe_str (nomark _)) (pss_one (ps_fld (pv 0) pe_int rfl)) pss_nil)
    (pss_cons (ps_if (pt_cmpR (op_eqS hr.units) (pv 2) pe_str (nomark _)) (pss_one (ps_fld (pv 0) pe_int rfl)) pss_nil)
    (pss_cons (ps_if (pt_truth (pe_callB call_isT rfl mi PyProof.Rows.boot_isinstance (pa_cons (pv 2) (pa_cons (pe_bltn (v := .ty "tuple") rfl mt PyProof.Rows.boot_tuple rfl) pa_nil))) (fun _ => rfl)) (pss_cons (ps_expr (pe_bm PySem.F.plainAttrs_list PySem.F.slot_list_append PySem.F.type_list_append mt_append (pe_fld (pv 0) rfl) (pa_cons (pe_tup (pa_cons (pe_fld (pv 0) rfl) (pa_cons (pv 2) pa_nil))) pa_nil))) (pss_one (ps_fld (pv 0) pe_int rfl))) pss_nil)
    (pss_one (ps_fld (pv 0) (pe_op op_mod (pe_op op_add (pe_fld (pv 0) rfl) pe_int) (pe_fld (pv 0) rfl)) rfl)))))))), ?_⟩
  by_cases hA : t ∈ all43
  rotate_left
  · exact ⟨_, rfl, t, rfl, ht, fun m => absurd (all_W m) hA, fun m hm e => absurd (e ▸ all_call hm) hA, fun z => q1 z⟩
  obtain ⟨c, hc, rfl⟩ := all_c hA
  replace q2 := q2 c hc rfl
  replace q3 := q3 c hc rfl
  refine set_nm (fun v H' => Same H H' ∧ CallIs H' c v) (fun R hR => ?_) (fun v H1 z => ?_)
  · refine ⟨_, rfl, cT c, rfl, cT_short hc, fun m => hR _ _ ⟨Same.refl _, .inr ⟨?_, rfl⟩⟩, fun m hm e p H' s' hp h' => hR _ _ ⟨s', .inl ?_⟩, fun z => absurd (cT_all hc) z⟩
    · by_cases c40 : c < 40
      · rw [cT_bid c40] at m
        exact absurd m call_notW
      · omega
    · by_cases c40 : c < 40
      · rw [cT_bid c40] at e
        have := callT_inj c40 hm e
        subst this
        exact ⟨c40, p, rfl, h'⟩
      · exact (cT_ne (by omega) hc hm e).elim
  obtain ⟨s1, hv⟩ := z
  have I1 := I.same s1
  obtain ⟨dx, fs, hx, A1, B⟩ := id I1
  refine set_nm (fun u H' => Same H1 H' ∧ u = oS (brkA n a c)) (fun R hR => ?_) (fun u H2 z => ?_)
  · exact ⟨_, rfl, x, dx, _, rfl, hx, A1.nm _ (by decide +kernel), _, rfl, x, lb, n, a, c, v, rfl, hc, hv, I1, W, fun H2 s2 => hR _ _ ⟨s2, rfl⟩⟩
  obtain ⟨s2, rfl⟩ := z
  have I2 := I1.same s2
  have s12 := s1.trans s2
  have hv2 : CallIs H2 c v := by
    rcases hv with ⟨h1, p, e, h2⟩ | h
    · exact .inl ⟨h1, p, e, s2 _ _ h2⟩
    · exact .inr h
  clear hv hx A1 B I1
  cases hb : brkA n a c with
  | some r =>
    refine ⟨_, rfl, rfl, _, rfl, iteT ⟨_, rfl, fits3 1 (by decide), fun ea hea => ⟨ea, _, rfl, upd_same, fun d hd ne => ⟨rfl, some d, ?_, ?_⟩⟩⟩⟩
    · rw [upd_ne (Ne.symm ne), upd_same]
    · have hd0 : H2 d = none := by rw [upd_ne ne] at hd; exact hd
      refine q2 r hb d _ (fun b o h => ?_) ?_
      · have h2 := s12 b o h
        have b1 : b ≠ ea := fun z => by rw [z, hea] at h2; cases h2
        have b2 : b ≠ d := fun z => by rw [z, hd0] at h2; cases h2
        rw [dropH_ne b1, upd_ne b2, upd_ne b1, upd_ne b1]
        exact h2
      · rw [dropH_ne ne, upd_same]
        rfl
  | none =>
  have q := q3 hb
  refine if_cut (fun b H' => H2 = H' ∧ b = false) (fun σ H' => H2 = H' ∧ σ = [some (.ref x), some (.str (cT c)), some v, some .non]) (fun R hR => ⟨_, rfl, rfl, _, rfl, hR _ _ ⟨rfl, rfl⟩⟩) (fun H' z => nomatch z.2) (fun H' z D' _ nx => nx _ _ ⟨z.1, rfl⟩) (fun σ H' z => ?_)
  obtain ⟨rfl, rfl⟩ := z
  -- passes
  refine seq_cut (fun σ H' => σ = [some (.ref x), some (.str (cT c)), some v, some .non] ∧ Kept x lb H2 H' ∧ CallIs H' c v ∧ IsAu CA n { a with passes := if c = 40 then a.passes + 1 else 0 } H' x lb) (fun D' _ nx => ?_) (fun σ H3 z => ?_)
  · obtain ⟨dx, fs, hx, A1, B⟩ := id I2
    obtain ⟨vs, hL, _⟩ := B.len
    have e40 : decide (cT c = "pass") = decide (c = 40) := cT_pass c hc
    refine ⟨_, rfl, eqS_call (K := K) hc hv2 no_pass ⟨_, rfl, chg e40 ?_⟩⟩
    have fin : ∀ (p : Nat), p = (if c = 40 then a.passes + 1 else 0) → D'.nx [some (.ref x), some (.str (cT c)), some v, some .non] (upd H2 x (.ins CA dx (putF "passes" (.int (p : Nat)) fs))) := fun p e => by
      refine nx _ _ ⟨rfl, Kept.putx _, hv2.kept hx hL (Kept.putx _), ?_⟩
      rw [← e]
      exact IsAu.putx hx B (A1.pPasses p) rfl
    by_cases c40 : c = 40
    · rw [decide_eq_true c40]
      refine iteT ⟨_, rfl, x, CA, dx, _, _, rfl, hx, C.cl, C.n3, A1.l3, _, _, rfl, rfl, _, rfl, x, CA, dx, fs, rfl, hx, C.cl, C.n3, by have := A1.ln; omega, ?_⟩
      exact fin (a.passes + 1) (if_pos c40).symm
    · rw [decide_eq_false c40]
      refine iteF ⟨_, rfl, x, CA, dx, fs, rfl, hx, C.cl, C.n3, by have := A1.ln; omega, ?_⟩
      exact fin 0 (if_neg c40).symm
  obtain ⟨rfl, k3, hv3, I3⟩ := z
  generalize ea : ({ a with passes := if c = 40 then a.passes + 1 else 0 } : Au) = a3 at I3
  -- double
  refine if_cut (fun b H' => H3 = H' ∧ b = decide (c = 41)) (fun σ H' => σ = [some (.ref x), some (.str (cT c)), some v, some .non] ∧ Kept x lb H3 H' ∧ CallIs H' c v ∧ IsAu CA n (if c = 41 then { a3 with times := 2 } else a3) H' x lb) (fun R hR => ?_) (fun H' z D' _ nx => ?_) (fun H' z D' _ nx => ?_) (fun σ H4 z => ?_)
  · exact ⟨_, rfl, eqS_call (K := K) hc hv3 no_dbl ⟨_, rfl, hR _ _ ⟨rfl, cT_dbl c hc⟩⟩⟩
  · obtain ⟨rfl, hb1⟩ := z
    obtain ⟨dx, fs, hx, A1, B⟩ := id I3
    obtain ⟨vs, hL, _⟩ := B.len
    refine ⟨_, rfl, x, CA, dx, fs, rfl, hx, C.cl, C.n5, by have := A1.ln; omega, nx _ _ ⟨rfl, Kept.putx _, hv3.kept hx hL (Kept.putx _), ?_⟩⟩
    rw [if_pos (of_decide_eq_true hb1.symm)]
    exact IsAu.putx hx B (A1.pTimes 2) rfl
  · obtain ⟨rfl, hb1⟩ := z
    refine nx _ _ ⟨rfl, Kept.refl, hv3, ?_⟩
    rw [if_neg (of_decide_eq_false hb1.symm)]
    exact I3
  obtain ⟨rfl, k4, hv4, I4⟩ := z
  generalize eb : (if c = 41 then { a3 with times := 2 } else a3) = a4 at I4
  -- again
  refine if_cut (fun b H' => H4 = H' ∧ b = decide (c = 42)) (fun σ H' => σ = [some (.ref x), some (.str (cT c)), some v, some .non] ∧ Kept x lb H4 H' ∧ CallIs H' c v ∧ IsAu CA n (if c = 42 then { a4 with times := 4 } else a4) H' x lb) (fun R hR => ?_) (fun H' z D' _ nx => ?_) (fun H' z D' _ nx => ?_) (fun σ H5 z => ?_)
  · exact ⟨_, rfl, eqS_call (K := K) hc hv4 no_agn ⟨_, rfl, hR _ _ ⟨rfl, cT_agn c hc⟩⟩⟩
  · obtain ⟨rfl, hb1⟩ := z
    obtain ⟨dx, fs, hx, A1, B⟩ := id I4
    obtain ⟨vs, hL, _⟩ := B.len
    refine ⟨_, rfl, x, CA, dx, fs, rfl, hx, C.cl, C.n5, by have := A1.ln; omega, nx _ _ ⟨rfl, Kept.putx _, hv4.kept hx hL (Kept.putx _), ?_⟩⟩
    rw [if_pos (of_decide_eq_true hb1.symm)]
    exact IsAu.putx hx B (A1.pTimes 4) rfl
  · obtain ⟨rfl, hb1⟩ := z
    refine nx _ _ ⟨rfl, Kept.refl, hv4, ?_⟩
    rw [if_neg (of_decide_eq_false hb1.symm)]
    exact I4
  obtain ⟨rfl, k5, hv5, I5⟩ := z
  generalize ec : (if c = 42 then { a4 with times := 4 } else a4) = a5 at I5
  have b5 : a5.bids = a.bids ∧ a5.caller = a.caller := by
    rw [← ec, ← eb, ← ea]
    constructor <;> (split <;> split <;> rfl)
  -- a bid
  refine if_cut (fun b H' => H5 = H' ∧ b = decide (c < 40)) (fun σ H' => σ = [some (.ref x), some (.str (cT c)), some v, some .non] ∧ Kept x lb H5 H' ∧ IsAu CA n (if c < 40 then { a5 with bids := a5.bids ++ [(a5.caller, c)], times := 1 } else a5) H' x lb) (fun R hR => ?_) (fun H' z D' _ nx => ?_) (fun H' z D' _ nx => ?_) (fun σ H6 z => ?_)
  · obtain ⟨ty, ty1, ty2⟩ := isTup_call (K := K) hv5
    exact ⟨_, rfl, _, _, ty, _, rfl, ty1, ty2, _, rfl, hR _ _ ⟨rfl, rfl⟩⟩
  · obtain ⟨rfl, hb1⟩ := z
    have c40 := of_decide_eq_true hb1.symm
    obtain ⟨p, rfl, hp⟩ : ∃ p, v = .ref p ∧ H5 p = some (.tup (bidR c)) := by
      rcases hv5 with ⟨_, z⟩ | ⟨z, _⟩
      · exact z
      · omega
    obtain ⟨dx, fs, hx, A1, B⟩ := id I5
    obtain ⟨vs, hL, hl⟩ := B.len
    refine ⟨_, rfl, x, CA, dx, _, _, rfl, hx, C.cl, C.n4, A1.l4, .inl ⟨rfl, _, SqL.of hL⟩, _, rfl, x, CA, dx, _, _, rfl, hx, C.cl, C.n2, A1.l2, _, rfl, fits3 2 (by decide), fun p2 hp2 => ?_⟩
    have s6 := same_upd hp2 (.tup [.int (a5.caller : Nat), .ref p])
    have hLb := s6 _ _ hL
    have nxl : x ≠ lb := fun z => by rw [z, hL] at hx; cases hx
    refine ⟨lb, vs, _, rfl, rfl, hLb, ?_, ?_⟩
    · have h5 := W.ln
      rw [hl, b5.1]
      have := fits3 1000 (by decide)
      omega
    have B6 := IsBids.snoc (s := a5.caller) (r := c) hLb (B.same s6) upd_same (s6 _ _ hp)
    have hx6 : upd (upd H5 p2 (.tup [.int (a5.caller : Nat), .ref p])) lb (.lst (vs ++ [.ref p2])) x = some (.ins CA dx fs) := by rw [upd_ne nxl]; exact s6 _ _ hx
    refine ⟨_, rfl, x, CA, dx, fs, rfl, hx6, C.cl, C.n5, by have := A1.ln; omega, nx _ _ ⟨rfl, (Kept.of s6).trans ((Kept.putl _).trans (Kept.putx _)), ?_⟩⟩
    rw [if_pos c40]
    exact IsAu.putx (a := { a5 with bids := a5.bids ++ [(a5.caller, c)] }) hx6 B6 ((A1.bids (a5.bids ++ [(a5.caller, c)])).pTimes 1) rfl
  · obtain ⟨rfl, hb1⟩ := z
    refine nx _ _ ⟨rfl, Kept.refl, ?_⟩
    rw [if_neg (of_decide_eq_false hb1.symm)]
    exact I5
  obtain ⟨rfl, k6, I6⟩ := z
  generalize ed : (if c < 40 then { a5 with bids := a5.bids ++ [(a5.caller, c)], times := 1 } else a5) = a6 at I6
  have c6 : a6.caller = a.caller := by
    rw [← ed, ← b5.2]
    split <;> rfl
  obtain ⟨dx, fs, hx, A1, B⟩ := id I6
  have n0 : (0 : Int) < ((n : Nat) : Int) := by rcases W.n34 with z | z <;> omega
  refine ⟨_, rfl, x, CA, dx, _, _, rfl, hx, C.cl, C.n2, A1.l2, _, _, rfl, rfl, _, rfl, x, CA, dx, _, _, rfl, hx, C.cl, C.n1, A1.l1, _, _, rfl, rfl, n0, _, rfl, x, CA, dx, fs, rfl, hx, C.cl, C.n2, by have := A1.ln; omega, ?_⟩
  have em : (((a6.caller : Nat) : Int) + 1) % ((n : Nat) : Int) = (((a6.caller + 1) % n : Nat) : Int) := by rw [Int.natCast_emod, Int.natCast_add]; rfl
  refine q _ ((Kept.of s12).trans (k3.trans (k4.trans (k5.trans (k6.trans (Kept.putx _)))))) ?_
  show IsAu CA n (stepA n a c) (upd H6 x (.ins CA dx (putF "caller" (.int ((((a6.caller : Nat) : Int) + 1) % ((n : Nat) : Int))) fs))) x lb
  rw [em]
  have es : stepA n a c = { a6 with caller := (a6.caller + 1) % n } := by
    rw [c6, ← ed, ← ec, ← eb, ← ea]
    unfold stepA
    by_cases x1 : c < 40
    · have x2 : ¬ c = 41 := by omega
      have x3 : ¬ c = 42 := by omega
      simp only [x1, x2, x3, if_true, if_false]
    · by_cases x2 : c = 41
      · have x3 : ¬ c = 42 := by omega
        simp only [x1, x2, x3, if_true, if_false]
        rfl
      · by_cases x3 : c = 42
        · simp only [x1, x2, x3, if_true, if_false]
          rfl
        · simp only [x1, x2, x3, if_true, if_false]
  rw [es]
  exact IsAu.putx hx B (A1.pCaller _) rfl
end
end My

namespace My
open PySem L2
abbrev sLText : Stmt := top 31
abbrev sLRank : Stmt := top 32
abbrev sLOver : Stmt := top 33
abbrev sLast : Stmt := top 34
section
variable {P : Program} {w : World} {K : PySem.W.Frag} {mg : Str → Option Value} {base : Heap} {f g : Addr} {fd gd : FuncData}
theorem for_enumL {K : PySem.W.Frag} {a : Addr} {xs : List V} {g : TG} {tb : TS} {D : Ends} {σ : St} {H : Hp} (Pv : Nat → St → Hp → Prop) (h0 : Pv 0 σ H) (hS : ∀ i σ H, Pv i σ H → SqL K H a xs)
    (hs : ∀ i x p σ H, xs[i]? = some x → Pv i σ H → H p = none → g (.ref p) σ (upd H p (.tup [.int (i : Nat), x])) fun σ2 H2 => tb { D with nx := Pv (i + 1), ct := Pv (i + 1), bk := D.nx } σ2 H2) (hd : ∀ σ H, Pv xs.length σ H → D.nx σ H) :
    ∃ W : Nat → Nat → St → Hp → Prop, (∃ m, W 0 m σ H) ∧ ∀ i m σ H, W i m σ H →
      ((Ite K a).stop i H ∧ D.nx σ H) ∨ ((Ite K a).go i H ∧ ∃ N : St → Hp → Prop, (∀ σ' H', N σ' H' → ∃ m', m' < m ∧ W (i + 1) m' σ' H') ∧ ∀ v H', (Ite K a).yld i H v H' → g v σ H' fun σ2 H2 => tb { D with nx := N, ct := N, bk := D.nx } σ2 H2) := by
  refine ⟨fun i m σ H => m = xs.length - i ∧ i ≤ xs.length ∧ Pv i σ H, ⟨xs.length, by simp, Nat.zero_le _, h0⟩, ?_⟩
  rintro i m σ H ⟨rfl, hi, p⟩
  have sa := hS i σ H p
  by_cases hlt : i < xs.length
  · refine .inr ⟨⟨xs, _, sa, List.getElem?_eq_getElem hlt⟩, Pv (i + 1), fun σ' H' p' => ⟨xs.length - (i + 1), by omega, rfl, hlt, p'⟩, fun v H' y => ?_⟩
    obtain ⟨q, x, rfl, hq, rfl, hx⟩ := y
    exact hs i x q σ H (hx xs sa) p hq
  · have e : i = xs.length := by omega
    subst e
    exact .inl ⟨⟨xs, sa, Nat.le_refl _⟩, hd σ H p⟩
theorem last_ok (cs : List Nat) : (∀ c ∈ cs, c < 43) → ∀ k, (lastF cs).2.1 = some k → ∃ r, cs[k]? = some r ∧ r < 40 := by
  refine snoc_ind (P := fun cs => (∀ c ∈ cs, c < 43) → ∀ k, (lastF cs).2.1 = some k → ∃ r, cs[k]? = some r ∧ r < 40) (fun _ k h => nomatch h) (fun cs c ih => ?_) cs
  intro co k h
  rw [last_snoc] at h
  have old : (lastF cs).2.1 = some k → ∃ r, (cs ++ [c])[k]? = some r ∧ r < 40 := fun z => by
    obtain ⟨r, h1, h2⟩ := ih (fun d hd => co d (List.mem_append_left _ hd)) k z
    exact ⟨r, by rw [List.getElem?_append_left (List.getElem?_eq_some_iff.mp h1).1]; exact h1, h2⟩
  have c43 := co c (List.mem_append_right _ (List.mem_singleton.mpr rfl))
  change (if c = 41 ∨ c = 42 then ((lastF cs).2.1, 2 * (lastF cs).2.2) else if c = 40 then (lastF cs).2 else (some (lastF cs).1, 1)).1 = some k at h
  by_cases e1 : c = 41 ∨ c = 42
  · rw [if_pos e1] at h
    exact old h
  · rw [if_neg e1] at h
    by_cases e2 : c = 40
    · rw [if_pos e2] at h
      exact old h
    · rw [if_neg e2, last_fst] at h
      have e := Option.some.inj h
      subst e
      exact ⟨c, by rw [List.getElem?_append_right (Nat.le_refl _), Nat.sub_self]; rfl, by omega⟩
/-! ### a bid written, and its rank -/
def spLText : Sp := fun vs H Q _ => ∃ r : Nat, vs = [.int (r : Nat)] ∧ r < 40 ∧ Q (.str (cT r)) H
theorem scLText : FnScope ["_law_rank_here"] ["_law_rank_here"] (defScope sLText) := ⟨rfl, rfl, rfl, by decide +kernel, rfl, by decide +kernel, by decide +kernel⟩
theorem ok_ltext {k : Nat} (F : Fun K "_law_text" "_law_text" sLText f fd) : FnOk P w K mg base CX0 (k + 1) f fd ["_law_rank_here"] spLText := by
  refine F.ok scLText (fun vs H Q E h => ?_) (fun cdv A outer s H vs Q E hr h => ?_)
  · obtain ⟨r, rfl, _⟩ := h
    rfl
  obtain ⟨r, rfl, h, q⟩ := h
  refine ⟨_, pss_one (ps_ret (pe_op op_add_str (pe_ix ix_str pe_str (pe_op op_fdiv (pv 0) pe_int) (fun _ _ => rfl)) (pe_ix ix_str pe_str (pe_op op_mod (pv 0) pe_int) (fun _ _ => rfl)))), ?_⟩
  have e1 : ((r : Nat) : Int) / 5 = ((r / 5 : Nat) : Int) := by omega
  have e2 : ((r : Nat) : Int) % 5 = ((r % 5 : Nat) : Int) := by omega
  refine ⟨_, rfl, _, _, rfl, rfl, ⟨by decide, by decide⟩, _, _, _, rfl, rfl, fits3 8 (by decide), (by rw [e1]; exact fig_at _ (by omega)), _, rfl, _, _, rfl, rfl, (show (0 : Int) < 5 by decide), _, _, _, rfl, rfl, fits3 5 (by decide), (by rw [e2]; exact str_at _ (by omega)), ?_⟩
  rw [cT_bid h] at q
  exact ⟨_, _, rfl, rfl, two_fit _ _, q⟩
def spLRank : Sp := fun vs H Q _ => ∃ r : Nat, vs = [.str (cT r)] ∧ r < 40 ∧ Q (.int (r : Nat)) H
theorem scLRank : FnScope ["_law_text_here"] ["_law_text_here"] (defScope sLRank) := ⟨rfl, rfl, rfl, by decide +kernel, rfl, by decide +kernel, by decide +kernel⟩
theorem ok_lrank {k : Nat} (F : Fun K "_law_rank" "_law_rank" sLRank f fd) : FnOk P w K mg base CX0 (k + 1) f fd ["_law_text_here"] spLRank := by
  refine F.ok scLRank (fun vs H Q E h => ?_) (fun cdv A outer s H vs Q E hr h => ?_)
  · obtain ⟨r, rfl, _⟩ := h
    rfl
  obtain ⟨r, rfl, h, q⟩ := h
  refine ⟨_, pss_one (ps_ret (pe_op op_add (pe_op op_mul pe_int (pe_bm PySem.F.plainAttrs_str PySem.F.slot_str_index PySem.F.type_str_index mt_sindex pe_str (pa_cons (pe_ix ix_str (pv 0) pe_int (fun _ _ => rfl)) pa_nil))) (pe_bm PySem.F.plainAttrs_str PySem.F.slot_str_index PySem.F.type_str_index mt_sindex pe_str (pa_cons (pe_ix ix_str (pv 0) pe_int (fun _ _ => rfl)) pa_nil)))), ?_⟩
  have g1 := find_fg (r / 5) (by omega)
  have g2 := find_cp (r % 5) (Nat.mod_lt _ (by decide))
  have ct := cT_bid h
  refine ⟨rfl, _, rfl, cT r, 0, 49 + r / 5, rfl, rfl, ?_, ?_, sFig, ⟨#[49 + r / 5]⟩, ((r / 5 : Nat) : Int), rfl, rfl, (by rw [g1]; omega), g1, ?_⟩
  · rw [ct]; exact fits3 2 (by decide)
  · rw [ct]; rfl
  refine ⟨_, _, rfl, rfl, .inl ⟨by decide, by decide⟩, rfl, _, rfl, cT r, 1, cpL (r % 5), rfl, rfl, ?_, ?_, sStr, ⟨#[cpL (r % 5)]⟩, ((r % 5 : Nat) : Int), rfl, rfl, (by rw [g2]; omega), g2, ?_⟩
  · rw [ct]; exact fits3 2 (by decide)
  · rw [ct]; rfl
  refine ⟨_, _, rfl, rfl, ?_⟩
  have e : (5 : Int) * ((r / 5 : Nat) : Int) + ((r % 5 : Nat) : Int) = ((r : Nat) : Int) := by omega
  show Q (.int ((5 : Int) * ((r / 5 : Nat) : Int) + ((r % 5 : Nat) : Int))) H
  rw [e]
  exact q
/-! ### is it over -/
def spLOver (K : PySem.W.Frag) : Sp := fun vs H Q _ => ∃ (a : Addr) (n : Nat) (cs : List Nat), vs = [.ref a, .int (n : Nat)] ∧ SqL K H a (vC cs) ∧ (∀ c ∈ cs, c < 43) ∧ 1 ≤ n ∧ Q (.bl (overC n cs)) H
theorem scLOver : FnScope ["_law_calls", "_law_seats", "_law_tail"] ["_law_calls", "_law_seats"] (defScope sLOver) := ⟨rfl, rfl, rfl, by decide +kernel, rfl, by decide +kernel, by decide +kernel⟩
theorem ok_lover {k : Nat} (F : Fun K "_law_over" "_law_over" sLOver f fd) (ml : mg "len" = none) : FnOk P w K mg base CX0 (k + 1) f fd ["_law_calls", "_law_seats"] (spLOver K) := by
  refine F.ok scLOver (fun vs H Q E h => ?_) (fun cdv A outer s H vs Q E hr h => ?_)
  · obtain ⟨a, n, cs, rfl, _⟩ := h
    rfl
  obtain ⟨a, n, cs, rfl, hS, co, hn, q⟩ := h
  refine ⟨_, pss_cons (ps_set (i := 2) scLOver.nd rfl (Or.inl rfl) pe_int)
    (pss_cons (ps_while PassesOwn.never (PW.pt (pw_and (pt_cmpR op_lt (pv 2) (pe_callB call_len_seq rfl ml PySem.boot_len (pa_cons (pv 0) pa_nil)) (nomark _)) (pw_and1 (pt_cmpR op_eq (pe_ix ix_list (pv 0) (pe_op op_sub (pe_op op_sub (pe_callB call_len_seq rfl ml PySem.boot_len (pa_cons (pv 0) pa_nil)) pe_int) (pv 2)) (fun _ _ => rfl)) pe_str (nomark _)))))
      (pss_one (ps_set (i := 2) scLOver.nd rfl (Or.inl rfl) (pe_op op_add (pv 2) pe_int))))
    (pss_cons (ps_if (pt_cmpR op_eq (pv 2) (pe_callB call_len_seq rfl ml PySem.boot_len (pa_cons (pv 0) pa_nil)) (nomark _)) (pss_one (ps_ret (pe_cmpR op_eq (pv 2) (pv 1) (nomark _)))) pss_nil)
    (pss_one (ps_ret (pe_cmpR op_eq (pv 2) (pe_op op_sub (pv 1) pe_int) (nomark _)))))), ?_⟩
  have hl := vC_len cs
  have ta := tail_at cs
  have tl := tail_le cs
  refine ⟨fun m σ H' => H = H' ∧ ∃ i : Nat, σ = [some (.ref a), some (.int (n : Nat)), some (.int (i : Nat))] ∧ m = cs.length - i ∧ i ≤ tailF cs, ⟨cs.length, rfl, 0, rfl, rfl, Nat.zero_le _⟩, fun m σ H' z => ?_⟩
  obtain ⟨rfl, i, rfl, rfl, hi⟩ := z
  have done : i = tailF cs → (tSeq (tIfS (tTest (tOp rEq (tVar 2) (tCB (fun xs H_1 Q => ∃ p ys, xs = [V.ref p] ∧ (SqL K H_1 p ys ∨ SqT K H_1 p ys) ∧ Q (V.int ys.length) H_1) (tCons (tVar 0) tNil)))) (tRet (tOp rEq (tVar 2) (tVar 1))) tNext) (tRet (tOp rEq (tVar 2) (tOp (rI0 fun i j => .int (i - j)) (tVar 1) (tC (.int 1))))) : TS) { nx := fun _ H' => Q .non H', rt := Q } [some (.ref a), some (.int (n : Nat)), some (.int (i : Nat))] H := fun e => by
    subst e
    unfold overC at q
    refine ⟨_, rfl, _, rfl, a, _, rfl, .inl hS, rfl, _, rfl, ?_⟩
    have e0 : decide (V.int (tailF cs : Nat) = V.int (((vC cs).length : Nat) : Int)) = decide (tailF cs = cs.length) := decide_eq_decide.mpr ⟨fun h => by injection h with h; omega, fun h => by rw [hl, h]⟩
    refine chg e0 ?_
    by_cases c : tailF cs = cs.length
    · rw [decide_eq_true c]
      rw [if_pos c] at q
      refine iteT ⟨_, rfl, _, rfl, rfl, ?_⟩
      have e : decide (V.int (tailF cs : Nat) = V.int (n : Nat)) = decide (tailF cs = n) := decide_eq_decide.mpr ⟨fun h => by injection h with h; omega, fun h => by rw [h]⟩
      show Q (.bl (decide (V.int (tailF cs : Nat) = V.int (n : Nat)))) H
      rw [e]
      exact q
    · rw [decide_eq_false c]
      rw [if_neg c] at q
      refine iteF ⟨_, rfl, _, rfl, _, _, rfl, rfl, rfl, ?_⟩
      have e : decide (V.int (tailF cs : Nat) = V.int (((n : Nat) : Int) - 1)) = decide (tailF cs = n - 1) := decide_eq_decide.mpr ⟨fun h => by injection h with h; omega, fun h => by rw [h, show ((n - 1 : Nat) : Int) = ((n : Nat) : Int) - 1 by omega]⟩
      show Q (.bl (decide (V.int (tailF cs : Nat) = V.int (((n : Nat) : Int) - 1)))) H
      rw [e]
      exact q
  refine ⟨_, rfl, _, rfl, a, _, rfl, .inl hS, _, _, rfl, rfl, _, rfl, ?_⟩
  have e1 : decide (((i : Nat) : Int) < (((vC cs).length : Nat) : Int)) = decide (i < cs.length) := decide_eq_decide.mpr ⟨fun h => by omega, fun h => by omega⟩
  refine chg e1 ?_
  by_cases c1 : i < cs.length
  · rw [decide_eq_true c1]
    have ix : ((((vC cs).length : Nat) : Int) - 1 - ((i : Nat) : Int)) = ((cs.length - 1 - i : Nat) : Int) := by omega
    obtain ⟨d, hd⟩ : ∃ d, cs[cs.length - 1 - i]? = some d := ⟨_, List.getElem?_eq_getElem (by omega)⟩
    have d43 := co d (List.mem_of_getElem? hd)
    refine iteT ⟨_, rfl, _, rfl, a, _, rfl, .inl hS, _, _, rfl, rfl, _, rfl, _, _, rfl, rfl, a, _, _, _, rfl, rfl, hS, (by rw [ix]; exact vC_at hd), rfl, _, rfl, ?_⟩
    refine chg ((str_dec _ _).trans (cT_pass d d43)) ?_
    by_cases c2 : i < tailF cs
    · have := ta.1 i c2
      rw [hd] at this
      rw [decide_eq_true (Option.some.inj this)]
      refine iteT ⟨fun σ' H' => H = H' ∧ σ' = [some (.ref a), some (.int (n : Nat)), some (.int ((i + 1 : Nat) : Int))], fun σ' H' z => ⟨cs.length - (i + 1), by omega, z.1, i + 1, z.2, rfl, c2⟩, _, rfl, _, _, rfl, rfl, rfl, rfl⟩
    · have e : i = tailF cs := by omega
      obtain ⟨d', h1, h2⟩ := ta.2 (by omega)
      rw [← e, hd] at h1
      rw [decide_eq_false (fun z => h2 ((Option.some.inj h1).symm.trans z))]
      exact iteF (done e)
  · rw [decide_eq_false c1]
    exact iteF (iteF (done (by omega)))
/-! ### the last bid and the times -/
def atV (o : Option Nat) : V := match o with | none => .non | some k => .int (k : Nat)
def spLast (K : PySem.W.Frag) : Sp := fun vs H Q _ => ∃ (a : Addr) (cs : List Nat), vs = [.ref a] ∧ H a = some (.lst (vC cs)) ∧ (∀ c ∈ cs, c < 43) ∧ ∀ p H', Same H H' → H' p = some (.tup [atV (lastF cs).2.1, .int ((lastF cs).2.2 : Nat)]) → Q (.ref p) H'
abbrev nLast : List Str := ["_law_calls", "_law_at", "_law_times", "_law_k", "_law_call"]
theorem scLast : FnScope nLast ["_law_calls"] (defScope sLast) := ⟨rfl, rfl, rfl, by decide +kernel, rfl, by decide +kernel, by decide +kernel⟩
theorem in_da {c : Nat} (h : c < 43) : inV (.str (cT c)) [.str "double", .str "again"] = decide (c = 41 ∨ c = 42) := by
  have e : inV (.str (cT c)) (vS ["double", "again"]) = decide (cT c ∈ (["double", "again"] : List Str)) := inV_str
  refine e.trans ?_
  have all : ∀ c < 43, decide (cT c ∈ (["double", "again"] : List Str)) = decide (c = 41 ∨ c = 42) := by decide +kernel
  exact all c h
theorem ok_last {k : Nat} (F : Fun K "_law_last" "_law_last" sLast f fd) (me : mg "enumerate" = none) : FnOk P w K mg base CX0 (k + 1) f fd ["_law_calls"] (spLast K) := by
  refine F.ok scLast (fun vs H Q E h => ?_) (fun cdv A outer s H vs Q E hr h => ?_)
  · obtain ⟨a, cs, rfl, _⟩ := h
    rfl
  obtain ⟨a, cs, rfl, hL, co, q⟩ := h
  refine ⟨_, pss_cons (ps_set (i := 1) scLast.nd rfl (Or.inl rfl) pe_non)
    (pss_cons (ps_set (i := 2) scLast.nd rfl (Or.inl rfl) pe_int)
    (pss_cons (ps_for PassesOwn.never rfl (pi_enum rfl me (pa_cons (pv 0) pa_nil)) (pg_tup rfl (pgs_cons (pg_name (i := 3) scLast.nd rfl (Or.inl rfl)) (pgs_cons (pg_name (i := 4) scLast.nd rfl (Or.inl rfl)) pgs_nil)))
      (pss_one (ps_if (pt_cmpR op_in_seq (pv 4) (pe_tup (pa_cons pe_str (pa_cons pe_str pa_nil))) rfl) (pss_one (ps_set (i := 2) scLast.nd rfl (Or.inl rfl) (pe_op op_mul pe_int (pv 2))))
        (pss_one (ps_if (pt_cmpR op_ne (pv 4) pe_str (nomark _)) (pss_cons (ps_set (i := 1) scLast.nd rfl (Or.inl rfl) (pv 3)) (pss_one (ps_set (i := 2) scLast.nd rfl (Or.inl rfl) pe_int))) pss_nil)))))
    (pss_one (ps_ret (pe_tup (pa_cons (pv 1) (pa_cons (pv 2) pa_nil))))))), ?_⟩
  refine ⟨_, rfl, a, _, rfl, hL, for_enumL (K := K) (xs := vC cs) (fun i σ H' => Same H H' ∧ ∃ x3 x4, σ = [some (.ref a), some (atV (lastF (cs.take i)).2.1), some (.int ((lastF (cs.take i)).2.2 : Nat)), x3, x4]) ⟨Same.refl _, none, none, by rw [List.take_zero]; rfl⟩ (fun i σ H' z => SqL.of (z.1 _ _ hL)) (fun i x p σ H1 hx z hp => ?_) (fun σ H1 z => ?_)⟩
  · obtain ⟨s1, x3, x4, rfl⟩ := z
    obtain ⟨c, hc, rfl⟩ := vC_get hx
    have c43 := co c (List.mem_of_getElem? hc)
    have il : i < cs.length := (List.getElem?_eq_some_iff.mp hc).1
    have s2 := same_upd hp (.tup [.int (i : Nat), .str (cT c)])
    have tk : cs.take (i + 1) = cs.take i ++ [c] := by rw [List.take_add_one, hc]; rfl
    have lf : (lastF (cs.take i)).1 = i := by rw [last_fst, List.length_take]; omega
    have ls : lastF (cs.take (i + 1)) = lst3 (lastF (cs.take i)) c := by rw [tk, last_snoc]
    refine ⟨p, _, rfl, SqT.of upd_same, rfl, _, _, rfl, _, _, rfl, rfl, ?_⟩
    refine ⟨_, rfl, fits3 2 (by decide), fun p2 hp2 => ?_⟩
    have s3 := same_upd hp2 (.tup [.str "double", .str "again"])
    refine ⟨p2, _, rfl, .inr (SqT.of upd_same), rfl, rfl, _, rfl, ?_⟩
    refine chg (in_da c43) ?_
    have sA := s1.trans (s2.trans s3)
    by_cases e1 : c = 41 ∨ c = 42
    · rw [decide_eq_true e1]
      refine iteT ⟨_, rfl, _, _, rfl, rfl, .inl ⟨by decide, by decide⟩, sA, some (.int (i : Nat)), some (.str (cT c)), ?_⟩
      rw [ls]
      unfold lst3
      rw [if_pos e1]
      show [_, _, some (V.int ((2 : Int) * (((lastF (cs.take i)).2.2 : Nat) : Int))), _, _] = _
      rw [show (2 : Int) * (((lastF (cs.take i)).2.2 : Nat) : Int) = ((2 * (lastF (cs.take i)).2.2 : Nat) : Int) by omega]
    · rw [decide_eq_false e1]
      refine iteF ⟨_, rfl, rfl, _, rfl, ?_⟩
      refine chg (congrArg (fun b => !b) ((str_dec _ _).trans (cT_pass c c43))) ?_
      by_cases e2 : c = 40
      · rw [decide_eq_true e2]
        refine iteF ⟨sA, some (.int (i : Nat)), some (.str (cT c)), ?_⟩
        rw [ls]
        unfold lst3
        rw [if_neg e1, if_pos e2]
        rfl
      · rw [decide_eq_false e2]
        refine iteT ⟨_, rfl, sA, some (.int (i : Nat)), some (.str (cT c)), ?_⟩
        rw [ls]
        unfold lst3
        rw [if_neg e1, if_neg e2, lf]
        rfl
  · obtain ⟨s1, x3, x4, rfl⟩ := z
    rw [vC_len, List.take_length]
    refine ⟨_, rfl, _, rfl, fits3 2 (by decide), fun p hp => q p _ (s1.trans (same_upd hp _)) upd_same⟩
end
end My

set_option maxHeartbeats 1000000
namespace L2
open PySem PySem.Spec PyProof.Rows
open AutoSeq1 (wpAny_loadPart')
section
variable {prog : Program} {w : World} {A : Around} {E : Value → Shared → Prop} {s : Shared}
end
end L2

namespace L2
open PySem PySem.Spec PyProof.Rows
open AutoSeq1 (wpAny_loadPart')
/-! ### for x, y in zip(s, t), s and t tuples -/
def ItzT (K : PySem.W.Frag) (a b : Addr) : It :=
  ⟨fun i H => ∃ xs ys x y, SqT K H a xs ∧ SqT K H b ys ∧ xs[i]? = some x ∧ ys[i]? = some y, fun i H v H' => ∃ p x y, v = .ref p ∧ H p = none ∧ H' = upd H p (.tup [x, y]) ∧ (∀ xs, SqT K H a xs → xs[i]? = some x) ∧ ∀ ys, SqT K H b ys → ys[i]? = some y,
    fun i H => ∃ xs ys, SqT K H a xs ∧ SqT K H b ys ∧ xs.length ≤ i⟩
section
variable {X : Cx}
def iZipT (K : PySem.W.Frag) (ta : TA) : TI := fun σ H R => ta σ H fun vs H1 => ∃ a b xs ys, vs = [.ref a, .ref b] ∧ SqT K H1 a xs ∧ SqT K H1 b ys ∧ R (ItzT K a b) H1
end
end L2

namespace My
open PySem L2
/-! ### all bids, and the first of a side that names a strain -/
def bid3 (n first : Nat) (s : Nat × List (Nat × Nat)) (c : Nat) : Nat × List (Nat × Nat) := (s.1 + 1, if c < 40 then s.2 ++ [((first + s.1) % n, c)] else s.2)
def bidsF (n first : Nat) (cs : List Nat) : Nat × List (Nat × Nat) := cs.foldl (bid3 n first) (0, [])
theorem bids_snoc (n first : Nat) (cs : List Nat) (c : Nat) : bidsF n first (cs ++ [c]) = bid3 n first (bidsF n first cs) c := by unfold bidsF; rw [List.foldl_append]; rfl
theorem bids_fst (n first : Nat) (cs : List Nat) : (bidsF n first cs).1 = cs.length := by
  refine snoc_ind (P := fun cs => (bidsF n first cs).1 = cs.length) rfl (fun cs c ih => ?_) cs
  rw [bids_snoc, List.length_append]
  show (bidsF n first cs).1 + 1 = _
  rw [ih]
  rfl
structure RelB (n first : Nat) (cs : List Nat) (a : Au) : Prop where
  r : Rel n first cs a
  b : a.bids = (bidsF n first cs).2
theorem RelB.begin {n first : Nat} (h : n = 3 ∨ n = 4) (hf : first < n) : RelB n first [] ⟨first, 0, 1, []⟩ := ⟨Rel.begin h hf, rfl⟩
theorem RelB.step {n first : Nat} {cs : List Nat} {a : Au} {c : Nat} (R : RelB n first cs a) (hc : c < 43) (st : standsC n cs c = true) : RelB n first (cs ++ [c]) (stepA n a c) := by
  refine ⟨R.r.step hc st, ?_⟩
  rw [bids_snoc]
  show (if c < 40 then a.bids ++ [(a.caller, c)] else a.bids) = (if c < 40 then (bidsF n first cs).2 ++ [((first + (bidsF n first cs).1) % n, c)] else (bidsF n first cs).2)
  rw [R.b, bids_fst, R.r.ca]
/-- the first bid that the test takes: its place and its rank -/
def hit3 (T : Nat → Nat → Bool) (s : Nat × Option (Nat × Nat)) (c : Nat) : Nat × Option (Nat × Nat) := (s.1 + 1, match s.2 with | some v => some v | none => if c < 40 ∧ T s.1 c = true then some (s.1, c) else none)
def hitF (T : Nat → Nat → Bool) (cs : List Nat) : Nat × Option (Nat × Nat) := cs.foldl (hit3 T) (0, none)
theorem hit_snoc (T : Nat → Nat → Bool) (cs : List Nat) (c : Nat) : hitF T (cs ++ [c]) = hit3 T (hitF T cs) c := by unfold hitF; rw [List.foldl_append]; rfl
theorem hit_fst (T : Nat → Nat → Bool) (cs : List Nat) : (hitF T cs).1 = cs.length := by
  refine snoc_ind (P := fun cs => (hitF T cs).1 = cs.length) rfl (fun cs c ih => ?_) cs
  rw [hit_snoc, List.length_append]
  show (hitF T cs).1 + 1 = _
  rw [ih]
  rfl
theorem hit_stay (T : Nat → Nat → Bool) (cs ds : List Nat) {v : Nat × Nat} (h : (hitF T cs).2 = some v) : (hitF T (cs ++ ds)).2 = some v := by
  refine snoc_ind (P := fun ds => (hitF T (cs ++ ds)).2 = some v) (by rw [List.append_nil]; exact h) (fun ds c ih => ?_) ds
  rw [← List.append_assoc, hit_snoc]
  show (match (hitF T (cs ++ ds)).2 with | some v => some v | none => _) = some v
  rw [ih]
theorem hit_some (T : Nat → Nat → Bool) (cs : List Nat) : ∀ {j c : Nat}, cs[j]? = some c → c < 40 → T j c = true → (hitF T cs).2 ≠ none := by
  refine snoc_ind (P := fun cs => ∀ {j c : Nat}, cs[j]? = some c → c < 40 → T j c = true → (hitF T cs).2 ≠ none) (fun h => by cases h) (fun cs d ih => ?_) cs
  intro j c hj hc ht
  rw [hit_snoc]
  show (match (hitF T cs).2 with | some v => some v | none => if d < 40 ∧ T (hitF T cs).1 d = true then some ((hitF T cs).1, d) else none) ≠ none
  by_cases lt : j < cs.length
  · rw [List.getElem?_append_left lt] at hj
    have := ih hj hc ht
    cases e : (hitF T cs).2 with
    | none => exact absurd e this
    | some v => exact fun z => nomatch z
  · have jl : j < (cs ++ [d]).length := (List.getElem?_eq_some_iff.mp hj).1
    rw [List.length_append] at jl
    have jl' : j < cs.length + 1 := jl
    have e : j = cs.length := by omega
    rw [e, List.getElem?_append_right (Nat.le_refl _), Nat.sub_self] at hj
    have ed : d = c := Option.some.inj hj
    subst ed
    cases (hitF T cs).2 with
    | some v => exact fun z => nomatch z
    | none =>
      rw [hit_fst, ← e, if_pos ⟨hc, ht⟩]
      exact fun z => nomatch z
theorem find_hit (n first : Nat) (P : Nat → Nat → Bool) (cs : List Nat) : (bidsF n first cs).2.find? (fun b => P b.1 b.2) = (hitF (fun j c => P ((first + j) % n) c) cs).2.map fun v => ((first + v.1) % n, v.2) := by
  refine snoc_ind (P := fun cs => (bidsF n first cs).2.find? (fun b => P b.1 b.2) = (hitF (fun j c => P ((first + j) % n) c) cs).2.map fun v => ((first + v.1) % n, v.2)) rfl (fun cs c ih => ?_) cs
  rw [bids_snoc, hit_snoc]
  show (if c < 40 then (bidsF n first cs).2 ++ [((first + (bidsF n first cs).1) % n, c)] else (bidsF n first cs).2).find? (fun b => P b.1 b.2) = Option.map (fun v : Nat × Nat => ((first + v.1) % n, v.2)) (match (hitF (fun j c => P ((first + j) % n) c) cs).2 with | some v => some v | none => if c < 40 ∧ P ((first + (hitF (fun j c => P ((first + j) % n) c) cs).1) % n) c = true then some ((hitF (fun j c => P ((first + j) % n) c) cs).1, c) else none)
  rw [bids_fst, hit_fst]
  by_cases c40 : c < 40
  · rw [if_pos c40, List.find?_append, ih]
    cases (hitF (fun j c => P ((first + j) % n) c) cs).2 with
    | some v => rfl
    | none =>
      show (none : Option (Nat × Nat)).or ([((first + cs.length) % n, c)].find? fun b => P b.1 b.2) = _
      rw [Option.none_or, List.find?_cons]
      cases e : P ((first + cs.length) % n) c with
      | true =>
        rw [if_pos ⟨c40, rfl⟩]
        rfl
      | false =>
        rw [if_neg (fun z => by cases z.2)]
        rfl
  · rw [if_neg c40, ih]
    cases (hitF (fun j c => P ((first + j) % n) c) cs).2 with
    | some v => rfl
    | none =>
      rw [if_neg (fun z => c40 z.1)]
def own2 (n i j : Nat) : Bool := decide (i = j) || (decide (n = 4) && decide (i % 2 = j % 2))
theorem side_own {n : Nat} (h : n = 3 ∨ n = 4) (first j k : Nat) : decide (sideN n ((first + j) % n) = sideN n ((first + k) % n)) = own2 n (j % n) (k % n) := by
  unfold own2
  rcases h with rfl | rfl
  · rw [side3 _ (Nat.mod_lt _ (by decide)) _ (Nat.mod_lt _ (by decide)), show decide (3 = 4) = false from rfl, Bool.false_and, Bool.or_false]
    exact decide_eq_decide.mpr ⟨fun z => by omega, fun z => by omega⟩
  · rw [side4 _ (Nat.mod_lt _ (by decide)) _ (Nat.mod_lt _ (by decide)), show decide (4 = 4) = true from rfl, Bool.true_and, ← Bool.decide_or]
    exact decide_eq_decide.mpr ⟨fun z => by omega, fun z => by omega⟩
theorem own2_C {n : Nat} (h : n = 3 ∨ n = 4) {k l : Nat} (hk : k ≤ l) : own2 n (l % n) (k % n) = ownC n (l - k) := by
  unfold own2 ownC
  rcases h with rfl | rfl
  · rw [show decide (3 = 4) = false from rfl, Bool.false_and, Bool.or_false, Bool.false_and, Bool.or_false]
    exact decide_eq_decide.mpr ⟨fun z => by omega, fun z => by omega⟩
  · rw [show decide (4 = 4) = true from rfl, Bool.true_and, Bool.true_and, ← Bool.decide_or, ← Bool.decide_or]
    exact decide_eq_decide.mpr ⟨fun z => by omega, fun z => by omega⟩
/-- the law's search -/
def dueT (n : Nat) (cs : List Nat) (k r : Nat) : Nat → Nat → Bool := fun j c => decide (c % 5 = r % 5) && own2 n (j % n) (k % n)
/-- the contract of these calls: tricks, strain, seat, times -/
def conF (n first : Nat) (cs : List Nat) : Option (Nat × Nat × Nat) := match (lastF cs).2.1 with
  | none => none
  | some k => match (hitF (dueT n cs k (cs.getD k 0)) cs).2 with
    | none => none
    | some v => some (cs.getD k 0, (first + v.1) % n, (lastF cs).2.2)
/-- what the program finds -/
def nameA (n : Nat) (a : Au) (r s : Nat) : Option Nat := (a.bids.find? fun b => decide (b.2 % 5 = r % 5) && decide (sideN n b.1 = sideN n s)).map (·.1)
theorem RelB.name {n first : Nat} {cs : List Nat} {a : Au} (R : RelB n first cs a) {k r : Nat} : nameA n a r ((first + k) % n) = (hitF (dueT n cs k r) cs).2.map fun v => (first + v.1) % n := by
  unfold nameA
  rw [R.b, find_hit n first (fun s c => decide (c % 5 = r % 5) && decide (sideN n s = sideN n ((first + k) % n))) cs]
  have e : (fun j c => decide (c % 5 = r % 5) && decide (sideN n ((first + j) % n) = sideN n ((first + k) % n))) = dueT n cs k r := by
    funext j c
    unfold dueT
    rw [side_own R.r.n34]
  rw [e, Option.map_map]
  rfl
theorem RelB.hit {n first : Nat} {cs : List Nat} {a : Au} (R : RelB n first cs a) {k r : Nat} (hk : cs[k]? = some r) (hr : r < 40) : (hitF (dueT n cs k r) cs).2 ≠ none := by
  refine hit_some _ _ hk hr ?_
  unfold dueT own2
  rw [decide_eq_true rfl, decide_eq_true rfl]
  rfl
end My

namespace My
open PySem L2
/-- the rule by which a call does not stand, by the calls alone -/
def ruleC (n : Nat) (cs : List Nat) (c : Nat) : Option Str :=
  if overC n cs = true then some "over" else if c = 40 then none else
  if c < 40 then (match (lastF cs).2.1 with | none => none | some k => if cs.getD k 0 < c then none else some "low") else
  match (lastF cs).2.1 with
  | none => some (cT c)
  | some k => if c = 41 then (if (!ownC n (cs.length - k) && decide ((lastF cs).2.2 = 1)) = true then none else some (cT c)) else (if (ownC n (cs.length - k) && decide ((lastF cs).2.2 = 2)) = true then none else some (cT c))
theorem stands_rule (n : Nat) (cs : List Nat) (c : Nat) : standsC n cs c = (ruleC n cs c).isNone := by
  unfold standsC ruleC
  by_cases h1 : overC n cs = true
  · rw [if_pos h1, if_pos h1]; rfl
  rw [if_neg h1, if_neg h1]
  by_cases h2 : c = 40
  · rw [if_pos h2, if_pos h2]; rfl
  rw [if_neg h2, if_neg h2]
  by_cases h3 : c < 40
  · rw [if_pos h3, if_pos h3]
    cases (lastF cs).2.1 with
    | none => rfl
    | some k =>
      dsimp only
      by_cases h4 : cs.getD k 0 < c
      · rw [if_pos h4, decide_eq_true h4]; rfl
      · rw [if_neg h4, decide_eq_false h4]; rfl
  · rw [if_neg h3, if_neg h3]
    cases (lastF cs).2.1 with
    | none => rfl
    | some k =>
      dsimp only
      by_cases h4 : c = 41
      · rw [if_pos h4, if_pos h4]
        cases (!ownC n (cs.length - k) && decide ((lastF cs).2.2 = 1)) <;> rfl
      · rw [if_neg h4, if_neg h4]
        cases (ownC n (cs.length - k) && decide ((lastF cs).2.2 = 2)) <;> rfl
theorem Rel.rule {n first : Nat} {cs : List Nat} {a : Au} {c : Nat} (R : Rel n first cs a) (hc : c < 43) : brkA n a c = ruleC n cs c := by
  unfold brkA ruleC
  rw [R.done]
  by_cases z : overC n cs = true
  · rw [if_pos z, if_pos z]
  rw [if_neg z, if_neg z]
  rcases R.bd with ⟨h1, h2, h3, h4⟩ | ⟨k, r, bs, h1, h2, h3, h4, h5, h6⟩
  · rw [h2, h1, List.getLast?_nil]
    dsimp only
    by_cases e40 : c = 40
    · rw [if_pos e40, if_neg (by omega), if_neg (by omega)]
    · rw [if_neg e40]
      by_cases c40 : c < 40
      · rw [if_pos c40, if_neg (by omega), if_neg (by omega)]
      · rw [if_neg c40]
        by_cases e41 : c = 41
        · rw [if_pos e41, e41]; rfl
        · have e42 : c = 42 := by omega
          rw [if_neg e41, if_pos e42, e42]; rfl
  · have kl := (List.getElem?_eq_some_iff.mp h3).1
    have ow := R.own h1 (Nat.le_of_lt kl)
    have g : cs.getD k 0 = r := by rw [List.getD_eq_getElem?_getD, h3]; rfl
    rw [ow, R.tm, h2, h1, List.getLast?_concat]
    dsimp only
    by_cases e40 : c = 40
    · rw [if_pos e40, if_neg (by omega), if_neg (by omega), if_neg (by omega)]
    · rw [if_neg e40]
      by_cases c40 : c < 40
      · rw [if_pos c40, if_pos c40, g]
      · rw [if_neg c40, if_neg c40]
        by_cases e41 : c = 41
        · rw [if_pos e41, if_pos e41]
          have ct : cT c = "double" := by rw [e41]; rfl
          rw [ct]
          cases ownC n (cs.length - k) <;> by_cases t1 : (lastF cs).2.2 = 1 <;> simp [t1]
        · have e42 : c = 42 := by omega
          rw [if_neg e41, if_pos e42, if_neg e41]
          have ct : cT c = "again" := by rw [e42]; rfl
          rw [ct]
          cases ownC n (cs.length - k) <;> by_cases t1 : (lastF cs).2.2 = 2 <;> simp [t1]
end My

namespace My
open PySem L2
section
variable {P : Program} {w : World} {K : PySem.W.Frag} {mg : Str → Option Value} {base : Heap} {f g : Addr} {fd gd : FuncData}
theorem nx_of {T : St → Hp → Prop} {rt : VK} {bk ct : St → Hp → Prop} {σ : St} {H : Hp} (h : T σ H) : tNext (Ends.mk T rt bk ct) σ H := h
theorem nm_of {T : St → Hp → Prop} {rt : VK} {bk ct : St → Hp → Prop} {σ : St} {H : Hp} {i : Nat} {v : V} (h : T (σ.set i (some v)) H) : gName i v σ H (Ends.mk T rt bk ct).nx := h
theorem int_dec {a b : Int} : decide (V.int a = V.int b) = decide (a = b) := decide_eq_decide.mpr ⟨fun h => by injection h, fun h => by rw [h]⟩
theorem nat_dec {a b : Nat} : decide (V.int (a : Nat) = V.int (b : Nat)) = decide (a = b) := int_dec.trans (decide_eq_decide.mpr ⟨fun h => by omega, fun h => by omega⟩)
theorem atV_non (o : Option Nat) : decide (atV o = .non) = o.isNone := by cases o <;> rfl
theorem find_at {α : Type} {p : α → Bool} : ∀ {l : List α} {i : Nat} {b : α}, (l.take i).find? p = none → l[i]? = some b → p b = true → l.find? p = some b
  | [], _, _, _, h, _ => by cases h
  | x :: l, 0, b, _, h, hp => by
    have e : x = b := Option.some.inj h
    subst e
    rw [List.find?_cons, hp]
  | x :: l, i + 1, b, h0, h, hp => by
    rw [List.take_succ_cons, List.find?_cons] at h0
    rw [List.find?_cons]
    cases e : p x with
    | true => rw [e] at h0; cases h0
    | false =>
      rw [e] at h0
      exact find_at h0 h hp
theorem find_next {α : Type} {p : α → Bool} {l : List α} {i : Nat} {b : α} (h0 : (l.take i).find? p = none) (h : l[i]? = some b) (hp : p b = false) : (l.take (i + 1)).find? p = none := by
  rw [List.take_add_one, h, List.find?_append, h0]
  show (none : Option α).or ([b].find? p) = none
  rw [Option.none_or, List.find?_cons, hp]
  rfl
theorem st_scal (r q : Nat) : scal (stV r) (stV q) = true := by unfold stV; split <;> split <;> rfl
theorem st_dec : ∀ r < 5, ∀ q < 5, decide (stV r = stV q) = decide (r = q) := by decide +kernel
/-! ### the first to name a strain, the contract -/
def spFirst (CA : Addr) : Sp := fun vs H Q _ => ∃ (x lb : Addr) (n : Nat) (a : Au) (r s : Nat), vs = [.ref x, stV (r % 5), .int (sideN n s : Nat)] ∧ IsAu CA n a H x lb ∧ WfA n a ∧ ∀ H', Same H H' → Q (atV (nameA n a r s)) H'
abbrev nFirst : List Str := ["self", "strain", "side", "seat", "bid"]
theorem scFirst : FnScope nFirst ["self", "strain", "side"] (defScope sFirst) := ⟨rfl, rfl, rfl, by decide +kernel, rfl, by decide +kernel, by decide +kernel⟩
theorem ok_first {k : Nat} {CA f1 : Addr} {d1 : FuncData} (F : Fun K "first_to_name" "Auction.first_to_name" sFirst f fd) (C : AuC K mg CA) (LS : Lib P w K mg base k "side_of" ["seats", "seat"] spSide f1 d1) : FnOk P w K mg base CX0 (k + 1) f fd ["self", "strain", "side"] (spFirst CA) := by
  refine F.ok scFirst (fun vs H Q E h => ?_) (fun cdv A outer s H vs Q E hr h => ?_)
  · obtain ⟨x, lb, n, a, r, s, rfl, _⟩ := h
    rfl
  obtain ⟨x, lb, n, a, r, s, rfl, ⟨dx, fs, hx, A1, vs, hL, hl, B⟩, W, q⟩ := h
  refine ⟨_, pss_cons (ps_for PassesOwn.never rfl (pi_list (pe_fld (pv 0) rfl)) (pg_tup rfl (pgs_cons (pg_name (i := 3) scFirst.nd rfl (Or.inl rfl)) (pgs_cons (pg_name (i := 4) scFirst.nd rfl (Or.inl rfl)) pgs_nil)))
      (pss_one (ps_if (PW.pt (pw_and (pt_cmpR op_eq (pe_ix ix_tup (pv 4) pe_int (fun _ _ => rfl)) (pv 1) (nomark _)) (pw_and1 (pt_cmpR op_eq (pe_call LS.ok hr rfl LS.mg LS.kp LS.bd .nil pass0 (pa_cons (pe_fld (pv 0) rfl) (pa_cons (pv 3) pa_nil))) (pv 2) (nomark _))))) (pss_one (ps_ret (pv 3))) pss_nil)))
    (pss_one (ps_ret pe_non)), ?_⟩
  unfold nameA at q
  have n4 : n ≤ 4 := by rcases W.n34 with z | z <;> omega
  refine ⟨_, rfl, x, CA, dx, _, _, rfl, hx, C.cl, C.n4, A1.l4, lb, rfl, ⟨_, SqL.of hL⟩, for_list (K := K) (xs := vs) (fun i σ H' => H = H' ∧ (a.bids.take i).find? (fun b => decide (b.2 % 5 = r % 5) && decide (sideN n b.1 = sideN n s)) = none ∧ ∃ x3 x4, σ = [some (.ref x), some (stV (r % 5)), some (.int (sideN n s : Nat)), x3, x4]) ⟨rfl, by rw [List.take_zero]; rfl, _, _, rfl⟩ (fun i σ H' _ z => z.1 ▸ SqL.of hL) (fun i v σ H' hv z => ?_) (fun σ H' z => ?_)⟩
  · obtain ⟨rfl, h0, x3, x4, rfl⟩ := z
    have il : i < a.bids.length := by rw [← hl]; exact (List.getElem?_eq_some_iff.mp hv).1
    obtain ⟨⟨s1, r1⟩, hb⟩ : ∃ b, a.bids[i]? = some b := ⟨_, List.getElem?_eq_getElem il⟩
    obtain ⟨p, b, rfl, hp, hbb⟩ := B i v s1 r1 hv hb
    have w1 := W.bd (s1, r1) (List.mem_of_getElem? hb)
    have e1 : decide (stV (r1 % 5) = stV (r % 5)) = decide (r1 % 5 = r % 5) := st_dec _ (Nat.mod_lt _ (by decide)) _ (Nat.mod_lt _ (by decide))
    refine ⟨p, _, rfl, SqT.of hp, rfl, _, _, rfl, _, _, rfl, rfl, ?_⟩
    refine ⟨_, rfl, b, _, _, stV (r1 % 5), rfl, rfl, SqT.of hbb, rfl, _, rfl, st_scal _ _, _, rfl, chg e1 ?_⟩
    by_cases c1 : r1 % 5 = r % 5
    · rw [decide_eq_true c1]
      refine iteT ⟨_, rfl, x, CA, dx, _, _, rfl, hx, C.cl, C.n1, A1.l1, _, rfl, n, s1, rfl, W.n34, by have : s1 < n := w1.1; omega, _, rfl, rfl, _, rfl, chg nat_dec ?_⟩
      by_cases c2 : sideN n s1 = sideN n s
      · rw [decide_eq_true c2]
        have z := find_at h0 hb (show (decide (r1 % 5 = r % 5) && decide (sideN n s1 = sideN n s)) = true by rw [decide_eq_true c1, decide_eq_true c2]; rfl)
        rw [z] at q
        exact iteT ⟨_, rfl, q H (Same.refl H)⟩
      · rw [decide_eq_false c2]
        exact iteF ⟨rfl, find_next h0 hb (show (decide (r1 % 5 = r % 5) && decide (sideN n s1 = sideN n s)) = false by rw [decide_eq_false c2, Bool.and_false]), _, _, rfl⟩
    · rw [decide_eq_false c1]
      exact iteF (iteF ⟨rfl, find_next h0 hb (show (decide (r1 % 5 = r % 5) && decide (sideN n s1 = sideN n s)) = false by rw [decide_eq_false c1, Bool.false_and]), _, _, rfl⟩)
  · obtain ⟨rfl, h0, x3, x4, rfl⟩ := z
    rw [hl, List.take_length] at h0
    rw [h0] at q
    exact q H (Same.refl H)
def conL (r : Nat) (o : Option Nat) (m : Nat) : List V := [.int ((r / 5 : Nat) + 1), stV (r % 5), atV o, .int (m : Nat)]
def spCon (CA : Addr) : Sp := fun vs H Q _ => ∃ (x lb : Addr) (n : Nat) (a : Au), vs = [.ref x] ∧ IsAu CA n a H x lb ∧ WfA n a ∧ (a.bids = [] → Q .non H) ∧ ∀ bs s r, a.bids = bs ++ [(s, r)] → ∀ p H', Same H H' → H' p = some (.tup (conL r (nameA n a r s) a.times)) → Q (.ref p) H'
abbrev nCon : List Str := ["self", "last", "tricks", "strain"]
theorem scCon : FnScope nCon ["self"] (defScope sContract) := ⟨rfl, rfl, rfl, by decide +kernel, rfl, by decide +kernel, by decide +kernel⟩
theorem ok_con {k : Nat} {CA f1 m2 : Addr} {d1 e2 : FuncData} (F : Fun K "contract" "Auction.contract" sContract f fd) (C : AuC K mg CA) (LS : Lib P w K mg base k "side_of" ["seats", "seat"] spSide f1 d1) (MF : Meth K CA "first_to_name" m2) (FF : FnOk P w K mg base CX0 k m2 e2 ["self", "strain", "side"] (spFirst CA)) (BF : Binds K e2 ["self", "strain", "side"] []) (ml : mg "len" = none) :
    FnOk P w K mg base CX0 (k + 1) f fd ["self"] (spCon CA) := by
  refine F.ok scCon (fun vs H Q E h => ?_) (fun cdv A outer s H vs Q E hr h => ?_)
  · obtain ⟨x, lb, n, a, rfl, _⟩ := h
    rfl
  obtain ⟨x, lb, n, a, rfl, I, W, q1, q2⟩ := h
  refine ⟨_, pss_cons (ps_if (pt_cmpR op_eq (pe_callB call_len_seq rfl ml PySem.boot_len (pa_cons (pe_fld (pv 0) rfl) pa_nil)) pe_int (nomark _)) (pss_one (ps_ret pe_non)) pss_nil)
    (pss_cons (ps_set (i := 1) scCon.nd rfl (Or.inl rfl) (pe_ix ix_list (pe_fld (pv 0) rfl) (pe_un un_neg pe_int) (fun _ _ => rfl)))
    (pss_cons (ps_set (i := 2) scCon.nd rfl (Or.inl rfl) (pe_ix ix_tup (pe_ix ix_tup (pv 1) pe_int (fun _ _ => rfl)) pe_int (fun _ _ => rfl)))
    (pss_cons (ps_set (i := 3) scCon.nd rfl (Or.inl rfl) (pe_ix ix_tup (pe_ix ix_tup (pv 1) pe_int (fun _ _ => rfl)) pe_int (fun _ _ => rfl)))
    (pss_one (ps_ret (pe_tup (pa_cons (pv 2) (pa_cons (pv 3) (pa_cons (pe_meth (pv 0) C.cl MF FF hr BF .nil pass0 (pa_cons (pv 3) (pa_cons (pe_call LS.ok hr rfl LS.mg LS.kp LS.bd .nil pass0 (pa_cons (pe_fld (pv 0) rfl) (pa_cons (pe_ix ix_tup (pv 1) pe_int (fun _ _ => rfl)) pa_nil))) pa_nil))) (pa_cons (pe_fld (pv 0) rfl) pa_nil)))))))))), ?_⟩
  obtain ⟨dx, fs, hx, A1, B⟩ := id I
  obtain ⟨vs, hL, hl⟩ := B.len
  have n4 : n ≤ 4 := by rcases W.n34 with z | z <;> omega
  refine ⟨_, rfl, x, CA, dx, _, _, rfl, hx, C.cl, C.n4, A1.l4, lb, _, rfl, .inl (SqL.of hL), rfl, _, rfl, ?_⟩
  have e0 : decide (V.int ((vs.length : Nat) : Int) = V.int 0) = decide (a.bids = []) := (decide_eq_decide.mpr ⟨fun h => by injection h with h; omega, fun h => by rw [hl, h]; rfl⟩ : decide (V.int ((vs.length : Nat) : Int) = V.int 0) = decide (a.bids.length = 0)).trans (len_nil a.bids)
  refine chg e0 ?_
  by_cases cb : a.bids = []
  · rw [decide_eq_true cb]
    exact iteT (q1 cb)
  rw [decide_eq_false cb]
  obtain ⟨bs, ⟨s0, r0⟩, eb⟩ := snoc_of cb
  have B' := B
  rw [eb] at B'
  obtain ⟨vs', p', b', hL', hl', hat, hp', hb'⟩ := B'.last
  have w0 := (W.bd (s0, r0) (by rw [eb]; exact List.mem_append_right _ (List.mem_singleton.mpr rfl))).1
  refine iteF ⟨_, rfl, x, CA, dx, _, _, rfl, hx, C.cl, C.n4, A1.l4, _, rfl, lb, _, _, _, rfl, rfl, SqL.of hL', hat, ?_⟩
  refine ⟨_, rfl, p', _, _, _, rfl, rfl, SqT.of hp', rfl, b', _, _, _, rfl, rfl, SqT.of hb', rfl, ?_⟩
  refine ⟨_, rfl, p', _, _, _, rfl, rfl, SqT.of hp', rfl, b', _, _, stV (r0 % 5), rfl, rfl, SqT.of hb', rfl, ?_⟩
  refine ⟨_, rfl, _, rfl, _, rfl, x, dx, _, rfl, hx, A1.nm _ (by decide +kernel), _, rfl, _, rfl, x, CA, dx, _, _, rfl, hx, C.cl, C.n1, A1.l1, _, rfl, p', _, _, _, rfl, rfl, SqT.of hp', rfl, n, s0, rfl, W.n34, by have : s0 < n := w0; omega, x, lb, n, a, r0, s0, rfl, I, W, fun H1 s1 => ?_⟩
  refine ⟨_, rfl, x, CA, dx, _, _, rfl, s1 _ _ hx, C.cl, C.n5, A1.l5, fits3 4 (by decide), fun p hp => ?_⟩
  exact q2 bs s0 r0 eb p _ (s1.trans (same_upd hp _)) upd_same
end
end My

namespace L2
open PySem PySem.Spec PyProof.Rows
/-! ### a row of written texts, of any length -/
def strsOf : List Expr → Option (List Str)
  | [] => some []
  | .Constant (.str x) _ _ :: r => (strsOf r).map (x :: ·)
  | _ => none
def tStrs (ss : List Str) : TA := fun _ H Q => Q (ss.map V.str) H
theorem pa_strs {X : Cx} : ∀ {es : List Expr} {ss : List Str}, strsOf es = some ss → PA X es (tStrs ss)
  | [], ss, h => by
    cases h
    exact pa_nil
  | e :: es, ss, h => by
    cases e with
    | Constant c j p =>
      cases c with
      | str x =>
        obtain ⟨tl, h1, h2⟩ := Option.map_eq_some_iff.mp (show (strsOf es).map (x :: ·) = some ss from h)
        subst h2
        have := pa_cons (X := X) (pe_str (x := x) (j := j) (pos := p)) (pa_strs h1) rfl
        exact this
      | _ => cases h
    | _ => cases h
end L2

namespace My
open PySem L2
abbrev sOwn2 : Stmt := top 35
abbrev sLRule : Stmt := top 36
section
variable {P : Program} {w : World} {K : PySem.W.Frag} {mg : Str → Option Value} {base : Heap} {f g : Addr} {fd gd : FuncData}
def spOwn2 : Sp := fun vs H Q _ => ∃ n i j : Nat, vs = [.int (n : Nat), .int (i : Nat), .int (j : Nat)] ∧ Q (.bl (own2 n i j)) H
abbrev pOwn2 : List Str := ["_law_seats", "_law_one", "_law_other"]
theorem scOwn2 : FnScope pOwn2 pOwn2 (defScope sOwn2) := ⟨rfl, rfl, rfl, by decide +kernel, rfl, by decide +kernel, by decide +kernel⟩
theorem ok_own2 {k : Nat} (F : Fun K "_law_own" "_law_own" sOwn2 f fd) : FnOk P w K mg base CX0 (k + 1) f fd pOwn2 spOwn2 := by
  refine F.ok scOwn2 (fun vs H Q E h => ?_) (fun cdv A outer s H vs Q E hr h => ?_)
  · obtain ⟨n, i, j, rfl, _⟩ := h
    rfl
  obtain ⟨n, i, j, rfl, q⟩ := h
  refine ⟨_, pss_one (ps_ret (pe_or (pe_cmpR op_eq (pv 1) (pv 2) (nomark _)) (pe_one (pe_and (pe_cmpR op_eq (pv 0) pe_int (nomark _)) (pe_one (pe_cmpR op_eq (pe_op op_mod (pv 1) pe_int) (pe_op op_mod (pv 2) pe_int) (nomark _))))))), ?_⟩
  unfold own2 at q
  refine ⟨_, rfl, _, rfl, rfl, _, rfl, chg nat_dec ?_⟩
  by_cases c1 : i = j
  · rw [decide_eq_true c1] at q ⊢
    exact iteT q
  rw [decide_eq_false c1] at q ⊢
  have e4 : decide (V.int ((n : Nat) : Int) = V.int 4) = decide (n = 4) := int_dec.trans (decide_eq_decide.mpr ⟨fun h => by omega, fun h => by omega⟩)
  refine iteF ⟨_, rfl, rfl, _, rfl, chg e4 ?_⟩
  by_cases c2 : n = 4
  · rw [decide_eq_true c2] at q ⊢
    refine iteT ⟨_, rfl, _, _, rfl, rfl, (show (0 : Int) < 2 by decide), _, rfl, _, _, rfl, rfl, (show (0 : Int) < 2 by decide), rfl, ?_⟩
    show Q (.bl (decide (V.int (((i : Nat) : Int) % 2) = V.int (((j : Nat) : Int) % 2)))) H
    rw [int_dec, show decide (((i : Nat) : Int) % 2 = ((j : Nat) : Int) % 2) = decide (i % 2 = j % 2) from decide_eq_decide.mpr ⟨fun h => by omega, fun h => by omega⟩]
    exact q
  · rw [decide_eq_false c2] at q ⊢
    exact iteF q
/-! ### the rule -/
def spRule (K : PySem.W.Frag) : Sp := fun vs H Q _ => ∃ (a : Addr) (n c : Nat) (cs : List Nat), vs = [.ref a, .int (n : Nat), .str (cT c)] ∧ H a = some (.lst (vC cs)) ∧ (∀ c ∈ cs, c < 43) ∧ (n = 3 ∨ n = 4) ∧ c < 43 ∧ ∀ H', Same H H' → Q (oS (ruleC n cs c)) H'
abbrev nRule : List Str := ["_law_calls", "_law_seats", "_law_call", "_law_at", "_law_times", "_law_own_here"]
theorem scRule : FnScope nRule ["_law_calls", "_law_seats", "_law_call"] (defScope sLRule) := ⟨rfl, rfl, rfl, by decide +kernel, rfl, by decide +kernel, by decide +kernel⟩
theorem ok_rule {k : Nat} {f1 f2 f3 f4 : Addr} {d1 d2 d3 d4 : FuncData} (F : Fun K "_law_rule" "_law_rule" sLRule f fd) (LL : Lib P w K mg base k "_law_last" ["_law_calls"] (spLast K) f1 d1) (LO : Lib P w K mg base k "_law_over" ["_law_calls", "_law_seats"] (spLOver K) f2 d2) (LK : Lib P w K mg base k "_law_rank" ["_law_text_here"] spLRank f3 d3) (LW : Lib P w K mg base k "_law_own" pOwn2 spOwn2 f4 d4) (ml : mg "len" = none) :
    FnOk P w K mg base CX0 (k + 1) f fd ["_law_calls", "_law_seats", "_law_call"] (spRule K) := by
  refine F.ok scRule (fun vs H Q E h => ?_) (fun cdv A outer s H vs Q E hr h => ?_)
  · obtain ⟨a, n, c, cs, rfl, _⟩ := h
    rfl
  obtain ⟨a, n, c, cs, rfl, hL, co, n34, hc, q⟩ := h
  refine ⟨_, pss_cons (ps_asg (pe_call LL.ok hr rfl LL.mg LL.kp LL.bd .nil pass0 (pa_cons (pv 0) pa_nil)) (pg_tup rfl (pgs_cons (pg_name (i := 3) scRule.nd rfl (Or.inl rfl)) (pgs_cons (pg_name (i := 4) scRule.nd rfl (Or.inl rfl)) pgs_nil))))
    (pss_cons (ps_if (pt_truth (pe_call LO.ok hr rfl LO.mg LO.kp LO.bd .nil pass0 (pa_cons (pv 0) (pa_cons (pv 1) pa_nil))) (fun _ => rfl)) (pss_one (ps_ret pe_str)) pss_nil)
    (pss_cons (ps_if (pt_cmpR op_eq (pv 2) pe_str (nomark _)) (pss_one (ps_ret pe_non)) pss_nil)
    (pss_cons (ps_if (pt_cmpR op_notIn_seq (pv 2) (pe_tup (pa_cons pe_str (pa_cons pe_str pa_nil))) rfl)
      (pss_cons (ps_if (PW.pt (pw_or (pt_cmpR op_isN (pv 3) pe_non (nomark _)) (pw_or1 (pt_cmpR op_gt (pe_call LK.ok hr rfl LK.mg LK.kp LK.bd .nil pass0 (pa_cons (pv 2) pa_nil)) (pe_call LK.ok hr rfl LK.mg LK.kp LK.bd .nil pass0 (pa_cons (pe_ix ix_list (pv 0) (pv 3) (fun _ _ => rfl)) pa_nil)) (nomark _))))) (pss_one (ps_ret pe_non)) pss_nil) (pss_one (ps_ret pe_str))) pss_nil)
    (pss_cons (ps_if (pt_cmpR op_isN (pv 3) pe_non (nomark _)) (pss_one (ps_ret (pv 2))) pss_nil)
    (pss_cons (ps_set (i := 5) scRule.nd rfl (Or.inl rfl) (pe_call LW.ok hr rfl LW.mg LW.kp LW.bd .nil pass0 (pa_cons (pv 1) (pa_cons (pe_op op_mod (pe_callB call_len_seq rfl ml PySem.boot_len (pa_cons (pv 0) pa_nil)) (pv 1)) (pa_cons (pe_op op_mod (pv 3) (pv 1)) pa_nil)))))
    (pss_cons (ps_if (PW.pt (pw_or (PW.pt (pw_and (pt_cmpR op_eq (pv 2) pe_str (nomark _)) (pw_and (pt_not (pt_truth (pv 5) (fun _ => rfl))) (pw_and1 (pt_cmpR op_eq (pv 4) pe_int (nomark _)))))) (pw_or1 (PW.pt (pw_and (pt_cmpR op_eq (pv 2) pe_str (nomark _)) (pw_and (pt_truth (pv 5) (fun _ => rfl)) (pw_and1 (pt_cmpR op_eq (pv 4) pe_int (nomark _))))))))) (pss_one (ps_ret pe_non)) pss_nil)
    (pss_one (ps_ret (pv 2))))))))), ?_⟩
  have n1 : 1 ≤ n := by rcases n34 with z | z <;> omega
  have n0 : (0 : Int) < ((n : Nat) : Int) := by omega
  refine ⟨_, rfl, a, cs, rfl, hL, co, fun p H1 s1 hp => ?_⟩
  refine ⟨p, _, rfl, SqT.of hp, rfl, _, _, rfl, _, _, rfl, rfl, ?_⟩
  refine ⟨_, rfl, _, rfl, a, n, cs, rfl, SqL.of (s1 _ _ hL), co, n1, _, rfl, ?_⟩
  unfold ruleC at q
  have lok := last_ok cs co
  by_cases ov : overC n cs = true
  · rw [if_pos ov] at q
    exact chg ov (iteT (q H1 s1))
  rw [if_neg ov] at q
  refine chg (Bool.eq_false_iff.mpr ov) (iteF ⟨_, rfl, rfl, _, rfl, chg ((str_dec _ _).trans (cT_pass c hc)) ?_⟩)
  by_cases e40 : c = 40
  · rw [if_pos e40] at q
    rw [decide_eq_true e40]
    exact iteT (q H1 s1)
  rw [if_neg e40] at q
  rw [decide_eq_false e40]
  refine iteF ⟨_, rfl, fits3 2 (by decide), fun p2 hp2 => ?_⟩
  have s2 := same_upd hp2 (.tup [.str "double", .str "again"])
  refine ⟨p2, _, rfl, .inr (SqT.of upd_same), rfl, rfl, _, rfl, ?_⟩
  refine chg (congrArg (fun b => !b) (in_da hc)) ?_
  have s12 := s1.trans s2
  have hL2 := s12 _ _ hL
  revert s12 hL2
  generalize upd H1 p2 (.tup [.str "double", .str "again"]) = H2
  intro s12 hL2
  generalize (lastF cs).2.2 = tm at *
  generalize (lastF cs).2.1 = at' at *
  by_cases c40 : c < 40
  · rw [if_pos c40] at q
    rw [decide_eq_false (show ¬ (c = 41 ∨ c = 42) by omega)]
    refine iteT ⟨_, rfl, rfl, _, rfl, chg (atV_non at') ?_⟩
    cases at' with
    | none => exact iteT (iteT (q H2 s12))
    | some k0 =>
      obtain ⟨r, h1, h2⟩ := lok k0 rfl
      have g : cs.getD k0 0 = r := by rw [List.getD_eq_getElem?_getD, h1]; rfl
      refine iteF ⟨_, rfl, c, rfl, c40, _, rfl, _, rfl, a, _, _, _, rfl, rfl, SqL.of hL2, vC_at h1, r, rfl, h2, _, _, rfl, rfl, _, rfl, ?_⟩
      have z := q H2 s12
      dsimp only at z
      rw [g] at z
      have e : decide (((r : Nat) : Int) < ((c : Nat) : Int)) = decide (r < c) := decide_eq_decide.mpr ⟨fun h => by omega, fun h => by omega⟩
      refine chg e ?_
      by_cases lt : r < c
      · rw [if_pos lt] at z
        rw [decide_eq_true lt]
        exact iteT z
      · rw [if_neg lt] at z
        rw [decide_eq_false lt]
        exact iteF z
  rw [if_neg c40] at q
  rw [decide_eq_true (show c = 41 ∨ c = 42 by omega)]
  refine iteF ⟨_, rfl, rfl, _, rfl, chg (atV_non at') ?_⟩
  cases at' with
  | none => exact iteT ⟨_, rfl, q H2 s12⟩
  | some k0 =>
    obtain ⟨r, h1, h2⟩ := lok k0 rfl
    have kl : k0 < cs.length := (List.getElem?_eq_some_iff.mp h1).1
    have hl := vC_len cs
    have m1 : ((cs.length : Nat) : Int) % ((n : Nat) : Int) = ((cs.length % n : Nat) : Int) := (Int.natCast_emod _ _).symm
    have m2 : ((k0 : Nat) : Int) % ((n : Nat) : Int) = ((k0 % n : Nat) : Int) := (Int.natCast_emod _ _).symm
    refine iteF (nx_of ?_)
    refine set_nm (fun v H' => H2 = H' ∧ v = .bl (ownC n (cs.length - k0))) (fun R hR => ?_) (fun v H3 z => ?_)
    · refine ⟨_, rfl, _, rfl, a, _, rfl, .inl (SqL.of hL2), _, rfl, _, _, rfl, rfl, n0, _, rfl, _, rfl, _, _, rfl, rfl, n0, n, cs.length % n, k0 % n, ?_, ?_⟩
      · rw [hl]
        show [V.int ((n : Nat) : Int), V.int (((cs.length : Nat) : Int) % ((n : Nat) : Int)), V.int (((k0 : Nat) : Int) % ((n : Nat) : Int))] = _
        rw [m1, m2]
      · exact hR _ _ ⟨rfl, by rw [own2_C n34 (Nat.le_of_lt kl)]⟩
    obtain ⟨rfl, rfl⟩ := z
    have z := q H2 s12
    dsimp only at z
    generalize ownC n (cs.length - k0) = ow at *
    have et : ∀ m : Nat, decide (V.int ((tm : Nat) : Int) = V.int ((m : Nat) : Int)) = decide (tm = m) := fun m => nat_dec
    refine ⟨_, rfl, rfl, _, rfl, chg ((str_dec _ _).trans (cT_dbl c hc)) ?_⟩
    by_cases e41 : c = 41
    · rw [if_pos e41] at z
      rw [decide_eq_true e41]
      refine iteT ⟨_, rfl, ow, rfl, ?_⟩
      cases ow with
      | true =>
        refine iteF (iteF ⟨_, rfl, rfl, _, rfl, chg (((str_dec _ _).trans (cT_agn c hc)).trans (decide_eq_false (by omega))) (iteF (iteF ⟨_, rfl, z⟩))⟩)
      | false =>
        refine iteT ⟨_, rfl, rfl, _, rfl, chg (et 1) ?_⟩
        by_cases t1 : tm = 1
        · rw [decide_eq_true t1] at z ⊢
          exact iteT (iteT z)
        · rw [decide_eq_false t1] at z ⊢
          refine iteF ⟨_, rfl, rfl, _, rfl, chg (((str_dec _ _).trans (cT_agn c hc)).trans (decide_eq_false (by omega))) (iteF (iteF ⟨_, rfl, z⟩))⟩
    · rw [if_neg e41] at z
      rw [decide_eq_false e41]
      refine iteF (iteF ⟨_, rfl, rfl, _, rfl, chg (((str_dec _ _).trans (cT_agn c hc)).trans (decide_eq_true (by omega))) (iteT ⟨_, rfl, ow, rfl, ?_⟩)⟩)
      cases ow with
      | false => exact iteF (iteF ⟨_, rfl, z⟩)
      | true =>
        refine iteT ⟨_, rfl, rfl, _, rfl, chg (et 2) ?_⟩
        by_cases t1 : tm = 2
        · rw [decide_eq_true t1] at z ⊢
          exact iteT z
        · rw [decide_eq_false t1] at z ⊢
          exact iteF ⟨_, rfl, z⟩
end
end My

namespace L2
open PySem PySem.Spec PyProof.Rows
/-! ### if c: and a row with a long written row of texts in it, as one rule (each rule whose text begins with such a row costs the elaborator 2 ^ n) -/
section
variable {X : Cx} {c i tgt : Expr} {es : List Expr} {ss : List Str} {p pos rp ipos sp pos' : Pos} {tc : TT} {ti : TE} {g : TG} {s2 : Stmt} {t2 : TS}
theorem ps_ifRetAt (hc : PT X c tc) (h : strsOf es = some ss) (hi : PE X i ti) (hs : PlainIx i) : PS X (.If c [.Return (some (.Subscript (.List es p) i pos)) rp] [] ipos) (tIfS tc (tRet (tOp (rIxL X.K) (tLst (tStrs ss)) ti)) tNext) :=
  ps_if hc (pss_one (ps_ret (pe_ix ix_list (pe_lst (pa_strs h)) hi hs))) pss_nil
end
end L2

namespace My
open PySem L2
abbrev sDrawn : Stmt := top 37
abbrev sLCon : Stmt := top 38
abbrev sDue : Stmt := top 42
section
variable {P : Program} {w : World} {K : PySem.W.Frag} {mg : Str → Option Value} {base : Heap} {f g : Addr} {fd gd : FuncData}
/-! ### a call drawn -/
def noT : List Str := ["", "9a", "3e", "passs", "3A", "a3", "n", "1 n", "0n", "Double", "pass pass"]
def InT (t : Str) : Prop := (∃ c, c < 43 ∧ t = cT c) ∨ t ∈ noT
def spDrawn (K : PySem.W.Frag) : Sp := fun vs H Q _ => ∃ (lc : Addr) (z : Int) (cs : List Nat), vs = [.int z, .ref lc] ∧ 0 ≤ z ∧ H lc = some (.lst (vC cs)) ∧ (∀ c ∈ cs, c < 43) ∧ ∀ t H', InT t → Same H H' → Q (.str t) H'
abbrev pDrawn : List Str := ["_law_cell_here", "_law_calls"]
abbrev nDrawn : List Str := ["_law_cell_here", "_law_calls", "_law_at", "_law_times", "_law_low", "_law_way"]
theorem scDrawn : FnScope nDrawn pDrawn (defScope sDrawn) := ⟨rfl, rfl, rfl, by decide +kernel, rfl, by decide +kernel, by decide +kernel⟩
def way6 : List Str := ["pass", "pass", "double", "double", "again", "again"]
theorem way6_at : ∀ i < 6, ∃ c, c < 43 ∧ way6[i]? = some (cT c)
  | 0, _ => ⟨40, by decide, rfl⟩
  | 1, _ => ⟨40, by decide, rfl⟩
  | 2, _ => ⟨41, by decide, rfl⟩
  | 3, _ => ⟨41, by decide, rfl⟩
  | 4, _ => ⟨42, by decide, rfl⟩
  | 5, _ => ⟨42, by decide, rfl⟩
theorem strs_at {ss : List Str} {i : Nat} {t : Str} (h : ss[i]? = some t) : atI (ss.map V.str) ((i : Nat) : Int) = some (.str t) := atI_nat (by rw [List.getElem?_map, h]; rfl)
theorem noT_at {i : Nat} (h : i < 11) : ∃ t, t ∈ noT ∧ noT[i]? = some t := by
  have hl : noT.length = 11 := rfl
  exact ⟨noT[i]'(by omega), List.getElem_mem _, List.getElem?_eq_getElem (by omega)⟩
theorem ok_drawn {k : Nat} {f2 f3 f4 : Addr} {d2 d3 d4 : FuncData} (F : Fun K "_law_drawn" "_law_drawn" sDrawn f fd) (LL : Lib P w K mg base k "_law_last" ["_law_calls"] (spLast K) f2 d2) (LK : Lib P w K mg base k "_law_rank" ["_law_text_here"] spLRank f3 d3) (LT : Lib P w K mg base k "_law_text" ["_law_rank_here"] spLText f4 d4) (mN : mg "min" = none) (mX : mg "max" = none) :
    FnOk P w K mg base CX0 (k + 1) f fd pDrawn (spDrawn K) := by
  refine F.ok scDrawn (fun vs H Q E h => ?_) (fun cdv A outer s H vs Q E hr h => ?_)
  · obtain ⟨lc, z, cs, rfl, _⟩ := h
    rfl
  obtain ⟨lc, z, cs, rfl, z0, hL, co, q⟩ := h
  have d5 : PS (cxOf CX0 P w K mg base nDrawn "_law_drawn" (defScope sDrawn) f cdv A outer s H E).nox ((defBody sDrawn).getD 4 (.Pass ⟨0, 0, 0, 0⟩)) _ := ps_ifRetAt (ss := way6) (pt_cmpR op_lt (pv 5) pe_int (nomark _)) rfl (pv 5) (fun _ _ => rfl)
  have d6 : PS (cxOf CX0 P w K mg base nDrawn "_law_drawn" (defScope sDrawn) f cdv A outer s H E).nox ((defBody sDrawn).getD 5 (.Pass ⟨0, 0, 0, 0⟩)) _ := ps_ifRetAt (ss := noT) (pt_cmpR op_eq (pv 5) pe_int (nomark _)) rfl (pe_op op_mod (pe_op op_fdiv (pv 0) pe_int) pe_int) (fun _ _ => rfl)
  refine ⟨_, pss_cons (ps_asg (pe_call LL.ok hr rfl LL.mg LL.kp LL.bd .nil pass0 (pa_cons (pv 1) pa_nil)) (pg_tup rfl (pgs_cons (pg_name (i := 2) scDrawn.nd rfl (Or.inl rfl)) (pgs_cons (pg_name (i := 3) scDrawn.nd rfl (Or.inl rfl)) pgs_nil))))
    (pss_cons (ps_set (i := 4) scDrawn.nd rfl (Or.inl rfl) (pe_un un_neg pe_int))
    (pss_cons (ps_if (pt_cmpR op_notN (pv 2) pe_non (nomark _)) (pss_one (ps_set (i := 4) scDrawn.nd rfl (Or.inl rfl) (pe_call LK.ok hr rfl LK.mg LK.kp LK.bd .nil pass0 (pa_cons (pe_ix ix_list (pv 1) (pv 2) (fun _ _ => rfl)) pa_nil)))) pss_nil)
    (pss_cons (ps_set (i := 5) scDrawn.nd rfl (Or.inl rfl) (pe_op op_mod (pv 0) pe_int))
    (pss_cons d5
    (pss_cons d6
    (pss_cons (ps_if (pt_cmpR op_eq (pv 5) pe_int (nomark _)) (pss_one (ps_ret (pe_call LT.ok hr rfl LT.mg LT.kp LT.bd .nil pass0 (pa_cons (pe_op op_mod (pe_op op_fdiv (pv 0) pe_int) pe_int) pa_nil)))) pss_nil)
    (pss_cons (ps_if (pt_cmpR op_lt (pv 5) pe_int (nomark _)) (pss_one (ps_ret (pe_call LT.ok hr rfl LT.mg LT.kp LT.bd .nil pass0 (pa_cons (pe_callB (call_max2 rfl) rfl mX PyProof.Rows.Boot.«max» (pa_cons pe_int (pa_cons (pe_op op_sub (pv 4) (pe_op op_mod (pe_op op_fdiv (pv 0) pe_int) pe_int)) pa_nil))) pa_nil)))) pss_nil)
    (pss_one (ps_ret (pe_call LT.ok hr rfl LT.mg LT.kp LT.bd .nil pass0 (pa_cons (pe_callB (call_min2 rfl) rfl mN PyProof.Rows.Boot.«min» (pa_cons pe_int (pa_cons (pe_op op_add (pe_op op_add (pv 4) pe_int) (pe_op op_mod (pe_op op_fdiv (pv 0) pe_int) pe_int)) pa_nil))) pa_nil))))))))))), ?_⟩
  refine ⟨_, rfl, lc, cs, rfl, hL, co, fun p H1 s1 hp => ?_⟩
  refine ⟨p, _, rfl, SqT.of hp, rfl, _, _, rfl, _, _, rfl, rfl, ?_⟩
  have lok := last_ok cs co
  have hL1 := s1 _ _ hL
  clear hp
  generalize (lastF cs).2.2 = tm at *
  generalize (lastF cs).2.1 = at' at *
  refine ⟨_, rfl, nm_of ?_⟩
  refine if_cut (fun b H' => H1 = H' ∧ b = !at'.isNone) (fun σ H' => H1 = H' ∧ ∃ low : Int, -1 ≤ low ∧ low < 40 ∧ σ = [some (.int z), some (.ref lc), some (atV at'), some (.int (tm : Nat)), some (.int low), none]) (fun R hR => ?_) (fun H' y D' _ nx => ?_) (fun H' y D' _ nx => ?_) (fun σ H' y => ?_)
  · exact ⟨_, rfl, rfl, _, rfl, hR _ _ ⟨rfl, congrArg (fun b => !b) (atV_non at')⟩⟩
  · obtain ⟨rfl, hb⟩ := y
    cases at' with
    | none => cases hb
    | some k0 =>
      obtain ⟨r, h1, h2⟩ := lok k0 rfl
      exact ⟨_, rfl, _, rfl, lc, _, _, _, rfl, rfl, SqL.of hL1, vC_at h1, r, rfl, h2, nx _ _ ⟨rfl, r, by omega, by omega, rfl⟩⟩
  · obtain ⟨rfl, hb⟩ := y
    exact nx _ _ ⟨rfl, -1, by decide, by decide, rfl⟩
  obtain ⟨rfl, low, l1, l2, rfl⟩ := y
  refine ⟨_, rfl, _, _, rfl, rfl, (show (0 : Int) < 16 by decide), ?_⟩
  have w0 : 0 ≤ z % 16 := Int.emod_nonneg _ (by decide)
  obtain ⟨wy, ew⟩ := Int.eq_ofNat_of_zero_le w0
  have bid : ∀ (v : Int) (H' : Hp), 0 ≤ v → v < 40 → Same H H' → spLText [.int v] H' Q E0 := fun v H' v0 v1 s' => by
    obtain ⟨rr, er⟩ := Int.eq_ofNat_of_zero_le v0
    exact ⟨rr, by rw [er], by omega, q _ _ (.inl ⟨rr, by omega, rfl⟩) s'⟩
  refine ⟨_, rfl, _, _, rfl, rfl, _, rfl, ite2 (fun c => ?_) fun c => ?_⟩
  · have c' : z % 16 < 6 := of_decide_eq_true c
    refine ⟨fits3 6 (by decide), fun p1 hp1 => ?_⟩
    obtain ⟨cc, c1, c2⟩ := way6_at wy (by omega)
    exact ⟨_, rfl, p1, _, _, _, rfl, rfl, SqL.of upd_same, (by rw [ew]; exact strs_at c2), q _ _ (.inl ⟨cc, c1, rfl⟩) (s1.trans (same_upd hp1 _))⟩
  refine ⟨_, rfl, rfl, _, rfl, ite2 (fun c => ?_) fun c => ?_⟩
  · refine ⟨fits3 11 (by decide), fun p1 hp1 => ?_⟩
    have m0 : 0 ≤ z / 16 % 11 := Int.emod_nonneg _ (by decide)
    have m1 : z / 16 % 11 < 11 := Int.emod_lt_of_pos _ (by decide)
    obtain ⟨mm, em⟩ := Int.eq_ofNat_of_zero_le m0
    obtain ⟨t, t1, t2⟩ := noT_at (i := mm) (by omega)
    exact ⟨_, rfl, _, _, rfl, rfl, ⟨by decide, by decide⟩, _, _, rfl, rfl, (show (0 : Int) < 11 by decide), p1, _, _, _, rfl, rfl, SqL.of upd_same, (by rw [em]; exact strs_at t2), q _ _ (.inr t1) (s1.trans (same_upd hp1 _))⟩
  refine ⟨_, rfl, rfl, _, rfl, ite2 (fun c => ?_) fun c => ?_⟩
  · have m0 : 0 ≤ z / 16 % 40 := Int.emod_nonneg _ (by decide)
    have m1 : z / 16 % 40 < 40 := Int.emod_lt_of_pos _ (by decide)
    exact ⟨_, rfl, _, _, rfl, rfl, ⟨by decide, by decide⟩, _, _, rfl, rfl, (show (0 : Int) < 40 by decide), bid _ _ m0 m1 s1⟩
  refine ⟨_, rfl, _, _, rfl, rfl, _, rfl, ite2 (fun c => ?_) fun c => ?_⟩
  · have m0 : 0 ≤ z / 16 % 2 := Int.emod_nonneg _ (by decide)
    refine ⟨_, rfl, _, rfl, _, _, rfl, rfl, ⟨by decide, by decide⟩, _, _, rfl, rfl, (show (0 : Int) < 2 by decide), _, _, rfl, rfl, _, _, rfl, bid _ _ ?_ ?_ s1⟩
    · split <;> omega
    · split <;> omega
  · have m0 : 0 ≤ z / 16 % 4 := Int.emod_nonneg _ (by decide)
    refine ⟨_, rfl, _, _, rfl, rfl, _, rfl, _, _, rfl, rfl, ⟨by decide, by decide⟩, _, _, rfl, rfl, (show (0 : Int) < 4 by decide), _, _, rfl, rfl, _, _, rfl, bid _ _ ?_ ?_ s1⟩
    · split <;> omega
    · split <;> omega
/-! ### what is due -/
def spLCon (K : PySem.W.Frag) : Sp := fun vs H Q _ => ∃ (a : Addr) (n g : Nat) (cs : List Nat), vs = [.ref a, .int (n : Nat), .int (g : Nat)] ∧ H a = some (.lst (vC cs)) ∧ (∀ c ∈ cs, c < 43) ∧ (n = 3 ∨ n = 4) ∧ ((lastF cs).2.1 = none → ∀ H', Same H H' → Q .non H') ∧
  ∀ k r v, (lastF cs).2.1 = some k → cs[k]? = some r → (hitF (dueT n cs k r) cs).2 = some v → ∀ p H', Same H H' → H' p = some (.tup (conL r (some ((g + v.1) % n)) (lastF cs).2.2)) → Q (.ref p) H'
abbrev nLCon : List Str := ["_law_calls", "_law_seats", "_law_first", "_law_at", "_law_times", "_law_rank_here", "_law_k", "_law_call"]
theorem scLCon : FnScope nLCon ["_law_calls", "_law_seats", "_law_first"] (defScope sLCon) := ⟨rfl, rfl, rfl, by decide +kernel, rfl, by decide +kernel, by decide +kernel⟩
theorem st_at {r : Nat} (h : r < 5) : atI [V.int 0, .int 1, .int 2, .int 3, .non] ((r : Nat) : Int) = some (stV r) := by
  refine atI_nat ?_
  match r, h with
  | 0, _ => rfl
  | 1, _ => rfl
  | 2, _ => rfl
  | 3, _ => rfl
  | 4, _ => rfl
theorem in_pda {c : Nat} (h : c < 43) : inV (.str (cT c)) [.str "pass", .str "double", .str "again"] = decide (40 ≤ c) := by
  have e : inV (.str (cT c)) (vS ["pass", "double", "again"]) = decide (cT c ∈ (["pass", "double", "again"] : List Str)) := inV_str
  refine e.trans ?_
  have all : ∀ c < 43, decide (cT c ∈ (["pass", "double", "again"] : List Str)) = decide (40 ≤ c) := by decide +kernel
  exact all c h
theorem ok_lcon {k : Nat} {f1 f2 f3 : Addr} {d1 d2 d3 : FuncData} (F : Fun K "_law_contract" "_law_contract" sLCon f fd) (LL : Lib P w K mg base k "_law_last" ["_law_calls"] (spLast K) f1 d1) (LK : Lib P w K mg base k "_law_rank" ["_law_text_here"] spLRank f2 d2) (LW : Lib P w K mg base k "_law_own" pOwn2 spOwn2 f3 d3) (me : mg "enumerate" = none) :
    FnOk P w K mg base CX0 (k + 1) f fd ["_law_calls", "_law_seats", "_law_first"] (spLCon K) := by
  refine F.ok scLCon (fun vs H Q E h => ?_) (fun cdv A outer s H vs Q E hr h => ?_)
  · obtain ⟨a, n, g, cs, rfl, _⟩ := h
    rfl
  obtain ⟨a, n, g, cs, rfl, hL, co, n34, q1, q2⟩ := h
  refine ⟨_, pss_cons (ps_asg (pe_call LL.ok hr rfl LL.mg LL.kp LL.bd .nil pass0 (pa_cons (pv 0) pa_nil)) (pg_tup rfl (pgs_cons (pg_name (i := 3) scLCon.nd rfl (Or.inl rfl)) (pgs_cons (pg_name (i := 4) scLCon.nd rfl (Or.inl rfl)) pgs_nil))))
    (pss_cons (ps_if (pt_cmpR op_isN (pv 3) pe_non (nomark _)) (pss_one (ps_ret pe_non)) pss_nil)
    (pss_cons (ps_set (i := 5) scLCon.nd rfl (Or.inl rfl) (pe_call LK.ok hr rfl LK.mg LK.kp LK.bd .nil pass0 (pa_cons (pe_ix ix_list (pv 0) (pv 3) (fun _ _ => rfl)) pa_nil)))
    (pss_cons (ps_for PassesOwn.never rfl (pi_enum rfl me (pa_cons (pv 0) pa_nil)) (pg_tup rfl (pgs_cons (pg_name (i := 6) scLCon.nd rfl (Or.inl rfl)) (pgs_cons (pg_name (i := 7) scLCon.nd rfl (Or.inl rfl)) pgs_nil)))
      (pss_one (ps_if (PW.pt (pw_and (pt_cmpR op_notIn_seq (pv 7) (pe_tup (pa_cons pe_str (pa_cons pe_str (pa_cons pe_str pa_nil)))) rfl) (pw_and1 (pt_cmpR op_eq (pe_op op_mod (pe_call LK.ok hr rfl LK.mg LK.kp LK.bd .nil pass0 (pa_cons (pv 7) pa_nil)) pe_int) (pe_op op_mod (pv 5) pe_int) (nomark _)))))
        (pss_one (ps_if (pt_truth (pe_call LW.ok hr rfl LW.mg LW.kp LW.bd .nil pass0 (pa_cons (pv 1) (pa_cons (pe_op op_mod (pv 6) (pv 1)) (pa_cons (pe_op op_mod (pv 3) (pv 1)) pa_nil)))) (fun _ => rfl))
          (pss_one (ps_ret (pe_tup (pa_cons (pe_op op_add pe_int (pe_op op_fdiv (pv 5) pe_int)) (pa_cons (pe_ix ix_list (pe_lst (pa_cons pe_int (pa_cons pe_int (pa_cons pe_int (pa_cons pe_int (pa_cons pe_non pa_nil)))))) (pe_op op_mod (pv 5) pe_int) (fun _ _ => rfl)) (pa_cons (pe_op op_mod (pe_op op_add (pv 2) (pv 6)) (pv 1)) (pa_cons (pv 4) pa_nil))))))) pss_nil)) pss_nil)))
    (pss_one (ps_ret pe_non))))), ?_⟩
  have n0 : (0 : Int) < ((n : Nat) : Int) := by rcases n34 with z | z <;> omega
  refine ⟨_, rfl, a, cs, rfl, hL, co, fun p H1 s1 hp => ?_⟩
  refine ⟨p, _, rfl, SqT.of hp, rfl, _, _, rfl, _, _, rfl, rfl, ?_⟩
  have lok := last_ok cs co
  have hL1 := s1 _ _ hL
  clear hp
  generalize (lastF cs).2.2 = tm at *
  generalize (lastF cs).2.1 = at' at *
  refine ⟨_, rfl, rfl, _, rfl, chg (atV_non at') ?_⟩
  cases at' with
  | none => exact iteT (q1 rfl H1 s1)
  | some k0 =>
    obtain ⟨r, h1, h2⟩ := lok k0 rfl
    refine iteF ⟨_, rfl, _, rfl, a, _, _, _, rfl, rfl, SqL.of hL1, vC_at h1, r, rfl, h2, ?_⟩
    have hit0 : (hitF (dueT n cs k0 r) cs).2 ≠ none := by
      refine hit_some _ _ h1 h2 ?_
      unfold dueT own2
      rw [decide_eq_true rfl, decide_eq_true rfl]
      rfl
    refine ⟨_, rfl, a, _, rfl, hL1, for_enumL (K := K) (xs := vC cs) (fun i σ H' => Same H1 H' ∧ (hitF (dueT n cs k0 r) (cs.take i)).2 = none ∧ ∃ x6 x7, σ = [some (.ref a), some (.int (n : Nat)), some (.int (g : Nat)), some (.int (k0 : Nat)), some (.int (tm : Nat)), some (.int (r : Nat)), x6, x7]) ⟨Same.refl _, by rw [List.take_zero]; rfl, _, _, rfl⟩ (fun i σ H' z => SqL.of (z.1 _ _ hL1)) (fun i x p σ H2 hx z hp => ?_) (fun σ H2 z => ?_)⟩
    · obtain ⟨s2, h0, x6, x7, rfl⟩ := z
      obtain ⟨c, hc, rfl⟩ := vC_get hx
      have c43 := co c (List.mem_of_getElem? hc)
      have il : i < cs.length := (List.getElem?_eq_some_iff.mp hc).1
      have s3 := same_upd hp (.tup [.int (i : Nat), .str (cT c)])
      have tk : cs.take (i + 1) = cs.take i ++ [c] := by rw [List.take_add_one, hc]; rfl
      have tf : (hitF (dueT n cs k0 r) (cs.take i)).1 = i := by rw [hit_fst, List.length_take]; omega
      have hs : (hitF (dueT n cs k0 r) (cs.take (i + 1))).2 = if c < 40 ∧ dueT n cs k0 r i c = true then some (i, c) else none := by
        rw [tk, hit_snoc]
        show (match (hitF (dueT n cs k0 r) (cs.take i)).2 with | some v => some v | none => if c < 40 ∧ dueT n cs k0 r (hitF (dueT n cs k0 r) (cs.take i)).1 c = true then some ((hitF (dueT n cs k0 r) (cs.take i)).1, c) else none) = _
        rw [h0, tf]
      refine ⟨p, _, rfl, SqT.of upd_same, rfl, _, _, rfl, _, _, rfl, rfl, ?_⟩
      refine ⟨_, rfl, fits3 3 (by decide), fun p2 hp2 => ?_⟩
      have s4 := same_upd hp2 (.tup [.str "pass", .str "double", .str "again"])
      refine ⟨p2, _, rfl, .inr (SqT.of upd_same), rfl, rfl, _, rfl, ?_⟩
      refine chg (congrArg (fun b => !b) (in_pda c43)) ?_
      have sA := s2.trans (s3.trans s4)
      revert sA
      generalize upd (upd H2 p (.tup [.int (i : Nat), .str (cT c)])) p2 (.tup [.str "pass", .str "double", .str "again"]) = H4
      intro sA
      by_cases c40 : c < 40
      · rw [decide_eq_false (show ¬ 40 ≤ c by omega)]
        have e5 : decide (V.int (((c : Nat) : Int) % 5) = V.int (((r : Nat) : Int) % 5)) = decide (c % 5 = r % 5) := int_dec.trans (decide_eq_decide.mpr ⟨fun h => by omega, fun h => by omega⟩)
        refine iteT ⟨_, rfl, c, rfl, c40, _, _, rfl, rfl, (show (0 : Int) < 5 by decide), _, rfl, _, _, rfl, rfl, (show (0 : Int) < 5 by decide), rfl, _, rfl, chg e5 ?_⟩
        by_cases c5 : c % 5 = r % 5
        · rw [decide_eq_true c5]
          have m1 : ((i : Nat) : Int) % ((n : Nat) : Int) = ((i % n : Nat) : Int) := (Int.natCast_emod _ _).symm
          have m2 : ((k0 : Nat) : Int) % ((n : Nat) : Int) = ((k0 % n : Nat) : Int) := (Int.natCast_emod _ _).symm
          refine iteT ⟨_, rfl, _, rfl, _, rfl, _, _, rfl, rfl, n0, _, rfl, _, rfl, _, _, rfl, rfl, n0, n, i % n, k0 % n, (show [V.int ((n : Nat) : Int), V.int (((i : Nat) : Int) % ((n : Nat) : Int)), V.int (((k0 : Nat) : Int) % ((n : Nat) : Int))] = _ by rw [m1, m2]), _, rfl, ?_⟩
          cases ow : own2 n (i % n) (k0 % n) with
          | true =>
            have hd : dueT n cs k0 r i c = true := by unfold dueT; rw [decide_eq_true c5, ow]; rfl
            rw [if_pos ⟨c40, hd⟩] at hs
            have hA : (hitF (dueT n cs k0 r) cs).2 = some (i, c) := by
              have z := hit_stay (dueT n cs k0 r) (cs.take (i + 1)) (cs.drop (i + 1)) hs
              rw [List.take_append_drop] at z
              exact z
            have m5 : ((r : Nat) : Int) % 5 = ((r % 5 : Nat) : Int) := by omega
            refine iteT ⟨_, rfl, _, _, rfl, rfl, ⟨by decide, by decide⟩, _, _, rfl, rfl, fits3 5 (by decide), fun lq hlq => ?_⟩
            have s5 := same_upd hlq (.lst [V.int 0, .int 1, .int 2, .int 3, .non])
            refine ⟨_, rfl, _, _, rfl, rfl, (show (0 : Int) < 5 by decide), lq, _, _, stV (r % 5), rfl, rfl, SqL.of upd_same, (by rw [m5]; exact st_at (Nat.mod_lt _ (by decide))), ?_⟩
            refine ⟨_, rfl, _, rfl, _, _, rfl, rfl, _, rfl, _, _, rfl, rfl, n0, _, rfl, fits3 4 (by decide), fun pz hpz => ?_⟩
            refine q2 k0 r (i, c) rfl h1 hA pz _ (s1.trans (sA.trans (s5.trans (same_upd hpz _)))) ?_
            have e1 : (1 : Int) + ((r : Nat) : Int) / 5 = ((r / 5 : Nat) : Int) + 1 := by omega
            have e2 : (((g : Nat) : Int) + ((i : Nat) : Int)) % ((n : Nat) : Int) = (((g + i) % n : Nat) : Int) := by rw [Int.natCast_emod, Int.natCast_add]
            show upd _ pz (.tup [.int ((1 : Int) + ((r : Nat) : Int) / 5), stV (r % 5), .int ((((g : Nat) : Int) + ((i : Nat) : Int)) % ((n : Nat) : Int)), .int ((tm : Nat) : Int)]) pz = _
            rw [e1, e2]
            exact upd_same
          | false =>
            have ng : ¬ (c < 40 ∧ dueT n cs k0 r i c = true) := fun z => by
              have z2 := z.2
              unfold dueT at z2
              rw [ow, Bool.and_false] at z2
              cases z2
            exact iteF ⟨sA, by rw [hs, if_neg ng], _, _, rfl⟩
        · rw [decide_eq_false c5]
          have ng : ¬ (c < 40 ∧ dueT n cs k0 r i c = true) := fun z => by
            have z2 := z.2
            unfold dueT at z2
            rw [decide_eq_false c5, Bool.false_and] at z2
            cases z2
          exact iteF ⟨sA, by rw [hs, if_neg ng], _, _, rfl⟩
      · rw [decide_eq_true (show 40 ≤ c by omega)]
        exact iteF (iteF ⟨sA, by rw [hs, if_neg (fun z => c40 z.1)], _, _, rfl⟩)
    · obtain ⟨s2, h0, x6, x7, rfl⟩ := z
      rw [vC_len, List.take_length] at h0
      exact absurd h0 hit0

/-! ### what is due to a text -/
def cp0 (t : Str) : Nat := t.cps.toList.getD 0 0
def cp1 (t : Str) : Nat := t.cps.toList.getD 1 0
def outF (c : Nat) : Bool := (Builtin.Str.occurrences sFig ⟨#[c]⟩ 0 sFig.length 1).isEmpty
def outS (c : Nat) : Bool := (Builtin.Str.occurrences sStr ⟨#[c]⟩ 0 sStr.length 1).isEmpty
theorem no_chk : ∀ t ∈ noT, t ∉ all43 ∧ decide (t ∈ (["pass", "double", "again"] : List Str)) = false ∧ t.length ≤ 1000 ∧ (t.length ≠ 2 ∨ outF (cp0 t) = true ∨ outS (cp1 t) = true) := by decide +kernel
theorem bid_chk : ∀ c < 40, (cT c).length = 2 ∧ outF (cp0 (cT c)) = false ∧ outS (cp1 (cT c)) = false := by decide +kernel
def rL : Option Str → List V
  | none => [.non]
  | some r => [.str r, .bl true, .bl true, .bl false]
def spDue (K : PySem.W.Frag) : Sp := fun vs H Q _ => ∃ (a : Addr) (n : Nat) (t : Str) (cs : List Nat), vs = [.ref a, .int (n : Nat), .str t] ∧ H a = some (.lst (vC cs)) ∧ (∀ c ∈ cs, c < 43) ∧ (n = 3 ∨ n = 4) ∧ InT t ∧ (t ∈ noT → ∀ p H', Same H H' → H p = none → H' p = some (.lst (rL (some "none"))) → Q (.ref p) H') ∧ ∀ c < 43, t = cT c → ∀ p H', Same H H' → H p = none → H' p = some (.lst (rL (ruleC n cs c))) → Q (.ref p) H'
abbrev nDue : List Str := ["_law_calls", "_law_seats", "_law_text_here", "_law_rule_here"]
theorem scDue : FnScope nDue ["_law_calls", "_law_seats", "_law_text_here"] (defScope sDue) := ⟨rfl, rfl, rfl, by decide +kernel, rfl, by decide +kernel, by decide +kernel⟩
theorem ok_due {k : Nat} {f1 : Addr} {d1 : FuncData} (F : Fun K "_law_due" "_law_due" sDue f fd) (LU : Lib P w K mg base k "_law_rule" ["_law_calls", "_law_seats", "_law_call"] (spRule K) f1 d1) (ml : mg "len" = none) : FnOk P w K mg base CX0 (k + 1) f fd ["_law_calls", "_law_seats", "_law_text_here"] (spDue K) := by
  refine F.ok scDue (fun vs H Q E h => ?_) (fun cdv A outer s H vs Q E hr h => ?_)
  · obtain ⟨a, n, t, cs, rfl, _⟩ := h
    rfl
  obtain ⟨a, n, t, cs, rfl, hL, co, n34, hT, q1, q2⟩ := h
  refine ⟨_, pss_cons (ps_if (pt_cmpR op_notIn_seq (pv 2) (pe_tup (pa_cons pe_str (pa_cons pe_str (pa_cons pe_str pa_nil)))) rfl) (pss_one (ps_if (PW.pt (pw_or (pt_cmpR op_ne (pe_callB call_len_str rfl ml PySem.boot_len (pa_cons (pv 2) pa_nil)) pe_int (nomark _)) (pw_or (pt_cmpR op_notIn_str (pe_ix ix_str (pv 2) pe_int (fun _ _ => rfl)) pe_str rfl) (pw_or1 (pt_cmpR op_notIn_str (pe_ix ix_str (pv 2) pe_int (fun _ _ => rfl)) pe_str rfl))))) (pss_one (ps_ret (pe_lst (pa_cons pe_str (pa_cons pe_bl (pa_cons pe_bl (pa_cons pe_bl pa_nil))))))) pss_nil)) pss_nil)
    (pss_cons (ps_set (i := 3) scDue.nd rfl (Or.inl rfl) (pe_call LU.ok hr rfl LU.mg LU.kp LU.bd .nil pass0 (pa_cons (pv 0) (pa_cons (pv 1) (pa_cons (pv 2) pa_nil)))))
    (pss_cons (ps_if (pt_cmpR op_isN (pv 3) pe_non (nomark _)) (pss_one (ps_ret (pe_lst (pa_cons pe_non pa_nil)))) pss_nil)
    (pss_one (ps_ret (pe_lst (pa_cons (pv 3) (pa_cons pe_bl (pa_cons pe_bl (pa_cons pe_bl pa_nil))))))))), ?_⟩
  have hz : t.length ≤ sizeLine := by
    rcases hT with ⟨c, hc, rfl⟩ | h
    · exact fits3 _ (cT_short hc)
    · exact fits3 _ (no_chk t h).2.2.1
  have ats : t.length = 2 → atI t.cps.toList ((0 : Nat) : Int) = some (cp0 t) ∧ atI t.cps.toList ((1 : Nat) : Int) = some (cp1 t) := fun h => by
    obtain ⟨a, b, eab⟩ := list2 (l := t.cps.toList) h
    unfold cp0 cp1
    rw [eab]
    exact ⟨rfl, rfl⟩
  refine if_cut (fun b H' => Same H H' ∧ b = !decide (t ∈ (["pass", "double", "again"] : List Str))) (fun σ H' => Same H H' ∧ σ = [some (.ref a), some (.int (n : Nat)), some (.str t), none] ∧ t ∉ noT) (fun R hR => ?_) (fun H1 y D' rt nx => ?_) (fun H1 y D' rt nx => ?_) (fun σ H1 y => ?_)
  · refine ⟨_, rfl, fits3 3 (by decide), fun p2 hp2 => ?_⟩
    refine ⟨p2, _, rfl, .inr (SqT.of upd_same), rfl, rfl, _, rfl, hR _ _ ⟨same_upd hp2 _, ?_⟩⟩
    exact congrArg (fun b => !b) (inV_str (ys := ["pass", "double", "again"]))
  · obtain ⟨s1, hb⟩ := y
    have ret : t ∈ noT → tRet (tLst (tCons (tC (.str "none")) (tCons (tC (.bl true)) (tCons (tC (.bl true)) (tCons (tC (.bl false)) tNil))))) D' [some (.ref a), some (.int (n : Nat)), some (.str t), none] H1 := fun m => by
      refine ⟨fits3 4 (by decide), fun p hp => ?_⟩
      rw [rt]
      have hp0 : H p = none := by
        cases e : H p with
        | none => rfl
        | some o => rw [s1 _ _ e] at hp; cases hp
      exact q1 m p _ (s1.trans (same_upd hp _)) hp0 upd_same
    refine ⟨_, rfl, _, rfl, hz, rfl, _, rfl, ?_⟩
    have eN : (!decide (V.int ((t.length : Nat) : Int) = V.int 2)) = !decide (t.length = 2) := congrArg (fun b => !b) (int_dec.trans (decide_eq_decide.mpr ⟨fun h => by omega, fun h => by omega⟩))
    refine chg eN ?_
    rcases hT with ⟨c, hc, rfl⟩ | h
    · have c40 : c < 40 := by
        have all : ∀ c < 43, decide (cT c ∈ (["pass", "double", "again"] : List Str)) = decide (40 ≤ c) := by decide +kernel
        rw [all c hc] at hb
        have z : decide (40 ≤ c) = false := by cases e : decide (40 ≤ c) with | true => rw [e] at hb; cases hb | false => rfl
        have := of_decide_eq_false z
        omega
      obtain ⟨b1, b2, b3⟩ := bid_chk c c40
      obtain ⟨a0, a1⟩ := ats b1
      rw [decide_eq_true b1]
      refine iteF ⟨_, rfl, _, _, _, rfl, rfl, hz, a0, _, _, rfl, rfl, _, rfl, chg (show (!(!(outF (cp0 (cT c))))) = false by rw [b2]; rfl) (iteF ⟨_, rfl, _, _, _, rfl, rfl, hz, a1, _, _, rfl, rfl, _, rfl, chg (show (!(!(outS (cp1 (cT c))))) = false by rw [b3]; rfl) (iteF (nx _ _ ⟨s1, rfl, fun z => (no_chk _ z).1 (cT_all hc)⟩))⟩)⟩
    · rcases (no_chk t h).2.2.2 with l2 | l2
      · rw [decide_eq_false l2]
        exact iteT (iteT (ret h))
      · by_cases l3 : t.length = 2
        · obtain ⟨a0, a1⟩ := ats l3
          rw [decide_eq_true l3]
          refine iteF ⟨_, rfl, _, _, _, rfl, rfl, hz, a0, _, _, rfl, rfl, _, rfl, ?_⟩
          cases e : outF (cp0 t) with
          | true => exact chg (show (!(!(outF (cp0 t)))) = true by rw [e]; rfl) (iteT (iteT (ret h)))
          | false =>
            have e2 : outS (cp1 t) = true := by
              rcases l2 with l2 | l2
              · rw [e] at l2; cases l2
              · exact l2
            refine chg (show (!(!(outF (cp0 t)))) = false by rw [e]; rfl) (iteF ⟨_, rfl, _, _, _, rfl, rfl, hz, a1, _, _, rfl, rfl, _, rfl, chg (show (!(!(outS (cp1 t)))) = true by rw [e2]; rfl) (iteT (ret h))⟩)
        · rw [decide_eq_false l3]
          exact iteT (iteT (ret h))
  · obtain ⟨s1, hb⟩ := y
    refine nx _ _ ⟨s1, rfl, fun m => ?_⟩
    rw [(no_chk t m).2.1] at hb
    cases hb
  obtain ⟨s1, rfl, hno⟩ := y
  obtain ⟨c, hc, rfl⟩ : ∃ c, c < 43 ∧ t = cT c := by
    rcases hT with h | h
    · exact h
    · exact absurd h hno
  refine set_nm (fun v H' => Same H1 H' ∧ v = oS (ruleC n cs c)) (fun R hR => ?_) (fun v H2 z => ?_)
  · exact ⟨_, rfl, _, rfl, _, rfl, a, n, c, cs, rfl, s1 _ _ hL, co, n34, hc, fun H2 s2 => hR _ _ ⟨s2, rfl⟩⟩
  obtain ⟨s2, rfl⟩ := z
  have s12 := s1.trans s2
  have fin : ∀ p H', H2 p = none → H' = upd H2 p (.lst (rL (ruleC n cs c))) → Q (.ref p) H' := fun p H' hp e => by
    have hp0 : H p = none := by
      cases e : H p with
      | none => rfl
      | some o => rw [s12 _ _ e] at hp; cases hp
    rw [e]
    exact q2 c hc rfl p _ (s12.trans (same_upd hp _)) hp0 upd_same
  cases e : ruleC n cs c with
  | none =>
    rw [e] at fin
    exact ⟨_, rfl, rfl, _, rfl, iteT ⟨fits3 1 (by decide), fun p hp => fin p _ hp rfl⟩⟩
  | some r =>
    rw [e] at fin
    exact ⟨_, rfl, rfl, _, rfl, iteF ⟨_, rfl, fits3 4 (by decide), fun p hp => fin p _ hp rfl⟩⟩
end
end My

namespace L2
open PySem PySem.Spec PyProof.Rows
/-! ### == of what is alike through and through -/
inductive DeepEq (K : PySem.W.Frag) (H : Hp) : Nat → V → V → Prop
  | flat {d : Nat} {x : V} : flatV x = true → DeepEq K H d x x
  | tup {d : Nat} {p q : Addr} {xs ys : List V} : SqT K H p xs → SqT K H q ys → xs.length = ys.length → (∀ j, j < xs.length → DeepEq K H d (xs.getD j .non) (ys.getD j .non)) → DeepEq K H (d + 1) (.ref p) (.ref q)
  | lst {d : Nat} {p q : Addr} {xs ys : List V} : SqL K H p xs → SqL K H q ys → xs.length = ys.length → (∀ j, j < xs.length → DeepEq K H d (xs.getD j .non) (ys.getD j .non)) → DeepEq K H (d + 1) (.ref p) (.ref q)
theorem eqV_refl {x : V} (h : flatV x = true) : eqV x x = true := by
  cases x with
  | non => rfl
  | bl b => exact beq_self_eq_true b
  | int i => exact beq_self_eq_true i
  | str t => exact beq_self_eq_true t
  | _ => cases h
theorem item_rel {xs : List V} {us : List Value} (r : Vals xs us) {j : Nat} (h : j < us.toArray.size) : RelV (xs.getD j .non) us.toArray[j] ∧ j < xs.length := by
  have hj : j < us.length := by simpa using h
  have hx : j < xs.length := by rw [r.length]; exact hj
  obtain ⟨u, e, ru⟩ := r.get (List.getElem?_eq_getElem hx)
  rw [List.getElem?_eq_getElem hj] at e
  have g : xs.getD j .non = xs[j] := by rw [List.getD_eq_getElem?_getD, List.getElem?_eq_getElem hx]; rfl
  have eu : us[j] = u := Option.some.inj e
  refine ⟨?_, hx⟩
  rw [g, List.getElem_toArray, eu]
  exact ru
theorem all_t (n : Nat) : (List.range n).all (fun _ => true) = true := List.all_eq_true.mpr fun _ _ => rfl
section
variable {X : Cx} {pins : List (Addr × Obj)} {σ : St} {H : Hp} {s : Shared}
theorem DeepEq.at (I : Inv X pins σ H s) {d : Nat} {x y : V} (h : DeepEq X.K H d x y) : ∀ {A : Around} {u v : Value}, RelV x u → RelV y v → A.units + d < cLine → SeqAt.EqAt A s u v true := by
  induction h with
  | flat f =>
    intro A u v rx ry _
    have := eqAt_V (A := A) (s := s) rx ry f f
    rwa [eqV_refl f] at this
  | @tup d p q xs ys hp hq hl hi ih =>
    intro A u v rx ry hu
    cases rx
    cases ry
    by_cases e : p = q
    · subst e; exact SeqAt.EqAt.same _
    obtain ⟨its, r1, p1, _⟩ := I.tuple hp
    obtain ⟨its2, r2, p2, _⟩ := I.tuple hq
    have l1 := r1.length
    have l2 := r2.length
    have z := SeqAt.RcAt.tuples (A := A) (s := s) (e := fun _ => true) p1 p2 (by omega) (fun j h1 h2 => ih j (item_rel r1 h1).2 (A := A.in1) (item_rel r1 h1).1 (item_rel r2 h2).1 (by show A.units + 1 + d < cLine; omega))
    have ez : ((List.range (min its.toArray.size its2.toArray.size)).all (fun _ => true) && its.toArray.size == its2.toArray.size) = true := by
      rw [all_t, Bool.true_and]
      simp [← l1, ← l2, hl]
    rw [ez] at z
    exact SeqAt.EqAt.of_refs e z
  | @lst d p q xs ys hp hq hl hi ih =>
    intro A u v rx ry hu
    cases rx
    cases ry
    by_cases e : p = q
    · subst e; exact SeqAt.EqAt.same _
    obtain ⟨its, r1, p1, _⟩ := I.list hp
    obtain ⟨its2, r2, p2, _⟩ := I.list hq
    have l1 := r1.length
    have l2 := r2.length
    have z := SeqAt.RcAt.lists (A := A) (s := s) (e := fun _ => true) p1.isList p2.isList (by simp [← l1, ← l2, hl]) (by omega) (fun j h1 h2 => ih j (item_rel r1 h1).2 (A := A.in1) (item_rel r1 h1).1 (item_rel r2 h2).1 (by show A.units + 1 + d < cLine; omega))
    rw [all_t] at z
    exact SeqAt.EqAt.of_refs e z
def rEqD (K : PySem.W.Frag) (d : Nat) : R2 := fun x y H Q => ∃ a b, x = .ref a ∧ y = .ref b ∧ DeepEq K H d x y ∧ Q (.bl true) H
theorem op_eqD {d : Nat} (hd : d ≤ 60) (hu : X.A.units + 64 < cLine) : OpR X (compareOp .Eq) (rEqD X.K d) := by
  intro pins s σ H x y v u Q I rx ry h
  obtain ⟨a, b, rfl, rfl, h, q⟩ := h
  cases rx
  cases ry
  cases h with
  | flat f => cases f
  | @tup d _ _ xs ys hp hq hl hi =>
    obtain ⟨its, r1, p1, _⟩ := I.tuple hp
    obtain ⟨its2, r2, p2, _⟩ := I.tuple hq
    have l1 := r1.length
    have l2 := r2.length
    refine SeqAt.RcAt.tuples (e := fun _ => true) p1 p2 (by omega) (fun j h1 h2 => DeepEq.at I (hi j (item_rel r1 h1).2) (A := X.A.in1) (item_rel r1 h1).1 (item_rel r2 h2).1 (by show X.A.units + 1 + d < cLine; omega)) _ _ _ _ ⟨.bl _, H, I, rfl, ?_⟩
    have ez : ((List.range (min its.toArray.size its2.toArray.size)).all (fun _ => true) && its.toArray.size == its2.toArray.size) = true := by
      rw [all_t, Bool.true_and]
      simp [← l1, ← l2, hl]
    rw [ez]
    exact q
  | @lst d _ _ xs ys hp hq hl hi =>
    obtain ⟨its, r1, p1, _⟩ := I.list hp
    obtain ⟨its2, r2, p2, _⟩ := I.list hq
    have l1 := r1.length
    have l2 := r2.length
    refine SeqAt.RcAt.lists (e := fun _ => true) p1.isList p2.isList (by simp [← l1, ← l2, hl]) (by omega) (fun j h1 h2 => DeepEq.at I (hi j (item_rel r1 h1).2) (A := X.A.in1) (item_rel r1 h1).1 (item_rel r2 h2).1 (by show X.A.units + 1 + d < cLine; omega)) _ _ _ _ ⟨.bl _, H, I, rfl, ?_⟩
    rw [all_t]
    exact q
end
theorem DeepEq.flats {K : PySem.W.Frag} {H : Hp} {d : Nat} {xs : List V} (f : xs.all flatV = true) : ∀ j, j < xs.length → DeepEq K H d (xs.getD j .non) (xs.getD j .non) := fun j h => by
  refine .flat ?_
  have g : xs.getD j .non = xs[j] := by rw [List.getD_eq_getElem?_getD, List.getElem?_eq_getElem h]; rfl
  rw [g]
  exact List.all_eq_true.mp f _ (List.getElem_mem h)
end L2

namespace My
open PySem L2
abbrev sAsked : Stmt := top 39
section
variable {P : Program} {w : World} {K : PySem.W.Frag} {mg : Str → Option Value} {base : Heap} {f g : Addr} {fd gd : FuncData}
theorem same_make {H : Hp} {x dx : Addr} {o : HO} (hx : H x = none) (hd : H dx = none) (n : dx ≠ x) : Same H (upd (upd H dx (.own x)) x o) := fun b u q => by
  rw [upd_ne (ne_of_none q hx), upd_ne (ne_of_none q hd)]
  exact q
theorem IsAu.putl {CA : Addr} {n : Nat} {a : Au} {H : Hp} {x lb lc : Addr} {ys zs : List V} (h : IsAu CA n a H x lb) (hl : H lc = some (.lst ys)) (ne : lb ≠ lc) : IsAu CA n a (upd H lc (.lst zs)) x lb := by
  obtain ⟨dx, fs, h1, h2, vs, b1, b2, b3⟩ := h
  refine ⟨dx, fs, by rw [upd_ne (fun z => by rw [z, hl] at h1; cases h1)]; exact h1, h2, vs, by rw [upd_ne ne]; exact b1, b2, fun i v s r e1 e2 => ?_⟩
  obtain ⟨p, q, e, y1, y2⟩ := b3 i v s r e1 e2
  exact ⟨p, q, e, by rw [upd_ne (fun z => by rw [z, hl] at y1; cases y1)]; exact y1, by rw [upd_ne (fun z => by rw [z, hl] at y2; cases y2)]; exact y2⟩
theorem Kept.upd {x lb c : Addr} {H H' : Hp} {o : HO} (k : Kept x lb H H') (hc : H c = none) : Kept x lb H (upd H' c o) := fun b u h1 h2 h => by
  rw [upd_ne (fun z => by rw [z, hc] at h; cases h)]
  exact k b u h1 h2 h
theorem Kept.same {x lb : Addr} {H H1 H2 : Hp} (k : Kept x lb H H1) (s : Same H1 H2) : Kept x lb H H2 := fun b u h1 h2 h => s _ _ (k b u h1 h2 h)
structure WfB (n : Nat) (a : Au) (m : Nat) : Prop where
  n34 : n = 3 ∨ n = 4
  ca : a.caller < n
  bd : ∀ b ∈ a.bids, b.1 < n ∧ b.2 < 40
  ln : a.bids.length ≤ m
theorem WfB.wf {n m : Nat} {a : Au} (h : WfB n a m) (hm : m ≤ 500) : WfA n a := ⟨h.n34, h.ca, h.bd, Nat.le_trans h.ln hm⟩
theorem WfB.step {n m c : Nat} {a : Au} (h : WfB n a m) : WfB n (stepA n a c) (m + 1) := by
  have n0 : 0 < n := by rcases h.n34 with z | z <;> omega
  refine ⟨h.n34, Nat.mod_lt _ n0, fun b hb => ?_, ?_⟩
  · change b ∈ (if c < 40 then a.bids ++ [(a.caller, c)] else a.bids) at hb
    by_cases c40 : c < 40
    · rw [if_pos c40] at hb
      rcases List.mem_append.mp hb with z | z
      · exact h.bd b z
      · rw [List.mem_singleton.mp z]
        exact ⟨h.ca, c40⟩
    · rw [if_neg c40] at hb
      exact h.bd b hb
  · show (if c < 40 then a.bids ++ [(a.caller, c)] else a.bids).length ≤ m + 1
    have := h.ln
    split
    · rw [List.length_append]
      show _ + 1 ≤ _
      omega
    · omega
/-- v is the contract of these calls -/
def IsCon (n g : Nat) (cs : List Nat) (H : Hp) (v : V) : Prop := ((lastF cs).2.1 = none ∧ v = .non) ∨ ∃ k r h p, (lastF cs).2.1 = some k ∧ cs[k]? = some r ∧ (hitF (dueT n cs k r) cs).2 = some h ∧ v = .ref p ∧ H p = some (.tup (conL r (some ((g + h.1) % n)) (lastF cs).2.2))
def TupK (H H' : Hp) : Prop := ∀ p xs, H p = some (.tup xs) → H' p = some (.tup xs)
theorem TupK.of {H H' : Hp} (s : Same H H') : TupK H H' := fun p xs h => s _ _ h
theorem TupK.putl {H : Hp} {c : Addr} {ys zs : List V} (h : H c = some (.lst ys)) : TupK H (upd H c (.lst zs)) := fun p xs e => by rw [upd_ne (fun z => by rw [z, h] at e; cases e)]; exact e
theorem IsCon.keep {n g : Nat} {cs : List Nat} {H H' : Hp} {v : V} (h : IsCon n g cs H v) (t : TupK H H') : IsCon n g cs H' v := by
  rcases h with h | ⟨k, r, w, p, h1, h2, h3, h4, h5⟩
  · exact .inl h
  · exact .inr ⟨k, r, w, p, h1, h2, h3, h4, t _ _ h5⟩
theorem con_vals (r : Nat) (o m : Nat) : (conL r (some o) m).length = 4 ∧ ∀ v ∈ conL r (some o) m, v = .non ∨ ∃ i, v = .int i := by
  refine ⟨rfl, fun v hv => ?_⟩
  rcases List.mem_cons.mp hv with e | hv
  · exact .inr ⟨_, e⟩
  rcases List.mem_cons.mp hv with e | hv
  · unfold stV at e
    split at e
    · exact .inl e
    · exact .inr ⟨_, e⟩
  rcases List.mem_cons.mp hv with e | hv
  · exact .inr ⟨_, e⟩
  rcases List.mem_cons.mp hv with e | hv
  · exact .inr ⟨_, e⟩
  · exact nomatch hv
def Pair4 (H : Hp) (a b : V) : Prop := (a = .non ∧ b = .non) ∨ ∃ p q xs, a = .ref p ∧ b = .ref q ∧ H p = some (.tup xs) ∧ H q = some (.tup xs) ∧ xs.length = 4 ∧ ∀ v ∈ xs, v = .non ∨ ∃ i, v = .int i
theorem con_pair {n g : Nat} {cs : List Nat} {H : Hp} {a b : V} (h : IsCon n g cs H a) (h' : IsCon n g cs H b) : Pair4 H a b := by
  rcases h with ⟨e, rfl⟩ | ⟨k, r, w, p, h1, h2, h3, rfl, h5⟩
  · rcases h' with ⟨_, rfl⟩ | ⟨k, r, w, p, h1, h2, h3, rfl, h5⟩
    · exact .inl ⟨rfl, rfl⟩
    · rw [e] at h1; cases h1
  · rcases h' with ⟨e, rfl⟩ | ⟨k', r', w', p', g1, g2, g3, rfl, g5⟩
    · rw [e] at h1; cases h1
    · rw [h1] at g1
      cases g1
      rw [h2] at g2
      cases g2
      rw [h3] at g3
      cases g3
      exact .inr ⟨p, p', _, rfl, rfl, h5, g5, (con_vals _ _ _).1, (con_vals _ _ _).2⟩
theorem go_of {T : St → Hp → Prop} {σ : St} {H : Hp} {i : Nat} {v : V} (h : T (σ.set i (some v)) H) : gName i v σ H T := h
theorem RelB.con {n g : Nat} {cs : List Nat} {a : Au} (R : RelB n g cs a) : (a.bids = [] → (lastF cs).2.1 = none) ∧ ∀ bs s r, a.bids = bs ++ [(s, r)] → ∃ k h, (lastF cs).2.1 = some k ∧ cs[k]? = some r ∧ (hitF (dueT n cs k r) cs).2 = some h ∧ conL r (nameA n a r s) a.times = conL r (some ((g + h.1) % n)) (lastF cs).2.2 := by
  rcases R.r.bd with ⟨h1, h2, _⟩ | ⟨k, r0, bs0, h1, h2, h3, h4, _⟩
  · refine ⟨fun _ => h2, fun bs s r e => ?_⟩
    rw [h1] at e
    exact absurd e.symm (List.append_ne_nil_of_right_ne_nil _ (List.cons_ne_nil _ _))
  · refine ⟨fun e => ?_, fun bs s r e => ?_⟩
    · rw [h1] at e
      exact absurd e (List.append_ne_nil_of_right_ne_nil _ (List.cons_ne_nil _ _))
    · have z : a.bids.getLast? = some (s, r) := by rw [e, List.getLast?_concat]
      rw [h1, List.getLast?_concat] at z
      injection z with z
      injection z with z1 z2
      subst z1
      subst z2
      have hn := R.hit h3 h4
      obtain ⟨h, hh⟩ := Option.ne_none_iff_exists'.mp hn
      refine ⟨k, h, h2, h3, hh, ?_⟩
      rw [R.name, hh, R.r.tm]
      rfl
theorem con2 {n g : Nat} {H' : Hp} {cs : List Nat} {au : Au} {bs : List (Nat × Nat)} {s r : Nat} {p : Addr} (Rl : RelB n g cs au) (e : au.bids = bs ++ [(s, r)]) (hp : H' p = some (.tup (conL r (nameA n au r s) au.times))) : IsCon n g cs H' (.ref p) := by
  obtain ⟨k, h, h1, h2, h3, h4⟩ := Rl.con.2 bs s r e
  rw [h4] at hp
  exact .inr ⟨k, r, h, p, h1, h2, h3, rfl, hp⟩
theorem pair_deep {H : Hp} {a b : V} (h : Pair4 H a b) : DeepEq K H 1 a b := by
  rcases h with ⟨rfl, rfl⟩ | ⟨p, q, xs, rfl, rfl, hp, hq, hl, hv⟩
  · exact .flat rfl
  · refine .tup (SqT.of hp) (SqT.of hq) rfl (DeepEq.flats (List.all_eq_true.mpr fun v hm => ?_))
    rcases hv v hm with rfl | ⟨i, rfl⟩ <;> rfl
/-- all but what lies at l stays -/
theorem Kept.tup {l : Addr} {H H' : Hp} {ys : List V} (k : Kept l l H H') (hl : H l = some (.lst ys)) : TupK H H' := fun p xs e => k p _ (fun z => by rw [z, hl] at e; cases e) (fun z => by rw [z, hl] at e; cases e) e
def wh (wy j : Nat) : Nat := (j * (1 + wy % 2) + wy / 2) % 3
theorem wh_all : ∀ wy < 6, ∀ s < 3, ∃ j, j < 3 ∧ wh wy j = s := by decide +kernel
def spAsked (CA : Addr) : Sp := fun vs H Q _ => ∃ (x lb lc : Addr) (n g wy : Nat) (cs : List Nat) (au : Au), vs = [.ref x, .ref lc, .int (n : Nat), .int (g : Nat), .int (wy : Nat)] ∧ wy < 6 ∧ IsAu CA n au H x lb ∧ WfA n au ∧ H lc = some (.lst (vC cs)) ∧ RelB n g cs au ∧ ∀ H', Same H H' → Q (.bl true) H'
abbrev pAsked : List Str := ["_law_auction", "_law_calls", "_law_seats", "_law_first", "_law_way"]
abbrev nAsked : List Str := ["_law_auction", "_law_calls", "_law_seats", "_law_first", "_law_way", "_law_over_here", "_law_due_here", "_law_found", "_law_k", "_law_which"]
theorem scAsked : FnScope nAsked pAsked (defScope sAsked) := ⟨rfl, rfl, rfl, by decide +kernel, rfl, by decide +kernel, by decide +kernel⟩
theorem ok_asked {k : Nat} {CA f1 f2 m2 m3 m4 : Addr} {d1 d2 e2 e3 e4 : FuncData} (F : Fun K "_law_asked" "_law_asked" sAsked f fd) (C : AuC K mg CA) (LO : Lib P w K mg base k "_law_over" ["_law_calls", "_law_seats"] (spLOver K) f1 d1) (LU : Lib P w K mg base k "_law_contract" ["_law_calls", "_law_seats", "_law_first"] (spLCon K) f2 d2)
    (MD : Meth K CA "is_done" m2) (FD : FnOk P w K mg base CX0 k m2 e2 ["self"] (spDone CA)) (BD : Binds K e2 ["self"] []) (MT : Meth K CA "turn" m3) (FT : FnOk P w K mg base CX0 k m3 e3 ["self"] (spTurn CA)) (BT : Binds K e3 ["self"] []) (MC : Meth K CA "contract" m4) (FC : FnOk P w K mg base CX0 k m4 e4 ["self"] (spCon CA)) (BC : Binds K e4 ["self"] [])
    (ml : mg "len" = none) (mr : mg "range" = none) (mi : mg "isinstance" = none) (mB : mg "bool" = none) : FnOk P w K mg base CX0 (k + 1) f fd pAsked (spAsked CA) := by
  refine F.ok scAsked (fun vs H Q E h => ?_) (fun cdv A outer s H vs Q E hr h => ?_)
  · obtain ⟨x, lb, lc, n, g, wy, cs, au, rfl, _⟩ := h
    rfl
  obtain ⟨x, lb, lc, n, g, wy, cs, au, rfl, hw, I, W, hL, R, q⟩ := h
  refine ⟨_, pss_cons (ps_set (i := 5) scAsked.nd rfl (Or.inl rfl) (pe_call LO.ok hr rfl LO.mg LO.kp LO.bd .nil pass0 (pa_cons (pv 1) (pa_cons (pv 2) pa_nil))))
    (pss_cons (ps_set (i := 6) scAsked.nd rfl (Or.inl rfl) (pe_lst (pa_cons (pe_op op_mod (pe_op op_add (pv 3) (pe_callB call_len_seq rfl ml PySem.boot_len (pa_cons (pv 1) pa_nil))) (pv 2)) (pa_cons (pv 5) (pa_cons (pe_call LU.ok hr rfl LU.mg LU.kp LU.bd .nil pass0 (pa_cons (pv 1) (pa_cons (pv 2) (pa_cons (pv 3) pa_nil)))) pa_nil)))))
    (pss_cons (ps_if (pt_truth (pv 5) (fun _ => rfl)) (pss_one (ps_asg pe_non (pg_sub (pv 6) pe_int set_list))) pss_nil)
    (pss_cons (ps_set (i := 7) scAsked.nd rfl (Or.inl rfl) (pe_lst (pa_cons pe_int (pa_cons pe_int (pa_cons pe_int pa_nil)))))
    (pss_cons (ps_for PassesOwn.never rfl (pi_range1 rfl mr (pa_cons pe_int pa_nil)) (pg_name (i := 8) scAsked.nd rfl (Or.inl rfl))
      (pss_cons (ps_set (i := 9) scAsked.nd rfl (Or.inl rfl) (pe_op op_mod (pe_op op_add (pe_op op_mul (pv 8) (pe_op op_add pe_int (pe_op op_mod (pv 4) pe_int))) (pe_op op_fdiv (pv 4) pe_int)) pe_int))
      (pss_one (ps_if (pt_cmpR op_eq (pv 9) pe_int (nomark _)) (pss_one (ps_asg (pe_meth0 (pv 0) C.cl MT FT hr BT .nil pass0) (pg_sub (pv 7) pe_int set_list)))
        (pss_one (ps_if (pt_cmpR op_eq (pv 9) pe_int (nomark _)) (pss_one (ps_asg (pe_meth0 (pv 0) C.cl MD FD hr BD .nil pass0) (pg_sub (pv 7) pe_int set_list)))
          (pss_one (ps_asg (pe_meth0 (pv 0) C.cl MC FC hr BC .nil pass0) (pg_sub (pv 7) pe_int set_list)))))))))
    (pss_one (ps_ret (pe_and (pe_cmpR (op_eqD (d := 2) (by decide) hr.units) (pv 7) (pv 6) (nomark _)) (pe_one (pe_callB call_isT rfl mi PyProof.Rows.boot_isinstance (pa_cons (pe_ix ix_list (pv 7) pe_int (fun _ _ => rfl)) (pa_cons (pe_bltn (v := .ty "bool") rfl mB PyProof.Rows.boot_bool rfl) pa_nil))))))))))), ?_⟩
  have n34 := R.r.n34
  have n1 : 1 ≤ n := by rcases n34 with z | z <;> omega
  have n0 : (0 : Int) < ((n : Nat) : Int) := by omega
  have hl := vC_len cs
  have em : (((g : Nat) : Int) + (((vC cs).length : Nat) : Int)) % ((n : Nat) : Int) = ((au.caller : Nat) : Int) := by rw [hl, R.r.ca, Int.natCast_emod, Int.natCast_add]
  have de := R.r.done
  generalize hd0 : (if doneA n au = true then V.non else V.int (au.caller : Nat)) = d0
  -- over
  refine ⟨_, rfl, _, rfl, lc, n, cs, rfl, SqL.of hL, R.r.co, n1, ?_⟩
  rw [← de]
  refine nm_of ?_
  generalize hov : doneA n au = ov at hd0
  -- due
  refine seq_cut (fun σ H' => ∃ ld dv, Same H H' ∧ H ld = none ∧ H' ld = some (.lst [.int (au.caller : Nat), .bl ov, dv]) ∧ IsCon n g cs H' dv ∧ σ = [some (.ref x), some (.ref lc), some (.int (n : Nat)), some (.int (g : Nat)), some (.int (wy : Nat)), some (.bl ov), some (.ref ld), none, none, none]) (fun D' _ nx => ?_) (fun σ H1 z => ?_)
  · refine ⟨_, rfl, _, rfl, lc, _, rfl, .inl (SqL.of hL), _, _, rfl, rfl, _, rfl, _, _, rfl, rfl, n0, _, rfl, ?_⟩
    have fin : ∀ dv H', Same H H' → IsCon n g cs H' dv → 3 ≤ sizeLine ∧ ∀ p, H' p = none → D'.nx [some (.ref x), some (.ref lc), some (.int (n : Nat)), some (.int (g : Nat)), some (.int (wy : Nat)), some (.bl ov), some (.ref p), none, none, none] (upd H' p (.lst [.int ((((g : Nat) : Int) + (((vC cs).length : Nat) : Int)) % ((n : Nat) : Int)), .bl ov, dv])) := fun dv H' s' hc => by
      refine ⟨fits3 3 (by decide), fun p hp => nx _ _ ⟨p, dv, s'.trans (same_upd hp _), ?_, ?_, hc.keep (TupK.of (same_upd hp _)), rfl⟩⟩
      · cases e : H p with
        | none => rfl
        | some o => rw [s' _ _ e] at hp; cases hp
      · rw [upd_same, em]
    refine ⟨_, rfl, _, rfl, _, rfl, lc, n, g, cs, rfl, hL, R.r.co, n34, fun e H' s' => ?_, fun k r v e1 e2 e3 p H' s' hp => ?_⟩
    · exact fin .non H' s' (.inl ⟨e, rfl⟩)
    · exact fin (.ref p) H' s' (.inr ⟨k, r, v, p, e1, e2, e3, rfl, hp⟩)
  obtain ⟨ld, dv, s1, hld0, hld, hdv, rfl⟩ := z
  have neld : ∀ {b o}, H b = some o → b ≠ ld := fun {b o} h z => by rw [z, hld0] at h; cases h
  -- where it is over
  refine if_cut (fun b H' => H1 = H' ∧ b = ov) (fun σ H' => Same H H' ∧ H' ld = some (.lst [d0, .bl ov, dv]) ∧ IsCon n g cs H' dv ∧ σ = [some (.ref x), some (.ref lc), some (.int (n : Nat)), some (.int (g : Nat)), some (.int (wy : Nat)), some (.bl ov), some (.ref ld), none, none, none]) (fun R' hR => ?_) (fun H' z D' _ nx => ?_) (fun H' z D' _ nx => ?_) (fun σ H2 z => ?_)
  · exact ⟨_, rfl, _, rfl, hR _ _ ⟨rfl, rfl⟩⟩
  · obtain ⟨rfl, rfl⟩ := z
    refine ⟨_, rfl, ld, _, 0, 0, rfl, rfl, hld, rfl, nx _ _ ⟨fun b o h => ?_, ?_, hdv.keep (TupK.putl hld), rfl⟩⟩
    · rw [upd_ne (neld h)]
      exact s1 _ _ h
    · rw [upd_same, ← hd0]
      rfl
  · obtain ⟨rfl, rfl⟩ := z
    refine nx _ _ ⟨s1, ?_, hdv, rfl⟩
    rw [hld, ← hd0]
    rfl
  obtain ⟨s2, hld2, hdv2, rfl⟩ := z
  refine ⟨fits3 3 (by decide), fun lf hlf => nm_of ?_⟩
  have hlf0 : H lf = none := by
    cases e : H lf with
    | none => rfl
    | some o => rw [s2 _ _ e] at hlf; cases hlf
  have nlf : lf ≠ ld := fun z => by rw [z, hld2] at hlf; cases hlf
  have s3 := same_upd hlf (.lst [V.int 0, .int 0, .int 0])
  have I3 : IsAu CA n au (upd H2 lf (.lst [V.int 0, .int 0, .int 0])) x lb := (I.same s2).same s3
  have nlb : lb ≠ lf := fun z => by
    obtain ⟨dx, fs, _, _, vs, b1, _⟩ := I
    rw [z, hlf0] at b1
    cases b1
  have hld3 := s3 _ _ hld2
  have hdv3 := hdv2.keep (TupK.of s3)
  have s23 := s2.trans s3
  have hlf3 : upd H2 lf (.lst [V.int 0, .int 0, .int 0]) lf = some (.lst [V.int 0, .int 0, .int 0]) := upd_same
  revert I3 hld3 hdv3 s23 hlf3
  generalize upd H2 lf (.lst [V.int 0, .int 0, .int 0]) = H3
  intro I3 hld3 hdv3 s23 hlf3
  refine ⟨3, rfl, by decide, by decide, ?_⟩
  refine for_range (n := 3) (fun i σ H' => Kept lf lf H3 H' ∧ IsAu CA n au H' x lb ∧ ∃ (f0 f1 f2 : V) (x8 x9 : Option V), H' lf = some (.lst [f0, f1, f2]) ∧ (∀ j, j < i → (wh wy j = 0 → f0 = d0) ∧ (wh wy j = 1 → f1 = .bl ov) ∧ (wh wy j = 2 → IsCon n g cs H' f2)) ∧ σ = [some (.ref x), some (.ref lc), some (.int (n : Nat)), some (.int (g : Nat)), some (.int (wy : Nat)), some (.bl ov), some (.ref ld), some (.ref lf), x8, x9])
    ⟨Kept.refl, I3, _, _, _, none, none, hlf3, (fun j h => absurd h (Nat.not_lt_zero _)), rfl⟩ (fun i σ H4 hi z => ?_) (fun σ H4 z => ?_)
  · obtain ⟨K4, I4, f0, f1, f2, x8, x9, hf, hfill, rfl⟩ := z
    obtain ⟨dx, fs, hx4, A4, B4⟩ := id I4
    have ew : ((((0 + ((i : Nat) : Int)) * (1 + ((wy : Nat) : Int) % 2)) + ((wy : Nat) : Int) / 2) % 3) = ((wh wy i : Nat) : Int) := by
      unfold wh
      rcases (show i = 0 ∨ i = 1 ∨ i = 2 by omega) with rfl | rfl | rfl <;> omega
    have w3 : wh wy i < 3 := Nat.mod_lt _ (by decide)
    refine go_of ?_
    refine set_nm (fun v H' => H4 = H' ∧ v = .int ((wh wy i : Nat) : Int)) (fun R' hR => ?_) (fun v H' z => ?_)
    · exact ⟨_, rfl, _, rfl, _, _, rfl, rfl, (show (0 : Int) < 2 by decide), _, _, rfl, rfl, _, _, rfl, rfl, .inl ⟨by omega, by omega⟩, _, rfl, _, _, rfl, rfl, ⟨by decide, by decide⟩, _, _, rfl, rfl, _, _, rfl, rfl, (show (0 : Int) < 3 by decide), hR _ _ ⟨rfl, congrArg V.int ew⟩⟩
    obtain ⟨rfl, rfl⟩ := z
    refine ⟨_, rfl, rfl, _, rfl, chg (nat_dec (b := 0)) ?_⟩
    have put : ∀ (H5 : Hp) (g0 g1 g2 : V), Same H4 H5 → (∀ j, j < i → (wh wy j = 0 → g0 = d0) ∧ (wh wy j = 1 → g1 = .bl ov) ∧ (wh wy j = 2 → IsCon n g cs H5 g2)) → (wh wy i = 0 → g0 = d0) → (wh wy i = 1 → g1 = .bl ov) → (wh wy i = 2 → IsCon n g cs H5 g2) →
        (Kept lf lf H3 (upd H5 lf (.lst [g0, g1, g2])) ∧ IsAu CA n au (upd H5 lf (.lst [g0, g1, g2])) x lb ∧ ∃ (f0 f1 f2 : V) (x8 x9 : Option V), (upd H5 lf (.lst [g0, g1, g2])) lf = some (.lst [f0, f1, f2]) ∧ (∀ j, j < i + 1 → (wh wy j = 0 → f0 = d0) ∧ (wh wy j = 1 → f1 = .bl ov) ∧ (wh wy j = 2 → IsCon n g cs (upd H5 lf (.lst [g0, g1, g2])) f2)) ∧
          [some (V.ref x), some (.ref lc), some (.int (n : Nat)), some (.int (g : Nat)), some (.int (wy : Nat)), some (.bl ov), some (.ref ld), some (.ref lf), some (.int (0 + ((i : Nat) : Int))), some (.int ((wh wy i : Nat) : Int))] = [some (V.ref x), some (.ref lc), some (.int (n : Nat)), some (.int (g : Nat)), some (.int (wy : Nat)), some (.bl ov), some (.ref ld), some (.ref lf), x8, x9]) := fun H5 g0 g1 g2 s5 h1 h2 h3 h4 => by
      have hf5 := s5 _ _ hf
      refine ⟨(K4.same s5).trans (Kept.putl _), (I4.same s5).putl hf5 nlb, g0, g1, g2, _, _, upd_same, fun j hj => ?_, rfl⟩
      have tk := TupK.putl (zs := [g0, g1, g2]) hf5
      by_cases e : j < i
      · exact ⟨(h1 j e).1, (h1 j e).2.1, fun z => ((h1 j e).2.2 z).keep tk⟩
      · have e2 : j = i := by omega
        subst e2
        exact ⟨h2, h3, fun z => (h4 z).keep tk⟩
    by_cases w0 : wh wy i = 0
    · rw [decide_eq_true w0]
      refine iteT ⟨_, rfl, x, dx, _, rfl, hx4, A4.nm _ (by decide +kernel), x, lb, n, au, rfl, I4, n1, _, rfl, lf, _, 0, 0, rfl, rfl, hf, rfl, ?_⟩
      rw [hov, hd0]
      exact put H4 d0 f1 f2 (Same.refl _) (fun j hj => ⟨fun _ => rfl, (hfill j hj).2⟩) (fun _ => rfl) (fun z => by omega) (fun z => by omega)
    rw [decide_eq_false w0]
    refine iteF ⟨_, rfl, rfl, _, rfl, chg (nat_dec (b := 1)) ?_⟩
    by_cases w1 : wh wy i = 1
    · rw [decide_eq_true w1]
      refine iteT ⟨_, rfl, x, dx, _, rfl, hx4, A4.nm _ (by decide +kernel), x, lb, n, au, rfl, I4, n1, _, rfl, lf, _, 1, 1, rfl, rfl, hf, rfl, ?_⟩
      rw [hov]
      exact put H4 f0 (.bl ov) f2 (Same.refl _) (fun j hj => ⟨(hfill j hj).1, fun _ => rfl, (hfill j hj).2.2⟩) (fun z => absurd z w0) (fun _ => rfl) (fun z => by omega)
    rw [decide_eq_false w1]
    refine iteF ⟨_, rfl, x, dx, _, rfl, hx4, A4.nm _ (by decide +kernel), x, lb, n, au, rfl, I4, W, fun e => ?_, fun bs s0 r0 e p H5 s5 hp => ?_⟩
    · have hc : IsCon n g cs H4 .non := .inl ⟨R.con.1 e, rfl⟩
      refine ⟨_, rfl, lf, _, 2, 2, rfl, rfl, hf, rfl, ?_⟩
      exact put H4 f0 f1 .non (Same.refl _) (fun j hj => ⟨(hfill j hj).1, (hfill j hj).2.1, fun _ => hc⟩) (fun z => absurd z w0) (fun z => absurd z w1) (fun _ => hc)
    · have hc : IsCon n g cs H5 (.ref p) := con2 R e hp
      refine ⟨_, rfl, lf, _, 2, 2, rfl, rfl, s5 _ _ hf, rfl, ?_⟩
      exact put H5 f0 f1 (.ref p) s5 (fun j hj => ⟨(hfill j hj).1, (hfill j hj).2.1, fun _ => hc⟩) (fun z => absurd z w0) (fun z => absurd z w1) (fun _ => hc)
  · obtain ⟨K4, I4, f0, f1, f2, x8, x9, hf, hfill, rfl⟩ := z
    obtain ⟨j0, j01, j02⟩ := wh_all wy hw 0 (by decide)
    obtain ⟨j1, j11, j12⟩ := wh_all wy hw 1 (by decide)
    obtain ⟨j2, j21, j22⟩ := wh_all wy hw 2 (by decide)
    have e0 := (hfill j0 j01).1 j02
    have e1 := (hfill j1 j11).2.1 j12
    have e2 := (hfill j2 j21).2.2 j22
    subst e0
    subst e1
    have hld4 : H4 ld = some (.lst [f0, .bl ov, dv]) := K4 _ _ (Ne.symm nlf) (Ne.symm nlf) hld3
    have hdv4 : IsCon n g cs H4 dv := hdv3.keep (K4.tup hlf3)
    have S4 : Same H H4 := fun b o h => K4 b o (fun z => by rw [z, hlf0] at h; cases h) (fun z => by rw [z, hlf0] at h; cases h) (s23 _ _ h)
    have f0f : flatV f0 = true := by rw [← hd0]; split <;> rfl
    refine ⟨_, rfl, _, rfl, lf, ld, rfl, rfl, .lst (SqL.of hf) (SqL.of hld4) rfl (fun j hj => ?_), _, rfl, iteT ?_⟩
    · match j, hj with
      | 0, _ => exact .flat f0f
      | 1, _ => exact .flat rfl
      | 2, _ => exact pair_deep (con_pair e2 hdv4)
    · exact ⟨_, rfl, lf, _, _, _, rfl, rfl, SqL.of hf, rfl, _, _, _, true, rfl, .bl _, rfl, q H4 S4⟩
end
end My

namespace My
open PySem L2
abbrev sOthers : Stmt := top 40
abbrev sAnswer : Stmt := top 41
section
variable {P : Program} {w : World} {K : PySem.W.Frag} {mg : Str → Option Value} {base : Heap} {f g : Addr} {fd gd : FuncData}
theorem pe_fldXK {X : Cx} {K : PySem.W.Frag} {e : Expr} {f : Str} {pos : Pos} {ta : TE} (hK : X.K = K) (he : PE X e ta) (hb : attributeBase e f X.env (eval e X.env) = eval e X.env) : PE X (.Attribute e f pos) (tFldX K ta f) := hK ▸ pe_fldX he hb
/-! ### the refusals' classes -/
structure GlX (mg : Str → Option Value) (CT CN CW c1 c2 c3 c4 c5 c6 c7 c8 c9 e1 e2 e3 e4 e5 : Addr) : Prop where
  mT : mg "TrickError" = some (.ref CT)
  mN : mg "NoCall" = some (.ref CN)
  mW : mg "NotNow" = some (.ref CW)
  m1 : mg "BadPlay" = some (.ref c1)
  m2 : mg "NoCard" = some (.ref c2)
  m3 : mg "NoDeal" = some (.ref c3)
  m4 : mg "NoHand" = some (.ref c4)
  m5 : mg "NoPlay" = some (.ref c5)
  m6 : mg "NoRow" = some (.ref c6)
  m7 : mg "NoShare" = some (.ref c7)
  m8 : mg "NoSheet" = some (.ref c8)
  m9 : mg "NoTable" = some (.ref c9)
  n1 : mg "NoRecord" = some (.ref e1)
  n2 : mg "NotYet" = some (.ref e2)
  n3 : mg "NoView" = some (.ref e3)
  n4 : mg "TooMany" = some (.ref e4)
  n5 : mg "TooMuch" = some (.ref e5)
structure ExK (K : PySem.W.Frag) (C CT CN CW c1 c2 c3 c4 c5 c6 c7 c8 c9 e1 e2 e3 e4 e5 : Addr) : Prop where
  ex : ExcF K C
  iT : PySem.W.kitOne K (.ref C) (.ref CT) = some true
  iV : PySem.W.kitOne K (.ref C) (.type "ValueError") = some true
  i1 : PySem.W.kitAny K (.ref C) [.ref c1, .ref c2, .ref c3, .ref c4, .ref c5, .ref c6, .ref c7, .ref c8, .ref c9] = some false
  i2 : PySem.W.kitAny K (.ref C) [.ref e1, .ref e2, .ref e3, .ref e4, .ref e5] = some false
  i3 : ∃ a b, PySem.W.kitOne K (.ref C) (.ref CN) = some a ∧ PySem.W.kitOne K (.ref C) (.ref CW) = some b ∧ (a && b) = false
structure LibH (P : Program) (w : World) (K : PySem.W.Frag) (mg : Str → Option Value) (base : Heap) (k : Nat) (x : Str) (ps : List Str) (sp : Sp) (f : Addr) (fd : FuncData) : Prop where
  ok : FnOkH P w K mg base k f fd ps sp
  bd : Binds K fd ps []
  kp : PySem.W.keepIn K (.ref f) = true
  mg : mg x = some (.ref f)
section
variable {CT CN CW c1 c2 c3 c4 c5 c6 c7 c8 c9 e1 e2 e3 e4 e5 : Addr}
def spOthers (K : PySem.W.Frag) (CT CN CW c1 c2 c3 c4 c5 c6 c7 c8 c9 e1 e2 e3 e4 e5 : Addr) : Sp := fun vs H Q _ => ∃ (ea C : Addr) (od : Option Addr), vs = [.ref ea] ∧ H ea = some (excD ea C od) ∧ ExK K C CT CN CW c1 c2 c3 c4 c5 c6 c7 c8 c9 e1 e2 e3 e4 e5 ∧ ∀ H', Same H H' → Q (.bl false) H'
theorem scOthers : FnScope ["_law_e"] ["_law_e"] (defScope sOthers) := ⟨rfl, rfl, rfl, by decide +kernel, rfl, by decide +kernel, by decide +kernel⟩
theorem ok_others {k : Nat} (F : Fun K "_law_others" "_law_others" sOthers f fd) (C : GlX mg CT CN CW c1 c2 c3 c4 c5 c6 c7 c8 c9 e1 e2 e3 e4 e5) (mi : mg "isinstance" = none) :
    FnOkH P w K mg base (k + 1) f fd ["_law_e"] (spOthers K CT CN CW c1 c2 c3 c4 c5 c6 c7 c8 c9 e1 e2 e3 e4 e5) := by
  refine F.okH scOthers (fun vs H Q E h => ?_) (fun cdv A outer s H vs Q E h => ?_)
  · obtain ⟨ea, D, od, rfl, _⟩ := h
    rfl
  obtain ⟨ea, D, od, rfl, he, X, q⟩ := h
  refine ⟨_, pss_cons (ps_if (pt_truth (pe_callB (show CallR _ _ (rIsXTD K) from call_isXTD) rfl mi PyProof.Rows.boot_isinstance (pa_cons (pv 0) (pa_cons (pe_tup (pa_cons (pe_glob (v := .ref c1) rfl C.m1 rfl) (pa_cons (pe_glob (v := .ref c2) rfl C.m2 rfl) (pa_cons (pe_glob (v := .ref c3) rfl C.m3 rfl) (pa_cons (pe_glob (v := .ref c4) rfl C.m4 rfl) (pa_cons (pe_glob (v := .ref c5) rfl C.m5 rfl)
        (pa_cons (pe_glob (v := .ref c6) rfl C.m6 rfl) (pa_cons (pe_glob (v := .ref c7) rfl C.m7 rfl) (pa_cons (pe_glob (v := .ref c8) rfl C.m8 rfl) (pa_cons (pe_glob (v := .ref c9) rfl C.m9 rfl) pa_nil)))))))))) pa_nil))) (fun _ => rfl)) (pss_one (ps_ret pe_bl)) pss_nil)
    (pss_cons (ps_if (PW.pt (pw_and (pt_truth (pe_callB (show CallR _ _ (rIsXD K) from call_isXD) rfl mi PyProof.Rows.boot_isinstance (pa_cons (pv 0) (pa_cons (pe_glob (v := .ref CN) rfl C.mN rfl) pa_nil))) (fun _ => rfl)) (pw_and1 (pt_truth (pe_callB (show CallR _ _ (rIsXD K) from call_isXD) rfl mi PyProof.Rows.boot_isinstance (pa_cons (pv 0) (pa_cons (pe_glob (v := .ref CW) rfl C.mW rfl) pa_nil))) (fun _ => rfl))))) (pss_one (ps_ret pe_bl)) pss_nil)
    (pss_one (ps_ret (pe_callB (show CallR _ _ (rIsXTD K) from call_isXTD) rfl mi PyProof.Rows.boot_isinstance (pa_cons (pv 0) (pa_cons (pe_tup (pa_cons (pe_glob (v := .ref e1) rfl C.n1 rfl) (pa_cons (pe_glob (v := .ref e2) rfl C.n2 rfl) (pa_cons (pe_glob (v := .ref e3) rfl C.n3 rfl) (pa_cons (pe_glob (v := .ref e4) rfl C.n4 rfl) (pa_cons (pe_glob (v := .ref e5) rfl C.n5 rfl) pa_nil)))))) pa_nil)))))), ?_⟩
  refine ⟨_, rfl, fits3 9 (by decide), fun p1 hp1 => ?_⟩
  have s1 := same_upd hp1 (.tup [.ref c1, .ref c2, .ref c3, .ref c4, .ref c5, .ref c6, .ref c7, .ref c8, .ref c9])
  have he1 := s1 _ _ he
  refine ⟨ea, D, od, p1, _, false, rfl, upd_same, rfl, he1, X.ex, X.i1, false, rfl, iteF ?_⟩
  obtain ⟨a, b, ha, hb, hab⟩ := X.i3
  have fin : (tRet (tCB (rIsXTD K) (tCons (tVar 0) (tCons (tTup (tCons (tC (.ref e1)) (tCons (tC (.ref e2)) (tCons (tC (.ref e3)) (tCons (tC (.ref e4)) (tCons (tC (.ref e5)) tNil)))))) tNil))) : TS) { nx := fun _ H' => Q .non H', rt := Q } [some (.ref ea)] (upd H p1 (.tup [.ref c1, .ref c2, .ref c3, .ref c4, .ref c5, .ref c6, .ref c7, .ref c8, .ref c9])) := by
    refine ⟨_, rfl, fits3 5 (by decide), fun p2 hp2 => ?_⟩
    have s2 := same_upd hp2 (.tup [.ref e1, .ref e2, .ref e3, .ref e4, .ref e5])
    exact ⟨ea, D, od, p2, _, false, rfl, upd_same, rfl, s2 _ _ he1, X.ex, X.i2, q _ (s1.trans s2)⟩
  refine ⟨_, rfl, ea, D, od, _, a, rfl, rfl, he1, X.ex, ha, a, rfl, ?_⟩
  cases a with
  | false => exact iteF (iteF fin)
  | true =>
    refine iteT ⟨_, rfl, ea, D, od, _, b, rfl, rfl, he1, X.ex, hb, b, rfl, ?_⟩
    cases b with
    | false => exact iteF fin
    | true => cases hab
/-! ### the answer -/
def spAnswer (CA : Addr) : Sp := fun vs H Q _ => ∃ (x lb : Addr) (n : Nat) (a : Au) (t : Str), vs = [.ref x, .str t] ∧ t.length ≤ 1000 ∧ IsAu CA n a H x lb ∧ WfA n a ∧
  (t ∉ all43 → ∀ l H', Same H H' → H l = none → H' l = some (.lst (rL (some "none"))) → Q (.ref l) H') ∧
  (∀ c < 43, t = cT c → ∀ r, brkA n a c = some r → ∀ l H', Same H H' → H l = none → H' l = some (.lst (rL (some r))) → Q (.ref l) H') ∧
  (∀ c < 43, t = cT c → brkA n a c = none → ∀ l H', Kept x lb H H' → H l = none → IsAu CA n (stepA n a c) H' x lb → H' l = some (.lst (rL none)) → Q (.ref l) H')
abbrev nAnswer : List Str := ["_law_auction", "_law_text_here", "_law_heard", "_law_e"]
theorem scAnswer : FnScope nAnswer ["_law_auction", "_law_text_here"] (defScope sAnswer) := ⟨rfl, rfl, rfl, by decide +kernel, rfl, by decide +kernel, by decide +kernel⟩
theorem ok_answer {k : Nat} {CA fN mS fO : Addr} {eS dO : FuncData} (F : Fun K "_law_answer" "_law_answer" sAnswer f fd) (C : AuC K mg CA) (X : XC K mg CW fN) (G : GlX mg CT CN CW c1 c2 c3 c4 c5 c6 c7 c8 c9 e1 e2 e3 e4 e5) (XN : ExK K CN CT CN CW c1 c2 c3 c4 c5 c6 c7 c8 c9 e1 e2 e3 e4 e5) (XW : ExK K CW CT CN CW c1 c2 c3 c4 c5 c6 c7 c8 c9 e1 e2 e3 e4 e5)
    (t1 : PySem.W.exmOne K (.ref CW) (.ref CW) = some true) (t2 : PySem.W.exmOne K (.ref CN) (.ref CW) = some false) (t3 : PySem.W.exmOne K (.ref CN) (.ref CN) = some true)
    (MS : Meth K CA "say" mS) (FS : FnOk P w K mg base (CX1 P w) k mS eS ["self", "text"] (spSayX CA CN CW)) (BS : Binds K eS ["self", "text"] []) (LO : LibH P w K mg base k "_law_others" ["_law_e"] (spOthers K CT CN CW c1 c2 c3 c4 c5 c6 c7 c8 c9 e1 e2 e3 e4 e5) fO dO) (mi : mg "isinstance" = none) (mV : mg "ValueError" = none) :
    FnOk P w K mg base CX0 (k + 1) f fd ["_law_auction", "_law_text_here"] (spAnswer CA) := by
  refine F.ok scAnswer (fun vs H Q E h => ?_) (fun cdv A outer s H vs Q E hr h => ?_)
  · obtain ⟨x, lb, n, a, t, rfl, _⟩ := h
    rfl
  obtain ⟨x, lb, n, a, t, rfl, ht, I, W, q1, q2, q3⟩ := h
  refine ⟨_, pss_cons (ps_set (i := 2) scAnswer.nd rfl (Or.inl rfl) (pe_lst pa_nil))
    (pss_cons (ps_try2 (i := 3) rfl rfl rfl scAnswer.nd rfl rfl (psx_expr (pex_bm1 PySem.F.plainAttrs_list PySem.F.slot_list_append PySem.F.type_list_append mt_append (pv 2) (pex_meth (pv 0) C.cl MS FS hr BS .nil (pa_cons (pv 1) pa_nil)))) rfl G.mW rfl G.mN
      (fun e => pss_one (ps_set (i := 2) scAnswer.nd rfl (Or.inl rfl) (pe_lst (pa_cons (pe_fldXK (K := K) rfl (pv 3) rfl) (pa_cons (pe_callB (show CallR _ _ (rIsXD K) from call_isXD) rfl mi PyProof.Rows.boot_isinstance (pa_cons (pv 3) (pa_cons (pe_glob (v := .ref CT) rfl G.mT rfl) pa_nil))) (pa_cons (pe_callB (show CallR _ _ (rIsXD K) from call_isXD) rfl mi PyProof.Rows.boot_isinstance (pa_cons (pv 3) (pa_cons (pe_bltn (v := .ty "ValueError") rfl mV PyProof.Rows.Boot.«ValueError» rfl) pa_nil))) (pa_cons (pe_callH LO.ok hr.h rfl LO.mg LO.kp LO.bd (pa_cons (pv 3) pa_nil)) pa_nil)))))))
      (fun e => pss_one (ps_set (i := 2) scAnswer.nd rfl (Or.inl rfl) (pe_lst (pa_cons pe_str (pa_cons (pe_callB (show CallR _ _ (rIsXD K) from call_isXD) rfl mi PyProof.Rows.boot_isinstance (pa_cons (pv 3) (pa_cons (pe_glob (v := .ref CT) rfl G.mT rfl) pa_nil))) (pa_cons (pe_callB (show CallR _ _ (rIsXD K) from call_isXD) rfl mi PyProof.Rows.boot_isinstance (pa_cons (pv 3) (pa_cons (pe_bltn (v := .ty "ValueError") rfl mV PyProof.Rows.Boot.«ValueError» rfl) pa_nil))) (pa_cons (pe_callH LO.ok hr.h rfl LO.mg LO.kp LO.bd (pa_cons (pv 3) pa_nil)) pa_nil))))))))
    (pss_one (ps_ret (pv 2)))), ?_⟩
  refine ⟨fits3 0 (by decide), fun l0 hl0 => nm_of ?_⟩
  have s0 := same_upd hl0 (.lst [])
  have I0 := I.same s0
  obtain ⟨dx, fs, hx, A0, B0⟩ := id I0
  have fr : ∀ {H' : Hp} {l : Addr}, Same H H' → H' l = none → H l = none := fun {H' l} s' h => by
    cases e : H l with
    | none => rfl
    | some o => rw [s' _ _ e] at h; cases h
  refine ⟨_, rfl, .inl ⟨rfl, _, SqL.of upd_same⟩, _, rfl, x, dx, _, rfl, hx, A0.nm _ (by decide +kernel), _, rfl, x, lb, n, a, t, rfl, ht, I0, W, fun hno => ?_, fun c hc e r hb d H1 s1 hd => ?_, fun c hc e hb H1 k1 I1 => ?_⟩
  · refine ⟨CN, rfl, .inr ⟨t2, t3, fun ea hea => ?_⟩⟩
    have s1 := same_upd hea (excD ea CN none)
    refine ⟨_, rfl, ea, CN, none, _, true, rfl, rfl, upd_same, XN.ex, XN.iT, _, rfl, ea, CN, none, _, true, rfl, rfl, upd_same, XN.ex, XN.iV, _, rfl, ea, CN, none, rfl, upd_same, XN, fun H2 s2 => ⟨fits3 4 (by decide), fun p hp => ?_⟩⟩
    have s := s0.trans (s1.trans s2)
    exact ⟨_, rfl, q1 hno p _ (s.trans (same_upd hp _)) (fr s hp) upd_same⟩
  · refine ⟨CW, rfl, .inl ⟨t1, fun ea hea => ?_⟩⟩
    have s2 := same_upd hea (excD ea CW (some d))
    refine ⟨_, rfl, ea, CW, d, _, .str r, rfl, upd_same, s2 _ _ hd, XW.ex, X.es, X.nr, rfl, _, rfl, ea, CW, some d, _, true, rfl, rfl, upd_same, XW.ex, XW.iT, _, rfl, ea, CW, some d, _, true, rfl, rfl, upd_same, XW.ex, XW.iV, _, rfl, ea, CW, some d, rfl, upd_same, XW, fun H2 s3 => ⟨fits3 4 (by decide), fun p hp => ?_⟩⟩
    have s := s0.trans (s1.trans (s2.trans s3))
    exact ⟨_, rfl, q2 c hc e r hb p _ (s.trans (same_upd hp _)) (fr s hp) upd_same⟩
  · have nl : lb ≠ l0 := fun z => by
      obtain ⟨dx, fs, _, _, vs, b1, _⟩ := I
      rw [z, hl0] at b1
      cases b1
    have nx : x ≠ l0 := fun z => by
      obtain ⟨dx, fs, b1, _⟩ := I
      rw [z, hl0] at b1
      cases b1
    have h1 : H1 l0 = some (.lst []) := k1 _ _ (Ne.symm nx) (Ne.symm nl) upd_same
    refine ⟨l0, [], _, rfl, rfl, h1, fits3 1 (by decide), ?_⟩
    exact ⟨_, rfl, q3 c hc e hb l0 _ (((Kept.of s0).trans k1).upd hl0) hl0 (I1.putl h1 nl) upd_same⟩
end
end
end My

namespace L2
open PySem PySem.Spec PyProof.Rows
theorem call_int_b {X : Cx} : CallR X (.type "int") (fun xs H Q => ∃ b, xs = [.bl b] ∧ Q (.int (if b then 1 else 0)) H) := by
  intro pins s σ H xs us Q I r h
  obtain ⟨b, rfl, q⟩ := h
  obtain ⟨u, rfl, ru⟩ := vals1 r
  cases ru
  exact call_int_bool ⟨.int _, H, I.tok _, ⟨_, rfl⟩, q⟩
/-- a comprehension over range(n), the row so far known through and through -/
theorem comp_pre {te : TE} {σ0 : St} {H1 : Hp} {Q : V → Hp → Prop} {lo : Int} {n : Nat} (Pv : Addr → List V → Hp → Prop) (hn : n ≤ sizeLine) (h0 : ∀ l, H1 l = none → Pv l [] (upd H1 l (.lst [])))
    (hE : ∀ i H l vs, i < n → vs.length = i → Same H1 H → H1 l = none → H l = some (.lst vs) → Pv l vs H → ∀ R : V → Hp → Prop, (∀ v H', Same H H' → Pv l (vs ++ [v]) (upd H' l (.lst (vs ++ [v]))) → R v H') → te (σ0.set 0 (some (.int (lo + (i : Nat))))) H R)
    (hQ : ∀ l H vs, Same H1 H → H1 l = none → H l = some (.lst vs) → vs.length = n → Pv l vs H → Q (.ref l) H) : tCompR (gName 0) tYes te σ0 (Itr lo n) H1 Q := by
  intro l hl
  refine ⟨fun i m σ H => m = n - i ∧ i ≤ n ∧ Same H1 H ∧ (∃ vs, H l = some (.lst vs) ∧ vs.length = i ∧ Pv l vs H) ∧ ∀ o, σ.set 0 o = σ0.set 0 o, ⟨n, by simp, Nat.zero_le _, same_upd hl _, ⟨[], upd_same, rfl, h0 l hl⟩, fun _ => rfl⟩, ?_⟩
  rintro i m σ H ⟨rfl, hi, sm, ⟨vs, hL, hvl, hvs⟩, hσ⟩
  by_cases lt : i < n
  · refine .inr ⟨lt, fun x H' y => ?_⟩
    obtain ⟨rfl, rfl⟩ := y
    unfold gName tYes
    dsimp only
    rw [hσ, if_pos rfl]
    refine hE i H' l vs lt hvl sm hl hL hvs _ fun v H3 s3 hv => ⟨vs, s3 _ _ hL, by omega, n - (i + 1), by omega, rfl, lt, same_upd2 hl (sm.trans s3) _, ⟨vs ++ [v], upd_same, by rw [List.length_append, hvl]; rfl, hv⟩, fun o => List.set_set _⟩
  · have e : i = n := by omega
    subst e
    exact .inl ⟨Nat.le_refl _, hQ l H vs sm hl hL hvl hvs⟩
theorem eqVs_refl : ∀ {xs : List V}, xs.all flatV = true → eqVs xs xs = true
  | [], _ => rfl
  | x :: xs, h => by
    rw [List.all_cons, Bool.and_eq_true] at h
    show (eqV x x && eqVs xs xs) = true
    rw [eqV_refl h.1, eqVs_refl h.2]
    rfl
end L2

namespace My
open PySem L2
abbrev sLaw : Stmt := top 43
section
variable {P : Program} {w : World} {K : PySem.W.Frag} {mg : Str → Option Value} {base : Heap} {f g : Addr} {fd gd : FuncData}
/-! ### the law -/
def spLaw (K : PySem.W.Frag) : Sp := fun vs H Q _ => ∃ (a : Addr) (ns : List Int), vs = [.ref a] ∧ SqL K H a (ns.map V.int) ∧ ns.length ≤ 63 ∧ ∀ H', Q (.bl true) H'
abbrev nLaw : List Str := ["_law_script", "_law_seats", "_law_firsts", "_law_both", "_law_calls", "_law_k", "_law_cell_here", "_law_which", "_law_text_here", "_law_due_here", "_law_one"]
theorem scLaw : FnScope nLaw ["_law_script"] (defScope sLaw) := ⟨rfl, rfl, rfl, by decide +kernel, rfl, by decide +kernel, by decide +kernel⟩
theorem two {Pr : Nat → Prop} (h0 : Pr 0) (h1 : Pr 1) : ∀ i < 2, Pr i := fun i h => by
  rcases (by omega : i = 0 ∨ i = 1) with rfl | rfl
  · exact h0
  · exact h1
theorem ne2 {f : Nat → Addr} (h : f 0 ≠ f 1) {i j : Nat} (hi : i < 2) (hj : j < 2) (n : i ≠ j) : f i ≠ f j := by
  rcases (by omega : (i = 0 ∧ j = 1) ∨ (i = 1 ∧ j = 0)) with ⟨rfl, rfl⟩ | ⟨rfl, rfl⟩
  · exact h
  · exact Ne.symm h
theorem at2 {f : Nat → V} {i : Nat} (h : i < 2) : atI [f 0, f 1] ((i : Nat) : Int) = some (f i) := by
  rcases (by omega : i = 0 ∨ i = 1) with rfl | rfl <;> rfl
theorem at2z {f : Nat → V} {i : Nat} (h : i < 2) : atI [f 0, f 1] (0 + ((i : Nat) : Int)) = some (f i) := by
  rw [Int.zero_add]
  exact at2 h
theorem cT_inj : ∀ c < 43, ∀ d < 43, cT c = cT d → c = d := by decide +kernel
theorem rL_flat (r : Option Str) : (rL r).all flatV = true := by cases r <;> rfl
theorem IsAu.keep {CA : Addr} {n n' : Nat} {a a' : Au} {H H' : Hp} {x lb x' lb' : Addr} (h : IsAu CA n a H x lb) (h' : IsAu CA n' a' H x' lb') (k : Kept x' lb' H H') (n1 : x ≠ x') (n2 : lb ≠ lb') : IsAu CA n a H' x lb := by
  obtain ⟨dx, fs, h1, h2, vs, b1, b2, b3⟩ := h
  obtain ⟨dx', fs', g1, g2, vs', c1, _, _⟩ := h'
  refine ⟨dx, fs, k _ _ n1 (fun z => by rw [z, c1] at h1; cases h1) h1, h2, vs, k _ _ (fun z => by rw [z, g1] at b1; cases b1) n2 b1, b2, fun i v s r e1 e2 => ?_⟩
  obtain ⟨p, q, e, y1, y2⟩ := b3 i v s r e1 e2
  exact ⟨p, q, e, k _ _ (fun z => by rw [z, g1] at y1; cases y1) (fun z => by rw [z, c1] at y1; cases y1) y1, k _ _ (fun z => by rw [z, g1] at y2; cases y2) (fun z => by rw [z, c1] at y2; cases y2) y2⟩
/-- what lies apart -/
structure Dst (H0 : Hp) (x lb lc : Nat → Addr) (lS lF lB lC : Addr) : Prop where
  xx : x 0 ≠ x 1
  bb : lb 0 ≠ lb 1
  cc : lc 0 ≠ lc 1
  bc : ∀ i < 2, ∀ j < 2, lb i ≠ lc j
  sb : ∀ i < 2, lS ≠ lb i ∧ lF ≠ lb i ∧ lB ≠ lb i ∧ lC ≠ lb i
  sc : ∀ i < 2, lS ≠ lc i ∧ lF ≠ lc i ∧ lB ≠ lc i ∧ lC ≠ lc i
  fr : ∀ i < 2, H0 (x i) = none ∧ H0 (lb i) = none ∧ H0 (lc i) = none
/-- both callings, after m calls -/
structure Two (CA : Addr) (H0 : Hp) (nn gg : Nat → Nat) (x lb lc : Nat → Addr) (lS lF lB lC : Addr) (m : Nat) (cs : Nat → List Nat) (au : Nat → Au) (H : Hp) : Prop where
  sm : Same H0 H
  S : H lS = some (.lst [.int (nn 0 : Nat), .int (nn 1 : Nat)])
  F : H lF = some (.lst [.int (gg 0 : Nat), .int (gg 1 : Nat)])
  B : H lB = some (.lst [.ref (x 0), .ref (x 1)])
  C : H lC = some (.lst [.ref (lc 0), .ref (lc 1)])
  iau : ∀ i < 2, IsAu CA (nn i) (au i) H (x i) (lb i)
  ls : ∀ i < 2, H (lc i) = some (.lst (vC (cs i)))
  rl : ∀ i < 2, RelB (nn i) (gg i) (cs i) (au i)
  wf : ∀ i < 2, WfB (nn i) (au i) m
  ln : ∀ i < 2, (cs i).length ≤ m
section
variable {CA : Addr} {H0 : Hp} {nn gg : Nat → Nat} {x lb lc : Nat → Addr} {lS lF lB lC : Addr} {m : Nat} {cs : Nat → List Nat} {au : Nat → Au} {H H1 H2 : Hp}
theorem Two.same (T : Two CA H0 nn gg x lb lc lS lF lB lC m cs au H) (s : Same H H1) : Two CA H0 nn gg x lb lc lS lF lB lC m cs au H1 :=
  ⟨T.sm.trans s, s _ _ T.S, s _ _ T.F, s _ _ T.B, s _ _ T.C, fun i h => (T.iau i h).same s, fun i h => s _ _ (T.ls i h), T.rl, T.wf, T.ln⟩
theorem Two.more (T : Two CA H0 nn gg x lb lc lS lF lB lC m cs au H) : Two CA H0 nn gg x lb lc lS lF lB lC (m + 1) cs au H :=
  ⟨T.sm, T.S, T.F, T.B, T.C, T.iau, T.ls, T.rl, fun i h => ⟨(T.wf i h).n34, (T.wf i h).ca, (T.wf i h).bd, Nat.le_succ_of_le (T.wf i h).ln⟩, fun i h => Nat.le_succ_of_le (T.ln i h)⟩
theorem Two.tell {j c : Nat} (T : Two CA H0 nn gg x lb lc lS lF lB lC m cs au H) (D : Dst H0 x lb lc lS lF lB lC) (hj : j < 2) (hc : c < 43) (k : Kept (x j) (lb j) H H1) (I : IsAu CA (nn j) (stepA (nn j) (au j) c) H1 (x j) (lb j)) (st : standsC (nn j) (cs j) c = true) (s : Same H1 H2) :
    H2 (lc j) = some (.lst (vC (cs j))) ∧ H2 lC = some (.lst [.ref (lc 0), .ref (lc 1)]) ∧ Two CA H0 nn gg x lb lc lS lF lB lC (m + 1) (fun i => if i = j then cs j ++ [c] else cs i) (fun i => if i = j then stepA (nn j) (au j) c else au i) (upd H2 (lc j) (.lst (vC (cs j ++ [c])))) := by
  have kp : ∀ {b o}, b ≠ x j → b ≠ lb j → H b = some o → H2 b = some o := fun h1 h2 h => s _ _ (k _ _ h1 h2 h)
  obtain ⟨dx, fs, hx, _, vs, hb, _, _⟩ := T.iau j hj
  have lk : ∀ {b xs}, H b = some (.lst xs) → b ≠ lb j → H2 b = some (.lst xs) := fun h n => kp (fun z => by rw [z, hx] at h; cases h) n h
  have hL := lk (T.ls j hj) (Ne.symm (D.bc j hj j hj))
  obtain ⟨f1, f2, f3⟩ := D.fr j hj
  obtain ⟨a1, a2, a3, a4⟩ := D.sb j hj
  obtain ⟨b1, b2, b3, b4⟩ := D.sc j hj
  refine ⟨hL, lk T.C a4, ⟨fun b o h => ?_, by rw [upd_ne b1]; exact lk T.S a1, by rw [upd_ne b2]; exact lk T.F a2, by rw [upd_ne b3]; exact lk T.B a3, by rw [upd_ne b4]; exact lk T.C a4, fun i hi => ?_, fun i hi => ?_, fun i hi => ?_, fun i hi => ?_, fun i hi => ?_⟩⟩
  · rw [upd_ne (fun z => by rw [z, f3] at h; cases h)]
    exact kp (fun z => by rw [z, f1] at h; cases h) (fun z => by rw [z, f2] at h; cases h) (T.sm _ _ h)
  · by_cases e : i = j
    · subst e
      rw [if_pos rfl]
      exact (I.same s).putl hL (D.bc i hi i hi)
    · rw [if_neg e]
      exact (((T.iau i hi).keep (T.iau j hj) k (ne2 D.xx hi hj e) (ne2 D.bb hi hj e)).same s).putl hL (D.bc i hi j hj)
  · by_cases e : i = j
    · subst e
      rw [if_pos rfl]
      exact upd_same
    · rw [if_neg e, upd_ne (ne2 D.cc hi hj e)]
      exact lk (T.ls i hi) (Ne.symm (D.bc j hj i hi))
  · by_cases e : i = j
    · subst e
      rw [if_pos rfl, if_pos rfl]
      exact (T.rl i hi).step hc st
    · rw [if_neg e, if_neg e]
      exact T.rl i hi
  · by_cases e : i = j
    · subst e
      rw [if_pos rfl]
      exact (T.wf i hi).step
    · rw [if_neg e]
      exact T.more.wf i hi
  · by_cases e : i = j
    · subst e
      rw [if_pos rfl, List.length_append]
      exact Nat.succ_le_succ (T.ln i hi)
    · rw [if_neg e]
      exact T.more.ln i hi
end
def AuN (CA : Addr) (H2 : Hp) (n g : Nat) (l : Addr) (H : Hp) (x lb : Addr) : Prop := IsAu CA n ⟨g, 0, 1, []⟩ H x lb ∧ H2 x = none ∧ H2 lb = none ∧ lb ≠ l
def PvA (CA : Addr) (H2 : Hp) (nn gg : Nat → Nat) (l : Addr) : List V → Hp → Prop
  | [], _ => True
  | [v], H => ∃ x lb, v = .ref x ∧ AuN CA H2 (nn 0) (gg 0) l H x lb
  | [v, v'], H => ∃ x lb x' lb', v = .ref x ∧ v' = .ref x' ∧ AuN CA H2 (nn 0) (gg 0) l H x lb ∧ AuN CA H2 (nn 1) (gg 1) l H x' lb' ∧ x ≠ x' ∧ lb ≠ lb'
  | _, _ => False
theorem ok_law {k : Nat} {CA f1 f2 f3 f4 f5 fI : Addr} {d1 d2 d3 d4 d5 dI : FuncData} (F : Fun K "law" "law" sLaw f fd) (C : AuC K mg CA) (LC : Lib P w K mg base (k + 1) "_law_cell" pCell (spCell K) f1 d1) (LD : Lib P w K mg base (k + 1) "_law_drawn" ["_law_cell_here", "_law_calls"] (spDrawn K) f2 d2)
    (LU : Lib P w K mg base (k + 1) "_law_due" ["_law_calls", "_law_seats", "_law_text_here"] (spDue K) f3 d3) (LA : Lib P w K mg base (k + 1) "_law_answer" ["_law_auction", "_law_text_here"] (spAnswer CA) f4 d4) (LQ : Lib P w K mg base (k + 1) "_law_asked" pAsked (spAsked CA) f5 d5)
    (MkA : Mk K CA fI) (FI : FnOk P w K mg base CX0 k fI dI ["self", "seats", "first"] (spAuInit CA)) (B0 : Binds K dI ["self", "seats", "first"] []) (mr : mg "range" = none) (mI : mg "int" = none) : FnOk P w K mg base CX0 (k + 2) f fd ["_law_script"] (spLaw K) := by
  refine F.ok scLaw (fun vs H Q E h => ?_) (fun cdv A outer s H vs Q E hr h => ?_)
  · obtain ⟨a, ns, rfl, _⟩ := h
    rfl
  obtain ⟨a, ns, rfl, hS, h63, q⟩ := h
  refine ⟨_, pss_cons (ps_set (i := 1) scLaw.nd rfl (Or.inr rfl) (pe_comp ["_law_k", "_law_script"] [none, some 0] rfl (Blk.by (sc := defScope sLaw) (N0 := nLaw) rfl rfl (by decide +kernel)) (pi_range1 rfl mr (pa_cons pe_int pa_nil)) (fun B s₀ H₀ ex => pg_name (i := 0) (show (["_law_k", "_law_script"] : List Str).Nodup by decide +kernel) rfl (Or.inl rfl)) (fun B s₀ H₀ ex => pf_nil)
      (fun B s₀ H₀ ex => pe_op op_add pe_int (pe_op op_mod (pe_call LC.ok hr rfl LC.mg LC.kp LC.bd .nil pass0 (pa_cons (pv 1) (pa_cons (pv 0) pa_nil))) pe_int))))
    (pss_cons (ps_set (i := 2) scLaw.nd rfl (Or.inr rfl) (pe_comp ["_law_k", "_law_script", "_law_seats"] [none, some 0, some 1] rfl (Blk.by (sc := defScope sLaw) (N0 := nLaw) rfl rfl (by decide +kernel)) (pi_range1 rfl mr (pa_cons pe_int pa_nil)) (fun B s₀ H₀ ex => pg_name (i := 0) (show (["_law_k", "_law_script", "_law_seats"] : List Str).Nodup by decide +kernel) rfl (Or.inl rfl)) (fun B s₀ H₀ ex => pf_nil)
      (fun B s₀ H₀ ex => pe_op op_mod (pe_op op_fdiv (pe_call LC.ok hr rfl LC.mg LC.kp LC.bd .nil pass0 (pa_cons (pv 1) (pa_cons (pv 0) pa_nil))) pe_int) (pe_ix (show IxR _ (rIxL K) from ix_list) (pv 2) (pv 0) (fun _ _ => rfl)))))
    (pss_cons (ps_setcomp (i := 3) ["_law_k", "_law_seats", "_law_firsts"] [none, some 1, some 2] rfl scLaw.nd rfl (Or.inl rfl) (Blk.by (sc := defScope sLaw) (N0 := nLaw) rfl rfl (by decide +kernel)) (pi_range1 rfl mr (pa_cons pe_int pa_nil)) (fun B s₀ H₀ ex => pg_name (i := 0) (show (["_law_k", "_law_seats", "_law_firsts"] : List Str).Nodup by decide +kernel) rfl (Or.inl rfl)) (fun B s₀ H₀ ex => pf_nil)
      (fun B s₀ H₀ ex => pe_make MkA FI hr rfl C.mA B0 .nil pass0 (pa_cons (pe_ix (show IxR _ (rIxL K) from ix_list) (pv 1) (pv 0) (fun _ _ => rfl)) (pa_cons (pe_ix (show IxR _ (rIxL K) from ix_list) (pv 2) (pv 0) (fun _ _ => rfl)) pa_nil))))
    (pss_cons (ps_set (i := 4) scLaw.nd rfl (Or.inl rfl) (pe_lst (pa_cons (pe_lst pa_nil) (pa_cons (pe_lst pa_nil) pa_nil))))
    (pss_cons (ps_for PassesOwn.never rfl (pi_range2 rfl mr (pa_cons pe_int (pa_cons (pe_op op_add pe_int (pe_op op_mod (pe_call LC.ok hr rfl LC.mg LC.kp LC.bd .nil pass0 (pa_cons (pv 0) (pa_cons pe_int pa_nil))) pe_int)) pa_nil))) (pg_name (i := 5) scLaw.nd rfl (Or.inl rfl))
      (pss_cons (ps_set (i := 6) scLaw.nd rfl (Or.inl rfl) (pe_call LC.ok hr rfl LC.mg LC.kp LC.bd .nil pass0 (pa_cons (pv 0) (pa_cons (pv 5) pa_nil))))
      (pss_cons (ps_set (i := 7) scLaw.nd rfl (Or.inl rfl) (pe_callTy call_int_b rfl mI PyProof.Rows.boot_int (pa_cons (pe_cmpR op_gt (pe_op op_mod (pv 6) pe_int) pe_int (nomark _)) pa_nil)))
      (pss_cons (ps_set (i := 8) scLaw.nd rfl (Or.inl rfl) (pe_call LD.ok hr rfl LD.mg LD.kp LD.bd .nil pass0 (pa_cons (pe_op op_fdiv (pv 6) pe_int) (pa_cons (pe_ix ix_list (pv 4) (pv 7) (fun _ _ => rfl)) pa_nil))))
      (pss_cons (ps_set (i := 9) scLaw.nd rfl (Or.inl rfl) (pe_call LU.ok hr rfl LU.mg LU.kp LU.bd .nil pass0 (pa_cons (pe_ix ix_list (pv 4) (pv 7) (fun _ _ => rfl)) (pa_cons (pe_ix ix_list (pv 1) (pv 7) (fun _ _ => rfl)) (pa_cons (pv 8) pa_nil)))))
      (pss_cons (ps_if (pt_cmpR (op_neFL hr.units) (pe_call LA.ok hr rfl LA.mg LA.kp LA.bd .nil pass0 (pa_cons (pe_ix ix_list (pv 3) (pv 7) (fun _ _ => rfl)) (pa_cons (pv 8) pa_nil))) (pv 9) (nomark _)) (pss_one (ps_ret pe_bl)) pss_nil)
      (pss_cons (ps_if (pt_cmpR (op_eqFL hr.units) (pv 9) (pe_lst (pa_cons pe_non pa_nil)) (nomark _)) (pss_one (ps_expr (pe_bm PySem.F.plainAttrs_list PySem.F.slot_list_append PySem.F.type_list_append mt_append (pe_ix ix_list (pv 4) (pv 7) (fun _ _ => rfl)) (pa_cons (pv 8) pa_nil)))) pss_nil)
      (pss_one (ps_for PassesOwn.never rfl (pi_range1 rfl mr (pa_cons pe_int pa_nil)) (pg_name (i := 10) scLaw.nd rfl (Or.inl rfl))
        (pss_one (ps_if (pt_not (pt_truth (pe_call LQ.ok hr rfl LQ.mg LQ.kp LQ.bd .nil pass0 (pa_cons (pe_ix ix_list (pv 3) (pv 10) (fun _ _ => rfl)) (pa_cons (pe_ix ix_list (pv 4) (pv 10) (fun _ _ => rfl)) (pa_cons (pe_ix ix_list (pv 1) (pv 10) (fun _ _ => rfl)) (pa_cons (pe_ix ix_list (pv 2) (pv 10) (fun _ _ => rfl)) (pa_cons (pe_op op_mod (pe_op op_fdiv (pv 6) pe_int) pe_int) pa_nil)))))) (fun _ => rfl))) (pss_one (ps_ret pe_bl)) pss_nil)))))))))))
    (pss_one (ps_ret pe_bl)))))), ?_⟩
  have mkA : ∀ (H1 : Hp) (g : Nat) (n : Nat) (R : V → Hp → Prop), (∀ x lb H', Same H1 H' → H1 x = none → H1 lb = none → IsAu CA n ⟨g, 0, 1, []⟩ H' x lb → R (.ref x) H') → ∀ x dx, H1 x = none → H1 dx = none → dx ≠ x → spAuInit CA [.ref x, .int (n : Nat), .int (g : Nat)] (upd (upd H1 dx (.own x)) x (.ins CA dx [])) (fun v H' => v = .non ∧ R (.ref x) H') E0 := fun H1 g n R hR x dx hx hd nd =>
    ⟨x, dx, n, g, rfl, upd_same, fun lb H' kp hlb I => ⟨rfl, hR x lb H' (fun b o hb => kp b o (fun z => by rw [z, hx] at hb; cases hb) (same_make hx hd nd b o hb)) hx ((same_make hx hd nd).free hlb) I⟩⟩
  -- the seats
  refine set_nm (fun v H' => ∃ (ls : Addr) (nn : Nat → Nat), v = .ref ls ∧ Same H H' ∧ H ls = none ∧ H' ls = some (.lst [.int (nn 0 : Nat), .int (nn 1 : Nat)]) ∧ ∀ i < 2, nn i = 3 ∨ nn i = 4) (fun R hR => ?_) (fun v H1 z => ?_)
  · refine ⟨2, rfl, by decide, by decide, comp_some (n := 2) (lo := 0) (fun i v H' => ∃ n : Nat, (n = 3 ∨ n = 4) ∧ v = .int (n : Nat)) (fits3 2 (by decide)) (fun _ _ _ _ h _ => h) (fun _ _ _ _ _ _ h _ => h) (fun i H' hi sm R' hR' => ?_) (fun l H' vs sm hl hL hvl hG => ?_)⟩
    · refine ⟨_, rfl, _, rfl, a, ns, _, rfl, sm.seq hS, h63, by omega, by omega, fun z w => ?_⟩
      have m0 : 0 ≤ z % 2 := Int.emod_nonneg _ (by decide)
      have m1 : z % 2 < 2 := Int.emod_lt_of_pos _ (by decide)
      obtain ⟨n, en⟩ := Int.eq_ofNat_of_zero_le (show 0 ≤ 3 + z % 2 by omega)
      exact ⟨_, _, rfl, rfl, (show (0 : Int) < 2 by decide), _, _, rfl, rfl, hR' _ _ (Same.refl _) ⟨n, by omega, congrArg V.int en⟩⟩
    · obtain ⟨v0, v1, rfl⟩ := list2 hvl
      obtain ⟨n0, h0, rfl⟩ := hG 0 v0 rfl
      obtain ⟨n1, h1, rfl⟩ := hG 1 v1 rfl
      exact hR _ _ ⟨l, fun i => if i = 0 then n0 else n1, rfl, sm, hl, hL, two h0 h1⟩
  obtain ⟨ls, nn, rfl, s1, hls, hS1, n34⟩ := z
  -- the first seats
  refine set_nm (fun v H' => ∃ (lf : Addr) (gg : Nat → Nat), v = .ref lf ∧ Same H1 H' ∧ H1 lf = none ∧ H' lf = some (.lst [.int (gg 0 : Nat), .int (gg 1 : Nat)]) ∧ ∀ i < 2, gg i < nn i) (fun R hR => ?_) (fun v H2 z => ?_)
  · refine ⟨2, rfl, by decide, by decide, comp_some (n := 2) (lo := 0) (fun i v H' => ∃ g : Nat, g < nn i ∧ v = .int (g : Nat)) (fits3 2 (by decide)) (fun _ _ _ _ h _ => h) (fun _ _ _ _ _ _ h _ => h) (fun i H' hi sm R' hR' => ?_) (fun l H' vs sm hl hL hvl hG => ?_)⟩
    · refine ⟨_, rfl, _, rfl, a, ns, _, rfl, (s1.trans sm).seq hS, h63, by omega, by omega, fun z w => ⟨_, _, rfl, rfl, ⟨by decide, by decide⟩, _, rfl, _, rfl, ls, _, _, .int (nn i : Nat), rfl, rfl, SqL.of (sm _ _ hS1), at2z (f := fun i => V.int (nn i : Nat)) hi, ?_⟩⟩
      have n0 : (0 : Int) < ((nn i : Nat) : Int) := by rcases n34 i hi with e | e <;> omega
      obtain ⟨g, eg⟩ := Int.eq_ofNat_of_zero_le (Int.emod_nonneg (z / 2) (show ((nn i : Nat) : Int) ≠ 0 by omega))
      exact ⟨_, _, rfl, rfl, n0, hR' _ _ (Same.refl _) ⟨g, by have := Int.emod_lt_of_pos (z / 2) n0; omega, congrArg V.int eg⟩⟩
    · obtain ⟨v0, v1, rfl⟩ := list2 hvl
      obtain ⟨n0, h0, rfl⟩ := hG 0 v0 rfl
      obtain ⟨n1, h1, rfl⟩ := hG 1 v1 rfl
      exact hR _ _ ⟨l, fun i => if i = 0 then n0 else n1, rfl, sm, hl, hL, two h0 h1⟩
  obtain ⟨lf, gg, rfl, s2, hlf, hF2, gl⟩ := z
  -- both
  refine set_nm (fun v H' => ∃ (lB x0 b0 x1 b1 : Addr), v = .ref lB ∧ Same H2 H' ∧ H2 lB = none ∧ H' lB = some (.lst [.ref x0, .ref x1]) ∧ AuN CA H2 (nn 0) (gg 0) lB H' x0 b0 ∧ AuN CA H2 (nn 1) (gg 1) lB H' x1 b1 ∧ x0 ≠ x1 ∧ b0 ≠ b1) (fun R hR => ?_) (fun v H3 z => ?_)
  · refine ⟨2, rfl, by decide, by decide, comp_pre (n := 2) (lo := 0) (fun l vs H => PvA CA H2 nn gg l vs H) (fits3 2 (by decide)) (fun l hl => trivial) (fun i H' l vs hi hvl sm hl hL hP R' hR' => ?_) (fun l H' vs sm hl hL hvl hP => ?_)⟩
    · refine ⟨_, rfl, _, rfl, ls, _, _, .int (nn i : Nat), rfl, rfl, SqL.of ((s2.trans sm) _ _ hS1), at2z (f := fun i => V.int (nn i : Nat)) hi, _, rfl, _, rfl, lf, _, _, .int (gg i : Nat), rfl, rfl, SqL.of (sm _ _ hF2), at2z (f := fun i => V.int (gg i : Nat)) hi, ?_⟩
      refine mkA H' (gg i) (nn i) R' (fun x lb H3 s3 hx hlb I => hR' _ _ s3 ?_)
      have hL3 := s3 _ _ hL
      have nlb : lb ≠ l := fun z => by rw [z, hL] at hlb; cases hlb
      have new : ∀ zs, AuN CA H2 (nn i) (gg i) l (upd H3 l (.lst zs)) x lb := fun zs => ⟨I.putl hL3 nlb, sm.free hx, sm.free hlb, nlb⟩
      match vs, hvl with
      | [], e =>
        obtain rfl : 0 = i := e
        exact ⟨x, lb, rfl, new _⟩
      | [v0], e =>
        obtain rfl : 1 = i := e
        obtain ⟨y, by', rfl, I0, y1, y2, y3⟩ := hP
        obtain ⟨dy, fy, g1, _, vy, g2, _⟩ := id I0
        exact ⟨y, by', x, lb, rfl, rfl, ⟨(I0.same s3).putl hL3 y3, y1, y2, y3⟩, new _, fun z => (by rw [z, hx] at g1; cases g1), fun z => (by rw [z, hlb] at g2; cases g2)⟩
      | _ :: _ :: _, e => exact absurd hi (by rw [← e]; simp)
    · obtain ⟨v0, v1, rfl⟩ := list2 hvl
      obtain ⟨x0, b0, x1, b1, rfl, rfl, h1, h2, h3, h4⟩ := hP
      exact hR _ _ ⟨l, x0, b0, x1, b1, rfl, sm, hl, hL, h1, h2, h3, h4⟩
  obtain ⟨lB, x0, b0, x1, b1, rfl, s3, hlB, hB3, ⟨A0, x0n, b0n, b0B⟩, ⟨A1, x1n, b1n, b1B⟩, x01, b01⟩ := z
  -- the calls
  refine set_nm (fun v H' => ∃ (lC c0 c1 : Addr), v = .ref lC ∧ Same H3 H' ∧ H3 lC = none ∧ H3 c0 = none ∧ H3 c1 = none ∧ c0 ≠ c1 ∧ lC ≠ c0 ∧ lC ≠ c1 ∧ H' lC = some (.lst [.ref c0, .ref c1]) ∧ H' c0 = some (.lst []) ∧ H' c1 = some (.lst [])) (fun R hR => ?_) (fun v H4 z => ?_)
  · refine ⟨fits3 0 (by decide), fun c0 h0 => ⟨fits3 0 (by decide), fun c1 h1 => ⟨fits3 2 (by decide), fun lC h2 => hR _ _ ?_⟩⟩⟩
    have t0 := same_upd h0 (.lst [])
    have t1 := same_upd h1 (.lst [])
    have t2 := same_upd h2 (.lst [V.ref c0, .ref c1])
    have e0 := t1 _ _ (upd_same (H := H3) (a := c0) (o := HO.lst []))
    have e1 : upd (upd H3 c0 (.lst [])) c1 (.lst []) c1 = some (.lst []) := upd_same
    refine ⟨lC, c0, c1, rfl, t0.trans (t1.trans t2), (t0.trans t1).free h2, h0, t0.free h1, fun z => ?_, fun z => ?_, fun z => ?_, upd_same, t2 _ _ e0, t2 _ _ e1⟩
    · rw [← z, upd_same] at h1
      cases h1
    · rw [z, e0] at h2
      cases h2
    · rw [z, e1] at h2
      cases h2
  obtain ⟨lC, c0, c1, rfl, s4, hlC, hc0, hc1, c01, cC0, cC1, hC4, hc04, hc14⟩ := z
  have s12 := s1.trans s2
  have s13 := s12.trans s3
  have s14 := s13.trans s4
  obtain ⟨x, lb, lc, D, T0⟩ : ∃ x lb lc : Nat → Addr, Dst H x lb lc ls lf lB lC ∧ Two CA H nn gg x lb lc ls lf lB lC 0 (fun _ => []) (fun i => ⟨gg i, 0, 1, []⟩) H4 := by
    have hS3 := (s2.trans s3) _ _ hS1
    have hF3 := s3 _ _ hF2
    have hS2 := s2 _ _ hS1
    obtain ⟨_, _, _, _, _, p0, _, _⟩ := id A0
    obtain ⟨_, _, _, _, _, p1, _, _⟩ := id A1
    have nn' : ∀ {Hx : Hp} {u v : Addr} {o : HO}, Hx u = some o → Hx v = none → u ≠ v := fun h1 h2 z => by rw [z, h2] at h1; cases h1
    refine ⟨fun i => if i = 0 then x0 else x1, fun i => if i = 0 then b0 else b1, fun i => if i = 0 then c0 else c1, ⟨x01, b01, c01, two (two (nn' p0 hc0) (nn' p0 hc1)) (two (nn' p1 hc0) (nn' p1 hc1)), two ⟨nn' hS2 b0n, nn' hF2 b0n, Ne.symm b0B, Ne.symm (nn' p0 hlC)⟩ ⟨nn' hS2 b1n, nn' hF2 b1n, Ne.symm b1B, Ne.symm (nn' p1 hlC)⟩, two ⟨nn' hS3 hc0, nn' hF3 hc0, nn' hB3 hc0, cC0⟩ ⟨nn' hS3 hc1, nn' hF3 hc1, nn' hB3 hc1, cC1⟩, two ⟨s12.free x0n, s12.free b0n, s13.free hc0⟩ ⟨s12.free x1n, s12.free b1n, s13.free hc1⟩⟩, ?_⟩
    exact ⟨s14, s4 _ _ hS3, s4 _ _ hF3, s4 _ _ hB3, hC4, two (A0.same s4) (A1.same s4), two hc04 hc14, fun i hi => RelB.begin (n34 i hi) (gl i hi), fun i hi => ⟨n34 i hi, gl i hi, (fun b hb => nomatch hb), Nat.le_refl _⟩, fun _ _ => Nat.le_refl _⟩
  clear A0 A1 x0n x1n b0n b1n b0B b1B x01 b01 hc0 hc1 c01 cC0 cC1 hC4 hc04 hc14 hB3 hF2 hS1
  refine ⟨_, rfl, a, ns, 2, rfl, s14.seq hS, h63, by decide, by decide, fun z w0 => ?_⟩
  have m0 : 0 ≤ z % 27 := Int.emod_nonneg _ (by decide)
  have m1 : z % 27 < 27 := Int.emod_lt_of_pos _ (by decide)
  refine ⟨_, _, rfl, rfl, (show (0 : Int) < 27 by decide), _, _, rfl, rfl, 3, _, rfl, ⟨by decide, by decide, by omega, by omega⟩, ?_⟩
  refine for_range (lo := 3) (n := (27 + z % 27 - 3).toNat) (fun i σ H' => ∃ (cs : Nat → List Nat) (au : Nat → Au) (x5 x6 x7 x8 x9 x10 : Option V), Two CA H nn gg x lb lc ls lf lB lC i cs au H' ∧ σ = [some (.ref a), some (.ref ls), some (.ref lf), some (.ref lB), some (.ref lC), x5, x6, x7, x8, x9, x10])
    ⟨_, _, _, _, _, _, _, _, T0, rfl⟩ (fun i σ H5 hi y => ?_) (fun σ H5 _ => q _)
  obtain ⟨cs, au, x5, x6, x7, x8, x9, x10, T, rfl⟩ := y
  have i50 : i ≤ 60 := by omega
  refine go_of ?_
  refine ⟨_, rfl, _, rfl, a, ns, 3 + ((i : Nat) : Int), rfl, T.sm.seq hS, h63, by omega, by omega, fun z5 w5 => nm_of ?_⟩
  -- which
  refine set_nm (fun v H' => H5 = H' ∧ ∃ j : Nat, j < 2 ∧ v = .int (j : Nat)) (fun R hR => ?_) (fun v H' y => ?_)
  · refine ⟨_, rfl, _, _, rfl, rfl, (show (0 : Int) < 7 by decide), _, _, rfl, rfl, _, rfl, hR _ _ ⟨rfl, ?_⟩⟩
    cases decide ((4 : Int) < z5 % 7)
    · exact ⟨0, by decide, rfl⟩
    · exact ⟨1, by decide, rfl⟩
  obtain ⟨rfl, j, j2, rfl⟩ := y
  -- the text
  refine set_nm (fun v H' => Same H5 H' ∧ ∃ t, InT t ∧ v = .str t) (fun R hR => ?_) (fun v H6 y => ?_)
  · exact ⟨_, rfl, _, _, rfl, rfl, ⟨by decide, by decide⟩, _, rfl, _, rfl, lC, _, _, .ref (lc j), rfl, rfl, SqL.of T.C, at2 (f := fun i => V.ref (lc i)) j2, lc j, z5 / 7, cs j, rfl, by omega, T.ls j j2, (T.rl j j2).r.co, fun t H' hT s => hR _ _ ⟨s, t, hT, rfl⟩⟩
  obtain ⟨s6, t, hT, rfl⟩ := y
  have T6 := T.same s6
  -- what is due
  refine set_nm (fun v H' => ∃ pd, v = .ref pd ∧ Same H6 H' ∧ H6 pd = none ∧ ((t ∈ noT ∧ H' pd = some (.lst (rL (some "none")))) ∨ ∃ c, c < 43 ∧ t = cT c ∧ H' pd = some (.lst (rL (ruleC (nn j) (cs j) c))))) (fun R hR => ?_) (fun v H7 y => ?_)
  · exact ⟨_, rfl, _, rfl, lC, _, _, .ref (lc j), rfl, rfl, SqL.of T6.C, at2 (f := fun i => V.ref (lc i)) j2, _, rfl, _, rfl, ls, _, _, .int (nn j : Nat), rfl, rfl, SqL.of T6.S, at2 (f := fun i => V.int (nn i : Nat)) j2, _, rfl, lc j, nn j, t, cs j, rfl, T6.ls j j2, (T6.rl j j2).r.co, n34 j j2, hT, fun hn p H' s hp hL => hR _ _ ⟨p, rfl, s, hp, .inl ⟨hn, hL⟩⟩, fun c hc e p H' s hp hL => hR _ _ ⟨p, rfl, s, hp, .inr ⟨c, hc, e, hL⟩⟩⟩
  obtain ⟨pd, rfl, s7, hpd, hdue⟩ := y
  have T7 := T6.same s7
  have npx : pd ≠ x j ∧ pd ≠ lb j := by
    obtain ⟨_, _, g1, _, _, g2, _, _⟩ := T6.iau j j2
    exact ⟨fun z => (by rw [← z, hpd] at g1; cases g1), fun z => (by rw [← z, hpd] at g2; cases g2)⟩
  have ht : t.length ≤ 1000 := by
    rcases hT with ⟨c, hc, rfl⟩ | h
    · exact cT_short hc
    · exact (no_chk t h).2.2.1
  -- the answer
  refine seq_cut (fun σ H' => σ = [some (.ref a), some (.ref ls), some (.ref lf), some (.ref lB), some (.ref lC), some (.int (3 + (i : Nat))), some (.int z5), some (.int (j : Nat)), some (.str t), some (.ref pd), x10] ∧ ((∃ c, c < 43 ∧ t = cT c ∧ ruleC (nn j) (cs j) c = none ∧ Kept (x j) (lb j) H7 H' ∧ IsAu CA (nn j) (stepA (nn j) (au j) c) H' (x j) (lb j) ∧ H' pd = some (.lst (rL none))) ∨ (Same H7 H' ∧ ∃ r, H' pd = some (.lst (rL (some r)))))) (fun D' _ nx => ?_) (fun σ H8 y => ?_)
  · have fin : ∀ {H' : Hp} {l : Addr} {r : Option Str}, H' l = some (.lst (rL r)) → H' pd = some (.lst (rL r)) → D'.nx [some (.ref a), some (.ref ls), some (.ref lf), some (.ref lB), some (.ref lC), some (.int (3 + (i : Nat))), some (.int z5), some (.int (j : Nat)), some (.str t), some (.ref pd), x10] H' → rEqF K false true (.ref l) (.ref pd) H' (fun v H2 => ∃ b, v = .bl b ∧ if b = true then D'.rt (.bl false) H2 else D'.nx [some (.ref a), some (.ref ls), some (.ref lf), some (.ref lB), some (.ref lC), some (.int (3 + (i : Nat))), some (.int z5), some (.int (j : Nat)), some (.str t), some (.ref pd), x10] H2) := fun {H' l r} h1 h2 h3 =>
      ⟨l, pd, rL r, rL r, rfl, rfl, iteF ⟨SqL.of h1, SqL.of h2⟩, rL_flat r, rL_flat r, _, rfl, chg (show (!eqVs (rL r) (rL r)) = false by rw [eqVs_refl (rL_flat r)]; rfl) (iteF h3)⟩
    refine ⟨_, rfl, _, rfl, lB, _, _, .ref (x j), rfl, rfl, SqL.of T7.B, at2 (f := fun i => V.ref (x i)) j2, _, rfl, x j, lb j, nn j, au j, t, rfl, ht, T7.iau j j2, (T7.wf j j2).wf (by omega), fun hno l H' s hl hL => ⟨_, rfl, ?_⟩, fun c hc e r hb l H' s hl hL => ⟨_, rfl, ?_⟩, fun c hc e hb l H' kk hl I hL => ⟨_, rfl, ?_⟩⟩
    · rcases hdue with ⟨hn, hp⟩ | ⟨c, hc, rfl, hp⟩
      · exact fin hL (s _ _ hp) (nx _ _ ⟨rfl, .inr ⟨s, _, s _ _ hp⟩⟩)
      · exact absurd (cT_all hc) hno
    · rcases hdue with ⟨hn, hp⟩ | ⟨c', hc', e', hp⟩
      · exact absurd (by rw [e]; exact cT_all hc) (no_chk t hn).1
      · have ec := cT_inj _ hc' _ hc (e'.symm.trans e)
        subst ec
        rw [(T.rl j j2).r.rule hc'] at hb
        rw [hb] at hp
        exact fin hL (s _ _ hp) (nx _ _ ⟨rfl, .inr ⟨s, _, s _ _ hp⟩⟩)
    · rcases hdue with ⟨hn, hp⟩ | ⟨c', hc', e', hp⟩
      · exact absurd (by rw [e]; exact cT_all hc) (no_chk t hn).1
      · have ec := cT_inj _ hc' _ hc (e'.symm.trans e)
        subst ec
        rw [(T.rl j j2).r.rule hc'] at hb
        rw [hb] at hp
        have hp' := kk _ _ npx.1 npx.2 hp
        exact fin hL hp' (nx _ _ ⟨rfl, .inl ⟨c', hc', e, hb, kk, I, hp'⟩⟩)
  obtain ⟨rfl, y⟩ := y
  -- it stands
  refine seq_cut (fun σ H' => σ = [some (.ref a), some (.ref ls), some (.ref lf), some (.ref lB), some (.ref lC), some (.int (3 + (i : Nat))), some (.int z5), some (.int (j : Nat)), some (.str t), some (.ref pd), x10] ∧ ∃ cs' au', Two CA H nn gg x lb lc ls lf lB lC (i + 1) cs' au' H') (fun D' _ nx => ?_) (fun σ H9 y => ?_)
  · refine ⟨_, rfl, fits3 1 (by decide), fun lq hlq => ?_⟩
    have s9 := same_upd hlq (.lst [V.non])
    rcases y with ⟨c, hc, rfl, hr0, kk, I8, hp8⟩ | ⟨s8, r, hp8⟩
    · refine ⟨pd, lq, rL none, [V.non], rfl, rfl, iteF ⟨SqL.of (s9 _ _ hp8), SqL.of upd_same⟩, rfl, rfl, _, rfl, chg (show eqVs (rL none) [V.non] = true from rfl) (iteT ?_)⟩
      obtain ⟨hL9, hC9, T9⟩ := T7.tell D j2 hc kk I8 (by rw [stands_rule, hr0]; rfl) s9
      refine ⟨_, rfl, _, rfl, lC, _, _, .ref (lc j), rfl, rfl, SqL.of hC9, at2 (f := fun i => V.ref (lc i)) j2, .inl ⟨rfl, _, SqL.of hL9⟩, _, rfl, lc j, vC (cs j), _, rfl, rfl, hL9, (by rw [vC_len]; have := T.ln j j2; have := fits3 100 (by decide); omega), ?_⟩
      rw [vC_snoc]
      exact nx _ _ ⟨rfl, _, _, T9⟩
    · refine ⟨pd, lq, rL (some r), [V.non], rfl, rfl, iteF ⟨SqL.of (s9 _ _ hp8), SqL.of upd_same⟩, rL_flat _, rfl, _, rfl, chg (show eqVs (rL (some r)) [V.non] = false from rfl) (iteF ?_)⟩
      exact nx _ _ ⟨rfl, cs, au, (T7.same (s8.trans s9)).more⟩
  obtain ⟨rfl, cs', au', T9⟩ := y
  -- both asked
  refine ⟨2, rfl, by decide, by decide, for_range (n := 2) (fun _ σ H' => Same H9 H' ∧ ∃ x10, σ = [some (.ref a), some (.ref ls), some (.ref lf), some (.ref lB), some (.ref lC), some (.int (3 + (i : Nat))), some (.int z5), some (.int (j : Nat)), some (.str t), some (.ref pd), x10]) ⟨Same.refl _, _, rfl⟩ (fun o σ H10 ho y => ?_) (fun σ H10 y => ?_)⟩
  · obtain ⟨s10, x10', rfl⟩ := y
    refine go_of ?_
    have T10 := T9.same s10
    obtain ⟨wy, ew⟩ := Int.eq_ofNat_of_zero_le (show 0 ≤ z5 / 11 % 6 by omega)
    have wl : wy < 6 := by omega
    exact ⟨_, rfl, _, rfl, lB, _, _, .ref (x o), rfl, rfl, SqL.of T10.B, at2z (f := fun i => V.ref (x i)) ho, _, rfl, _, rfl, lC, _, _, .ref (lc o), rfl, rfl, SqL.of T10.C, at2z (f := fun i => V.ref (lc i)) ho, _, rfl, _, rfl, ls, _, _, .int (nn o : Nat), rfl, rfl, SqL.of T10.S, at2z (f := fun i => V.int (nn i : Nat)) ho, _, rfl, _, rfl, lf, _, _, .int (gg o : Nat), rfl, rfl, SqL.of T10.F, at2z (f := fun i => V.int (gg i : Nat)) ho, _, rfl, _, _, rfl, rfl, ⟨by decide, by decide⟩, _, _, rfl, rfl, (show (0 : Int) < 6 by decide), x o, lb o, lc o, nn o, gg o, wy, cs' o, au' o, (show [V.ref (x o), V.ref (lc o), V.int (nn o : Nat), V.int (gg o : Nat), V.int (z5 / 11 % 6)] = _ by rw [ew]), wl, T10.iau o ho, (T10.wf o ho).wf (by omega), T10.ls o ho, T10.rl o ho, fun H11 s11 => ⟨true, rfl, iteF ⟨s10.trans s11, _, rfl⟩⟩⟩
  · obtain ⟨s10, x10', rfl⟩ := y
    exact ⟨cs', au', _, _, _, _, _, _, T9.same s10, rfl⟩
end
end My

namespace My
open PySem L2
theorem all_mk {wd dtd : Option Addr} {dtc : Value} {tw1 tw2 tw3 tz : Tok} {wn dtn : Nat} {wsl dts : Array (Option Value)} {cdN cdW : ClassData} {l : PySem.W.OpenLaw} {w : World} {K : PySem.W.Frag} {h : Heap} {mg : Str → Option Value} {fa f1 f2 f3 f4 f5 f6 f7 f8 f9 f10 f11 f12 f13 f14 f15 f16 f17 f18 f_I f_D f_O f_X f_Y f_B f_S f_N f_K f_T f_W CN CA aW dT CT CW Cc1 Cc2 Cc3 Cc4 Cc5 Cc6 Cc7 Cc8 Cc9 Ce1 Ce2 Ce3 Ce4 Ce5 : Addr} (X : K.In h) (G : h.Ns mainGlobals mg) (hfa : mg "law" = some (.ref fa))
    {od1 an1 od2 an2 od3 an3 od4 an4 od5 an5 od6 an6 od7 an7 od8 an8 od9 an9 od10 an10 od11 an11 od12 an12 od13 an13 od14 an14 od15 an15 od16 an16 od17 an17 od18 an18 od_I an_I od_D an_D od_O an_O od_X an_X od_Y an_Y od_B an_B od_S an_S od_N an_N od_K an_K od_T an_T od_W an_W : Option Addr} {sl1 sl2 sl3 sl4 sl5 sl6 sl7 sl8 sl9 sl10 sl11 sl12 sl13 sl14 sl15 sl16 sl17 sl18 sl_I sl_D sl_O sl_X sl_Y sl_B sl_S sl_N sl_K sl_T sl_W : Array (Option Value)} {oc1 kV1 dc1 pm1 cd1 ct1 oc2 kV2 dc2 pm2 cd2 ct2 oc3 kV3 dc3 pm3 cd3 ct3 oc4 kV4 dc4 pm4 cd4 ct4 oc5 kV5 dc5 pm5 cd5 ct5 oc6 kV6 dc6 pm6 cd6 ct6 oc7 kV7 dc7 pm7 cd7 ct7 oc8 kV8 dc8 pm8 cd8 ct8 oc9 kV9 dc9 pm9 cd9 ct9 oc10 kV10 dc10 pm10 cd10 ct10 oc11 kV11 dc11 pm11 cd11 ct11 oc12 kV12 dc12 pm12 cd12 ct12 oc13 kV13 dc13 pm13 cd13 ct13 oc14 kV14 dc14 pm14 cd14 ct14 oc15 kV15 dc15 pm15 cd15 ct15 oc16 kV16 dc16 pm16 cd16 ct16 oc17 kV17 dc17 pm17 cd17 ct17 oc18 kV18 dc18 pm18 cd18 ct18 oc_I kV_I dc_I pm_I cd_I ct_I oc_D kV_D dc_D pm_D cd_D ct_D oc_O kV_O dc_O pm_O cd_O ct_O oc_X kV_X dc_X pm_X cd_X ct_X oc_Y kV_Y dc_Y pm_Y cd_Y ct_Y oc_B kV_B dc_B pm_B cd_B ct_B oc_S kV_S dc_S pm_S cd_S ct_S oc_N kV_N dc_N pm_N cd_N ct_N oc_K kV_K dc_K pm_K cd_K ct_K oc_T kV_T dc_T pm_T cd_T ct_T oc_W kV_W dc_W pm_W cd_W ct_W : Value} {t1 t2 t3 : Tok}
    (a1 : PySem.W.nsIn K mainGlobals "read_call" = some (some (.ref f1))) (l1 : K.lookup f1 = some ⟨oc1, od1, .func (PySem.W.fnOf "read_call" "read_call" (defArgs sReadCall) (defBody sReadCall) (defScope sReadCall) .none kV1 dc1 pm1 an1 cd1 ct1), sl1⟩) (c1 : PySem.W.codeIn K cd1 "read_call" = true) (k1 : PySem.W.keepIn K (.ref f1) = true)
    (a2 : PySem.W.nsIn K mainGlobals "rank_of" = some (some (.ref f2))) (l2 : K.lookup f2 = some ⟨oc2, od2, .func (PySem.W.fnOf "rank_of" "rank_of" (defArgs sRankOf) (defBody sRankOf) (defScope sRankOf) .none kV2 dc2 pm2 an2 cd2 ct2), sl2⟩) (c2 : PySem.W.codeIn K cd2 "rank_of" = true) (k2 : PySem.W.keepIn K (.ref f2) = true)
    (a3 : PySem.W.nsIn K mainGlobals "above" = some (some (.ref f3))) (l3 : K.lookup f3 = some ⟨oc3, od3, .func (PySem.W.fnOf "above" "above" (defArgs sAbove) (defBody sAbove) (defScope sAbove) .none kV3 dc3 pm3 an3 cd3 ct3), sl3⟩) (c3 : PySem.W.codeIn K cd3 "above" = true) (k3 : PySem.W.keepIn K (.ref f3) = true)
    (a4 : PySem.W.nsIn K mainGlobals "side_of" = some (some (.ref f4))) (l4 : K.lookup f4 = some ⟨oc4, od4, .func (PySem.W.fnOf "side_of" "side_of" (defArgs sSide) (defBody sSide) (defScope sSide) .none kV4 dc4 pm4 an4 cd4 ct4), sl4⟩) (c4 : PySem.W.codeIn K cd4 "side_of" = true) (k4 : PySem.W.keepIn K (.ref f4) = true)
    (a5 : PySem.W.nsIn K mainGlobals "_law_cell" = some (some (.ref f5))) (l5 : K.lookup f5 = some ⟨oc5, od5, .func (PySem.W.fnOf "_law_cell" "_law_cell" (defArgs sCell) (defBody sCell) (defScope sCell) .none kV5 dc5 pm5 an5 cd5 ct5), sl5⟩) (c5 : PySem.W.codeIn K cd5 "_law_cell" = true) (k5 : PySem.W.keepIn K (.ref f5) = true)
    (a6 : PySem.W.nsIn K mainGlobals "_law_text" = some (some (.ref f6))) (l6 : K.lookup f6 = some ⟨oc6, od6, .func (PySem.W.fnOf "_law_text" "_law_text" (defArgs sLText) (defBody sLText) (defScope sLText) .none kV6 dc6 pm6 an6 cd6 ct6), sl6⟩) (c6 : PySem.W.codeIn K cd6 "_law_text" = true) (k6 : PySem.W.keepIn K (.ref f6) = true)
    (a7 : PySem.W.nsIn K mainGlobals "_law_rank" = some (some (.ref f7))) (l7 : K.lookup f7 = some ⟨oc7, od7, .func (PySem.W.fnOf "_law_rank" "_law_rank" (defArgs sLRank) (defBody sLRank) (defScope sLRank) .none kV7 dc7 pm7 an7 cd7 ct7), sl7⟩) (c7 : PySem.W.codeIn K cd7 "_law_rank" = true) (k7 : PySem.W.keepIn K (.ref f7) = true)
    (a8 : PySem.W.nsIn K mainGlobals "_law_over" = some (some (.ref f8))) (l8 : K.lookup f8 = some ⟨oc8, od8, .func (PySem.W.fnOf "_law_over" "_law_over" (defArgs sLOver) (defBody sLOver) (defScope sLOver) .none kV8 dc8 pm8 an8 cd8 ct8), sl8⟩) (c8 : PySem.W.codeIn K cd8 "_law_over" = true) (k8 : PySem.W.keepIn K (.ref f8) = true)
    (a9 : PySem.W.nsIn K mainGlobals "_law_last" = some (some (.ref f9))) (l9 : K.lookup f9 = some ⟨oc9, od9, .func (PySem.W.fnOf "_law_last" "_law_last" (defArgs sLast) (defBody sLast) (defScope sLast) .none kV9 dc9 pm9 an9 cd9 ct9), sl9⟩) (c9 : PySem.W.codeIn K cd9 "_law_last" = true) (k9 : PySem.W.keepIn K (.ref f9) = true)
    (a10 : PySem.W.nsIn K mainGlobals "_law_own" = some (some (.ref f10))) (l10 : K.lookup f10 = some ⟨oc10, od10, .func (PySem.W.fnOf "_law_own" "_law_own" (defArgs sOwn2) (defBody sOwn2) (defScope sOwn2) .none kV10 dc10 pm10 an10 cd10 ct10), sl10⟩) (c10 : PySem.W.codeIn K cd10 "_law_own" = true) (k10 : PySem.W.keepIn K (.ref f10) = true)
    (a11 : PySem.W.nsIn K mainGlobals "_law_rule" = some (some (.ref f11))) (l11 : K.lookup f11 = some ⟨oc11, od11, .func (PySem.W.fnOf "_law_rule" "_law_rule" (defArgs sLRule) (defBody sLRule) (defScope sLRule) .none kV11 dc11 pm11 an11 cd11 ct11), sl11⟩) (c11 : PySem.W.codeIn K cd11 "_law_rule" = true) (k11 : PySem.W.keepIn K (.ref f11) = true)
    (a12 : PySem.W.nsIn K mainGlobals "_law_drawn" = some (some (.ref f12))) (l12 : K.lookup f12 = some ⟨oc12, od12, .func (PySem.W.fnOf "_law_drawn" "_law_drawn" (defArgs sDrawn) (defBody sDrawn) (defScope sDrawn) .none kV12 dc12 pm12 an12 cd12 ct12), sl12⟩) (c12 : PySem.W.codeIn K cd12 "_law_drawn" = true) (k12 : PySem.W.keepIn K (.ref f12) = true)
    (a13 : PySem.W.nsIn K mainGlobals "_law_contract" = some (some (.ref f13))) (l13 : K.lookup f13 = some ⟨oc13, od13, .func (PySem.W.fnOf "_law_contract" "_law_contract" (defArgs sLCon) (defBody sLCon) (defScope sLCon) .none kV13 dc13 pm13 an13 cd13 ct13), sl13⟩) (c13 : PySem.W.codeIn K cd13 "_law_contract" = true) (k13 : PySem.W.keepIn K (.ref f13) = true)
    (a14 : PySem.W.nsIn K mainGlobals "_law_due" = some (some (.ref f14))) (l14 : K.lookup f14 = some ⟨oc14, od14, .func (PySem.W.fnOf "_law_due" "_law_due" (defArgs sDue) (defBody sDue) (defScope sDue) .none kV14 dc14 pm14 an14 cd14 ct14), sl14⟩) (c14 : PySem.W.codeIn K cd14 "_law_due" = true) (k14 : PySem.W.keepIn K (.ref f14) = true)
    (a15 : PySem.W.nsIn K mainGlobals "_law_asked" = some (some (.ref f15))) (l15 : K.lookup f15 = some ⟨oc15, od15, .func (PySem.W.fnOf "_law_asked" "_law_asked" (defArgs sAsked) (defBody sAsked) (defScope sAsked) .none kV15 dc15 pm15 an15 cd15 ct15), sl15⟩) (c15 : PySem.W.codeIn K cd15 "_law_asked" = true) (k15 : PySem.W.keepIn K (.ref f15) = true)
    (a16 : PySem.W.nsIn K mainGlobals "_law_others" = some (some (.ref f16))) (l16 : K.lookup f16 = some ⟨oc16, od16, .func (PySem.W.fnOf "_law_others" "_law_others" (defArgs sOthers) (defBody sOthers) (defScope sOthers) .none kV16 dc16 pm16 an16 cd16 ct16), sl16⟩) (c16 : PySem.W.codeIn K cd16 "_law_others" = true) (k16 : PySem.W.keepIn K (.ref f16) = true)
    (a17 : PySem.W.nsIn K mainGlobals "_law_answer" = some (some (.ref f17))) (l17 : K.lookup f17 = some ⟨oc17, od17, .func (PySem.W.fnOf "_law_answer" "_law_answer" (defArgs sAnswer) (defBody sAnswer) (defScope sAnswer) .none kV17 dc17 pm17 an17 cd17 ct17), sl17⟩) (c17 : PySem.W.codeIn K cd17 "_law_answer" = true) (k17 : PySem.W.keepIn K (.ref f17) = true)
    (a18 : PySem.W.nsIn K mainGlobals "law" = some (some (.ref f18))) (l18 : K.lookup f18 = some ⟨oc18, od18, .func (PySem.W.fnOf "law" "law" (defArgs sLaw) (defBody sLaw) (defScope sLaw) .none kV18 dc18 pm18 an18 cd18 ct18), sl18⟩) (c18 : PySem.W.codeIn K cd18 "law" = true) (k18 : PySem.W.keepIn K (.ref f18) = true)
    (a_I : PySem.W.findIn K (.ref CA) "__init__" = some (some (.ref f_I))) (l_I : K.lookup f_I = some ⟨oc_I, od_I, .func (PySem.W.fnOf "__init__" "Auction.__init__" (defArgs sAuInit) (defBody sAuInit) (defScope sAuInit) (.ref dT) kV_I dc_I pm_I an_I cd_I ct_I), sl_I⟩) (c_I : PySem.W.codeIn K cd_I "Auction.__init__" = true) (k_I : PySem.W.keepIn K (.ref f_I) = true)
    (i_I : PySem.W.isFn K (.ref f_I) = true)
    (a_D : PySem.W.findIn K (.ref CA) "is_done" = some (some (.ref f_D))) (l_D : K.lookup f_D = some ⟨oc_D, od_D, .func (PySem.W.fnOf "is_done" "Auction.is_done" (defArgs sDone) (defBody sDone) (defScope sDone) .none kV_D dc_D pm_D an_D cd_D ct_D), sl_D⟩) (c_D : PySem.W.codeIn K cd_D "Auction.is_done" = true) (k_D : PySem.W.keepIn K (.ref f_D) = true)
    (i_D : PySem.W.isFn K (.ref f_D) = true)
    (a_O : PySem.W.findIn K (.ref CA) "is_own_bid" = some (some (.ref f_O))) (l_O : K.lookup f_O = some ⟨oc_O, od_O, .func (PySem.W.fnOf "is_own_bid" "Auction.is_own_bid" (defArgs sOwn) (defBody sOwn) (defScope sOwn) .none kV_O dc_O pm_O an_O cd_O ct_O), sl_O⟩) (c_O : PySem.W.codeIn K cd_O "Auction.is_own_bid" = true) (k_O : PySem.W.keepIn K (.ref f_O) = true)
    (i_O : PySem.W.isFn K (.ref f_O) = true)
    (a_X : PySem.W.findIn K (.ref CA) "may_double" = some (some (.ref f_X))) (l_X : K.lookup f_X = some ⟨oc_X, od_X, .func (PySem.W.fnOf "may_double" "Auction.may_double" (defArgs sDbl) (defBody sDbl) (defScope sDbl) .none kV_X dc_X pm_X an_X cd_X ct_X), sl_X⟩) (c_X : PySem.W.codeIn K cd_X "Auction.may_double" = true) (k_X : PySem.W.keepIn K (.ref f_X) = true)
    (i_X : PySem.W.isFn K (.ref f_X) = true)
    (a_Y : PySem.W.findIn K (.ref CA) "may_again" = some (some (.ref f_Y))) (l_Y : K.lookup f_Y = some ⟨oc_Y, od_Y, .func (PySem.W.fnOf "may_again" "Auction.may_again" (defArgs sAgn) (defBody sAgn) (defScope sAgn) .none kV_Y dc_Y pm_Y an_Y cd_Y ct_Y), sl_Y⟩) (c_Y : PySem.W.codeIn K cd_Y "Auction.may_again" = true) (k_Y : PySem.W.keepIn K (.ref f_Y) = true)
    (i_Y : PySem.W.isFn K (.ref f_Y) = true)
    (a_B : PySem.W.findIn K (.ref CA) "broken_rule" = some (some (.ref f_B))) (l_B : K.lookup f_B = some ⟨oc_B, od_B, .func (PySem.W.fnOf "broken_rule" "Auction.broken_rule" (defArgs sBrk) (defBody sBrk) (defScope sBrk) .none kV_B dc_B pm_B an_B cd_B ct_B), sl_B⟩) (c_B : PySem.W.codeIn K cd_B "Auction.broken_rule" = true) (k_B : PySem.W.keepIn K (.ref f_B) = true)
    (i_B : PySem.W.isFn K (.ref f_B) = true)
    (a_S : PySem.W.findIn K (.ref CA) "say" = some (some (.ref f_S))) (l_S : K.lookup f_S = some ⟨oc_S, od_S, .func (PySem.W.fnOf "say" "Auction.say" (defArgs sSay) (defBody sSay) (defScope sSay) .none kV_S dc_S pm_S an_S cd_S ct_S), sl_S⟩) (c_S : PySem.W.codeIn K cd_S "Auction.say" = true) (k_S : PySem.W.keepIn K (.ref f_S) = true)
    (i_S : PySem.W.isFn K (.ref f_S) = true)
    (a_N : PySem.W.findIn K (.ref CA) "first_to_name" = some (some (.ref f_N))) (l_N : K.lookup f_N = some ⟨oc_N, od_N, .func (PySem.W.fnOf "first_to_name" "Auction.first_to_name" (defArgs sFirst) (defBody sFirst) (defScope sFirst) .none kV_N dc_N pm_N an_N cd_N ct_N), sl_N⟩) (c_N : PySem.W.codeIn K cd_N "Auction.first_to_name" = true) (k_N : PySem.W.keepIn K (.ref f_N) = true)
    (i_N : PySem.W.isFn K (.ref f_N) = true)
    (a_K : PySem.W.findIn K (.ref CA) "contract" = some (some (.ref f_K))) (l_K : K.lookup f_K = some ⟨oc_K, od_K, .func (PySem.W.fnOf "contract" "Auction.contract" (defArgs sContract) (defBody sContract) (defScope sContract) .none kV_K dc_K pm_K an_K cd_K ct_K), sl_K⟩) (c_K : PySem.W.codeIn K cd_K "Auction.contract" = true) (k_K : PySem.W.keepIn K (.ref f_K) = true)
    (i_K : PySem.W.isFn K (.ref f_K) = true)
    (a_T : PySem.W.findIn K (.ref CA) "turn" = some (some (.ref f_T))) (l_T : K.lookup f_T = some ⟨oc_T, od_T, .func (PySem.W.fnOf "turn" "Auction.turn" (defArgs sTurn) (defBody sTurn) (defScope sTurn) .none kV_T dc_T pm_T an_T cd_T ct_T), sl_T⟩) (c_T : PySem.W.codeIn K cd_T "Auction.turn" = true) (k_T : PySem.W.keepIn K (.ref f_T) = true)
    (i_T : PySem.W.isFn K (.ref f_T) = true)
    (a_W : PySem.W.findIn K (.ref CW) "__init__" = some (some (.ref f_W))) (l_W : K.lookup f_W = some ⟨oc_W, od_W, .func (PySem.W.fnOf "__init__" "NotNow.__init__" (defArgs sNotNow) (defBody sNotNow) (defScope sNotNow) .none kV_W dc_W pm_W an_W cd_W ct_W), sl_W⟩) (c_W : PySem.W.codeIn K cd_W "NotNow.__init__" = true) (k_W : PySem.W.keepIn K (.ref f_W) = true)
    (i_W : PySem.W.isFn K (.ref f_W) = true)
    (g1 : PySem.W.nsIn K mainGlobals "FIGURES" = some (some (.str "12345678" t1)))
    (g2 : PySem.W.nsIn K mainGlobals "STRAINS" = some (some (.str "abcdn" t2)))
    (g3 : PySem.W.nsIn K mainGlobals "NO_TRUMPS" = some (some (.int 4 t3)))
    (z1 : PySem.W.nsIn K mainGlobals "len" = some none)
    (z2 : PySem.W.nsIn K mainGlobals "isinstance" = some none)
    (z3 : PySem.W.nsIn K mainGlobals "str" = some none)
    (z4 : PySem.W.nsIn K mainGlobals "tuple" = some none)
    (z5 : PySem.W.nsIn K mainGlobals "enumerate" = some none)
    (z6 : PySem.W.nsIn K mainGlobals "min" = some none)
    (z7 : PySem.W.nsIn K mainGlobals "max" = some none)
    (z8 : PySem.W.nsIn K mainGlobals "int" = some none)
    (z9 : PySem.W.nsIn K mainGlobals "bool" = some none)
    (z10 : PySem.W.nsIn K mainGlobals "range" = some none)
    (z11 : PySem.W.nsIn K mainGlobals "ValueError" = some none)
    (hCN : PySem.W.nsIn K mainGlobals "NoCall" = some (some (.ref CN)))
    (hCA : PySem.W.nsIn K mainGlobals "Auction" = some (some (.ref CA)))
    (x1 : PySem.W.excIn K CN veTail "ValueError.__new__" = true)
    (pgCA : PySem.W.plainGet K CA Str.empty = true)
    (hdCA : PySem.W.hasDictIn K CA = true)
    (poCA : PySem.W.plainOver K CA = true)
    (saCA : PySem.W.findIn K (.ref CA) "__setattr__" = some (some (.builtin "object.__setattr__")))
    (mkCA : PySem.W.makesIn K CA = true)
    (kcCA : PySem.W.keepIn K (.ref CA) = true)
    (nA1 : PySem.W.findIn K (.ref CA) "seats" = some none)
    (nA2 : PySem.W.findIn K (.ref CA) "caller" = some none)
    (nA3 : PySem.W.findIn K (.ref CA) "passes" = some none)
    (nA4 : PySem.W.findIn K (.ref CA) "bids" = some none)
    (nA5 : PySem.W.findIn K (.ref CA) "times" = some none)
    (w1 : PySem.W.nsIn K mainGlobals "WORDS" = some (some (.ref aW)))
    (w2 : K.lookup aW = some ⟨.type "tuple", wd, .seq #[.str "pass" tw1, .str "double" tw2, .str "again" tw3] wn, wsl⟩)
    (w3 : K.lookup dT = some ⟨dtc, dtd, .seq #[.int 0 tz] dtn, dts⟩)
    (hCT : PySem.W.nsIn K mainGlobals "TrickError" = some (some (.ref CT)))
    (hCW : PySem.W.nsIn K mainGlobals "NotNow" = some (some (.ref CW)))
    (hCc1 : PySem.W.nsIn K mainGlobals "BadPlay" = some (some (.ref Cc1)))
    (hCc2 : PySem.W.nsIn K mainGlobals "NoCard" = some (some (.ref Cc2)))
    (hCc3 : PySem.W.nsIn K mainGlobals "NoDeal" = some (some (.ref Cc3)))
    (hCc4 : PySem.W.nsIn K mainGlobals "NoHand" = some (some (.ref Cc4)))
    (hCc5 : PySem.W.nsIn K mainGlobals "NoPlay" = some (some (.ref Cc5)))
    (hCc6 : PySem.W.nsIn K mainGlobals "NoRow" = some (some (.ref Cc6)))
    (hCc7 : PySem.W.nsIn K mainGlobals "NoShare" = some (some (.ref Cc7)))
    (hCc8 : PySem.W.nsIn K mainGlobals "NoSheet" = some (some (.ref Cc8)))
    (hCc9 : PySem.W.nsIn K mainGlobals "NoTable" = some (some (.ref Cc9)))
    (hCe1 : PySem.W.nsIn K mainGlobals "NoRecord" = some (some (.ref Ce1)))
    (hCe2 : PySem.W.nsIn K mainGlobals "NotYet" = some (some (.ref Ce2)))
    (hCe3 : PySem.W.nsIn K mainGlobals "NoView" = some (some (.ref Ce3)))
    (hCe4 : PySem.W.nsIn K mainGlobals "TooMany" = some (some (.ref Ce4)))
    (hCe5 : PySem.W.nsIn K mainGlobals "TooMuch" = some (some (.ref Ce5)))
    (y5 : PySem.W.specialIn K (.builtin "object.__class__") "__get__" = some (some (.builtin "getset_descriptor.__get__")))
    (y6 : PySem.W.takesIn K (.builtin "object.__class__") = some true)
    (yN1 : PySem.W.clsIn K CN = some cdN)
    (yN2 : PySem.W.findIn K (.ref CN) "__getattribute__" = some (some (.builtin "BaseException.__getattribute__")))
    (yN3 : PySem.W.findIn K (.ref CN) "__getattr__" = some none)
    (yN4 : PySem.W.findIn K (.ref CN) "__class__" = some (some (.builtin "object.__class__")))
    (yN7 : PySem.W.mroIn K CN (.type "object") = some true)
    (yN8 : PySem.W.mroIn K CN (.type "BaseException") = some true)
    (jNT : PySem.W.kitOne K (.ref CN) (.ref CT) = some true)
    (jNV : PySem.W.kitOne K (.ref CN) (.type "ValueError") = some true)
    (jNA : PySem.W.kitAny K (.ref CN) [.ref Cc1, .ref Cc2, .ref Cc3, .ref Cc4, .ref Cc5, .ref Cc6, .ref Cc7, .ref Cc8, .ref Cc9] = some false)
    (jNB : PySem.W.kitAny K (.ref CN) [.ref Ce1, .ref Ce2, .ref Ce3, .ref Ce4, .ref Ce5] = some false)
    (jNN : PySem.W.kitOne K (.ref CN) (.ref CN) = some true)
    (jNW : PySem.W.kitOne K (.ref CN) (.ref CW) = some false)
    (yW1 : PySem.W.clsIn K CW = some cdW)
    (yW2 : PySem.W.findIn K (.ref CW) "__getattribute__" = some (some (.builtin "BaseException.__getattribute__")))
    (yW3 : PySem.W.findIn K (.ref CW) "__getattr__" = some none)
    (yW4 : PySem.W.findIn K (.ref CW) "__class__" = some (some (.builtin "object.__class__")))
    (yW7 : PySem.W.mroIn K CW (.type "object") = some true)
    (yW8 : PySem.W.mroIn K CW (.type "BaseException") = some true)
    (jWT : PySem.W.kitOne K (.ref CW) (.ref CT) = some true)
    (jWV : PySem.W.kitOne K (.ref CW) (.type "ValueError") = some true)
    (jWA : PySem.W.kitAny K (.ref CW) [.ref Cc1, .ref Cc2, .ref Cc3, .ref Cc4, .ref Cc5, .ref Cc6, .ref Cc7, .ref Cc8, .ref Cc9] = some false)
    (jWB : PySem.W.kitAny K (.ref CW) [.ref Ce1, .ref Ce2, .ref Ce3, .ref Ce4, .ref Ce5] = some false)
    (jWN : PySem.W.kitOne K (.ref CW) (.ref CN) = some false)
    (jWW : PySem.W.kitOne K (.ref CW) (.ref CW) = some true)
    (u1 : PySem.W.exmOne K (.ref CW) (.ref CW) = some true)
    (u2 : PySem.W.exmOne K (.ref CN) (.ref CW) = some false)
    (u3 : PySem.W.exmOne K (.ref CN) (.ref CN) = some true)
    (v1 : excInI K CW veTail "ValueError.__new__" f_W = true)
    (v2 : PySem.W.findIn K (.ref CW) "__setattr__" = some (some (.builtin "object.__setattr__")))
    (v3 : onlyTail cdW.mro = true)
    (v4 : PySem.W.hasDictIn K CW = true)
    (v5 : PySem.W.findIn K (.ref CW) "rule" = some none)
    : ∃ fd : FuncData, (∀ (s : Shared) (v : Value), BindsTo s fd ⟨[v], []⟩ [("_law_script", v)]) ∧ ∀ base : Heap, K.In base → base.Ns mainGlobals mg → FnOk l.prog w K mg base CX0 20 fa fd ["_law_script"] (spLaw K) := by
  have e := hfa.symm.trans (PySem.W.mg_of X G a18)
  cases e
  have F1 := fun_mk (st := sReadCall) l1 c1 k1
  have b1 := F1.binds (ps := ["text"]) fun _ _ _ _ _ _ us hl => match us, hl with | [_], _ => rfl
  have m1 := PySem.W.mg_of X G a1
  have F2 := fun_mk (st := sRankOf) l2 c2 k2
  have b2 := F2.binds (ps := ["strain"]) fun _ _ _ _ _ _ us hl => match us, hl with | [_], _ => rfl
  have m2 := PySem.W.mg_of X G a2
  have F3 := fun_mk (st := sAbove) l3 c3 k3
  have b3 := F3.binds (ps := ["bid", "other"]) fun _ _ _ _ _ _ us hl => match us, hl with | [_, _], _ => rfl
  have m3 := PySem.W.mg_of X G a3
  have F4 := fun_mk (st := sSide) l4 c4 k4
  have b4 := F4.binds (ps := ["seats", "seat"]) fun _ _ _ _ _ _ us hl => match us, hl with | [_, _], _ => rfl
  have m4 := PySem.W.mg_of X G a4
  have F5 := fun_mk (st := sCell) l5 c5 k5
  have b5 := F5.binds (ps := pCell) fun _ _ _ _ _ _ us hl => match us, hl with | [_, _], _ => rfl
  have m5 := PySem.W.mg_of X G a5
  have F6 := fun_mk (st := sLText) l6 c6 k6
  have b6 := F6.binds (ps := ["_law_rank_here"]) fun _ _ _ _ _ _ us hl => match us, hl with | [_], _ => rfl
  have m6 := PySem.W.mg_of X G a6
  have F7 := fun_mk (st := sLRank) l7 c7 k7
  have b7 := F7.binds (ps := ["_law_text_here"]) fun _ _ _ _ _ _ us hl => match us, hl with | [_], _ => rfl
  have m7 := PySem.W.mg_of X G a7
  have F8 := fun_mk (st := sLOver) l8 c8 k8
  have b8 := F8.binds (ps := ["_law_calls", "_law_seats"]) fun _ _ _ _ _ _ us hl => match us, hl with | [_, _], _ => rfl
  have m8 := PySem.W.mg_of X G a8
  have F9 := fun_mk (st := sLast) l9 c9 k9
  have b9 := F9.binds (ps := ["_law_calls"]) fun _ _ _ _ _ _ us hl => match us, hl with | [_], _ => rfl
  have m9 := PySem.W.mg_of X G a9
  have F10 := fun_mk (st := sOwn2) l10 c10 k10
  have b10 := F10.binds (ps := pOwn2) fun _ _ _ _ _ _ us hl => match us, hl with | [_, _, _], _ => rfl
  have m10 := PySem.W.mg_of X G a10
  have F11 := fun_mk (st := sLRule) l11 c11 k11
  have b11 := F11.binds (ps := ["_law_calls", "_law_seats", "_law_call"]) fun _ _ _ _ _ _ us hl => match us, hl with | [_, _, _], _ => rfl
  have m11 := PySem.W.mg_of X G a11
  have F12 := fun_mk (st := sDrawn) l12 c12 k12
  have b12 := F12.binds (ps := pDrawn) fun _ _ _ _ _ _ us hl => match us, hl with | [_, _], _ => rfl
  have m12 := PySem.W.mg_of X G a12
  have F13 := fun_mk (st := sLCon) l13 c13 k13
  have b13 := F13.binds (ps := ["_law_calls", "_law_seats", "_law_first"]) fun _ _ _ _ _ _ us hl => match us, hl with | [_, _, _], _ => rfl
  have m13 := PySem.W.mg_of X G a13
  have F14 := fun_mk (st := sDue) l14 c14 k14
  have b14 := F14.binds (ps := ["_law_calls", "_law_seats", "_law_text_here"]) fun _ _ _ _ _ _ us hl => match us, hl with | [_, _, _], _ => rfl
  have m14 := PySem.W.mg_of X G a14
  have F15 := fun_mk (st := sAsked) l15 c15 k15
  have b15 := F15.binds (ps := pAsked) fun _ _ _ _ _ _ us hl => match us, hl with | [_, _, _, _, _], _ => rfl
  have m15 := PySem.W.mg_of X G a15
  have F16 := fun_mk (st := sOthers) l16 c16 k16
  have b16 := F16.binds (ps := ["_law_e"]) fun _ _ _ _ _ _ us hl => match us, hl with | [_], _ => rfl
  have m16 := PySem.W.mg_of X G a16
  have F17 := fun_mk (st := sAnswer) l17 c17 k17
  have b17 := F17.binds (ps := ["_law_auction", "_law_text_here"]) fun _ _ _ _ _ _ us hl => match us, hl with | [_, _], _ => rfl
  have m17 := PySem.W.mg_of X G a17
  have F18 := fun_mk (st := sLaw) l18 c18 k18
  have m18 := PySem.W.mg_of X G a18
  have F_I := funD_mk (st := sAuInit) l_I c_I k_I
  have m_I : Meth K CA "__init__" f_I := ⟨a_I, i_I, k_I⟩
  have F_D := fun_mk (st := sDone) l_D c_D k_D
  have b_D := F_D.binds (ps := ["self"]) fun _ _ _ _ _ _ us hl => match us, hl with | [_], _ => rfl
  have m_D : Meth K CA "is_done" f_D := ⟨a_D, i_D, k_D⟩
  have F_O := fun_mk (st := sOwn) l_O c_O k_O
  have b_O := F_O.binds (ps := ["self"]) fun _ _ _ _ _ _ us hl => match us, hl with | [_], _ => rfl
  have m_O : Meth K CA "is_own_bid" f_O := ⟨a_O, i_O, k_O⟩
  have F_X := fun_mk (st := sDbl) l_X c_X k_X
  have b_X := F_X.binds (ps := ["self"]) fun _ _ _ _ _ _ us hl => match us, hl with | [_], _ => rfl
  have m_X : Meth K CA "may_double" f_X := ⟨a_X, i_X, k_X⟩
  have F_Y := fun_mk (st := sAgn) l_Y c_Y k_Y
  have b_Y := F_Y.binds (ps := ["self"]) fun _ _ _ _ _ _ us hl => match us, hl with | [_], _ => rfl
  have m_Y : Meth K CA "may_again" f_Y := ⟨a_Y, i_Y, k_Y⟩
  have F_B := fun_mk (st := sBrk) l_B c_B k_B
  have b_B := F_B.binds (ps := ["self", "call"]) fun _ _ _ _ _ _ us hl => match us, hl with | [_, _], _ => rfl
  have m_B : Meth K CA "broken_rule" f_B := ⟨a_B, i_B, k_B⟩
  have F_S := fun_mk (st := sSay) l_S c_S k_S
  have b_S := F_S.binds (ps := ["self", "text"]) fun _ _ _ _ _ _ us hl => match us, hl with | [_, _], _ => rfl
  have m_S : Meth K CA "say" f_S := ⟨a_S, i_S, k_S⟩
  have F_N := fun_mk (st := sFirst) l_N c_N k_N
  have b_N := F_N.binds (ps := ["self", "strain", "side"]) fun _ _ _ _ _ _ us hl => match us, hl with | [_, _, _], _ => rfl
  have m_N : Meth K CA "first_to_name" f_N := ⟨a_N, i_N, k_N⟩
  have F_K := fun_mk (st := sContract) l_K c_K k_K
  have b_K := F_K.binds (ps := ["self"]) fun _ _ _ _ _ _ us hl => match us, hl with | [_], _ => rfl
  have m_K : Meth K CA "contract" f_K := ⟨a_K, i_K, k_K⟩
  have F_T := fun_mk (st := sTurn) l_T c_T k_T
  have b_T := F_T.binds (ps := ["self"]) fun _ _ _ _ _ _ us hl => match us, hl with | [_], _ => rfl
  have m_T : Meth K CA "turn" f_T := ⟨a_T, i_T, k_T⟩
  have F_W := fun_mk (st := sNotNow) l_W c_W k_W
  have b_W := F_W.binds (ps := ["self", "rule"]) fun _ _ _ _ _ _ us hl => match us, hl with | [_, _], _ => rfl
  have m_W : Meth K CW "__init__" f_W := ⟨a_W, i_W, k_W⟩
  have mg1 := PySem.W.mg_of X G g1
  have mg2 := PySem.W.mg_of X G g2
  have mg3 := PySem.W.mg_of X G g3
  have mn_len := PySem.W.mg_none_of X G z1
  have mn_isinstance := PySem.W.mg_none_of X G z2
  have mn_str := PySem.W.mg_none_of X G z3
  have mn_tuple := PySem.W.mg_none_of X G z4
  have mn_enumerate := PySem.W.mg_none_of X G z5
  have mn_min := PySem.W.mg_none_of X G z6
  have mn_max := PySem.W.mg_none_of X G z7
  have mn_int := PySem.W.mg_none_of X G z8
  have mn_bool := PySem.W.mg_none_of X G z9
  have mn_range := PySem.W.mg_none_of X G z10
  have mn_ValueError := PySem.W.mg_none_of X G z11
  refine ⟨PySem.W.fnOf "law" "law" (defArgs sLaw) (defBody sLaw) (defScope sLaw) .none kV18 dc18 pm18 an18 cd18 ct18, fun s v => .of_eq rfl, fun base _ _ => ?_⟩
  have mN := PySem.W.mg_of X G hCN
  have C : AuC K mg CA := ⟨⟨pgCA, hdCA, poCA, saCA⟩, PySem.W.mg_of X G hCA, nA1, nA2, nA3, nA4, nA5⟩
  have hW : ∀ H, SqT K H aW (vS W3) := fun H => .inr ⟨_, _, _, w2, rfl, rfl, fits3 3 (by decide), .cons ⟨_, rfl⟩ (.cons ⟨_, rfl⟩ (.cons ⟨_, rfl⟩ .nil))⟩
  have LR : ∀ k, LibX l.prog w K mg base (k + 1) "read_call" ["text"] (spReadCall K CN) f1 _ := fun k => ⟨ok_readCall F1 mg2 mg1 mg3 (PySem.W.mg_of X G w1) hW mN x1 mn_isinstance mn_str mn_len, b1, k1, m1⟩
  have LA : ∀ k, Lib l.prog w K mg base (k + 2) "above" ["bid", "other"] (spAbove K) f3 _ := fun k => ⟨ok_above (k := k + 1) F3 ⟨ok_rankOf F2 mg3, b2, k2, m2⟩, b3, k3, m3⟩
  have LSd : ∀ k, Lib l.prog w K mg base (k + 1) "side_of" ["seats", "seat"] spSide f4 _ := fun k => ⟨ok_side F4, b4, k4, m4⟩
  have B0 : Binds K _ ["self", "seats", "first"] [] := fun s us hX hl => match us, hl with | [_, _, _], _ => by first | exact .of_eq rfl | exact PySem.W.binds_K (fd := PySem.W.fnOf "__init__" "Auction.__init__" (defArgs sAuInit) (defBody sAuInit) (defScope sAuInit) (.ref dT) kV_I dc_I pm_I an_I cd_I ct_I) hX rfl w3 rfl rfl rfl
  have FD : ∀ k, FnOk l.prog w K mg base CX0 (k + 1) f_D _ ["self"] (spDone CA) := fun k => ok_done F_D C mn_len
  have FO : ∀ k, FnOk l.prog w K mg base CX0 (k + 2) f_O _ ["self"] (spOwn CA) := fun k => ok_own (k := k + 1) F_O C (LSd k)
  have FX : ∀ k, FnOk l.prog w K mg base CX0 (k + 3) f_X _ ["self"] (spMayD CA 1 false) := fun k => ok_dbl (k := k + 2) F_X C m_O (FO k) b_O mn_len
  have FY : ∀ k, FnOk l.prog w K mg base CX0 (k + 3) f_Y _ ["self"] (spMayD CA 2 true) := fun k => ok_agn (k := k + 2) F_Y C m_O (FO k) b_O mn_len
  have FB : ∀ k, FnOk l.prog w K mg base CX0 (k + 4) f_B _ ["self", "call"] (spBrk CA) := fun k => ok_brk (k := k + 3) F_B C m_D (FD (k + 2)) b_D m_X (FX k) b_X m_Y (FY k) b_Y (LA (k + 1)) mn_len mn_isinstance mn_tuple
  have LC : ∀ k, Lib l.prog w K mg base (k + 1) "_law_cell" pCell (spCell K) f5 _ := fun k => ⟨ok_cell F5 mn_len, b5, k5, m5⟩
  have LT : ∀ k, Lib l.prog w K mg base (k + 1) "_law_text" ["_law_rank_here"] spLText f6 _ := fun k => ⟨ok_ltext F6, b6, k6, m6⟩
  have LK : ∀ k, Lib l.prog w K mg base (k + 1) "_law_rank" ["_law_text_here"] spLRank f7 _ := fun k => ⟨ok_lrank F7, b7, k7, m7⟩
  have LO : ∀ k, Lib l.prog w K mg base (k + 1) "_law_over" ["_law_calls", "_law_seats"] (spLOver K) f8 _ := fun k => ⟨ok_lover F8 mn_len, b8, k8, m8⟩
  have LL : ∀ k, Lib l.prog w K mg base (k + 1) "_law_last" ["_law_calls"] (spLast K) f9 _ := fun k => ⟨ok_last F9 mn_enumerate, b9, k9, m9⟩
  have XCW : XC K mg CW f_W := ⟨PySem.W.mg_of X G hCW, v1, i_W, ⟨v2, (by unfold overX; rw [yW1]; exact v3), v4⟩, v5⟩
  have GX : GlX mg CT CN CW Cc1 Cc2 Cc3 Cc4 Cc5 Cc6 Cc7 Cc8 Cc9 Ce1 Ce2 Ce3 Ce4 Ce5 := ⟨PySem.W.mg_of X G hCT, PySem.W.mg_of X G hCN, PySem.W.mg_of X G hCW, PySem.W.mg_of X G hCc1, PySem.W.mg_of X G hCc2, PySem.W.mg_of X G hCc3, PySem.W.mg_of X G hCc4, PySem.W.mg_of X G hCc5, PySem.W.mg_of X G hCc6, PySem.W.mg_of X G hCc7, PySem.W.mg_of X G hCc8, PySem.W.mg_of X G hCc9, PySem.W.mg_of X G hCe1, PySem.W.mg_of X G hCe2, PySem.W.mg_of X G hCe3, PySem.W.mg_of X G hCe4, PySem.W.mg_of X G hCe5⟩
  have XN : ExK K CN CT CN CW Cc1 Cc2 Cc3 Cc4 Cc5 Cc6 Cc7 Cc8 Cc9 Ce1 Ce2 Ce3 Ce4 Ce5 := ⟨⟨by rw [yN1]; rfl, yN2, yN3, yN4, y5, y6, yN7, yN8⟩, jNT, jNV, jNA, jNB, _, _, jNN, jNW, rfl⟩
  have XW : ExK K CW CT CN CW Cc1 Cc2 Cc3 Cc4 Cc5 Cc6 Cc7 Cc8 Cc9 Ce1 Ce2 Ce3 Ce4 Ce5 := ⟨⟨by rw [yW1]; rfl, yW2, yW3, yW4, y5, y6, yW7, yW8⟩, jWT, jWV, jWA, jWB, _, _, jWN, jWW, rfl⟩
  have FS : FnOk l.prog w K mg base (CX1 l.prog w) 18 f_S _ ["self", "text"] (spSayX CA CN CW) := ok_say (k := 16) F_S C XCW (ok_nn (k := 15) F_W XCW) b_W m_B (FB 13) b_B (LR 16) mn_isinstance mn_tuple
  have FC : FnOk l.prog w K mg base CX0 18 f_K _ ["self"] (spCon CA) := ok_con (k := 17) F_K C (LSd 16) m_N (ok_first (k := 16) F_N C (LSd 15)) b_N mn_len
  have FT : FnOk l.prog w K mg base CX0 18 f_T _ ["self"] (spTurn CA) := ok_turn (k := 17) F_T C m_D (FD 16) b_D
  have LW : ∀ k, Lib l.prog w K mg base (k + 1) "_law_own" pOwn2 spOwn2 f10 _ := fun k => ⟨ok_own2 F10, b10, k10, m10⟩
  have LRu : Lib l.prog w K mg base 18 "_law_rule" ["_law_calls", "_law_seats", "_law_call"] (spRule K) f11 _ := ⟨ok_rule (k := 17) F11 (LL 16) (LO 16) (LK 16) (LW 16) mn_len, b11, k11, m11⟩
  have LCo : Lib l.prog w K mg base 18 "_law_contract" ["_law_calls", "_law_seats", "_law_first"] (spLCon K) f13 _ := ⟨ok_lcon (k := 17) F13 (LL 16) (LK 16) (LW 16) mn_enumerate, b13, k13, m13⟩
  exact ok_law (k := 18) F18 C (LC 18) ⟨ok_drawn (k := 18) F12 (LL 17) (LK 17) (LT 17) mn_min mn_max, b12, k12, m12⟩ ⟨ok_due (k := 18) F14 LRu mn_len, b14, k14, m14⟩
    ⟨ok_answer (k := 18) F17 C XCW GX XN XW u1 u2 u3 m_S FS b_S ⟨ok_others (k := 17) F16 GX mn_isinstance, b16, k16, m16⟩ mn_isinstance mn_ValueError, b17, k17, m17⟩
    ⟨ok_asked (k := 18) F15 C (LO 17) LCo m_D (FD 17) b_D m_T FT b_T m_K FC b_K mn_len mn_range mn_isinstance mn_bool, b15, k15, m15⟩
    ⟨mkCA, a_I, i_I, kcCA⟩ (ok_auInit (k := 17) F_I C) B0 mn_range mn_int
theorem walk {l : PySem.W.OpenLaw} {q : Program} {loose : List Str} {XP : (Str → Option Value) → Heap → Prop} {YP : World → Heap → Prop} {d : DefRec} {K : Params → PySem.W.Frag} (hn : l.most = some 63) (hdf : d.params.defaults = [])
    (hY : ∀ (w : World) (h : Heap), YP w h → (K w.params).In h)
    (F : ∀ (w : World) (mg : Str → Option Value) (fa : Addr) (h : Heap), (K w.params).In h → h.Ns mainGlobals mg → mg d.name = some (.ref fa) →
      ∃ fd : FuncData, (∀ (s : Shared) (u : Value), BindsTo s fd ⟨[u], []⟩ [("_law_script", u)]) ∧ ∀ base : Heap, (K w.params).In base → base.Ns mainGlobals mg → FnOk l.prog w (K w.params) mg base CX0 20 fa fd ["_law_script"] (spLaw (K w.params))) :
    PySem.W.WalkO q loose XP YP l.row.toRowW d [] (fun f vs => PySem.call f vs) :=
  L2.walk_of (n := 63) (k := 20) (x := "_law_script") (CX := fun _ => CX0) (sp := fun w => spLaw (K w.params)) hn (by decide) hdf ⟨rfl, by decide, by decide⟩ hY F (fun _ _ a ns hl _ hS => ⟨a, ns, rfl, hS, hl, fun _ => rfl⟩) fun _ _ _ _ _ z => z
end My
namespace PySem.W.Fast
theorem tw5744245207831074153 : True := trivial
theorem tw9482373311434203155 : True := trivial
theorem tw5205445967939677658 : True := trivial
theorem tw9364685824540513566 : True := trivial
theorem tw359809076992956142 : True := trivial
theorem tw7550516459561732706 : True := trivial
theorem tw17766564133427882379 : True := trivial
theorem tw7193160959979574158 : True := trivial
theorem tw16538921973799751615 : True := trivial
theorem tw341311023700366836 : True := trivial
theorem tw12409220339031950027 : True := trivial
theorem tw9862913153785999045 : True := trivial
theorem tw4964446994196676214 : True := trivial
theorem tw8392231771821723478 : True := trivial
theorem tw8390828664888035353 : True := trivial
theorem tw16713172655210784896 : True := trivial
theorem tw17801170767076451469 : True := trivial
theorem tw10549518760757395413 : True := trivial
theorem tw5245612124544044247 : True := trivial
theorem tw17769627202080634253 : True := trivial
theorem tw16952414487422482826 : True := trivial
theorem tw17145652097897149586 : True := trivial
theorem tw17658566852055089877 : True := trivial
theorem tw1400930606802950788 : True := trivial
theorem tw4657387863702073700 : True := trivial
theorem tw7297617807798511571 : True := trivial
theorem tw10878698676417696182 : True := trivial
theorem tw4526116801491705001 : True := trivial
theorem tw4128838541190655285 : True := trivial
theorem tw9922048692047725323 : True := trivial
theorem tw5682997769539940983 : True := trivial
theorem tw4674004768352411890 : True := trivial
theorem tw16575379904740033070 : True := trivial
theorem tw1275420269702455448 : True := trivial
theorem tw15220868264979601186 : True := trivial
theorem tw2197805248394861279 : True := trivial
theorem tw10514434361437328192 : True := trivial
theorem tw5847654746423192123 : True := trivial
theorem tw16048549757225634980 : True := trivial
theorem tw16273178789691041613 : True := trivial
theorem tw17293840421451167711 : True := trivial
theorem tw8256586427176092329 : True := trivial
theorem tw8443282687546332797 : True := trivial
theorem tw3061788189687412308 : True := trivial
theorem tw14855005606741847750 : True := trivial
theorem tw4702260447396087502 : True := trivial
theorem tw1401388904522632443 : True := trivial
theorem tw15787580145050310245 : True := trivial
theorem tw11986305421543645235 : True := trivial
theorem tw9614608551575676586 : True := trivial
theorem tw6086021431902893136 : True := trivial
theorem tw15795993958753277539 : True := trivial
theorem tw7804258620737627087 : True := trivial
theorem tw13417529845215917116 : True := trivial
theorem tw6086939710461682260 : True := trivial
theorem tw15947557721923826895 : True := trivial
theorem tw7642893968883664161 : True := trivial
theorem tw16398781412186999445 : True := trivial
theorem tw1708727253916475314 : True := trivial
theorem tw3803570645528493017 : True := trivial
theorem tw14144817784137120858 : True := trivial
theorem tw17124286920682368628 : True := trivial
theorem tw2681720219166128546 : True := trivial
theorem tw2907341687506763870 : True := trivial
theorem tw16582994856836412267 : True := trivial
theorem tw430314670779825647 : True := trivial
theorem tw16789130905672934990 : True := trivial
theorem tw1507109111478173438 : True := trivial
theorem tw3483321657876956035 : True := trivial
theorem tw16228148992984925911 : True := trivial
theorem tw14527127384639652405 : True := trivial
theorem tw12472893258404359983 : True := trivial
theorem tw12782402793987576170 : True := trivial
theorem tw9080743233817284397 : True := trivial
theorem tw11961440146062999775 : True := trivial
theorem tw5929523500419268607 : True := trivial
theorem tw3155810860693945451 : True := trivial
theorem tw8878798586724484772 : True := trivial
theorem tw4240272202294561322 : True := trivial
theorem tw1892576112921200727 : True := trivial
theorem tw5058757960065474007 : True := trivial
theorem tw5545593152405798733 : True := trivial
theorem tw6541084840913608142 : True := trivial
theorem tw5170512023708648062 : True := trivial
theorem tw1103116488469859131 : True := trivial
theorem tw3967898944013960916 : True := trivial
theorem tw18227815687765214281 : True := trivial
theorem tw7244256911936829178 : True := trivial
theorem tw7861691842322228724 : True := trivial
theorem tw31462915982178328 : True := trivial
theorem tw11045072969884641749 : True := trivial
theorem tw4244723162996231359 : True := trivial
theorem tw14724276218197047869 : True := trivial
theorem tw11914382311728755103 : True := trivial
theorem tw1291999022209699405 : True := trivial
theorem tw12522816174102916756 : True := trivial
theorem tw17864261992000683783 : True := trivial
theorem tw12041166948434071071 : True := trivial
theorem tw1867181077782971155 : True := trivial
theorem tw6917243414473040209 : True := trivial
theorem tw15236056277328119262 : True := trivial
theorem tw5336830122765631202 : True := trivial
theorem tw16030702424500698179 : True := trivial
theorem tw8836375226939880216 : True := trivial
theorem tw8590552128102660125 : True := trivial
theorem tw11703595216427479882 : True := trivial
theorem tw11009547033951841348 : True := trivial
theorem tw12903856176602585740 : True := trivial
theorem tw18034153744093568490 : True := trivial
theorem tw10422873259889677880 : True := trivial
theorem tw11686164982038940316 : True := trivial
theorem tw10831059599974856904 : True := trivial
theorem tw7426062576029249562 : True := trivial
theorem tw11996472383982039413 : True := trivial
theorem tw3077348496401375925 : True := trivial
theorem tw14592654081867591033 : True := trivial
theorem tw13539940426011658517 : True := trivial
theorem tw14267333006070011542 : True := trivial
theorem tw2163612443370891222 : True := trivial
theorem tw3182082077917781708 : True := trivial
theorem tw9785269379849039483 : True := trivial
theorem tw1249026917325677400 : True := trivial
theorem tw3314413955745567917 : True := trivial
theorem tw17663979505993899832 : True := trivial
theorem tw1751422267126273955 : True := trivial
theorem tw17417092734265048279 : True := trivial
theorem tw10265871556727143256 : True := trivial
theorem tw18240835401942129852 : True := trivial
theorem tw2287204638269737773 : True := trivial
theorem tw4619273099934866154 : True := trivial
theorem tw14801471053379784236 : True := trivial
theorem tw3011783440519187708 : True := trivial
theorem tw2089134153327758472 : True := trivial
theorem tw13164955471951747294 : True := trivial
theorem tw17901692189861498207 : True := trivial
theorem tw18306394787793597949 : True := trivial
theorem tw3442642879145352561 : True := trivial
theorem tw7877458597359649623 : True := trivial
theorem tw13229367675838183015 : True := trivial
theorem tw15590976896972990246 : True := trivial
theorem tw8898426619941997323 : True := trivial
theorem tw14148757067568360734 : True := trivial
theorem tw9258068840980670717 : True := trivial
theorem tw1257940982474451308 : True := trivial
theorem tw7739707655693051160 : True := trivial
theorem tw15991078930548860844 : True := trivial
theorem tw1578502048190042968 : True := trivial
theorem tw15412778215727690758 : True := trivial
theorem tw10442358233597878449 : True := trivial
theorem tw14015559608209257531 : True := trivial
theorem tw18020569369817124048 : True := trivial
theorem tw10532892191963172015 : True := trivial
theorem tw3919326863251844441 : True := trivial
theorem tw13369343320944254427 : True := trivial
theorem tw4754384857913677457 : True := trivial
theorem tw16689069077499116254 : True := trivial
theorem tw9891108677185512534 : True := trivial
theorem tw862435837356567460 : True := trivial
theorem tw110995149986396427 : True := trivial
theorem tw18178058419303204568 : True := trivial
theorem tw4315305099851808998 : True := trivial
theorem tw10939476780157747542 : True := trivial
theorem tw13219832154846730738 : True := trivial
theorem tw6923137397992875872 : True := trivial
theorem tw5432898049409414920 : True := trivial
theorem tw3272886357148524471 : True := trivial
theorem tw11239756725489896095 : True := trivial
theorem tw559409302977891393 : True := trivial
theorem tw9726572736586470581 : True := trivial
theorem tw15050984594220821314 : True := trivial
theorem tw2861663575796846422 : True := trivial
theorem tw5596956870593693529 : True := trivial
theorem tw13932420897780860191 : True := trivial
theorem tw4519395769823053455 : True := trivial
theorem tw11758422368555800862 : True := trivial
theorem tw4055716928395073356 : True := trivial
theorem tw10727150924948643507 : True := trivial
theorem tw5390132369360162870 : True := trivial
theorem tw4570598043878256668 : True := trivial
theorem tw7707754008513960342 : True := trivial
theorem tw4872167331070057059 : True := trivial
theorem tw18422676629787878203 : True := trivial
theorem tw50683992847703535 : True := trivial
theorem tw2837457682073699694 : True := trivial
theorem tw9928804960965354533 : True := trivial
theorem tw5523947264895573169 : True := trivial
theorem tw9677720277582210172 : True := trivial
theorem tw15951598736927258106 : True := trivial
theorem tw1238497931003804734 : True := trivial
theorem tw672628053299933463 : True := trivial
theorem tw1998137951614882391 : True := trivial
theorem tw6760984229854973365 : True := trivial
theorem tw7506872506252181699 : True := trivial
theorem tw8505457007542706149 : True := trivial
theorem tw327869553618878600 : True := trivial
theorem tw7454606679138672934 : True := trivial
theorem tw8491990647771521157 : True := trivial
theorem tw1631042418793656860 : True := trivial
theorem tw15561941670343428467 : True := trivial
theorem tw15824000132841118770 : True := trivial
theorem tw13705836404407657245 : True := trivial
theorem tw3821206629095563772 : True := trivial
theorem tw16083581492240752482 : True := trivial
theorem tw728807020135579504 : True := trivial
theorem tw16099807052570874944 : True := trivial
theorem tw14231536782760912110 : True := trivial
theorem tw14939786025993583435 : True := trivial
theorem tw16201987856043727588 : True := trivial
theorem tw1779141439231462709 : True := trivial
theorem tw6770885775339465992 : True := trivial
theorem tw3396197761188630043 : True := trivial
theorem tw8831317950530831612 : True := trivial
theorem tw9896341533360984597 : True := trivial
theorem tw15181237941759055045 : True := trivial
theorem tw11270960934843404928 : True := trivial
theorem tw15269596073391785049 : True := trivial
theorem tw14659901575198773983 : True := trivial
theorem tw3667434872213252973 : True := trivial
theorem tw14315804446724709606 : True := trivial
theorem tw13080553082196438333 : True := trivial
theorem tw1230447384050158297 : True := trivial
theorem tw1697388863496761228 : True := trivial
theorem tw1352139854314348329 : True := trivial
theorem tw13001275820646157089 : True := trivial
theorem tw4409448353896703057 : True := trivial
theorem tw13205691629122068429 : True := trivial
theorem tw10858397624103432920 : True := trivial
theorem tw8082850598065378765 : True := trivial
theorem tw2787526920085948118 : True := trivial
theorem tw6443344016761352298 : True := trivial
theorem tw9898754005152576734 : True := trivial
theorem tw1808051775626948276 : True := trivial
theorem tw2566878957693569245 : True := trivial
theorem tw9760434490758172853 : True := trivial
theorem tw1469212544070703417 : True := trivial
theorem tw5839133259217246053 : True := trivial
theorem tw7183811662680210499 : True := trivial
theorem tw2809443958430014855 : True := trivial
theorem tw10080501672744262241 : True := trivial
theorem tw7351556320367119961 : True := trivial
theorem tw15015323322492324743 : True := trivial
theorem tw12142391718359912190 : True := trivial
theorem tw16364003225850102238 : True := trivial
theorem tw16907283755299816518 : True := trivial
theorem tw5820135954692126778 : True := trivial
theorem tw6514023837829455133 : True := trivial
theorem tw14438726192179018131 : True := trivial
theorem tw1155382406606419554 : True := trivial
theorem tw6366053988094787608 : True := trivial
theorem tw14082188511386060972 : True := trivial
theorem tw16143322447641455209 : True := trivial
theorem tw11912686861119454584 : True := trivial
theorem tw7004747252346691781 : True := trivial
theorem tw1132571027188286272 : True := trivial
theorem tw17850061942662565784 : True := trivial
theorem tw15105370302370670 : True := trivial
theorem tw16074585798487283133 : True := trivial
theorem tw2362581292093477742 : True := trivial
theorem tw8791295913664702348 : True := trivial
theorem tw10353907341600226745 : True := trivial
theorem tw8028191927531713863 : True := trivial
theorem tw9405380625393554467 : True := trivial
theorem tw15001524679409293526 : True := trivial
theorem tw13961811611729166943 : True := trivial
theorem tw14547147647853348863 : True := trivial
theorem tw7386756812304025330 : True := trivial
theorem tw6454397953160065582 : True := trivial
theorem tw9587366690529531027 : True := trivial
theorem tw6215388236705790514 : True := trivial
theorem tw14534701414429723750 : True := trivial
theorem tw1928953289734217534 : True := trivial
theorem tw5030584118478667097 : True := trivial
theorem tw7939516718380420110 : True := trivial
theorem tw11489970174565849846 : True := trivial
theorem tw7906895315944829239 : True := trivial
theorem tw17449510269875875754 : True := trivial
theorem tw16711685561811378641 : True := trivial
theorem tw854558017329416189 : True := trivial
theorem tw1747006213613157852 : True := trivial
theorem tw7062604666395428835 : True := trivial
theorem tw11211055368146583011 : True := trivial
theorem tw8749706312065952676 : True := trivial
theorem tw3157620486853474563 : True := trivial
theorem tw1546263241327861664 : True := trivial
theorem tw14875012249228092453 : True := trivial
theorem tw17304090165972716052 : True := trivial
theorem tw1006751664126210429 : True := trivial
theorem tw2418967787507085814 : True := trivial
theorem tw6400188869998765204 : True := trivial
theorem tw4648083965563043110 : True := trivial
theorem tw16766085437907251714 : True := trivial
theorem tw5781923408342859502 : True := trivial
theorem tw5766203345819356779 : True := trivial
theorem tw10269290487995535966 : True := trivial
theorem tw5557582636130835324 : True := trivial
theorem tw7350275228971297523 : True := trivial
theorem tw2900607036923707800 : True := trivial
theorem tw6453962511259654198 : True := trivial
theorem tw2438900353546148865 : True := trivial
theorem tw3446382000207575465 : True := trivial
theorem tw6846122379768196183 : True := trivial
theorem tw9525434515564081972 : True := trivial
theorem tw2005735652057597696 : True := trivial
theorem tw18041592923313735957 : True := trivial
theorem tw10219317472564519418 : True := trivial
theorem tw16456330350587618163 : True := trivial
theorem tw2556130952525273121 : True := trivial
theorem tw14875360950720868208 : True := trivial
theorem tw5525416972993287332 : True := trivial
theorem tw15461557005176904123 : True := trivial
theorem tw3246573249025082087 : True := trivial
theorem tw1296321491152193290 : True := trivial
theorem tw12014686446386191242 : True := trivial
theorem tw12986400204221934308 : True := trivial
theorem tw14676909689116534585 : True := trivial
theorem tw4540003030868273295 : True := trivial
theorem tw813620194315925155 : True := trivial
theorem tw4245952338461484669 : True := trivial
theorem tw3705918948283762863 : True := trivial
theorem tw5572602549887551865 : True := trivial
theorem tw4424054060880982982 : True := trivial
theorem tw13514949599373305410 : True := trivial
theorem tw5829383040157035614 : True := trivial
theorem tw11973834445752178685 : True := trivial
theorem tw3772069663064900246 : True := trivial
theorem tw11609376300028522080 : True := trivial
theorem tw205903052322608944 : True := trivial
theorem tw5090641454948457269 : True := trivial
theorem tw5829007113027434004 : True := trivial
theorem tw10055125373615347506 : True := trivial
theorem tw15704515270807169929 : True := trivial
theorem tw17819578806132167075 : True := trivial
theorem tw6186493495734098063 : True := trivial
theorem tw14171844436973931119 : True := trivial
theorem tw836396555490197221 : True := trivial
theorem tw13126854910819394167 : True := trivial
theorem tw18237837179792472237 : True := trivial
theorem tw618887630591089768 : True := trivial
theorem tw7299396649546912592 : True := trivial
theorem tw11875999019896498825 : True := trivial
theorem tw11890881751329237103 : True := trivial
theorem tw1177147648667395091 : True := trivial
theorem tw14744168638018561544 : True := trivial
theorem tw2219414687181711272 : True := trivial
theorem tw7126876980762179640 : True := trivial
theorem tw4547451560002689848 : True := trivial
theorem tw6384197222226862166 : True := trivial
theorem tw7510416137653253660 : True := trivial
theorem tw8192700835873744049 : True := trivial
theorem tw18408687300954744256 : True := trivial
theorem tw9589931654762132985 : True := trivial
theorem tw9868018295828618458 : True := trivial
theorem tw348055361749956736 : True := trivial
theorem tw9865647062801484997 : True := trivial
theorem tw11760768439357484019 : True := trivial
theorem tw18269051959107407377 : True := trivial
theorem tw4830687364902754716 : True := trivial
theorem tw16251250226069351656 : True := trivial
theorem tw15257997480965248890 : True := trivial
theorem tw13062447755984558933 : True := trivial
theorem tw6962598571999665433 : True := trivial
theorem tw16507925085524913708 : True := trivial
theorem tw13406857153609295981 : True := trivial
theorem tw6320566472811296355 : True := trivial
theorem tw14748925197189870786 : True := trivial
theorem tw3406117856164567692 : True := trivial
theorem tw2490975722597652516 : True := trivial
theorem tw4629508271905600172 : True := trivial
theorem tw2921385073626751848 : True := trivial
theorem tw15470581031902806906 : True := trivial
theorem tw9876381517624255283 : True := trivial
theorem tw2930390371181377281 : True := trivial
theorem tw7512620561437402944 : True := trivial
theorem tw8501666683547734185 : True := trivial
theorem tw14398556018092960451 : True := trivial
theorem tw6191301049497076092 : True := trivial
theorem tw74149289908894429 : True := trivial
theorem tw12299167759330226882 : True := trivial
theorem tw10098570718939978820 : True := trivial
theorem tw15757231164582735655 : True := trivial
theorem tw15017226270359344563 : True := trivial
theorem tw9970711908621526561 : True := trivial
theorem tw11652899990221943954 : True := trivial
theorem tw5887727553346702643 : True := trivial
theorem tw876000800009099705 : True := trivial
theorem tw9012346987758006324 : True := trivial
theorem tw12271336075606822225 : True := trivial
theorem tw11401594039885728069 : True := trivial
theorem tw2978313474749233541 : True := trivial
theorem tw15308383678337240793 : True := trivial
theorem tw295638948848819520 : True := trivial
theorem tw12325737680161558482 : True := trivial
theorem tw2258409979282765191 : True := trivial
theorem tw8150402650244243619 : True := trivial
theorem tw15151636809854435627 : True := trivial
theorem tw9536307884948825754 : True := trivial
theorem tw2397722707111676125 : True := trivial
theorem tw6774224019487931842 : True := trivial
theorem tw6583071007085564193 : True := trivial
theorem tw16502842438323067330 : True := trivial
theorem tw15991469665875216501 : True := trivial
theorem tw8248205970017912487 : True := trivial
theorem tw18210261995153271941 : True := trivial
theorem tw6306399558108956767 : True := trivial
theorem tw8936533705605722857 : True := trivial
theorem tw11819523778787011595 : True := trivial
theorem tw16833930598654972070 : True := trivial
theorem tw3300524876587165644 : True := trivial
theorem tw8729116814529494442 : True := trivial
theorem tw11176955426848745211 : True := trivial
theorem tw5030880825788362907 : True := trivial
theorem tw2338878306402317943 : True := trivial
theorem tw372724246732997384 : True := trivial
theorem tw9226839661984083745 : True := trivial
theorem tw18390321438136965769 : True := trivial
theorem tw5112129769986737336 : True := trivial
theorem tw11883836252863689453 : True := trivial
theorem tw15139572422844926606 : True := trivial
theorem tw6613440032689816196 : True := trivial
theorem tw11746344012759739039 : True := trivial
theorem tw18022210148446552219 : True := trivial
theorem tw15933079905886149072 : True := trivial
theorem tw4213673480355133600 : True := trivial
theorem tw12141860115845103234 : True := trivial
theorem tw24334202119792161 : True := trivial
theorem tw16846114650668439286 : True := trivial
theorem tw11121892226633150407 : True := trivial
theorem tw4352755244711372940 : True := trivial
theorem tw493175682515674268 : True := trivial
theorem tw1745188222844491333 : True := trivial
theorem tw506632238511227421 : True := trivial
theorem tw14574251459697379981 : True := trivial
theorem tw16162353762443478601 : True := trivial
theorem tw14213186368608700085 : True := trivial
theorem tw2122374534630685480 : True := trivial
theorem tw1398560525422847267 : True := trivial
theorem tw14121854384161000450 : True := trivial
theorem tw8852163482510991439 : True := trivial
theorem tw5029688005476184101 : True := trivial
theorem tw9409346765668581151 : True := trivial
theorem tw17896637851970049559 : True := trivial
theorem tw17818166181836690998 : True := trivial
theorem tw4976001885807139007 : True := trivial
theorem tw3733602958730270234 : True := trivial
theorem tw12273899027504404855 : True := trivial
theorem tw4455195348392489620 : True := trivial
theorem tw5988641542205856279 : True := trivial
theorem tw10491636917465288928 : True := trivial
theorem tw11839804863697187764 : True := trivial
theorem tw5782773190222841593 : True := trivial
theorem tw11835115098834095446 : True := trivial
theorem tw8346256860735890860 : True := trivial
theorem tw5590765465989099312 : True := trivial
theorem tw16644051371843000794 : True := trivial
theorem tw17353079575898920367 : True := trivial
theorem tw618922347705281906 : True := trivial
theorem tw7434129905383196485 : True := trivial
theorem tw14228522413366625104 : True := trivial
theorem tw8795780846128555582 : True := trivial
theorem tw13465647395388142228 : True := trivial
theorem tw9450031983808898140 : True := trivial
theorem tw852257673886063364 : True := trivial
theorem tw3587600410606795492 : True := trivial
theorem tw7609059854296700081 : True := trivial
theorem tw5815300947209919621 : True := trivial
theorem tw15338241738999456736 : True := trivial
theorem tw9365803072415606446 : True := trivial
theorem tw1467772755718603767 : True := trivial
theorem tw9976335966124381494 : True := trivial
theorem tw1642616558731587109 : True := trivial
theorem tw15849733165116114918 : True := trivial
theorem tw7685972827376149216 : True := trivial
theorem tw6081364104981020857 : True := trivial
theorem tw7290350621445302290 : True := trivial
theorem tw13856607959283681116 : True := trivial
theorem tw8267670758860776131 : True := trivial
theorem tw10956885283257165540 : True := trivial
theorem tw14330252606750254241 : True := trivial
theorem tw3937423375997747670 : True := trivial
theorem tw5040091315199268722 : True := trivial
theorem tw15935977797140582466 : True := trivial
theorem tw3539425059876341448 : True := trivial
theorem tw1454283001643187912 : True := trivial
theorem tw14945642266796811459 : True := trivial
theorem tw1208422835920379095 : True := trivial
theorem tw11133443483638680947 : True := trivial
theorem tw10324384599612444856 : True := trivial
theorem tw14808380190631950149 : True := trivial
theorem tw427714493380927523 : True := trivial
theorem tw17086738416147124041 : True := trivial
theorem tw10720147169164998307 : True := trivial
theorem tw8318960236263698887 : True := trivial
theorem tw3343357228852786423 : True := trivial
theorem tw45957933434878481 : True := trivial
theorem tw8684363143285169080 : True := trivial
theorem tw4382043322655854337 : True := trivial
theorem tw4282855135777921102 : True := trivial
theorem tw8500335368427973233 : True := trivial
theorem tw10131638602986455570 : True := trivial
theorem tw16188392541395170237 : True := trivial
theorem tw17519374802381277780 : True := trivial
theorem tw1934623087136640841 : True := trivial
theorem tw5369649114488655232 : True := trivial
theorem tw13273204529021608735 : True := trivial
theorem tw1051492899750456383 : True := trivial
theorem tw14611952494054666038 : True := trivial
theorem tw5667255818909795253 : True := trivial
theorem tw15805973626880139273 : True := trivial
theorem tw3738176640255340693 : True := trivial
theorem tw18089705759538789551 : True := trivial
theorem tw7217076073464278539 : True := trivial
theorem tw3343141189436927248 : True := trivial
theorem tw199846280188637357 : True := trivial
theorem tw13961190150200858691 : True := trivial
theorem tw2501774602138682705 : True := trivial
theorem tw8852547412313619115 : True := trivial
theorem tw4486941409437818810 : True := trivial
theorem tw9446471516426471035 : True := trivial
theorem tw18160947139135930701 : True := trivial
theorem tw8143401577408668159 : True := trivial
theorem tw11287692075948988596 : True := trivial
theorem tw17721500856125011296 : True := trivial
theorem tw13003148833674765180 : True := trivial
theorem tw616501548213517266 : True := trivial
theorem tw3870823536899310528 : True := trivial
theorem tw17093036759102909280 : True := trivial
theorem tw7089085524163803597 : True := trivial
theorem tw8779812661503455316 : True := trivial
theorem tw2730474383250401684 : True := trivial
theorem tw9034224089785820778 : True := trivial
theorem tw16772388970398510932 : True := trivial
theorem tw14559994144990541643 : True := trivial
theorem tw11906781776683116976 : True := trivial
theorem tw8711942621492375941 : True := trivial
theorem tw16308583835198254124 : True := trivial
theorem tw10139870169802162177 : True := trivial
theorem tw4928009000086321250 : True := trivial
theorem tw10193779588944723450 : True := trivial
theorem tw2935861023225730244 : True := trivial
theorem tw10423973858107627437 : True := trivial
theorem tw5459986665089243622 : True := trivial
theorem tw7908404187105746883 : True := trivial
theorem tw3442328131858826081 : True := trivial
theorem tw7523117356620938404 : True := trivial
theorem tw13628886073364290819 : True := trivial
theorem tw773153694561667516 : True := trivial
theorem tw15631705386031036655 : True := trivial
theorem tw17714545736150458724 : True := trivial
theorem tw11988590627449694708 : True := trivial
theorem tw8247925534699958515 : True := trivial
theorem tw3960896270771382712 : True := trivial
theorem tw15050599816731461285 : True := trivial
theorem tw3572604815622004000 : True := trivial
theorem tw16119475406038016978 : True := trivial
theorem tw15176258188888667249 : True := trivial
theorem tw13776851361505995197 : True := trivial
theorem tw7689482798503859810 : True := trivial
theorem tw4614732013063183483 : True := trivial
theorem tw12109753598075221300 : True := trivial
theorem tw16424064843628665666 : True := trivial
theorem tw7439062044215434268 : True := trivial
theorem tw16671801880937462645 : True := trivial
theorem tw1392231307169051349 : True := trivial
theorem tw379641344676047059 : True := trivial
theorem tw12612058656744749150 : True := trivial
theorem tw18220075045042165784 : True := trivial
theorem tw7876525785497798990 : True := trivial
theorem tw3157454433415533928 : True := trivial
theorem tw5233875784010361957 : True := trivial
theorem tw16778938536191164774 : True := trivial
theorem tw8984830156020437068 : True := trivial
theorem tw4391252056254234489 : True := trivial
theorem tw9241003733630653582 : True := trivial
theorem tw10097610475660328379 : True := trivial
theorem tw12427990001882648101 : True := trivial
theorem tw17534104648210481688 : True := trivial
theorem tw471670651833861210 : True := trivial
theorem tw9737799087321754491 : True := trivial
theorem tw15247833580626192358 : True := trivial
theorem tw17832729813175705902 : True := trivial
theorem tw17810074629319685353 : True := trivial
theorem tw1711930009095187644 : True := trivial
theorem tw11161914184628870415 : True := trivial
theorem tw13110676079935117168 : True := trivial
theorem tw11018515631178231229 : True := trivial
theorem tw1016661098031957704 : True := trivial
theorem tw1322360194142089749 : True := trivial
theorem tw4981863724557253938 : True := trivial
theorem tw18021635261654598696 : True := trivial
theorem tw15733286737662966759 : True := trivial
theorem tw1739966203609111146 : True := trivial
theorem tw13896002841976216577 : True := trivial
theorem tw14302531887155345976 : True := trivial
theorem tw423641705213895417 : True := trivial
theorem tw2298477880666444419 : True := trivial
theorem tw6748539529021013425 : True := trivial
theorem tw13896900003416229683 : True := trivial
theorem tw6983561522487665454 : True := trivial
theorem tw2004521311795059549 : True := trivial
theorem tw7893210025150325235 : True := trivial
theorem tw14442910834877549299 : True := trivial
theorem tw16818061613896940866 : True := trivial
theorem tw11351588140911013514 : True := trivial
theorem tw101771434911541315 : True := trivial
theorem tw12688140776102997358 : True := trivial
theorem tw3406489385807670648 : True := trivial
theorem tw12711416971676034656 : True := trivial
theorem tw13301430016491290793 : True := trivial
theorem tw15800082758093979275 : True := trivial
theorem tw15650593134871446616 : True := trivial
theorem tw17042705622146037843 : True := trivial
theorem tw1189327903693751330 : True := trivial
theorem tw2604323737378704402 : True := trivial
theorem tw10074323844766360386 : True := trivial
theorem tw16481308776574201765 : True := trivial
theorem tw6205757088025606455 : True := trivial
theorem tw6105308299617457185 : True := trivial
theorem tw409371186759200657 : True := trivial
theorem tw7017317172337914927 : True := trivial
theorem tw4821247010071365733 : True := trivial
theorem tw8997537437246294595 : True := trivial
theorem tw4210500109189560723 : True := trivial
theorem tw2197424035657372068 : True := trivial
theorem tw10418831130177592110 : True := trivial
theorem tw7847544269377468268 : True := trivial
theorem tw7961175177166590091 : True := trivial
theorem tw7945601761488657601 : True := trivial
theorem tw6065444258100541337 : True := trivial
theorem tw8455442237837342844 : True := trivial
theorem tw6850686079607173226 : True := trivial
theorem tw15023271100377591614 : True := trivial
theorem tw4771033656443310524 : True := trivial
theorem tw8676621116036524563 : True := trivial
theorem tw3122669849933786837 : True := trivial
theorem tw9230142712887227479 : True := trivial
theorem tw2862541322077244903 : True := trivial
theorem tw9593615542276562806 : True := trivial
theorem tw10578594729999447655 : True := trivial
theorem tw7247455610122218814 : True := trivial
theorem tw5738856980537440522 : True := trivial
theorem tw6118391422378327307 : True := trivial
theorem tw8331512907844146313 : True := trivial
theorem tw11376054522219278394 : True := trivial
theorem tw4375139567432963775 : True := trivial
theorem tw641173902371570005 : True := trivial
theorem tw14431852888790484823 : True := trivial
theorem tw16741647824822616415 : True := trivial
theorem tw16564723566627273977 : True := trivial
theorem tw15306322663300774518 : True := trivial
theorem tw17206641586506007466 : True := trivial
theorem tw17362643617109556776 : True := trivial
theorem tw17001004290484558785 : True := trivial
theorem tw15167870485363921891 : True := trivial
theorem tw10674892546510568579 : True := trivial
theorem tw12982793027431040239 : True := trivial
theorem tw16633306618448344817 : True := trivial
theorem tw17558643479566009104 : True := trivial
theorem tw11276606883767000260 : True := trivial
theorem tw12993941337802148702 : True := trivial
theorem tw1849962135042943963 : True := trivial
theorem tw17840183518982971645 : True := trivial
theorem tw1987363468364482541 : True := trivial
theorem tw8181657092575686173 : True := trivial
theorem tw16041189178707408537 : True := trivial
theorem tw17200150271061009235 : True := trivial
theorem tw1879045803398979217 : True := trivial
theorem tw2877766100494651320 : True := trivial
theorem tw13692214115136299597 : True := trivial
theorem tw2803587496064949285 : True := trivial
theorem tw12754897287164222888 : True := trivial
theorem tw9274730924718003881 : True := trivial
theorem tw10800726734559323828 : True := trivial
theorem tw9431713711806016963 : True := trivial
theorem tw5134622482370412774 : True := trivial
theorem tw5132649501401844069 : True := trivial
theorem tw4605963357985386440 : True := trivial
theorem tw1560008420438288782 : True := trivial
theorem tw17566463406100098566 : True := trivial
theorem tw5138690893231325836 : True := trivial
theorem tw16518454920515232942 : True := trivial
theorem tw12393151165506029996 : True := trivial
theorem tw18301643467437155876 : True := trivial
theorem tw13990329228909775131 : True := trivial
theorem tw1555313206257202752 : True := trivial
theorem tw6501748225562286638 : True := trivial
theorem tw8076488881706661455 : True := trivial
theorem tw8747999088304901826 : True := trivial
theorem tw11474194591496395438 : True := trivial
theorem tw8572702699309003139 : True := trivial
theorem tw12395203953130064900 : True := trivial
theorem tw11936815974845896941 : True := trivial
theorem tw12845043546910041801 : True := trivial
theorem tw9781079305777042637 : True := trivial
theorem tw1843630176194829293 : True := trivial
theorem tw14805239364052143167 : True := trivial
theorem tw17705977927528541555 : True := trivial
theorem tw18161257582035326397 : True := trivial
theorem tw853484107896636305 : True := trivial
theorem tw4924266512231609952 : True := trivial
theorem tw3868550906562625264 : True := trivial
theorem tw14196603339391196911 : True := trivial
theorem tw5917121960895816773 : True := trivial
theorem tw1124211358058836346 : True := trivial
theorem tw17851258799319398248 : True := trivial
theorem tw287774079993132046 : True := trivial
theorem tw16779654044931572368 : True := trivial
theorem tw13159258860337068690 : True := trivial
theorem tw16603913073766292405 : True := trivial
theorem tw1309875988589097464 : True := trivial
theorem tw15267696670830165071 : True := trivial
theorem tw592596681158734691 : True := trivial
theorem tw852943004748980582 : True := trivial
theorem tw17023552086730037940 : True := trivial
theorem tw14740523069925772921 : True := trivial
theorem tw1916855194210298572 : True := trivial
theorem tw14690596410524387260 : True := trivial
theorem tw2870262683720818313 : True := trivial
theorem tw18051266577059454936 : True := trivial
theorem tw16015893093078351631 : True := trivial
theorem tw17305144307590188598 : True := trivial
theorem tw5479400726211000711 : True := trivial
theorem tw3779988744083605015 : True := trivial
theorem tw17094539255064625480 : True := trivial
theorem tw17562044910578500926 : True := trivial
theorem tw3656643959739521930 : True := trivial
theorem tw16444857043701290500 : True := trivial
theorem tw14234478919499626043 : True := trivial
theorem tw11834210408584267766 : True := trivial
theorem tw4628545142698083952 : True := trivial
theorem tw3536238196270099547 : True := trivial
theorem tw17275027735635130864 : True := trivial
theorem tw12471790433902887554 : True := trivial
theorem tw5903979402260059039 : True := trivial
theorem tw15292144073408296885 : True := trivial
theorem tw18029504456734500416 : True := trivial
theorem tw13958683963740441209 : True := trivial
theorem tw10125874377015268954 : True := trivial
theorem tw10184686596567464093 : True := trivial
theorem tw7643027149689773299 : True := trivial
theorem tw14193049856452552897 : True := trivial
theorem tw14099630138945825604 : True := trivial
theorem tw14845839454944180454 : True := trivial
theorem tw6219902322147187759 : True := trivial
theorem tw6207036817847600695 : True := trivial
theorem tw6509413822510670375 : True := trivial
theorem tw12068339572344332603 : True := trivial
theorem tw12552779158014025351 : True := trivial
theorem tw18297644156376530201 : True := trivial
theorem tw6222207064502223803 : True := trivial
theorem tw546530740345974867 : True := trivial
theorem tw14765074484727241068 : True := trivial
theorem tw17570917558589490120 : True := trivial
theorem tw1124306752662231074 : True := trivial
theorem tw16185149538049947571 : True := trivial
theorem tw12066477169571520918 : True := trivial
theorem tw4684784127035151605 : True := trivial
theorem tw3938905631038284531 : True := trivial
theorem tw1368580742485610516 : True := trivial
theorem tw10334809965283573159 : True := trivial
theorem tw13048928763418507918 : True := trivial
theorem tw6469816972042321755 : True := trivial
theorem tw3368216616480477950 : True := trivial
theorem tw16911504744255998203 : True := trivial
theorem tw4002684824451378118 : True := trivial
theorem tw11918903363687418098 : True := trivial
theorem tw9003551129685002665 : True := trivial
theorem tw2745834508060838518 : True := trivial
theorem tw1837396235692516574 : True := trivial
theorem tw6073439252655295106 : True := trivial
theorem tw3081232439919790255 : True := trivial
theorem tw14137943323261988912 : True := trivial
theorem tw16770791673716943313 : True := trivial
theorem tw16713322559734057934 : True := trivial
theorem tw15258413226768286123 : True := trivial
theorem tw10894180495197747275 : True := trivial
theorem tw3981201883197905103 : True := trivial
theorem tw5222161524615657380 : True := trivial
theorem tw17777760237709081991 : True := trivial
theorem tw18317970241315740057 : True := trivial
theorem tw10725012473034700191 : True := trivial
theorem tw13635526215032659236 : True := trivial
theorem tw18045337920493079006 : True := trivial
theorem tw16417763626556863549 : True := trivial
theorem tw15108105304054915913 : True := trivial
theorem tw8175314849196384098 : True := trivial
theorem tw5254860124328849136 : True := trivial
theorem tw10024615880969771294 : True := trivial
theorem tw7258228340878674611 : True := trivial
theorem tw7186758034899581320 : True := trivial
theorem tw1903516666488507000 : True := trivial
theorem tw15645399178088683491 : True := trivial
theorem tw10544003995883368703 : True := trivial
theorem tw237584158133633646 : True := trivial
theorem tw2737290860365434884 : True := trivial
theorem tw9876504689517652715 : True := trivial
theorem tw12003854438860661124 : True := trivial
theorem tw13193791459602754032 : True := trivial
theorem tw1032030403731723570 : True := trivial
theorem tw14115350859331642203 : True := trivial
theorem tw4878985835513065544 : True := trivial
theorem tw4575991073393998938 : True := trivial
theorem tw5850703237285281905 : True := trivial
theorem tw2761465963564115323 : True := trivial
theorem tw12954219550102254609 : True := trivial
theorem tw13477972907857313376 : True := trivial
theorem tw3211910896577640507 : True := trivial
theorem tw6262435267977879153 : True := trivial
theorem tw17318046765968712889 : True := trivial
theorem tw12781406190172951990 : True := trivial
theorem tw16521473161120319551 : True := trivial
theorem tw5020143299750278611 : True := trivial
theorem tw14692064979864615243 : True := trivial
theorem tw7353685488371021852 : True := trivial
theorem tw16436838653003067691 : True := trivial
theorem tw15320594204295780466 : True := trivial
theorem tw4219161075756173339 : True := trivial
theorem tw5083477432710482742 : True := trivial
theorem tw13319992178439749257 : True := trivial
theorem tw13766255610260899330 : True := trivial
theorem tw17679212603003092776 : True := trivial
theorem tw13082487198781973474 : True := trivial
theorem tw7272831504551206361 : True := trivial
theorem tw2561461647914796779 : True := trivial
theorem tw17734652659667122959 : True := trivial
theorem tw513521052474648745 : True := trivial
theorem tw7269932878992733398 : True := trivial
theorem tw7585968405166279324 : True := trivial
theorem tw16723970657411992190 : True := trivial
theorem tw10462886819200773451 : True := trivial
theorem tw11073941598515058719 : True := trivial
theorem tw10134537023969095648 : True := trivial
theorem tw13516101804236254327 : True := trivial
theorem tw5472984982875769505 : True := trivial
theorem tw17631542288031800388 : True := trivial
theorem tw15621849636704312068 : True := trivial
theorem tw8145209813598056507 : True := trivial
theorem tw6046406355499939378 : True := trivial
theorem tw7030635378938413732 : True := trivial
theorem tw16831799203986408378 : True := trivial
theorem tw16970796647141057753 : True := trivial
theorem tw12925007549602663556 : True := trivial
theorem tw16482203294515635187 : True := trivial
theorem tw9437110449236392290 : True := trivial
theorem tw5468569408427751903 : True := trivial
theorem tw11056429624481313635 : True := trivial
theorem tw6116892516052352671 : True := trivial
theorem tw12611502072545413587 : True := trivial
theorem tw14579684361773372200 : True := trivial
theorem tw8820214779679968454 : True := trivial
theorem tw7667489682435681249 : True := trivial
theorem tw12071305638011113505 : True := trivial
theorem tw1898598932799150564 : True := trivial
theorem tw7980137408990465496 : True := trivial
theorem tw8420332191486574999 : True := trivial
theorem tw4699348150931077883 : True := trivial
theorem tw12497435497371528518 : True := trivial
theorem tw13619472409533421806 : True := trivial
theorem tw685373961762654705 : True := trivial
theorem tw2164426817919695292 : True := trivial
theorem tw11583597525132914388 : True := trivial
theorem tw17223062268064773315 : True := trivial
theorem tw14497355869190224112 : True := trivial
theorem tw6768359703351868193 : True := trivial
theorem tw10769478763357887681 : True := trivial
theorem tw17585726159326528541 : True := trivial
theorem tw11152429804473601580 : True := trivial
theorem tw10213112621782655157 : True := trivial
theorem tw11055364617902023285 : True := trivial
theorem tw9420582577981152056 : True := trivial
theorem tw1031453524275978552 : True := trivial
theorem tw16368190878069654152 : True := trivial
theorem tw5528838876859305415 : True := trivial
theorem tw8444300999572787839 : True := trivial
theorem tw7946030160239196588 : True := trivial
theorem tw10778032149608568001 : True := trivial
theorem tw11759678164787244203 : True := trivial
theorem tw3420055320496575539 : True := trivial
theorem tw18022169279274675134 : True := trivial
theorem tw2393829471949607705 : True := trivial
theorem tw3275445856807737000 : True := trivial
theorem tw14773483088443208169 : True := trivial
theorem tw9416755515796625025 : True := trivial
theorem tw14722664356393708752 : True := trivial
theorem tw3968561331046090553 : True := trivial
theorem tw15013341046607181965 : True := trivial
theorem tw681696277199812143 : True := trivial
theorem tw12668585177638928634 : True := trivial
theorem tw18040388581890401666 : True := trivial
theorem tw12143616780654943292 : True := trivial
theorem tw4185796546859308267 : True := trivial
theorem tw17464462684742838965 : True := trivial
theorem tw7335275203504215245 : True := trivial
theorem tw7791769660791492119 : True := trivial
theorem tw10771018962107612508 : True := trivial
theorem tw4102877776083952662 : True := trivial
theorem tw12888700901872527048 : True := trivial
theorem tw17852805602379406700 : True := trivial
theorem tw5796983183804389570 : True := trivial
theorem tw12157246663608562515 : True := trivial
theorem tw14179303249107530559 : True := trivial
theorem tw2952265999459713085 : True := trivial
theorem tw13888488174464611095 : True := trivial
theorem tw12422650431670367254 : True := trivial
theorem tw6955080960985449916 : True := trivial
theorem tw13733658302195561 : True := trivial
theorem tw13531521383155514131 : True := trivial
theorem tw12936459220877123778 : True := trivial
theorem tw17439235856371585920 : True := trivial
theorem tw7779177257310245342 : True := trivial
theorem tw18172197862333348311 : True := trivial
theorem tw13754725326921525592 : True := trivial
theorem tw10241703916815909168 : True := trivial
theorem tw979852693471079101 : True := trivial
theorem tw8883107644587311246 : True := trivial
theorem tw1492648358610183090 : True := trivial
theorem tw16018916590289719081 : True := trivial
theorem tw14121827479720522955 : True := trivial
theorem tw544255143973745077 : True := trivial
theorem tw3351410855651791003 : True := trivial
theorem tw18168972321683992280 : True := trivial
theorem tw15489078536325897409 : True := trivial
theorem tw10244999556507230217 : True := trivial
theorem tw834814383317567723 : True := trivial
theorem tw5801402559650873538 : True := trivial
theorem tw10035598261248112465 : True := trivial
theorem tw5909566592921036928 : True := trivial
theorem tw11647133855326076609 : True := trivial
theorem tw5488699947432331426 : True := trivial
theorem tw8103482136477071958 : True := trivial
theorem tw13101156636415211078 : True := trivial
theorem tw1596548564933457459 : True := trivial
theorem tw13581920725857962872 : True := trivial
theorem tw12957972079542243643 : True := trivial
theorem tw13084189768265536162 : True := trivial
theorem tw2304394942230188133 : True := trivial
theorem tw2352112102729215512 : True := trivial
theorem tw12008787119555896348 : True := trivial
theorem tw13739769103657788554 : True := trivial
theorem tw13802234413743322312 : True := trivial
theorem tw13851031043296199675 : True := trivial
theorem tw17558014260419277881 : True := trivial
theorem tw18066065234810354632 : True := trivial
theorem tw1328211656253971048 : True := trivial
theorem tw13083980579926709979 : True := trivial
theorem tw10480296164205142344 : True := trivial
theorem tw2398664864598434271 : True := trivial
theorem tw18016820235574054466 : True := trivial
theorem tw1021215995673206214 : True := trivial
theorem tw10574686388382678408 : True := trivial
theorem tw15685534749520502704 : True := trivial
theorem tw11343555791250039806 : True := trivial
theorem tw6302068133685379614 : True := trivial
theorem tw7395232265444021742 : True := trivial
theorem tw12361692841092298725 : True := trivial
theorem tw10957090281246374431 : True := trivial
theorem tw14161767632252220365 : True := trivial
theorem tw2430740242225060765 : True := trivial
theorem tw95755721491496675 : True := trivial
theorem tw10095534231701236890 : True := trivial
theorem tw12660610576141001732 : True := trivial
theorem tw15688000964731274668 : True := trivial
theorem tw15545933464402402442 : True := trivial
theorem tw4398256275296747249 : True := trivial
theorem tw16226716958105826899 : True := trivial
theorem tw11431014625519334443 : True := trivial
theorem tw18326743849271387306 : True := trivial
theorem tw7407400154473328933 : True := trivial
theorem tw7044017577841636508 : True := trivial
theorem tw6141771733201260778 : True := trivial
theorem tw9220574367922661494 : True := trivial
theorem tw5520070552743354489 : True := trivial
theorem tw4432740020601833856 : True := trivial
theorem tw1647336907147780855 : True := trivial
theorem tw17436069861186827496 : True := trivial
theorem tw12112843631745859158 : True := trivial
theorem tw15443604090173463509 : True := trivial
theorem tw2885185906300045126 : True := trivial
theorem tw12441807530805573185 : True := trivial
theorem tw16593982803009304994 : True := trivial
theorem tw10146902789767305014 : True := trivial
theorem tw10134917509623963987 : True := trivial
theorem tw10551459949116793769 : True := trivial
theorem tw992096882971534826 : True := trivial
theorem tw3323281271192179295 : True := trivial
theorem tw330833898667262623 : True := trivial
theorem tw183379786528212325 : True := trivial
theorem tw4070310860152766175 : True := trivial
theorem tw15191707434524983939 : True := trivial
theorem tw5016371954201182893 : True := trivial
theorem tw7173317829609807177 : True := trivial
theorem tw15689343908187893918 : True := trivial
theorem tw231255944914085251 : True := trivial
theorem tw17400768650882356920 : True := trivial
theorem tw9804978250578063460 : True := trivial
theorem tw395495121597730088 : True := trivial
theorem tw12365859864769174720 : True := trivial
theorem tw4992693486592567191 : True := trivial
theorem tw9863601429838751262 : True := trivial
theorem tw1505883187377870385 : True := trivial
theorem tw17977091556524747939 : True := trivial
theorem tw4896176823027448111 : True := trivial
theorem tw1009372632811990276 : True := trivial
theorem tw10047342251484189272 : True := trivial
theorem tw16189360611209088246 : True := trivial
theorem tw935596615250577165 : True := trivial
theorem tw12562540212747509688 : True := trivial
theorem tw6520781250786845516 : True := trivial
theorem tw1586235948575408892 : True := trivial
theorem tw10328254634817747087 : True := trivial
theorem tw982048354693861271 : True := trivial
theorem tw2198184506514364611 : True := trivial
theorem tw17213797557140452977 : True := trivial
theorem tw8676689256062583121 : True := trivial
theorem tw3508349874909852145 : True := trivial
theorem tw8811517097838388934 : True := trivial
theorem tw13932182941819728885 : True := trivial
theorem tw1874338424126867495 : True := trivial
theorem tw15505042396059685383 : True := trivial
theorem tw11388537014446057825 : True := trivial
theorem tw2859254541844880881 : True := trivial
theorem tw17588509131747131042 : True := trivial
theorem tw14840513264825864350 : True := trivial
theorem tw10670357012670004315 : True := trivial
theorem tw158175827824129416 : True := trivial
theorem tw10673827668248239599 : True := trivial
theorem tw211207409356341003 : True := trivial
theorem tw1992156857269452323 : True := trivial
theorem tw2904545210866937544 : True := trivial
theorem tw14855866946981061642 : True := trivial
theorem tw133215889162415678 : True := trivial
theorem tw10971668316707912930 : True := trivial
theorem tw3433679891688892511 : True := trivial
theorem tw14388923663452859249 : True := trivial
theorem tw10459293925812670939 : True := trivial
theorem tw2923941063503464748 : True := trivial
theorem tw18415855546938616637 : True := trivial
theorem tw8343567246692345370 : True := trivial
theorem tw15796851045933727212 : True := trivial
theorem tw9178818369787166043 : True := trivial
theorem tw6931942873541100437 : True := trivial
theorem tw12101897347544066541 : True := trivial
theorem tw1051296435346571860 : True := trivial
theorem tw3656200563542056243 : True := trivial
theorem tw6253226716071623859 : True := trivial
theorem tw7338282971706825815 : True := trivial
theorem tw15829892112226897199 : True := trivial
theorem tw16706920422566320982 : True := trivial
theorem tw16669755046316791461 : True := trivial
theorem tw6274994259178435039 : True := trivial
theorem tw13576003868878245480 : True := trivial
theorem tw11136316220105524510 : True := trivial
theorem tw11198242607063584434 : True := trivial
theorem tw14710339860074754424 : True := trivial
theorem tw7322843074357556071 : True := trivial
theorem tw4778436994563342921 : True := trivial
theorem tw9865533039195595685 : True := trivial
theorem tw5852189131359149714 : True := trivial
theorem tw7178677893667112430 : True := trivial
theorem tw9550337749858735115 : True := trivial
theorem tw9978958469124500758 : True := trivial
theorem tw8559842467186112392 : True := trivial
theorem tw14799352111221245166 : True := trivial
theorem tw6455158907785605745 : True := trivial
theorem tw7856703819868598443 : True := trivial
theorem tw4229099898124923214 : True := trivial
theorem tw10234821953048004042 : True := trivial
theorem tw18056008677956444865 : True := trivial
theorem tw14845240485248104570 : True := trivial
theorem tw9156203910572051702 : True := trivial
theorem tw6060410540212544466 : True := trivial
theorem tw15990111445124417086 : True := trivial
theorem tw2433998610366721660 : True := trivial
theorem tw8854582305205579902 : True := trivial
theorem tw4732876152975884196 : True := trivial
theorem tw1601766349600534284 : True := trivial
theorem tw11270155359684666741 : True := trivial
theorem tw14008419523124364762 : True := trivial
theorem tw14018231520012664320 : True := trivial
theorem tw1897879073624855905 : True := trivial
theorem tw3395012146904699397 : True := trivial
theorem tw1041567219249174434 : True := trivial
theorem tw6565002524472050002 : True := trivial
theorem tw15408496613063008801 : True := trivial
theorem tw8339186818290848043 : True := trivial
theorem tw2816274038738269482 : True := trivial
theorem tw8355146506318558637 : True := trivial
theorem tw3540552915176624628 : True := trivial
theorem tw14259028101185605163 : True := trivial
theorem tw5439018472050840689 : True := trivial
theorem tw17310377574911680764 : True := trivial
theorem tw8190483875220499347 : True := trivial
theorem tw12227551583411979308 : True := trivial
theorem tw291005039866896553 : True := trivial
theorem tw3398431020137784983 : True := trivial
theorem tw351655470085695435 : True := trivial
theorem tw15566481143169296794 : True := trivial
theorem tw14661015568442775656 : True := trivial
theorem tw348633299162617631 : True := trivial
theorem tw5064096217620629763 : True := trivial
theorem tw3714494887774965773 : True := trivial
theorem tw11238769374753923229 : True := trivial
theorem tw9434754383753200280 : True := trivial
theorem tw4536847125464713586 : True := trivial
theorem tw16618945893098636520 : True := trivial
theorem tw807454247573657460 : True := trivial
theorem tw12514609000606148648 : True := trivial
theorem tw14546608414164971155 : True := trivial
theorem tw1550772015382116364 : True := trivial
theorem tw7914827141236505780 : True := trivial
theorem tw6385715944295648190 : True := trivial
theorem tw3331859425364921353 : True := trivial
theorem tw5161548563647153948 : True := trivial
theorem tw8911378193020965818 : True := trivial
theorem tw15118347108691426043 : True := trivial
theorem tw13280261600570850064 : True := trivial
theorem tw5424133228120125013 : True := trivial
theorem tw326048985489645569 : True := trivial
theorem tw15839989156407265181 : True := trivial
theorem tw8527114185588829806 : True := trivial
theorem tw719103460991856437 : True := trivial
theorem tw15178395743442318224 : True := trivial
theorem tw12033823960405571868 : True := trivial
theorem tw17426122069881299027 : True := trivial
theorem tw35234421763723079 : True := trivial
theorem tw15288669630420256723 : True := trivial
theorem tw9864652821414974246 : True := trivial
theorem tw8011798086522089781 : True := trivial
theorem tw11368917611404082784 : True := trivial
theorem tw15910244821028956430 : True := trivial
theorem tw15784580238120218083 : True := trivial
theorem tw8944628869073171370 : True := trivial
theorem tw15680213475034882026 : True := trivial
theorem tw12014870353931161418 : True := trivial
theorem tw12036854285032764376 : True := trivial
theorem tw10519396747449261931 : True := trivial
theorem tw375861785002340917 : True := trivial
theorem tw8214192937708650626 : True := trivial
theorem tw6671065683658025378 : True := trivial
theorem tw8070393561564859322 : True := trivial
theorem tw598148953833680781 : True := trivial
theorem tw13869536783285955195 : True := trivial
theorem tw12347053244796587766 : True := trivial
theorem tw128807742898980199 : True := trivial
theorem tw12580392447200691636 : True := trivial
theorem tw15117579436389932228 : True := trivial
theorem tw12610441034986430467 : True := trivial
theorem tw11563449122631809016 : True := trivial
theorem tw16249600374961910161 : True := trivial
theorem tw2067662308506392985 : True := trivial
theorem tw7048580202268712565 : True := trivial
theorem tw14165313107128118691 : True := trivial
theorem tw13547895525437380740 : True := trivial
theorem tw18337725447805847800 : True := trivial
theorem tw10954576144141815282 : True := trivial
theorem tw1476803918197454967 : True := trivial
theorem tw11076342641725899915 : True := trivial
theorem tw7092779178470864996 : True := trivial
theorem tw13010955853206582871 : True := trivial
theorem tw5803555705333027020 : True := trivial
theorem tw14356573590311147275 : True := trivial
theorem tw11865395642254188370 : True := trivial
theorem tw5689205007803143992 : True := trivial
theorem tw8893518992963723109 : True := trivial
theorem tw10507770928797355306 : True := trivial
theorem tw15750918015425680139 : True := trivial
theorem tw1906982777296131541 : True := trivial
theorem tw6112810241255220508 : True := trivial
theorem tw9527789583426672619 : True := trivial
theorem tw13856414882212405080 : True := trivial
theorem tw10857360910468519851 : True := trivial
theorem tw738927500424376145 : True := trivial
theorem tw17155258307929791997 : True := trivial
theorem tw17135505075196824943 : True := trivial
theorem tw17812158936276422648 : True := trivial
theorem tw3887702291660974002 : True := trivial
theorem tw870123664304348177 : True := trivial
theorem tw9771621750553031100 : True := trivial
theorem tw8489793066439531358 : True := trivial
theorem tw12688639544030051808 : True := trivial
theorem tw6881126793748036807 : True := trivial
theorem tw5737470909025483873 : True := trivial
theorem tw5962276381426842350 : True := trivial
theorem tw14762139851412035497 : True := trivial
theorem tw13579445365823643738 : True := trivial
theorem tw14888453192434268464 : True := trivial
theorem tw5205973995441762417 : True := trivial
theorem tw5592366167670959078 : True := trivial
theorem tw12384817348183627864 : True := trivial
theorem tw4467975267706124809 : True := trivial
theorem tw13365880547511575224 : True := trivial
theorem tw8203380851040793695 : True := trivial
theorem tw13296247399524817269 : True := trivial
theorem tw8506590683146124932 : True := trivial
theorem tw16446494345333442476 : True := trivial
theorem tw539962943208126261 : True := trivial
theorem tw6163446570620331792 : True := trivial
theorem tw14815139401652521060 : True := trivial
theorem tw3642420817570553164 : True := trivial
theorem tw1896139014994528593 : True := trivial
theorem tw17687587412791868100 : True := trivial
theorem tw11506906698422022672 : True := trivial
theorem tw5315948849199152241 : True := trivial
theorem tw6561259884120054392 : True := trivial
theorem tw3463829556644032724 : True := trivial
theorem tw14152643071902140389 : True := trivial
theorem tw14173398729883815612 : True := trivial
theorem tw10249203427385657484 : True := trivial
theorem tw4512322264178401042 : True := trivial
theorem tw10043482059295141475 : True := trivial
theorem tw1361631088820957990 : True := trivial
theorem tw15066395631805137920 : True := trivial
theorem tw7025450643111159186 : True := trivial
theorem tw13698664402261828156 : True := trivial
theorem tw8374214338960209635 : True := trivial
theorem tw17301591029041662917 : True := trivial
theorem tw12982582744870309911 : True := trivial
theorem tw7574311976074018155 : True := trivial
theorem tw16683910384437555854 : True := trivial
theorem tw15740538891235380251 : True := trivial
theorem tw5503421599124202017 : True := trivial
theorem tw14799078397459688797 : True := trivial
theorem tw733398541312767417 : True := trivial
theorem tw18407415860316944624 : True := trivial
theorem tw12592334069863862792 : True := trivial
theorem tw3936092616450782764 : True := trivial
theorem tw11094940194480132750 : True := trivial
theorem tw4008165098353610471 : True := trivial
theorem tw9287914610408716016 : True := trivial
theorem tw9883361533719264507 : True := trivial
theorem tw9892850673509628670 : True := trivial
theorem tw18239404726537632393 : True := trivial
theorem tw14898633641511143039 : True := trivial
theorem tw13122122410857397682 : True := trivial
theorem tw4448227460261386578 : True := trivial
theorem tw11723379062350891222 : True := trivial
theorem tw12103929112430438874 : True := trivial
theorem tw5231931385050596526 : True := trivial
theorem tw5519194080017059393 : True := trivial
theorem tw4678979949009059076 : True := trivial
theorem tw2417137050198513652 : True := trivial
theorem tw8878058819446215461 : True := trivial
theorem tw3474081602900525517 : True := trivial
theorem tw12809681920011522925 : True := trivial
theorem tw13070423609817184437 : True := trivial
theorem tw9351676461990291787 : True := trivial
theorem tw17494180429649714598 : True := trivial
theorem tw10931378455199082541 : True := trivial
theorem tw3910721898282461279 : True := trivial
theorem tw1238967593073793265 : True := trivial
theorem tw1931218811130030147 : True := trivial
theorem tw4626585584812961175 : True := trivial
theorem tw1237339747457417170 : True := trivial
theorem tw16032537541854718214 : True := trivial
theorem tw10481489401749700398 : True := trivial
theorem tw8454065672855742361 : True := trivial
theorem tw10232523247713037809 : True := trivial
theorem tw18046794860054408291 : True := trivial
theorem tw10919370844215759100 : True := trivial
theorem tw13704532743152706856 : True := trivial
theorem tw468448523683101354 : True := trivial
theorem tw3131238411193820955 : True := trivial
theorem tw2437108648647995146 : True := trivial
theorem tw9395675452474433638 : True := trivial
theorem tw11104555103733100476 : True := trivial
theorem tw3950696062641876228 : True := trivial
theorem tw15535036154520378685 : True := trivial
theorem tw13948702060457157866 : True := trivial
theorem tw3491456866510550041 : True := trivial
theorem tw6174236460512947278 : True := trivial
theorem tw15382609288028880835 : True := trivial
theorem tw17148347673372802831 : True := trivial
theorem tw2894907442716715147 : True := trivial
theorem tw6504389853910357814 : True := trivial
theorem tw17837214731357314646 : True := trivial
theorem tw10114797368713527104 : True := trivial
theorem tw4256620518316144667 : True := trivial
theorem tw2433923213306565973 : True := trivial
theorem tw7081702818214621978 : True := trivial
theorem tw5365453797278859700 : True := trivial
theorem tw7150273640585650400 : True := trivial
theorem tw8540088913926088992 : True := trivial
theorem tw7480809946486756547 : True := trivial
theorem tw3865871531520139511 : True := trivial
theorem tw11170272309987768675 : True := trivial
theorem tw2452844175159167425 : True := trivial
theorem tw10729829710739945513 : True := trivial
theorem tw14859750321405857442 : True := trivial
theorem tw7610794830963915553 : True := trivial
theorem tw17720147987006309794 : True := trivial
theorem tw6333706448695328338 : True := trivial
theorem tw2173083599898926596 : True := trivial
theorem tw12894830813453249022 : True := trivial
theorem tw17365684465825085677 : True := trivial
theorem tw859629291418796031 : True := trivial
theorem tw6441539495903043220 : True := trivial
theorem tw675766809877044815 : True := trivial
theorem tw5751056964231860864 : True := trivial
theorem tw8856567599468119548 : True := trivial
theorem tw8053385954954846329 : True := trivial
theorem tw4539310963725905083 : True := trivial
theorem tw7279807130383501059 : True := trivial
theorem tw9235357812062822685 : True := trivial
theorem tw8919185859610495052 : True := trivial
theorem tw7789792944170599915 : True := trivial
theorem tw14081163958391498004 : True := trivial
theorem tw13198025850051834033 : True := trivial
theorem tw1985330198784900262 : True := trivial
theorem tw1747848092608214774 : True := trivial
theorem tw3253100712887531174 : True := trivial
theorem tw7084496987885980524 : True := trivial
theorem tw4564695215630706820 : True := trivial
theorem tw15360331037859786772 : True := trivial
theorem tw6163681159452386070 : True := trivial
theorem tw7501013315070305248 : True := trivial
theorem tw17583364235735055143 : True := trivial
theorem tw1866145529087846381 : True := trivial
theorem tw10335875887393493624 : True := trivial
theorem tw2816523219612831072 : True := trivial
theorem tw156409510640124875 : True := trivial
theorem tw6247817058427101227 : True := trivial
theorem tw12597499618521867807 : True := trivial
theorem tw7823099515460795789 : True := trivial
theorem tw4994746968371664875 : True := trivial
theorem tw18438261476252996659 : True := trivial
theorem tw10544366161254290568 : True := trivial
theorem tw3191671773789522264 : True := trivial
theorem tw9784576194542128239 : True := trivial
theorem tw18106415076630669738 : True := trivial
theorem tw16297312583794953324 : True := trivial
theorem tw4083081499596307861 : True := trivial
theorem tw12222304527350548503 : True := trivial
theorem tw14198240885804165810 : True := trivial
theorem tw17594462001355587041 : True := trivial
theorem tw10546590574421799 : True := trivial
theorem tw8545871914444782616 : True := trivial
theorem tw11444976275731712990 : True := trivial
theorem tw3769657225306685282 : True := trivial
theorem tw11695971134548598139 : True := trivial
theorem tw131359276916550577 : True := trivial
theorem tw12665923344892173390 : True := trivial
theorem tw9660328727211152788 : True := trivial
theorem tw7359635162134867043 : True := trivial
theorem tw6180849561277199656 : True := trivial
theorem tw14170930383985229323 : True := trivial
theorem tw18116420085671790820 : True := trivial
theorem tw15599588613471017798 : True := trivial
theorem tw13817827448735356383 : True := trivial
theorem tw7381761871976962779 : True := trivial
theorem tw14016181934356681477 : True := trivial
theorem tw11112634126873574924 : True := trivial
theorem tw12990045182199488360 : True := trivial
theorem tw7417925387609443750 : True := trivial
theorem tw13833139844222427913 : True := trivial
theorem tw987329803234839882 : True := trivial
theorem tw18079073592954700179 : True := trivial
theorem tw14425291861213238134 : True := trivial
theorem tw4582779501084166813 : True := trivial
theorem tw13636844201818738241 : True := trivial
theorem tw2330413439997893028 : True := trivial
theorem tw13993437587017310037 : True := trivial
theorem tw18294491376974418236 : True := trivial
theorem tw1681872709534544796 : True := trivial
theorem tw18169157712689322026 : True := trivial
theorem tw9656778507935732557 : True := trivial
theorem tw16753035451117441105 : True := trivial
theorem tw13195049777597741536 : True := trivial
theorem tw6718682625386895160 : True := trivial
theorem tw14855835525638604242 : True := trivial
theorem tw15657988531257592487 : True := trivial
theorem tw17153371742046125667 : True := trivial
theorem tw371435937060162948 : True := trivial
theorem tw1195633697224902586 : True := trivial
theorem tw16798055298375187015 : True := trivial
theorem tw8292696007306985020 : True := trivial
theorem tw15227179895148686576 : True := trivial
theorem tw1651425592708754019 : True := trivial
theorem tw6698338986186582265 : True := trivial
theorem tw16099449781806334493 : True := trivial
theorem tw7283513357735690487 : True := trivial
theorem tw17553599597868843402 : True := trivial
theorem tw9394687235360159666 : True := trivial
theorem tw1812627319500088915 : True := trivial
theorem tw12876261994234495455 : True := trivial
theorem tw9504661519384429115 : True := trivial
theorem tw5874519769911998274 : True := trivial
theorem tw6563415280905929540 : True := trivial
theorem tw13010002446102942142 : True := trivial
theorem tw10396657268526183509 : True := trivial
theorem tw11221671356898698122 : True := trivial
theorem tw9695738013001265011 : True := trivial
theorem tw17841117070795962451 : True := trivial
theorem tw4742287918311986017 : True := trivial
theorem tw6674766744898293132 : True := trivial
theorem tw3117784106170811526 : True := trivial
theorem tw13934364270641129886 : True := trivial
theorem tw13325334195200442162 : True := trivial
theorem tw11182311594063163927 : True := trivial
theorem tw14416553182261848061 : True := trivial
theorem tw7197894541008455322 : True := trivial
theorem tw473269664721746623 : True := trivial
theorem tw503598723056474172 : True := trivial
theorem tw12715617603034568770 : True := trivial
theorem tw11763772574495099143 : True := trivial
theorem tw2183362598938690124 : True := trivial
theorem tw11846434480949731085 : True := trivial
theorem tw13953885930844819865 : True := trivial
theorem tw14355703204508214498 : True := trivial
theorem tw5484981256246699528 : True := trivial
theorem tw9707717421825320943 : True := trivial
theorem tw3541300698319749706 : True := trivial
theorem tw12519657789926939833 : True := trivial
theorem tw6679137206012804346 : True := trivial
theorem tw1871848792328764272 : True := trivial
theorem tw14535896363618918060 : True := trivial
theorem tw4710770872450218156 : True := trivial
theorem tw3154934672672756898 : True := trivial
theorem tw15753246078300887637 : True := trivial
theorem tw17604110951020835314 : True := trivial
theorem tw3409875394019281372 : True := trivial
theorem tw4304243913727704314 : True := trivial
theorem tw4845503543057155550 : True := trivial
theorem tw15170324169878551010 : True := trivial
theorem tw3738101966965314203 : True := trivial
theorem tw4144989664493314574 : True := trivial
theorem tw4886912313062117376 : True := trivial
theorem tw13924035711713981082 : True := trivial
theorem tw12286842983831708357 : True := trivial
theorem tw16471881171160842511 : True := trivial
theorem tw730385633727691963 : True := trivial
theorem tw1903344163167778992 : True := trivial
theorem tw13110868583356102208 : True := trivial
theorem tw11894741953260078901 : True := trivial
theorem tw12371449105464330874 : True := trivial
theorem tw3761671807888608308 : True := trivial
theorem tw8394656972762562634 : True := trivial
theorem tw4740389716108518179 : True := trivial
theorem tw9628648317250667636 : True := trivial
theorem tw18380337493154335705 : True := trivial
theorem tw461022968171680391 : True := trivial
theorem tw6810628234974753884 : True := trivial
theorem tw2929002735799141587 : True := trivial
theorem tw9159894751420405600 : True := trivial
theorem tw15018335109942559750 : True := trivial
theorem tw13083276753010837713 : True := trivial
theorem tw17741470711853655415 : True := trivial
theorem tw9020273863987519511 : True := trivial
theorem tw16181595702353101783 : True := trivial
theorem tw10710680962034691583 : True := trivial
theorem tw6306662268862250251 : True := trivial
theorem tw11951578258564446272 : True := trivial
theorem tw9191858559996742481 : True := trivial
theorem tw16406761950506542968 : True := trivial
theorem tw10696365846896583307 : True := trivial
theorem tw18381715782663894488 : True := trivial
theorem tw9611417813501283345 : True := trivial
theorem tw11671810767239063964 : True := trivial
theorem tw12494560814823920251 : True := trivial
theorem tw6136144797227613612 : True := trivial
theorem tw14469383760359747350 : True := trivial
theorem tw7592531756703282947 : True := trivial
theorem tw16907380970687151899 : True := trivial
theorem tw5982266144352355480 : True := trivial
theorem tw6660330537199488856 : True := trivial
theorem tw13992095023196481098 : True := trivial
theorem tw13561207858038478243 : True := trivial
theorem tw3305866662320199726 : True := trivial
theorem tw10901100759769367306 : True := trivial
theorem tw13752091783706426774 : True := trivial
theorem tw3564281540944891093 : True := trivial
theorem tw1542658726700544766 : True := trivial
theorem tw7466120901075826380 : True := trivial
theorem tw14326552885783568200 : True := trivial
theorem tw4496304942839995747 : True := trivial
theorem tw14933830076585048105 : True := trivial
theorem tw14091862181200973947 : True := trivial
theorem tw15152269328551239022 : True := trivial
theorem tw15788827894345998238 : True := trivial
theorem tw17328299094558757113 : True := trivial
theorem tw1114653022834300845 : True := trivial
theorem tw16869313427062141480 : True := trivial
theorem tw16665790003960323492 : True := trivial
theorem tw6029923695654917858 : True := trivial
theorem tw18069203260433741148 : True := trivial
theorem tw12600986010216094225 : True := trivial
theorem tw15606219168314923179 : True := trivial
theorem tw15578400237914811090 : True := trivial
theorem tw4509678854655583458 : True := trivial
theorem tw2548459759602212611 : True := trivial
theorem tw6717582873106837868 : True := trivial
theorem tw17963548628657788041 : True := trivial
theorem tw3820788696401627589 : True := trivial
theorem tw5964908837253292605 : True := trivial
theorem tw6190784393128114215 : True := trivial
theorem tw7009889478693258689 : True := trivial
theorem tw11298205347360674459 : True := trivial
theorem tw14089167591871752606 : True := trivial
theorem tw6100712154835559649 : True := trivial
theorem tw15489486234272205759 : True := trivial
theorem tw15811714464461476546 : True := trivial
theorem tw1035426270358011906 : True := trivial
theorem tw4560599296457752029 : True := trivial
theorem tw16706649938229716048 : True := trivial
theorem tw8727177341443096263 : True := trivial
theorem tw355407433687166923 : True := trivial
theorem tw6738840774909377472 : True := trivial
theorem tw16294712122599408151 : True := trivial
theorem tw272851860608885109 : True := trivial
theorem tw11051297524327207637 : True := trivial
theorem tw15719411918418267191 : True := trivial
theorem tw13813879593672706649 : True := trivial
theorem tw10261894680817633850 : True := trivial
theorem tw14146479312808454729 : True := trivial
theorem tw18211650332741719372 : True := trivial
theorem tw12579722553823366105 : True := trivial
theorem tw6004451695334766226 : True := trivial
theorem tw12818765118213690288 : True := trivial
theorem tw3914915864307523975 : True := trivial
theorem tw2017790586030127319 : True := trivial
theorem tw960993275604401556 : True := trivial
theorem tw16901517618215584992 : True := trivial
theorem tw13439354985704861688 : True := trivial
theorem tw16103018060706850618 : True := trivial
theorem tw1703987842909098464 : True := trivial
theorem tw15611678467854466917 : True := trivial
theorem tw10495924642859041140 : True := trivial
theorem tw4936891776866744566 : True := trivial
theorem tw9772718440666026769 : True := trivial
theorem tw15366078031748342081 : True := trivial
theorem tw12698108956351190989 : True := trivial
theorem tw11463695176629688881 : True := trivial
theorem tw5546185721886857761 : True := trivial
theorem tw11128740407533064150 : True := trivial
theorem tw3185710264750841601 : True := trivial
theorem tw7890466248923870503 : True := trivial
theorem tw2727664298498179686 : True := trivial
theorem tw11191674916867854059 : True := trivial
theorem tw11099624901801282615 : True := trivial
theorem tw101319152400123466 : True := trivial
theorem tw18335204551385715528 : True := trivial
theorem tw9713034553286485780 : True := trivial
theorem tw16200022519949144156 : True := trivial
theorem tw14392463708200848829 : True := trivial
theorem tw1010280222683096072 : True := trivial
theorem tw17210678078707420094 : True := trivial
theorem tw3889511838024280226 : True := trivial
theorem tw3849337814415810240 : True := trivial
theorem tw8762545028261094736 : True := trivial
theorem tw14417442138682594990 : True := trivial
theorem tw13340417599833002433 : True := trivial
theorem tw3656041167609247011 : True := trivial
theorem tw8183199367434031673 : True := trivial
theorem tw16609278622682699844 : True := trivial
theorem tw2185300393754175078 : True := trivial
theorem tw13609886827045402139 : True := trivial
theorem tw14209199291353892267 : True := trivial
theorem tw14412922624776614130 : True := trivial
theorem tw1819941454106275157 : True := trivial
theorem tw10985062790419488150 : True := trivial
theorem tw7435221519910733976 : True := trivial
theorem tw92561998403237193 : True := trivial
theorem tw4753958986481753601 : True := trivial
theorem tw7877134867206940982 : True := trivial
theorem tw6054487815652885246 : True := trivial
theorem tw16897267707351288015 : True := trivial
theorem tw5096370345418876747 : True := trivial
theorem tw11202200690438810352 : True := trivial
theorem tw17518972565789370335 : True := trivial
theorem tw11496090207480433990 : True := trivial
theorem tw14370345852830449965 : True := trivial
theorem tw2773887594528451328 : True := trivial
theorem tw13082069049696555173 : True := trivial
theorem tw17060699847180424727 : True := trivial
theorem tw5807099049728205521 : True := trivial
theorem tw11728261750616334580 : True := trivial
theorem tw4266020719537163639 : True := trivial
theorem tw12046880299614063172 : True := trivial
theorem tw9391084527709084115 : True := trivial
theorem tw8827184496043923534 : True := trivial
theorem tw8425845450260522609 : True := trivial
theorem tw8218871630383995655 : True := trivial
theorem tw7774278056857860378 : True := trivial
theorem tw17493650528898840851 : True := trivial
theorem tw3977746610938347242 : True := trivial
theorem tw10223986209047336478 : True := trivial
theorem tw3988367921647422720 : True := trivial
theorem tw17528416917421423897 : True := trivial
theorem tw16880888156177789478 : True := trivial
theorem tw4406250269152906498 : True := trivial
theorem tw15929621568018494735 : True := trivial
theorem tw7954486659910310973 : True := trivial
theorem tw17528214528924133684 : True := trivial
theorem tw9508632273503882633 : True := trivial
theorem tw3354512696034659285 : True := trivial
theorem tw10219867342308566088 : True := trivial
theorem tw8730909886343600072 : True := trivial
theorem tw18431108271355653356 : True := trivial
theorem tw10994748723574896919 : True := trivial
theorem tw18010710754049630832 : True := trivial
theorem tw3155495540308699799 : True := trivial
theorem tw5304010452392781737 : True := trivial
theorem tw12259150065981617875 : True := trivial
theorem tw6878516401371795706 : True := trivial
theorem tw12078588072897542082 : True := trivial
theorem tw14011821386858332848 : True := trivial
theorem tw3771294256748417571 : True := trivial
theorem tw8766017408088091501 : True := trivial
theorem tw13728740886674835784 : True := trivial
theorem tw8961922406284253813 : True := trivial
theorem tw13203680747514320532 : True := trivial
theorem tw2500604565704301682 : True := trivial
theorem tw11229807855626263014 : True := trivial
theorem tw6035169871755212060 : True := trivial
theorem tw9316895765009920959 : True := trivial
theorem tw3427263905780015088 : True := trivial
theorem tw10770044000707216255 : True := trivial
theorem tw15309942461588801557 : True := trivial
theorem tw1673344228835819861 : True := trivial
theorem tw1354436262552579619 : True := trivial
theorem tw5059664064689781638 : True := trivial
theorem tw16758644977203472499 : True := trivial
theorem tw17991405346662517996 : True := trivial
theorem tw5448033322192934301 : True := trivial
theorem tw678041837977051800 : True := trivial
theorem tw10221274888025643404 : True := trivial
theorem tw4955441820897789722 : True := trivial
theorem tw5789191152108234156 : True := trivial
theorem tw642318414466971759 : True := trivial
theorem tw968351062893879239 : True := trivial
theorem tw4192223246890401231 : True := trivial
theorem tw6585785393685075945 : True := trivial
theorem tw10746177978380385141 : True := trivial
theorem tw90344659223646800 : True := trivial
theorem tw6638275515698922798 : True := trivial
theorem tw18239565365899751872 : True := trivial
theorem tw15671359931250530607 : True := trivial
theorem tw5539592572765470106 : True := trivial
theorem tw3641028529418673617 : True := trivial
theorem tw9616335960442861018 : True := trivial
theorem tw16039854425043213027 : True := trivial
theorem tw5725661278768821747 : True := trivial
theorem tw17116747695121901674 : True := trivial
theorem tw8537711810727530322 : True := trivial
theorem tw16090691454086746749 : True := trivial
theorem tw1820793568385007107 : True := trivial
theorem tw9719039174528780987 : True := trivial
theorem tw12475762775542269526 : True := trivial
theorem tw13919812599116328277 : True := trivial
theorem tw13206928483478904023 : True := trivial
theorem tw18274819663877739603 : True := trivial
theorem tw12412861965815438430 : True := trivial
theorem tw14632113531171213180 : True := trivial
theorem tw7502153459014027096 : True := trivial
theorem tw10278411787812256654 : True := trivial
theorem tw4766090669937777719 : True := trivial
theorem tw3793588394446902076 : True := trivial
theorem tw14592764975924889694 : True := trivial
theorem tw536008729771687439 : True := trivial
theorem tw7253525990904458662 : True := trivial
theorem tw5934862254085359065 : True := trivial
theorem tw7165063539753815057 : True := trivial
theorem tw4727495795577928428 : True := trivial
theorem tw6143307265200458397 : True := trivial
theorem tw4210816743249433358 : True := trivial
theorem tw8577870112313292077 : True := trivial
theorem tw2305441248783569507 : True := trivial
theorem tw11536836747764969109 : True := trivial
theorem tw12443308357609025419 : True := trivial
theorem tw10081021175498900416 : True := trivial
theorem tw5300079484128407730 : True := trivial
theorem tw6366038677162005595 : True := trivial
theorem tw5640249227177621548 : True := trivial
theorem tw15130266633744604269 : True := trivial
theorem tw10821942513055225139 : True := trivial
theorem tw7894042347243183409 : True := trivial
theorem tw13258226144496810467 : True := trivial
theorem tw9241563768486872585 : True := trivial
theorem tw9218762811599592004 : True := trivial
theorem tw3935745230281867864 : True := trivial
theorem tw12044341688248101126 : True := trivial
theorem tw4552579458169675675 : True := trivial
theorem tw16877087264426796308 : True := trivial
theorem tw5190915088454954170 : True := trivial
theorem tw11941654923411255116 : True := trivial
theorem tw1443654643855038007 : True := trivial
theorem tw1556187644177431726 : True := trivial
theorem tw3811165259676899872 : True := trivial
theorem tw7334442912013549767 : True := trivial
theorem tw3917599222880733876 : True := trivial
theorem tw7356280543414350131 : True := trivial
theorem tw5056890322458658711 : True := trivial
theorem tw15833047284986660652 : True := trivial
theorem tw5085132466156736645 : True := trivial
theorem tw15860239211918877687 : True := trivial
theorem tw11157666371472939152 : True := trivial
theorem tw16272271359746160399 : True := trivial
theorem tw411724774253910830 : True := trivial
theorem tw9662739550345863920 : True := trivial
theorem tw1121972409246855867 : True := trivial
theorem tw11073601409811990614 : True := trivial
theorem tw8310984083935902115 : True := trivial
theorem tw50661473384223494 : True := trivial
theorem tw12380652995424465205 : True := trivial
theorem tw7569806388358491414 : True := trivial
theorem tw3568097251234288287 : True := trivial
theorem tw6716629667964189396 : True := trivial
theorem tw4502266378682674666 : True := trivial
theorem tw6096038206462652043 : True := trivial
theorem tw3466915028946231517 : True := trivial
theorem tw11695537468952868406 : True := trivial
theorem tw16559476224739621209 : True := trivial
theorem tw17665989777378377344 : True := trivial
theorem tw1203943236059001926 : True := trivial
theorem tw6158051931975615284 : True := trivial
theorem tw17904079439625689180 : True := trivial
theorem tw4966007512181284015 : True := trivial
theorem tw10353280430090362289 : True := trivial
theorem tw17799106373382840966 : True := trivial
theorem tw13685675251327760592 : True := trivial
theorem tw14339682585092985672 : True := trivial
theorem tw2036804491124725875 : True := trivial
theorem tw1154348628882468013 : True := trivial
theorem tw5691225579898029173 : True := trivial
theorem tw5800645741019832463 : True := trivial
theorem tw10525253530649984176 : True := trivial
theorem tw2585071581027116398 : True := trivial
theorem tw4219448519270125300 : True := trivial
theorem tw102312818396965015 : True := trivial
theorem tw15968438908020148668 : True := trivial
theorem tw5518000890364248612 : True := trivial
theorem tw14388750288824570102 : True := trivial
theorem tw16510383054237138375 : True := trivial
theorem tw14847431429872077397 : True := trivial
theorem tw10552158302119294452 : True := trivial
theorem tw13671372424216893514 : True := trivial
theorem tw14286277324779473723 : True := trivial
theorem tw3909427536844267483 : True := trivial
theorem tw5841472700058600654 : True := trivial
theorem tw13440206325574852312 : True := trivial
theorem tw7200377925247703693 : True := trivial
theorem tw14465929398518367487 : True := trivial
theorem tw16786421078728835231 : True := trivial
theorem tw4326235639602786531 : True := trivial
theorem tw17202621389765571767 : True := trivial
theorem tw6053053523071044664 : True := trivial
theorem tw15917920681270460802 : True := trivial
theorem tw11109848549585597921 : True := trivial
theorem tw11740617530441863014 : True := trivial
theorem tw7449991739688307092 : True := trivial
theorem tw4066483045243897344 : True := trivial
theorem tw18000207854363487905 : True := trivial
theorem tw11678340997913769932 : True := trivial
theorem tw8368389250266004284 : True := trivial
theorem tw5530478993973119836 : True := trivial
theorem tw7120947468229206044 : True := trivial
theorem tw2460789300751107869 : True := trivial
theorem tw7820053442407493976 : True := trivial
theorem tw10831242513080320491 : True := trivial
theorem tw11110735307620713087 : True := trivial
theorem tw16018647649675798062 : True := trivial
theorem tw6900941146896033386 : True := trivial
theorem tw4730002846471222932 : True := trivial
theorem tw11288906550484519913 : True := trivial
theorem tw10049015040058997284 : True := trivial
theorem tw13288846726961552573 : True := trivial
theorem tw4131845034568319987 : True := trivial
theorem tw5768778358266740601 : True := trivial
theorem tw3178727794451010102 : True := trivial
theorem tw9444088941272515273 : True := trivial
theorem tw8112016967675509772 : True := trivial
theorem tw6880502111765482772 : True := trivial
theorem tw13482884737339071152 : True := trivial
theorem tw2395334621004049874 : True := trivial
theorem tw475137826874857164 : True := trivial
theorem tw13450197642414751562 : True := trivial
theorem tw15761127410900624378 : True := trivial
theorem tw979418351178032093 : True := trivial
theorem tw2180144887974347925 : True := trivial
theorem tw15530961418511967826 : True := trivial
theorem tw5351916858460096082 : True := trivial
theorem tw2151409827699220630 : True := trivial
theorem tw16127109822413064 : True := trivial
theorem tw11252689465358637616 : True := trivial
theorem tw1452803164325469985 : True := trivial
theorem tw4504658700429767024 : True := trivial
theorem tw8245685709648566314 : True := trivial
theorem tw10753027654449035824 : True := trivial
theorem tw168004081605552404 : True := trivial
theorem tw16778854199247553707 : True := trivial
theorem tw15656270120996106462 : True := trivial
theorem tw1339304276421402860 : True := trivial
theorem tw10106876760443711364 : True := trivial
theorem tw2855272400390281606 : True := trivial
theorem tw15667640220508960570 : True := trivial
theorem tw17324399992966439057 : True := trivial
theorem tw12358581079077619213 : True := trivial
theorem tw8969397803531928120 : True := trivial
theorem tw3967377996117349658 : True := trivial
theorem tw12968108406865405558 : True := trivial
theorem tw5759090787010964845 : True := trivial
theorem tw17248943164520019059 : True := trivial
end PySem.W.Fast
open PySem PySem.W PyProof.Rows
set_option maxRecDepth 100000 in
set_option maxHeartbeats 0 in
theorem PySem.Challenge.cw_trickproof_k20_whole_callings_holds : PySem.Challenge.rw_trickproof_k20_whole_callings.Holds := by
  w_on; o_law; k_head; (case hw => w_witness2)
  k_fill
  refine My.walk (l := PySem.Challenge.rw_trickproof_k20_whole_callings) rfl rfl (fun w h Y => PySem.W.kIn_of Y) ?F
  case F =>
    intro w mg fa h KX G hmg
    refine' My.all_mk KX G hmg ?a1 ?l1 ?c1 ?k1 ?a2 ?l2 ?c2 ?k2 ?a3 ?l3 ?c3 ?k3 ?a4 ?l4 ?c4 ?k4 ?a5 ?l5 ?c5 ?k5 ?a6 ?l6 ?c6 ?k6 ?a7 ?l7 ?c7 ?k7 ?a8 ?l8 ?c8 ?k8 ?a9 ?l9 ?c9 ?k9 ?a10 ?l10 ?c10 ?k10 ?a11 ?l11 ?c11 ?k11 ?a12 ?l12 ?c12 ?k12 ?a13 ?l13 ?c13 ?k13 ?a14 ?l14 ?c14 ?k14 ?a15 ?l15 ?c15 ?k15 ?a16 ?l16 ?c16 ?k16 ?a17 ?l17 ?c17 ?k17 ?a18 ?l18 ?c18 ?k18 ?a_I ?l_I ?c_I ?k_I ?i_I ?a_D ?l_D ?c_D ?k_D ?i_D ?a_O ?l_O ?c_O ?k_O ?i_O ?a_X ?l_X ?c_X ?k_X ?i_X ?a_Y ?l_Y ?c_Y ?k_Y ?i_Y ?a_B ?l_B ?c_B ?k_B ?i_B ?a_S ?l_S ?c_S ?k_S ?i_S ?a_N ?l_N ?c_N ?k_N ?i_N ?a_K ?l_K ?c_K ?k_K ?i_K ?a_T ?l_T ?c_T ?k_T ?i_T ?a_W ?l_W ?c_W ?k_W ?i_W ?g1 ?g2 ?g3 ?z1 ?z2 ?z3 ?z4 ?z5 ?z6 ?z7 ?z8 ?z9 ?z10 ?z11 ?hCN ?hCA ?x1 ?pgCA ?hdCA ?poCA ?saCA ?mkCA ?kcCA ?nA1 ?nA2 ?nA3 ?nA4 ?nA5 ?w1 ?w2 ?w3 ?hCT ?hCW ?hCc1 ?hCc2 ?hCc3 ?hCc4 ?hCc5 ?hCc6 ?hCc7 ?hCc8 ?hCc9 ?hCe1 ?hCe2 ?hCe3 ?hCe4 ?hCe5 ?y5 ?y6 ?yN1 ?yN2 ?yN3 ?yN4 ?yN7 ?yN8 ?jNT ?jNV ?jNA ?jNB ?jNN ?jNW ?yW1 ?yW2 ?yW3 ?yW4 ?yW7 ?yW8 ?jWT ?jWV ?jWA ?jWB ?jWN ?jWW ?u1 ?u2 ?u3 ?v1 ?v2 ?v3 ?v4 ?v5
    (case hCN => k_is)
    (case hCA => k_is)
    (case w1 => k_is)
    (case hCT => k_is)
    (case hCW => k_is)
    (case hCc1 => k_is)
    (case hCc2 => k_is)
    (case hCc3 => k_is)
    (case hCc4 => k_is)
    (case hCc5 => k_is)
    (case hCc6 => k_is)
    (case hCc7 => k_is)
    (case hCc8 => k_is)
    (case hCc9 => k_is)
    (case hCe1 => k_is)
    (case hCe2 => k_is)
    (case hCe3 => k_is)
    (case hCe4 => k_is)
    (case hCe5 => k_is)
    (case a1 => k_is)
    (case l1 => k_is)
    (case c1 => k_is)
    (case k1 => k_is)
    (case a2 => k_is)
    (case l2 => k_is)
    (case c2 => k_is)
    (case k2 => k_is)
    (case a3 => k_is)
    (case l3 => k_is)
    (case c3 => k_is)
    (case k3 => k_is)
    (case a4 => k_is)
    (case l4 => k_is)
    (case c4 => k_is)
    (case k4 => k_is)
    (case a5 => k_is)
    (case l5 => k_is)
    (case c5 => k_is)
    (case k5 => k_is)
    (case a6 => k_is)
    (case l6 => k_is)
    (case c6 => k_is)
    (case k6 => k_is)
    (case a7 => k_is)
    (case l7 => k_is)
    (case c7 => k_is)
    (case k7 => k_is)
    (case a8 => k_is)
    (case l8 => k_is)
    (case c8 => k_is)
    (case k8 => k_is)
    (case a9 => k_is)
    (case l9 => k_is)
    (case c9 => k_is)
    (case k9 => k_is)
    (case a10 => k_is)
    (case l10 => k_is)
    (case c10 => k_is)
    (case k10 => k_is)
    (case a11 => k_is)
    (case l11 => k_is)
    (case c11 => k_is)
    (case k11 => k_is)
    (case a12 => k_is)
    (case l12 => k_is)
    (case c12 => k_is)
    (case k12 => k_is)
    (case a13 => k_is)
    (case l13 => k_is)
    (case c13 => k_is)
    (case k13 => k_is)
    (case a14 => k_is)
    (case l14 => k_is)
    (case c14 => k_is)
    (case k14 => k_is)
    (case a15 => k_is)
    (case l15 => k_is)
    (case c15 => k_is)
    (case k15 => k_is)
    (case a16 => k_is)
    (case l16 => k_is)
    (case c16 => k_is)
    (case k16 => k_is)
    (case a17 => k_is)
    (case l17 => k_is)
    (case c17 => k_is)
    (case k17 => k_is)
    (case a18 => k_is)
    (case l18 => k_is)
    (case c18 => k_is)
    (case k18 => k_is)
    (case a_I => k_is)
    (case l_I => k_is)
    (case c_I => k_is)
    (case k_I => k_is)
    (case i_I => k_is)
    (case a_D => k_is)
    (case l_D => k_is)
    (case c_D => k_is)
    (case k_D => k_is)
    (case i_D => k_is)
    (case a_O => k_is)
    (case l_O => k_is)
    (case c_O => k_is)
    (case k_O => k_is)
    (case i_O => k_is)
    (case a_X => k_is)
    (case l_X => k_is)
    (case c_X => k_is)
    (case k_X => k_is)
    (case i_X => k_is)
    (case a_Y => k_is)
    (case l_Y => k_is)
    (case c_Y => k_is)
    (case k_Y => k_is)
    (case i_Y => k_is)
    (case a_B => k_is)
    (case l_B => k_is)
    (case c_B => k_is)
    (case k_B => k_is)
    (case i_B => k_is)
    (case a_S => k_is)
    (case l_S => k_is)
    (case c_S => k_is)
    (case k_S => k_is)
    (case i_S => k_is)
    (case a_N => k_is)
    (case l_N => k_is)
    (case c_N => k_is)
    (case k_N => k_is)
    (case i_N => k_is)
    (case a_K => k_is)
    (case l_K => k_is)
    (case c_K => k_is)
    (case k_K => k_is)
    (case i_K => k_is)
    (case a_T => k_is)
    (case l_T => k_is)
    (case c_T => k_is)
    (case k_T => k_is)
    (case i_T => k_is)
    (case a_W => k_is)
    (case l_W => k_is)
    (case c_W => k_is)
    (case k_W => k_is)
    (case i_W => k_is)
    (case g1 => k_is)
    (case g2 => k_is)
    (case g3 => k_is)
    (case z1 => k_is)
    (case z2 => k_is)
    (case z3 => k_is)
    (case z4 => k_is)
    (case z5 => k_is)
    (case z6 => k_is)
    (case z7 => k_is)
    (case z8 => k_is)
    (case z9 => k_is)
    (case z10 => k_is)
    (case z11 => k_is)
    (case x1 => k_exc)
    (case pgCA => k_is)
    (case hdCA => k_is)
    (case poCA => k_is)
    (case saCA => k_is)
    (case mkCA => k_is)
    (case kcCA => k_is)
    (case nA1 => k_is)
    (case nA2 => k_is)
    (case nA3 => k_is)
    (case nA4 => k_is)
    (case nA5 => k_is)
    (case w2 => k_is)
    (case w3 => k_is)
    (case y5 => k_is)
    (case y6 => k_is)
    (case yN1 => k_is)
    (case yN2 => k_is)
    (case yN3 => k_is)
    (case yN4 => k_is)
    (case yN7 => k_is)
    (case yN8 => k_is)
    (case jNT => kit_is)
    (case jNV => kit_is)
    (case jNA => kit_is)
    (case jNB => kit_is)
    (case jNN => kit_is)
    (case jNW => kit_is)
    (case yW1 => k_is)
    (case yW2 => k_is)
    (case yW3 => k_is)
    (case yW4 => k_is)
    (case yW7 => k_is)
    (case yW8 => k_is)
    (case jWT => kit_is)
    (case jWV => kit_is)
    (case jWA => kit_is)
    (case jWB => kit_is)
    (case jWN => kit_is)
    (case jWW => kit_is)
    (case u1 => kts_exm)
    (case u2 => kts_exm)
    (case u3 => kts_exm)
    (case v1 => kernel_rfl)
    (case v2 => k_is)
    (case v3 => exact rfl)
    (case v4 => k_is)
    (case v5 => k_is)
#print axioms PySem.Challenge.cw_trickproof_k20_whole_callings_holds

