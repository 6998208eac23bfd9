import PyProof.Rows.All
import Wide.All
import OpenK.AllK
import Wide.FinOn
import Lean
import PyProof.EqAt
import PyProof.EqKinds
import PyProof.TupleCall
import PySem.Challenge.RW_conekin_k77_forms_not_written
set_option Elab.async false
set_option linter.all false
set_option maxRecDepth 100000
set_option genSizeOf false
noncomputable section
/-! THE HAND LAYER, for ints, bools, texts, own classes, LISTS and tuples (index, slices, in, append, pop ..), calls, loops. Paste it whole ahead of your own text; what your proof does not reach may be deleted. -/
namespace L2
open PySem PySem.Spec PyProof.Rows

/-- a key: an int or a str -/
abbrev Key := Sum Int Str
def keyIs : Key → Value → Bool
  | .inl k, v => Value.isInt k v
  | .inr x, v => Value.isStrOf x v
def keyH (w : World) : Key → Int
  | .inl k => hashInt k
  | .inr x => hashStr w x
theorem keyIs_shape : ∀ {k : Key} {v : Value}, keyIs k v = true → (∃ i t, k = Sum.inl i ∧ v = Value.int i t) ∨ (∃ x t, k = Sum.inr x ∧ v = Value.str x t)
  | .inl i, v, h => by
    obtain ⟨t, e⟩ := Value.isInt_shape (k := i) (v := v) h
    exact .inl ⟨i, t, rfl, e⟩
  | .inr x, v, h => by
    obtain ⟨t, e⟩ := Value.isStrOf_shape (x := x) (v := v) h
    exact .inr ⟨x, t, rfl, e⟩
theorem key_ll (a b : Int) : decide ((Sum.inl a : Key) = Sum.inl b) = (a == b) := by
  by_cases e : a = b
  · subst e; simp
  · have h : ¬ (Sum.inl a : Key) = Sum.inl b := fun q => e (Sum.inl.inj q)
    rw [decide_eq_false h]
    exact (beq_eq_false_iff_ne.mpr e).symm
theorem key_rr (a b : Str) : decide ((Sum.inr a : Key) = Sum.inr b) = decide (a = b) := by
  by_cases e : a = b
  · subst e; simp
  · have h : ¬ (Sum.inr a : Key) = Sum.inr b := fun q => e (Sum.inr.inj q)
    rw [decide_eq_false h, decide_eq_false e]
theorem key_lr (a : Int) (b : Str) : decide ((Sum.inl a : Key) = Sum.inr b) = false := decide_eq_false (fun q => nomatch q)
theorem key_rl (a : Str) (b : Int) : decide ((Sum.inr a : Key) = Sum.inl b) = false := decide_eq_false (fun q => nomatch q)

def mixKind (prog : Program) (w : World) : PySem.KeyKind prog w Key where
  is := keyIs
  hash := keyH w
  inj := fun v a b ha hb => by
    rcases keyIs_shape ha with ⟨i, t, rfl, rfl⟩ | ⟨x, t, rfl, rfl⟩
    · rcases keyIs_shape hb with ⟨j, u, rfl, e⟩ | ⟨y, u, rfl, e⟩
      · injection e with e1 _; rw [e1]
      · exact nomatch e
    · rcases keyIs_shape hb with ⟨j, u, rfl, e⟩ | ⟨y, u, rfl, e⟩
      · exact nomatch e
      · injection e with e1 _; rw [e1]
  byValue := fun k v h => by
    rcases keyIs_shape h with ⟨i, t, rfl, rfl⟩ | ⟨x, t, rfl, rfl⟩ <;> rfl
  pyHash := fun hv h => by
    rcases keyIs_shape hv with ⟨i, t, rfl, rfl⟩ | ⟨x, t, rfl, rfl⟩
    · exact wpAny_pyHash_int h
    · exact wpAny_pyHash_str h
  eqBool := fun hu hv h => by
    rcases keyIs_shape hu with ⟨i, t, rfl, rfl⟩ | ⟨x, t, rfl, rfl⟩
    · rcases keyIs_shape hv with ⟨j, u, rfl, rfl⟩ | ⟨y, u, rfl, rfl⟩
      · rw [key_ll] at h; exact wpAny_eqBool_int h
      · rw [key_lr] at h; exact SeqAt.EqAt.int_str i t y u _ _ _ _ h
    · rcases keyIs_shape hv with ⟨j, u, rfl, rfl⟩ | ⟨y, u, rfl, rfl⟩
      · rw [key_rl] at h; exact SeqAt.EqAt.str_int x t j u _ _ _ _ h
      · rw [key_rr] at h; exact wpAny_eqBool_str h
  «strs» := fun k x t v h => by
    rcases keyIs_shape h with ⟨i, u, rfl, e⟩ | ⟨y, u, rfl, e⟩
    · exact nomatch e
    · injection e with e1 _
      subst e1
      cases v <;> rfl

end L2

namespace L2
open PySem PySem.Spec PyProof.Rows

/-- a value, without the heap -/
inductive V where
  | non | bl (b : Bool) | int (i : Int) | str (x : Str) | byt (b : Array UInt8) | flt (b : UInt64) | ref (a : Addr) | ty (n : String)
  deriving DecidableEq

def RelV : V → Value → Prop
  | .non, u => u = Value.none
  | .bl b, u => u = Value.bool b
  | .int i, u => ∃ t, u = Value.int i t
  | .str x, u => ∃ t, u = Value.str x t
  | .byt b, u => ∃ t, u = Value.bytes b t
  | .flt b, u => ∃ t, u = Value.float b t
  | .ref a, u => u = Value.ref a
  | .ty n, u => u = Value.type n

abbrev Vals : List V → List Value → Prop := Paired RelV
theorem Vals.length {xs : List V} {us : List Value} (r : Vals xs us) : xs.length = us.length := Paired.length r
theorem Vals.get : ∀ {xs : List V} {us : List Value} {i : Nat} {x : V}, Vals xs us → xs[i]? = some x → ∃ u, us[i]? = some u ∧ RelV x u
  | _, _, _, _, .nil, e => by simp at e
  | _, _, 0, _, .cons r _, e => by simp at e; subst e; exact ⟨_, rfl, r⟩
  | _, _, i + 1, x, .cons _ t, e => by
    obtain ⟨u, h1, h2⟩ := Vals.get (i := i) (x := x) t (by simpa using e)
    exact ⟨u, by simpa using h1, h2⟩
theorem Vals.set {x : V} {u : Value} (r : RelV x u) : ∀ {xs : List V} {us : List Value} (i : Nat), Vals xs us → Vals (xs.set i x) (us.set i u)
  | _, _, _, .nil => .nil
  | _, _, 0, .cons _ t => .cons r t
  | _, _, i + 1, .cons q t => .cons q (Vals.set r i t)
theorem Vals.append : ∀ {xs ys : List V} {us ws : List Value}, Vals xs us → Vals ys ws → Vals (xs ++ ys) (us ++ ws)
  | _, _, _, _, .nil, s => s
  | _, _, _, _, .cons r t, s => .cons r (Vals.append t s)
theorem Vals.take : ∀ {xs : List V} {us : List Value} (n : Nat), Vals xs us → Vals (xs.take n) (us.take n)
  | _, _, 0, _ => .nil
  | _, _, _ + 1, .nil => .nil
  | _, _, n + 1, .cons r t => .cons r (Vals.take n t)
theorem Vals.drop : ∀ {xs : List V} {us : List Value} (n : Nat), Vals xs us → Vals (xs.drop n) (us.drop n)
  | _, _, 0, r => r
  | _, _, _ + 1, .nil => .nil
  | _, _, n + 1, .cons _ t => Vals.drop n t
def RelO : Option V → Option Value → Prop
  | some v, some u => RelV v u
  | none, none => True
  | _, _ => False
def KV {κ : Type} : List (κ × V) → List (κ × Value) → Prop := Paired fun (p : κ × V) (q : κ × Value) => p.1 = q.1 ∧ RelV p.2 q.2

/-- a key of a dict (00_mix): an int or a text -/
def kV : Key → V
  | .inl i => .int i
  | .inr x => .str x

/-- what stands at a tracked address -/
inductive HO where
  /-- a list -/
  | lst (xs : List V)
  /-- a tuple (never changes) -/
  | tup (xs : List V)
  /-- a dict whose keys are ints and texts; one whose keys are tuples of ints and texts (the empty one is both) -/
  | dK (kvs : List (Key × V)) | dT (kvs : List (List Key × V))
  /-- a set of ints: its members, its size -/
  | set (S : Int → Bool) (n : Nat)
  /-- an instance of the class at C, its dict at dx, its attributes -/
  | ins (C dx : Addr) (fs : List (Str × V))
  /-- the dict of the instance at x -/
  | own (x : Addr)
  /-- the dict of an exception -/
  | xd (fs : List (Str × V))
  /-- a bound method, f of x -/
  | met (f x : Addr)
  /-- a range object lo, lo + 1, .. below hi -/
  | rng (lo hi : Int)
  /-- a thing that is known to the object (the script; a dict while a loop walks it): read, never written while it is so -/
  | frz (o : Obj) (u : HO)
  /-- a code object's table -/
  | tbl (ps : Array Value)
  /-- any other thing, by what is true of its one object (a def of one's own: SetO a S n := HO.ext fun h => ..) -/
  | ext (φ : Heap → Prop)

abbrev Hp := Addr → Option HO
def upd (H : Hp) (a : Addr) (o : HO) : Hp := fun b => if b = a then some o else H b
theorem upd_same {H : Hp} {a : Addr} {o : HO} : upd H a o a = some o := by unfold upd; rw [if_pos rfl]
theorem upd_ne {H : Hp} {a b : Addr} {o : HO} (h : b ≠ a) : upd H a o b = H b := by unfold upd; rw [if_neg h]
theorem ne_of_none {H : Hp} {a b : Addr} {o : HO} (h : H a = some o) (h' : H b = none) : a ≠ b := by
  intro e; subst e; rw [h] at h'; cases h'

section
variable (P : Program) (w : World)
def ObjOk (H : Hp) (h : Heap) (a : Addr) : HO → Prop
  | .lst xs => xs.length ≤ sizeLine ∧ ∃ (its : List Value) (n : Nat), Vals xs its ∧ h.get? a = some { cls := .type "list", data := .seq its.toArray n }
  | .tup xs => xs.length ≤ sizeLine ∧ ∃ its : List Value, Vals xs its ∧ IsTup h a its.toArray
  | .dK kvs => kvs.length ≤ sizeLine ∧ (a == sysModules) = false ∧ ∃ vs, KV kvs vs ∧ h.DictOf (mixKind P w) a vs
  | .dT kvs => kvs.length ≤ sizeLine ∧ (a == sysModules) = false ∧ ∃ xs : List (List Key × Addr × Value),
      Paired (fun (p : List Key × V) (q : List Key × Addr × Value) => p.1 = q.1 ∧ H q.2.1 = some (.tup (p.1.map kV)) ∧ RelV p.2 q.2.2) kvs xs ∧
      ∃ o es ep, h.get? a = some o ∧ o.ExactDict ∧ o.data = .dict es ep ∧ es.toList = xs.map (entryOfKey (tupleKind (mixKind P w))) ∧ (xs.map (·.1)).Nodup
  | .set S n => h.SetOf (intKind P w) a S n
  | .ins C dx fs => H dx = some (.own a) ∧ fs.length ≤ 1000 ∧ dx ≠ a ∧ h.get? a = some (PySem.W.instObj C dx) ∧
      ∃ mA, h.Ns1 dx mA ∧ (∀ f, RelO (fs.lookup f) (mA f)) ∧ PySem.Within mA (fs.map (·.1))
  | .own _ => ∃ o, h.get? a = some o
  | .xd fs => ∃ mA, h.Ns1 a mA ∧ ∀ f, RelO (fs.lookup f) (mA f)
  | .rng lo hi => ∃ t u v, h.get? a = some { cls := .type "range", data := .fields #[.int lo t, .int hi u, .int 1 v] }
  | .frz o u => h.get? a = some o ∧ ObjOk H h a u
  | .tbl ps => h.get? a = some { cls := .none, data := .fields ps }
  | .met f x => h.get? a = some (PySem.W.methodObj (.ref f) (.ref x))
  | .ext φ => φ h ∧ (∃ o, h.get? a = some o) ∧ ∀ h1 h2 : Heap, φ h1 → (∀ o, h1.get? a = some o → h2.get? a = some o) → φ h2
/-- the abstract heap is held -/
def HOk (H : Hp) (h : Heap) : Prop := ∀ a o, H a = some o → ObjOk P w H h a o
end

section
variable {P : Program} {w : World} {H H' : Hp} {h h' : Heap} {a : Addr} {o : HO}
theorem ObjOk.lt (x : ObjOk P w H h a o) : a < h.objs.size := by
  cases o with
  | lst xs => obtain ⟨_, _, _, _, e⟩ := x; exact Heap.lt_size e
  | tup xs => obtain ⟨_, _, _, p⟩ := x; exact p.lt
  | dK kvs => obtain ⟨_, _, _, _, o, _, _, e, _⟩ := x; exact Heap.lt_size e
  | dT kvs => obtain ⟨_, _, _, _, o, _, _, e, _⟩ := x; exact Heap.lt_size e
  | set S n => obtain ⟨o, _, _, _, e, _⟩ := x; exact Heap.lt_size e
  | ins C dx fs => obtain ⟨_, _, _, e, _⟩ := x; exact Heap.lt_size e
  | own y => obtain ⟨_, e⟩ := x; exact Heap.lt_size e
  | xd fs => obtain ⟨_, ⟨_, _, _, e, _⟩, _⟩ := x; exact Heap.lt_size e
  | rng lo hi => obtain ⟨_, _, _, e⟩ := x; exact Heap.lt_size e
  | frz ob u => obtain ⟨e, _⟩ := x; exact Heap.lt_size e
  | tbl ps => exact Heap.lt_size (show h.get? a = some _ from x)
  | met f y => exact Heap.lt_size (show h.get? a = some _ from x)
  | ext φ => obtain ⟨_, ⟨_, e⟩, _⟩ := x; exact Heap.lt_size e
theorem Paired.mapP {α β : Type} {F G : α → β → Prop} : ∀ {l₁ : List α} {l₂ : List β}, Paired F l₁ l₂ → (∀ a b, F a b → G a b) → Paired G l₁ l₂
  | _, _, .nil, _ => .nil
  | _, _, .cons r t, f => .cons (f _ _ r) (Paired.mapP t f)
/-- what an object's description leans on: its own object, its own dict, the tuples -/
theorem ObjOk.stay (x : ObjOk P w H h a o) (k : ∀ b u, (b = a ∨ H b = some (.own a)) → h.get? b = some u → h'.get? b = some u)
    (ho : ∀ b, H b = some (.own a) → H' b = some (.own a)) (ht : ∀ b xs, H b = some (.tup xs) → H' b = some (.tup xs)) : ObjOk P w H' h' a o := by
  induction o with
  | lst xs => obtain ⟨z, its, n, r, e⟩ := x; exact ⟨z, its, n, r, k _ _ (.inl rfl) e⟩
  | tup xs => obtain ⟨z, its, r, ob, e, c⟩ := x; exact ⟨z, its, r, ob, k _ _ (.inl rfl) e, c⟩
  | dK kvs => obtain ⟨z, y, vs, r, ob, es, ep, e, c⟩ := x; exact ⟨z, y, vs, r, ob, es, ep, k _ _ (.inl rfl) e, c⟩
  | dT kvs =>
    obtain ⟨z, y, xs, r, ob, es, ep, e, c⟩ := x
    exact ⟨z, y, xs, Paired.mapP r fun p q z => ⟨z.1, ht _ _ z.2.1, z.2.2⟩, ob, es, ep, k _ _ (.inl rfl) e, c⟩
  | set S n => obtain ⟨ob, es, ep, t, e, c⟩ := x; exact ⟨ob, es, ep, t, k _ _ (.inl rfl) e, c⟩
  | ins C dx fs =>
    obtain ⟨d, z, ne, e, mA, ⟨od, es, ep, e2, c⟩, r⟩ := x
    exact ⟨ho _ d, z, ne, k _ _ (.inl rfl) e, mA, ⟨od, es, ep, k _ _ (.inr d) e2, c⟩, r⟩
  | own y => obtain ⟨ob, e⟩ := x; exact ⟨ob, k _ _ (.inl rfl) e⟩
  | xd fs => obtain ⟨mA, ⟨od, es, ep, e, c⟩, r⟩ := x; exact ⟨mA, ⟨od, es, ep, k _ _ (.inl rfl) e, c⟩, r⟩
  | rng lo hi => obtain ⟨t, u, v, e⟩ := x; exact ⟨t, u, v, k _ _ (.inl rfl) e⟩
  | frz ob u ih => obtain ⟨e, q⟩ := x; exact ⟨k _ _ (.inl rfl) e, ih q⟩
  | tbl ps =>
    have e : h.get? a = some { cls := .none, data := .fields ps } := x
    show h'.get? a = some { cls := .none, data := .fields ps }
    exact k a _ (.inl rfl) e
  | met f y =>
    have e : h.get? a = some (PySem.W.methodObj (.ref f) (.ref y)) := x
    show h'.get? a = some (PySem.W.methodObj (.ref f) (.ref y))
    exact k a _ (.inl rfl) e
  | ext φ => obtain ⟨p, ⟨o, e⟩, st⟩ := x; exact ⟨st _ _ p fun o q => k _ _ (.inl rfl) q, ⟨o, k _ _ (.inl rfl) e⟩, st⟩
theorem HOk.lt (x : HOk P w H h) (e : H a = some o) : a < h.objs.size := (x a o e).lt
theorem HOk.fresh (x : HOk P w H h) (e : h.objs.size ≤ a) : H a = none := by
  cases q : H a with
  | none => rfl
  | some u => exact absurd (Nat.lt_of_lt_of_le (x.lt q) e) (Nat.lt_irrefl _)
/-- every object of the heap is kept -/
theorem HOk.kept (x : HOk P w H h) (k : ∀ b u, h.get? b = some u → h'.get? b = some u) : HOk P w H h' := fun a o e =>
  (x a o e).stay (fun b u _ q => k b u q) (fun _ q => q) fun _ _ q => q
/-- a new object is laid and tracked -/
theorem HOk.laid (x : HOk P w H h) (k : ∀ b u, h.get? b = some u → h'.get? b = some u) (hp : h.objs.size ≤ a) (new : ObjOk P w (upd H a o) h' a o) : HOk P w (upd H a o) h' := fun b u e => by
  have hn := x.fresh hp
  by_cases hb : b = a
  · subst hb; rw [upd_same] at e; cases e; exact new
  · rw [upd_ne hb] at e
    exact (x b u e).stay (fun c v _ q => k c v q) (fun c q => by rw [upd_ne (ne_of_none q hn)]; exact q) fun c xs q => by rw [upd_ne (ne_of_none q hn)]; exact q
end

/-- what may be read as u: it is u, or a known u -/
def Rd (H : Hp) (a : Addr) (u : HO) : Prop := H a = some u ∨ ∃ o, H a = some (.frz o u)
theorem Rd.of {H : Hp} {a : Addr} {u : HO} (h : H a = some u) : Rd H a u := .inl h
theorem Rd.ok {P : Program} {w : World} {H : Hp} {h : Heap} {a : Addr} {u : HO} (r : Rd H a u) (x : HOk P w H h) : ObjOk P w H h a u := by
  rcases r with r | ⟨o, r⟩
  · exact x a u r
  · obtain ⟨_, q⟩ := x a _ r
    exact q
/-- what may be written -/
def Mut : Option HO → Prop
  | some (.lst _) => True
  | some (.dK _) => True
  | some (.dT _) => True
  | some (.set _ _) => True
  | some (.ins _ _ _) => True
  | some (.ext _) => True
  | _ => False
section
variable {P : Program} {w : World} {H : Hp} {h h' : Heap} {x e : Addr} {o' : HO}
/-- the object at e is changed: x itself, or the dict of the instance x -/
theorem HOk.write (ok : HOk P w H h) (mu : Mut (H x)) (he : e = x ∨ H e = some (.own x)) (k : ∀ b u, b ≠ e → h.get? b = some u → h'.get? b = some u) (heo : ∃ u, h'.get? e = some u)
    (new : ObjOk P w (upd H x o') h' x o') : HOk P w (upd H x o') h' := fun b u q => by
  have nown : ∀ c y, H c = some (.own y) → c ≠ x := fun c y r z => by subst z; rw [r] at mu; exact mu
  have ntup : ∀ c xs, H c = some (.tup xs) → c ≠ x := fun c xs r z => by subst z; rw [r] at mu; exact mu
  by_cases hb : b = x
  · subst hb; rw [upd_same] at q; cases q; exact new
  · rw [upd_ne hb] at q
    by_cases hbe : b = e
    · have q' : H b = some (.own x) := by
        rcases he with z | z
        · exact absurd (hbe.trans z) hb
        · rw [hbe]; exact z
      rw [q] at q'; cases q'
      obtain ⟨v, hv⟩ := heo
      exact ⟨v, by rw [hbe]; exact hv⟩
    · refine (ok b u q).stay (fun c v hc r => k c v ?_ r) (fun c r => by rw [upd_ne (nown c b r)]; exact r) fun c xs r => by rw [upd_ne (ntup c xs r)]; exact r
      rcases hc with rfl | hc
      · exact hbe
      · rintro rfl
        rcases he with z | z
        · exact nown c b hc z
        · rw [hc] at z; cases z; exact hb rfl
end

/-! ### kept unless tracked; of the frames at fs (the callers') the slots may change (an exception that passes writes there); of the records at ex (iterators) nothing is said -/
structure Un (fs ex : List Addr) (H H' : Hp) (h h' : Heap) : Prop where
  keep : ∀ b o, h.get? b = some o → H b = none → b ∉ fs → b ∉ ex → h'.get? b = some o
  slot : ∀ b o, h.get? b = some o → H b = none → b ∈ fs → b ∉ ex → ∃ sl, h'.get? b = some { o with slots := sl }
  free : ∀ b o, h.get? b = some o → H b = none → b ∉ ex → H' b = none
  there : ∀ b o, h.get? b = some o → b ∉ ex → ∃ o', h'.get? b = some o'
  tups : ∀ b xs, H b = some (.tup xs) → H' b = some (.tup xs)
  frzs : ∀ b o u, H b = some (.frz o u) → H' b = some (.frz o u)
  tbls : ∀ b ps, H b = some (.tbl ps) → ∃ more, H' b = some (.tbl (ps ++ more))
section
variable {fs fs' ex ex' : List Addr} {H H1 H2 : Hp} {h h1 h2 h' : Heap} {a x e : Addr} {o : HO}
theorem Un.any (u : Un fs ex H H1 h h1) {b : Addr} {ob : Obj} (q : h.get? b = some ob) (n : H b = none) (hx : b ∉ ex) : ∃ sl, h1.get? b = some { ob with slots := sl } := by
  by_cases hb : b ∈ fs
  · exact u.slot b ob q n hb hx
  · exact ⟨ob.slots, u.keep b ob q n hb hx⟩
theorem Un.trans (a : Un fs ex H H1 h h1) (b : Un fs ex H1 H2 h1 h2) : Un fs ex H H2 h h2 where
  keep := fun c ob q n hc hx => b.keep c ob (a.keep c ob q n hc hx) (a.free c ob q n hx) hc hx
  slot := fun c ob q n hc hx => by
    obtain ⟨sl, e1⟩ := a.slot c ob q n hc hx
    obtain ⟨sl', e2⟩ := b.slot c _ e1 (a.free c ob q n hx) hc hx
    exact ⟨sl', e2⟩
  free := fun c ob q n hx => by
    obtain ⟨o', e1⟩ := a.there c ob q hx
    exact b.free c o' e1 (a.free c ob q n hx) hx
  there := fun c ob q hx => by
    obtain ⟨o', e1⟩ := a.there c ob q hx
    exact b.there c o' e1 hx
  tups := fun c xs q => b.tups c xs (a.tups c xs q)
  frzs := fun c ob xs q => b.frzs c ob xs (a.frzs c ob xs q)
  tbls := fun c ps q => by
    obtain ⟨m1, e1⟩ := a.tbls c ps q
    obtain ⟨m2, e2⟩ := b.tbls c _ e1
    exact ⟨m1 ++ m2, by rw [e2, Array.append_assoc]⟩
theorem Un.kept (k : ∀ b u, h.get? b = some u → h'.get? b = some u) : Un fs ex H H h h' :=
  ⟨fun b ob q _ _ _ => k b ob q, fun b ob q _ _ _ => ⟨ob.slots, k b ob q⟩, fun _ _ _ n _ => n, fun b ob q _ => ⟨ob, k b ob q⟩, fun _ _ q => q, fun _ _ _ q => q, fun _ ps q => ⟨#[], by rw [q]; simp⟩⟩
theorem Un.refl : Un fs ex H H h h := Un.kept fun _ _ q => q
theorem Un.laid (k : ∀ b u, h.get? b = some u → h'.get? b = some u) (hp : h.objs.size ≤ a) (hn : H a = none) : Un fs ex H (upd H a o) h h' where
  keep := fun b u q _ _ _ => k b u q
  slot := fun b u q _ _ _ => ⟨u.slots, k b u q⟩
  free := fun b u q n _ => by rw [upd_ne (Nat.ne_of_lt (Nat.lt_of_lt_of_le (Heap.lt_size q) hp))]; exact n
  there := fun b u q _ => ⟨u, k b u q⟩
  tups := fun b xs q => by rw [upd_ne (ne_of_none q hn)]; exact q
  frzs := fun b u xs q => by rw [upd_ne (ne_of_none q hn)]; exact q
  tbls := fun b ps q => ⟨#[], by rw [upd_ne (ne_of_none q hn), q]; simp⟩
theorem Un.write (mu : Mut (H x)) (he : e = x ∨ H e = some (.own x)) (k : ∀ b u, b ≠ e → h.get? b = some u → h'.get? b = some u) (heo : ∃ u, h'.get? e = some u) : Un fs ex H (upd H x o) h h' := by
  have hx : ∀ b, H b = none → b ≠ x := fun b n z => by subst z; rw [n] at mu; exact mu
  have hb : ∀ b, H b = none → b ≠ e := fun b n z => by
    subst z
    rcases he with r | r
    · exact hx b n r
    · rw [n] at r; cases r
  have hm : ∀ b u, H b = some u → ¬ Mut (some u) → b ≠ x := fun b u q nm z => by subst z; rw [q] at mu; exact nm mu
  refine ⟨fun b u q n _ _ => k b u (hb b n) q, fun b u q n _ _ => ⟨u.slots, k b u (hb b n) q⟩, fun b u q n _ => by rw [upd_ne (hx b n)]; exact n, fun b u q _ => ?_,
    fun b xs q => by rw [upd_ne (hm b _ q fun z => z)]; exact q, fun b u xs q => by rw [upd_ne (hm b _ q fun z => z)]; exact q, fun b ps q => ⟨#[], by rw [upd_ne (hm b _ q fun z => z), q]; simp⟩⟩
  by_cases hbe : b = e
  · subst hbe; exact heo
  · exact ⟨u, k b u hbe q⟩
theorem Un.mono (u : Un fs ex H H1 h h1) (hs : ∀ b ∈ fs, b ∈ fs') (hx : ∀ b ∈ ex, b ∈ ex') : Un fs' ex' H H1 h h1 :=
  ⟨fun b ob q n hb he => u.keep b ob q n (fun z => hb (hs b z)) fun z => he (hx b z), fun _ _ q n _ he => u.any q n fun z => he (hx _ z), fun b ob q n he => u.free b ob q n fun z => he (hx b z), fun b ob q he => u.there b ob q fun z => he (hx b z), u.tups, u.frzs, u.tbls⟩
end

/-! ### the heap without what is tracked -/
def trk (h : Heap) (H : Hp) : List Addr := (List.range h.objs.size).filter fun a => (H a).isSome
def hidT (h : Heap) (H : Hp) : Heap := PySem.W.hideAll h (trk h H)
theorem hidT_size (h : Heap) (H : Hp) : (hidT h H).objs.size = h.objs.size := PySem.W.hideAll_size _ _
theorem hidT_get {h : Heap} {H : Hp} {b : Addr} {o : Obj} (e : h.get? b = some o) (n : H b = none) : (hidT h H).get? b = some o :=
  PySem.W.hideAll_get _ e fun hm => by
    have q : (H b).isSome = true := (List.mem_filter.mp hm).2
    rw [n] at q; simp at q
theorem of_hidT {h : Heap} {H : Hp} {b : Addr} {o : Obj} (e : (hidT h H).get? b = some o) : h.get? b = some o ∧ H b = none := by
  have e' : h.get? b = some o := PySem.W.of_hideAll (trk h H) e
  refine ⟨e', ?_⟩
  cases q : H b with
  | none => rfl
  | some x =>
    have hm : b ∈ trk h H := List.mem_filter.mpr ⟨List.mem_range.mpr (Heap.lt_size e'), by simp [q]⟩
    have z : (hidT h H).get? b = none := PySem.W.hideAll_none (trk h H) hm
    rw [z] at e; cases e

/-! ### OpenK's ledger, filled with every new object but one -/
def allNews (g h : Heap) (L : Addr) : List (Addr × Obj) := (List.range h.objs.size).filterMap fun a => if a = L ∨ (g.get? a).isSome = true then none else (h.get? a).map fun o => (a, o)
def rest (g h : Heap) (L d : Addr) : List (Addr × Obj) := (allNews g h L).filter fun p => decide (p.1 ≠ d)
end L2

namespace L2
open PySem PySem.Spec PyProof.Rows

/-- the module's facts, over the base: the heap at the law's entry without what is tracked there -/
structure Mod (K : PySem.W.Frag) (mg : Str → Option Value) (base : Heap) : Prop where
  kin : K.In base
  glob : base.Ns mainGlobals mg
  blt : ∃ mb, base.Ns builtinsNs mb ∧ ∀ x : Str, x ≠ "__name__" → mb x = bootBuiltins x
  nolimit : base.NoLimit

/-- the context: a def's body (or a comprehension's block) running. base: fixed through the whole law; s₀, H₀: the entry; outer: the frames whose slots others may change (a def's callers); stack: all frames that run;
   ex: iterators that were made ahead of the entry and are walked here (a comprehension's); fn: the names whose cells were made at the entry (a def: all; a comprehension's block: its own); calm: not within an except suite; pn: pins that every state bears; xe: what is wanted of an exception that leaves the code -/
structure Cx where
  prog : Program
  w : World
  K : PySem.W.Frag
  mg : Str → Option Value
  base : Heap
  A : Around
  N : List Str
  s₀ : Shared
  H₀ : Hp
  env : Env
  outer : List Env
  stack : List Env
  ex : List Addr
  fn : Str → Bool
  calm : Bool
  pn : List (Addr × Obj)
  xe : Value → Shared → Prop
/-- the callers' frames -/
def frs (l : List Env) : List Addr := l.filterMap (·.frame)
abbrev Cx.fs (X : Cx) : List Addr := frs X.outer

def Vis (sc : Scope) (x : Str) : Prop := sc.names.lookup x = some .local ∨ sc.names.lookup x = some .cell ∨ sc.names.lookup x = some .free
def Loc (sc : Scope) (x : Str) : Prop := sc.names.lookup x = some .local ∨ sc.names.lookup x = some .cell
def Look (env : Env) (h : Heap) (m : Str → Option Value) (x : Str) (u : Value) : Prop :=
  (env.kindOf x = some .local ∧ m x = some u) ∨ ((env.kindOf x = some .cell ∨ env.kindOf x = some .free) ∧ ∃ c, env.cells.lookup x = some c ∧ h.IsCell c (some u))

structure Cx.Ok (X : Cx) : Prop where
  mod : Mod X.K X.mg X.base
  kind : X.env.scope.kind = .function
  glob : X.env.globals = mainGlobals
  blt : X.env.builtins = builtinsNs
  above : X.s₀.heap.objs.size ≤ X.env.locals
  inj : ∀ x y c, X.env.cells.lookup x = some c → X.env.cells.lookup y = some c → x = y
  has : ∀ x, (X.env.kindOf x = some .cell ∨ X.env.kindOf x = some .free) → ∃ c, X.env.cells.lookup x = some c
  cab : ∀ x c, X.fn x = true → X.env.cells.lookup x = some c → X.s₀.heap.objs.size ≤ c
  hd : X.calm = true → X.A.handled = none
  frames : X.A.frames = some X.stack
  stk : X.stack = X.outer ∨ (X.stack = X.env :: X.outer ∧ X.env.frame = some X.env.locals)
  exf : ∀ b ∈ X.ex, b ≠ X.env.locals ∧ ∀ x c, X.env.cells.lookup x = some c → c ≠ b
  bs : ∀ b o, X.base.get? b = some o → X.s₀.heap.get? b = some o ∧ X.H₀ b = none
  bsz : X.base.objs.size ≤ X.s₀.heap.objs.size
  noex : ∀ b o, X.base.get? b = some o → b ∉ X.ex
  exfs : ∀ b ∈ X.ex, b ∉ X.fs
  funs : X.s₀.heap.FunFrames X.base X.outer
  frf : ∀ b ∈ X.fs, X.H₀ b = none

/-- of the generators: none wants a cleanup, and those of the entry stand as they stood -/
structure GOk (a b : Array GenState) : Prop where
  bare : AllBare b
  size : a.size ≤ b.size
  old : ∀ k, k < a.size → b[k]? = a[k]?
theorem GOk.refl {a : Array GenState} (h : AllBare a) : GOk a a := ⟨h, Nat.le_refl _, fun _ _ => rfl⟩
theorem GOk.trans {a b c : Array GenState} (x : GOk a b) (y : GOk b c) : GOk a c := ⟨y.bare, Nat.le_trans x.size y.size, fun k h => (y.old k (Nat.lt_of_lt_of_le h x.size)).trans (x.old k h)⟩

structure Inv (X : Cx) (pins : List (Addr × Obj)) (σ : List (Option V)) (H : Hp) (s : Shared) : Prop where
  ok : X.Ok
  os : s.os = X.s₀.os
  bare : GOk X.s₀.gens s.gens
  base : Un X.fs X.ex X.H₀ H X.s₀.heap s.heap
  loc : ∃ m, s.heap.Ns X.env.locals m ∧ ∀ (i : Nat) (x : Str) (v : V), X.N[i]? = some x → σ[i]? = some (some v) → Vis X.env.scope x → ∃ u, RelV v u ∧ Look X.env s.heap m x u
  cell : ∀ x c, X.env.cells.lookup x = some c → ∃ v, s.heap.IsCell c v
  free : H X.env.locals = none
  freeC : ∀ x c, X.env.cells.lookup x = some c → H c = none
  pin : ∀ p ∈ X.pn ++ pins, s.heap.get? p.1 = some p.2 ∧ H p.1 = none ∧ p.1 ≠ X.env.locals ∧ p.1 ∉ X.fs ∧ ∀ v, p.2.data ≠ .cell v
  hok : HOk X.prog X.w H s.heap
  len : σ.length = X.N.length

section
variable {X : Cx} {pins : List (Addr × Obj)} {σ : List (Option V)} {H H' : Hp} {s : Shared} {h' : Heap}

theorem Cx.Ok.nofr (ok : X.Ok) {b : Addr} {o : Obj} (e : X.base.get? b = some o) : b ∉ X.fs := fun hb => by
  have := (ok.funs.mem hb).1
  rw [e] at this; cases this
theorem Inv.bs (I : Inv X pins σ H s) : ∀ b o, X.base.get? b = some o → s.heap.get? b = some o ∧ H b = none := fun b o e =>
  ⟨I.base.keep b o (I.ok.bs b o e).1 (I.ok.bs b o e).2 (I.ok.nofr e) (I.ok.noex b o e), I.base.free b o (I.ok.bs b o e).1 (I.ok.bs b o e).2 (I.ok.noex b o e)⟩
theorem Inv.bk (I : Inv X pins σ H s) : ∀ b o, X.base.get? b = some o → s.heap.get? b = some o := fun b o e => (I.bs b o e).1
theorem Inv.mod (I : Inv X pins σ H s) : Mod X.K X.mg X.base := I.ok.mod
theorem Inv.kIn (I : Inv X pins σ H s) : X.K.In s.heap := I.ok.mod.kin.keeps I.bk
theorem Inv.nolimit (I : Inv X pins σ H s) : s.heap.NoLimit := I.ok.mod.nolimit.keeps I.bk
/-- the frame over the base: for OpenK's rules (K.In X.base is I.mod.kin) -/
theorem Inv.fr (I : Inv X pins σ H s) : ∃ m, Fr X.base X.env.locals s.heap m :=
  let ⟨m, hn, _⟩ := I.loc
  ⟨m, hn, I.bk, Nat.le_trans I.ok.bsz I.ok.above⟩
theorem Inv.lt (I : Inv X pins σ H s) : X.env.locals < s.heap.objs.size := let ⟨_, hn, _⟩ := I.loc; hn.lt
theorem Inv.sz (I : Inv X pins σ H s) : X.s₀.heap.objs.size ≤ s.heap.objs.size := Nat.le_trans I.ok.above (Nat.le_of_lt I.lt)
theorem Inv.nofs (I : Inv X pins σ H s) {a : Addr} (h : s.heap.objs.size ≤ a) : a ∉ X.fs := fun hb => by
  obtain ⟨_, o, ho, _⟩ := I.ok.funs.mem hb
  exact absurd (Nat.lt_of_lt_of_le (Heap.lt_size ho) (Nat.le_trans I.sz h)) (Nat.lt_irrefl _)
theorem Inv.cne (I : Inv X pins σ H s) : ∀ x c, X.env.cells.lookup x = some c → c ≠ X.env.locals := fun x c e z => by
  obtain ⟨v, o, ho, hd⟩ := I.cell x c e
  obtain ⟨m, ⟨o', es, ep, ho', hd', _⟩, _⟩ := I.loc
  rw [z, ho'] at ho; cases ho; rw [hd'] at hd; cases hd
theorem Inv.funs (I : Inv X pins σ H s) : s.heap.FunFrames X.base X.outer := by
  have all : ∀ (l : List Env), (∀ b ∈ frs l, b ∈ X.fs) → X.s₀.heap.FunFrames X.base l → s.heap.FunFrames X.base l := by
    intro l
    induction l with
    | nil => intro _ _; trivial
    | cons env r ih =>
      intro hs hl
      obtain ⟨hk, ⟨L, o, hf, hn, ho, hd⟩, hr⟩ := hl
      have hL : L ∈ X.fs := hs L (by unfold frs; rw [List.filterMap_cons, hf]; exact List.mem_cons_self)
      obtain ⟨sl, e⟩ := I.base.slot L o ho (I.ok.frf L hL) hL fun z => I.ok.exfs L z hL
      exact ⟨hk, ⟨L, _, hf, hn, e, hd⟩, ih (fun b hb => hs b (by unfold frs; rw [List.filterMap_cons, hf]; exact List.mem_cons_of_mem _ hb)) hr⟩
  exact all X.outer (fun _ hb => hb) I.ok.funs

/-- the frames that run, for a call -/
theorem Inv.stack (I : Inv X pins σ H s) : s.heap.FunFrames X.base X.stack := by
  rcases I.ok.stk with e | ⟨e, hf⟩
  · rw [e]; exact I.funs
  · rw [e]
    obtain ⟨m, hn, _⟩ := I.loc
    refine .cons (by rw [I.ok.kind]; decide) hf hn ?_ I.funs
    exact Heap.get?_none_of_le (Nat.le_trans I.ok.bsz I.ok.above)
theorem Inv.stkSub (I : Inv X pins σ H s) : ∀ b ∈ frs X.stack, b ∈ X.env.locals :: X.fs := fun b hb => by
  rcases I.ok.stk with e | ⟨e, hf⟩
  · rw [e] at hb; exact List.mem_cons_of_mem _ hb
  · rw [e] at hb
    unfold frs at hb
    rw [List.filterMap_cons, hf] at hb
    exact hb
theorem Inv.stkFree (I : Inv X pins σ H s) : ∀ b ∈ frs X.stack, H b = none := fun b hb => by
  rcases List.mem_cons.mp (I.stkSub b hb) with e | hb
  · rw [e]; exact I.free
  · obtain ⟨_, o, ho, _⟩ := I.ok.funs.mem hb
    exact I.base.free b o ho (I.ok.frf b hb) fun z => I.ok.exfs b z hb

/-- THE STEP: the untracked objects but the frame and the records at ch are kept (the callers' frames up to slots), the frame's map is kept, the new abstract heap is held -/
theorem Inv.step {g' : Array GenState} {t' : Nat} {d' : Drawn} {ch : List Addr} (I : Inv X pins σ H s)
    (hch : ∀ b ∈ ch, (b ∈ X.ex ∨ X.s₀.heap.objs.size ≤ b) ∧ b ≠ X.env.locals ∧ (∀ x c, X.env.cells.lookup x = some c → c ≠ b) ∧ ∀ p ∈ X.pn ++ pins, p.1 ≠ b)
    (keep : ∀ b o, b ≠ X.env.locals → b ∉ X.fs → b ∉ ch → s.heap.get? b = some o → H b = none → h'.get? b = some o)
    (slot : ∀ b o, b ≠ X.env.locals → b ∈ X.fs → b ∉ ch → s.heap.get? b = some o → H b = none → ∃ sl, h'.get? b = some { o with slots := sl }) (free : ∀ b o, b ∉ ch → s.heap.get? b = some o → H b = none → H' b = none)
    (there : ∀ b o, b ∉ ch → s.heap.get? b = some o → ∃ o', h'.get? b = some o')
    (tups : ∀ b xs, H b = some (.tup xs) → H' b = some (.tup xs)) (frzs : ∀ b o u, H b = some (.frz o u) → H' b = some (.frz o u)) (tbls : ∀ b ps, H b = some (.tbl ps) → ∃ more, H' b = some (.tbl (ps ++ more)))
    (ns : ∀ m, s.heap.Ns X.env.locals m → h'.Ns X.env.locals m) (hok : HOk X.prog X.w H' h') (hg : GOk s.gens g') :
    Inv X pins σ H' { s with heap := h', gens := g', drawn := d', toks := t' } := by
  have neL : ∀ b o, X.s₀.heap.get? b = some o → b ≠ X.env.locals := fun b o e => Nat.ne_of_lt (Nat.lt_of_lt_of_le (Heap.lt_size e) I.ok.above)
  have neC : ∀ b o, X.s₀.heap.get? b = some o → b ∉ X.ex → b ∉ ch := fun b o e hx hb => by
    rcases (hch b hb).1 with z | z
    · exact hx z
    · exact absurd (Nat.lt_of_lt_of_le (Heap.lt_size e) z) (Nat.lt_irrefl _)
  have cellK : ∀ x c, X.env.cells.lookup x = some c → ∀ v, s.heap.IsCell c v → h'.IsCell c v := fun x c e v ⟨o, ho, hd⟩ => by
    have nch : c ∉ ch := fun z => (hch c z).2.2.1 x c e rfl
    by_cases hc : c ∈ X.fs
    · obtain ⟨sl, q⟩ := slot c o (I.cne x c e) hc nch ho (I.freeC x c e)
      exact ⟨_, q, hd⟩
    · exact ⟨o, keep c o (I.cne x c e) hc nch ho (I.freeC x c e), hd⟩
  refine ⟨I.ok, I.os, I.bare.trans hg, ⟨fun b o e n hb hx => ?_, fun b o e n hb hx => ?_, fun b o e n hx => ?_, fun b o e hx => ?_, fun b xs e => tups b xs (I.base.tups b xs e), fun b o xs e => frzs b o xs (I.base.frzs b o xs e), fun b ps e => ?_⟩, ?_, fun x c e => ?_, ?_, fun x c e => ?_, fun p hp => ?_, hok, I.len⟩
  · exact keep b o (neL b o e) hb (neC b o e hx) (I.base.keep b o e n hb hx) (I.base.free b o e n hx)
  · obtain ⟨sl, e1⟩ := I.base.slot b o e n hb hx
    obtain ⟨sl', e2⟩ := slot b _ (neL b o e) hb (neC b o e hx) e1 (I.base.free b o e n hx)
    exact ⟨sl', e2⟩
  · obtain ⟨o', e1⟩ := I.base.there b o e hx
    exact free b o' (neC b o e hx) e1 (I.base.free b o e n hx)
  · obtain ⟨o', e1⟩ := I.base.there b o e hx
    exact there b o' (neC b o e hx) e1
  · obtain ⟨m1, e1⟩ := I.base.tbls b ps e
    obtain ⟨m2, e2⟩ := tbls b _ e1
    exact ⟨m1 ++ m2, by rw [e2, Array.append_assoc]⟩
  · obtain ⟨m, hn, hl⟩ := I.loc
    refine ⟨m, ns m hn, fun i x v e1 e2 e3 => ?_⟩
    obtain ⟨u, r, l⟩ := hl i x v e1 e2 e3
    refine ⟨u, r, ?_⟩
    rcases l with l | ⟨k, c, e, z⟩
    · exact .inl l
    · exact .inr ⟨k, c, e, cellK x c e _ z⟩
  · obtain ⟨v, z⟩ := I.cell x c e
    exact ⟨v, cellK x c e v z⟩
  · obtain ⟨m, ⟨o, _, _, ho, _⟩, _⟩ := I.loc
    exact free _ o (fun z => (hch _ z).2.1 rfl) ho I.free
  · obtain ⟨v, o, ho, hd⟩ := I.cell x c e
    exact free c o (fun z => (hch c z).2.2.1 x c e rfl) ho (I.freeC x c e)
  · obtain ⟨e, n, ne, nf, d⟩ := I.pin p hp
    have nch : p.1 ∉ ch := fun z => (hch p.1 z).2.2.2 p hp rfl
    exact ⟨keep p.1 p.2 ne nf nch e n, free p.1 p.2 nch e n, ne, nf, d⟩
/-- .. where the frame's own object is kept too -/
theorem Inv.un {t' : Nat} (I : Inv X pins σ H s) (u : Un X.fs [] H H' s.heap h') (hok : HOk X.prog X.w H' h') : Inv X pins σ H' { s with heap := h', toks := t' } := by
  obtain ⟨m, ⟨o, es, ep, ho, r⟩, _⟩ := id I.loc
  obtain ⟨sl, hL⟩ := u.any ho I.free (by simp)
  exact I.step (g' := s.gens) (d' := s.drawn) (ch := []) (fun _ z => nomatch z) (fun b o _ hb _ e n => u.keep b o e n hb (by simp)) (fun b o _ hb _ e n => u.slot b o e n hb (by simp)) (fun b o _ e n => u.free b o e n (by simp)) (fun b o _ e => u.there b o e (by simp)) u.tups u.frzs u.tbls (fun m' hm => by
    obtain ⟨o', es', ep', ho', r'⟩ := hm
    rw [ho] at ho'; cases ho'
    exact ⟨_, es', ep', hL, r'⟩) hok (.refl I.bare.bare)
/-- behind a call (or a comprehension's block): the slots of this frame may have changed too, the records at ch may have turned -/
theorem Inv.call {g' : Array GenState} {t' : Nat} {d' : Drawn} {ch : List Addr} (I : Inv X pins σ H s) (u : Un (frs X.stack) ch H H' s.heap h') (hok : HOk X.prog X.w H' h') (hg : GOk s.gens g')
    (hch : ∀ b ∈ ch, (b ∈ X.ex ∨ X.s₀.heap.objs.size ≤ b) ∧ b ≠ X.env.locals ∧ (∀ x c, X.env.cells.lookup x = some c → c ≠ b) ∧ ∀ p ∈ X.pn ++ pins, p.1 ≠ b) :
    Inv X pins σ H' { s with heap := h', gens := g', drawn := d', toks := t' } := by
  obtain ⟨m, ⟨o, es, ep, ho, r⟩, _⟩ := id I.loc
  obtain ⟨sl, hL⟩ := u.any ho I.free fun z => (hch _ z).2.1 rfl
  exact I.step (ch := ch) hch (fun b o hL hb hc e n => u.keep b o e n (fun z => (List.mem_cons.mp (I.stkSub b z)).elim hL hb) hc) (fun b o _ _ hc e n => u.any e n hc) (fun b o hc e n => u.free b o e n hc) (fun b o hc e => u.there b o e hc) u.tups u.frzs u.tbls (fun m' hm => by
    obtain ⟨o', es', ep', ho', r'⟩ := hm
    rw [ho] at ho'; cases ho'
    exact ⟨_, es', ep', hL, r'⟩) hok hg
/-- an untracked record of ours (an iterator) has turned -/
theorem Inv.turned {t' : Nat} {it : Addr} (I : Inv X pins σ H s) (k : ∀ b o, b ≠ it → s.heap.get? b = some o → h'.get? b = some o) (hn : H it = none) (hL : it ≠ X.env.locals)
    (h1 : it ∈ X.ex ∨ X.s₀.heap.objs.size ≤ it) (h2 : ∀ x c, X.env.cells.lookup x = some c → c ≠ it) (h3 : ∀ p ∈ X.pn ++ pins, p.1 ≠ it) : Inv X pins σ H { s with heap := h', toks := t' } := by
  have nit : ∀ b u, H b = some u → b ≠ it := fun b u e z => by rw [z, hn] at e; cases e
  refine I.step (g' := s.gens) (d' := s.drawn) (ch := [it]) (fun b hb => ?_) (fun b o _ _ hc e _ => k b o (fun z => hc (by simp [z])) e) (fun b o _ _ hc e _ => ⟨o.slots, k b o (fun z => hc (by simp [z])) e⟩) (fun _ _ _ _ n => n)
    (fun b o hc e => ⟨o, k b o (fun z => hc (by simp [z])) e⟩) (fun _ _ e => e) (fun _ _ _ e => e) (fun b ps e => ⟨#[], by rw [e]; simp⟩) (fun m hm => ?_) (fun b u e => ?_) (.refl I.bare.bare)
  · have e : b = it := by simpa using hb
    subst e
    exact ⟨h1, hL, h2, h3⟩
  · obtain ⟨o, es, ep, ho, r⟩ := hm
    exact ⟨o, es, ep, k _ o (Ne.symm hL) ho, r⟩
  · refine (I.hok b u e).stay (fun c v hc q => k c v ?_ q) (fun _ q => q) fun _ _ q => q
    rcases hc with z | z
    · rw [z]; exact nit b u e
    · exact nit c _ z
theorem Inv.tok (I : Inv X pins σ H s) (t : Nat) : Inv X pins σ H { s with toks := t } := I.un (h' := s.heap) (t' := t) Un.refl I.hok
/-- all objects kept -/
theorem Inv.kept {t' : Nat} (I : Inv X pins σ H s) (k : ∀ b u, s.heap.get? b = some u → h'.get? b = some u) : Inv X pins σ H { s with heap := h', toks := t' } := I.un (Un.kept k) (I.hok.kept k)
/-- a new object laid and tracked -/
theorem Inv.laid {a : Addr} {o : HO} {t' : Nat} (I : Inv X pins σ H s) (k : ∀ b u, s.heap.get? b = some u → h'.get? b = some u) (hp : s.heap.objs.size ≤ a) (new : ObjOk X.prog X.w (upd H a o) h' a o) :
    Inv X pins σ (upd H a o) { s with heap := h', toks := t' } := I.un (Un.laid k hp (I.hok.fresh hp)) (I.hok.laid k hp new)
/-- an object written -/
theorem Inv.write {x e : Addr} {o : HO} {t' : Nat} (I : Inv X pins σ H s) (mu : Mut (H x)) (he : e = x ∨ H e = some (.own x)) (k : ∀ b u, b ≠ e → s.heap.get? b = some u → h'.get? b = some u) (heo : ∃ u, h'.get? e = some u)
    (new : ObjOk X.prog X.w (upd H x o) h' x o) : Inv X pins σ (upd H x o) { s with heap := h', toks := t' } := I.un (Un.write mu he k heo) (I.hok.write mu he k heo new)
theorem Inv.pins_of {pins' : List (Addr × Obj)} (I : Inv X pins σ H s) (h : ∀ p ∈ pins', s.heap.get? p.1 = some p.2 ∧ H p.1 = none ∧ p.1 ≠ X.env.locals ∧ p.1 ∉ X.fs ∧ ∀ v, p.2.data ≠ .cell v) : Inv X pins' σ H s :=
  ⟨I.ok, I.os, I.bare, I.base, I.loc, I.cell, I.free, I.freeC, fun p hp => (List.mem_append.mp hp).elim (fun z => I.pin p (List.mem_append_left _ z)) (h p), I.hok, I.len⟩

theorem nodup_ix {N : List Str} (hN : N.Nodup) {i j : Nat} {x : Str} (a : N[i]? = some x) (b : N[j]? = some x) : i = j := by
  obtain ⟨h1, e1⟩ := List.getElem?_eq_some_iff.mp a
  obtain ⟨h2, e2⟩ := List.getElem?_eq_some_iff.mp b
  exact (List.getElem_inj hN).mp (e1.trans e2.symm)

/-- a name is stored; what changed -/
theorem store_ok2 {M : Model} {A : Around} {E : Value → Shared → Prop} {i : Nat} {x : Str} {v : V} {u : Value} {Q : Unit → Shared → Prop} (I : Inv X pins σ H s) (hN : X.N.Nodup) (hi : X.N[i]? = some x) (hx : Loc X.env.scope x) (r : RelV v u)
    (h : ∀ s', Inv X pins (σ.set i (some v)) H s' → (∃ a, Heap.SameBut a s.heap s'.heap ∧ (a = X.env.locals ∨ X.env.cells.lookup x = some a)) → Q () s') (hf : X.fn x = true ∨ X.env.scope.names.lookup x = some .local := by first | exact .inl rfl | exact .inr rfl | assumption) : wpAny M A (storeName X.env x u) Q E s := by
  obtain ⟨m, hn, hl⟩ := id I.loc
  have hcls : (X.env.scope.kind == .class || (X.env.scope.kind == .module && X.env.locals != X.env.globals)) = false := by rw [I.ok.kind]; rfl
  have hiσ : i < σ.length := by rw [I.len]; exact (List.getElem?_eq_some_iff.mp hi).1
  have cne := I.cne
  have tracked : ∀ {a : Addr} {h' : Heap}, (∃ o, s.heap.get? a = some o ∧ H a = none) → Heap.SameBut a s.heap h' → HOk X.prog X.w H h' := fun {a h'} ha hs b ob e => by
    obtain ⟨_, _, hfree⟩ := ha
    refine (I.hok b ob e).stay (fun c w' hc q => (hs.2 c ?_).trans q) (fun _ q => q) fun _ _ q => q
    rintro rfl
    rcases hc with rfl | hc
    · rw [hfree] at e; cases e
    · rw [hfree] at hc; cases hc
  rcases hx with hk | hk
  · refine wpAny_storeName_local hk hn (fun h' hn' hs => ?_) hcls
    obtain ⟨oL, _, _, hoL, _⟩ := id hn
    refine h _ ⟨I.ok, I.os, I.bare, ⟨fun b o e n hb hx => ?_, fun b o e n hb hx => ?_, I.base.free, fun b o e hx => ?_, I.base.tups, I.base.frzs, I.base.tbls⟩, ⟨_, hn', fun j y v' e1 e2 e3 => ?_⟩, fun y c e => ?_, I.free, I.freeC, fun p hp => ?_, tracked ⟨oL, hoL, I.free⟩ hs, by simpa using I.len⟩ ⟨_, hs, .inl rfl⟩
    · exact (hs.2 b (Nat.ne_of_lt (Nat.lt_of_lt_of_le (Heap.lt_size e) I.ok.above))).trans (I.base.keep b o e n hb hx)
    · obtain ⟨sl, e1⟩ := I.base.slot b o e n hb hx
      exact ⟨sl, (hs.2 b (Nat.ne_of_lt (Nat.lt_of_lt_of_le (Heap.lt_size e) I.ok.above))).trans e1⟩
    · obtain ⟨o', e1⟩ := I.base.there b o e hx
      exact ⟨o', (hs.2 b (Nat.ne_of_lt (Nat.lt_of_lt_of_le (Heap.lt_size e) I.ok.above))).trans e1⟩
    · by_cases hj : j = i
      · subst hj
        rw [hi] at e1; cases e1
        rw [List.getElem?_set_self hiσ] at e2
        cases e2
        exact ⟨u, r, .inl ⟨hk, by simp⟩⟩
      · rw [List.getElem?_set_ne (Ne.symm hj)] at e2
        obtain ⟨u', r', q⟩ := hl j y v' e1 e2 e3
        refine ⟨u', r', ?_⟩
        rcases q with ⟨k, e⟩ | ⟨k, c, e, z⟩
        · refine .inl ⟨k, ?_⟩
          have : y ≠ x := fun e => hj (nodup_ix hN e1 (e ▸ hi))
          simp [this, e]
        · exact .inr ⟨k, c, e, z.sameBut hs (cne y c e)⟩
    · obtain ⟨w', z⟩ := I.cell y c e
      exact ⟨w', z.sameBut hs (cne y c e)⟩
    · obtain ⟨e, n, ne, nf, d⟩ := I.pin p hp
      exact ⟨(hs.2 p.1 ne).trans e, n, ne, nf, d⟩
  · have hfn : X.fn x = true := by
      rcases hf with z | z
      · exact z
      · rw [z] at hk; cases hk
    obtain ⟨c, hc⟩ := I.ok.has x (.inl hk)
    obtain ⟨w', z⟩ := I.cell x c hc
    refine wpAny_storeName_cell I.ok.kind hk hc z (fun h' hc' hs => ?_)
    obtain ⟨oc, hoc, hocd⟩ := id z
    refine h { s with heap := h' } ⟨I.ok, I.os, I.bare, ⟨fun b o e n hb hx => ?_, fun b o e n hb hx => ?_, I.base.free, fun b o e hx => ?_, I.base.tups, I.base.frzs, I.base.tbls⟩, ⟨m, hn.sameBut hs (Ne.symm (cne x c hc)), fun j y v' e1 e2 e3 => ?_⟩, fun y c' e => ?_, I.free, I.freeC, fun p hp => ?_, tracked ⟨oc, hoc, I.freeC x c hc⟩ hs, by simpa using I.len⟩ ⟨c, hs, .inr hc⟩
    · exact (hs.2 b (Nat.ne_of_lt (Nat.lt_of_lt_of_le (Heap.lt_size e) (I.ok.cab x c hfn hc)))).trans (I.base.keep b o e n hb hx)
    · obtain ⟨sl, e1⟩ := I.base.slot b o e n hb hx
      exact ⟨sl, (hs.2 b (Nat.ne_of_lt (Nat.lt_of_lt_of_le (Heap.lt_size e) (I.ok.cab x c hfn hc)))).trans e1⟩
    · obtain ⟨o', e1⟩ := I.base.there b o e hx
      exact ⟨o', (hs.2 b (Nat.ne_of_lt (Nat.lt_of_lt_of_le (Heap.lt_size e) (I.ok.cab x c hfn hc)))).trans e1⟩
    · by_cases hj : j = i
      · subst hj
        rw [hi] at e1; cases e1
        rw [List.getElem?_set_self hiσ] at e2
        cases e2
        exact ⟨u, r, .inr ⟨.inl hk, c, hc, hc'⟩⟩
      · rw [List.getElem?_set_ne (Ne.symm hj)] at e2
        obtain ⟨u', r', q⟩ := hl j y v' e1 e2 e3
        refine ⟨u', r', ?_⟩
        rcases q with q | ⟨k, c', e, z'⟩
        · exact .inl q
        · refine .inr ⟨k, c', e, z'.sameBut hs ?_⟩
          rintro rfl
          exact hj (nodup_ix hN e1 (I.ok.inj _ _ _ e hc ▸ hi))
    · by_cases hcc : c' = c
      · subst hcc; exact ⟨_, hc'⟩
      · obtain ⟨w2, z2⟩ := I.cell y c' e
        exact ⟨w2, z2.sameBut hs hcc⟩
    · obtain ⟨e, n, ne, nf, d⟩ := I.pin p hp
      refine ⟨(hs.2 p.1 ?_).trans e, n, ne, nf, d⟩
      intro q
      rw [q, hoc] at e
      have q' : oc = p.2 := Option.some.inj e
      exact d w' (by rw [← q']; exact hocd)
theorem store_ok {M : Model} {A : Around} {E : Value → Shared → Prop} {i : Nat} {x : Str} {v : V} {u : Value} {Q : Unit → Shared → Prop} (I : Inv X pins σ H s) (hN : X.N.Nodup) (hi : X.N[i]? = some x) (hx : Loc X.env.scope x) (r : RelV v u)
    (h : ∀ s', Inv X pins (σ.set i (some v)) H s' → Q () s') (hf : X.fn x = true ∨ X.env.scope.names.lookup x = some .local := by first | exact .inl rfl | exact .inr rfl | assumption) : wpAny M A (storeName X.env x u) Q E s :=
  store_ok2 I hN hi hx r (fun s' I' _ => h s' I') hf
/-- behind a call or a block, the state as it is -/
theorem Inv.call' {s' : Shared} {ch : List Addr} (I : Inv X pins σ H s) (ho : s'.os = s.os) (u : Un (frs X.stack) ch H H' s.heap s'.heap) (hok : HOk X.prog X.w H' s'.heap) (hg : GOk s.gens s'.gens)
    (hch : ∀ b ∈ ch, (b ∈ X.ex ∨ X.s₀.heap.objs.size ≤ b) ∧ b ≠ X.env.locals ∧ (∀ x c, X.env.cells.lookup x = some c → c ≠ b) ∧ ∀ p ∈ X.pn ++ pins, p.1 ≠ b) : Inv X pins σ H' s' := by
  obtain ⟨h', g', d', t', o'⟩ := s'
  have e : o' = s.os := ho
  subst e
  exact I.call (g' := g') (t' := t') (d' := d') u hok hg hch
end

/-! ### the judgements -/
/-- an exception: its class, its own dict's address (where it has one), the abstract heap behind it -/
abbrev XK := Value → Option Addr → Hp → Prop
abbrev St := List (Option V)
abbrev VK := V → Hp → Prop
/-- an expression's reading; a test's; an argument list's -/
abbrev TE := St → Hp → VK → Prop
abbrev TT := St → Hp → (Bool → Hp → Prop) → Prop
abbrev TA := St → Hp → (List V → Hp → Prop) → Prop
/-- what is wanted behind a statement -/
structure Ends where
  nx : St → Hp → Prop
  rt : VK
  bk : St → Hp → Prop := fun _ _ => False
  ct : St → Hp → Prop := fun _ _ => False
abbrev TS := Ends → St → Hp → Prop

def EP (X : Cx) (pins : List (Addr × Obj)) (σ : St) (Q : VK) (u : Value) (s' : Shared) : Prop := ∃ v H', Inv X pins σ H' s' ∧ RelV v u ∧ Q v H'
def TP (X : Cx) (pins : List (Addr × Obj)) (σ : St) (Q : Bool → Hp → Prop) (b : Bool) (s' : Shared) : Prop := ∃ H', Inv X pins σ H' s' ∧ Q b H'
def AP (X : Cx) (pins : List (Addr × Obj)) (σ : St) (Q : List V → Hp → Prop) (us : List Value) (s' : Shared) : Prop := ∃ vs H', Inv X pins σ H' s' ∧ Vals vs us ∧ Q vs H'
def SP (X : Cx) (pins : List (Addr × Obj)) (D : Ends) (f : Flow) (s' : Shared) : Prop :=
  match f with
  | .next => ∃ σ' H', Inv X pins σ' H' s' ∧ D.nx σ' H'
  | .brk => ∃ σ' H', Inv X pins σ' H' s' ∧ D.bk σ' H'
  | .cont => ∃ σ' H', Inv X pins σ' H' s' ∧ D.ct σ' H'
  | .ret u => ∃ v σ' H', Inv X pins σ' H' s' ∧ RelV v u ∧ D.rt v H'

def PE (X : Cx) (e : Expr) (t : TE) : Prop :=
  ∀ (pins : List (Addr × Obj)) (s : Shared) (σ : St) (H : Hp) (Q : VK), Inv X pins σ H s → t σ H Q → wpAny (model X.prog X.w) X.A (eval e X.env) (EP X pins σ Q) X.xe s
def PT (X : Cx) (e : Expr) (t : TT) : Prop :=
  ∀ (pins : List (Addr × Obj)) (s : Shared) (σ : St) (H : Hp) (Q : Bool → Hp → Prop), Inv X pins σ H s → t σ H Q → wpAny (model X.prog X.w) X.A (isTrue e X.env (eval e X.env)) (TP X pins σ Q) X.xe s
/-- a test whatever its 'whole' is (and, or) -/
def PW (X : Cx) (e : Expr) (t : TT) : Prop :=
  ∀ (whole : Sem Value) (pins : List (Addr × Obj)) (s : Shared) (σ : St) (H : Hp) (Q : Bool → Hp → Prop), Inv X pins σ H s → t σ H Q → wpAny (model X.prog X.w) X.A (isTrue e X.env whole) (TP X pins σ Q) X.xe s
theorem PW.pt {X : Cx} {e : Expr} {t : TT} (h : PW X e t) : PT X e t := h _
/-- an argument list (no star), from the left -/
def PA (X : Cx) (es : List Expr) (t : TA) : Prop :=
  ∀ (pos : Pos) (pins : List (Addr × Obj)) (s : Shared) (σ : St) (H : Hp) (Q : List V → Hp → Prop), Inv X pins σ H s → t σ H Q → wpAny (model X.prog X.w) X.A (spliced (backTo pos (starEach es X.env))) (AP X pins σ Q) X.xe s
def PS (X : Cx) (st : Stmt) (t : TS) : Prop :=
  ∀ (pins : List (Addr × Obj)) (s : Shared) (σ : St) (H : Hp) (D : Ends), Inv X pins σ H s → t D σ H → wpAny (model X.prog X.w) X.A (exec st X.env) (SP X pins D) X.xe s
def PSs (X : Cx) (st : List Stmt) (t : TS) : Prop :=
  ∀ (pins : List (Addr × Obj)) (s : Shared) (σ : St) (H : Hp) (D : Ends), Inv X pins σ H s → t D σ H → wpAny (model X.prog X.w) X.A (execs st X.env) (SP X pins D) X.xe s
/-- weaken the end -/
theorem thn {α : Type} {t : Sem α} {Q Q' : α → Shared → Prop} {M : Model} {A : Around} {E : Value → Shared → Prop} {s : Shared} (h : wpAny M A t Q E s) (hQ : ∀ a s, Q a s → Q' a s) : wpAny M A t Q' E s := wpAny_mono h hQ fun _ _ x => x
end L2

namespace L2
open PySem PySem.Spec PyProof.Rows
section
variable {X : Cx}

/-! ### names and constants -/
def tVar (i : Nat) : TE := fun σ H Q => ∃ v, σ[i]? = some (some v) ∧ Q v H
def tC (v : V) : TE := fun _ H Q => Q v H
theorem pe_var {i : Nat} {x : Str} {pos : Pos} (hN : X.N[i]? = some x) (hv : Vis X.env.scope x) (hd : (x == ("__debug__" : Str)) = false := by decide) (hcd : (x == ("__classdict__" : Str)) = false := by decide) : PE X (.Name x pos) (tVar i) := by
  intro pins s σ H Q I h
  obtain ⟨v, e, h⟩ := h
  obtain ⟨m, hn, hl⟩ := I.loc
  obtain ⟨u, r, l⟩ := hl i x v hN e hv
  have fin : EP X pins σ Q u s := ⟨v, H, I, r, h⟩
  rcases l with ⟨hk, hm⟩ | ⟨hk, c, hc, hcell⟩
  · exact wpAny_Name (wpAny_loadName_local I.ok.kind hk hn hm fin) hd
  · rcases hk with hk | hk
    · exact wpAny_Name (wpAny_loadName_cell I.ok.kind hk hc hcell fin) hd
    · exact wpAny_Name (wpAny_loadName_free I.ok.kind hk hc hcell fin hcd) hd
theorem pe_int {i j pos} : PE X (.Constant (.int i) j pos) (tC (.int i)) := fun _ _ _ H _ I h => wpAny_Constant_int ⟨.int i, H, I.tok _, ⟨_, rfl⟩, h⟩
theorem pe_bl {b j pos} : PE X (.Constant (.bool b) j pos) (tC (.bl b)) := fun _ _ _ H _ I h => Constant_bool ⟨.bl b, H, I, rfl, h⟩
theorem pe_non {j pos} : PE X (.Constant .none j pos) (tC .non) := fun _ _ _ H _ I h => Constant_none ⟨.non, H, I, rfl, h⟩
theorem pe_str {x j pos} : PE X (.Constant (.str x) j pos) (tC (.str x)) := fun _ _ _ H _ I h => Calls.Constant_str ⟨.str x, H, I.tok _, ⟨_, rfl⟩, h⟩

/-- a global name of the def -/
def Gl (X : Cx) (x : Str) : Prop := X.env.kindOf x = some .globalImplicit
theorem ld_glob {E : Value → Shared → Prop} {pins : List (Addr × Obj)} {s : Shared} {σ : St} {H : Hp} {x : Str} {u : Value} {pos : Pos} {Q : Value → Shared → Prop} (I : Inv X pins σ H s) (hg : Gl X x) (hm : X.mg x = some u) (h : Q u s)
    (hd : (x == ("__debug__" : Str)) = false := by decide) : wpAny (model X.prog X.w) X.A (eval (.Name x pos) X.env) Q E s :=
  Calls.Name_function_global I.ok.kind hg (Calls.loadGlobal_global (by rw [I.ok.glob]; exact I.mod.glob.keeps I.bk) hm h) hd
theorem ld_blt {E : Value → Shared → Prop} {pins : List (Addr × Obj)} {s : Shared} {σ : St} {H : Hp} {x : Str} {u : Value} {pos : Pos} {Q : Value → Shared → Prop} (I : Inv X pins σ H s) (hg : Gl X x) (hm : X.mg x = none) (hv : bootBuiltins x = some u) (h : Q u s)
    (hn : x ≠ "__name__" := by decide) (hd : (x == ("__debug__" : Str)) = false := by decide) : wpAny (model X.prog X.w) X.A (eval (.Name x pos) X.env) Q E s := by
  obtain ⟨mb, h1, h2⟩ := I.mod.blt
  exact Calls.Name_function_global I.ok.kind hg (Calls.loadGlobal_builtin (by rw [I.ok.glob]; exact I.mod.glob.keeps I.bk) hm (by rw [I.ok.blt]; exact h1.keeps I.bk) ((h2 x hn).trans hv) h) hd
/-- a module's constant, a class, a function, as a value -/
theorem pe_glob {x : Str} {v : V} {u : Value} {pos : Pos} (hg : Gl X x) (hm : X.mg x = some u) (r : RelV v u) (hd : (x == ("__debug__" : Str)) = false := by decide) : PE X (.Name x pos) (tC v) :=
  fun _ _ _ H _ I h => ld_glob I hg hm ⟨v, H, I, r, h⟩ hd
theorem pe_bltn {x : Str} {v : V} {u : Value} {pos : Pos} (hg : Gl X x) (hm : X.mg x = none) (hv : bootBuiltins x = some u) (r : RelV v u) (hn : x ≠ "__name__" := by decide) (hd : (x == ("__debug__" : Str)) = false := by decide) : PE X (.Name x pos) (tC v) :=
  fun _ _ _ H _ I h => ld_blt I hg hm hv ⟨v, H, I, r, h⟩ hn hd

/-! ### arithmetic -/
/-- two ints -/
def t2I (ta tb : TE) (k : Int → Int → Hp → Prop) : St → Hp → Prop := fun σ H => ta σ H fun x H1 => tb σ H1 fun y H2 => ∃ i j, x = .int i ∧ y = .int j ∧ k i j H2
def tAdd (ta tb : TE) : TE := fun σ H Q => t2I ta tb (fun i j H2 => Q (.int (i + j)) H2) σ H
def tSub (ta tb : TE) : TE := fun σ H Q => t2I ta tb (fun i j H2 => Q (.int (i - j)) H2) σ H
/-- the left factor below 2^64 -/
def tMul (ta tb : TE) : TE := fun σ H Q => t2I ta tb (fun i j H2 => (-(2 ^ 64) < i ∧ i < 2 ^ 64) ∧ Q (.int (i * j)) H2) σ H
variable {a b : Expr} {ta tb : TE} {pos : Pos}
/-! ### comparisons -/
def PC (X : Cx) (op : CmpOp) (a b : Expr) (t : TE) : Prop :=
  ∀ (pins : List (Addr × Obj)) (s : Shared) (σ : St) (H : Hp) (Q : VK), Inv X pins σ H s → t σ H Q →
    wpAny (model X.prog X.w) X.A (eval a X.env) (fun v s₁ => wpAny (model X.prog X.w) X.A (eval b X.env) (fun u s₂ => wpAny (model X.prog X.w) X.A (compareOp op v u) (EP X pins σ Q) X.xe s₂) X.xe s₁) X.xe s
def tCmp (p : Int → Int → Bool) (ta tb : TE) : TE := fun σ H Q => t2I ta tb (fun i j H2 => Q (.bl (p i j)) H2) σ H
abbrev tLt : TE → TE → TE := tCmp fun i j => decide (i < j)
abbrev tLe : TE → TE → TE := tCmp fun i j => decide (i ≤ j)
abbrev tGt : TE → TE → TE := tCmp fun i j => decide (j < i)
abbrev tGe : TE → TE → TE := tCmp fun i j => decide (j ≤ i)
abbrev tEqI : TE → TE → TE := tCmp fun i j => decide (i = j)
abbrev tNeI : TE → TE → TE := tCmp fun i j => !decide (i = j)
/-- is None -/
def tIsN (ta : TE) : TE := fun σ H Q => ta σ H fun x H1 => Q (.bl (decide (x = .non))) H1
def tNotN (ta : TE) : TE := fun σ H Q => ta σ H fun x H1 => Q (.bl (!decide (x = .non))) H1
/-- a comparison as a value, as a test -/
def tB (t : TE) : TT := fun σ H Q => t σ H fun x H1 => ∃ c, x = .bl c ∧ Q c H1
/-- an expression whose value is a bool, as a test -/
theorem pt_val {e : Expr} {t : TE} (h : PE X e t) (he : ∀ whole, isTrue e X.env whole = (do let v ← whole; standAt e.pos; holding [v] (truthy v)) := by intro _; rfl) : PT X e (tB t) := by
  intro pins s σ H Q I hw
  refine isTrue_plain (thn (h pins s σ H _ I hw) fun v s1 ⟨x, H1, I1, r1, q1⟩ => ?_) (he _)
  obtain ⟨d, rfl, q⟩ := q1
  cases r1
  exact wpAny_truthy_bool ⟨H1, I1, q⟩

/-! ### and, or, not -/
variable {tA tB' : TT} {rest : List Expr}
def tAnd (t u : TT) : TT := fun σ H Q => t σ H fun c H1 => if c = true then u σ H1 Q else Q false H1
def tOr (t u : TT) : TT := fun σ H Q => t σ H fun c H1 => if c = true then Q true H1 else u σ H1 Q
def tNot (t : TT) : TT := fun σ H Q => t σ H fun c H1 => Q (!c) H1
theorem pw_and1 (ha : PT X a tA) : PW X (.BoolOp .And [a] pos) tA := by
  intro wh pins s σ H Q I h
  refine isTrue_and (thn (ha pins s σ H Q I h) fun c s1 e => ?_)
  cases c with
  | true => exact isTrue_and_nil e
  | false => exact e
theorem pw_or1 (ha : PT X a tA) : PW X (.BoolOp .Or [a] pos) tA := by
  intro wh pins s σ H Q I h
  refine isTrue_or (thn (ha pins s σ H Q I h) fun c s1 e => ?_)
  cases c with
  | false => exact isTrue_or_nil e
  | true => exact e
theorem pw_and (ha : PT X a tA) (hb : PW X (.BoolOp .And (b :: rest) pos) tB') : PW X (.BoolOp .And (a :: b :: rest) pos) (tAnd tA tB') := by
  intro wh pins s σ H Q I h
  refine isTrue_and (thn (ha pins s σ H _ I h) fun c s1 ⟨H1, I1, q1⟩ => ?_)
  cases c with
  | true => exact hb wh pins s1 σ H1 Q I1 q1
  | false => exact ⟨H1, I1, q1⟩
theorem pw_or (ha : PT X a tA) (hb : PW X (.BoolOp .Or (b :: rest) pos) tB') : PW X (.BoolOp .Or (a :: b :: rest) pos) (tOr tA tB') := by
  intro wh pins s σ H Q I h
  refine isTrue_or (thn (ha pins s σ H _ I h) fun c s1 ⟨H1, I1, q1⟩ => ?_)
  cases c with
  | true => exact ⟨H1, I1, q1⟩
  | false => exact hb wh pins s1 σ H1 Q I1 q1
theorem pt_not (ha : PT X a tA) : PT X (.UnaryOp .Not a pos) (tNot tA) := by
  intro pins s σ H Q I h
  exact isTrue_not (ha pins s σ H (fun c H1 => Q (!c) H1) I h)
/-- .. as values (bools) -/
def tAndV (ta tb : TE) : TE := fun σ H Q => ta σ H fun x H1 => ∃ c, x = .bl c ∧ if c = true then tb σ H1 Q else Q (.bl false) H1
def tOrV (ta tb : TE) : TE := fun σ H Q => ta σ H fun x H1 => ∃ c, x = .bl c ∧ if c = true then Q (.bl true) H1 else tb σ H1 Q
def tNotV (ta : TE) : TE := fun σ H Q => ta σ H fun x H1 => ∃ c, x = .bl c ∧ Q (.bl (!c)) H1
theorem pe_one {op} {t : TE} (h : PE X a t) : PE X (.BoolOp op [a] pos) t := fun pins s σ H Q I hw => BoolOp_one (h pins s σ H Q I hw)
theorem pe_and (ha : PE X a ta) (hb : PE X (.BoolOp .And (b :: rest) pos) tb) : PE X (.BoolOp .And (a :: b :: rest) pos) (tAndV ta tb) := by
  intro pins s σ H Q I h
  refine BoolOp_and (thn (ha pins s σ H _ I h) fun v s1 ⟨x, H1, I1, r1, q1⟩ => ?_)
  obtain ⟨c, rfl, q1⟩ := q1
  cases r1
  refine wpAny_truthy_bool ?_
  cases c with
  | true => exact hb pins s1 σ H1 Q I1 q1
  | false => exact ⟨.bl false, H1, I1, rfl, q1⟩
theorem pe_not (ha : PE X a ta) : PE X (.UnaryOp .Not a pos) (tNotV ta) := by
  intro pins s σ H Q I h
  refine UnaryOp_ (thn (ha pins s σ H _ I h) fun v s1 ⟨x, H1, I1, r1, q1⟩ => ?_)
  obtain ⟨c, rfl, q1⟩ := q1
  cases r1
  exact not_of (wpAny_truthy_bool ⟨.bl (!c), H1, I1, rfl, q1⟩)
/-- a if t else b -/
def tIf (t : TT) (ta tb : TE) : TE := fun σ H Q => t σ H fun c H1 => if c = true then ta σ H1 Q else tb σ H1 Q
theorem pe_ifExp {c : Expr} (hc : PT X c tA) (ha : PE X a ta) (hb : PE X b tb) : PE X (.IfExp c a b pos) (tIf tA ta tb) := by
  intro pins s σ H Q I h
  refine wpAny_IfExp (thn (hc pins s σ H _ I h) fun d s1 ⟨H1, I1, q1⟩ => ?_)
  cases d with
  | true => exact ha pins s1 σ H1 Q I1 q1
  | false => exact hb pins s1 σ H1 Q I1 q1
end
end L2

namespace L2
open PySem PySem.Spec PyProof.Rows

/-! ### a list, a tuple that is read: tracked, frozen, or an object of the module -/
def SqL (K : PySem.W.Frag) (H : Hp) (a : Addr) (xs : List V) : Prop :=
  Rd H a (.lst xs) ∨
    ∃ (o : Obj) (its : Array Value) (n : Nat), K.lookup a = some o ∧ o.cls = .type "list" ∧ o.dict = none ∧ o.data = .seq its n ∧ its.size ≤ sizeLine ∧ Vals xs its.toList
def SqT (K : PySem.W.Frag) (H : Hp) (a : Addr) (xs : List V) : Prop :=
  Rd H a (.tup xs) ∨
    ∃ (o : Obj) (its : Array Value) (n : Nat), K.lookup a = some o ∧ o.cls = .type "tuple" ∧ o.data = .seq its n ∧ its.size ≤ sizeLine ∧ Vals xs its.toList
def absV : Value → Option V
  | .none => some .non
  | .bool b => some (.bl b)
  | .int i _ => some (.int i)
  | .str x _ => some (.str x)
  | .bytes b _ => some (.byt b)
  | .float b _ => some (.flt b)
  | .ref a => some (.ref a)
  | .type n => some (.ty n)
  | _ => none
theorem RelV.abs {x : V} {u : Value} (r : RelV x u) : absV u = some x := by
  cases x with
  | non => cases r; rfl
  | bl _ => cases r; rfl
  | int _ => obtain ⟨t, rfl⟩ := r; rfl
  | str _ => obtain ⟨t, rfl⟩ := r; rfl
  | byt _ => obtain ⟨t, rfl⟩ := r; rfl
  | flt _ => obtain ⟨t, rfl⟩ := r; rfl
  | ref _ => cases r; rfl
  | ty _ => cases r; rfl
theorem RelV.inj {x y : V} {u : Value} (r : RelV x u) (q : RelV y u) : x = y := Option.some.inj (r.abs.symm.trans q.abs)
theorem Vals.inj : ∀ {xs ys : List V} {us : List Value}, Vals xs us → Vals ys us → xs = ys
  | _, _, _, .nil, .nil => rfl
  | _, _, _, .cons r t, .cons r' t' => by rw [r.inj r', Vals.inj t t']
section
variable {X : Cx} {pins : List (Addr × Obj)} {σ : St} {H : Hp} {s : Shared} {a : Addr} {xs ys : List V}
theorem SqL.of {K : PySem.W.Frag} (h : H a = some (.lst xs)) : SqL K H a xs := .inl (.inl h)
theorem SqT.of {K : PySem.W.Frag} (h : H a = some (.tup xs)) : SqT K H a xs := .inl (.inl h)
theorem Inv.list (I : Inv X pins σ H s) (h : SqL X.K H a xs) : ∃ its : List Value, Vals xs its ∧ PlainL s.heap a its.toArray ∧ xs.length ≤ sizeLine := by
  rcases h with h | ⟨o, its, n, hk, hc, hd, hs, hz, r⟩
  · obtain ⟨z, its, n, r, e⟩ := h.ok I.hok
    exact ⟨its, r, ⟨_, n, e, rfl, rfl, rfl⟩, z⟩
  · refine ⟨its.toList, r, ⟨o, n, I.kIn a o hk, hc, hd, by simpa using hs⟩, ?_⟩
    have e := r.length
    simp only [Array.length_toList] at e
    omega
theorem Inv.tuple (I : Inv X pins σ H s) (h : SqT X.K H a xs) : ∃ its : List Value, Vals xs its ∧ IsTup s.heap a its.toArray ∧ xs.length ≤ sizeLine := by
  rcases h with h | ⟨o, its, n, hk, hc, hs, hz, r⟩
  · obtain ⟨z, its, r, p⟩ := h.ok I.hok
    exact ⟨its, r, p, z⟩
  · refine ⟨its.toList, r, ⟨o, I.kIn a o hk, hc, n, by simpa using hs⟩, ?_⟩
    have e := r.length
    simp only [Array.length_toList] at e
    omega
theorem Inv.list_inj (I : Inv X pins σ H s) (h : SqL X.K H a xs) (h' : SqL X.K H a ys) : xs = ys := by
  obtain ⟨its, r, ⟨o, n, e, _, _, d⟩, _⟩ := I.list h
  obtain ⟨its', r', ⟨o', n', e', _, _, d'⟩, _⟩ := I.list h'
  rw [e] at e'; cases e'
  rw [d] at d'
  injection d' with d1 _
  have : its = its' := by simpa using congrArg Array.toList d1
  subst this
  exact r.inj r'
theorem Inv.tuple_inj (I : Inv X pins σ H s) (h : SqT X.K H a xs) (h' : SqT X.K H a ys) : xs = ys := by
  obtain ⟨its, r, ⟨o, e, _, n, d⟩, _⟩ := I.tuple h
  obtain ⟨its', r', ⟨o', e', _, n', d'⟩, _⟩ := I.tuple h'
  rw [e] at e'; cases e'
  rw [d] at d'
  injection d' with d1 _
  have : its = its' := by simpa using congrArg Array.toList d1
  subst this
  exact r.inj r'
end

/-! ### another wish about exceptions -/
abbrev Cx.wish (X : Cx) (E : Value → Shared → Prop) : Cx := { X with xe := E }
/-- no exception leaves -/
abbrev Cx.nox (X : Cx) : Cx := X.wish fun _ _ => False
theorem Cx.Ok.wish {X : Cx} (ok : X.Ok) (E : Value → Shared → Prop) : (X.wish E).Ok :=
  ⟨ok.mod, ok.kind, ok.glob, ok.blt, ok.above, ok.inj, ok.has, ok.cab, ok.hd, ok.frames, ok.stk, ok.exf, ok.bs, ok.bsz, ok.noex, ok.exfs, ok.funs, ok.frf⟩
theorem Cx.Ok.unwish {X : Cx} {E : Value → Shared → Prop} (ok : (X.wish E).Ok) : X.Ok :=
  ⟨ok.mod, ok.kind, ok.glob, ok.blt, ok.above, ok.inj, ok.has, ok.cab, ok.hd, ok.frames, ok.stk, ok.exf, ok.bs, ok.bsz, ok.noex, ok.exfs, ok.funs, ok.frf⟩
section
variable {X : Cx} {pins : List (Addr × Obj)} {σ : St} {H : Hp} {s : Shared} {E : Value → Shared → Prop}
theorem Inv.wish (I : Inv X pins σ H s) (E : Value → Shared → Prop) : Inv (X.wish E) pins σ H s := ⟨I.ok.wish E, I.os, I.bare, I.base, I.loc, I.cell, I.free, I.freeC, I.pin, I.hok, I.len⟩
theorem Inv.unwish (I : Inv (X.wish E) pins σ H s) : Inv X pins σ H s := ⟨I.ok.unwish, I.os, I.bare, I.base, I.loc, I.cell, I.free, I.freeC, I.pin, I.hok, I.len⟩
theorem SP.unwish {D : Ends} {f : Flow} {s' : Shared} (h : SP (X.wish E) pins D f s') : SP X pins D f s' := by
  cases f with
  | next => obtain ⟨σ', H', I, q⟩ := h; exact ⟨σ', H', I.unwish, q⟩
  | brk => obtain ⟨σ', H', I, q⟩ := h; exact ⟨σ', H', I.unwish, q⟩
  | cont => obtain ⟨σ', H', I, q⟩ := h; exact ⟨σ', H', I.unwish, q⟩
  | ret u => obtain ⟨v, σ', H', I, r, q⟩ := h; exact ⟨v, σ', H', I.unwish, r, q⟩
theorem PE.nox {e : Expr} {t : TE} (h : PE X.nox e t) : PE X e t := fun pins s σ H Q I hw =>
  wpAny_mono (h pins s σ H Q (I.wish _) hw) (fun _ _ ⟨v, H', I', r, q⟩ => ⟨v, H', I'.unwish, r, q⟩) fun _ _ z => False.elim z
theorem PT.nox {e : Expr} {t : TT} (h : PT X.nox e t) : PT X e t := fun pins s σ H Q I hw =>
  wpAny_mono (h pins s σ H Q (I.wish _) hw) (fun _ _ ⟨H', I', q⟩ => ⟨H', I'.unwish, q⟩) fun _ _ z => False.elim z
theorem PSs.nox {st : List Stmt} {t : TS} (h : PSs X.nox st t) : PSs X st t := fun pins s σ H D I hw =>
  wpAny_mono (h pins s σ H D (I.wish _) hw) (fun _ _ q => q.unwish) fun _ _ z => False.elim z
end

/-! ### blocks and small statements -/
section
variable {X : Cx} {st : Stmt} {rest : List Stmt} {t u : TS} {e : Expr} {te : TE} {pos : Pos}
def tNext : TS := fun D σ H => D.nx σ H
def tSeq (t u : TS) : TS := fun D σ H => t { D with nx := u D } σ H
theorem pss_nil : PSs X [] tNext := fun _ _ σ H _ I h => wpAny_execs_nil ⟨σ, H, I, h⟩
theorem pss_cons (h1 : PS X st t) (h2 : PSs X rest u) : PSs X (st :: rest) (tSeq t u) := by
  intro pins s σ H D I h
  refine wpAny_execs_cons (thn (h1 pins s σ H { D with nx := u D } I h) fun f s1 q => ?_)
  cases f with
  | next =>
    obtain ⟨σ', H', I', q⟩ := q
    exact h2 pins s1 σ' H' D I' q
  | ret v => exact q
  | brk => exact q
  | cont => exact q
theorem pss_one (h1 : PS X st t) : PSs X [st] t := by
  intro pins s σ H D I h
  refine wpAny_execs_cons (thn (h1 pins s σ H D I h) fun f s1 q => ?_)
  cases f with
  | next => exact wpAny_execs_nil q
  | ret v => exact q
  | brk => exact q
  | cont => exact q
def tBreak : TS := fun D σ H => D.bk σ H
def tCont : TS := fun D σ H => D.ct σ H
/-- in a def's body nothing is shown -/
theorem Inv.quiet {pins : List (Addr × Obj)} {σ : St} {H : Hp} {s : Shared} (I : Inv X pins σ H s) : interactive X.env = false := by simp [interactive, I.ok.kind]
/-- an expression whose value is dropped -/
def tDrop (te : TE) : TS := fun D σ H => te σ H fun _ H1 => D.nx σ H1
theorem ps_expr (he : PE X e te) (hs : swapsWith e none pos.line X.env = pure false := by rfl) : PS X (.Expr e pos) (tDrop te) := by
  intro pins s σ H D I h
  exact wpAny_Expr_any (thn (he pins s σ H _ I h) fun v s1 ⟨x, H1, I1, r1, q1⟩ => ⟨σ, H1, I1, q1⟩) I.quiet hs
def tRet (te : TE) : TS := fun D σ H => te σ H D.rt
theorem ps_ret (he : PE X e te) : PS X (.Return (some e) pos) (tRet te) := by
  intro pins s σ H D I h
  exact wpAny_Return_some (thn (he pins s σ H _ I h) fun v s1 ⟨x, H1, I1, r1, q1⟩ => ⟨x, σ, H1, I1, r1, q1⟩)
def tRetN : TS := fun D _ H => D.rt .non H
def tIfS (c : TT) (t u : TS) : TS := fun D σ H => c σ H fun b H1 => if b = true then t D σ H1 else u D σ H1
theorem ps_if {c : Expr} {a b : List Stmt} {tc : TT} (hc : PT X c tc) (ha : PSs X a t) (hb : PSs X b u) : PS X (.If c a b pos) (tIfS tc t u) := by
  intro pins s σ H D I h
  refine wpAny_If (thn (hc pins s σ H _ I h) fun d s1 ⟨H1, I1, q1⟩ => ?_)
  cases d with
  | true => exact ha pins s1 σ H1 D I1 q1
  | false => exact hb pins s1 σ H1 D I1 q1
/-- code that the proof never comes to -/
def tNever : TS := fun _ _ _ => False
end

/-! ### targets -/
abbrev TG := V → St → Hp → (St → Hp → Prop) → Prop
abbrev TGs := List V → St → Hp → (St → Hp → Prop) → Prop
def PG (X : Cx) (target : Expr) (t : TG) : Prop :=
  ∀ (pins : List (Addr × Obj)) (s : Shared) (σ : St) (H : Hp) (v : V) (u : Value) (Q : St → Hp → Prop), Inv X pins σ H s → RelV v u → t v σ H Q →
    wpAny (model X.prog X.w) X.A (assign target X.env u) (fun _ s' => ∃ σ' H', Inv X pins σ' H' s' ∧ Q σ' H') X.xe s
/-- several targets, one after another -/
def PGs (X : Cx) (ts : List Expr) (t : TGs) : Prop :=
  ∀ (pins : List (Addr × Obj)) (s : Shared) (σ : St) (H : Hp) (vs : List V) (us : List Value) (Q : St → Hp → Prop), Inv X pins σ H s → Vals vs us → t vs σ H Q →
    wpAny (model X.prog X.w) X.A (assignInOrder ((assignEach ts X.env).map (·.2)) us) (fun _ s' => ∃ σ' H', Inv X pins σ' H' s' ∧ Q σ' H') X.xe s
/-- o[i] = v, by values -/
abbrev TSet := V → V → V → Hp → (Hp → Prop) → Prop
def PSet (X : Cx) (t : TSet) : Prop :=
  ∀ (pins : List (Addr × Obj)) (s : Shared) (σ : St) (H : Hp) (o i v : V) (ov iv u : Value) (Q : Hp → Prop), Inv X pins σ H s → RelV o ov → RelV i iv → RelV v u → t o i v H Q →
    wpAny (model X.prog X.w) X.A (setItem ov iv u) (fun _ s' => ∃ H', Inv X pins σ H' s' ∧ Q H') X.xe s
/-- a op= b, by values -/
abbrev TIp := V → V → Hp → VK → Prop
def PIp (X : Cx) (op : Operator) (t : TIp) : Prop :=
  ∀ (pins : List (Addr × Obj)) (s : Shared) (σ : St) (H : Hp) (x y : V) (v u : Value) (Q : VK), Inv X pins σ H s → RelV x v → RelV y u → t x y H Q →
    wpAny (model X.prog X.w) X.A (inplaceOp op v u) (EP X pins σ Q) X.xe s
section
variable {X : Cx} {pos : Pos}
def gName (i : Nat) : TG := fun v σ H Q => Q (σ.set i (some v)) H
theorem pg_name {i : Nat} {x : Str} (hN : X.N.Nodup) (hi : X.N[i]? = some x) (hx : Loc X.env.scope x) (hf : X.fn x = true ∨ X.env.scope.names.lookup x = some .local := by first | exact .inl rfl | exact .inr rfl | assumption) : PG X (.Name x pos) (gName i) := by
  intro pins s σ H v u Q I r h
  exact wpAny_assign_Name (store_ok I hN hi hx r (fun s' I' => ⟨_, H, I', h⟩) hf)
def gNil : TGs := fun vs σ H Q => vs = [] ∧ Q σ H
def gCons (t : TG) (u : TGs) : TGs := fun vs σ H Q => ∃ v r, vs = v :: r ∧ t v σ H fun σ' H' => u r σ' H' Q
theorem pgs_nil : PGs X [] gNil := by
  intro pins s σ H vs us Q I r h
  obtain ⟨e, h⟩ := h
  subst e
  cases r
  exact assignInOrder_nil ⟨σ, H, I, h⟩
theorem pgs_cons {e : Expr} {es : List Expr} {t : TG} {u : TGs} (h1 : PG X e t) (h2 : PGs X es u)
    (hs : (assignEach (e :: es) X.env).map (·.2) = assign e X.env :: (assignEach es X.env).map (·.2) := by rfl) : PGs X (e :: es) (gCons t u) := by
  intro pins s σ H vs us Q I r h
  obtain ⟨v, vr, e1, h⟩ := h
  subst e1
  cases r with
  | cons r rr =>
    rw [hs]
    refine assignInOrder_cons (thn (h1 pins s σ H _ _ _ I r h) fun _ s1 ⟨σ1, H1, I1, q1⟩ => ?_)
    exact h2 pins s1 σ1 H1 _ _ Q I1 rr q1
/-- (a, b, ..) = a tuple of that length -/
def gTup (K : PySem.W.Frag) (n : Nat) (t : TGs) : TG := fun v σ H Q => ∃ a xs, v = .ref a ∧ SqT K H a xs ∧ xs.length = n ∧ t xs σ H Q
theorem pg_tup {es : List Expr} {k : Nat} {t : TGs} {n : Nat} (hc : X.calm = true) (h : PGs X es t)
    (hn : (assignEach es X.env).length = n := by rfl) (hst : (assignEach es X.env).findIdx? (·.1) = none := by rfl) : PG X (.Tuple es k pos) (gTup X.K n t) := by
  intro pins s σ H v u Q I r hw
  obtain ⟨a, xs, e1, hq, hl, hw⟩ := hw
  subst e1
  cases r
  obtain ⟨its, rv, ht, hz⟩ := I.tuple hq
  refine assign_Tuple_tuple (I.ok.hd hc) ht (by simp [hn, ← hl, rv.length]) hst fun h' hx => ?_
  have I1 : Inv X pins σ H { s with heap := h' } := I.kept (t' := s.toks) fun b o e => hx b o (Nat.ne_of_lt (Heap.lt_size e)) e
  exact h pins _ σ H xs _ Q I1 (by simpa using rv) hw
/-- o[i] = .. -/
def gSub (to ti : TE) (t : TSet) : TG := fun v σ H Q => to σ H fun o H1 => ti σ H1 fun i H2 => t o i v H2 fun H3 => Q σ H3
theorem pg_sub {o i : Expr} {to ti : TE} {t : TSet} (ho : PE X o to) (hi : PE X i ti) (hs : PSet X t)
    (ha : ∀ v, assign (.Subscript o i pos) X.env v = (do
      let ov ← holding [v] (eval o X.env)
      let iv ← holding [v, ov] (eval i X.env)
      standAt pos
      holding [v, ov, iv] (setItem ov iv v)
      release [v, ov, iv] []) := by intro _; rfl) : PG X (.Subscript o i pos) (gSub to ti t) := by
  intro pins s σ H v u Q I r h
  rw [ha]
  refine wpAny_bind (wpAny_holding (thn (ho pins s σ H _ I h) fun ov s1 ⟨x, H1, I1, r1, q1⟩ => ?_))
  refine wpAny_bind (wpAny_holding (thn (hi pins s1 σ H1 _ I1 q1) fun iv s2 ⟨y, H2, I2, r2, q2⟩ => ?_))
  refine wpAny_bind (wpAny_standAt (wpAny_bind (wpAny_holding (thn (hs pins s2 σ H2 x y v ov iv u _ I2 r1 r2 r q2) fun _ s3 ⟨H3, I3, q3⟩ => ?_))))
  exact wpAny_release ⟨σ, H3, I3, q3⟩
/-- target = value -/
def tAsg (te : TE) (g : TG) : TS := fun D σ H => te σ H fun x H1 => g x σ H1 D.nx
theorem ps_asg {tg e : Expr} {te : TE} {g : TG} (he : PE X e te) (hg : PG X tg g) (hs : swapsWithSole [tg] e pos.line X.env = pure false := by rfl) (hw : swappedStores [tg] e X.env = pure none := by rfl)
    (h1 : (assignEach [tg] X.env).map (·.2) = [assign tg X.env] := by rfl) : PS X (.Assign [tg] e pos) (tAsg te g) := by
  intro pins s σ H D I h
  refine wpAny_Assign_stores (thn (he pins s σ H _ I h) fun v s1 ⟨x, H1, I1, r1, q1⟩ => ?_) hs hw
  rw [h1]
  exact thn (hg pins s1 σ H1 x v _ I1 r1 q1) fun _ s2 q => q
/-- name = value -/
theorem ps_set {i : Nat} {x : Str} {e : Expr} {te : TE} {pos' : Pos} (hN : X.N.Nodup) (hi : X.N[i]? = some x) (hx : Loc X.env.scope x) (he : PE X e te) (hs : swapsWith e (some (.Name x pos')) pos.line X.env = pure false := by rfl) (hf : X.fn x = true ∨ X.env.scope.names.lookup x = some .local := by first | exact .inl rfl | exact .inr rfl | assumption) :
    PS X (.Assign [.Name x pos'] e pos) (tAsg te (gName i)) := by
  intro pins s σ H D I h
  refine wpAny_Assign_Name (thn (he pins s σ H _ I h) fun v s1 ⟨y, H1, I1, r1, q1⟩ => ?_) hs
  exact store_ok I1 hN hi hx r1 (fun s2 I2 => ⟨_, H1, I2, q1⟩) hf
/-- a, b = x, y with plain local names: stored from the right; the pair itself is not tracked (the opening rows as in PyProof/Rows/TupAssign.lean:23) -/
def tPar (i j : Nat) (ta : TA) : TS := fun D σ H => ta σ H fun vs H1 => ∃ v w, vs = [v, w] ∧ D.nx ((σ.set i (some v)).set j (some w)) H1
theorem ps_par {i j : Nat} {x y : Str} {a b : Expr} {ta : TA} {px py pt : Pos} {kt k2 pt2} (hc : X.calm = true) (hN : X.N.Nodup) (hi : X.N[i]? = some x) (hj : X.N[j]? = some y) (hij : i ≠ j)
    (hx : X.env.scope.names.lookup x = some .local) (hy : X.env.scope.names.lookup y = some .local) (ha : PA X [a, b] ta)
    (hw : swappedStores [.Tuple [.Name x px, .Name y py] kt pt] (.Tuple [a, b] k2 pt2) X.env = pure (some [x, y]))
    (hs : swapsWithSole [.Tuple [.Name x px, .Name y py] kt pt] (.Tuple [a, b] k2 pt2) pos.line X.env = pure false := by rfl) :
    PS X (.Assign [.Tuple [.Name x px, .Name y py] kt pt] (.Tuple [a, b] k2 pt2) pos) (tPar i j ta) := by
  intro pins s σ H D I h
  rw [exec_Assign_arm]
  refine wpAny_bind (wpAny_standAt ?_)
  rw [hs]
  refine wpAny_bind (wpAny_pure ?_)
  rw [if_neg (by decide)]
  refine wpAny_bind (Tuple_ (thn (ha _ pins s σ H _ I h) fun us s1 ⟨vs, H1, I1, r1, q1⟩ => ?_))
  obtain ⟨v, w, e1, q1⟩ := q1
  subst e1
  obtain ⟨u1, u2, rfl, rv, rw'⟩ : ∃ u1 u2, us = [u1, u2] ∧ RelV v u1 ∧ RelV w u2 := by
    cases r1 with
    | cons p q =>
      cases q with
      | cons p' q' =>
        cases q'
        exact ⟨_, _, rfl, p, p'⟩
  refine wpAny_newObj_type ?_ (by show 2 ≤ sizeLine; decide)
  have I2 : Inv X pins σ H1 { s1 with heap := s1.heap.push { cls := .type "tuple", data := .seq [u1, u2].toArray } } := I1.kept (t' := s1.toks) fun b o e => Heap.get?_push_of_some _ e
  rw [hw]
  refine wpAny_bind (wpAny_pure ?_)
  show wpAny (model X.prog X.w) X.A (do rule "assign.swapped-stores"; let items ← unpackItems (.ref s1.heap.objs.size) 2 none; assignInOrder [fun v => bindName X.env y v, fun v => bindName X.env x v] items.reverse; pure Flow.next) _ _ _
  refine wpAny_bind (wpAny_rule (wpAny_bind (unpackItems_tuple (items := #[u1, u2]) (I.ok.hd hc) (IsTup.new s1.heap _) fun h' hx' => ?_)))
  have I3 := I2.kept (h' := h') (t' := s1.toks) fun b o e => hx' b o (Nat.ne_of_lt (Heap.lt_size e)) e
  show wpAny _ _ (assignInOrder [fun v => bindName X.env y v, fun v => bindName X.env x v] [u2, u1] >>= fun _ => pure Flow.next) _ _ _
  refine wpAny_bind (assignInOrder_cons (wpAny_bindName (store_ok I3 hN hj (.inl hy) rw' (fun s2 I4 => ?_) (.inr hy))))
  refine assignInOrder_cons (wpAny_bindName (store_ok I4 hN hi (.inl hx) rv (fun s3 I5 => assignInOrder_nil (wpAny_pure ?_)) (.inr hx)))
  rw [List.set_comm _ _ (Ne.symm hij)] at I5
  exact ⟨_, H1, I5, q1⟩
/-- name op= e -/
def tAug (i : Nat) (te : TE) (ti : TIp) : TS := fun D σ H => ∃ x, σ[i]? = some (some x) ∧ te σ H fun y H1 => ti x y H1 fun z H2 => D.nx (σ.set i (some z)) H2
theorem ps_aug {i : Nat} {x : Str} {e : Expr} {te : TE} {op : Operator} {ti : TIp} {pos' : Pos} (hN : X.N.Nodup) (hi : X.N[i]? = some x) (hx : Loc X.env.scope x) (he : PE X e te) (ho : PIp X op ti) (hf : X.fn x = true ∨ X.env.scope.names.lookup x = some .local := by first | exact .inl rfl | exact .inr rfl | assumption) :
    PS X (.AugAssign (.Name x pos') op e pos) (tAug i te ti) := by
  intro pins s σ H D I h
  obtain ⟨v, e1, h⟩ := h
  obtain ⟨m, hn, hl⟩ := I.loc
  have vis : Vis X.env.scope x := by rcases hx with k | k; exact .inl k; exact .inr (.inl k)
  obtain ⟨u, r, l⟩ := hl i x v hi e1 vis
  refine wpAny_AugAssign_Name ?_
  have go : wpAny (model X.prog X.w) X.A (eval e X.env) (fun w s₂ => wpAny (model X.prog X.w) X.A (inplaceOp op u w) (fun r s₃ => wpAny (model X.prog X.w) X.A (storeName X.env x r) (fun _ => SP X pins D .next) X.xe s₃) X.xe s₂) X.xe s := by
    refine thn (he pins s σ H _ I h) fun w s1 ⟨y, H1, I1, r1, q1⟩ => ?_
    refine thn (ho pins s1 σ H1 v y u w _ I1 r r1 q1) fun z s2 ⟨zv, H2, I2, r2, q2⟩ => ?_
    exact store_ok I2 hN hi hx r2 (fun s3 I3 => ⟨_, H2, I3, q2⟩) hf
  rcases l with ⟨hk, hm⟩ | ⟨hk, c, hc, hcell⟩
  · exact wpAny_loadName_local I.ok.kind hk hn hm go
  · rcases hk with hk | hk
    · exact wpAny_loadName_cell I.ok.kind hk hc hcell go
    · rcases hx with k | k
      · have : X.env.scope.names.lookup x = some .free := hk
        rw [k] at this; cases this
      · have : X.env.scope.names.lookup x = some .free := hk
        rw [k] at this; cases this
/-- o[i] op= e -/
def tAugS (to ti te : TE) (tget : V → V → Hp → VK → Prop) (tip : TIp) (tset : TSet) : TS := fun D σ H => to σ H fun o H1 => ti σ H1 fun i H2 => tget o i H2 fun x H3 => te σ H3 fun y H4 => tip x y H4 fun z H5 => tset o i z H5 fun H6 => D.nx σ H6
/-- o[i], by values -/
def PGet (X : Cx) (t : V → V → Hp → VK → Prop) : Prop :=
  ∀ (pins : List (Addr × Obj)) (s : Shared) (σ : St) (H : Hp) (o i : V) (ov iv : Value) (Q : VK), Inv X pins σ H s → RelV o ov → RelV i iv → t o i H Q →
    wpAny (model X.prog X.w) X.A (getItem ov iv) (EP X pins σ Q) X.xe s
/-- ints -/
def ipI (f : Int → Int → Int) : TIp := fun x y H Q => ∃ i j, x = .int i ∧ y = .int j ∧ Q (.int (f i j)) H
end

/-! ### while -/
section
variable {X : Cx} {pos : Pos}
/-- the invariant W with its measure -/
def tWhile (c : TT) (tb : TS) : TS := fun D σ H => ∃ W : Nat → St → Hp → Prop, (∃ m, W m σ H) ∧ ∀ m σ H, W m σ H →
  c σ H fun b H1 => if b = true then ∃ N : St → Hp → Prop, (∀ σ' H', N σ' H' → ∃ m', m' < m ∧ W m' σ' H') ∧ tb { D with nx := N, ct := N, bk := D.nx } σ H1 else D.nx σ H1
end

/-! ### what a loop or a comprehension walks -/
/-- at turn i: it yields x (the heap may grow), or it stops -/
structure It where
  go : Nat → Hp → Prop
  yld : Nat → Hp → V → Hp → Prop
  stop : Nat → Hp → Prop
/-- the iterator's own objects may turn: they are not the frame's, not pinned, younger than the entry (or a comprehension's own) -/
def FpOk (X : Cx) (pins : List (Addr × Obj)) (H : Hp) (b : Addr) : Prop :=
  H b = none ∧ b ≠ X.env.locals ∧ b ∉ X.fs ∧ (b ∈ X.ex ∨ X.s₀.heap.objs.size ≤ b) ∧ (∀ x c, X.env.cells.lookup x = some c → c ≠ b) ∧ ∀ p ∈ X.pn ++ pins, p.1 ≠ b
theorem Inv.fpOk {X : Cx} {pins : List (Addr × Obj)} {σ : St} {H H' : Hp} {s : Shared} {b : Addr} (I : Inv X pins σ H s) (hb : s.heap.objs.size ≤ b) (hn : H' b = none) : FpOk X pins H' b := by
  refine ⟨hn, Nat.ne_of_gt (Nat.lt_of_lt_of_le I.lt hb), I.nofs hb, .inr (Nat.le_trans I.sz hb), fun x c e z => ?_, fun p hp z => ?_⟩
  · obtain ⟨v, q⟩ := I.cell x c e
    exact absurd (Nat.lt_of_lt_of_le q.lt (by rw [z]; exact hb)) (Nat.lt_irrefl _)
  · exact absurd (Nat.lt_of_lt_of_le (Heap.lt_size (I.pin p hp).1) (by rw [z]; exact hb)) (Nat.lt_irrefl _)
structure Turn (P : Program) (w : World) (K : PySem.W.Frag) (tg : Expr) (J : It) (fp : List Addr) (it : Addr) (tn : Nat → Heap → Prop) : Prop where
  mem : it ∈ fp
  obj : ∀ i h, tn i h → ∀ b ∈ fp, ∃ o, h.get? b = some o ∧ ∀ v, o.data ≠ .cell v
  keep : ∀ i h h', tn i h → (∀ b ∈ fp, ∀ o, h.get? b = some o → h'.get? b = some o) → tn i h'
  item : ∀ (X : Cx), X.prog = P → X.w = w → X.K = K → X.calm = true → ∀ (i : Nat) (pins : List (Addr × Obj)) (s : Shared) (σ : St) (H : Hp) (E : Value → Shared → Prop), Inv X pins σ H s → (∀ b ∈ fp, FpOk X pins H b) → tn i s.heap → J.go i H →
    wpAny (model P w) X.A (pyNext (.ref it)) (fun r s1 => ∃ u, r = some u ∧
      wpAny (model P w) X.A (letOwnedTupleGo tg (.ref it) u) (fun _ s2 => ∃ x H', Inv X pins σ H' s2 ∧ RelV x u ∧ J.yld i H x H' ∧ tn (i + 1) s2.heap ∧ ∀ b ∈ fp, H' b = none) E s1) E s
  done : ∀ (X : Cx), X.prog = P → X.w = w → X.K = K → X.calm = true → ∀ (i : Nat) (pins : List (Addr × Obj)) (s : Shared) (σ : St) (H : Hp) (E : Value → Shared → Prop), Inv X pins σ H s → (∀ b ∈ fp, FpOk X pins H b) → tn i s.heap → J.stop i H →
    wpAny (model P w) X.A (pyNext (.ref it)) (fun r s1 => r = none ∧ Inv X pins σ H s1) E s
  self : ∀ (A : Around) (i : Nat) (s : Shared) (Q : Value → Shared → Prop) (E : Value → Shared → Prop), tn i s.heap → Q (.ref it) s → wpAny (model P w) A (pyIter (.ref it)) Q E s
abbrev TI := St → Hp → (It → Hp → Prop) → Prop
/-- an iterator has come -/
def PIE (X : Cx) (pins : List (Addr × Obj)) (σ : St) (tg : Expr) (R : It → Hp → Prop) (itv : Value) (s2 : Shared) : Prop :=
  ∃ (it : Addr) (fp : List Addr) (tn : Nat → Heap → Prop) (J : It) (H' : Hp), itv = .ref it ∧ Inv X pins σ H' s2 ∧ Turn X.prog X.w X.K tg J fp it tn ∧ tn 0 s2.heap ∧ (∀ b ∈ fp, FpOk X pins H' b) ∧ R J H'
def PI (X : Cx) (tg iter : Expr) (wi : TI) : Prop :=
  ∀ (pins : List (Addr × Obj)) (s : Shared) (σ : St) (H : Hp) (R : It → Hp → Prop), Inv X pins σ H s → wi σ H R →
    wpAny (model X.prog X.w) X.A (eval iter X.env) (fun v s1 => wpAny (model X.prog X.w) X.A (pyIter v) (PIE X pins σ tg R) X.xe s1) X.xe s

/-- the step ahead of the store is nothing for an iterator that keeps no tuple -/
theorem go_of {M : Model} {A : Around} {E : Value → Shared → Prop} {s : Shared} {tg : Expr} {it : Addr} {u : Value} {o : Obj} {n : String} {vs : Array Value} {Q : Unit → Shared → Prop} (ho : s.heap.get? it = some o) (hc : o.cls = .type n) (hd : o.data = .fields vs)
    (hn : ["enumerate", "zip", "dict_itemiterator", "dict_reverseitemiterator", "odict_iterator", "itertools.zip_longest", "itertools.pairwise"].contains n = false) (hQ : Q () s) : wpAny M A (letOwnedTupleGo tg (.ref it) u) Q E s := by
  unfold letOwnedTupleGo
  cases tg <;> first
    | exact wpAny_pure hQ
    | (cases u <;> first
        | exact wpAny_pure hQ
        | (refine wpAny_bind (wpAny_load ho ?_)
           rw [hc, hd]
           show wpAny M A (if (["enumerate", "zip", "dict_itemiterator", "dict_reverseitemiterator", "odict_iterator", "itertools.zip_longest", "itertools.pairwise"].contains n && vs[0]? == some (rawInt _)) = true then _ else _) Q E s
           rw [if_neg (by intro h; rw [hn, Bool.false_and] at h; cases h)]
           exact wpAny_pure hQ))

/-- the list at a, as it stands at each turn (a loop may append to it) -/
def Itl (K : PySem.W.Frag) (a : Addr) : It :=
  ⟨fun i H => ∃ xs x, SqL K H a xs ∧ xs[i]? = some x, fun i H x H' => H' = H ∧ ∀ xs, SqL K H a xs → xs[i]? = some x, fun i H => ∃ xs, SqL K H a xs ∧ xs.length ≤ i⟩
def Itt (K : PySem.W.Frag) (a : Addr) : It :=
  ⟨fun i H => ∃ xs x, SqT K H a xs ∧ xs[i]? = some x, fun i H x H' => H' = H ∧ ∀ xs, SqT K H a xs → xs[i]? = some x, fun i H => ∃ xs, SqT K H a xs ∧ xs.length ≤ i⟩
/-- lo, lo + 1, .. (n of them) -/
def Itr (lo : Int) (n : Nat) : It := ⟨fun i _ => i < n, fun i H x H' => H' = H ∧ x = .int (lo + i), fun i _ => n ≤ i⟩
theorem turn_list {P : Program} {w : World} {K : PySem.W.Frag} {tg : Expr} (a it : Addr) : Turn P w K tg (Itl K a) [it] it (fun i h => h.IsListIter it a i) where
  mem := by simp
  obj := fun i h st b hb => by
    have e : b = it := by simpa using hb
    subst e
    obtain ⟨o, e, c, d⟩ := st
    exact ⟨o, e, fun v z => by rw [d] at z; cases z⟩
  keep := fun i h h' st k => st.at fun o e => k it (by simp) o e
  item := by
    intro X hP hw hK hc i pins s σ H E I hf st hg
    subst hP hw hK
    obtain ⟨xs, x, hq, hx⟩ := hg
    obtain ⟨its, rv, p, hz⟩ := I.list hq
    obtain ⟨u, hu, ru⟩ := rv.get hx
    obtain ⟨f0, f1, f2, f3, f4, f5⟩ := hf it (by simp)
    refine wpAny_pyNext_list_item st p.isList (x := u) (by simpa using hu) fun h' st' sb => ?_
    have I1 : Inv X pins σ H { s with heap := h' } := I.turned (t' := s.toks) (fun b o hb e => (sb.2 b hb).trans e) f0 f1 f3 f4 f5
    obtain ⟨o, e, c, d⟩ := id st'
    exact ⟨u, rfl, go_of (s := { s with heap := h' }) e c d (by decide) ⟨x, H, I1, ru, ⟨rfl, fun ys hy => by rw [I.list_inj hy hq]; exact hx⟩, st', fun b hb => (hf b hb).1⟩⟩
  done := by
    intro X hP hw hK hc i pins s σ H E I hf st hg
    subst hP hw hK
    obtain ⟨xs, hq, hx⟩ := hg
    obtain ⟨its, rv, p, hz⟩ := I.list hq
    obtain ⟨f0, f1, f2, f3, f4, f5⟩ := hf it (by simp)
    have hl := rv.length
    exact wpAny_pyNext_list_end (I.ok.hd hc) st p.isList (by simp; omega) fun h' eb => ⟨rfl, I.turned (t' := s.toks) (fun b o hb e => eb b o hb e) f0 f1 f3 f4 f5⟩
  self := fun _ _ _ _ _ st h => wpAny_pyIter_listiter st h
theorem turn_range {P : Program} {w : World} {K : PySem.W.Frag} {tg : Expr} (it : Addr) (lo : Int) (n : Nat) : Turn P w K tg (Itr lo n) [it] it (fun i h => IsRangeIter h it (lo + (i : Nat) * 1) ((n : Int) - (i : Nat)) 1) where
  mem := by simp
  obj := fun i h st b hb => by
    have e : b = it := by simpa using hb
    subst e
    exact ⟨_, st, fun v z => by
      have z' : Data.fields _ = Data.cell v := z
      cases z'⟩
  keep := fun i h h' st k => k it (by simp) _ st
  item := by
    intro X hP hw hK hc i pins s σ H E I hf st hg
    subst hP hw hK
    obtain ⟨f0, f1, f2, f3, f4, f5⟩ := hf it (by simp)
    have W := Walks.range (prog := X.prog) (w := X.w) (I.ok.hd hc) it lo 1 n
    refine W.item i s _ _ hg st fun v h' tk hv st' kk => ?_
    obtain ⟨t, rfl⟩ := hv
    have I1 : Inv X pins σ H { s with heap := h', toks := tk } := I.turned (fun b o hb e => kk b o (by simpa using hb) e) f0 f1 f3 f4 f5
    refine ⟨_, rfl, go_of (s := { s with heap := h', toks := tk }) (n := "range_iterator") st' rfl rfl (by decide) ⟨.int (lo + i), H, I1, ⟨t, ?_⟩, ⟨rfl, rfl⟩, st', fun b hb => (hf b hb).1⟩⟩
    rw [Int.mul_one]
  done := by
    intro X hP hw hK hc i pins s σ H E I hf st hg
    subst hP hw hK
    obtain ⟨f0, f1, f2, f3, f4, f5⟩ := hf it (by simp)
    exact wpAny_pyNext_range_end (I.ok.hd hc) st (by have : n ≤ i := hg; omega) fun h' eb => ⟨rfl, I.turned (t' := s.toks) (fun b o hb e => eb b o hb e) f0 f1 f3 f4 f5⟩
  self := fun _ _ _ _ _ st h => wpAny_pyIter_rangeiter st h
end L2

namespace L2
open PySem PySem.Spec PyProof.Rows
section
variable {X : Cx} {tg : Expr}
def iList (K : PySem.W.Frag) (tl : TE) : TI := fun σ H R => tl σ H fun x H1 => ∃ a, x = .ref a ∧ (∃ xs, SqL K H1 a xs) ∧ R (Itl K a) H1
def iTup (K : PySem.W.Frag) (tl : TE) : TI := fun σ H R => tl σ H fun x H1 => ∃ a, x = .ref a ∧ (∃ xs, SqT K H1 a xs) ∧ R (Itt K a) H1
theorem pi_list {l : Expr} {tl : TE} (hl : PE X l tl) : PI X tg l (iList X.K tl) := by
  intro pins s σ H R I h
  refine thn (hl pins s σ H _ I h) fun v s1 ⟨x, H1, I1, r1, q1⟩ => ?_
  obtain ⟨a, e, ⟨xs, hq⟩, q⟩ := q1
  subst e
  cases r1
  obtain ⟨its, rv, p, hz⟩ := I1.list hq
  refine wpAny_pyIter_list p.isList ?_
  refine ⟨s1.heap.objs.size, [s1.heap.objs.size], _, _, H1, rfl, I1.kept (t' := s1.toks) fun b o e => Heap.get?_push_of_some _ e, turn_list a _, ⟨_, Heap.get?_push_size _ rfl, rfl, rfl⟩, fun b hb => ?_, q⟩
  have e : b = s1.heap.objs.size := by simpa using hb
  subst e
  exact I1.fpOk (Nat.le_refl _) (I1.hok.fresh (Nat.le_refl _))
/-- a range object just made, walked -/
theorem range_it {pins : List (Addr × Obj)} {σ : St} {H : Hp} {s : Shared} {R : It → Hp → Prop} {E : Value → Shared → Prop} {lo hi : Int} {t u v : Tok} {tk : Nat} (I : Inv X pins σ H s) (h1 : -(2 ^ 62) ≤ lo) (h2 : lo < 2 ^ 62) (h3 : -(2 ^ 62) ≤ hi) (h4 : hi < 2 ^ 62)
    (q : R (Itr lo (hi - lo).toNat) H) : wpAny (model X.prog X.w) X.A (pyIter (.ref s.heap.objs.size)) (PIE X pins σ tg R) E { s with heap := s.heap.push { cls := .type "range", data := .fields #[.int lo t, .int hi u, .int 1 v] }, toks := tk } := by
  refine wpAny_pyIter_range (IsRange.new ..) (small_one h1 h2 h3 h4) ?_
  have I1 : Inv X pins σ H { s with heap := s.heap.push { cls := .type "range", data := .fields #[.int lo t, .int hi u, .int 1 v] }, toks := tk } := I.kept fun b o e => Heap.get?_push_of_some _ e
  refine ⟨(s.heap.push { cls := .type "range", data := .fields #[.int lo t, .int hi u, .int 1 v] }).objs.size, [(s.heap.push { cls := .type "range", data := .fields #[.int lo t, .int hi u, .int 1 v] }).objs.size], _, _, H, rfl,
    I1.kept (t' := tk) fun b o e => Heap.get?_push_of_some _ e, turn_range _ lo (hi - lo).toNat, ?_, fun b hb => ?_, q⟩
  · have e1 : lo + ((0 : Nat) : Int) * 1 = lo := by simp
    have e2 : (((hi - lo).toNat : Nat) : Int) - ((0 : Nat) : Int) = Builtin.Range.rangeSize lo hi 1 := by rw [rangeSize_one]; split <;> omega
    show IsRangeIter _ _ (lo + ((0 : Nat) : Int) * 1) ((((hi - lo).toNat : Nat) : Int) - ((0 : Nat) : Int)) 1
    rw [e1, e2]
    exact Heap.get?_push_size _ rfl
  · have e : b = (s.heap.push { cls := .type "range", data := .fields #[.int lo t, .int hi u, .int 1 v] }).objs.size := by simpa using hb
    subst e
    exact I1.fpOk (Nat.le_refl _) (I1.hok.fresh (Nat.le_refl _))
def iRng1 (ta : TA) : TI := fun σ H R => ta σ H fun vs H1 => ∃ j : Int, vs = [.int j] ∧ -(2 ^ 62) ≤ j ∧ j < 2 ^ 62 ∧ R (Itr 0 j.toNat) H1
def iRng2 (ta : TA) : TI := fun σ H R => ta σ H fun vs H1 => ∃ i j : Int, vs = [.int i, .int j] ∧ (-(2 ^ 62) ≤ i ∧ i < 2 ^ 62 ∧ -(2 ^ 62) ≤ j ∧ j < 2 ^ 62) ∧ R (Itr i (j - i).toNat) H1
theorem pi_range1 {a : Expr} {ta : TA} {p pos : Pos} (hg : Gl X "range") (hm : X.mg "range" = none) (ha : PA X [a] ta) (hs : starEach [a] X.env = [(false, eval a X.env)] := by rfl) : PI X tg (.Call (.Name "range" p) [a] [] pos) (iRng1 ta) := by
  intro pins s σ H R I h
  refine Call_ (ld_blt I hg hm boot_range (PyProof.Rows.callWith_type1 (thn (ha pos pins s σ H _ I h) fun us s1 ⟨vs, H1, I1, r1, q1⟩ => ?_) hs rfl))
  obtain ⟨j, e, q1, q2, q⟩ := q1
  subst e
  cases r1 with
  | cons r rr =>
    cases rr
    obtain ⟨t, rfl⟩ := r
    exact call_range_1 (range_it I1 (by omega) (by omega) q1 q2 (by simpa using q))
/-! ### for -/
/-- W: the invariant by the turn and a measure; N: what the body is to reach -/
def tFor (wi : TI) (g : TG) (tb : TS) : TS := fun D σ H => wi σ H fun J H1 => ∃ W : Nat → Nat → St → Hp → Prop, (∃ m, W 0 m σ H1) ∧ ∀ i m σ H, W i m σ H →
  (J.stop i H ∧ D.nx σ H) ∨ (J.go i H ∧ ∃ N : St → Hp → Prop, (∀ σ' H', N σ' H' → ∃ m', m' < m ∧ W (i + 1) m' σ' H') ∧ ∀ x H', J.yld i H x H' → g x σ H' fun σ2 H2 => tb { D with nx := N, ct := N, bk := D.nx } σ2 H2)
/-- the records at fp as they stand -/
def pinsAt (fp : List Addr) (h : Heap) : List (Addr × Obj) := fp.filterMap fun b => (h.get? b).map fun o => (b, o)
theorem mem_pinsAt {fp : List Addr} {h : Heap} {b : Addr} {o : Obj} (hb : b ∈ fp) (e : h.get? b = some o) : (b, o) ∈ pinsAt fp h := List.mem_filterMap.mpr ⟨b, hb, by rw [e]; rfl⟩
theorem of_pinsAt {fp : List Addr} {h : Heap} {p : Addr × Obj} (hp : p ∈ pinsAt fp h) : p.1 ∈ fp ∧ h.get? p.1 = some p.2 := by
  obtain ⟨b, hb, e⟩ := List.mem_filterMap.mp hp
  cases q : h.get? b with
  | none => rw [q] at e; cases e
  | some o =>
    rw [q] at e
    have e' : (b, o) = p := Option.some.inj e
    subst e'
    exact ⟨hb, q⟩
theorem Inv.pinned {pins : List (Addr × Obj)} {σ : St} {H : Hp} {s : Shared} {fp : List Addr} (I : Inv X pins σ H s) (hf : ∀ b ∈ fp, FpOk X pins H b) (ho : ∀ b ∈ fp, ∃ o, s.heap.get? b = some o ∧ ∀ v, o.data ≠ .cell v) : Inv X (pins ++ pinsAt fp s.heap) σ H s :=
  I.pins_of fun p hp => (List.mem_append.mp hp).elim (fun z => I.pin p (List.mem_append_right _ z)) fun z => by
    obtain ⟨hb, e⟩ := of_pinsAt z
    obtain ⟨f0, f1, f2, _⟩ := hf p.1 hb
    obtain ⟨o, e', d⟩ := ho p.1 hb
    rw [e] at e'; cases e'
    exact ⟨e, f0, f1, f2, d⟩
theorem Inv.unpinned {pins pl : List (Addr × Obj)} {σ : St} {H : Hp} {s : Shared} (I : Inv X (pins ++ pl) σ H s) : Inv X pins σ H s := I.pins_of fun p hp => I.pin p (List.mem_append_right _ (List.mem_append_left _ hp))
theorem ps_for {iter : Expr} {body : List Stmt} {wi : TI} {g : TG} {tb : TS} {pos : Pos} (hp : PassesOwn (model X.prog X.w) X.A X.env X.xe) (hc : X.calm = true) (hi : PI X tg iter wi) (hg : PG X tg g) (hb : PSs X body tb)
    (hs : ∀ x, foldedSetIterable iter X.env x = pure x := by intro _; rfl) : PS X (.For tg iter body [] pos) (tFor wi g tb) := by
  intro pins s σ H D I h
  refine wpAny_For (thn (hi pins s σ H _ I h) fun v s1 h1 => thn h1 fun itv s2 h2 => ?_) hs
  obtain ⟨it, fp, tn, J, H2, e, I2, T, st2, f2, W, ⟨m0, w0⟩, turn⟩ := h2
  subst e
  -- what stays true of the iterator's objects through the loop
  have stat : ∀ {H' : Hp}, (∀ b ∈ fp, H' b = none) → ∀ b ∈ fp, FpOk X pins H' b := fun hn b hb => ⟨hn b hb, (f2 b hb).2⟩
  refine codeAny_forLoop_any (fun n s' => ∃ i σ' H', Inv X pins σ' H' s' ∧ tn i s'.heap ∧ (∀ b ∈ fp, H' b = none) ∧ W i n σ' H') ?_ m0 ⟨0, σ, H2, I2, st2, fun b hb => (f2 b hb).1, w0⟩
  rintro n s3 ⟨i, σ3, H3, I3, st3, fr3, w3⟩
  rcases turn i n σ3 H3 w3 with ⟨stop, qn⟩ | ⟨go, N, hN, step⟩
  · refine wpAny_passesOwn hp (thn (T.done X rfl rfl rfl hc i pins s3 σ3 H3 X.xe I3 (stat fr3) st3 stop) fun r s4 ⟨hr, I4⟩ => ?_)
    subst hr
    exact wpAny_execs_nil ⟨σ3, H3, I4, qn⟩
  · refine wpAny_passesOwn hp (thn (T.item X rfl rfl rfl hc i pins s3 σ3 H3 X.xe I3 (stat fr3) st3 go) fun r s4 ⟨u, hr, h4⟩ => ?_)
    subst hr
    refine wpAny_passesOwn hp (thn h4 fun _ s5 ⟨x, H5, I5, r5, y5, st5, fr5⟩ => ?_)
    have I5' := I5.pinned (stat fr5) (T.obj _ _ st5)
    refine wpAny_passesOwn hp (thn (hg _ s5 σ3 H5 x u _ I5' r5 (step x H5 y5)) fun _ s6 ⟨σ6, H6, I6, q6⟩ => ?_)
    refine wpAny_passesOwn hp (thn (hb _ s6 σ6 H6 _ I6 q6) fun f s7 q7 => ?_)
    have again : ∀ {σ7 : St} {H7 : Hp}, Inv X (pins ++ pinsAt fp s5.heap) σ7 H7 s7 → N σ7 H7 → ∃ m, m < n ∧ ∃ i σ' H', Inv X pins σ' H' s7 ∧ tn i s7.heap ∧ (∀ b ∈ fp, H' b = none) ∧ W i m σ' H' := fun {σ7 H7} I7 n7 => by
      obtain ⟨m', hm, w7⟩ := hN σ7 H7 n7
      refine ⟨m', hm, i + 1, σ7, H7, I7.unpinned, T.keep _ _ _ st5 fun b hb o e => (I7.pin (b, o) (List.mem_append_right _ (List.mem_append_right _ (mem_pinsAt hb e)))).1, fun b hb => ?_, w7⟩
      obtain ⟨o, e, d⟩ := T.obj _ _ st5 b hb
      exact (I7.pin (b, o) (List.mem_append_right _ (List.mem_append_right _ (mem_pinsAt hb e)))).2.1
    cases f with
    | next => obtain ⟨σ7, H7, I7, n7⟩ := q7; exact again I7 n7
    | cont => obtain ⟨σ7, H7, I7, n7⟩ := q7; exact again I7 n7
    | brk => obtain ⟨σ7, H7, I7, q7⟩ := q7; exact ⟨σ7, H7, I7.unpinned, q7⟩
    | ret v => obtain ⟨x7, σ7, H7, I7, r7, q7⟩ := q7; exact ⟨x7, σ7, H7, I7.unpinned, r7, q7⟩
end

/-! ### the forms one uses -/
theorem for_range {lo : Int} {n : Nat} {g : TG} {tb : TS} {D : Ends} {σ : St} {H : Hp} (Pv : Nat → St → Hp → Prop) (h0 : Pv 0 σ H)
    (hs : ∀ i σ H, i < n → Pv i σ H → g (.int (lo + i)) σ H fun σ2 H2 => tb { D with nx := Pv (i + 1), ct := Pv (i + 1), bk := D.nx } σ2 H2) (hd : ∀ σ H, Pv n σ H → D.nx σ H) :
    ∃ W : Nat → Nat → St → Hp → Prop, (∃ m, W 0 m σ H) ∧ ∀ i m σ H, W i m σ H →
      ((Itr lo n).stop i H ∧ D.nx σ H) ∨ ((Itr lo n).go i H ∧ ∃ N : St → Hp → Prop, (∀ σ' H', N σ' H' → ∃ m', m' < m ∧ W (i + 1) m' σ' H') ∧ ∀ x H', (Itr lo n).yld i H x H' → g x σ H' fun σ2 H2 => tb { D with nx := N, ct := N, bk := D.nx } σ2 H2) := by
  refine ⟨fun i m σ H => m = n - i ∧ i ≤ n ∧ Pv i σ H, ⟨n, by simp, Nat.zero_le _, h0⟩, ?_⟩
  rintro i m σ H ⟨rfl, hi, p⟩
  by_cases hlt : i < n
  · refine .inr ⟨hlt, Pv (i + 1), fun σ' H' p' => ⟨n - (i + 1), by omega, rfl, hlt, p'⟩, fun x H' y => ?_⟩
    obtain ⟨e, y⟩ := y
    subst e y
    exact hs i σ _ hlt p
  · have e : i = n := by omega
    subst e
    exact .inl ⟨Nat.le_refl _, hd σ H p⟩
end L2

namespace L2
open PySem PySem.Spec PyProof.Rows

abbrev R2 := V → V → Hp → VK → Prop
/-- a two-place operation on values: f is binaryOp op, inplaceOp op or compareOp op -/
def OpR (X : Cx) (f : Value → Value → Sem Value) (r : R2) : Prop :=
  ∀ (pins : List (Addr × Obj)) (s : Shared) (σ : St) (H : Hp) (x y : V) (v u : Value) (Q : VK), Inv X pins σ H s → RelV x v → RelV y u → r x y H Q →
    wpAny (model X.prog X.w) X.A (f v u) (EP X pins σ Q) X.xe s
/-- a one-place operation -/
def UnR (X : Cx) (f : Value → Sem Value) (r : V → Hp → VK → Prop) : Prop :=
  ∀ (pins : List (Addr × Obj)) (s : Shared) (σ : St) (H : Hp) (x : V) (v : Value) (Q : VK), Inv X pins σ H s → RelV x v → r x H Q →
    wpAny (model X.prog X.w) X.A (f v) (EP X pins σ Q) X.xe s
/-- a call of a value that is known (a builtin, a type) with values -/
def CallR (X : Cx) (f : Value) (r : List V → Hp → VK → Prop) : Prop :=
  ∀ (pins : List (Addr × Obj)) (s : Shared) (σ : St) (H : Hp) (xs : List V) (us : List Value) (Q : VK), Inv X pins σ H s → Vals xs us → r xs H Q →
    wpAny (model X.prog X.w) X.A (call f us) (EP X pins σ Q) X.xe s
/-- a value's truth -/
def TruR (X : Cx) (r : V → Hp → (Bool → Hp → Prop) → Prop) : Prop :=
  ∀ (pins : List (Addr × Obj)) (s : Shared) (σ : St) (H : Hp) (x : V) (v : Value) (Q : Bool → Hp → Prop), Inv X pins σ H s → RelV x v → r x H Q →
    wpAny (model X.prog X.w) X.A (truthy v) (TP X pins σ Q) X.xe s

def tOp (r : R2) (ta tb : TE) : TE := fun σ H Q => ta σ H fun x H1 => tb σ H1 fun y H2 => r x y H2 Q
def tUn (r : V → Hp → VK → Prop) (ta : TE) : TE := fun σ H Q => ta σ H fun x H1 => r x H1 Q
/-- ints in, under C, and a value out -/
def rI (C : Int → Int → Prop) (g : Int → Int → V) : R2 := fun x y H Q => ∃ i j, x = .int i ∧ y = .int j ∧ C i j ∧ Q (g i j) H
def rI0 (g : Int → Int → V) : R2 := fun x y H Q => ∃ i j, x = .int i ∧ y = .int j ∧ Q (g i j) H
def rU (g : Int → V) : V → Hp → VK → Prop := fun x H Q => ∃ i, x = .int i ∧ Q (g i) H

section
variable {X : Cx} {a b c : Expr} {ta tb tc : TE} {pos : Pos}

theorem binT (ha : PE X a ta) (hb : PE X b tb) {pins : List (Addr × Obj)} {s : Shared} {σ : St} {H : Hp} {R : V → V → Hp → Prop} (I : Inv X pins σ H s)
    (h : ta σ H fun x H1 => tb σ H1 fun y H2 => R x y H2) {Q : Value → Shared → Prop} {f : Value → Value → Sem Value}
    (hf : ∀ v u s2 x y H2, Inv X pins σ H2 s2 → RelV x v → RelV y u → R x y H2 → wpAny (model X.prog X.w) X.A (f v u) Q X.xe s2) :
    wpAny (model X.prog X.w) X.A (eval a X.env) (fun v s₁ => wpAny (model X.prog X.w) X.A (eval b X.env) (fun u s₂ => wpAny (model X.prog X.w) X.A (f v u) Q X.xe s₂) X.xe s₁) X.xe s := by
  refine thn (ha pins s σ H _ I h) fun v s1 ⟨x, H1, I1, r1, q1⟩ => ?_
  refine thn (hb pins s1 σ H1 _ I1 q1) fun u s2 ⟨y, H2, I2, r2, q2⟩ => ?_
  exact hf v u s2 x y H2 I2 r1 r2 q2

theorem pe_op {op : Operator} {r : R2} (ho : OpR X (binaryOp op) r) (ha : PE X a ta) (hb : PE X b tb) : PE X (.BinOp a op b pos) (tOp r ta tb) := by
  intro pins s σ H Q I h
  exact wpAny_BinOp (binT ha hb I h fun v u s2 x y H2 I2 rx ry q => ho pins s2 σ H2 x y v u Q I2 rx ry q)
theorem pe_un {op : UnaryOp} {r : V → Hp → VK → Prop} (ho : UnR X (unaryOp op) r) (ha : PE X a ta) : PE X (.UnaryOp op a pos) (tUn r ta) := by
  intro pins s σ H Q I h
  exact UnaryOp_ (thn (ha pins s σ H _ I h) fun v s1 ⟨x, H1, I1, r1, q1⟩ => ho pins s1 σ H1 x v Q I1 r1 q1)
/-! ### ints -/
theorem opI {f : Value → Value → Sem Value} {C : Int → Int → Prop} {g : Int → Int → Int}
    (rule : ∀ (i j : Int) (t u : Tok) (s : Shared) (Q : Value → Shared → Prop) (E : Value → Shared → Prop), C i j → Q (.int (g i j) s.toks) { s with toks := s.toks + 1 } → wpAny (model X.prog X.w) X.A (f (.int i t) (.int j u)) Q E s) :
    OpR X f (rI C fun i j => .int (g i j)) := by
  intro pins s σ H x y v u Q I rx ry h
  obtain ⟨i, j, rfl, rfl, hc, q⟩ := h
  obtain ⟨t, rfl⟩ := rx
  obtain ⟨t', rfl⟩ := ry
  exact rule i j t t' s _ _ hc ⟨.int (g i j), H, I.tok _, ⟨_, rfl⟩, q⟩
theorem opI0 {f : Value → Value → Sem Value} {g : Int → Int → Int}
    (rule : ∀ (i j : Int) (t u : Tok) (s : Shared) (Q : Value → Shared → Prop) (E : Value → Shared → Prop), Q (.int (g i j) s.toks) { s with toks := s.toks + 1 } → wpAny (model X.prog X.w) X.A (f (.int i t) (.int j u)) Q E s) :
    OpR X f (rI0 fun i j => .int (g i j)) := by
  intro pins s σ H x y v u Q I rx ry h
  obtain ⟨i, j, rfl, rfl, q⟩ := h
  obtain ⟨t, rfl⟩ := rx
  obtain ⟨t', rfl⟩ := ry
  exact rule i j t t' s _ _ ⟨.int (g i j), H, I.tok _, ⟨_, rfl⟩, q⟩
theorem opB0 {f : Value → Value → Sem Value} {g : Int → Int → Bool}
    (rule : ∀ (i j : Int) (t u : Tok) (s : Shared) (Q : Value → Shared → Prop) (E : Value → Shared → Prop), Q (.bool (g i j)) s → wpAny (model X.prog X.w) X.A (f (.int i t) (.int j u)) Q E s) :
    OpR X f (rI0 fun i j => .bl (g i j)) := by
  intro pins s σ H x y v u Q I rx ry h
  obtain ⟨i, j, rfl, rfl, q⟩ := h
  obtain ⟨t, rfl⟩ := rx
  obtain ⟨t', rfl⟩ := ry
  exact rule i j t t' s _ _ ⟨.bl (g i j), H, I, rfl, q⟩

def CDiv (i j : Int) : Prop := 0 < j ∧ j < 1073741824
def CDivN (i j : Int) : Prop := j ≠ 0 ∧ j.natAbs < 1073741824
def CPow (i j : Int) : Prop := 0 ≤ j ∧ j ≤ 1000000 ∧ i.natAbs < 2 ^ 64
def CMul (i j : Int) : Prop := (-(2 ^ 64) < i ∧ i < 2 ^ 64) ∨ (-(2 ^ 64) < j ∧ j < 2 ^ 64)
theorem CMul.ok {i j : Int} (h : CMul i j) : IntMulOk i j := by
  rcases h with ⟨h1, h2⟩ | ⟨h1, h2⟩
  · exact .of_left (intBits_le_64 h1 h2)
  · exact .of_right (intBits_le_64 h1 h2)
theorem op_add : OpR X (binaryOp .Add) (rI0 fun i j => .int (i + j)) := opI0 fun _ _ _ _ _ _ _ q => add_int q
theorem op_sub : OpR X (binaryOp .Sub) (rI0 fun i j => .int (i - j)) := opI0 fun _ _ _ _ _ _ _ q => sub_int q
theorem op_mul : OpR X (binaryOp .Mult) (rI CMul fun i j => .int (i * j)) := opI fun _ _ _ _ _ _ _ hc q => mul_int q hc.ok
/-- // by a positive divisor -/
theorem op_fdiv : OpR X (binaryOp .FloorDiv) (rI CDiv fun i j => .int (i / j)) := opI fun i j _ _ _ _ _ hc q => by
  have h1 : (0 : Int) < j := hc.1
  have h2 : j < 1073741824 := hc.2
  exact floordiv_int (by omega) (by rw [Int.fdiv_eq_ediv_of_nonneg i (by omega)]; exact q) (.inl (PyProof.noPylong_small (by omega)))
/-- % by a positive divisor of any size -/
theorem op_mod : OpR X (binaryOp .Mod) (rI (fun _ j => 0 < j) fun i j => .int (i % j)) := opI fun i j _ _ _ _ _ hc q => by
  have h1 : (0 : Int) < j := hc
  exact mod_int' (by omega) (by rw [Int.fmod_eq_emod_of_nonneg i (by omega)]; exact q)
theorem op_pow : OpR X (binaryOp .Pow) (rI CPow fun i j => .int (i ^ j.toNat)) := opI fun _ _ _ _ _ _ _ hc q => pow_int_small hc.1 hc.2.1 hc.2.2 q
theorem unI {f : Value → Sem Value} {g : Int → Int}
    (rule : ∀ (i : Int) (t : Tok) (s : Shared) (Q : Value → Shared → Prop) (E : Value → Shared → Prop), Q (.int (g i) s.toks) { s with toks := s.toks + 1 } → wpAny (model X.prog X.w) X.A (f (.int i t)) Q E s) :
    UnR X f (rU fun i => .int (g i)) := by
  intro pins s σ H x v Q I rx h
  obtain ⟨i, rfl, q⟩ := h
  obtain ⟨t, rfl⟩ := rx
  exact rule i t s _ _ ⟨.int (g i), H, I.tok _, ⟨_, rfl⟩, q⟩
theorem un_neg : UnR X (unaryOp .USub) (rU fun i => .int (-i)) := unI fun _ _ _ _ _ q => neg_int q
/-! ### bools among ints: n += (a < b) -/
end

/-! ### comparisons -/
/-- the scalars that == tells apart as data does -/
def scal : V → V → Bool
  | .non, .non => true | .non, .int _ => true | .int _, .non => true | .non, .bl _ => true | .bl _, .non => true | .non, .str _ => true | .str _, .non => true
  | .int _, .int _ => true | .bl _, .bl _ => true | .str _, .str _ => true | .byt _, .byt _ => true
  | .int _, .str _ => true | .str _, .int _ => true | .bl _, .str _ => true | .str _, .bl _ => true
  | _, _ => false
def rEq : R2 := fun x y H Q => scal x y = true ∧ Q (.bl (decide (x = y))) H
def rNe : R2 := fun x y H Q => scal x y = true ∧ Q (.bl (!decide (x = y))) H

theorem dec_int {i j : Int} : decide (V.int i = V.int j) = (i == j) := by
  rw [Bool.eq_iff_iff]
  simp
theorem dec_bl {i j : Bool} : decide (V.bl i = V.bl j) = (i == j) := by
  rw [Bool.eq_iff_iff]
  simp
theorem dec_str {i j : Str} : decide (V.str i = V.str j) = (i == j) := by
  rw [Bool.eq_iff_iff]
  simp
theorem dec_byt {i j : Array UInt8} : decide (V.byt i = V.byt j) = (i.toList == j.toList) := by
  rw [Bool.eq_iff_iff]
  cases i
  cases j
  simp

section
variable {X : Cx} {a b c : Expr} {ta tb tc : TE} {pos : Pos}
theorem fin_bl {pins : List (Addr × Obj)} {σ : St} {H : Hp} {s : Shared} {Q : VK} {k k' : Bool} (I : Inv X pins σ H s) (q : Q (.bl k) H) (e : k = k') : EP X pins σ Q (.bool k') s := by
  subst e
  exact ⟨.bl k, H, I, rfl, q⟩
theorem op_eq : OpR X (compareOp .Eq) rEq := by
  intro pins s σ H x y v u Q I rx ry h
  obtain ⟨hs, q⟩ := h
  cases x with
  | non =>
    cases rx
    cases y with
    | non => cases ry; exact PySem.EqNone.eq_none_none (fin_bl I q (by simp))
    | bl j => cases ry; exact PySem.EqNone.eq_none_bool (fin_bl I q (by simp))
    | int j => obtain ⟨t', rfl⟩ := ry; exact PySem.EqNone.eq_none_int (fin_bl I q (by simp))
    | str j => obtain ⟨t', rfl⟩ := ry; exact PySem.EqNone.eq_none_str (fin_bl I q (by simp))
    | _ => exact absurd (show false = true from hs) Bool.false_ne_true
  | bl i =>
    cases rx
    cases y with
    | non => cases ry; exact PySem.EqNone.eq_bool_none (fin_bl I q (by simp))
    | bl j => cases ry; exact eq_bool (fin_bl I q dec_bl)
    | str j => obtain ⟨t', rfl⟩ := ry; exact PySem.EqMixed.eq_bool_str (fin_bl I q (by simp))
    | _ => exact absurd (show false = true from hs) Bool.false_ne_true
  | int i =>
    obtain ⟨t, rfl⟩ := rx
    cases y with
    | non => cases ry; exact PySem.EqNone.eq_int_none (fin_bl I q (by simp))
    | int j => obtain ⟨t', rfl⟩ := ry; exact eq_int (fin_bl I q dec_int)
    | str j => obtain ⟨t', rfl⟩ := ry; exact PySem.EqMixed.eq_int_str (fin_bl I q (by simp))
    | _ => exact absurd (show false = true from hs) Bool.false_ne_true
  | str i =>
    obtain ⟨t, rfl⟩ := rx
    cases y with
    | non => cases ry; exact PySem.EqNone.eq_str_none (fin_bl I q (by simp))
    | bl j => cases ry; exact PySem.EqMixed.eq_str_bool (fin_bl I q (by simp))
    | int j => obtain ⟨t', rfl⟩ := ry; exact PySem.EqMixed.eq_str_int (fin_bl I q (by simp))
    | str j => obtain ⟨t', rfl⟩ := ry; exact eq_str (fin_bl I q dec_str)
    | _ => exact absurd (show false = true from hs) Bool.false_ne_true
  | byt i =>
    obtain ⟨t, rfl⟩ := rx
    cases y with
    | byt j => obtain ⟨t', rfl⟩ := ry; exact PySem.W.eq_bytes (fin_bl I q dec_byt)
    | _ => exact absurd (show false = true from hs) Bool.false_ne_true
  | _ => cases y <;> exact absurd (show false = true from hs) Bool.false_ne_true
theorem op_ne : OpR X (compareOp .NotEq) rNe := by
  intro pins s σ H x y v u Q I rx ry h
  obtain ⟨hs, q⟩ := h
  cases x with
  | non =>
    cases rx
    cases y with
    | non => cases ry; exact PySem.EqNone.ne_none_none (fin_bl I q (by simp))
    | bl j => cases ry; exact PySem.EqNone.ne_none_bool (fin_bl I q (by simp))
    | int j => obtain ⟨t', rfl⟩ := ry; exact PySem.EqNone.ne_none_int (fin_bl I q (by simp))
    | str j => obtain ⟨t', rfl⟩ := ry; exact PySem.EqNone.ne_none_str (fin_bl I q (by simp))
    | _ => exact absurd (show false = true from hs) Bool.false_ne_true
  | bl i =>
    cases rx
    cases y with
    | non => cases ry; exact PySem.EqNone.ne_bool_none (fin_bl I q (by simp))
    | bl j => cases ry; exact ne_bool (fin_bl I q (congrArg not dec_bl))
    | str j => obtain ⟨t', rfl⟩ := ry; exact PySem.EqMixed.ne_bool_str (fin_bl I q (by simp))
    | _ => exact absurd (show false = true from hs) Bool.false_ne_true
  | int i =>
    obtain ⟨t, rfl⟩ := rx
    cases y with
    | non => cases ry; exact PySem.EqNone.ne_int_none (fin_bl I q (by simp))
    | int j => obtain ⟨t', rfl⟩ := ry; exact ne_int (fin_bl I q (congrArg not dec_int))
    | str j => obtain ⟨t', rfl⟩ := ry; exact PySem.EqMixed.ne_int_str (fin_bl I q (by simp))
    | _ => exact absurd (show false = true from hs) Bool.false_ne_true
  | str i =>
    obtain ⟨t, rfl⟩ := rx
    cases y with
    | non => cases ry; exact PySem.EqNone.ne_str_none (fin_bl I q (by simp))
    | bl j => cases ry; exact PySem.EqMixed.ne_str_bool (fin_bl I q (by simp))
    | int j => obtain ⟨t', rfl⟩ := ry; exact PySem.EqMixed.ne_str_int (fin_bl I q (by simp))
    | str j => obtain ⟨t', rfl⟩ := ry; exact ne_str (fin_bl I q (congrArg not dec_str))
    | _ => exact absurd (show false = true from hs) Bool.false_ne_true
  | byt i =>
    obtain ⟨t, rfl⟩ := rx
    cases y with
    | byt j => obtain ⟨t', rfl⟩ := ry; exact PySem.W.ne_bytes (fin_bl I q (congrArg not dec_byt))
    | _ => exact absurd (show false = true from hs) Bool.false_ne_true
  | _ => cases y <;> exact absurd (show false = true from hs) Bool.false_ne_true

theorem op_lt : OpR X (compareOp .Lt) (rI0 fun i j => .bl (decide (i < j))) := opB0 fun _ _ _ _ _ _ _ q => lt_int q
theorem op_le : OpR X (compareOp .LtE) (rI0 fun i j => .bl (decide (i ≤ j))) := opB0 fun _ _ _ _ _ _ _ q => le_int q
theorem op_gt : OpR X (compareOp .Gt) (rI0 fun i j => .bl (decide (j < i))) := opB0 fun _ _ _ _ _ _ _ q => gt_int q
theorem op_ge : OpR X (compareOp .GtE) (rI0 fun i j => .bl (decide (j ≤ i))) := opB0 fun _ _ _ _ _ _ _ q => ge_int q
/-- is None, is not None: the right side a value none -/
theorem op_isN : OpR X (compareOp .Is) (fun x y H Q => y = .non ∧ Q (.bl (decide (x = .non))) H) := by
  intro pins s σ H x y v u Q I rx ry h
  obtain ⟨rfl, q⟩ := h
  cases ry
  refine is_none_gen (fin_bl I q ?_)
  cases x <;> first
    | (cases rx; rfl)
    | (obtain ⟨t, rfl⟩ := rx; rfl)
/-- is, is not of two objects that are tracked lists or instances -/
def isObj : HO → Bool
  | .lst _ => true
  | .ins _ _ _ => true
  | _ => false
/-- two rules for one operation: by cases -/
theorem OpR.or {f : Value → Value → Sem Value} {r r' : R2} (h : OpR X f r) (h' : OpR X f r') : OpR X f (fun x y H Q => r x y H Q ∨ r' x y H Q) := by
  intro pins s σ H x y v u Q I rx ry q
  rcases q with q | q
  · exact h pins s σ H x y v u Q I rx ry q
  · exact h' pins s σ H x y v u Q I rx ry q

theorem nomark (b : Expr) {op : CmpOp} (h : op ≠ .In := by decide) (h2 : op ≠ .NotIn := by decide) : behindInMarks op b = false := by
  have e1 : (op == CmpOp.In) = false := by cases op <;> first | rfl | exact absurd rfl h
  have e2 : (op == CmpOp.NotIn) = false := by cases op <;> first | rfl | exact absurd rfl h2
  cases b <;> simp [behindInMarks, e1, e2]
/-- a comparison as a value; hm: nomark b, or (for in, not in) by with_unfolding_all rfl -/
theorem pe_cmpR {op : CmpOp} {r : R2} (ho : OpR X (compareOp op) r) (ha : PE X a ta) (hb : PE X b tb) (hm : behindInMarks op b = false) : PE X (.Compare a [op] [b] pos) (tOp r ta tb) := by
  intro pins s σ H Q I h
  exact wpAny_Compare1 (binT ha hb I h fun v u s2 x y H2 I2 rx ry q => ho pins s2 σ H2 x y v u Q I2 rx ry q) hm
/-- a reading of a value as a test -/
def tTest (t : TE) : TT := fun σ H Q => t σ H fun x H' => ∃ k, x = .bl k ∧ Q k H'
theorem pt_cmpR {op : CmpOp} {r : R2} (ho : OpR X (compareOp op) r) (ha : PE X a ta) (hb : PE X b tb) (hm : behindInMarks op b = false) : PT X (.Compare a [op] [b] pos) (tTest (tOp r ta tb)) := by
  intro pins s σ H Q I h
  refine wpAny_isTrue_Compare1 (thn (ha pins s σ H _ I h) fun v s1 ⟨x, H1, I1, r1, q1⟩ => thn (hb pins s1 σ H1 _ I1 q1) fun u s2 ⟨y, H2, I2, r2, q2⟩ =>
    thn (ho pins s2 σ H2 x y v u _ I2 r1 r2 q2) fun c s3 ⟨z, H3, I3, r3, k, e, q3⟩ => ?_) hm
  subst e
  cases r3
  exact wpAny_truthy_bool ⟨H3, I3, q3⟩
/-- a op1 b op2 c -/
def tChain (r r' : R2) (ta tb tc : TE) : TE := fun σ H Q => ta σ H fun x H1 => tb σ H1 fun y H2 => r x y H2 fun z H3 => ∃ k, z = .bl k ∧
  (if k = true then tc σ H3 fun w' H4 => r' y w' H4 Q else Q (.bl false) H3)
/-! ### truth -/
/-- a value's truth by the abstract heap -/
def TruV (K : PySem.W.Frag) (x : V) (H : Hp) (k : Bool) : Prop :=
  match x with
  | .non => k = false
  | .bl b => k = b
  | .int i => k = (i != 0)
  | .str y => y.length ≤ sizeLine ∧ k = ((y.length : Int) != 0)
  | .byt y => y.size ≤ sizeLine ∧ k = ((y.size : Int) != 0)
  | .ref p => (∃ xs, SqL K H p xs ∧ k = !xs.isEmpty) ∨ (∃ xs, SqT K H p xs ∧ k = !xs.isEmpty) ∨ ∃ kvs, H p = some (.dK kvs) ∧ k = !kvs.isEmpty
  | _ => False
theorem line63 : (sizeLine : Nat) < 2 ^ 63 := by rw [sizeLine_eq]; decide
/-! ### strs and bytes -/
theorem op_add_str : OpR X (binaryOp .Add) (fun x y H Q => ∃ i j, x = .str i ∧ y = .str j ∧ i.length + j.length ≤ sizeLine ∧ Q (.str (i ++ j)) H) := by
  intro pins s σ H x y v u Q I rx ry h
  obtain ⟨i, j, rfl, rfl, hz, q⟩ := h
  obtain ⟨t, rfl⟩ := rx
  obtain ⟨t', rfl⟩ := ry
  exact add_str (fun t' tk => ⟨.str (i ++ j), H, I.tok _, ⟨_, rfl⟩, q⟩) hz
theorem iop_add_str : OpR X (inplaceOp .Add) (fun x y H Q => ∃ i j, x = .str i ∧ y = .str j ∧ i.length + j.length ≤ sizeLine ∧ Q (.str (i ++ j)) H) := by
  intro pins s σ H x y v u Q I rx ry h
  obtain ⟨i, j, rfl, rfl, hz, q⟩ := h
  obtain ⟨t, rfl⟩ := rx
  obtain ⟨t', rfl⟩ := ry
  exact iadd_str (fun t' tk => ⟨.str (i ++ j), H, I.tok _, ⟨_, rfl⟩, q⟩) hz
def PlainIxT (b : Expr) : Prop := ∀ o i, subscripted b false o i = operate [o, i] (getItem o i)
/-! ### scalar builtins, by CallR -/
theorem vals1 {x : V} {us : List Value} (r : Vals [x] us) : ∃ u, us = [u] ∧ RelV x u := by
  cases r with
  | cons r1 r2 => cases r2; exact ⟨_, rfl, r1⟩
theorem vals2 {x y : V} {us : List Value} (r : Vals [x, y] us) : ∃ u w', us = [u, w'] ∧ RelV x u ∧ RelV y w' := by
  cases r with
  | cons r1 r2 =>
    cases r2 with
    | cons r3 r4 => cases r4; exact ⟨_, _, rfl, r1, r3⟩
theorem call_abs : CallR X (.builtin "abs") (fun xs H Q => ∃ i, xs = [.int i] ∧ Q (.int (if i < 0 then -i else i)) H) := by
  intro pins s σ H xs us Q I r h
  obtain ⟨i, rfl, q⟩ := h
  obtain ⟨u, rfl, t, rfl⟩ := vals1 r
  exact call_abs_int fun u tk => ⟨.int (if i < 0 then -i else i), H, I.tok _, ⟨_, rfl⟩, q⟩
theorem call_max2 (hc : X.calm = true) : CallR X (.builtin "max") (fun xs H Q => ∃ i j, xs = [.int i, .int j] ∧ Q (.int (if j > i then j else i)) H) := by
  intro pins s σ H xs us Q I r h
  obtain ⟨i, j, rfl, q⟩ := h
  obtain ⟨u, w', rfl, ⟨t, rfl⟩, ⟨t', rfl⟩⟩ := vals2 r
  refine max_two_ints (I.ok.hd hc) fun h' tk k => ⟨_, H, I.kept k, ?_, q⟩
  by_cases hj : j > i
  · rw [if_pos hj, if_pos hj]; exact ⟨_, rfl⟩
  · rw [if_neg hj, if_neg hj]; exact ⟨_, rfl⟩
theorem call_min2 (hc : X.calm = true) : CallR X (.builtin "min") (fun xs H Q => ∃ i j, xs = [.int i, .int j] ∧ Q (.int (if j < i then j else i)) H) := by
  intro pins s σ H xs us Q I r h
  obtain ⟨i, j, rfl, q⟩ := h
  obtain ⟨u, w', rfl, ⟨t, rfl⟩, ⟨t', rfl⟩⟩ := vals2 r
  refine min_two_ints (I.ok.hd hc) fun h' tk k => ⟨_, H, I.kept k, ?_, q⟩
  by_cases hj : j < i
  · rw [if_pos hj, if_pos hj]; exact ⟨_, rfl⟩
  · rw [if_neg hj, if_neg hj]; exact ⟨_, rfl⟩
theorem call_int1 : CallR X (.type "int") (fun xs H Q => (∃ i, xs = [.int i] ∧ Q (.int i) H) ∨ ∃ k, xs = [.bl k] ∧ Q (.int (if k then 1 else 0)) H) := by
  intro pins s σ H xs us Q I r h
  rcases h with ⟨i, rfl, q⟩ | ⟨k, rfl, q⟩
  · obtain ⟨u, rfl, t, rfl⟩ := vals1 r
    exact call_int_int ⟨.int i, H, I, ⟨_, rfl⟩, q⟩
  · obtain ⟨u, rfl, r1⟩ := vals1 r
    cases r1
    exact call_int_bool ⟨.int (if k then 1 else 0), H, I.tok _, ⟨_, rfl⟩, q⟩
/-- len of a str, a bytes, a list, a tuple -/
def LenV (K : PySem.W.Frag) (x : V) (H : Hp) (n : Nat) : Prop :=
  match x with
  | .str y => y.length ≤ sizeLine ∧ n = y.length
  | .byt y => y.size ≤ sizeLine ∧ n = y.size
  | .ref p => (∃ xs, SqL K H p xs ∧ n = xs.length) ∨ ∃ xs, SqT K H p xs ∧ n = xs.length
  | _ => False
end
end L2

namespace L2
open PySem PySem.Spec PyProof.Rows

/-! ### an instance, its attributes a map -/
structure ObjM (h : Heap) (x dx C : Addr) (mA : Str → Option Value) : Prop where
  obj : h.get? x = some (PySem.W.instObj C dx)
  ns : h.Ns1 dx mA
  ne : dx ≠ x

theorem lookIn_ns {h : Heap} {dx : Addr} {mA : Str → Option Value} (n : h.Ns1 dx mA) : ∃ od, h.get? dx = some od ∧ ∀ name, PySem.W.lookIn name od = some (mA name) := by
  obtain ⟨o, es, ep, ho, hd, hk, _, hm⟩ := n
  refine ⟨o, ho, fun name => ?_⟩
  have e := hm name
  unfold nsFind findBy at e
  rw [← Array.find?_toList] at e
  unfold PySem.W.lookIn
  rw [hd]
  dsimp only
  split
  · rename_i y q
    rw [q] at e
    exact congrArg some e
  · rename_i q
    rw [q] at e
    have a : es.toList.any (·.refKey) = false := by
      rw [List.any_eq_false]
      intro y hy
      obtain ⟨z, t, hkey⟩ := hk y (Array.mem_toList_iff.mp hy)
      simp [DictEntry.refKey, hkey]
    have a' : ¬ es.toList.any (·.refKey) = true := by rw [a]; exact Bool.false_ne_true
    rw [if_neg a']
    exact congrArg some e

theorem ObjM.look {h : Heap} {x dx C : Addr} {mA : Str → Option Value} (I : ObjM h x dx C mA) : ∃ od, PySem.W.InstAt h x (PySem.W.instObj C dx) C (some od) ∧ ∀ name, PySem.W.lookIn name od = some (mA name) :=
  let ⟨od, ho, hl⟩ := lookIn_ns I.ns
  ⟨od, ⟨I.obj, rfl, rfl, ho⟩, hl⟩

section
variable {prog : Program} {w : World} {A : Around} {E : Value → Shared → Prop} {s : Shared} {K : PySem.W.Frag} {x dx C f : Addr} {mA : Str → Option Value} {name : Str} {v : Value}

end

/-! ### the attributes as a list of pairs -/
def putF (f : Str) (v : V) : List (Str × V) → List (Str × V)
  | [] => [(f, v)]
  | (g, x) :: r => if g = f then (g, v) :: r else (g, x) :: putF f v r
section
variable {P : Program} {w : World} {H H' : Hp} {h h' : Heap} {a C dx : Addr} {fs fs' : List (Str × V)}
theorem ins_get (hok : HOk P w H h) (e : H a = some (.ins C dx fs)) : ∃ mA, ObjM h a dx C mA ∧ (∀ f, RelO (fs.lookup f) (mA f)) ∧ PySem.Within mA (fs.map (·.1)) ∧ fs.length ≤ 1000 ∧ H dx = some (.own a) := by
  obtain ⟨d, z, ne, ob, mA, n, r, q⟩ := (show ObjOk P w H h a (.ins C dx fs) from hok a _ e)
  exact ⟨mA, ⟨ob, n, ne⟩, r, q, z, d⟩
end

/-! ### what of the text a class must have -/
structure Cls (K : PySem.W.Frag) (C : Addr) : Prop where
  pg : PySem.W.plainGet K C Str.empty = true
  hd : PySem.W.hasDictIn K C = true
  po : PySem.W.plainOver K C = true
  sa : PySem.W.findIn K (.ref C) "__setattr__" = some (some (.builtin "object.__setattr__"))
theorem Cls.get {K : PySem.W.Frag} {C : Addr} (c : Cls K C) (f : Str) : PySem.W.plainGet K C f = true := c.pg
/-- no class of it has the name -/
def NoAttr (K : PySem.W.Frag) (C : Addr) (f : Str) : Prop := PySem.W.findIn K (.ref C) f = some none
/-- a constant of the class -/
structure Con (K : PySem.W.Frag) (C : Addr) (f : Str) (v : V) (u : Value) : Prop where
  at_ : PySem.W.findIn K (.ref C) f = some (some u)
  rel : RelV v u
  get : PySem.W.specialIn K u "__get__" = some none
  cp : PySem.W.copiedNames.contains f = false
/-- a method: a plain def of the class or of one above it -/
structure Meth (K : PySem.W.Frag) (C : Addr) (m : Str) (f : Addr) : Prop where
  at_ : PySem.W.findIn K (.ref C) m = some (some (.ref f))
  fn : PySem.W.isFn K (.ref f) = true
  kp : PySem.W.keepIn K (.ref f) = true

section
variable {X : Cx} {pins : List (Addr × Obj)} {σ : St} {H : Hp} {s : Shared} {a C dx : Addr} {fs : List (Str × V)} {f : Str} {v : V} {A : Around} {E : Value → Shared → Prop}

/-- a new instance, tracked, without attributes -/
theorem Inv.made (I : Inv X pins σ H s) : Inv X pins σ (upd (upd H s.heap.objs.size (.own (s.heap.objs.size + 1))) (s.heap.objs.size + 1) (.ins C s.heap.objs.size []))
    { s with heap := (s.heap.push PySem.W.emptyDict).push (PySem.W.instObj C s.heap.objs.size) } := by
  have e1 : (s.heap.push PySem.W.emptyDict).get? s.heap.objs.size = some PySem.W.emptyDict := Heap.get?_push_size s.heap rfl
  have e2 : ((s.heap.push PySem.W.emptyDict).push (PySem.W.instObj C s.heap.objs.size)).get? (s.heap.objs.size + 1) = some (PySem.W.instObj C s.heap.objs.size) := by
    have := Heap.get?_push_size (s.heap.push PySem.W.emptyDict) (o := PySem.W.instObj C s.heap.objs.size) rfl
    rwa [Heap.size_push] at this
  have e3 : (s.heap.push PySem.W.emptyDict).Ns s.heap.objs.size (fun _ => none) := ⟨PySem.W.emptyDict, #[], _, e1, rfl, (fun e he => absurd he (by simp)), fun _ => rfl⟩
  have I1 := I.laid (a := s.heap.objs.size) (o := .own (s.heap.objs.size + 1)) (h' := s.heap.push PySem.W.emptyDict) (t' := s.toks) (fun b u q => Heap.get?_push_of_some _ q) (Nat.le_refl _) ⟨_, e1⟩
  refine I1.laid (a := s.heap.objs.size + 1) (o := .ins C s.heap.objs.size []) (t' := s.toks) (fun b u q => Heap.get?_push_of_some _ q) (Nat.le_of_eq (Heap.size_push _ _)) ?_
  have ne : s.heap.objs.size ≠ s.heap.objs.size + 1 := Nat.ne_of_lt (Nat.lt_succ_self _)
  refine ⟨by rw [upd_ne ne, upd_same], Nat.zero_le _, ne, e2, fun _ => none, (Heap.Ns1.of_empty e3).at fun o q => Heap.get?_push_of_some _ q, fun _ => True.intro, fun y hy => absurd rfl hy⟩

end

/-! ### readings and rules -/
/-- e.f, an attribute of the instance -/
def tFld (K : PySem.W.Frag) (ta : TE) (f : Str) : TE := fun σ H Q => ta σ H fun x H1 => ∃ a C dx fs v, x = .ref a ∧ H1 a = some (.ins C dx fs) ∧ Cls K C ∧ NoAttr K C f ∧ fs.lookup f = some v ∧ Q v H1
/-- e.f, a constant of the class -/
def tCon (K : PySem.W.Frag) (ta : TE) (f : Str) : TE := fun σ H Q => ta σ H fun x H1 => ∃ a C dx fs v u, x = .ref a ∧ H1 a = some (.ins C dx fs) ∧ Cls K C ∧ Con K C f v u ∧ fs.lookup f = none ∧ Q v H1
/-- e.f = value -/
def sFld (K : PySem.W.Frag) (ta tv : TE) (f : Str) : TS := fun D σ H => tv σ H fun y H1 => ta σ H1 fun x H2 => ∃ a C dx fs, x = .ref a ∧ H2 a = some (.ins C dx fs) ∧ Cls K C ∧ NoAttr K C f ∧ fs.length < 1000 ∧
  D.nx σ (upd H2 a (.ins C dx (putF f y fs)))
/-- an augmented operator on two values -/
def InOp (X : Cx) (op : Operator) (rd : V → V → Hp → VK → Prop) : Prop :=
  ∀ (pins : List (Addr × Obj)) (s : Shared) (σ : St) (H : Hp) (x y : V) (u v : Value) (Q : VK), Inv X pins σ H s → RelV x u → RelV y v → rd x y H Q → wpAny (model X.prog X.w) X.A (inplaceOp op u v) (EP X pins σ Q) X.xe s
/-- e.f op= value -/
def sFldAug (K : PySem.W.Frag) (ta tv : TE) (rd : V → V → Hp → VK → Prop) (f : Str) : TS := fun D σ H => ta σ H fun x H1 => ∃ a C dx fs v, x = .ref a ∧ H1 a = some (.ins C dx fs) ∧ Cls K C ∧ NoAttr K C f ∧ fs.lookup f = some v ∧
  tv σ H1 fun y H2 => rd v y H2 fun z H3 => ∃ dx' fs', H3 a = some (.ins C dx' fs') ∧ fs'.length < 1000 ∧ D.nx σ (upd H3 a (.ins C dx' (putF f z fs')))

section
variable {X : Cx} {o e value : Expr} {f : Str} {pos pos' tpos : Pos} {ta tv : TE}
def rAdd : V → V → Hp → VK → Prop := fun x y H Q => ∃ i j, x = .int i ∧ y = .int j ∧ Q (.int (i + j)) H
def rSub : V → V → Hp → VK → Prop := fun x y H Q => ∃ i j, x = .int i ∧ y = .int j ∧ Q (.int (i - j)) H
end

/-! ### isinstance -/
section
variable {X : Cx} {pins : List (Addr × Obj)} {σ : St} {H : Hp} {s : Shared} {A : Around} {E : Value → Shared → Prop} {Q : Value → Shared → Prop} {c : Value} {b : Bool}
/-- the type of a value, as the fragment's deciders take it; for an instance its class -/
inductive TyOf (K : PySem.W.Frag) (H : Hp) : V → Value → Prop where
  | non : TyOf K H .non (.type "NoneType")
  | bl (x : Bool) : TyOf K H (.bl x) (.type "bool")
  | int (i : Int) : TyOf K H (.int i) (.type "int")
  | str (x : Str) : TyOf K H (.str x) (.type "str")
  | flt (x : UInt64) : TyOf K H (.flt x) (.type "float")
  | lst {a : Addr} {xs : List V} (e : H a = some (.lst xs)) : TyOf K H (.ref a) (.type "list")
  | frz {a : Addr} {o : Obj} {xs : List V} (e : H a = some (.frz o (.lst xs))) : TyOf K H (.ref a) (.type "list")
  | tup {a : Addr} {xs : List V} (e : H a = some (.tup xs)) : TyOf K H (.ref a) (.type "tuple")
  | dK {a : Addr} {kvs : List (Key × V)} (e : H a = some (.dK kvs)) : TyOf K H (.ref a) (.type "dict")
  | dT {a : Addr} {kvs : List (List Key × V)} (e : H a = some (.dT kvs)) : TyOf K H (.ref a) (.type "dict")
  | ins {a C dx : Addr} {fs : List (Str × V)} (e : H a = some (.ins C dx fs)) (cl : Cls K C) (ha : PySem.W.findIn K (.ref C) "__class__" = some (some (.builtin "object.__class__")))
      (hn : PySem.W.specialIn K (.builtin "object.__class__") "__get__" = some (some (.builtin "getset_descriptor.__get__"))) (htk : PySem.W.takesIn K (.builtin "object.__class__") = some true)
      (hm : PySem.W.mroIn K C (.type "object") = some true) : TyOf K H (.ref a) (.ref C)
/-- isinstance(x, c) for one class c, a built-in or an own one: kitOne's answer -/
theorem isinst_ok {x : V} {u t : Value} (I : Inv X pins σ H s) (rx : RelV x u) (ty : TyOf X.K H x t) (e : PySem.W.kitOne X.K t c = some b) (h : ∀ tk, Q (.bool b) { s with toks := tk }) :
    wpAny (model X.prog X.w) A (call (.builtin "isinstance") [u, c]) Q E s := by
  cases ty with
  | non => cases (show u = Value.none from rx); exact PySem.W.kia_one PySem.W.kitx_none I.kIn True.intro e (fun z => nomatch z) h
  | bl y => cases (show u = Value.bool y from rx); exact PySem.W.kia_one PySem.W.kitx_bool I.kIn True.intro e (fun z => nomatch z) h
  | int i => obtain ⟨t, q⟩ := (show ∃ t, u = Value.int i t from rx); cases q; exact PySem.W.kia_one PySem.W.kitx_int I.kIn True.intro e (fun z => nomatch z) h
  | str y => obtain ⟨t, q⟩ := (show ∃ t, u = Value.str y t from rx); cases q; exact PySem.W.kia_one PySem.W.kitx_str I.kIn True.intro e (fun z => nomatch z) h
  | flt y => obtain ⟨t, q⟩ := (show ∃ t, u = Value.float y t from rx); cases q; exact PySem.W.kia_one PySem.W.kitx_float I.kIn True.intro e (fun z => nomatch z) h
  | @lst a xs ea =>
    cases (show u = Value.ref a from rx)
    obtain ⟨_, _, n, _, h1⟩ := (show ObjOk X.prog X.w H s.heap a (.lst xs) from I.hok a _ ea)
    exact PySem.W.kia_one PySem.W.kitx_list I.kIn ⟨_, h1, rfl⟩ e (fun z => nomatch z) h
  | @frz a ob xs ea =>
    cases (show u = Value.ref a from rx)
    obtain ⟨_, _, _, n, _, h1⟩ := (show ObjOk X.prog X.w H s.heap a (.frz ob (.lst xs)) from I.hok a _ ea)
    exact PySem.W.kia_one PySem.W.kitx_list I.kIn ⟨_, h1, rfl⟩ e (fun z => nomatch z) h
  | @tup a xs ea =>
    cases (show u = Value.ref a from rx)
    obtain ⟨_, _, _, p⟩ := (show ObjOk X.prog X.w H s.heap a (.tup xs) from I.hok a _ ea)
    obtain ⟨o, h1, h2, _⟩ := p
    exact PySem.W.kia_one PySem.W.kitx_tuple I.kIn ⟨o, h1, h2⟩ e (fun z => nomatch z) h
  | @dK a kvs ea =>
    cases (show u = Value.ref a from rx)
    obtain ⟨_, _, vs, _, p⟩ := (show ObjOk X.prog X.w H s.heap a (.dK kvs) from I.hok a _ ea)
    obtain ⟨o, es, ep, h1, h2, _⟩ := p
    exact PySem.W.kia_one PySem.W.kitx_dict I.kIn ⟨o, h1, h2.1⟩ e (fun z => nomatch z) h
  | @dT a kvs ea =>
    cases (show u = Value.ref a from rx)
    obtain ⟨_, _, xs, _, o, es, ep, h1, h2, _⟩ := (show ObjOk X.prog X.w H s.heap a (.dT kvs) from I.hok a _ ea)
    exact PySem.W.kia_one PySem.W.kitx_dict I.kIn ⟨o, h1, h2.1⟩ e (fun z => nomatch z) h
  | @ins a C dx fs ea cl ha hn htk hm =>
    cases (show u = Value.ref a from rx)
    obtain ⟨mA, O, _⟩ := ins_get I.hok ea
    obtain ⟨od, J, _⟩ := O.look
    exact PySem.W.kia_one (PySem.W.kitx_own (cl.get _) cl.hd ha hn htk hm) I.kIn J e (fun z => nomatch z) h
end
end L2

namespace L2
open PySem PySem.Spec PyProof.Rows

/-! ### room -/
structure Room (k : Nat) (A : Around) : Prop where
  hd : A.handled = none
  dp : A.depth + 3 * k + 5 < recursionLimit
  un : A.units + 16 * k + 200 < cLine
theorem Room.mono {j k : Nat} {A : Around} (r : Room k A) (h : j ≤ k) : Room j A := ⟨r.hd, by have := r.dp; omega, by have := r.un; omega⟩
theorem Room.deeper {k : Nat} {A : Around} (r : Room (k + 1) A) (env : Env) : Room k (A.deeper env) :=
  ⟨r.hd, by have := r.dp; show A.depth + 1 + 3 * k + 5 < _; omega, by have := r.un; show A.units + 3 + 16 * k + 200 < _; omega⟩
theorem Room.in1 {k : Nat} {A : Around} (r : Room (k + 1) A) : Room k A.in1 :=
  ⟨r.hd, by have := r.dp; show A.depth + 3 * k + 5 < _; omega, by have := r.un; show A.units + 1 + 16 * k + 200 < _; omega⟩
theorem Room.depth {k : Nat} {A : Around} (r : Room k A) : A.depth < recursionLimit := by have := r.dp; omega
theorem Room.units {k : Nat} {A : Around} (r : Room k A) : A.units + 64 < cLine := by have := r.un; omega
/-! ### argument lists and displays -/
def tNil : TA := fun _ H Q => Q [] H
def tCons (ta : TE) (tr : TA) : TA := fun σ H Q => ta σ H fun x H1 => tr σ H1 fun xs H2 => Q (x :: xs) H2
section
variable {X : Cx} {e : Expr} {es : List Expr} {te : TE} {t : TA} {pos : Pos}
theorem pa_nil : PA X [] tNil := fun _ _ _ _ H Q I h => Calls.spliced_nil ⟨[], H, I, .nil, h⟩
theorem pa_cons (ha : PE X e te) (hr : PA X es t) (hs : starEach (e :: es) X.env = (false, eval e X.env) :: starEach es X.env := by rfl) : PA X (e :: es) (tCons te t) := by
  intro pos pins s σ H Q I h
  rw [hs]
  show wpAny _ _ (spliced ((false, eval e X.env) :: backTo pos (starEach es X.env))) _ _ s
  refine Calls.spliced_cons (thn (ha pins s σ H _ I h) fun u s1 ⟨x, H1, I1, r1, q1⟩ => ?_)
  exact thn (hr pos pins s1 σ H1 _ I1 q1) fun us s2 ⟨xs, H2, I2, r2, q2⟩ => ⟨x :: xs, H2, I2, .cons r1 r2, q2⟩

/-- a tuple, a list of written items -/
def tTup (t : TA) : TE := fun σ H Q => t σ H fun xs H1 => xs.length ≤ sizeLine ∧ ∀ p, H1 p = none → Q (.ref p) (upd H1 p (.tup xs))
def tLst (t : TA) : TE := fun σ H Q => t σ H fun xs H1 => xs.length ≤ sizeLine ∧ ∀ p, H1 p = none → Q (.ref p) (upd H1 p (.lst xs))
theorem pe_tup {x1} (h : PA X es t) : PE X (.Tuple es x1 pos) (tTup t) := by
  intro pins s σ H Q I hq
  refine wpAny_Tuple_spliced (thn (h pos pins s σ H _ I hq) fun us s1 ⟨xs, H1, I1, r, z, q⟩ => ⟨by rw [← r.length]; exact z, ?_⟩)
  have hf : H1 s1.heap.objs.size = none := I1.hok.fresh (Nat.le_refl _)
  refine ⟨.ref s1.heap.objs.size, upd H1 s1.heap.objs.size (.tup xs), I1.laid (t' := s1.toks) (fun b u e => Heap.get?_push_of_some _ e) (Nat.le_refl _) ?_, rfl, q _ hf⟩
  exact ⟨z, us, r, ⟨_, Heap.get?_push_size _ rfl, rfl, _, rfl⟩⟩
theorem pe_lst (h : PA X es t) : PE X (.List es pos) (tLst t) := by
  intro pins s σ H Q I hq
  refine wpAny_List_spliced (thn (h pos pins s σ H _ I hq) fun us s1 ⟨xs, H1, I1, r, z, q⟩ => ⟨by rw [← r.length]; exact z, ?_⟩)
  have hf : H1 s1.heap.objs.size = none := I1.hok.fresh (Nat.le_refl _)
  refine ⟨.ref s1.heap.objs.size, upd H1 s1.heap.objs.size (.lst xs), I1.laid (t' := s1.toks) (fun b u e => Heap.get?_push_of_some _ e) (Nat.le_refl _) ?_, rfl, q _ hf⟩
  exact ⟨z, us, 0, r, Heap.get?_push_size _ rfl⟩
end

/-! ### what a def promises -/
/-- a def's promise: the bound arguments in the parameters' order, the heap, the wanted end, the wanted exception -/
abbrev Sp := List V → Hp → VK → XK → Prop
/-- how an exception lies behind a call (file 08 gives it): the callers' frames, abstract heap and state ahead of the call, the wish, the exception, the state -/
abbrev CXT := List Env → Hp → Shared → XK → Value → Shared → Prop

/-- the state at a call -/
structure Env0 (P : Program) (w : World) (K : PySem.W.Frag) (mg : Str → Option Value) (base : Heap) (A : Around) (outer : List Env) (s : Shared) (H : Hp) : Prop where
  frames : A.frames = some outer
  mod : Mod K mg base
  bs : ∀ b o, base.get? b = some o → s.heap.get? b = some o ∧ H b = none
  bsz : base.objs.size ≤ s.heap.objs.size
  funs : s.heap.FunFrames base outer
  frf : ∀ b ∈ frs outer, H b = none
  hok : HOk P w H s.heap
  bare : AllBare s.gens
/-- a call's end -/
def CE (outer : List Env) (P : Program) (w : World) (H : Hp) (s : Shared) (Q : VK) (u : Value) (s' : Shared) : Prop :=
  ∃ v H', s'.os = s.os ∧ GOk s.gens s'.gens ∧ Un (frs outer) [] H H' s.heap s'.heap ∧ HOk P w H' s'.heap ∧ RelV v u ∧ Q v H'
def CR (CX : CXT) (outer : List Env) (P : Program) (w : World) (H : Hp) (s : Shared) (Q : VK) (E : XK) (r : Result) (s' : Shared) : Prop :=
  match r with
  | .ok (.ret u) => CE outer P w H s Q u s'
  | .ok _ => False
  | .error e => CX outer H s E e s'
structure FnOk (P : Program) (w : World) (K : PySem.W.Frag) (mg : Str → Option Value) (base : Heap) (CX : CXT) (k : Nat) (f : Addr) (fd : FuncData) (ps : List Str) (sp : Sp) : Prop where
  len : ∀ vs H Q E, sp vs H Q E → vs.length = ps.length
  run : ∀ (A : Around) (outer : List Env) (s : Shared) (H : Hp) (args : Args) (us : List Value) (vs : List V) (Q : VK) (E : XK), Room k A → Env0 P w K mg base A outer s H → BindsTo s fd args (ps.zip us) → Vals vs us → sp vs H Q E →
    codeAny (model P w) A (.call (.ref f) args) (CR CX outer P w H s Q E) s
theorem FnOk.mono {P : Program} {w : World} {K : PySem.W.Frag} {mg : Str → Option Value} {base : Heap} {CX : CXT} {j k : Nat} {f : Addr} {fd : FuncData} {ps : List Str} {sp : Sp} (F : FnOk P w K mg base CX j f fd ps sp) (h : j ≤ k) :
    FnOk P w K mg base CX k f fd ps sp := ⟨F.len, fun A outer s H args us vs Q E hr => F.run A outer s H args us vs Q E (hr.mono h)⟩
/-- a weaker promise -/
theorem FnOk.imp {P : Program} {w : World} {K : PySem.W.Frag} {mg : Str → Option Value} {base : Heap} {CX : CXT} {k : Nat} {f : Addr} {fd : FuncData} {ps : List Str} {sp sp' : Sp} (F : FnOk P w K mg base CX k f fd ps sp)
    (h : ∀ vs H Q E, sp' vs H Q E → sp vs H Q E) : FnOk P w K mg base CX k f fd ps sp' :=
  ⟨fun vs H Q E q => F.len vs H Q E (h _ _ _ _ q), fun A outer s H args us vs Q E hr he hb hv hs => F.run A outer s H args us vs Q E hr he hb hv (h _ _ _ _ hs)⟩

theorem Env0.in1 {P : Program} {w : World} {K : PySem.W.Frag} {mg : Str → Option Value} {base : Heap} {A : Around} {outer : List Env} {s : Shared} {H : Hp} (e : Env0 P w K mg base A outer s H) :
    Env0 P w K mg base A.in1 outer s H := ⟨e.frames, e.mod, e.bs, e.bsz, e.funs, e.frf, e.hok, e.bare⟩

section
variable {X : Cx} {pins : List (Addr × Obj)} {σ : St} {H : Hp} {s s' : Shared}
/-- from a body: what a callee wants -/
theorem Inv.env0 (I : Inv X pins σ H s) : Env0 X.prog X.w X.K X.mg X.base X.A X.stack s H :=
  ⟨I.ok.frames, I.ok.mod, I.bs, Nat.le_trans I.ok.bsz I.sz, I.stack, I.stkFree, I.hok, I.bare.bare⟩
/-- behind a call -/
theorem Inv.after {Q : VK} {u : Value} (I : Inv X pins σ H s) (h : CE X.stack X.prog X.w H s Q u s') : EP X pins σ Q u s' := by
  obtain ⟨v, H', os, bare, un, hok, r, q⟩ := h
  obtain ⟨hh, g, d, t, os'⟩ := s'
  obtain rfl : os' = s.os := os
  exact ⟨v, H', I.call (h' := hh) (g' := g) (d' := d) (t' := t) (ch := []) un hok bare (fun b z => absurd z (by simp)), r, q⟩
end

/-! ### calls -/
/-- f(..): the written arguments, then the defaults dvs; E: what is wanted of an exception -/
def tCall (sp : Sp) (dvs : List V) (E : XK) (t : TA) : TE := fun σ H Q => t σ H fun vs H1 => sp (vs ++ dvs) H1 Q E
/-- o.m(..) of an instance of the class at C -/
def tMeth (C : Addr) (m : Str) (sp : Sp) (dvs : List V) (E : XK) (ta : TE) (t : TA) : TE := fun σ H Q => ta σ H fun x H1 => ∃ a dx fs, x = .ref a ∧ H1 a = some (.ins C dx fs) ∧ fs.lookup m = none ∧
  t σ H1 fun vs H2 => sp (x :: (vs ++ dvs)) H2 Q E
/-- C(..): a new instance and its dict, then __init__ -/
def tMake (C : Addr) (sp : Sp) (dvs : List V) (E : XK) (t : TA) : TE := fun σ H Q => t σ H fun vs H1 => ∀ x dx, H1 x = none → H1 dx = none → dx ≠ x →
  sp (.ref x :: (vs ++ dvs)) (upd (upd H1 dx (.own x)) x (.ins C dx [])) (fun v H2 => v = .non ∧ Q (.ref x) H2) E

/-- how the parameters are bound: us the positional arguments, kw the keywords' values by name, ds the defaults that fill up -/
def Binds (K : PySem.W.Frag) (fd : FuncData) (ps : List Str) (ds : List Value) : Prop :=
  ∀ (s : Shared) (us : List Value), K.In s.heap → (us ++ ds).length = ps.length → BindsTo s fd ⟨us, []⟩ (ps.zip (us ++ ds))
/-- every parameter is given -/
theorem Binds.all {K : PySem.W.Frag} {fd : FuncData} {ps : List Str} (h : ∀ us : List Value, us.length = ps.length → bindArgs fd ⟨us, []⟩ = pure (ps.zip us)) : Binds K fd ps [] := fun s us _ hl => by
  rw [List.append_nil] at hl ⊢
  exact .of_eq (h us hl)

/-- an exception of a callee reaches what this body wants of exceptions -/
def Passes (CX : CXT) (X : Cx) (E : XK) : Prop := ∀ (pins : List (Addr × Obj)) (σ : St) (H : Hp) (s : Shared) (e : Value) (s' : Shared), Inv X pins σ H s → CX X.stack H s E e s' → X.xe e s'

section
variable {X : Cx} {CX : CXT} {k : Nat} {f C : Addr} {fd : FuncData} {ps : List Str} {sp : Sp} {dvs : List V} {ds : List Value} {E : XK} {x m : Str} {p pos apos : Pos} {e o : Expr} {es : List Expr} {ta : TE} {t : TA}

/-- the callee runs -/
theorem run_fn {pins : List (Addr × Obj)} {σ : St} {H : Hp} {s : Shared} {Q : VK} {us : List Value} {vs : List V} (F : FnOk X.prog X.w X.K X.mg X.base CX k f fd ps sp) (hr : Room k X.A) (hb : Binds X.K fd ps ds) (hd : Vals dvs ds) (hx : Passes CX X E)
    (I : Inv X pins σ H s) (r : Vals vs us) (h : sp (vs ++ dvs) H Q E) : wpAny (model X.prog X.w) X.A (call (.ref f) us) (EP X pins σ Q) X.xe s := by
  have r2 : Vals (vs ++ dvs) (us ++ ds) := r.append hd
  have hl : (us ++ ds).length = ps.length := by rw [← r2.length]; exact F.len _ _ _ _ h
  refine wpAny_call (codeAny_mono (F.run X.A X.stack s H ⟨us, []⟩ (us ++ ds) (vs ++ dvs) Q E hr I.env0 (hb s us I.kIn hl) r2 h) fun r s' hq => ?_)
  cases r with
  | error e => exact hx pins σ H s e s' I hq
  | ok fl =>
    cases fl with
    | ret u => exact I.after hq
    | next => exact False.elim hq
    | brk => exact False.elim hq
    | cont => exact False.elim hq

theorem pe_call (F : FnOk X.prog X.w X.K X.mg X.base CX k f fd ps sp) (hr : Room k X.A) (hg : Gl X x) (hm : X.mg x = some (.ref f)) (hk : PySem.W.keepIn X.K (.ref f) = true) (hb : Binds X.K fd ps ds) (hd : Vals dvs ds) (hx : Passes CX X E)
    (ha : PA X (e :: es) t) (hdb : (x == ("__debug__" : Str)) = false := by decide) (he : starEach (e :: es) X.env = (false, eval e X.env) :: starEach es X.env := by rfl) (hpl : (backTo pos (starEach es X.env)).any (·.1) = false := by rfl) :
    PE X (.Call (.Name x p) (e :: es) [] pos) (tCall sp dvs E t) := by
  intro pins s σ H Q I h
  refine wpAny_Call_Name_kw (ld_glob I hg hm ?_ hdb)
  refine PySem.W.callWith_K (h₀ := X.base) I.ok.mod.kin hk (thn (ha pos pins s σ H _ I h) fun us s1 ⟨vs, H1, I1, r, q⟩ => ⟨I1.kIn, ?_⟩) he hpl
  exact run_fn F hr hb hd hx I1 r q
/-- what a class must have to be made -/
structure Mk (K : PySem.W.Frag) (C f : Addr) : Prop where
  makes : PySem.W.makesIn K C = true
  init : PySem.W.findIn K (.ref C) "__init__" = some (some (.ref f))
  fn : PySem.W.isFn K (.ref f) = true
  kp : PySem.W.keepIn K (.ref C) = true

end

/-! ### keywords -/
/-- the values of the keywords, from the left -/
def PK (X : Cx) (kws : List Keyword) (t : TA) : Prop :=
  ∀ (pos : Pos) (pins : List (Addr × Obj)) (s : Shared) (σ : St) (H : Hp) (Q : List V → Hp → Prop), Inv X pins σ H s → t σ H Q → wpAny (model X.prog X.w) X.A (evalAll ((backToKw pos (keywordEach kws X.env)).map (·.2))) (AP X pins σ Q) X.xe s
section
variable {X : Cx} {CX : CXT} {k : Nat} {f C : Addr} {fd : FuncData} {ps ks : List Str} {sp : Sp} {E : XK} {x m : Str} {p pos apos kpos : Pos} {e o : Expr} {es : List Expr} {kws : List Keyword} {te ta : TE} {t tk : TA} {nm : Option Str}
/-- how a call with keywords binds: g puts the positional values us and the keywords' values ws (names ks) in the parameters' order, defaults among them -/
structure KBinds (K : PySem.W.Frag) (fd : FuncData) (ps ks : List Str) (g : List Value → List Value → List Value) (gV : List V → List V → List V) : Prop where
  to : ∀ (s : Shared) (us ws : List Value), K.In s.heap → (g us ws).length = ps.length → BindsTo s fd ⟨us, ks.zip ws⟩ (ps.zip (g us ws))
  rel : ∀ {vs : List V} {us : List Value} {zs : List V} {ws : List Value}, Vals vs us → Vals zs ws → Vals (gV vs zs) (g us ws)
def tCallK (sp : Sp) (gV : List V → List V → List V) (E : XK) (t tk : TA) : TE := fun σ H Q => t σ H fun vs H1 => tk σ H1 fun zs H2 => sp (gV vs zs) H2 Q E
variable {g : List Value → List Value → List Value} {gV : List V → List V → List V}
end

/-! ### a def's body keeps its promise -/
/-- names: the parameters first -/
structure FnScope (N P : List Str) (sc : Scope) : Prop where
  kind : sc.kind = .function
  co : sc.isCoroutine = false
  gen : sc.isGenerator = false
  nd : N.Nodup
  pre : N.take P.length = P
  par : ∀ x ∈ P, sc.names.lookup x = some .local ∨ sc.names.lookup x = some .cell
  nofree : ∀ y ∈ sc.names, y.2 ≠ .free

theorem bindL_out {kindOf : Str → Option NameKind} {x : Str} : ∀ {binds : List (Str × Value)} {m : Str → Option Value}, (∀ v, (x, v) ∉ binds) → bindL kindOf binds m x = m x
  | [], _, _ => rfl
  | (n, v) :: r, m, h => by
    unfold bindL
    rw [bindL_out fun w hw => h w (List.mem_cons_of_mem _ hw)]
    split
    · have : x ≠ n := by rintro rfl; exact h v List.mem_cons_self
      simp [this]
    · rfl
theorem bindC_out {kindOf : Str → Option NameKind} {x : Str} : ∀ {binds : List (Str × Value)} {m : Str → Option Value}, (∀ v, (x, v) ∉ binds) → bindC kindOf binds m x = m x
  | [], _, _ => rfl
  | (n, v) :: r, m, h => by
    unfold bindC
    rw [bindC_out fun w hw => h w (List.mem_cons_of_mem _ hw)]
    split
    · rfl
    · have : x ≠ n := by rintro rfl; exact h v List.mem_cons_self
      simp [this]
theorem bindL_get {kindOf : Str → Option NameKind} {x : Str} {v : Value} : ∀ {P : List Str} {vs : List Value} {i : Nat} {m : Str → Option Value}, P.Nodup → P[i]? = some x → vs[i]? = some v → kindOf x = some .local →
    bindL kindOf (P.zip vs) m x = some v
  | [], _, _, _, _, h, _, _ => by simp at h
  | _ :: _, [], _, _, _, _, h, _ => by simp at h
  | p :: P, w :: vs, 0, m, nd, h1, h2, hk => by
    simp at h1 h2; subst h1; subst h2
    show bindL kindOf ((p, w) :: P.zip vs) m p = _
    unfold bindL
    rw [bindL_out fun v hv => (List.nodup_cons.mp nd).1 (List.of_mem_zip hv).1, if_pos hk]
    simp
  | p :: P, w :: vs, i + 1, m, nd, h1, h2, hk => by
    show bindL kindOf ((p, w) :: P.zip vs) m x = _
    unfold bindL
    exact bindL_get (i := i) (List.nodup_cons.mp nd).2 (by simpa using h1) (by simpa using h2) hk
theorem bindC_get {kindOf : Str → Option NameKind} {x : Str} {v : Value} : ∀ {P : List Str} {vs : List Value} {i : Nat} {m : Str → Option Value}, P.Nodup → P[i]? = some x → vs[i]? = some v → kindOf x ≠ some .local →
    bindC kindOf (P.zip vs) m x = some v
  | [], _, _, _, _, h, _, _ => by simp at h
  | _ :: _, [], _, _, _, _, h, _ => by simp at h
  | p :: P, w :: vs, 0, m, nd, h1, h2, hk => by
    simp at h1 h2; subst h1; subst h2
    show bindC kindOf ((p, w) :: P.zip vs) m p = _
    unfold bindC
    rw [bindC_out fun v hv => (List.nodup_cons.mp nd).1 (List.of_mem_zip hv).1, if_neg hk]
    simp
  | p :: P, w :: vs, i + 1, m, nd, h1, h2, hk => by
    show bindC kindOf ((p, w) :: P.zip vs) m x = _
    unfold bindC
    exact bindC_get (i := i) (List.nodup_cons.mp nd).2 (by simpa using h1) (by simpa using h2) hk

/-- the names' values at the entry -/
def start (N : List Str) (vs : List V) : St := vs.map some ++ List.replicate (N.length - vs.length) none

/-- the context of a def's body, at its entry; an exception leaves the frame, then lies as CX says -/
def cxOf (CX : CXT) (P : Program) (w : World) (K : PySem.W.Frag) (mg : Str → Option Value) (base : Heap) (N : List Str) (qual : Str) (scope : Scope) (f : Addr) (cd : Value) (A : Around) (outer : List Env) (s : Shared) (H : Hp) (E : XK) : Cx where
  prog := P
  w := w
  K := K
  mg := mg
  base := base
  A := A.deeper (envOfC qual scope s.heap.objs.size f cd)
  N := N
  s₀ := s
  H₀ := H
  env := envOfC qual scope s.heap.objs.size f cd
  outer := outer
  stack := envOfC qual scope s.heap.objs.size f cd :: outer
  ex := []
  calm := true
  fn := fun _ => true
  pn := []
  xe := fun e s' => wpAny (model P w) (A.deeper (envOfC qual scope s.heap.objs.size f cd)) (leaving (envOfC qual scope s.heap.objs.size f cd) e) (fun _ s'' => CX outer H s E e s'') (fun e' s'' => CX outer H s E e' s'') s'

theorem cell_has {sc : Scope} {n : Nat} {x : Str} (h : sc.names.lookup x = some .cell) : ∃ c, (cellsFrom n sc.names []).lookup x = some c := by
  have q := PySem.W.cellsFrom_some sc.names n [] (.inl h)
  exact Option.isSome_iff_exists.mp q

theorem inv_start {CX : CXT} {P : Program} {w : World} {K : PySem.W.Frag} {mg : Str → Option Value} {base : Heap} {N ps : List Str} {qual : Str} {scope : Scope} {f : Addr} {cd : Value} {A : Around} {outer : List Env} {s s1 : Shared} {H : Hp} {E : XK} {us : List Value} {vs : List V}
    (S : FnScope N ps scope) (hd : A.handled = none) (e0 : Env0 P w K mg base A outer s H) (hl : vs.length = ps.length) (r : Vals vs us)
    (x : InCallC s s.heap.objs.size (bindL (envOfC qual scope s.heap.objs.size f cd).kindOf (ps.zip us) fun _ => none) (cellsFrom (s.heap.objs.size + 1) scope.names []) (bindC (envOfC qual scope s.heap.objs.size f cd).kindOf (ps.zip us) fun _ => none) s1) :
    Inv (cxOf CX P w K mg base N qual scope f cd A outer s H E) [] (start N vs) H s1 := by
  have hpl : ps.length ≤ N.length := by have := congrArg List.length S.pre; rw [List.length_take] at this; omega
  obtain ⟨h1, tk, rfl, hk⟩ := x.done
  have noA : ∀ b : Addr, b ∉ (cxOf CX P w K mg base N qual scope f cd A outer s H E).ex := fun b z => absurd (show b ∈ ([] : List Addr) from z) (by simp)
  refine ⟨⟨e0.mod, S.kind, rfl, rfl, Nat.le_refl _, fun y z c h1 h2 => ?_, fun y hy => ?_, fun y c _ h => ?_, fun _ => hd, Around.frames_deeper e0.frames, .inr ⟨rfl, rfl⟩, fun b z => absurd z (noA b), e0.bs, e0.bsz, fun b _ _ => noA b, fun b z => absurd z (noA b), e0.funs, e0.frf⟩,
    rfl, .refl e0.bare, Un.kept hk, ⟨_, x.toInCall.ns, fun i y v h1 h2 h3 => ?_⟩, fun y c h => ⟨_, x.cell y c h⟩, e0.hok.fresh (Nat.le_refl _), fun y c h => ?_, fun p hp => absurd (show p ∈ ([] : List (Addr × Obj)) from hp) (by simp), e0.hok.kept hk, ?_⟩
  · exact name_of_addr x.apart (PySem.mem_of_lookup h1) (PySem.mem_of_lookup h2)
  · have hy : scope.names.lookup y = some .cell ∨ scope.names.lookup y = some .free := hy
    rcases hy with hy | hy
    · exact cell_has hy
    · exact absurd rfl (S.nofree _ (PySem.mem_of_lookup hy))
  · exact Nat.le_of_lt (x.above y c (PySem.mem_of_lookup h))
  · have hi : i < vs.length := by
      unfold start at h2
      by_cases hi : i < vs.length
      · exact hi
      · rw [List.getElem?_append_right (by simpa using hi)] at h2
        rw [List.getElem?_replicate] at h2
        split at h2 <;> cases h2
    have ha : vs[i]? = some v := by
      unfold start at h2
      rw [List.getElem?_append_left (by simpa using hi), List.getElem?_map] at h2
      cases e : vs[i]? with
      | none => rw [e] at h2; cases h2
      | some a => rw [e] at h2; cases h2; rfl
    obtain ⟨u, hu, rv⟩ := r.get ha
    have hp : ps[i]? = some y := by
      rw [← S.pre, List.getElem?_take_of_lt (by omega)]; exact h1
    have ndP : ps.Nodup := by rw [← S.pre]; exact S.nd.sublist (List.take_sublist _ _)
    refine ⟨u, rv, ?_⟩
    rcases S.par y (List.mem_of_getElem? hp) with k | k
    · exact .inl ⟨k, bindL_get ndP hp hu k⟩
    · obtain ⟨c, e⟩ := cell_has (n := s.heap.objs.size + 1) k
      refine .inr ⟨.inl k, c, e, ?_⟩
      have q := x.cell y c e
      rw [bindC_get ndP hp hu (by show scope.names.lookup y ≠ _; rw [k]; decide)] at q
      exact q
  · exact e0.hok.fresh (Nat.le_of_lt (x.above y c (PySem.mem_of_lookup h)))
  · unfold start
    show _ = N.length
    rw [List.length_append, List.length_map, List.length_replicate]
    omega

/-- THE RULE: a def (or a method) of the text, by its body. The body's reading t is chosen for each entry; it is run at the parameters' values -/
theorem fn_of {CX : CXT} {P : Program} {w : World} {K : PySem.W.Frag} {mg : Str → Option Value} {base : Heap} {k : Nat} {f : Addr} {name qual : Str} {params : Arguments} {body : List Stmt} {scope : Scope} {dV kV doc pm cdv ct oc : Value} {an od : Option Addr}
    {osl : Array (Option Value)} {N ps : List Str} {sp : Sp} (lk : K.lookup f = some ⟨oc, od, .func (PySem.W.fnOf name qual params body scope dV kV doc pm an cdv ct), osl⟩) (hcd : PySem.W.codeIn K cdv qual = true) (S : FnScope N ps scope)
    (len : ∀ vs H Q E, sp vs H Q E → vs.length = ps.length)
    (hbody : ∀ (A : Around) (outer : List Env) (s : Shared) (H : Hp) (vs : List V) (Q : VK) (E : XK), Room k (A.deeper (envOfC qual scope s.heap.objs.size f cdv)) → sp vs H Q E →
      ∃ t, PSs (cxOf CX P w K mg base N qual scope f cdv A outer s H E) body t ∧ t { nx := fun _ H' => Q .non H', rt := Q } (start N vs) H) :
    FnOk P w K mg base CX (k + 1) f (PySem.W.fnOf name qual params body scope dV kV doc pm an cdv ct) ps sp := by
  refine ⟨len, fun A outer s H args us vs Q E hr e0 hb r hsp => ?_⟩
  have hl := len _ _ _ _ hsp
  have KX : K.In s.heap := e0.mod.kin.keeps fun b o e => (e0.bs b o e).1
  have lim : s.heap.NoLimit := e0.mod.nolimit.keeps fun b o e => (e0.bs b o e).1
  have hkind : ∀ y ∈ ps.zip us, scope.names.lookup y.1 = some .local ∨ (scope.names.lookup y.1 = some .cell ∧ ((cellsFrom (s.heap.objs.size + 1) scope.names []).lookup y.1).isSome = true) := fun ⟨n, v⟩ hy => by
    rcases S.par n (List.of_mem_zip hy).1 with q | q
    · exact .inl q
    · exact .inr ⟨q, PySem.W.cellsFrom_some _ _ _ (.inl q)⟩
  refine codeAny_call_function hr.depth (KX _ _ lk) rfl S.co S.gen rfl (PySem.W.codeRec_of KX hcd) (hb _ _ _ _ ?_)
  refine wpAny_newFunctionEnv_cells S.kind hkind fun env he s1 x => ?_
  subst he
  refine ⟨lim.keeps x.toInCall.keep, codeAny_func ?_⟩
  obtain ⟨t, ht, hq⟩ := hbody A outer s H vs Q E (hr.deeper _) hsp
  have I : Inv (cxOf CX P w K mg base N qual scope f cdv A outer s H E) [] (start N vs) H s1 := inv_start S hr.hd e0 hl r x
  refine wpAny_mono (ht [] s1 (start N vs) H _ I hq) (fun fl s' hs => ?_) fun e s' hs => hs
  have fin : ∀ {σ' : St} {H' : Hp} {v : V} {u : Value}, Inv (cxOf CX P w K mg base N qual scope f cdv A outer s H E) [] σ' H' s' → RelV v u → Q v H' → CE outer P w H s Q u s' :=
    fun {σ' H' v u} J rv q => ⟨v, H', J.os, J.bare, J.base, J.hok, rv, q⟩
  cases fl with
  | ret u =>
    obtain ⟨v, σ', H', J, rv, q⟩ := hs
    exact fin J rv q
  | next =>
    obtain ⟨σ', H', J, q⟩ := hs
    exact fin (v := V.non) (u := Value.none) J rfl q
  | brk =>
    obtain ⟨_, _, _, q⟩ := hs
    exact False.elim q
  | cont =>
    obtain ⟨_, _, _, q⟩ := hs
    exact False.elim q
end L2

namespace L2
open PySem PySem.Spec PyProof.Rows
section
variable {X : Cx} {x : Str} {p pos : Pos} {e : Expr} {es : List Expr} {t : TA} {id T : String} {r : List V → Hp → VK → Prop}

def tCB (r : List V → Hp → VK → Prop) (t : TA) : TE := fun σ H Q => t σ H fun vs H1 => r vs H1 Q
/-- f(e, ..), f a built-in function -/
theorem pe_callB (hc : CallR X (.builtin id) r) (hg : Gl X x) (hm : X.mg x = none) (hv : bootBuiltins x = some (.builtin id)) (ha : PA X (e :: es) t) (hn : x ≠ "__name__" := by decide) (hdb : (x == ("__debug__" : Str)) = false := by decide)
    (he : starEach (e :: es) X.env = (false, eval e X.env) :: starEach es X.env := by rfl) (hpl : (backTo pos (starEach es X.env)).any (·.1) = false := by rfl) : PE X (.Call (.Name x p) (e :: es) [] pos) (tCB r t) := by
  intro pins s σ H Q I h
  refine wpAny_Call_Name_kw (ld_blt I hg hm hv ?_ hn hdb)
  exact PyProof.Rows.callWith_builtin1 (thn (ha pos pins s σ H _ I h) fun us s1 ⟨vs, H1, I1, r1, q1⟩ => hc pins s1 σ H1 vs us Q I1 r1 q1) he hpl
/-- T(e, ..), T a built-in type -/
theorem pe_callTy (hc : CallR X (.type T) r) (hg : Gl X x) (hm : X.mg x = none) (hv : bootBuiltins x = some (.type T)) (ha : PA X (e :: es) t) (hn : x ≠ "__name__" := by decide) (hdb : (x == ("__debug__" : Str)) = false := by decide)
    (he : starEach (e :: es) X.env = (false, eval e X.env) :: starEach es X.env := by rfl) (hpl : (backTo pos (starEach es X.env)).any (·.1) = false := by rfl) : PE X (.Call (.Name x p) (e :: es) [] pos) (tCB r t) := by
  intro pins s σ H Q I h
  refine wpAny_Call_Name_kw (ld_blt I hg hm hv ?_ hn hdb)
  exact PyProof.Rows.callWith_type1 (thn (ha pos pins s σ H _ I h) fun us s1 ⟨vs, H1, I1, r1, q1⟩ => hc pins s1 σ H1 vs us Q I1 r1 q1) he hpl
end
end L2

namespace HT
open PySem PyProof.Rows

/-- t < u of tuples of ints -/
def lexLt : List Int → List Int → Bool
  | [], [] => false
  | [], _ :: _ => true
  | _ :: _, [] => false
  | x :: xs, y :: ys => if x = y then lexLt xs ys else decide (x < y)
section
open PySem.SeqAt
open PySem.AutoSeq1 (wpAny_loadPart')
open PySem.MeetsSeq PySem.MeetsSeq2 PySem.MeetsSeq3

end

section
variable {prog : Program} {w : World} {A : Around} {E : Value → Shared → Prop} {s : Shared}

/-! ### t[a:b], not the whole -/
/-- a slice's bound as a place among n (d where it is left out) -/
def sIx (n d : Nat) : Option Int → Nat
  | none => d
  | some v => if v < 0 then (v + (n : Int)).toNat else min v.toNat n
theorem sIx_le (n d : Nat) (hd : d ≤ n) (o : Option Int) : sIx n d o ≤ n := by
  cases o with
  | none => exact hd
  | some v =>
    show (if v < 0 then (v + (n : Int)).toNat else min v.toNat n) ≤ n
    by_cases hv : v < 0
    · rw [if_pos hv]; omega
    · rw [if_neg hv]; exact Nat.min_le_right _ _
theorem clip_eq (v : Int) (n d : Nat) : (if v < 0 then max (v + (n : Int)) 0 else min v (n : Int)) = ((sIx n d (some v) : Nat) : Int) := by
  show (if v < 0 then max (v + (n : Int)) 0 else min v (n : Int)) = (((if v < 0 then (v + (n : Int)).toNat else min v.toNat n) : Nat) : Int)
  by_cases hv : v < 0
  · simp only [if_pos hv]; omega
  · simp only [if_neg hv]; omega
theorem adjust_gen (lo hi : Option Int) (n : Nat) : Builtin.Slice.sliceAdjust lo hi 1 (n : Int) = (((sIx n 0 lo : Nat) : Int), ((sIx n n hi : Nat) : Int)) := by
  have h1 : ¬ ((1 : Int) < 0) := by omega
  unfold Builtin.Slice.sliceAdjust
  simp only [h1, if_false]
  refine Prod.ext ?_ ?_
  · cases lo with
    | none => rfl
    | some v => exact clip_eq v n 0
  · cases hi with
    | none => rfl
    | some v => exact clip_eq v n n
theorem places_gen (i j : Nat) : Builtin.Slice.slicePlaces (i : Int) (j : Int) 1 = j - i := by
  unfold Builtin.Slice.slicePlaces
  have h1 : (1 : Int) > 0 := by omega
  simp only [h1, if_true, Int.ediv_one]
  split <;> omega
theorem slicePart_ {v : Value} {o : Option Int} {Q : Option Int → Shared → Prop} (p : IsPart v o) (h : Q o s) : wpAny (model prog w) A (Builtin.Slice.slicePartIndex v) Q E s := by
  cases p with
  | none => exact slicePart_none h
  | int i t => exact slicePart_int h
theorem sliceApplied_gen {sl : Addr} {vl vu : Value} {lo hi : Option Int} {n : Nat} {Q : Int × Int × Nat → Shared → Prop} (hs : s.heap.IsSliceOf sl vl vu .none) (pl : IsPart vl lo) (pu : IsPart vu hi)
    (h : Q (((sIx n 0 lo : Nat) : Int), 1, sIx n n hi - sIx n 0 lo) s) : wpAny (model prog w) A (Builtin.Slice.sliceApplied (.ref sl) (pure (n : Int))) Q E s := by
  obtain ⟨os, hos, hcs, hds⟩ := id hs
  unfold Builtin.Slice.sliceApplied Builtin.Slice.sliceFields
  refine wpAny_bind (wpAny_bind (wpAny_field hos hds (x := vl) rfl (wpAny_bind (wpAny_field hos hds (x := vu) rfl (wpAny_bind (wpAny_field hos hds (x := .none) rfl (wpAny_pure ?_)))))))
  refine wpAny_bind (slicePart_none ?_)
  show wpAny _ _ (if ((1 : Int) == 0) = true then _ else _) _ _ s
  rw [if_neg (by decide)]
  refine wpAny_bind (slicePart_ pl (wpAny_bind (slicePart_ pu (wpAny_bind (wpAny_pure ?_)))))
  show wpAny _ _ (match Builtin.Slice.sliceAdjust lo hi 1 (n : Int) with | (lo, hi) => pure (lo, (1 : Int), Builtin.Slice.slicePlaces lo hi 1)) _ _ s
  rw [adjust_gen lo hi n]
  show wpAny _ _ (pure (((sIx n 0 lo : Nat) : Int), (1 : Int), Builtin.Slice.slicePlaces ((sIx n 0 lo : Nat) : Int) ((sIx n n hi : Nat) : Int) 1)) _ _ s
  rw [places_gen]
  exact wpAny_pure h
theorem pick_gen (xs : Array Value) (i k : Nat) : ((List.range k).filterMap fun (m : Nat) => xs[((i : Int) + (m : Int) * 1).toNat]?).toArray = ((xs.toList.drop i).take k).toArray := by
  have e : (fun (m : Nat) => xs[((i : Int) + (m : Int) * 1).toNat]?) = fun m => xs[i + m]? := by
    funext m
    have : ((i : Int) + (m : Int) * 1).toNat = i + m := by omega
    rw [this]
  rw [e]
  have := pick_run xs i k
  rw [List.filterMap_map] at this
  have e2 : ((fun x => xs[x]?) ∘ fun x => i + x) = fun m => xs[i + m]? := rfl
  rw [e2] at this
  rw [this]

theorem getItem_tuple_cut {t sl : Addr} {items : Array Value} {vl vu : Value} {lo hi : Option Int} {Q : Value → Shared → Prop} (ht : IsTup s.heap t items) (hs : s.heap.IsSliceOf sl vl vu .none) (pl : IsPart vl lo) (pu : IsPart vu hi)
    (hw : ¬ (sIx items.size 0 lo = 0 ∧ sIx items.size items.size hi = items.size))
    (h : Q (.ref s.heap.objs.size) { s with heap := s.heap.push { cls := .type "tuple", data := .seq ((items.toList.drop (sIx items.size 0 lo)).take (sIx items.size items.size hi - sIx items.size 0 lo)).toArray } })
    (hsz : items.size ≤ sizeLine) : wpAny (model prog w) A (getItem (.ref t) (.ref sl)) Q E s := by
  have htake : sizeOk (.seq ((items.toList.drop (sIx items.size 0 lo)).take (sIx items.size items.size hi - sIx items.size 0 lo)).toArray) := by
    show ((items.toList.drop (sIx items.size 0 lo)).take (sIx items.size items.size hi - sIx items.size 0 lo)).toArray.size ≤ sizeLine
    rw [List.size_toArray, List.length_take, List.length_drop, Array.length_toList]
    omega
  have hj : sIx items.size items.size hi ≤ items.size := sIx_le _ _ (Nat.le_refl _) hi
  obtain ⟨os, hos, hcs, hds⟩ := id hs
  have hTs : s.TypeIs (.ref sl) "slice" := ⟨os, hos, hcs⟩
  unfold getItem
  try with_reducible refine wpAny_holding ?_
  first | refine wpAny_bind (wpAny_pure ?_) | skip
  refine wpAny_bind (wpAny_sequenceKey ht.typeIs (by decide) ?_)
  refine wpAny_bind (wpAny_callSpecial?_slot (name := Str.ofString "__getitem__") ht.typeIs PyProof.Rows.slot_tuple_getitem
    (wpAny_call_entry PyProof.Rows.slot_tuple_getitem ht.typeIs entry_tuple_getitem ?_ (args_tuple_getitem _ _)))
  show wpAny _ _ (Builtin.Tuple.tupleItemsOf (.ref t) >>= _) _ _ s
  refine wpAny_bind (tupleItemsOf_ ht ?_)
  refine wpAny_bind (wpAny_typeOf hTs ?_)
  rw [if_pos (by decide)]
  refine wpAny_bind (sliceApplied_gen hs pl pu ?_)
  have hno : ¬ ((((sIx items.size 0 lo : Nat) : Int) == 0 && (1 : Int) == 1 && (sIx items.size items.size hi - sIx items.size 0 lo) == items.size) = true) := by
    intro q
    rw [Bool.and_eq_true, Bool.and_eq_true] at q
    have q1 : ((sIx items.size 0 lo : Nat) : Int) = 0 := eq_of_beq q.1.1
    have q2 : sIx items.size items.size hi - sIx items.size 0 lo = items.size := eq_of_beq q.2
    exact hw ⟨by omega, by omega⟩
  show wpAny _ _ (if (((sIx items.size 0 lo : Nat) : Int) == 0 && (1 : Int) == 1 && (sIx items.size items.size hi - sIx items.size 0 lo) == items.size) = true then _ else _) _ _ s
  rw [if_neg hno, pick_gen]
  first
    | exact wpAny_bind (m := Builtin.Tuple.tupleExact _) (wpAny_newObj_type (wpAny_pure ⟨_, rfl, wpAny_pure h⟩) htake)
    | exact wpAny_bind (m := Builtin.Tuple.tupleExact _) (wpAny_newObj_type (wpAny_bind (wpAny_pure (wpAny_pure ⟨_, rfl, wpAny_pure h⟩))) htake)
    | exact wpAny_bind (wpAny_bind (m := Builtin.Tuple.tupleExact _) (wpAny_newObj_type (wpAny_pure (wpAny_pure ⟨_, rfl, wpAny_pure h⟩)) htake))
    | exact wpAny_bind (wpAny_bind (m := Builtin.Tuple.tupleExact _) (wpAny_newObj_type (wpAny_pure ⟨_, rfl, wpAny_pure h⟩) htake))
end
end HT

namespace L2
open PySem PySem.Spec PyProof.Rows

/-! ### the parts of a slice -/
abbrev TO := St → Hp → (Option Int → Hp → Prop) → Prop
/-- a slice's part (left out, or an int) -/
def PO (X : Cx) (e : Option Expr) (t : TO) : Prop :=
  ∀ (pins : List (Addr × Obj)) (s : Shared) (σ : St) (H : Hp) (Q : Option Int → Hp → Prop), Inv X pins σ H s → t σ H Q →
    wpAny (model X.prog X.w) X.A (evalPart e X.env) (fun u s' => ∃ o H', Inv X pins σ H' s' ∧ IsPart u o ∧ Q o H') X.xe s
def tNoPart : TO := fun _ H Q => Q none H
def tPart (t : TE) : TO := fun σ H Q => t σ H fun x H1 => ∃ i, x = .int i ∧ Q (some i) H1

section
variable {X : Cx} {e : Expr} {te : TE} {lo hi : Option Expr} {tl th : TO} {pos p2 : Pos}

theorem po_none : PO X none tNoPart := by
  intro pins s σ H Q I h
  rw [evalPart_none]
  exact wpAny_pure ⟨none, H, I, .none, h⟩
theorem po_some (h : PE X e te) : PO X (some e) (tPart te) := by
  intro pins s σ H Q I hw
  rw [evalPart_some]
  refine thn (h pins s σ H _ I hw) fun u s1 ⟨x, H1, I1, r1, q1⟩ => ?_
  obtain ⟨i, rfl, q⟩ := q1
  obtain ⟨t, rfl⟩ := r1
  exact ⟨some i, H1, I1, .int i t, q⟩

/-- what a slice of a value is, by values: the slice object stands at sl -/
def SlR (X : Cx) (r : V → Option Int → Option Int → Hp → VK → Prop) : Prop :=
  ∀ (pins : List (Addr × Obj)) (s : Shared) (σ : St) (H : Hp) (x : V) (v vl vu : Value) (lo hi : Option Int) (sl : Addr) (Q : VK), Inv X pins σ H s → RelV x v → s.heap.IsSliceOf sl vl vu .none → IsPart vl lo → IsPart vu hi → r x lo hi H Q →
    ∃ T id, typeLookup (.type T) "__getitem__" = pure (some (.builtin id)) ∧ s.TypeIs v T ∧ wpAny (model X.prog X.w) X.A (getItem v (.ref sl)) (EP X pins σ Q) X.xe s
theorem SlR.or {r r' : V → Option Int → Option Int → Hp → VK → Prop} (h : SlR X r) (h' : SlR X r') : SlR X (fun x lo hi H Q => r x lo hi H Q ∨ r' x lo hi H Q) := by
  intro pins s σ H x v vl vu lo hi sl Q I rx hs pl pu q
  rcases q with q | q
  · exact h pins s σ H x v vl vu lo hi sl Q I rx hs pl pu q
  · exact h' pins s σ H x v vl vu lo hi sl Q I rx hs pl pu q
def tSl (r : V → Option Int → Option Int → Hp → VK → Prop) (te : TE) (tl th : TO) : TE := fun σ H Q => te σ H fun x H1 => tl σ H1 fun l H2 => th σ H2 fun u H3 => r x l u H3 Q
/-- a[lo:hi], any a -/
theorem pe_slice {r : V → Option Int → Option Int → Hp → VK → Prop} (hr : SlR X r) (he : PE X e te) (hl : PO X lo tl) (hu : PO X hi th) : PE X (.Subscript e (.Slice lo hi none p2) pos) (tSl r te tl th) := by
  intro pins s σ H Q I h
  refine Subscript_ (thn (he pins s σ H _ I h) fun v s1 ⟨x, H1, I1, r1, q1⟩ => ?_)
  refine wpAny_Slice (thn (hl pins s1 σ H1 _ I1 q1) fun vl s2 ⟨l, H2, I2, pl, q2⟩ => thn (hu pins s2 σ H2 _ I2 q2) fun vu s3 ⟨u, H3, I3, pu, q3⟩ => ?_)
  rw [evalPart_none]
  refine wpAny_pure ?_
  have I4 : Inv X pins σ H3 { s3 with heap := s3.heap.push { cls := .type "slice", data := .fields #[vl, vu, .none] } } := I3.kept (t' := s3.toks) fun b ob q => Heap.get?_push_of_some _ q
  obtain ⟨T, id, hT, ht, hg⟩ := hr pins { s3 with heap := s3.heap.push { cls := .type "slice", data := .fields #[vl, vu, .none] } } σ H3 x v vl vu l u s3.heap.objs.size Q I4 r1 (Heap.IsSliceOf.new ..) pl pu q3
  show wpAny (model X.prog X.w) X.A (subscriptTail e (.Slice lo hi none p2) v (.ref s3.heap.objs.size)) (EP X pins σ Q) X.xe { s3 with heap := s3.heap.push { cls := .type "slice", data := .fields #[vl, vu, .none] } }
  exact tail_any (ops := [.ref s3.heap.objs.size, v]) ht hT hg (by with_unfolding_all rfl)

/-- the items of xs[lo:hi] -/
def cutV (xs : List V) (lo hi : Option Int) : List V := (xs.drop (HT.sIx xs.length 0 lo)).take (HT.sIx xs.length xs.length hi - HT.sIx xs.length 0 lo)
theorem cutV_length (xs : List V) (lo hi : Option Int) : (cutV xs lo hi).length ≤ xs.length := by
  unfold cutV
  rw [List.length_take, List.length_drop]
  omega
/-- t[lo:hi], not the whole of it (the whole would be t itself) -/
def rSlT (K : PySem.W.Frag) : V → Option Int → Option Int → Hp → VK → Prop := fun x lo hi H Q => ∃ a xs, x = .ref a ∧ SqT K H a xs ∧
  ¬ (HT.sIx xs.length 0 lo = 0 ∧ HT.sIx xs.length xs.length hi = xs.length) ∧ ∀ p, H p = none → Q (.ref p) (upd H p (.tup (cutV xs lo hi)))
theorem sl_tup : SlR X (rSlT X.K) := by
  intro pins s σ H x v vl vu lo hi sl Q I rx hs pl pu h
  obtain ⟨a, xs, rfl, hx, hw, q⟩ := h
  cases rx
  obtain ⟨its, r, ht, hz⟩ := I.tuple hx
  have hlen : its.toArray.size = xs.length := by rw [List.size_toArray]; exact r.length.symm
  refine ⟨"tuple", _, PyProof.Rows.slot_tuple_getitem.lookup, ht.typeIs, ?_⟩
  refine HT.getItem_tuple_cut ht hs pl pu (by rw [hlen]; exact hw) ?_ (by rw [hlen]; exact hz)
  rw [hlen]
  refine ⟨.ref s.heap.objs.size, _, I.laid (t' := s.toks) (o := .tup (cutV xs lo hi)) (fun b ob q => Heap.get?_push_of_some _ q) (Nat.le_refl _) ?_, rfl, q _ (I.hok.fresh (Nat.le_refl _))⟩
  exact ⟨Nat.le_trans (cutV_length xs lo hi) hz, _, (r.drop (HT.sIx xs.length 0 lo)).take (HT.sIx xs.length xs.length hi - HT.sIx xs.length 0 lo), IsTup.new _ _⟩

/-! ### t < u, t + u -/
def rLtT (K : PySem.W.Frag) : R2 := fun x y H Q => ∃ a b ns ms, x = .ref a ∧ y = .ref b ∧ SqT K H a (ns.map V.int) ∧ SqT K H b (ms.map V.int) ∧ Q (.bl (HT.lexLt ns ms)) H
/-- t + u, t not empty: u empty gives t itself -/
def rCatT (K : PySem.W.Frag) : R2 := fun x y H Q => ∃ a b xs ys, x = .ref a ∧ y = .ref b ∧ SqT K H a xs ∧ SqT K H b ys ∧ xs ≠ [] ∧ xs.length + ys.length ≤ sizeLine ∧
  (ys = [] → Q (.ref a) H) ∧ (ys ≠ [] → ∀ p, H p = none → Q (.ref p) (upd H p (.tup (xs ++ ys))))
end
end L2

namespace L2
open PySem PySem.Spec PyProof.Rows

/-! ### places -/
/-- the place that an index of any sign means -/
def ixN (n : Nat) (i : Int) : Option Nat := if 0 ≤ i then (if i < n then some i.toNat else none) else if -(n : Int) ≤ i then some (i + n).toNat else none
def atI {α : Type} (xs : List α) (i : Int) : Option α := (ixN xs.length i).bind fun j => xs[j]?
theorem ixN_seq {n : Nat} {i : Int} {j : Nat} (h : ixN n i = some j) : seqIndex? i n = some j ∧ j < n ∧ -(n : Int) ≤ i ∧ i < n := by
  unfold ixN at h
  by_cases h0 : 0 ≤ i
  · rw [if_pos h0] at h
    by_cases h1 : i < n
    · rw [if_pos h1] at h
      have e : i.toNat = j := Option.some.inj h
      exact ⟨by rw [seqIndex_of h0 h1, e], by omega, by omega, h1⟩
    · rw [if_neg h1] at h; cases h
  · rw [if_neg h0] at h
    by_cases h1 : -(n : Int) ≤ i
    · rw [if_pos h1] at h
      have e : (i + n).toNat = j := Option.some.inj h
      exact ⟨by rw [seqIndex_neg (by omega) h1, e], by omega, h1, by omega⟩
    · rw [if_neg h1] at h; cases h
theorem atI_get {α : Type} {xs : List α} {i : Int} {v : α} (h : atI xs i = some v) : ∃ j, seqIndex? i xs.length = some j ∧ xs[j]? = some v ∧ j < xs.length ∧ -(xs.length : Int) ≤ i ∧ i < xs.length := by
  unfold atI at h
  cases e : ixN xs.length i with
  | none => rw [e] at h; cases h
  | some j =>
    rw [e] at h
    obtain ⟨h1, h2, h3, h4⟩ := ixN_seq e
    exact ⟨j, h1, h, h2, h3, h4⟩
theorem atI_nat {α : Type} {xs : List α} {j : Nat} {v : α} (h : xs[j]? = some v) : atI xs (j : Int) = some v := by
  have hj : j < xs.length := (List.getElem?_eq_some_iff.mp h).1
  have e : ixN xs.length (j : Int) = some j := by
    unfold ixN
    rw [if_pos (by omega), if_pos (by omega)]; simp
  unfold atI; rw [e]; exact h
/-! ### what may be subscripted -/
/-- what stands as an index of a plain subscript -/
def PlainIx (b : Expr) : Prop := ∀ o i, subscripted b false o i = operate [o, i] (getItem o i)
/-- a subscript by values -/
def IxR (X : Cx) (r : R2) : Prop :=
  ∀ (value slice : Expr) (pins : List (Addr × Obj)) (s : Shared) (σ : St) (H : Hp) (x y : V) (v u : Value) (Q : VK), Inv X pins σ H s → RelV x v → RelV y u → r x y H Q →
    subscripted slice false v u = operate [v, u] (getItem v u) → wpAny (model X.prog X.w) X.A (subscriptTail value slice v u) (EP X pins σ Q) X.xe s
/-- a call of a builtin's method by values: the receiver, the arguments -/
def MtR (X : Cx) (id : String) (r : V → List V → Hp → VK → Prop) : Prop :=
  ∀ (pins : List (Addr × Obj)) (s : Shared) (σ : St) (H : Hp) (x : V) (xs : List V) (v : Value) (us : List Value) (Q : VK), Inv X pins σ H s → RelV x v → Vals xs us → r x xs H Q →
    wpAny (model X.prog X.w) X.A (call (.builtin id) (v :: us)) (EP X pins σ Q) X.xe s
section
variable {X : Cx} {a b : Expr} {ta tb : TE} {pos : Pos}
theorem IxR.or {r r' : R2} (h : IxR X r) (h' : IxR X r') : IxR X (fun x y H Q => r x y H Q ∨ r' x y H Q) := by
  intro value slice pins s σ H x y v u Q I rx ry q hs
  rcases q with q | q
  · exact h value slice pins s σ H x y v u Q I rx ry q hs
  · exact h' value slice pins s σ H x y v u Q I rx ry q hs
theorem MtR.or {id : String} {r r' : V → List V → Hp → VK → Prop} (h : MtR X id r) (h' : MtR X id r') : MtR X id (fun x xs H Q => r x xs H Q ∨ r' x xs H Q) := by
  intro pins s σ H x xs v us Q I rx rs q
  rcases q with q | q
  · exact h pins s σ H x xs v us Q I rx rs q
  · exact h' pins s σ H x xs v us Q I rx rs q
/-- a[b] -/
theorem pe_ix {r : R2} (hr : IxR X r) (ha : PE X a ta) (hb : PE X b tb) (hs : PlainIx b) : PE X (.Subscript a b pos) (tOp r ta tb) := by
  intro pins s σ H Q I h
  exact Subscript_ (binT ha hb I h fun v u s2 x y H2 I2 rx ry q => hr a b pins s2 σ H2 x y v u Q I2 rx ry q (hs _ _))

def rIxL (K : PySem.W.Frag) : R2 := fun x y H Q => ∃ p xs i v, x = .ref p ∧ y = .int i ∧ SqL K H p xs ∧ atI xs i = some v ∧ Q v H
def rIxT (K : PySem.W.Frag) : R2 := fun x y H Q => ∃ p xs i v, x = .ref p ∧ y = .int i ∧ SqT K H p xs ∧ atI xs i = some v ∧ Q v H
def rIxS : R2 := fun x y H Q => ∃ z i c, x = .str z ∧ y = .int i ∧ z.length ≤ sizeLine ∧ atI z.cps.toList i = some c ∧ Q (.str ⟨#[c]⟩) H
theorem ix_list : IxR X (rIxL X.K) := by
  intro value slice pins s σ H x y v u Q I rx ry h hs
  obtain ⟨p, xs, i, z, rfl, rfl, hq, he, q⟩ := h
  cases rx
  obtain ⟨t, rfl⟩ := ry
  obtain ⟨its, r, pl, hz⟩ := I.list hq
  obtain ⟨j, h1, h2, h3, h4, h5⟩ := atI_get he
  obtain ⟨w, ew, rw'⟩ := r.get h2
  have hl := r.length
  have hn := line63
  have fin : EP X pins σ Q w s := ⟨z, H, I, rw', q⟩
  by_cases h0 : 0 ≤ i
  · have hj : i.toNat = j := by
      rw [seqIndex_of h0 h5] at h1
      exact Option.some.inj h1
    exact item_listR pl.isList h0 (by omega) (by rw [hj]; simpa using ew) fin hs
  · have hj : (i + (its.toArray.size : Int)).toNat = j := by
      rw [seqIndex_neg (by omega) h4] at h1
      rw [List.size_toArray, ← hl]
      exact Option.some.inj h1
    exact subscriptTail_builtinR (x := w) pl.isList.typeIs slot_list_getitem.lookup
      (wpAny_getItem_list_neg (Q := fun r s' => r = w ∧ EP X pins σ Q r s') pl.isList (by omega) (by rw [List.size_toArray] <;> omega) (by omega) (by rw [hj]; simpa using ew) ⟨rfl, fin⟩) hs
theorem ix_tup : IxR X (rIxT X.K) := by
  intro value slice pins s σ H x y v u Q I rx ry h hs
  obtain ⟨p, xs, i, z, rfl, rfl, hq, he, q⟩ := h
  cases rx
  obtain ⟨t, rfl⟩ := ry
  obtain ⟨its, r, pl, hz⟩ := I.tuple hq
  obtain ⟨j, h1, h2, h3, h4, h5⟩ := atI_get he
  obtain ⟨w, ew, rw'⟩ := r.get h2
  have hl := r.length
  have hn := line63
  have fin : EP X pins σ Q w s := ⟨z, H, I, rw', q⟩
  exact subscriptTail_builtinR (x := w) pl.typeIs slot_tuple_getitem.lookup
    (getItem_tuple (j := j) (Q := fun r s' => r = w ∧ EP X pins σ Q r s') pl (by omega) (by omega) (by rw [List.size_toArray, ← hl]; exact h1) (by simpa using ew) ⟨rfl, fin⟩) hs
/-- list, tuple or str -/
def rIx (K : PySem.W.Frag) : R2 := fun x y H Q => rIxL K x y H Q ∨ rIxT K x y H Q ∨ rIxS x y H Q
/-! ### xs[i] = v, any sign -/
/-- the list's object behind a store -/
theorem mapSeq_set (its : List Value) (n j : Nat) (u : Value) : Obj.mapSeq (·.setIfInBounds j u) { cls := .type "list", data := .seq its.toArray n } = { cls := .type "list", data := .seq (its.set j u).toArray n } := by
  simp [Obj.mapSeq]
theorem Inv.lst {pins : List (Addr × Obj)} {σ : St} {H : Hp} {s : Shared} {p : Addr} {xs : List V} (I : Inv X pins σ H s) (h : H p = some (.lst xs)) :
    ∃ (its : List Value) (n : Nat), Vals xs its ∧ s.heap.get? p = some { cls := .type "list", data := .seq its.toArray n } ∧ xs.length ≤ sizeLine := by
  obtain ⟨z, its, n, r, e⟩ := I.hok p _ h
  exact ⟨its, n, r, e, z⟩
/-- the list at p is written by an update of its object -/
theorem Inv.lstUpd {pins : List (Addr × Obj)} {σ : St} {H : Hp} {s : Shared} {p : Addr} {xs ys : List V} {its its' : List Value} {n n' : Nat} {f : Obj → Obj} (I : Inv X pins σ H s) (h : H p = some (.lst xs))
    (ho : s.heap.get? p = some { cls := .type "list", data := .seq its.toArray n }) (hf : f { cls := .type "list", data := .seq its.toArray n } = { cls := .type "list", data := .seq its'.toArray n' }) (r : Vals ys its') (hz : ys.length ≤ sizeLine) (t : Nat) :
    Inv X pins σ (upd H p (.lst ys)) { s with heap := s.heap.update p f, toks := t } := by
  have e : (s.heap.update p f).get? p = some { cls := .type "list", data := .seq its'.toArray n' } := by
    rw [Heap.get?_update_self f ho (by rw [hf] <;> rfl), hf]
  refine I.write (x := p) (e := p) (by rw [h]; trivial) (.inl rfl) (fun b u hb q => (Heap.get?_update_other _ _ (Ne.symm hb)).trans q) ⟨_, e⟩ ?_
  exact ⟨hz, its', n', r, e⟩
def rSetL : V → V → V → Hp → (Hp → Prop) → Prop := fun o i v H Q => ∃ p xs k j, o = .ref p ∧ i = .int k ∧ H p = some (.lst xs) ∧ ixN xs.length k = some j ∧ Q (upd H p (.lst (xs.set j v)))
theorem set_list : PSet X rSetL := by
  intro pins s σ H o i v ov iv u Q I ro ri rv h
  obtain ⟨p, xs, k, j, rfl, rfl, hp, hj, q⟩ := h
  cases ro
  obtain ⟨t, rfl⟩ := ri
  obtain ⟨its, n, r, ho, hz⟩ := I.lst hp
  obtain ⟨h1, h2, h3, h4⟩ := ixN_seq hj
  have hl := r.length
  have hn := line63
  have I' : Inv X pins σ (upd H p (.lst (xs.set j v))) { s with heap := s.heap.update p (Obj.mapSeq (·.setIfInBounds j u)) } :=
    I.lstUpd hp ho (mapSeq_set its n j u) (r.set rv j) (by rw [List.length_set]; exact hz) s.toks
  by_cases h0 : 0 ≤ k
  · have hk : k.toNat = j := by
      rw [seqIndex_of h0 h4] at h1
      exact Option.some.inj h1
    exact PySem.W.ki_setAt ho h0 (by omega) (by rw [List.size_toArray, ← hl]; exact h4) (by rw [hk]; exact ⟨_, I', q⟩)
  · have hk : (k + (its.toArray.size : Int)).toNat = j := by
      rw [seqIndex_neg (by omega) h3] at h1
      rw [List.size_toArray, ← hl]
      exact Option.some.inj h1
    exact PySem.W.ki_setBack ho (by omega) (by rw [List.size_toArray, ← hl]; exact h3) (by omega) (by rw [hk]; exact ⟨_, I', q⟩)

/-! ### slices -/
theorem slice_bounds (lo hi : Option Int) (n : Nat) : (sliceBounds lo hi none n).1 = ((HT.sIx n 0 lo : Nat) : Int) ∧ (sliceBounds lo hi none n).2.1 = ((HT.sIx n n hi : Nat) : Int) ∧ (sliceBounds lo hi none n).2.2 = 1 := by
  refine ⟨?_, ?_, rfl⟩
  · cases lo with
    | none => simp [sliceBounds, HT.sIx]
    | some i =>
      simp only [sliceBounds, HT.sIx, Option.getD_none, show (1 : Int) > 0 by decide, if_true]
      by_cases h : i < 0
      · simp only [h, if_true] <;> omega
      · simp only [h, if_false] <;> omega
  · cases hi with
    | none => simp [sliceBounds, HT.sIx]
    | some i =>
      simp only [sliceBounds, HT.sIx, Option.getD_none, show (1 : Int) > 0 by decide, if_true]
      by_cases h : i < 0
      · simp only [h, if_true] <;> omega
      · simp only [h, if_false] <;> omega
theorem slicePick_cut (its : List Value) (lo hi : Option Int) : slicePick its.toArray lo hi none = ((its.drop (HT.sIx its.length 0 lo)).take (HT.sIx its.length its.length hi - HT.sIx its.length 0 lo)).toArray := by
  obtain ⟨h1, h2, h3⟩ := slice_bounds lo hi its.toArray.size
  unfold slicePick
  rw [h1, h2, h3]
  simp only [sliceRange_one, pick_run, List.size_toArray] <;> rfl
/-- xs[lo:hi] of a list: a new list -/
def rSlL (K : PySem.W.Frag) : V → Option Int → Option Int → Hp → VK → Prop := fun x lo hi H Q => ∃ a xs, x = .ref a ∧ SqL K H a xs ∧ ∀ p, H p = none → Q (.ref p) (upd H p (.lst (cutV xs lo hi)))
theorem sl_list : SlR X (rSlL X.K) := by
  intro pins s σ H x v vl vu lo hi sl Q I rx hs pl pu h
  obtain ⟨a, xs, rfl, hx, q⟩ := h
  cases rx
  obtain ⟨its, r, ht, hz⟩ := I.list hx
  have hlen := r.length
  refine ⟨"list", _, slot_list_getitem.lookup, ht.isList.typeIs, ?_⟩
  refine wpAny_getItem_list_slice ht.isList hs pl pu .none (by simp) ?_ (by rw [List.size_toArray] <;> omega)
  rw [slicePick_cut, ← hlen]
  refine ⟨.ref s.heap.objs.size, _, I.laid (t' := s.toks) (o := .lst (cutV xs lo hi)) (fun b ob q => Heap.get?_push_of_some _ q) (Nat.le_refl _) ?_, rfl, q _ (I.hok.fresh (Nat.le_refl _))⟩
  exact ⟨Nat.le_trans (cutV_length xs lo hi) hz, _, 0, (r.drop (HT.sIx xs.length 0 lo)).take (HT.sIx xs.length xs.length hi - HT.sIx xs.length 0 lo), Heap.get?_push_size _ rfl⟩

/-! ### in, not in: flat items -/
def flatV : V → Bool
  | .non => true
  | .bl _ => true
  | .int _ => true
  | .str _ => true
  | _ => false
/-- == of flat values -/
def eqV : V → V → Bool
  | .non, .non => true
  | .bl a, .bl b => a == b
  | .bl a, .int b => (if a then 1 else 0) == b
  | .int a, .bl b => a == (if b then 1 else 0)
  | .int a, .int b => a == b
  | .str a, .str b => a == b
  | _, _ => false
theorem eqAt_V {A : Around} {s : Shared} {y x : V} {u v : Value} (ry : RelV y u) (rx : RelV x v) (fy : flatV y = true) (fx : flatV x = true) : SeqAt.EqAt A s u v (eqV y x) := by
  cases y with
  | non =>
    cases ry
    cases x with
    | non => cases rx; exact SeqAt.EqAt.same _
    | bl b => cases rx; exact SeqAt.EqAt.none_bool b
    | int b => obtain ⟨t, rfl⟩ := rx; exact SeqAt.EqAt.none_int b t
    | str b => obtain ⟨t, rfl⟩ := rx; exact SeqAt.EqAt.none_str b t
    | _ => exact absurd (show false = true from fx) Bool.false_ne_true
  | bl a =>
    cases ry
    cases x with
    | non => cases rx; exact SeqAt.EqAt.bool_none a
    | bl b => cases rx; exact SeqAt.EqAt.bool_bool a b
    | int b => obtain ⟨t, rfl⟩ := rx; exact SeqAt.EqAt.bool_int a b t
    | str b => obtain ⟨t, rfl⟩ := rx; exact SeqAt.EqAt.bool_str a b t
    | _ => exact absurd (show false = true from fx) Bool.false_ne_true
  | int a =>
    obtain ⟨t', rfl⟩ := ry
    cases x with
    | non => cases rx; exact SeqAt.EqAt.int_none a t'
    | bl b => cases rx; exact SeqAt.EqAt.int_bool a t' b
    | int b => obtain ⟨t, rfl⟩ := rx; exact SeqAt.EqAt.int_int a t' b t
    | str b => obtain ⟨t, rfl⟩ := rx; exact SeqAt.EqAt.int_str a t' b t
    | _ => exact absurd (show false = true from fx) Bool.false_ne_true
  | str a =>
    obtain ⟨t', rfl⟩ := ry
    cases x with
    | non => cases rx; exact SeqAt.EqAt.str_none a t'
    | bl b => cases rx; exact SeqAt.EqAt.str_bool a t' b
    | int b => obtain ⟨t, rfl⟩ := rx; exact SeqAt.EqAt.str_int a t' b t
    | str b => obtain ⟨t, rfl⟩ := rx; exact SeqAt.EqAt.str_str a t' b t
    | _ => exact absurd (show false = true from fx) Bool.false_ne_true
  | _ => exact absurd (show false = true from fy) Bool.false_ne_true
/-- the items' answers, read off the values (a value's own answer does not lean on its token) -/
def eqU (x : V) (u : Value) : Bool := match u with
  | .none => eqV .non x
  | .bool b => eqV (.bl b) x
  | .int i _ => eqV (.int i) x
  | .str z _ => eqV (.str z) x
  | _ => false
theorem eqU_of {x y : V} {u : Value} (r : RelV y u) (f : flatV y = true) : eqU x u = eqV y x := by
  cases y with
  | non => cases r; rfl
  | bl b => cases r; rfl
  | int i => obtain ⟨t, rfl⟩ := r; rfl
  | str z => obtain ⟨t, rfl⟩ := r; rfl
  | _ => exact absurd (show false = true from f) Bool.false_ne_true
theorem any_eqU {x : V} : ∀ {xs : List V} {us : List Value}, Vals xs us → xs.all flatV = true → us.any (eqU x) = xs.any fun y => eqV y x
  | _, _, .nil, _ => rfl
  | y :: xs, u :: us, .cons r t, f => by
    rw [List.all_cons, Bool.and_eq_true] at f
    rw [List.any_cons, List.any_cons, eqU_of r f.1, any_eqU t f.2]
theorem mem_eqAt {A : Around} {s : Shared} {x : V} {v : Value} (rx : RelV x v) (fx : flatV x = true) : ∀ {xs : List V} {us : List Value}, Vals xs us → xs.all flatV = true → ∀ u ∈ us, SeqAt.EqAt A s u v (eqU x u)
  | _, _, .nil, _ => fun u hu => by cases hu
  | y :: xs, u :: us, .cons r t, f => fun u' hu => by
    rw [List.all_cons, Bool.and_eq_true] at f
    rcases List.mem_cons.mp hu with rfl | hu
    · rw [eqU_of r f.1]; exact eqAt_V r rx f.1 fx
    · exact mem_eqAt rx fx t f.2 u' hu
def inV (x : V) (xs : List V) : Bool := xs.any fun y => eqV y x
/-- x in a list or tuple of flat items -/
def rIn (K : PySem.W.Frag) (neg : Bool) : R2 := fun x y H Q => ∃ p xs, y = .ref p ∧ (SqL K H p xs ∨ SqT K H p xs) ∧ flatV x = true ∧ xs.all flatV = true ∧ Q (.bl (if neg then !inV x xs else inV x xs)) H
theorem op_in_seq : OpR X (compareOp .In) (rIn X.K false) := by
  intro pins s σ H x y v u Q I rx ry h
  obtain ⟨p, xs, rfl, hq, fx, fs, q⟩ := h
  cases ry
  rcases hq with hq | hq
  · obtain ⟨its, r, pl, hz⟩ := I.list hq
    refine SeqAt.in_listAt (eqU x) pl.isList (fun w hw => mem_eqAt rx fx r fs w (by simpa using hw)) ⟨.bl _, H, I, rfl, ?_⟩
    rw [show its.toArray.any (eqU x) = its.any (eqU x) by simp, any_eqU r fs]
    exact q
  · obtain ⟨its, r, pl, hz⟩ := I.tuple hq
    refine SeqAt.in_tupleAt (eqU x) pl (fun w hw => mem_eqAt rx fx r fs w (by simpa using hw)) ⟨.bl _, H, I, rfl, ?_⟩
    rw [show its.toArray.any (eqU x) = its.any (eqU x) by simp, any_eqU r fs]
    exact q
/-! ### len, list(x), tuple(x) of any list or tuple that is read -/
theorem call_len_seq : CallR X (.builtin "len") (fun xs H Q => ∃ p ys, xs = [.ref p] ∧ (SqL X.K H p ys ∨ SqT X.K H p ys) ∧ Q (.int ys.length) H) := by
  intro pins s σ H xs us Q I r h
  obtain ⟨p, ys, rfl, hq, q⟩ := h
  obtain ⟨u, rfl, rx⟩ := vals1 r
  cases rx
  have hn := line63
  rcases hq with hq | hq
  · obtain ⟨its, r', pl, hz⟩ := I.list hq
    have hlen := r'.length
    exact Calls.call_len_list pl.isList (by simp only [List.size_toArray] <;> omega) ⟨.int ys.length, H, I.tok _, ⟨s.toks + 1, by rw [List.size_toArray, hlen]⟩, q⟩
  · obtain ⟨its, r', pl, hz⟩ := I.tuple hq
    have hlen := r'.length
    exact len_tuple pl (by simp only [List.size_toArray] <;> omega) ⟨.int ys.length, H, I.tok _, ⟨s.toks + 1, by rw [List.size_toArray, hlen]⟩, q⟩
theorem CallR.or {f : Value} {r r' : List V → Hp → VK → Prop} (h : CallR X f r) (h' : CallR X f r') : CallR X f (fun xs H Q => r xs H Q ∨ r' xs H Q) := by
  intro pins s σ H xs us Q I rs q
  rcases q with q | q
  · exact h pins s σ H xs us Q I rs q
  · exact h' pins s σ H xs us Q I rs q
theorem call_list_of : CallR X (.type "list") (fun xs H Q => ∃ p ys, xs = [.ref p] ∧ (SqL X.K H p ys ∨ SqT X.K H p ys) ∧ ∀ l, H l = none → Q (.ref l) (upd H l (.lst ys))) := by
  intro pins s σ H xs us Q I r h
  obtain ⟨p, ys, rfl, hq, q⟩ := h
  obtain ⟨u, rfl, rx⟩ := vals1 r
  cases rx
  have fin : ∀ (its : List Value), Vals ys its → ys.length ≤ sizeLine → ∀ (h' : Heap) (c' : Nat), (∀ b o', s.heap.get? b = some o' → h'.get? b = some o') →
      h'.get? s.heap.objs.size = some { cls := .type "list", dict := none, data := .seq its.toArray c', slots := #[] } → EP X pins σ Q (.ref s.heap.objs.size) { s with heap := h' } := fun its r' hz h' c' kp e =>
    ⟨.ref s.heap.objs.size, _, I.laid (t' := s.toks) kp (Nat.le_refl _) (show ObjOk X.prog X.w _ h' _ (.lst ys) from ⟨hz, its, c', r', e⟩), rfl, q _ (I.hok.fresh (Nat.le_refl _))⟩
  rcases hq with hq | hq
  · obtain ⟨its, r', pl, hz⟩ := I.list hq
    have hlen := r'.length
    obtain ⟨o, ho, hc, n, hd⟩ := pl.isList
    exact call_list_seq p (.inl rfl) ho hc hd (fun h' c' kp e => fin its r' hz h' c' kp e) (by simp only [List.size_toArray] <;> omega)
  · obtain ⟨its, r', pl, hz⟩ := I.tuple hq
    have hlen := r'.length
    obtain ⟨o, ho, hc, n, hd⟩ := pl
    exact call_list_seq p (.inr rfl) ho hc hd (fun h' c' kp e => fin its r' hz h' c' kp e) (by simp only [List.size_toArray] <;> omega)
theorem call_tuple_of : CallR X (.type "tuple") (fun xs H Q => ∃ p ys, xs = [.ref p] ∧ ((SqL X.K H p ys ∧ ∀ l, H l = none → Q (.ref l) (upd H l (.tup ys))) ∨ (SqT X.K H p ys ∧ Q (.ref p) H))) := by
  intro pins s σ H xs us Q I r h
  obtain ⟨p, ys, rfl, h⟩ := h
  obtain ⟨u, rfl, rx⟩ := vals1 r
  cases rx
  rcases h with ⟨hq, q⟩ | ⟨hq, q⟩
  · obtain ⟨its, r', pl, hz⟩ := I.list hq
    have hlen := r'.length
    refine call_tuple_list pl.isList (fun h' kp => ?_) (by simp only [List.size_toArray] <;> omega)
    have I1 : Inv X pins σ H { s with heap := h' } := I.kept (t' := s.toks) kp
    have I2 : Inv X pins σ (upd H h'.objs.size (.tup ys)) { s with heap := h'.push { cls := .type "tuple", data := .seq its.toArray } } :=
      I1.laid (t' := s.toks) (fun b o e => Heap.get?_push_of_some _ e) (Nat.le_refl _) (show ObjOk X.prog X.w _ _ _ (.tup ys) from ⟨hz, its, r', IsTup.new _ _⟩)
    exact ⟨.ref h'.objs.size, _, I2, rfl, q _ (I1.hok.fresh (Nat.le_refl _))⟩
  · obtain ⟨its, r', pl, hz⟩ := I.tuple hq
    exact call_tuple_same pl ⟨.ref p, H, I, rfl, q⟩

/-! ### the call of a builtin's method: o.m(..) -/
/-- the value is of that builtin type -/
def tyV (K : PySem.W.Frag) (T : String) (x : V) (H : Hp) : Prop := match x with
  | .str _ => T = "str"
  | .int _ => T = "int"
  | .ref p => (T = "list" ∧ ∃ xs, SqL K H p xs) ∨ (T = "tuple" ∧ ∃ o, K.lookup p = some o ∧ o.cls = .type "tuple" ∧ o.dict = none) ∨
      (T = "dict" ∧ ((∃ kvs, H p = some (.dK kvs)) ∨ ∃ kvs, H p = some (.dT kvs))) ∨ (T = "set" ∧ ∃ S n, H p = some (.set S n))
  | _ => False
theorem tyV_is {pins : List (Addr × Obj)} {σ : St} {H : Hp} {s : Shared} {T : String} {x : V} {v : Value} (I : Inv X pins σ H s) (r : RelV x v) (ty : tyV X.K T x H) :
    s.TypeIs v T ∧ ∀ a, v = .ref a → ∃ ob, s.heap.get? a = some ob ∧ ob.dict = none := by
  cases x with
  | str z =>
    obtain ⟨t, rfl⟩ := r
    cases (show T = "str" from ty)
    exact ⟨typeIs_str s z t, fun _ e => nomatch e⟩
  | int i =>
    obtain ⟨t, rfl⟩ := r
    cases (show T = "int" from ty)
    exact ⟨typeIs_int s i t, fun _ e => nomatch e⟩
  | ref p =>
    cases r
    rcases ty with ⟨rfl, xs, hq⟩ | ⟨rfl, o, hk, hc, hd⟩ | ⟨rfl, hk⟩ | ⟨rfl, S, n, hk⟩
    · obtain ⟨its, _, pl, _⟩ := I.list hq
      refine ⟨pl.isList.typeIs, fun a e => ?_⟩
      cases e
      obtain ⟨o, n, e, c, hd, _⟩ := pl
      exact ⟨o, e, hd⟩
    · refine ⟨⟨o, I.kIn p o hk, hc⟩, fun a e => ?_⟩
      cases e
      exact ⟨o, I.kIn _ o hk, hd⟩
    · have z : ∃ o, s.heap.get? p = some o ∧ o.ExactDict := by
        rcases hk with ⟨kvs, hk⟩ | ⟨kvs, hk⟩
        · obtain ⟨_, _, _, _, o, _, _, e, ex, _⟩ := I.hok p _ hk
          exact ⟨o, e, ex⟩
        · obtain ⟨_, _, _, _, o, _, _, e, ex, _⟩ := I.hok p _ hk
          exact ⟨o, e, ex⟩
      obtain ⟨o, e, ex⟩ := z
      refine ⟨⟨o, e, ex.1⟩, fun a e2 => ?_⟩
      cases e2
      exact ⟨o, e, ex.2.1⟩
    · obtain ⟨o, _, _, _, e, ex, _⟩ := I.hok p _ hk
      refine ⟨⟨o, e, ex.1⟩, fun a e2 => ?_⟩
      cases e2
      exact ⟨o, e, ex.2.1⟩
  | _ => exact False.elim ty
def tBM0 (K : PySem.W.Frag) (T : String) (r : V → List V → Hp → VK → Prop) (to : TE) : TE := fun σ H Q => to σ H fun x H1 => tyV K T x H1 ∧ r x [] H1 Q
def tBM (K : PySem.W.Frag) (T : String) (r : V → List V → Hp → VK → Prop) (to : TE) (t : TA) : TE := fun σ H Q => to σ H fun x H1 => tyV K T x H1 ∧ t σ H1 fun xs H2 => r x xs H2 Q
variable {o e : Expr} {es : List Expr} {to : TE} {t : TA} {name : Str} {apos cpos : Pos} {T id : String} {r : V → List V → Hp → VK → Prop}
theorem pe_bm (pa : PlainAttrs T) (slot : Slot T name id) (hty : typeOf (.builtin id) = pure (.type "method_descriptor")) (hm : MtR X id r) (ho : PE X o to) (ha : PA X (e :: es) t)
    (hbase : attributeBase o name X.env (eval o X.env) = eval o X.env := by rfl)
    (hfew : ((backTo cpos (starEach (e :: es) X.env)).all (fun x => !x.1) && (backToKw cpos (keywordEach [] X.env)).all (fun x => x.1.isSome)
      && decide ((e :: es).length + ([] : List Keyword).length + (if ([] : List Keyword).isEmpty then 0 else 1) < 30)) = true := by rfl)
    (hline : (apos.endLine == cpos.line) = true := by rfl) (hs : starEach (e :: es) X.env = (false, eval e X.env) :: starEach es X.env := by rfl) (hplain : (backTo cpos (starEach es X.env)).any (·.1) = false := by rfl) :
    PE X (.Call (.Attribute o name apos) (e :: es) [] cpos) (tBM X.K T r to t) := by
  intro pins s σ H Q I h
  refine wpAny_Call_method_late hbase hfew hline rfl (thn (ho pins s σ H _ I h) fun v s1 ⟨x, H1, I1, r1, ty, q1⟩ => ?_)
  obtain ⟨h1, h2⟩ := tyV_is I1 r1 ty
  refine ⟨T, id, pa, slot, hty, h1, h2, ?_⟩
  have hA := ha cpos pins s1 σ H1 _ I1 q1
  rw [hs] at hA ⊢
  refine Calls.callWith_builtin (by show (false || (backTo cpos (starEach es X.env)).any (·.1)) = false; rw [hplain] <;> rfl) (Calls.evalArgs_plain ?_)
  exact thn hA fun us s2 ⟨vs, H2, I2, r2, q2⟩ => hm pins s2 σ H2 x vs v us Q I2 r1 r2 q2
/- xs.append(e), list.index on a module's tuple .. are MtR facts of 06m -/
end
end L2

namespace L2
open PySem PySem.Spec PyProof.Rows

def MtM (X : Cx) (id : String) (r : V → List V → Hp → VK → Prop) : Prop :=
  ∀ (pins : List (Addr × Obj)) (s : Shared) (σ : St) (H : Hp) (x : V) (xs : List V) (v : Value) (us : List Value) (Q : VK), Inv X pins σ H s → RelV x v → Vals xs us → r x xs H Q →
    wpAny (model X.prog X.w) X.A (call (.builtin id) (v :: us)) (EP X pins σ Q) X.xe s

/-! ### lists of values -/
theorem Vals.one : ∀ {x : V} {us : List Value}, Vals [x] us → ∃ u, us = [u] ∧ RelV x u
  | _, _, .cons r .nil => ⟨_, rfl, r⟩
theorem Vals.two : ∀ {x y : V} {us : List Value}, Vals [x, y] us → ∃ u v, us = [u, v] ∧ RelV x u ∧ RelV y v
  | _, _, _, .cons r (.cons q .nil) => ⟨_, _, rfl, r, q⟩
theorem Vals.zero : ∀ {us : List Value}, Vals [] us → us = []
  | _, .nil => rfl
theorem Vals.dropLast {xs : List V} {us : List Value} (h : Vals xs us) : Vals xs.dropLast us.dropLast := by
  induction h with
  | nil => exact .nil
  | cons r t ih =>
    cases t with
    | nil => exact .nil
    | cons q t' => exact .cons r ih
theorem Vals.eraseIdx : ∀ {xs : List V} {us : List Value} (i : Nat), Vals xs us → Vals (xs.eraseIdx i) (us.eraseIdx i)
  | _, _, _, .nil => .nil
  | _, _, 0, .cons _ t => t
  | _, _, i + 1, .cons r t => .cons r (Vals.eraseIdx i t)
theorem Vals.reverse {xs : List V} {us : List Value} (h : Vals xs us) : Vals xs.reverse us.reverse := by
  induction h with
  | nil => exact .nil
  | cons r t ih => rw [List.reverse_cons, List.reverse_cons]; exact Vals.append ih (.cons r .nil)
section
variable {X : Cx} {pins : List (Addr × Obj)} {σ : St} {H : Hp} {s : Shared} {l b : Addr} {xs ys zs : List V}

/-! ### the two steps: a tracked list is rewritten, a new list is laid -/
theorem Inv.lset {its its' : List Value} {n : Nat} {f : Array Value → Array Value} {t' : Nat} (I : Inv X pins σ H s) (hH : H l = some (.lst xs))
    (e : s.heap.get? l = some { cls := .type "list", data := .seq its.toArray n }) (hf : f its.toArray = its'.toArray) (hv : Vals ys its') (hz : ys.length ≤ sizeLine) :
    Inv X pins σ (upd H l (.lst ys)) { s with heap := s.heap.update l (Obj.mapSeq f), toks := t' } := by
  have q := PySem.IsL.update e f
  rw [hf] at q
  refine I.write (x := l) (e := l) (by rw [hH]; exact trivial) (.inl rfl) (fun b' u hb hu => (Heap.get?_update_other s.heap (Obj.mapSeq f) (Ne.symm hb)).trans hu) ⟨_, q⟩ ?_
  exact ⟨hz, its', _, hv, q⟩
theorem Inv.lnew {its : List Value} {t' : Nat} (I : Inv X pins σ H s) (hv : Vals ys its) (hz : ys.length ≤ sizeLine) :
    Inv X pins σ (upd H s.heap.objs.size (.lst ys)) { s with heap := s.heap.push { cls := .type "list", data := .seq its.toArray }, toks := t' } :=
  I.laid (fun _ _ q => Heap.get?_push_of_some _ q) (Nat.le_refl _) ⟨hz, its, 0, hv, Heap.get?_push_size _ rfl⟩
theorem Inv.fresh (I : Inv X pins σ H s) : H s.heap.objs.size = none := I.hok.fresh (Nat.le_refl _)
theorem Inv.lstM (I : Inv X pins σ H s) (hH : H l = some (.lst xs)) : xs.length ≤ sizeLine ∧ ∃ (its : List Value) (n : Nat), Vals xs its ∧ xs.length = its.length ∧ s.heap.get? l = some { cls := .type "list", data := .seq its.toArray n } := by
  obtain ⟨z, its, n, r, e⟩ := I.hok l _ hH
  exact ⟨z, its, n, r, r.length, e⟩

end

section
variable {X : Cx}

/-! ### methods -/
def rAppend : V → List V → Hp → VK → Prop := fun x vs H Q => ∃ l xs y, x = .ref l ∧ vs = [y] ∧ H l = some (.lst xs) ∧ xs.length < sizeLine ∧ Q .non (upd H l (.lst (xs ++ [y])))
theorem mt_append : MtM X "list.append" rAppend := by
  intro pins s σ H x vs v us Q I rx rv h
  obtain ⟨l, xs, y, rfl, rfl, hH, hz, q⟩ := h
  cases rx
  obtain ⟨u, rfl, ru⟩ := rv.one
  obtain ⟨z, its, n, r, hl, e⟩ := I.lstM hH
  refine call_meets F.slot_list_append ⟨_, e, rfl⟩ F.entry_list_append (F.args_list_append_2 _ _) (PySem.list_append l its.toArray n u (by rw [List.size_toArray]; omega)) ⟨e, ?_⟩
  refine ⟨.non, _, I.lset (its' := its ++ [u]) hH e (by simp) (r.append (.cons ru .nil)) ?_, rfl, q⟩
  rw [List.length_append, List.length_singleton]
  omega

def rExtend : V → List V → Hp → VK → Prop := fun x vs H Q => ∃ l b xs zs, x = .ref l ∧ vs = [.ref b] ∧ H l = some (.lst xs) ∧ H b = some (.lst zs) ∧ xs.length + zs.length ≤ sizeLine ∧ Q .non (upd H l (.lst (xs ++ zs)))
def rPop : V → List V → Hp → VK → Prop := fun x vs H Q => ∃ l xs y, x = .ref l ∧ vs = [] ∧ H l = some (.lst xs) ∧ xs[xs.length - 1]? = some y ∧ Q y (upd H l (.lst xs.dropLast))
def rPopAt : V → List V → Hp → VK → Prop := fun x vs H Q => ∃ l xs i k y, x = .ref l ∧ vs = [.int i] ∧ H l = some (.lst xs) ∧ -(2 ^ 63) ≤ i ∧ i < 2 ^ 63 ∧ seqIndex? i xs.length = some k ∧ xs[k]? = some y ∧ Q y (upd H l (.lst (xs.eraseIdx k)))
def rReverse : V → List V → Hp → VK → Prop := fun x vs H Q => ∃ l xs, x = .ref l ∧ vs = [] ∧ H l = some (.lst xs) ∧ Q .non (upd H l (.lst xs.reverse))
def rClear : V → List V → Hp → VK → Prop := fun x vs H Q => ∃ l xs, x = .ref l ∧ vs = [] ∧ H l = some (.lst xs) ∧ Q .non (upd H l (.lst []))
/-! ### list + list, list += list, list * int -/
def rCat : R2 := fun x y H Q => ∃ l b xs zs, x = .ref l ∧ y = .ref b ∧ H l = some (.lst xs) ∧ H b = some (.lst zs) ∧ xs.length + zs.length ≤ sizeLine ∧ ∀ p, H p = none → Q (.ref p) (upd H p (.lst (xs ++ zs)))
theorem op_cat : OpR X (binaryOp .Add) rCat := by
  intro pins s σ H x y v u Q I rx ry h
  obtain ⟨l, b, xs, zs, rfl, rfl, hH, hB, hz, q⟩ := h
  cases rx
  cases ry
  obtain ⟨z, its, n, r, hl, e⟩ := I.lstM hH
  obtain ⟨z2, its2, n2, r2, hl2, e2⟩ := I.lstM hB
  refine PySem.P.add_list e e2 ?_ (by rw [List.size_toArray, List.size_toArray]; omega)
  have ea : its.toArray ++ its2.toArray = (its ++ its2).toArray := by simp
  rw [ea]
  exact ⟨.ref _, _, I.lnew (t' := s.toks) (r.append r2) (by rw [List.length_append]; omega), rfl, q _ I.fresh⟩
/-- a list times an int (a negative one is nothing) -/
def rRep : R2 := fun x y H Q => ∃ l k xs, x = .ref l ∧ y = .int k ∧ H l = some (.lst xs) ∧ -(2 ^ 63) ≤ k ∧ k < 2 ^ 63 ∧ xs.length * k.toNat ≤ sizeLine ∧
  ∀ p, H p = none → Q (.ref p) (upd H p (.lst (List.replicate k.toNat xs).flatten))
/-! ### del xs[i] -/
end

/-! ### xs[a:b] = ys -/
section
variable {prog : Program} {w : World} {A : Around} {E : Value → Shared → Prop} {s : Shared}
end

section
variable {X : Cx}
end
end L2

namespace Att
open PySem PySem.W PySem.Calls PyProof.Rows

/-! ### the script -/
theorem ints_of_wellAll {P : Params} {h : Heap} : ∀ (ns : List Int) (vs : List Value), WellAll P h vs (ns.map WData.int) → IntsAre vs ns := by
  intro ns
  induction ns with
  | nil =>
    intro vs w
    rw [List.map_nil] at w
    cases w
    exact .nil
  | cons n ns ih =>
    intro vs w
    rw [List.map_cons] at w
    cases w with
    | cons a b =>
      cases a
      exact .cons _ _ (ih _ b)

theorem script_of {l : OpenLaw} {n : Nat} (hn : l.most = some n) {P : Params} {h : Heap} {args : List WData} {vals : List Value}
    (hpre : l.row.toRowW.claim.pre args = true) (hwl : WellAll P h vals args) :
    ∃ a vs ns, vals = [Value.ref a] ∧ args = [WData.list (ns.map WData.int)] ∧ h.get? a = some { cls := .type "list", data := .seq vs.toArray } ∧ IntsAre vs ns ∧ ns.length ≤ n := by
  have hsh : WShape.hasAll [] args [.list .int] = true := (pre_splitW hpre).1
  have hc : l.pre.holds [] { args := args } = true := (pre_splitW hpre).2
  obtain ⟨d, r, rfl, h1, h2⟩ := hasAllW_cons hsh
  obtain rfl := hasAllW_nil h2
  obtain ⟨xs, rfl, h3⟩ := hasW_list h1
  obtain ⟨ns, rfl⟩ := items_int h3
  have hlen : ns.length ≤ n := by
    unfold OpenLaw.pre at hc
    have h4 : (WTm.not (.lt (.lit (.int (n : Int))) (.len (.arg 0)))).holds [] { args := [.list (ns.map .int)] } = true := by
      have h4 := (holds_andW hc).1
      rw [hn] at h4
      exact h4
    have h5 := condW_of h4 (w_not (w_lt w_lit (w_len_list (w_arg rfl))))
    rw [List.length_map] at h5
    refine Nat.le_of_not_lt fun q => ?_
    have q' : (n : Int) < ((ns.length : Nat) : Int) := by omega
    first
      | (rw [decide_eq_true q'] at h5; exact absurd h5 (by decide))
      | (simp at h5; omega)
  cases hwl with
  | cons w1 w2 =>
    cases w2
    cases w1 with
    | list ho hall => exact ⟨_, _, ns, rfl, rfl, ho, ints_of_wellAll ns _ hall, hlen⟩

theorem post_true (l : OpenLaw) (args : List WData) : l.row.toRowW.claim.post args (.bool true) args = true :=
  postW_of (r := l.row.toRowW) (X := (true == true))
    (show WShape.has [] (.bool true) .bool = true by first | rfl | decide | simp [WShape.has, WShape.arms, WShape.armsAll])
    (show (WTm.eq .res (.lit (.bool true))).value [] { args := args, res := some (.bool true), after := args } = some (.bool (true == true)) from w_eq_bool (w_res rfl) w_lit) rfl

/-! ### the attachment: holds_open's last premise (the goal 'hc' behind k_head) from a wpAny of the law's body -/
/-- the same from a codeAny of the CALL (for a layer whose function contracts speak of calls) -/
theorem attach_call {l : OpenLaw} {n : Nat} {q : Program} {loose : List Str} {XP : (Str → Option Value) → Heap → Prop} {YP : World → Heap → Prop} {d : DefRec}
    (hn : l.most = some n) (hdf : d.params.defaults = [])
    (call : ∀ (w : World) (s₀ s₁ : Shared) (mg mb : Str → Option Value) (fa : Addr) (o : Obj) (pm cd doc : Value) (a : Addr) (vs : List Value) (ns : List Int),
      Ground q loose [] XP w s₀ mg mb s₁.heap → YP w s₁.heap →
      s₁.heap.get? fa = some o → o.data = .func (docDef d.name d.params d.body d.scope pm cd doc) → s₁.heap.CodeRec cd d.name → mg d.name = some (.ref fa) →
      s₁.heap.get? a = some { cls := .type "list", data := .seq vs.toArray } → IntsAre vs ns → ns.length ≤ n → s₁.gens = #[] →
      codeAny (model l.prog w) callerA (.call (.ref fa) ⟨[.ref a], []⟩) (fun r s' => r = .ok (.ret (.bool true)) ∧ OldK s₁.heap s'.heap ∧ s'.os = s₁.os ∧ AllBare s'.gens) s₁) :
    WalkO q loose XP YP l.row.toRowW d [] (fun f vs => PySem.call f vs) := by
  intro w s₀ s₁ mg mb G Y fa o pm cd doc dV kV ho hd hcd hD hmg hg args vals as hpre hlay hrd hwl hlo
  obtain rfl : dV = .none := Dflts.none hD hdf
  obtain rfl : kV = .none := Dflts.noKw hD
  obtain ⟨a, vs, ns, rfl, rfl, hobj, hints, hlen⟩ := script_of hn hpre hwl
  refine enter_call (codeAny_mono (call w s₀ s₁ mg mb fa o pm cd doc a vs ns G Y ho (fd_plain hd) hcd hmg hobj hints hlen hg) fun r s' hq => ?_)
  obtain ⟨rfl, h2, h3, h4⟩ := hq
  exact ⟨.inl ⟨.bool true, .bool true, [], rfl, fun _ => rfl, .bool true, post_true l _, fun _ => ⟨List.Pairwise.nil, fun _ hm => (nomatch hm)⟩⟩, h2, h3, h4⟩

/-! ### rules over ANY heap (no ledger) from facts about the written part K: the library's own take a ledger (News) for what they write -/
section
variable {prog : Program} {w : World} {A : Around} {E : Value → Shared → Prop} {s : Shared} {K : Frag}

/-! the whole heap as the ledger: makes every rule that writes through a ledger a rule over any heap -/
def noObjs (h : Heap) : Heap := { h with objs := #[] }
def ledger (h : Heap) (L d : Addr) : List (Addr × Obj) := (List.range h.objs.size).filterMap fun a => if a = L ∨ a = d then none else (h.get? a).map fun o => (a, o)
end
end Att

namespace L2
open PySem PySem.Spec PyProof.Rows

theorem vals_ints : ∀ {vs : List Value} {ns : List Int}, IntsAre vs ns → Vals (ns.map V.int) vs
  | _, _, .nil => .nil
  | _, _, .cons n t h => .cons ⟨t, rfl⟩ (vals_ints h)

/-- nothing is tracked but the script, known to the object (or it is an object of the module) -/
def Only (H : Hp) : Prop := ∀ b, H b = none ∨ ∃ o xs, H b = some (.frz o (.lst xs))

/-- THE HEAD: the law's promise, at the heap behind the top. F, the promise of the law's def, may use that base is part of the heap (so K.In base, base.Ns mainGlobals mg stand in Mod) -/
theorem law_call {P : Program} {w : World} {K : PySem.W.Frag} {mg mb : Str → Option Value} {CX : CXT} {k : Nat} {fa a : Addr} {fd : FuncData} {x : Str} {sp : Sp} {s₁ : Shared} {vs : List Value} {ns : List Int}
    (KX : K.In s₁.heap) (hns : s₁.heap.Ns mainGlobals mg) (hb : s₁.heap.Ns builtinsNs mb) (hbb : ∀ x : Str, x ≠ "__name__" → mb x = bootBuiltins x) (hlim : s₁.heap.NoLimit) (hg : s₁.gens = #[])
    (ha : s₁.heap.get? a = some { cls := .type "list", data := .seq vs.toArray }) (hi : IntsAre vs ns) (hl : ns.length ≤ sizeLine) (hr : Room k callerA)
    (F : ∀ base : Heap, K.In base → base.Ns mainGlobals mg → FnOk P w K mg base CX k fa fd [x] sp) (hbind : ∀ (s : Shared) (u : Value), BindsTo s fd ⟨[u], []⟩ [(x, u)])
    (hsp : ∀ H : Hp, Only H → SqL K H a (ns.map V.int) → sp [.ref a] H (fun v _ => v = .bl true) fun _ _ _ => False)
    (hCX : ∀ H e s', CX [] H s₁ (fun _ _ _ => False) e s' → False) :
    codeAny (model P w) callerA (.call (.ref fa) ⟨[.ref a], []⟩) (fun r s' => r = .ok (.ret (.bool true)) ∧ OldK s₁.heap s'.heap ∧ s'.os = s₁.os ∧ AllBare s'.gens) s₁ := by
  have rv := vals_ints hi
  have lenV := hi.length
  -- from an abstract heap in which nothing but the script may be tracked
  have core : ∀ H : Hp, Only H → SqL K H a (ns.map V.int) → HOk P w H s₁.heap → (∀ b, H b ≠ none → b = a) → (H a ≠ none → K.lookup a = none) →
      codeAny (model P w) callerA (.call (.ref fa) ⟨[.ref a], []⟩) (fun r s' => r = .ok (.ret (.bool true)) ∧ OldK s₁.heap s'.heap ∧ s'.os = s₁.os ∧ AllBare s'.gens) s₁ := by
    intro H hO hS hok hA hK
    have base_of : ∀ {b : Addr} {o : Obj}, s₁.heap.get? b = some o → H b = none → (hidT s₁.heap H).get? b = some o := fun e n => hidT_get e n
    have noA : ∀ {b : Addr} {o : Obj} {es : Array DictEntry} {ep : Nat}, s₁.heap.get? b = some o → o.data = .dict es ep → H b = none := fun {b o es ep} e d => by
      cases q : H b with
      | none => rfl
      | some u =>
        have e' : b = a := hA b (by rw [q]; simp)
        subst e'
        rw [ha] at e; cases e
        have d' : Data.seq vs.toArray _ = Data.dict es ep := d
        cases d'
    have nsK : ∀ {b : Addr} {m : Str → Option Value}, s₁.heap.Ns b m → (hidT s₁.heap H).Ns b m := fun {b m} ⟨o, es, ep, e, d, r⟩ => ⟨o, es, ep, base_of e (noA e d), d, r⟩
    have hKb : K.In (hidT s₁.heap H) := fun b o e => base_of (KX b o e) (by
      cases q : H b with
      | none => rfl
      | some u =>
        have e' : b = a := hA b (by rw [q]; simp)
        subst e'
        rw [hK (by rw [q]; simp)] at e; cases e)
    have hM : Mod K mg (hidT s₁.heap H) := ⟨hKb, nsK hns, ⟨mb, nsK hb, hbb⟩, let ⟨mc, h1, h2⟩ := hlim; ⟨mc, nsK h1, h2⟩⟩
    have e0 : Env0 P w K mg (hidT s₁.heap H) callerA [] s₁ H := ⟨rfl, hM, fun b o e => of_hidT e, Nat.le_of_eq (hidT_size _ _), trivial, fun b hb => absurd (show b ∈ ([] : List Addr) from hb) (by simp), hok, .of_eq hg⟩
    refine codeAny_mono ((F _ hKb (nsK hns)).run callerA [] s₁ H ⟨[.ref a], []⟩ [.ref a] [.ref a] _ _ hr e0 (hbind s₁ (.ref a)) (.cons rfl .nil) (hsp H hO hS)) fun r s' h => ?_
    cases r with
    | error e => exact (hCX H e s' h).elim
    | ok fl =>
      cases fl with
      | next => exact False.elim h
      | brk => exact False.elim h
      | cont => exact False.elim h
      | ret u =>
        obtain ⟨v, H', os, bare, un, hok', r', q⟩ := h
        have q' : v = .bl true := q
        subst q'
        obtain rfl : u = Value.bool true := r'
        refine ⟨rfl, OldK.of_keep fun b o e => ?_, os, bare.bare⟩
        cases q : H b with
        | none => exact un.keep b o e q (by intro z; exact absurd (show b ∈ ([] : List Addr) from z) (by simp)) (by simp)
        | some u =>
          rcases hO b with z | ⟨ob, xs, z⟩
          · rw [q] at z; cases z
          · have z2 := un.frzs b ob _ z
            obtain ⟨e1, _⟩ := hok b _ z
            obtain ⟨e2, _⟩ := hok' b _ z2
            rw [e] at e1; cases e1
            exact e2
  cases hk : K.lookup a with
  | some o =>
    -- the script is one of the module's own objects
    have e := KX a o hk
    rw [ha] at e
    cases e
    refine core (fun _ => none) (fun _ => .inl rfl) (.inr ⟨_, vs.toArray, _, hk, rfl, rfl, rfl, by rw [List.size_toArray, lenV]; exact hl, by simpa using rv⟩) (fun b u z => by have z' : (none : Option HO) = some u := z; cases z') (fun b z => absurd rfl z) fun z => absurd rfl z
  | none =>
    refine core (fun b => if b = a then some (.frz { cls := .type "list", data := .seq vs.toArray } (.lst (ns.map V.int))) else none) (fun b => ?_) (.inl (.inr ⟨{ cls := .type "list", data := .seq vs.toArray }, if_pos rfl⟩)) (fun b u z => ?_) (fun b z => ?_) fun _ => hk
    · by_cases hb : b = a
      · exact .inr ⟨_, _, if_pos hb⟩
      · exact .inl (if_neg hb)
    · by_cases hb : b = a
      · have z' := (if_pos hb).symm.trans z
        cases z'
        subst hb
        exact ⟨ha, by rw [List.length_map]; exact hl, vs, _, rv, ha⟩
      · have z' := (if_neg hb).symm.trans z
        cases z'
    · by_cases hb : b = a
      · exact hb
      · exact absurd (if_neg hb) z
end L2

namespace L2
open PySem PySem.Spec PyProof.Rows

abbrev KOf {K : PySem.W.Frag} {h : Heap} (_ : K.In h) : PySem.W.Frag := K

/-- the goal that k_head leaves (case hc), from the law's promise. F gives the function object fd (K's own) once, then the promise over every base -/
theorem walk_of {l : PySem.W.OpenLaw} {n k : Nat} {q : Program} {loose : List Str} {XP : (Str → Option Value) → Heap → Prop} {YP : World → Heap → Prop} {d : DefRec} {K : Params → PySem.W.Frag} {CX : World → CXT} {sp : World → Sp} {x : Str}
    (hn : l.most = some n) (hn2 : n ≤ sizeLine) (hdf : d.params.defaults = []) (hr : Room k callerA)
    (hY : ∀ (w : World) (h : Heap), YP w h → (K w.params).In h)
    (F : ∀ (w : World) (mg : Str → Option Value) (fa : Addr) (h : Heap), (K w.params).In h → h.Ns mainGlobals mg → mg d.name = some (.ref fa) →
      ∃ fd : FuncData, (∀ (s : Shared) (u : Value), BindsTo s fd ⟨[u], []⟩ [(x, u)]) ∧
        ∀ base : Heap, (K w.params).In base → base.Ns mainGlobals mg → FnOk l.prog w (K w.params) mg base (CX w) k fa fd [x] (sp w))
    (hsp : ∀ (w : World) (H : Hp) (a : Addr) (ns : List Int), ns.length ≤ n → Only H → SqL (K w.params) H a (ns.map V.int) → sp w [.ref a] H (fun v _ => v = .bl true) fun _ _ _ => False)
    (hCX : ∀ (w : World) (H : Hp) (s : Shared) (e : Value) (s' : Shared), CX w [] H s (fun _ _ _ => False) e s' → False) :
    PySem.W.WalkO q loose XP YP l.row.toRowW d [] (fun f vs => PySem.call f vs) := by
  refine Att.attach_call hn hdf fun w s₀ s₁ mg mb fa o pm cd doc a vs ns G Y ho hd hcd hmg hobj hints hlen hg => ?_
  have KX := hY w _ Y
  obtain ⟨fd, hb, hF⟩ := F w mg fa _ KX G.T.g hmg
  exact law_call KX G.T.g G.T.b G.T.builtins G.T.nolimit hg hobj hints (Nat.le_trans hlen hn2) hr hF hb (fun H hO hS => hsp w H a ns hlen hO hS) fun H e s' => hCX w H s₁ e s'
end L2

/- THE LAST THEOREM (shape; LID, My.* are yours):
   My.Adr: a structure of the addresses that your layer names (classes, functions); My.Txt K t: a structure (Prop) of the equations over K;
   My.txt_mk : {K} {implicit addresses ..} (e1 : nsIn K mainGlobals "law" = some (some (.ref f))) (e2 : K.lookup f = some ⟨oc, od, .func (fnOf "law" "law" params body scope dV kV doc pm an cdv ct), sl⟩) (e3 : codeIn K cdv "law" = true) .. : ∃ t, My.Txt K t

set_option maxRecDepth 100000 in
set_option maxHeartbeats 0 in
theorem PySem.Challenge.cw_LID_holds : PySem.Challenge.rw_LID.Holds := by
  w_on; o_law; k_head; (case hw => w_witness2)
  k_fill
  refine L2.walk_of (l := PySem.Challenge.rw_LID) (n := 63) (k := 40) (x := "script") (CX := fun w => ..) (sp := fun _ => My.sp_law) rfl (by decide) rfl ⟨rfl, by decide, by decide⟩ (fun w h Y => PySem.W.kIn_of Y) ?F ?S ?C
  case F =>
    intro w mg fa h KX G hmg
    have T : ∃ t, My.Txt (L2.KOf KX) t := by
      dsimp only [L2.KOf]                          -- K must stand as «<heap const> w.params» for k_is
      refine' My.txt_mk ?e1 ?e2 ?e3 ..
      (case e1 => PySem.W.k_is)                    -- in the order: a name -> its address -> its object -> its parts
      (case e2 => PySem.W.k_is)
      ..
    obtain ⟨t, T⟩ := T
    have e0 := hmg.symm.trans (PySem.W.mg_of KX G T.law)
    cases e0                                       -- fa is the law's own address
    exact ⟨_, fun s u => .of_eq rfl, fun base kb nb => My.law_fn T kb nb⟩     -- if «.of_eq rfl» comes too early: refine' ⟨_, ?b, fun base kb nb => My.law_fn T kb nb⟩; exact fun s u => .of_eq rfl
  case S => exact fun w H a ns hl hO hS => ..
  case C => exact ..
(the tactic k_is has no namespace: write k_is) -/

/-! SHORT WORDS over the layer: a def of the text, its body, what a loop and a test want. -/
namespace L2
open PySem PySem.Spec PyProof.Rows

/-! ### the text by places -/
/-- the j-th statement of a class's body -/
def inClass (s : Stmt) (j : Nat) : Stmt := match s with
  | .ClassDef _ _ _ body _ _ _ _ _ _ _ => body.getD j (.Pass ⟨0, 0, 0, 0⟩)
  | _ => .Pass ⟨0, 0, 0, 0⟩
def defArgs (s : Stmt) : Arguments := match s with
  | .FunctionDef _ a _ _ _ _ _ _ _ _ => a
  | _ => { posonlyargs := [], args := [], vararg := none, kwonlyargs := [], kw_defaults := [], kwarg := none, defaults := [] }
def defBody (s : Stmt) : List Stmt := match s with
  | .FunctionDef _ _ b _ _ _ _ _ _ _ => b
  | _ => []
def defScope (s : Stmt) : Scope := match s with
  | .FunctionDef _ _ _ _ _ _ sc _ _ _ => sc
  | _ => { kind := .function, names := [], isGenerator := false, isCoroutine := false }

/-! ### no exception leaves a def -/
abbrev CX0 : CXT := fun _ _ _ _ _ _ => False
abbrev E0 : XK := fun _ _ _ => False
theorem pass0 {X : Cx} : Passes CX0 X E0 := fun _ _ _ _ _ _ _ h => h.elim

/-! ### a def (or method) of the text as it stands behind the top -/
structure Fun (K : PySem.W.Frag) (x qual : Str) (st : Stmt) (f : Addr) (fd : FuncData) : Prop where
  ex : ∃ (oc : Value) (od : Option Addr) (kV doc pm : Value) (an : Option Addr) (cdv ct : Value) (osl : Array (Option Value)),
    fd = PySem.W.fnOf x qual (defArgs st) (defBody st) (defScope st) .none kV doc pm an cdv ct ∧ K.lookup f = some ⟨oc, od, .func fd, osl⟩ ∧ PySem.W.codeIn K cdv qual = true
  kp : PySem.W.keepIn K (.ref f) = true
section
variable {P : Program} {w : World} {K : PySem.W.Frag} {mg : Str → Option Value} {base : Heap}
/-- THE RULE for a def: its body as a term of rules, and the reading of that term -/
theorem Fun.ok {x qual : Str} {st : Stmt} {f : Addr} {fd : FuncData} {N ps : List Str} {k : Nat} {sp : Sp} (F : Fun K x qual st f fd) (S : FnScope N ps (defScope st)) (len : ∀ vs H Q E, sp vs H Q E → vs.length = ps.length)
    (hbody : ∀ (cdv : Value) (A : Around) (outer : List Env) (s : Shared) (H : Hp) (vs : List V) (Q : VK) (E : XK), Room k (A.deeper (envOfC qual (defScope st) s.heap.objs.size f cdv)) → sp vs H Q E →
      ∃ t, PSs (cxOf CX0 P w K mg base N qual (defScope st) f cdv A outer s H E).nox (defBody st) t ∧ t { nx := fun _ H' => Q .non H', rt := Q } (start N vs) H) : FnOk P w K mg base CX0 (k + 1) f fd ps sp := by
  obtain ⟨oc, od, kV, doc, pm, an, cdv, ct, osl, rfl, lk, hcd⟩ := F.ex
  refine fn_of lk hcd S len fun A outer s H vs Q E hr hsp => ?_
  obtain ⟨t, h, q⟩ := hbody cdv A outer s H vs Q E hr hsp
  exact ⟨t, h.nox, q⟩
/-- how its arguments bind (no defaults): h is «fun _ _ _ _ _ _ us hl => match us, hl with | [_, _], _ => rfl», one _ a parameter -/
theorem Fun.binds {x qual : Str} {st : Stmt} {f : Addr} {fd : FuncData} {ps : List Str} (F : Fun K x qual st f fd)
    (h : ∀ (kV doc pm : Value) (an : Option Addr) (cdv ct : Value) (us : List Value), us.length = ps.length → bindArgs (PySem.W.fnOf x qual (defArgs st) (defBody st) (defScope st) .none kV doc pm an cdv ct) ⟨us, []⟩ = pure (ps.zip us)) : Binds K fd ps [] := by
  obtain ⟨oc, od, kV, doc, pm, an, cdv, ct, osl, rfl, lk, hcd⟩ := F.ex
  exact .all (h kV doc pm an cdv ct)
theorem fun_mk {x qual : Str} {st : Stmt} {f : Addr} {oc : Value} {od an : Option Addr} {osl : Array (Option Value)} {kV doc pm cdv ct : Value} (l : K.lookup f = some ⟨oc, od, .func (PySem.W.fnOf x qual (defArgs st) (defBody st) (defScope st) .none kV doc pm an cdv ct), osl⟩)
    (c : PySem.W.codeIn K cdv qual = true) (k : PySem.W.keepIn K (.ref f) = true) : Fun K x qual st f (PySem.W.fnOf x qual (defArgs st) (defBody st) (defScope st) .none kV doc pm an cdv ct) := ⟨⟨oc, od, kV, doc, pm, an, cdv, ct, osl, rfl, l, c⟩, k⟩
end
theorem small1000 {n : Nat} (h : n ≤ 1000) : n < sizeLine := Nat.lt_of_le_of_lt h (by decide)

/-! ### expressions in short: the name that stands in the i-th slot -/
section
variable {X : Cx}
theorem pv (i : Nat) {x : Str} {pos : Pos} (hN : X.N[i]? = some x := by rfl) (hv : Vis X.env.scope x := by first | exact Or.inl rfl | exact Or.inr (Or.inl rfl) | exact Or.inr (Or.inr rfl)) (hd : (x == ("__debug__" : Str)) = false := by decide)
    (hcd : (x == ("__classdict__" : Str)) = false := by decide) : PE X (.Name x pos) (tVar i) := pe_var hN hv hd hcd
end

/-! ### tests -/
theorem iteF {A B : Prop} (h : B) : if false = true then A else B := by
  rw [if_neg Bool.false_ne_true]
  exact h
theorem iteT {A B : Prop} (h : A) : if true = true then A else B := by
  rw [if_pos rfl]
  exact h
theorem ite2 {c A B : Prop} [Decidable c] (h1 : c → A) (h2 : ¬ c → B) : if c then A else B := by
  by_cases h : c
  · rw [if_pos h]
    exact h1 h
  · rw [if_neg h]
    exact h2 h
theorem iteNS {c A B : Prop} [Decidable c] (hc : c) (h : B) : if (!decide c) = true then A else B := by
  rw [decide_eq_true hc]
  exact iteF h

/-! ### heaps -/
/-- all that was tracked is as it was -/
def Same (H H' : Hp) : Prop := ∀ b o, H b = some o → H' b = some o
theorem Same.refl (H : Hp) : Same H H := fun _ _ h => h
theorem Same.trans {H H1 H2 : Hp} (a : Same H H1) (b : Same H1 H2) : Same H H2 := fun c o h => b c o (a c o h)
theorem Same.free {H H' : Hp} (e : Same H H') {l : Addr} (h : H' l = Option.none) : H l = Option.none := by
  cases q : H l with
  | none => rfl
  | some o =>
    rw [e l o q] at h
    cases h
theorem Same.seq {K : PySem.W.Frag} {H H' : Hp} {a : Addr} {xs : List V} (e : Same H H') (h : SqL K H a xs) : SqL K H' a xs := by
  rcases h with (h | ⟨o, h⟩) | h
  · exact .inl (.inl (e _ _ h))
  · exact .inl (.inr ⟨o, e _ _ h⟩)
  · exact .inr h

end L2

namespace L2
open PySem PySem.Spec PyProof.Rows

/-! ### blocks: closures and cells -/
def closOf (env : Env) : List (Str × NameKind) → List (Str × Addr) → List (Str × Addr)
  | [], acc => acc
  | (n, k) :: r, acc => if k == .free then closOf env r ((n, (env.cells.lookup n).getD 0) :: acc) else closOf env r acc

theorem forIn_clos {env : Env} (f : Str × NameKind → List (Str × Addr) → Sem (ForInStep (List (Str × Addr))))
    (hf : ∀ n k cs, f (n, k) cs = if k == NameKind.free then (do let a ← cellOf env n; pure (.yield ((n, a) :: cs))) else pure (.yield cs)) :
    ∀ (ns : List (Str × NameKind)) (acc : List (Str × Addr)), (∀ y ∈ ns, y.2 = .free → (env.cells.lookup y.1).isSome = true) → forIn ns acc f = pure (closOf env ns acc)
  | [], acc, _ => by rw [List.forIn_nil]; rfl
  | (n, k) :: r, acc, h => by
    rw [List.forIn_cons, hf]
    have hr : ∀ y ∈ r, y.2 = .free → (env.cells.lookup y.1).isSome = true := fun y hy => h y (List.mem_cons_of_mem _ hy)
    unfold closOf
    by_cases hk : (k == NameKind.free) = true
    · rw [if_pos hk, if_pos hk]
      obtain ⟨c, hc⟩ := Option.isSome_iff_exists.mp (h (n, k) List.mem_cons_self (beq_iff_eq.mp hk))
      have hc' : env.cells.lookup n = some c := hc
      have e : cellOf env n = pure c := by unfold cellOf; rw [hc']
      rw [e, pure_bind, pure_bind, hc']
      exact forIn_clos f hf r _ hr
    · rw [if_neg hk, if_neg hk, pure_bind]
      exact forIn_clos f hf r _ hr

theorem closureFor_eq {env : Env} {scope : Scope} (h : ∀ y ∈ scope.names, y.2 = .free → (env.cells.lookup y.1).isSome = true) : closureFor scope env = pure (closOf env scope.names []) := by
  simp only [closureFor]
  rw [forIn_clos (env := env) _ (fun n k cs => by cases hk : k == NameKind.free <;> simp [hk]) _ _ h]
  rfl

theorem closOf_mem {env : Env} {y : Str} {c : Addr} : ∀ {ns : List (Str × NameKind)} {acc : List (Str × Addr)}, (y, c) ∈ closOf env ns acc → (y, c) ∈ acc ∨ ((y, NameKind.free) ∈ ns ∧ c = (env.cells.lookup y).getD 0)
  | [], acc, h => .inl h
  | (n, k) :: r, acc, h => by
    unfold closOf at h
    split at h
    · rename_i hk
      rcases closOf_mem h with h | ⟨h, e⟩
      · rcases List.mem_cons.mp h with e | h
        · cases e
          exact .inr ⟨by rw [beq_iff_eq.mp hk]; exact List.mem_cons_self, rfl⟩
        · exact .inl h
      · exact .inr ⟨List.mem_cons_of_mem _ h, e⟩
    · rcases closOf_mem h with h | ⟨h, e⟩
      · exact .inl h
      · exact .inr ⟨List.mem_cons_of_mem _ h, e⟩

theorem closOf_lookup {env : Env} {y : Str} : ∀ {ns : List (Str × NameKind)} {acc : List (Str × Addr)}, acc.lookup y = some ((env.cells.lookup y).getD 0) ∨ (y, NameKind.free) ∈ ns → (closOf env ns acc).lookup y = some ((env.cells.lookup y).getD 0)
  | [], acc, h => by
    rcases h with h | h
    · exact h
    · cases h
  | (n, k) :: r, acc, h => by
    unfold closOf
    split
    · rename_i hk
      refine closOf_lookup ?_
      by_cases hy : y = n
      · subst hy
        exact .inl (by simp [List.lookup])
      · have hb : (y == n) = false := by simpa using hy
        rcases h with h | h
        · exact .inl (by rw [List.lookup_cons, hb]; exact h)
        · rcases List.mem_cons.mp h with e | h
          · cases e; exact absurd rfl hy
          · exact .inr h
    · rename_i hk
      refine closOf_lookup ?_
      rcases h with h | h
      · exact .inl h
      · rcases List.mem_cons.mp h with e | h
        · cases e; exact absurd rfl hk
        · exact .inr h

theorem cellsFrom_lookup_old {y : Str} : ∀ {ns : List (Str × NameKind)} {n : Nat} {acc : List (Str × Addr)}, (y, NameKind.cell) ∉ ns → (cellsFrom n ns acc).lookup y = acc.lookup y
  | [], _, _, _ => rfl
  | (z, k) :: r, n, acc, h => by
    unfold cellsFrom
    have hr : (y, NameKind.cell) ∉ r := fun q => h (List.mem_cons_of_mem _ q)
    split
    · rename_i hk
      rw [cellsFrom_lookup_old hr]
      have hy : (y == z) = false := by
        cases e : y == z with
        | false => rfl
        | true => exact absurd (by rw [beq_iff_eq.mp e, beq_iff_eq.mp hk]; exact List.mem_cons_self) h
      rw [List.lookup_cons, hy]
    · exact cellsFrom_lookup_old hr

theorem cellsFrom_mem {y : Str} {c : Addr} : ∀ {ns : List (Str × NameKind)} {n : Nat} {acc : List (Str × Addr)}, (y, c) ∈ cellsFrom n ns acc → (y, c) ∈ acc ∨ (n ≤ c ∧ (y, NameKind.cell) ∈ ns)
  | [], _, _, h => .inl h
  | (z, k) :: r, n, acc, h => by
    unfold cellsFrom at h
    split at h
    · rename_i hk
      rcases cellsFrom_mem h with h | ⟨h, e⟩
      · rcases List.mem_cons.mp h with e | h
        · cases e
          exact .inr ⟨Nat.le_refl _, by rw [beq_iff_eq.mp hk]; exact List.mem_cons_self⟩
        · exact .inl h
      · exact .inr ⟨by omega, List.mem_cons_of_mem _ e⟩
    · rcases cellsFrom_mem h with h | ⟨h, e⟩
      · exact .inl h
      · exact .inr ⟨h, List.mem_cons_of_mem _ e⟩

theorem cellsFrom_inj : ∀ {ns : List (Str × NameKind)} {n : Nat} {acc : List (Str × Addr)}, (∀ x y c, (x, c) ∈ acc → (y, c) ∈ acc → x = y) → (∀ y c, (y, c) ∈ acc → c < n) →
    ∀ x y c, (x, c) ∈ cellsFrom n ns acc → (y, c) ∈ cellsFrom n ns acc → x = y
  | [], _, _, h, _ => h
  | (z, k) :: r, n, acc, h, hl => by
    unfold cellsFrom
    split
    · refine cellsFrom_inj (fun x y c h1 h2 => ?_) (fun y c h1 => ?_)
      · rcases List.mem_cons.mp h1 with e1 | h1 <;> rcases List.mem_cons.mp h2 with e2 | h2
        · cases e1; cases e2; rfl
        · cases e1; exact absurd (hl _ _ h2) (Nat.lt_irrefl _)
        · cases e2; exact absurd (hl _ _ h1) (Nat.lt_irrefl _)
        · exact h x y c h1 h2
      · rcases List.mem_cons.mp h1 with e1 | h1
        · cases e1; exact Nat.lt_succ_self _
        · exact Nat.lt_succ_of_lt (hl _ _ h1)
    · exact cellsFrom_inj h hl

theorem pushCells_cells : ∀ (ns : List (Str × NameKind)) (h : Heap) (acc : List (Str × Addr)) (y : Str) (c : Addr), (y, c) ∈ cellsFrom h.objs.size ns acc → (y, c) ∈ acc ∨ (pushCells h ns).IsCell c none
  | [], _, _, _, _, hm => .inl hm
  | (z, k) :: r, h, acc, y, c, hm => by
    unfold cellsFrom at hm
    unfold pushCells
    split at hm
    · rename_i hk
      rw [if_pos hk]
      have hm' : (y, c) ∈ cellsFrom (h.push { cls := .type "cell", data := .cell none }).objs.size r ((z, h.objs.size) :: acc) := by rw [Heap.size_push]; exact hm
      rcases pushCells_cells r _ _ y c hm' with hm | hm
      · rcases List.mem_cons.mp hm with e | hm
        · cases e
          exact .inr ⟨_, pushCells_keeps _ _ _ _ (Heap.get?_push_size _ rfl), rfl⟩
        · exact .inl hm
      · exact .inr hm
    · rename_i hk
      rw [if_neg hk]
      exact pushCells_cells r h acc y c hm

/-! ### what a block's names must be -/
def kindB (names : List (Str × NameKind)) (y : Str) (k : NameKind) : Bool := names.lookup y == some k
def nodupB : List Str → Bool
  | [] => true
  | x :: r => !r.contains x && nodupB r
theorem nodup_of_B : ∀ {l : List Str}, nodupB l = true → l.Nodup
  | [], _ => List.nodup_nil
  | x :: r, h => by
    unfold nodupB at h
    rw [Bool.and_eq_true] at h
    refine List.nodup_cons.mpr ⟨fun hm => ?_, nodup_of_B h.2⟩
    have : r.contains x = true := List.contains_iff_mem.mpr hm
    rw [this] at h
    exact absurd h.1 (by decide)
def zipB : List Str → List Str → (Str → Str → Bool) → Bool
  | [], [], _ => true
  | x :: r, y :: t, p => p x y && zipB r t p
  | _, _, _ => false
theorem zipB_len : ∀ {l m : List Str} {p : Str → Str → Bool}, zipB l m p = true → l.length = m.length
  | [], [], _, _ => rfl
  | [], _ :: _, _, h => by cases h
  | _ :: _, [], _, h => by cases h
  | x :: r, y :: t, p, h => by
    unfold zipB at h
    rw [Bool.and_eq_true] at h
    simp [zipB_len h.2]
theorem zipB_get : ∀ {l m : List Str} {p : Str → Str → Bool}, zipB l m p = true → ∀ (i : Nat) (x : Str), l[i]? = some x → ∃ y, m[i]? = some y ∧ p x y = true
  | [], [], _, _, i, x, h => by simp at h
  | [], _ :: _, _, h, _, _, _ => by cases h
  | _ :: _, [], _, h, _, _, _ => by cases h
  | x :: r, y :: t, p, h, 0, z, e => by
    unfold zipB at h
    rw [Bool.and_eq_true] at h
    simp at e; subst e
    exact ⟨y, rfl, h.1⟩
  | x :: r, y :: t, p, h, i + 1, z, e => by
    unfold zipB at h
    rw [Bool.and_eq_true] at h
    obtain ⟨w, e1, e2⟩ := zipB_get h.2 i z (by simpa using e)
    exact ⟨w, by simpa using e1, e2⟩

/-- names: the block's own table; ks: the table around it; own: the names that the block stores; N2: the names around it as they are seen within -/
def blkB (names ks : List (Str × NameKind)) (own N2 N : List Str) : Bool :=
  names.all (fun y => y.2 != .free || kindB ks y.1 .cell || kindB ks y.1 .free) &&
  nodupB (names.map (·.1)) && nodupB (own ++ N2) &&
  names.all (fun y => !(y.2 == .local || y.2 == .cell) || own.contains y.1 || y.1 == (".0" : Str)) &&
  zipB N2 N (fun y z => (y == z && y != (".0" : Str)) || names.lookup y == none) &&
  own.all (fun x => kindB names x .local || kindB names x .cell)
structure Blk (names ks : List (Str × NameKind)) (own N2 N : List Str) : Prop where
  fr : ∀ y, (y, NameKind.free) ∈ names → ks.lookup y = some .cell ∨ ks.lookup y = some .free
  nd : (names.map (·.1)).Nodup
  ndN : (own ++ N2).Nodup
  owns : ∀ y k, (y, k) ∈ names → k = .local ∨ k = .cell → y ∈ own ∨ y = (".0" : Str)
  zip : ∀ (j : Nat) (y : Str), N2[j]? = some y → (N[j]? = some y ∧ y ≠ (".0" : Str)) ∨ names.lookup y = none
  len : N2.length = N.length
  own : ∀ x ∈ own, names.lookup x = some .local ∨ names.lookup x = some .cell
theorem blk_of {names ks : List (Str × NameKind)} {own N2 N : List Str} (h : blkB names ks own N2 N = true) : Blk names ks own N2 N := by
  unfold blkB at h
  simp only [Bool.and_eq_true] at h
  obtain ⟨⟨⟨⟨⟨h1, h2⟩, h3⟩, h4⟩, h5⟩, h6⟩ := h
  refine ⟨fun y hy => ?_, nodup_of_B h2, nodup_of_B h3, fun y k hy hk => ?_, fun j y e => ?_, zipB_len h5, fun x hx => ?_⟩
  · have q := List.all_eq_true.mp h1 _ hy
    simp only [Bool.or_eq_true] at q
    rcases q with (q | q) | q
    · exact absurd q (by simp)
    · exact .inl (by simpa [kindB] using q)
    · exact .inr (by simpa [kindB] using q)
  · have q := List.all_eq_true.mp h4 _ hy
    simp only [Bool.or_eq_true] at q
    rcases q with (q | q) | q
    · rcases hk with rfl | rfl <;> simp at q
    · exact .inl (List.contains_iff_mem.mp q)
    · exact .inr (by simpa using q)
  · obtain ⟨z, e1, e2⟩ := zipB_get h5 j y e
    simp only [Bool.or_eq_true, Bool.and_eq_true] at e2
    rcases e2 with ⟨e2, e3⟩ | e2
    · exact .inl ⟨by rw [e1, beq_iff_eq.mp e2], by simpa using e3⟩
    · exact .inr (by simpa using e2)
  · have q := List.all_eq_true.mp h6 _ hx
    simp only [Bool.or_eq_true] at q
    rcases q with q | q
    · exact .inl (by simpa [kindB] using q)
    · exact .inr (by simpa [kindB] using q)
theorem lookup_of_mem_nd {α : Type} : ∀ {l : List (Str × α)} {y : Str} {k : α}, (l.map (·.1)).Nodup → (y, k) ∈ l → l.lookup y = some k
  | (z, v) :: r, y, k, nd, h => by
    rw [List.map_cons, List.nodup_cons] at nd
    rw [List.lookup_cons]
    rcases List.mem_cons.mp h with e | h'
    · cases e; simp
    · have : (y == z) = false := by
        cases e : y == z with
        | false => rfl
        | true =>
          have e' : y = z := beq_iff_eq.mp e
          have q : y ∈ r.map (fun x => x.1) := List.mem_map.mpr ⟨(y, k), h', rfl⟩
          exact absurd (by rw [← e']; exact q) nd.1
      rw [this]
      exact lookup_of_mem_nd nd.2 h'
end L2

namespace L2
open PySem PySem.Spec PyProof.Rows

theorem relabel_kind {sc : Scope} {env : Env} {y : Str} : ∀ {ns : List (Str × NameKind)},
    (ns.map fun (n, k) => if (k == NameKind.free && env.scope.kind == .function && env.kindOf n == some .cell) then (n, NameKind.cell) else (n, k)).lookup y =
      (ns.lookup y).map fun k => if (k == NameKind.free && env.scope.kind == .function && env.kindOf y == some .cell) then .cell else k
  | [] => rfl
  | (n, k) :: r => by
    have ih := @relabel_kind sc env y r
    rw [List.map_cons, List.lookup_cons]
    show List.lookup y ((if (k == NameKind.free && env.scope.kind == .function && env.kindOf n == some .cell) = true then (n, NameKind.cell) else (n, k)) :: _) = _
    cases hx : y == n with
    | true =>
      have e : y = n := beq_iff_eq.mp hx
      subst e
      by_cases hc : (k == NameKind.free && env.scope.kind == .function && env.kindOf y == some .cell) = true
      · rw [if_pos hc]
        simp only [List.lookup_cons, hx, Option.map_some, if_pos hc]
      · rw [if_neg hc]
        simp only [List.lookup_cons, hx, Option.map_some, if_neg hc]
    | false =>
      by_cases hc : (k == NameKind.free && env.scope.kind == .function && env.kindOf n == some .cell) = true
      · rw [if_pos hc]; simp only [List.lookup_cons, hx]; exact ih
      · rw [if_neg hc]; simp only [List.lookup_cons, hx]; exact ih

/-- the context of a comprehension's block. s, H: the state when its iterator has come; fp: the iterator's records -/
def Cx.comp (X : Cx) (sc : Scope) (N' : List Str) (s : Shared) (H : Hp) (fp : List Addr) : Cx :=
  { X with
    N := N'
    s₀ := s
    H₀ := H
    env := compEnvC sc (cellsFrom (s.heap.objs.size + 2) sc.names (closOf X.env sc.names [])) (s.heap.objs.size + 1) X.env
    outer := X.stack
    ex := fp
    fn := fun y => sc.names.lookup y == some .cell
    pn := []
    xe := fun _ _ => False }

section
variable {X : Cx} {pins : List (Addr × Obj)} {σ : St} {H : Hp} {s : Shared} {sc : Scope} {own N2 : List Str} {fp : List Addr}

theorem clos_has (I : Inv X pins σ H s) (B : Blk sc.names X.env.scope.names own N2 X.N) : ∀ y, (y, NameKind.free) ∈ sc.names → ∃ c, X.env.cells.lookup y = some c := fun y hy => by
  rcases B.fr y hy with q | q
  · exact I.ok.has y (.inl q)
  · exact I.ok.has y (.inr q)
theorem clos_eq (I : Inv X pins σ H s) (B : Blk sc.names X.env.scope.names own N2 X.N) : closureFor sc X.env = pure (closOf X.env sc.names []) :=
  closureFor_eq fun y hy hk => by
    obtain ⟨c, e⟩ := clos_has I B y.1 (by rw [← hk]; exact hy)
    rw [e]; rfl
/-- a cell of the block: a new one of its own, or one of the block around it -/
theorem cells_split (I : Inv X pins σ H s) (B : Blk sc.names X.env.scope.names own N2 X.N) {n : Nat} {y : Str} {c : Addr} (h : (y, c) ∈ cellsFrom n sc.names (closOf X.env sc.names [])) :
    (n ≤ c ∧ (y, NameKind.cell) ∈ sc.names) ∨ ((y, NameKind.free) ∈ sc.names ∧ X.env.cells.lookup y = some c) := by
  rcases cellsFrom_mem h with h | h
  · rcases closOf_mem h with h | ⟨h, e⟩
    · cases h
    · obtain ⟨c', e'⟩ := clos_has I B y h
      rw [e'] at e
      exact .inr ⟨h, by rw [e', e]; rfl⟩
  · exact .inl h
theorem cells_free (I : Inv X pins σ H s) (B : Blk sc.names X.env.scope.names own N2 X.N) {n : Nat} {y : Str} {c : Addr} (hy : (y, NameKind.free) ∈ sc.names) (hc : X.env.cells.lookup y = some c) :
    (cellsFrom n sc.names (closOf X.env sc.names [])).lookup y = some c := by
  rw [cellsFrom_lookup_old, closOf_lookup (.inr hy), hc]
  · rfl
  · intro q
    have e1 := lookup_of_mem_nd B.nd hy
    rw [lookup_of_mem_nd B.nd q] at e1
    cases e1
theorem cells_inj (I : Inv X pins σ H s) (B : Blk sc.names X.env.scope.names own N2 X.N) {n : Nat} (hn : s.heap.objs.size ≤ n) {x y : Str} {c : Addr} (h1 : (x, c) ∈ cellsFrom n sc.names (closOf X.env sc.names []))
    (h2 : (y, c) ∈ cellsFrom n sc.names (closOf X.env sc.names [])) : x = y := by
  have old : ∀ z c, (z, c) ∈ closOf X.env sc.names [] → X.env.cells.lookup z = some c := fun z c hm => by
    rcases closOf_mem hm with h | ⟨h, e⟩
    · cases h
    · obtain ⟨c', e'⟩ := clos_has I B z h
      rw [e'] at e
      rw [e', e]; rfl
  refine cellsFrom_inj (fun x y c h1 h2 => I.ok.inj x y c (old _ _ h1) (old _ _ h2)) (fun z c hm => ?_) x y c h1 h2
  obtain ⟨v, q⟩ := I.cell z c (old _ _ hm)
  exact Nat.lt_of_lt_of_le q.lt hn

/-- how a name of the block around it is seen within -/
theorem look_in (I : Inv X pins σ H s) (B : Blk sc.names X.env.scope.names own N2 X.N) {n : Nat} {env' : Env} {h' : Heap} {m : Str → Option Value} {j : Nat} {y : Str} {v : V} (hN : N2[j]? = some y) (hs : σ[j]? = some (some v))
    (hcl : env'.cells = cellsFrom n sc.names (closOf X.env sc.names [])) (hkd : ∀ y, (y, NameKind.free) ∈ sc.names → env'.kindOf y = some .cell ∨ env'.kindOf y = some .free)
    (hin : Vis env'.scope y → ∃ k, sc.names.lookup y = some k) (hown : y ∉ own)
    (keep : ∀ b o, s.heap.get? b = some o → h'.get? b = some o) (hv : Vis env'.scope y) (hk2 : ∀ k, sc.names.lookup y = some k → k = .local ∨ k = .cell ∨ k = .free) : ∃ u, RelV v u ∧ Look env' h' m y u := by
  obtain ⟨k, hk⟩ := hin hv
  rcases B.zip j y hN with ⟨e, n0⟩ | e
  · have hm := mem_of_lookup hk
    have kf : k = .free := by
      rcases hk2 k hk with z | z | z
      · rcases B.owns y k hm (.inl z) with q | q
        · exact absurd q hown
        · exact absurd q n0
      · rcases B.owns y k hm (.inr z) with q | q
        · exact absurd q hown
        · exact absurd q n0
      · exact z
    subst kf
    have hX : Vis X.env.scope y := by
      rcases B.fr y hm with q | q
      · exact .inr (.inl q)
      · exact .inr (.inr q)
    obtain ⟨m0, _, hl⟩ := I.loc
    obtain ⟨u, r, l⟩ := hl j y v e hs hX
    refine ⟨u, r, .inr ⟨hkd y hm, ?_⟩⟩
    rcases l with ⟨kl, _⟩ | ⟨_, c, hc, z⟩
    · rcases B.fr y hm with q | q
      · have kl' : X.env.scope.names.lookup y = some .local := kl
        rw [q] at kl'; cases kl'
      · have kl' : X.env.scope.names.lookup y = some .local := kl
        rw [q] at kl'; cases kl'
    · exact ⟨c, by rw [hcl]; exact cells_free I B hm hc, z.keeps keep⟩
  · rw [hk] at e; cases e
end
end L2

namespace L2
open PySem PySem.Spec PyProof.Rows

theorem wpAny_newEnv_comp {M : Model} {A : Around} {E : Value → Shared → Prop} {s : Shared} {sc : Scope} {g : Addr} {cl : List (Str × Addr)} {qual : Str} {env : Env} {Q : Env → Shared → Prop}
    (h : Q { scope := sc, locals := s.heap.objs.size, globals := g, cells := cellsFrom (s.heap.objs.size + 1) sc.names cl, qual := qual, func := none, code := env.code, frame := env.frame, builtins := env.builtins }
      { s with heap := pushCells (s.heap.push { cls := .type "dict", data := .dict #[] }) sc.names }) :
    wpAny M A (newFunctionEnv sc g cl [] qual none .none (some env)) Q E s := by
  simp only [newFunctionEnv, Option.isSome_some, if_true]
  refine wpAny_bind (wpAny_alloc ?_)
  refine wpAny_bind (wpAny_layCells _ (fun name kind cells => by cases hkc : kind == NameKind.cell <;> simp [hkc]) _ _ _ _ ?_)
  rw [show ({ s with heap := s.heap.push { cls := .type "dict", data := .dict #[] } } : Shared).heap.objs.size = s.heap.objs.size + 1 from Heap.size_push ..]
  simp only [List.forIn_nil]
  exact wpAny_bind (wpAny_pure (wpAny_pure h))

section
variable {X : Cx} {pins : List (Addr × Obj)} {σ : St} {H : Hp} {s : Shared} {sc : Scope} {own N2 : List Str} {fp : List Addr}

theorem kinds_in {env : Env} {y : Str} (hv : Vis (relabel sc env) y) : ∃ k, sc.names.lookup y = some k ∧ (k = .local ∨ k = .cell ∨ k = .free) := by
  have q : ∀ k, (relabel sc env).names.lookup y = some k → (k = .local ∨ k = .cell ∨ k = .free) → ∃ k, sc.names.lookup y = some k ∧ (k = .local ∨ k = .cell ∨ k = .free) := fun k e hk => by
    have e' := (relabel_kind (sc := sc) (env := env) (y := y) (ns := sc.names)).symm.trans e
    cases z : sc.names.lookup y with
    | none => rw [z] at e'; cases e'
    | some k0 =>
      rw [z] at e'
      simp only [Option.map_some, Option.some.injEq] at e'
      refine ⟨k0, rfl, ?_⟩
      split at e'
      · rename_i hc
        simp only [Bool.and_eq_true] at hc
        exact .inr (.inr (by simpa using hc.1.1))
      · rw [e']; exact hk
  rcases hv with e | e | e
  · exact q _ e (.inl rfl)
  · exact q _ e (.inr (.inl rfl))
  · exact q _ e (.inr (.inr rfl))
theorem kind_free (B : Blk sc.names X.env.scope.names own N2 X.N) {env : Env} {y : Str} (hy : (y, NameKind.free) ∈ sc.names) : (relabel sc env).names.lookup y = some .cell ∨ (relabel sc env).names.lookup y = some .free := by
  have e := relabel_kind (sc := sc) (env := env) (y := y) (ns := sc.names)
  rw [lookup_of_mem_nd B.nd hy] at e
  simp only [Option.map_some] at e
  split at e
  · exact .inl e
  · exact .inr e
theorem kind_own {env : Env} {y : Str} {k : NameKind} (hy : sc.names.lookup y = some k) (hk : k = .local ∨ k = .cell) : (relabel sc env).names.lookup y = some k := by
  have e := relabel_kind (sc := sc) (env := env) (y := y) (ns := sc.names)
  rw [hy] at e
  simp only [Option.map_some] at e
  rcases hk with rfl | rfl
  · exact e
  · exact e

theorem ok_comp (I : Inv X pins σ H s) (B : Blk sc.names X.env.scope.names own N2 X.N) (hk : sc.kind = .function) (hf : ∀ b ∈ fp, FpOk X pins H b) (ho : ∀ b ∈ fp, ∃ o, s.heap.get? b = some o) : (X.comp sc (own ++ N2) s H fp).Ok := by
  have lt : ∀ b ∈ fp, b < s.heap.objs.size := fun b hb => let ⟨o, e⟩ := ho b hb; Heap.lt_size e
  have cellb : ∀ y c, (cellsFrom (s.heap.objs.size + 2) sc.names (closOf X.env sc.names [])).lookup y = some c → (s.heap.objs.size + 2 ≤ c ∧ (y, NameKind.cell) ∈ sc.names) ∨ ((y, NameKind.free) ∈ sc.names ∧ X.env.cells.lookup y = some c) :=
    fun y c h => cells_split I B (mem_of_lookup h)
  refine ⟨I.ok.mod, hk, I.ok.glob, I.ok.blt, Nat.le_succ _, fun x y c h1 h2 => ?_, fun y hy => ?_, fun y c hy hc => ?_, I.ok.hd, I.ok.frames, .inl rfl, fun b hb => ⟨?_, fun y c hc => ?_⟩, I.bs, Nat.le_trans I.ok.bsz I.sz, fun b o e hb => ?_, fun b hb hs => ?_, I.stack, I.stkFree⟩
  · exact cells_inj I B (by omega) (mem_of_lookup h1) (mem_of_lookup h2)
  · have hy' : (relabel sc X.env).names.lookup y = some .cell ∨ (relabel sc X.env).names.lookup y = some .free := hy
    obtain ⟨k, e, hk3⟩ := kinds_in (env := X.env) (y := y) (sc := sc) (by rcases hy' with q | q; exact .inr (.inl q); exact .inr (.inr q))
    rcases hk3 with rfl | rfl | rfl
    · have := kind_own (env := X.env) e (.inl rfl)
      rcases hy' with q | q
      · rw [q] at this; cases this
      · rw [q] at this; cases this
    · exact Option.isSome_iff_exists.mp (PySem.W.cellsFrom_some sc.names _ _ (.inl e))
    · obtain ⟨c, hc⟩ := clos_has I B y (mem_of_lookup e)
      exact ⟨c, cells_free I B (mem_of_lookup e) hc⟩
  · have hy' : sc.names.lookup y = some .cell := by
      have q : (sc.names.lookup y == some NameKind.cell) = true := hy
      simpa using q
    rcases cellb y c hc with ⟨q, _⟩ | ⟨q, _⟩
    · show s.heap.objs.size ≤ c
      omega
    · rw [lookup_of_mem_nd B.nd q] at hy'; cases hy'
  · exact Nat.ne_of_lt (Nat.lt_succ_of_lt (lt b hb))
  · have hl := lt b hb
    rcases cellb y c hc with ⟨q, _⟩ | ⟨_, q⟩
    · exact Nat.ne_of_gt (Nat.lt_of_lt_of_le hl (Nat.le_trans (Nat.le_add_right _ 2) q))
    · exact (hf b hb).2.2.2.2.1 y c q
  · rcases (hf b hb).2.2.2.1 with z | z
    · exact I.ok.noex b o e z
    · exact absurd (Nat.lt_of_lt_of_le (Heap.lt_size (I.ok.bs b o e).1) z) (Nat.lt_irrefl _)
  · rcases List.mem_cons.mp (I.stkSub b hs) with e | e
    · exact (hf b hb).2.1 e
    · exact (hf b hb).2.2.1 e

theorem inv_comp (I : Inv X pins σ H s) (B : Blk sc.names X.env.scope.names own N2 X.N) (hk : sc.kind = .function) (hf : ∀ b ∈ fp, FpOk X pins H b) (ho : ∀ b ∈ fp, ∃ o, s.heap.get? b = some o) :
    Inv (X.comp sc (own ++ N2) s H fp) [] (List.replicate own.length none ++ σ) (upd H s.heap.objs.size (.lst []))
      { s with heap := pushCells ((s.heap.push { cls := .type "list", dict := none, data := .seq ([] : List Value).toArray }).push { cls := .type "dict", data := .dict #[] }) sc.names } := by
  have k1 : ∀ b o, (s.heap.push { cls := .type "list", dict := none, data := .seq ([] : List Value).toArray }).get? b = some o →
      (pushCells ((s.heap.push { cls := .type "list", dict := none, data := .seq ([] : List Value).toArray }).push { cls := .type "dict", data := .dict #[] }) sc.names).get? b = some o :=
    fun b o e => pushCells_keeps _ _ b o (Heap.get?_push_of_some _ e)
  have k0 : ∀ b o, s.heap.get? b = some o →
      (pushCells ((s.heap.push { cls := .type "list", dict := none, data := .seq ([] : List Value).toArray }).push { cls := .type "dict", data := .dict #[] }) sc.names).get? b = some o :=
    fun b o e => k1 b o (Heap.get?_push_of_some _ e)
  have sz : ((s.heap.push { cls := .type "list", dict := none, data := .seq ([] : List Value).toArray }).push { cls := .type "dict", data := .dict #[] }).objs.size = s.heap.objs.size + 2 := by rw [Heap.size_push, Heap.size_push]
  have cellb : ∀ y c, (cellsFrom (s.heap.objs.size + 2) sc.names (closOf X.env sc.names [])).lookup y = some c → (s.heap.objs.size + 2 ≤ c ∧ (y, NameKind.cell) ∈ sc.names) ∨ ((y, NameKind.free) ∈ sc.names ∧ X.env.cells.lookup y = some c) :=
    fun y c h => cells_split I B (mem_of_lookup h)
  have freshH : ∀ b, s.heap.objs.size < b → upd H s.heap.objs.size (.lst []) b = none := fun b hb => by
    rw [upd_ne (Nat.ne_of_gt hb)]
    exact I.hok.fresh (Nat.le_of_lt hb)
  refine ⟨ok_comp I B hk hf ho, rfl, .refl I.bare.bare, Un.laid k0 (Nat.le_refl _) I.fresh, ⟨fun _ => none, ?_, fun i y v e1 e2 e3 => ?_⟩, fun y c hc => ?_, freshH _ (Nat.lt_succ_self _), fun y c hc => ?_, fun p hp => ?_, I.hok.laid k0 (Nat.le_refl _) ?_, ?_⟩
  · have := Heap.Ns.new (s.heap.push { cls := .type "list", dict := none, data := .seq ([] : List Value).toArray }) (.type "dict")
    rw [Heap.size_push] at this
    exact this.keeps (pushCells_keeps _ _)
  · by_cases hi : i < own.length
    · rw [List.getElem?_append_left (by simpa using hi), List.getElem?_replicate] at e2
      split at e2 <;> cases e2
    · have e1' : (own ++ N2)[i]? = some y := e1
      have hi' : own.length ≤ i := by omega
      rw [List.getElem?_append_right (by simpa using hi'), List.length_replicate] at e2
      rw [List.getElem?_append_right hi'] at e1'
      have hown : y ∉ own := fun hm => by
        have nd := B.ndN
        rw [List.nodup_append] at nd
        exact nd.2.2 y hm y (List.mem_of_getElem? e1') rfl
      refine look_in I B (n := s.heap.objs.size + 2) e1' e2 rfl (fun z hz => kind_free B hz) (fun hv => let ⟨k, e, _⟩ := kinds_in hv; ⟨k, e⟩) hown k0 e3 (fun k e => ?_)
      obtain ⟨k', e', hk'⟩ := kinds_in (sc := sc) e3
      rw [e] at e'; cases e'
      exact hk'
  · rcases pushCells_cells sc.names ((s.heap.push { cls := .type "list", dict := none, data := .seq ([] : List Value).toArray }).push { cls := .type "dict", data := .dict #[] }) (closOf X.env sc.names []) y c (by rw [sz]; exact mem_of_lookup hc) with q | q
    · rcases closOf_mem q with z | ⟨z, e⟩
      · cases z
      · obtain ⟨c', e'⟩ := clos_has I B y z
        rw [e'] at e
        have e2 : c = c' := e
        subst e2
        obtain ⟨v, w⟩ := I.cell y c e'
        exact ⟨v, w.keeps k0⟩
    · exact ⟨none, q⟩
  · rcases cellb y c hc with ⟨q, _⟩ | ⟨_, q⟩
    · exact freshH c (by omega)
    · obtain ⟨v, w⟩ := I.cell y c q
      rw [upd_ne (Nat.ne_of_lt w.lt)]
      exact I.freeC y c q
  · have hp' : p ∈ ([] : List (Addr × Obj)) := hp
    cases hp'
  · exact ⟨Nat.zero_le _, [], 0, .nil, k1 _ _ (Heap.get?_push_size _ rfl)⟩
  · show (List.replicate own.length none ++ σ).length = (own ++ N2).length
    rw [List.length_append, List.length_append, List.length_replicate, I.len, B.len]

/-- back from the block -/
theorem Inv.uncomp {σ' : St} {H' : Hp} {s' : Shared} {N' : List Str} (I : Inv X pins σ H s) (hf : ∀ b ∈ fp, FpOk X pins H b) (J : Inv (X.comp sc N' s H fp) [] σ' H' s') : Inv X pins σ H' s' :=
  I.call' (ch := fp) J.os J.base J.hok J.bare fun b hb => ⟨(hf b hb).2.2.2.1, (hf b hb).2.1, (hf b hb).2.2.2.2.1, (hf b hb).2.2.2.2.2⟩
end
end L2

namespace L2
open PySem PySem.Spec PyProof.Rows

section
variable {prog : Program} {w : World} {A : Around} {R : Result → Shared → Prop} {s : Shared}
theorem codeAny_compLoop_own {elt target iter : Expr} {scope : Scope} {pos : Pos} {it acc : Value} {env : Env} (I : Nat → Shared → Prop)
    (turn : ∀ n s, I n s → wpAny (model prog w) A (pyNext it) (fun r s₁ => match r with
      | none => R (.ok .next) s₁
      | some v => wpAny (model prog w) A (letOwnedTupleGo target it v) (fun _ s₁' => wpAny (model prog w) A (assign target env v) (fun _ s₂ => wpAny (model prog w) A (eval elt env) (fun x s₃ =>
          wpAny (model prog w) A (call (.builtin "list.append") [acc, x]) (fun _ s₄ => ∃ m, m < n ∧ I m s₄) (fun _ _ => False) s₃)
          (fun _ _ => False) s₂) (fun _ _ => False) s₁') (fun _ _ => False) s₁) (fun _ _ => False) s)
    (n : Nat) (h : I n s) :
    codeAny (model prog w) A (.compLoop (.ListComp elt [⟨target, iter, [], 0⟩] scope pos) 0 it acc env) R s := by
  refine codeAny_loop rfl I (fun n s hI => ?_) n h
  show wpAny _ _ ((compTurn (.ListComp elt [⟨target, iter, [], 0⟩] scope pos) 0 it acc env).onRaise (fun x => do noteFrame x env; theTreesLotGoes x)) _ _ s
  refine wpAny_noted ?_
  rw [compTurn_list1]
  refine wpAny_bind (wpAny_standAt (wpAny_bind (wpAny_mono (turn n s hI) (fun r s₁ h₁ => ?_) fun _ _ h' => h'.elim)))
  cases r with
  | none => exact wpAny_pure h₁
  | some v =>
    exact wpAny_bind (wpAny_mono h₁ (fun _ s₁' h₁' => wpAny_bind (wpAny_mono h₁' (fun _ s₂ h₂ => wpAny_bind (wpAny_bind (wpAny_mono h₂ (fun x s₃ h₃ => wpAny_bind (wpAny_mono h₃
      (fun _ s₄ h₄ => wpAny_pure (wpAny_pure ⟨rfl, h₄⟩)) fun _ _ h' => h'.elim)) fun _ _ h' => h'.elim))) fun _ _ h' => h'.elim)) fun _ _ h' => h'.elim)
end

/-- [e for tg in iter]: W the invariant by the turn, a measure, the items so far, the block's names, the heap -/
def CompRd (k : Nat) (g : TG) (te : TE) (σ : St) (J : It) (H1 : Hp) (D : Addr) (Q : VK) : Prop := ∃ W : Nat → Nat → List V → St → Hp → Prop, (∃ m, W 0 m [] (List.replicate k none ++ σ) (upd H1 D (.lst []))) ∧
  ∀ i m acc σ' H', W i m acc σ' H' → (J.stop i H' ∧ H' D = some (.lst acc) ∧ Q (.ref D) H') ∨
    (J.go i H' ∧ acc.length < sizeLine ∧ ∀ x H2, J.yld i H' x H2 → g x σ' H2 fun σ3 H3 => te σ3 H3 fun v H4 => H4 D = some (.lst acc) ∧ ∃ m', m' < m ∧ W (i + 1) m' (acc ++ [v]) σ3 (upd H4 D (.lst (acc ++ [v]))))
def tComp (k : Nat) (wi : TI) (g : TG) (te : TE) : TE := fun σ H Q => wi σ H fun J H1 => ∀ D, H1 D = none → CompRd k g te σ J H1 D Q

section
variable {X : Cx} {sc : Scope} {own N2 : List Str}

theorem lcomp_core {elt iter tg : Expr} {pos fpos : Pos} {wi : TI} {g : TG} {te : TE} {use : Option (Value → Sem Unit)} {Qf : Value → Shared → Prop} (hc : X.calm = true) (hi : PI X tg iter wi) (B : Blk sc.names X.env.scope.names own N2 X.N) (hk : sc.kind = .function)
    (hg : ∀ s H fp, PG (X.comp sc (own ++ N2) s H fp) tg g) (he : ∀ s H fp, PE (X.comp sc (own ++ N2) s H fp) elt te)
    (hs : ∀ x, foldedSetIterable iter X.env x = pure x) {pins : List (Addr × Obj)} {s0 : Shared} {σ : St} {H0 : Hp} {Q : VK} (I0 : Inv X pins σ H0 s0) (h0 : tComp own.length wi g te σ H0 Q)
    (fin0 : ∀ s H fp, Inv X pins σ H s → (∀ b ∈ fp, FpOk X pins H b) → ∀ (σ' : St) (H' : Hp) (s' : Shared), Inv (X.comp sc (own ++ N2) s H fp) [] σ' H' s' → Q (.ref s.heap.objs.size) H' →
      compPost (model X.prog X.w) X.A X.xe use Qf (.ref s.heap.objs.size) (s.heap.objs.size + 1) (.ok .next) s') :
    wpAny (model X.prog X.w) X.A (comprehension (.ListComp elt [⟨tg, iter, [], 0⟩] sc pos) sc X.env fpos (newList []) false (eval iter X.env) use) Qf X.xe s0 := by
  refine wpAny_comprehension_free (use := use) rfl hs (clos_eq I0 B) hk (fun y hy hl => lookup_of_mem_nd B.nd (by rw [← hl]; exact hy)) ?_
  refine wpAny_mono (hi pins s0 σ H0 _ I0 h0) (fun v s1 h1 => wpAny_mono h1 (fun itv s h2 => ?_) fun _ _ e => e) fun _ _ e => e
  obtain ⟨it, fp, tn, J, H, e, I, T, st, hf, rd⟩ := h2
  subst e
  have ho : ∀ b ∈ fp, ∃ o, s.heap.get? b = some o := fun b hb => let ⟨o, e, _⟩ := T.obj 0 _ st b hb; ⟨o, e⟩
  obtain ⟨W, ⟨m0, w0⟩, turn⟩ := rd s.heap.objs.size I.fresh
  refine wpAny_newObj_type ?_
  refine wpAny_newEnv_comp ?_
  have IB := inv_comp I B hk hf ho
  have fpB : ∀ {H' : Hp}, (∀ b ∈ fp, H' b = none) → ∀ b ∈ fp, FpOk (X.comp sc (own ++ N2) s H fp) [] H' b := fun hn b hb => by
    have ok := IB.ok
    refine ⟨hn b hb, (ok.exf b hb).1, ok.exfs b hb, .inl hb, fun y c hc => (ok.exf b hb).2 y c hc, fun p hp => ?_⟩
    have hp' : p ∈ ([] : List (Addr × Obj)) := hp
    cases hp'
  have lt : ∀ b ∈ fp, b ≠ s.heap.objs.size := fun b hb => let ⟨o, e⟩ := ho b hb; Nat.ne_of_lt (Heap.lt_size e)
  have fin := fin0 s H fp I hf
  have loop : ∀ s3 : Shared, s3 = { s with heap := pushCells ((s.heap.push { cls := .type "list", dict := none, data := .seq ([] : List Value).toArray }).push { cls := .type "dict", data := .dict #[] }) sc.names } →
      codeAny (model X.prog X.w) X.A (.compLoop (.ListComp elt [⟨tg, iter, [], 0⟩] sc pos) 0 (.ref it) (.ref s.heap.objs.size) (X.comp sc (own ++ N2) s H fp).env)
        (compPost (model X.prog X.w) X.A X.xe use Qf (.ref s.heap.objs.size) (s.heap.objs.size + 1)) s3 := by
    rintro s3 rfl
    refine codeAny_compLoop_own (fun n s' => ∃ i acc σ' H', Inv (X.comp sc (own ++ N2) s H fp) [] σ' H' s' ∧ tn i s'.heap ∧ (∀ b ∈ fp, H' b = none) ∧ W i n acc σ' H') ?_ m0
      ⟨0, [], _, _, IB, T.keep _ _ _ st fun b _ o e => pushCells_keeps _ _ b o (Heap.get?_push_of_some _ (Heap.get?_push_of_some _ e)), fun b hb => ?_, w0⟩
    · rintro n s3 ⟨i, acc, σ3, H3, I3, st3, fr3, w3⟩
      rcases turn i n acc σ3 H3 w3 with ⟨stop, hD, qn⟩ | ⟨go, hz, step⟩
      · refine thn (T.done (X.comp sc (own ++ N2) s H fp) rfl rfl rfl hc i [] s3 σ3 H3 _ I3 (fpB fr3) st3 stop) fun r s4 ⟨hr, I4⟩ => ?_
        subst hr
        exact fin σ3 H3 s4 I4 qn
      · refine thn (T.item (X.comp sc (own ++ N2) s H fp) rfl rfl rfl hc i [] s3 σ3 H3 _ I3 (fpB fr3) st3 go) fun r s4 ⟨u, hr, h4⟩ => ?_
        subst hr
        refine thn h4 fun _ s5 ⟨x, H5, I5, r5, y5, st5, fr5⟩ => ?_
        have I5' := I5.pinned (fpB fr5) (T.obj _ _ st5)
        refine thn (hg s H fp _ s5 σ3 H5 x u _ I5' r5 (step x H5 y5)) fun _ s6 ⟨σ6, H6, I6, q6⟩ => ?_
        refine thn (he s H fp _ s6 σ6 H6 _ I6 q6) fun v s7 ⟨y, H7, I7, r7, hD7, m', hm', w7⟩ => ?_
        refine thn (mt_append _ s7 σ6 H7 (.ref s.heap.objs.size) [y] (.ref s.heap.objs.size) [v] (fun z H8 => z = .non ∧ H8 = upd H7 s.heap.objs.size (.lst (acc ++ [y]))) I7 rfl (.cons r7 .nil) ⟨s.heap.objs.size, acc, y, rfl, rfl, hD7, hz, rfl, rfl⟩) fun z s8 ⟨zz, H8, I8, _, _, e8⟩ => ?_
        subst e8
        refine ⟨m', hm', i + 1, acc ++ [y], σ6, _, I8.unpinned, T.keep _ _ _ st5 fun b hb o e => (I8.pin (b, o) (List.mem_append_right _ (List.mem_append_right _ (mem_pinsAt hb e)))).1, fun b hb => ?_, w7⟩
        obtain ⟨o, e, d⟩ := T.obj _ _ st5 b hb
        exact (I8.pin (b, o) (List.mem_append_right _ (List.mem_append_right _ (mem_pinsAt hb e)))).2.1
    · rw [upd_ne (lt b hb)]
      exact (hf b hb).1
  have e1 : (s.heap.push { cls := .type "list", dict := none, data := .seq ([] : List Value).toArray }).objs.size = s.heap.objs.size + 1 := Heap.size_push ..
  dsimp only
  rw [e1]
  exact codeAny_compStart_list (loop _ rfl) (T.self _ 0 _ _ _ (T.keep _ _ _ st fun b _ o e => pushCells_keeps _ _ b o (Heap.get?_push_of_some _ (Heap.get?_push_of_some _ e))) (loop _ rfl))

/-- the block's frame is let go -/
theorem Inv.letgo {pins : List (Addr × Obj)} {σ σ1 : St} {H H1 : Hp} {s s1 : Shared} {h' : Heap} (I : Inv X pins σ H s) (I1 : Inv X pins σ1 H1 s1) (hn : H1 (s.heap.objs.size + 1) = none) (sb : Heap.SameBut (s.heap.objs.size + 1) s1.heap h') : Inv X pins σ1 H1 { s1 with heap := h' } := by
  have ne : ∀ b o, s.heap.get? b = some o → b ≠ s.heap.objs.size + 1 := fun b o e => Nat.ne_of_lt (Nat.lt_succ_of_lt (Heap.lt_size e))
  refine I1.turned (it := s.heap.objs.size + 1) (t' := s1.toks) (fun b o hb e => (sb.2 b hb).trans e) hn (Nat.ne_of_gt (Nat.lt_succ_of_lt I.lt)) (.inr (Nat.le_succ_of_le I.sz)) (fun y c e => ?_) (fun p hp => ne _ _ (I.pin p hp).1)
  obtain ⟨v, w⟩ := I.cell y c e
  exact Nat.ne_of_lt (Nat.lt_succ_of_lt w.lt)

theorem pe_lcomp {elt iter tg : Expr} {pos : Pos} {wi : TI} {g : TG} {te : TE} (hc : X.calm = true) (hi : PI X tg iter wi) (B : Blk sc.names X.env.scope.names own N2 X.N) (hk : sc.kind = .function)
    (hg : ∀ s H fp, PG (X.comp sc (own ++ N2) s H fp) tg g) (he : ∀ s H fp, PE (X.comp sc (own ++ N2) s H fp) elt te)
    (hs : ∀ x, foldedSetIterable iter X.env x = pure x := by intro _; rfl) : PE X (.ListComp elt [⟨tg, iter, [], 0⟩] sc pos) (tComp own.length wi g te) := by
  intro pins s0 σ H0 Q I0 h0
  rw [eval_ListComp]
  refine lcomp_core (use := none) hc hi B hk hg he hs I0 h0 fun s H fp I hf σ' H' s' JB q => ?_
  obtain ⟨m, hn, _⟩ := JB.loc
  exact ⟨m, hn, fun h' sb => ⟨.ref s.heap.objs.size, H', I.letgo (I.uncomp hf JB) JB.free sb, rfl, q⟩⟩

/-- y = [e for tg in iter], y a local name -/
theorem ps_lcomp {i : Nat} {y : Str} {py spos : Pos} {elt iter tg : Expr} {pos : Pos} {wi : TI} {g : TG} {te : TE} (hN : X.N.Nodup) (hi' : X.N[i]? = some y) (hy : X.env.scope.names.lookup y = some .local) (hc : X.calm = true) (hi : PI X tg iter wi) (B : Blk sc.names X.env.scope.names own N2 X.N) (hk : sc.kind = .function)
    (hg : ∀ s H fp, PG (X.comp sc (own ++ N2) s H fp) tg g) (he : ∀ s H fp, PE (X.comp sc (own ++ N2) s H fp) elt te)
    (hsw : swapsWith (.ListComp elt [⟨tg, iter, [], 0⟩] sc pos) (some (.Name y py)) spos.line X.env = pure true := by rfl) (hs : ∀ x, foldedSetIterable iter X.env x = pure x := by intro _; rfl) :
    PS X (.Assign [.Name y py] (.ListComp elt [⟨tg, iter, [], 0⟩] sc pos) spos) (tAsg (tComp own.length wi g te) (gName i)) := by
  intro pins s0 σ H0 D I0 h0
  rw [exec_Assign_Name_used _ _ _ _ hsw]
  refine wpAny_bind (wpAny_standAt (wpAny_bind ?_))
  show wpAny _ X.A (do let _ ← comprehension (.ListComp elt [⟨tg, iter, [], 0⟩] sc pos) sc X.env _ (newList []) false (eval iter X.env) (some (assign (.Name y py) X.env))) _ _ s0
  refine wpAny_bind (wpAny_mono (lcomp_core (use := some (assign (.Name y py) X.env)) (Qf := fun _ s' => SP X pins D .next s') hc hi B hk hg he hs I0 h0 fun s H fp I hf σ' H' s' JB q => ?_) (fun _ s' hq => wpAny_pure (wpAny_pure hq)) fun _ _ e => e)
  have IX := I.uncomp hf JB
  refine wpAny_assign_Name (store_ok2 IX hN hi' (.inl hy) (v := .ref s.heap.objs.size) rfl (fun s2 I2 ⟨a, sb2, ha⟩ => ?_) (.inr hy))
  obtain ⟨m, hn, _⟩ := JB.loc
  have ea : a = X.env.locals ∨ a < s.heap.objs.size := by
    rcases ha with z | z
    · exact .inl z
    · obtain ⟨v, w⟩ := I.cell y a z
      exact .inr w.lt
  have neC : s.heap.objs.size + 1 ≠ a := by
    rcases ea with z | z
    · rw [z]; exact Nat.ne_of_gt (Nat.lt_succ_of_lt I.lt)
    · exact Nat.ne_of_gt (Nat.lt_succ_of_lt z)
  refine ⟨m, hn.sameBut sb2 neC, fun h' sb => ⟨_, H', I.letgo I2 JB.free sb, q⟩⟩
end
end L2

namespace L2
open PySem PySem.Spec PyProof.Rows

/-- a code object's table, however far it has grown -/
def tabO (P : Addr) : HO := .ext fun h => ∃ ps : Array Value, h.get? P = some { cls := .none, data := .fields ps } ∧ TriplesOk ps.toList
structure CodeAt (K : PySem.W.Frag) (cd : Value) (P : Addr) : Prop where
  ex : ∃ (c : Addr) (o : Obj) (vs : Array Value) (file : Str) (tf : Tok) (flags : Int) (tg : Tok) (inF : Bool) (text : Int) (tt : Tok), cd = .ref c ∧ K.lookup c = some o ∧ o.cls = .type "code" ∧ o.data = .fields vs ∧ vs[11]? = some (.ref P) ∧
    vs.getD 18 .none = .str file tf ∧ vs.getD 7 .none = .int flags tg ∧ vs.getD 9 .none = .bool inF ∧ vs.getD 10 .none = .int text tt
theorem tab_ok {P : Program} {w : World} {H : Hp} {h : Heap} {T : Addr} {ps : Array Value} (e : h.get? T = some { cls := .none, data := .fields ps }) (t : TriplesOk ps.toList) : ObjOk P w H h T (tabO T) :=
  ⟨⟨ps, e, t⟩, ⟨_, e⟩, fun h1 h2 ⟨qs, e1, t1⟩ k => ⟨qs, k _ e1, t1⟩⟩
theorem upd_self {H : Hp} {a : Addr} {o : HO} (h : H a = some o) : upd H a o = H := by
  funext b
  unfold upd
  split
  · rename_i e; rw [e, h]
  · rfl

section
variable {X : Cx} {pins : List (Addr × Obj)} {σ : St} {H : Hp} {s : Shared} {P : Addr}

theorem wp_gencode {pos : Pos} {qn : Str} {sc : Scope} {Q : Value → Shared → Prop} {E : Value → Shared → Prop} {M : Model} {A : Around} (I : Inv X pins σ H s) (hcd : CodeAt X.K X.env.code P) (hP : H P = some (tabO P))
    (h : ∀ code h' tk, Inv X pins σ H { s with heap := h', toks := tk } → Heap.ExtBut P s.heap h' → Q code { s with heap := h', toks := tk }) : wpAny M A (genexprCode X.env pos qn sc) Q E s := by
  obtain ⟨c, o, vs, file, tf, flags, tg, inF, text, tt, ec, hc, hcl, hd, h11, h18, h7, h9, h10⟩ := hcd.ex
  obtain ⟨⟨ps, eP, tr⟩, _, _⟩ := I.hok P _ hP
  have hcs : s.heap.get? c = some o := I.kIn c o hc
  have hcn : H c = none := (I.bs c o (I.ok.mod.kin c o hc)).2
  have ne : c ≠ P := fun e => by rw [e, hP] at hcn; cases hcn
  have h11' : vs.getD 11 .none = .ref P := by
    have : vs.getD 11 .none = (vs[11]?).getD .none := by simp
    rw [this, h11]; rfl
  have code : s.heap.IsCode c P ps := ⟨o, vs, file, tf, flags, tg, inF, text, tt, _, hcs, hd, h11', h18, h7, h9, h10, eP, rfl, tr, ne⟩
  have tab : s.heap.TableAt c P ps := ⟨⟨o, vs, hcs, hcl, hd, h11⟩, eP⟩
  cases q : codeAmong pos ps.toList with
  | some c' => exact wpAny_genexprCode_hit ec code q (h c' s.heap s.toks I (fun _ _ _ e => e))
  | none =>
    refine wpAny_genexprCodeX ec code tab q fun c' h' tk hx _ _ hcode' _ htab' _ => h _ h' tk ?_ hx
    have I' := I.write (x := P) (e := P) (o := tabO P) (h' := h') (t' := tk) (by rw [hP]; exact trivial) (.inl rfl) (fun b u hb e => hx b u hb e) ⟨_, htab'.2⟩
      (tab_ok htab'.2 (by obtain ⟨_, _, _, _, _, _, _, _, _, op, _, _, _, _, _, _, _, e1, e2, e3, _⟩ := hcode'; rw [htab'.2] at e1; cases e1; exact e3))
    rw [upd_self hP] at I'
    exact I'
end

/-- the module's __builtins__ -/
def BM (mg : Str → Option Value) (base : Heap) : Prop := ∃ bm ob, mg "__builtins__" = some (.ref bm) ∧ bm ≠ builtinsNs ∧ base.get? bm = some ob ∧ ob.cls = .type "module" ∧ ob.dict = some builtinsNs ∧ ob.data = .plain

def genA (B : Around) (cenv : Env) : Around := { handled := B.handled, depth := B.depth + 1, frames := B.frames.map (cenv :: ·), guards := B.guards, units := B.units + 3 }

/-- the context of a generator expression's block. s, H: the state when its iterator and its code have come; B: what is around the one who asks it -/
def Cx.gen (X : Cx) (B : Around) (sc : Scope) (N' : List Str) (code : Value) (s : Shared) (H : Hp) (fp : List Addr) : Cx :=
  { X with
    N := N'
    s₀ := { s with gens := s.gens.push .running }
    H₀ := H
    A := genA B (genEnv sc (closOf X.env sc.names []) s.heap.objs.size code builtinsNs X.env)
    env := genEnv sc (closOf X.env sc.names []) s.heap.objs.size code builtinsNs X.env
    outer := X.stack
    stack := genEnv sc (closOf X.env sc.names []) s.heap.objs.size code builtinsNs X.env :: X.stack
    ex := fp
    fn := fun _ => false
    pn := []
    xe := fun _ _ => False }

section
variable {X : Cx} {pins : List (Addr × Obj)} {σ : St} {H : Hp} {s : Shared} {sc : Scope} {own N2 : List Str} {fp : List Addr} {B : Around} {code : Value}

theorem kinds_vis {sc : Scope} {y : Str} (hv : Vis sc y) : ∃ k, sc.names.lookup y = some k ∧ (k = .local ∨ k = .cell ∨ k = .free) := by
  rcases hv with e | e | e
  · exact ⟨_, e, .inl rfl⟩
  · exact ⟨_, e, .inr (.inl rfl)⟩
  · exact ⟨_, e, .inr (.inr rfl)⟩
theorem nocell_cells {n : Nat} : ∀ {ns : List (Str × NameKind)} {acc : List (Str × Addr)}, (∀ y ∈ ns, y.2 ≠ .cell) → cellsFrom n ns acc = acc
  | [], _, _ => rfl
  | (y, k) :: r, acc, h => by
    unfold cellsFrom
    have hk : (k == NameKind.cell) = false := by simpa using h (y, k) List.mem_cons_self
    rw [hk]
    exact nocell_cells fun z hz => h z (List.mem_cons_of_mem _ hz)

theorem ok_gen (I : Inv X pins σ H s) (Bk : Blk sc.names X.env.scope.names own N2 X.N) (hk : sc.kind = .function) (hnc : ∀ y ∈ sc.names, y.2 ≠ .cell) (hf : ∀ b ∈ fp, FpOk X pins H b) (ho : ∀ b ∈ fp, ∃ o, s.heap.get? b = some o)
    (hB : B.frames = some X.stack) (hh : B.handled = none) : (X.gen B sc (own ++ N2) code s H fp).Ok := by
  have lt : ∀ b ∈ fp, b < s.heap.objs.size := fun b hb => let ⟨o, e⟩ := ho b hb; Heap.lt_size e
  have cellb : ∀ y c, (closOf X.env sc.names []).lookup y = some c → (y, NameKind.free) ∈ sc.names ∧ X.env.cells.lookup y = some c := fun y c h => by
    have h' : (cellsFrom 0 sc.names (closOf X.env sc.names [])).lookup y = some c := by rw [nocell_cells hnc]; exact h
    rcases cells_split I Bk (mem_of_lookup h') with ⟨_, q⟩ | q
    · exact absurd rfl (hnc _ q)
    · exact q
  refine ⟨I.ok.mod, hk, I.ok.glob, rfl, Nat.le_refl _, fun x y c h1 h2 => ?_, fun y hy => ?_, fun y c hy hc => absurd hy (by show ¬ (false = true); decide), fun _ => hh, ?_, .inr ⟨rfl, rfl⟩, fun b hb => ⟨?_, fun y c hc => ?_⟩, I.bs, Nat.le_trans I.ok.bsz I.sz, fun b o e hb => ?_, fun b hb hs => ?_, I.stack, I.stkFree⟩
  · exact I.ok.inj x y c (cellb x c h1).2 (cellb y c h2).2
  · have hy' : sc.names.lookup y = some .cell ∨ sc.names.lookup y = some .free := hy
    rcases hy' with e | e
    · exact absurd rfl (hnc _ (mem_of_lookup e))
    · obtain ⟨c, hc⟩ := clos_has I Bk y (mem_of_lookup e)
      have := cells_free (n := 0) I Bk (mem_of_lookup e) hc
      rw [nocell_cells hnc] at this
      exact ⟨c, this⟩
  · show B.frames.map _ = _
    rw [hB]; rfl
  · exact Nat.ne_of_lt (lt b hb)
  · exact (hf b hb).2.2.2.2.1 y c (cellb y c hc).2
  · rcases (hf b hb).2.2.2.1 with z | z
    · exact I.ok.noex b o e z
    · exact absurd (Nat.lt_of_lt_of_le (Heap.lt_size (I.ok.bs b o e).1) z) (Nat.lt_irrefl _)
  · rcases List.mem_cons.mp (I.stkSub b hs) with e | e
    · exact (hf b hb).2.1 e
    · exact (hf b hb).2.2.1 e

/-- the block as it stands when the generator has been made -/
theorem inv_gen {h' : Heap} {tk : Nat} {m : Str → Option Value} (I : Inv X pins σ H s) (Bk : Blk sc.names X.env.scope.names own N2 X.N) (hk : sc.kind = .function) (hnc : ∀ y ∈ sc.names, y.2 ≠ .cell) (hf : ∀ b ∈ fp, FpOk X pins H b) (ho : ∀ b ∈ fp, ∃ o, s.heap.get? b = some o)
    (hB : B.frames = some X.stack) (hh : B.handled = none) (hn : h'.Ns s.heap.objs.size m) (keep : ∀ b o, s.heap.get? b = some o → h'.get? b = some o) :
    Inv (X.gen B sc (own ++ N2) code s H fp) [] (List.replicate own.length none ++ σ) H { s with heap := h', toks := tk, gens := s.gens.push .running } := by
  have cellb : ∀ y c, (closOf X.env sc.names []).lookup y = some c → (y, NameKind.free) ∈ sc.names ∧ X.env.cells.lookup y = some c := fun y c h => by
    have h' : (cellsFrom 0 sc.names (closOf X.env sc.names [])).lookup y = some c := by rw [nocell_cells hnc]; exact h
    rcases cells_split I Bk (mem_of_lookup h') with ⟨_, q⟩ | q
    · exact absurd rfl (hnc _ q)
    · exact q
  refine ⟨ok_gen I Bk hk hnc hf ho hB hh, rfl, .refl (I.bare.bare.push rfl), Un.kept keep, ⟨m, hn, fun i y v e1 e2 e3 => ?_⟩, fun y c hc => ?_, I.fresh, fun y c hc => I.freeC y c (cellb y c hc).2, fun p hp => ?_, I.hok.kept keep, ?_⟩
  · by_cases hi : i < own.length
    · rw [List.getElem?_append_left (by simpa using hi), List.getElem?_replicate] at e2
      split at e2 <;> cases e2
    · have e1' : (own ++ N2)[i]? = some y := e1
      have hi' : own.length ≤ i := by omega
      rw [List.getElem?_append_right (by simpa using hi'), List.length_replicate] at e2
      rw [List.getElem?_append_right hi'] at e1'
      have hown : y ∉ own := fun hm => by
        have nd := Bk.ndN
        rw [List.nodup_append] at nd
        exact nd.2.2 y hm y (List.mem_of_getElem? e1') rfl
      refine look_in I Bk (n := 0) e1' e2 (nocell_cells hnc).symm (fun z hz => .inr (lookup_of_mem_nd Bk.nd hz)) (fun hv => let ⟨k, e, _⟩ := kinds_vis hv; ⟨k, e⟩) hown keep e3 (fun k e => ?_)
      obtain ⟨k', e', hk'⟩ := kinds_vis e3
      have e2' : sc.names.lookup y = some k' := e'
      rw [e] at e2'; cases e2'
      exact hk'
  · obtain ⟨v, w⟩ := I.cell y c (cellb y c hc).2
    exact ⟨v, w.keeps keep⟩
  · have hp' : p ∈ ([] : List (Addr × Obj)) := hp
    cases hp'
  · show (List.replicate own.length none ++ σ).length = (own ++ N2).length
    rw [List.length_append, List.length_append, List.length_replicate, I.len, Bk.len]

/-- back from the block: the generator's own state may be any that wants no cleanup -/
theorem Inv.ungen {σ' : St} {H' : Hp} {s' : Shared} {N' : List Str} {pl : List (Addr × Obj)} {gs : GenState} (I : Inv X pins σ H s) (hf : ∀ b ∈ fp, FpOk X pins H b) (hb : gs.bare = true) (J : Inv (X.gen B sc N' code s H fp) pl σ' H' s') :
    Inv X pins σ H' (s'.setGen s.gens.size gs) := by
  have sz : s.gens.size + 1 ≤ s'.gens.size := by
    have := J.bare.size
    simpa [Cx.gen] using this
  refine I.call' (ch := fp) J.os J.base J.hok ⟨?_, ?_, fun k hk => ?_⟩ fun b hb => ⟨(hf b hb).2.2.2.1, (hf b hb).2.1, (hf b hb).2.2.2.2.1, (hf b hb).2.2.2.2.2⟩
  · intro y hy
    simp only [Shared.setGen] at hy
    rcases Array.mem_or_eq_of_mem_setIfInBounds hy with q | q
    · exact J.bare.bare y q
    · rw [q]; exact hb
  · simp only [Shared.setGen, Array.size_setIfInBounds]
    omega
  · have e := J.bare.old k (by simp [Cx.gen]; omega)
    simp only [Shared.setGen]
    rw [Array.getElem?_setIfInBounds_ne (by omega), e]
    show (s.gens.push .running)[k]? = s.gens[k]?
    rw [Array.getElem?_push_lt (by omega)]
    simp [hk]
end
end L2

namespace L2
open PySem PySem.Spec PyProof.Rows

theorem over_loop {B : Around} {elt : Expr} {gens : List Comprehension} {sc : Scope} {pos : Pos} {it acc : Value} {cenv : Env} :
    B.over (.compLoop (.GeneratorExp elt gens sc pos) 0 it acc cenv) [] = genA B cenv := by
  unfold Around.over genA
  congr 1
section
variable (X : Cx) (B : Around) (sc : Scope) (N' : List Str) (code : Value) (sC : Shared) (HC : Hp) (fp Ss : List Addr) (tn : Nat → Heap → Prop) (cnt : Nat) (R : Nat → V → Prop) (W : Nat → St → Hp → Prop)
/-- what a yield of the generator says -/
def gYield : Protocol := fun n s₀ v s kap => ∃ pl σ' H' x, (∀ p ∈ pl, p.1 ∉ Ss) ∧ Inv (X.gen B sc N' code sC HC fp) (pinsAt Ss s₀.heap ++ pl) σ' H' s ∧ tn (cnt - n) s.heap ∧ (∀ b ∈ fp, H' b = none) ∧ RelV x v ∧ R (cnt - n - 1) x ∧ W (cnt - n) σ' H' ∧
  ∀ s'' : Shared, (∀ b ∈ Ss, ∃ o, s''.heap.get? b = some o) → Inv (X.gen B sc N' code sC HC fp) (pinsAt Ss s''.heap ++ pl) σ' H' s'' → tn (cnt - n) s''.heap → kap (.send .none) s''
/-- what its end says -/
def gEnd : GenEnd := fun n s₀ r s₁ => r = .ok .next ∧ n = 0 ∧ ∃ σ' H', Inv (X.gen B sc N' code sC HC fp) (pinsAt Ss s₀.heap) σ' H' s₁ ∧ W cnt σ' H'
end

section
variable {X : Cx} {B : Around} {sc : Scope} {N' : List Str} {code : Value} {sC : Shared} {HC : Hp} {fp Ss : List Addr} {tn : Nat → Heap → Prop} {cnt : Nat} {R : Nat → V → Prop} {W : Nat → St → Hp → Prop}
variable {elt iter tg : Expr} {pos : Pos} {it : Addr} {J : It} {g : TG} {te : TE}

theorem mem_pins_of {Ss : List Addr} {h : Heap} {p : Addr × Obj} (hp : p ∈ pinsAt Ss h) : p.1 ∈ Ss := (of_pinsAt hp).1

theorem fp_gen {pl : List (Addr × Obj)} {σ' : St} {H' H2 : Hp} {s : Shared} (I : Inv (X.gen B sc N' code sC HC fp) pl σ' H2 s) (hn : ∀ b ∈ fp, H' b = none) (hd : ∀ p ∈ pl, p.1 ∉ fp) : ∀ b ∈ fp, FpOk (X.gen B sc N' code sC HC fp) pl H' b := fun b hb => by
  have ok := I.ok
  refine ⟨hn b hb, (ok.exf b hb).1, ok.exfs b hb, .inl hb, fun y c hc => (ok.exf b hb).2 y c hc, fun p hp e => ?_⟩
  have hp' : p ∈ pl := by simpa [Cx.gen] using hp
  exact hd p hp' (by rw [e]; exact hb)

theorem seg_gen (hco : sc.isCoroutine = false) (hc : X.calm = true) (T : Turn X.prog X.w X.K tg J fp it tn) (hg : PG (X.gen B sc N' code sC HC fp) tg g) (he : PE (X.gen B sc N' code sC HC fp) elt te) (hdis : ∀ b ∈ fp, b ∉ Ss)
    (turn : ∀ i σ' H', i < cnt → W i σ' H' → J.go i H' ∧ ∀ x H2, J.yld i H' x H2 → g x σ' H2 fun σ3 H3 => te σ3 H3 fun v H4 => R i v ∧ W (i + 1) σ3 H4)
    (stop : ∀ σ' H', W cnt σ' H' → J.stop cnt H') :
    ∀ (n i : Nat) (σ' : St) (H' : Hp) (s₀ s : Shared), n + i = cnt → W i σ' H' → Inv (X.gen B sc N' code sC HC fp) (pinsAt Ss s₀.heap) σ' H' s → tn i s.heap → (∀ b ∈ fp, H' b = none) →
      Seg (model X.prog X.w) B (gEnd X B sc N' code sC HC fp Ss cnt W) (gYield X B sc N' code sC HC fp Ss tn cnt R W) n s₀ (.compLoop (.GeneratorExp elt [⟨tg, iter, [], 0⟩] sc pos) 0 (.ref it) .none (X.gen B sc N' code sC HC fp).env)
        ((model X.prog X.w).den (.compLoop (.GeneratorExp elt [⟨tg, iter, [], 0⟩] sc pos) 0 (.ref it) .none (X.gen B sc N' code sC HC fp).env)) [] s := by
  have hdp : ∀ {h : Heap}, ∀ p ∈ pinsAt Ss h, p.1 ∉ fp := fun p hp hb => hdis p.1 hb (mem_pins_of hp)
  intro n
  induction n with
  | zero =>
    intro i σ' H' s₀ s hn w I st fr
    obtain rfl : i = cnt := by omega
    show Seg _ B _ _ _ s₀ _ ((compTurn (.GeneratorExp elt [⟨tg, iter, [], 0⟩] sc pos) 0 (.ref it) .none (X.gen B sc N' code sC HC fp).env).onRaise (leaving (X.gen B sc N' code sC HC fp).env)) [] s
    rw [compTurn_gen, Sem.onRaise_eq_wrap]
    refine seg_bind_wrap (wpAny_standAt ?_)
    refine seg_bind_wrap ?_
    rw [over_loop]
    refine thn (T.done (X.gen B sc N' code sC HC fp) rfl rfl rfl hc i _ s σ' H' _ I (fp_gen I fr hdp) st (stop σ' H' w)) fun r s1 ⟨hr, I1⟩ => ?_
    subst hr
    exact seg_end (.ok .next) ⟨rfl, rfl, σ', H', I1, w⟩
  | succ n ih =>
    intro i σ' H' s₀ s hn w I st fr
    have hi : i < cnt := by omega
    obtain ⟨go, step⟩ := turn i σ' H' hi w
    show Seg _ B _ _ _ s₀ _ ((compTurn (.GeneratorExp elt [⟨tg, iter, [], 0⟩] sc pos) 0 (.ref it) .none (X.gen B sc N' code sC HC fp).env).onRaise (leaving (X.gen B sc N' code sC HC fp).env)) [] s
    rw [compTurn_gen, Sem.onRaise_eq_wrap]
    refine seg_bind_wrap (wpAny_standAt ?_)
    refine seg_bind_wrap ?_
    rw [over_loop]
    refine thn (T.item (X.gen B sc N' code sC HC fp) rfl rfl rfl hc i _ s σ' H' _ I (fp_gen I fr hdp) st go) fun r s1 ⟨u, hr, h1⟩ => ?_
    subst hr
    refine seg_bind_wrap ?_
    rw [over_loop]
    refine wpAny_mono h1 (fun _ s2 ⟨x, H2, I2, r2, y2, st2, fr2⟩ => ?_) fun _ _ z => z
    have I2' := I2.pinned (fp_gen I2 fr2 hdp) (T.obj _ _ st2)
    refine seg_bind_wrap ?_
    rw [over_loop]
    refine wpAny_mono (hg _ s2 σ' H2 x u _ I2' r2 (step x H2 y2)) (fun _ s3 ⟨σ3, H3, I3, q3⟩ => ?_) fun _ _ z => z.elim
    simp only [List.forIn_nil, if_true]
    refine seg_bind_wrap (wpAny_pure ?_)
    have hy : ∀ v, yieldOut (X.gen B sc N' code sC HC fp).env v = yieldValue v := fun v => by
      have q : (X.gen B sc N' code sC HC fp).env.scope.isCoroutine = false := hco
      simp only [yieldOut, q, Bool.false_eq_true, if_false]
    simp only [if_true, hy]
    rw [Sem.bind_eq_wrap', Sem.bind_eq_wrap', Sem.wrap_wrap, Sem.wrap_wrap]
    refine seg_wrap ?_
    rw [over_loop]
    refine wpAny_mono (he _ s3 σ3 H3 _ I3 q3) (fun v s4 ⟨y, H4, I4, r4, hR, w4⟩ => ?_) fun _ _ z => z.elim
    have st4 : tn (i + 1) s4.heap := T.keep _ _ _ st2 fun b hb o e => (I4.pin (b, o) (List.mem_append_right _ (List.mem_append_right _ (mem_pinsAt hb e)))).1
    have fr4 : ∀ b ∈ fp, H4 b = none := fun b hb => by
      obtain ⟨o, e, d⟩ := T.obj _ _ st2 b hb
      exact (I4.pin (b, o) (List.mem_append_right _ (List.mem_append_right _ (mem_pinsAt hb e)))).2.1
    have ei : cnt - n = i + 1 := by omega
    refine seg_at (seg_yield rfl rfl rfl ⟨[], σ3, H4, y, (fun _ h => nomatch h), (by rw [List.append_nil]; exact I4.unpinned), by rw [ei]; exact st4, fr4, r4, by rw [ei]; exact hR, by rw [ei]; exact w4, fun s'' _ I'' st'' => ?_⟩)
    rw [ei] at st''
    rw [List.append_nil] at I''
    exact seg_again rfl (ih (i + 1) σ3 H4 s'' s'' (by omega) w4 I'' st'' fr4)
end
end L2

namespace L2
open PySem PySem.Spec PyProof.Rows

theorem set_back {s : Shared} {g : Nat} {gs : GenState} (h : s.gens[g]? = some .running) : (s.setGen g gs).setGen g .running = s := by
  obtain ⟨hh, gens, d, t, os⟩ := s
  have hlt : g < gens.size := by
    rcases Nat.lt_or_ge g gens.size with q | q
    · exact q
    · have z : gens[g]? = none := Array.getElem?_eq_none q
      have h' : gens[g]? = some .running := h
      rw [z] at h'; cases h'
  have q : (gens.setIfInBounds g gs).setIfInBounds g .running = gens := by
    apply Array.ext_getElem?
    intro i
    by_cases e : g = i
    · subst e
      rw [Array.getElem?_setIfInBounds_self_of_lt (by simpa using hlt)]
      exact h.symm
    · rw [Array.getElem?_setIfInBounds_ne e, Array.getElem?_setIfInBounds_ne e]
  show ({ heap := hh, gens := (gens.setIfInBounds g gs).setIfInBounds g .running, drawn := d, toks := t, os := os } : Shared) = _
  rw [q]
theorem pinsAt_congr : ∀ {Ss : List Addr} {h h' : Heap}, (∀ b ∈ Ss, ∃ o, h.get? b = some o ∧ h'.get? b = some o) → pinsAt Ss h' = pinsAt Ss h
  | [], _, _, _ => rfl
  | b :: r, h, h', k => by
    obtain ⟨o, e1, e2⟩ := k b List.mem_cons_self
    unfold pinsAt
    rw [List.filterMap_cons, List.filterMap_cons, e1, e2]
    show (b, o) :: pinsAt r h' = (b, o) :: pinsAt r h
    rw [pinsAt_congr fun c hc => k c (List.mem_cons_of_mem _ hc)]

section
variable (X : Cx) (B : Around) (sc : Scope) (N' : List Str) (code : Value) (sC : Shared) (HC : Hp) (fp Ss : List Addr) (tn : Nat → Heap → Prop) (cnt : Nat) (R : Nat → V → Prop) (W : Nat → St → Hp → Prop)
/-- the generator at a, at rest ahead of its turn i -/
structure GAt (a : Addr) (i : Nat) (s : Shared) : Prop where
  gen : s.heap.IsGen a sC.gens.size
  ex : ∃ gs pl σ' H', (∀ p ∈ pl, p.1 ∉ Ss) ∧ s.gens[sC.gens.size]? = some gs ∧ gs.bare = true ∧ Inv (X.gen B sc N' code sC HC fp) (pinsAt Ss s.heap ++ pl) σ' H' (s.setGen sC.gens.size .running) ∧ tn i s.heap ∧ (∀ b ∈ fp, H' b = none) ∧ W i σ' H' ∧
    ∀ s'' : Shared, (∀ b ∈ Ss, ∃ o, s''.heap.get? b = some o) → Inv (X.gen B sc N' code sC HC fp) (pinsAt Ss s''.heap ++ pl) σ' H' s'' → tn i s''.heap → gs.Goes (model X.prog X.w) B (gEnd X B sc N' code sC HC fp Ss cnt W) (gYield X B sc N' code sC HC fp Ss tn cnt R W) (cnt - i) (.send .none) s''
end

section
variable {X : Cx} {D : Around} {sc : Scope} {N' : List Str} {code : Value} {sC : Shared} {HC : Hp} {fp Ss : List Addr} {tn : Nat → Heap → Prop} {cnt : Nat} {R : Nat → V → Prop} {W : Nat → St → Hp → Prop} {a : Addr} {i : Nat} {s : Shared}

theorem Inv.nolim {pl : List (Addr × Obj)} {σ' : St} {H' : Hp} {s' : Shared} (I : Inv X pl σ' H' s') : s'.heap.NoLimit := I.nolimit

theorem running_of {B : Around} {pl : List (Addr × Obj)} {σ' : St} {H' : Hp} {s' : Shared} (I : Inv (X.gen B sc N' code sC HC fp) pl σ' H' s') : s'.gens[sC.gens.size]? = some .running := by
  have e := I.bare.old sC.gens.size (by simp [Cx.gen])
  rw [e]
  show (sC.gens.push .running)[sC.gens.size]? = _
  simp

/-- the next item -/
theorem GAt.item {Q : Option Value → Shared → Prop} {E : Value → Shared → Prop} (G : GAt X D.in1 sc N' code sC HC fp Ss tn cnt R W a i s) (hh : D.handled = none) (hroom : D.depth < recursionLimit) (ha : a ∈ Ss) (hs : ∀ b ∈ Ss, ∃ o, s.heap.get? b = some o) (hi : i < cnt)
    (hQ : ∀ v x s', RelV x v → R i x → GAt X D.in1 sc N' code sC HC fp Ss tn cnt R W a (i + 1) s' → (∀ b ∈ Ss, ∀ o, s.heap.get? b = some o → s'.heap.get? b = some o) → Q (some v) s') :
    wpAny (model X.prog X.w) D (pyNext (.ref a)) Q E s := by
  obtain ⟨gs, pl, σ', H', hpl, e1, e2, I, st, fr, w, go⟩ := G.ex
  have gg := go (s.setGen sC.gens.size .running) hs I st
  obtain ⟨m, hm⟩ : ∃ m, cnt - i = m + 1 := ⟨cnt - i - 1, by omega⟩
  rw [hm] at gg
  refine wpAny_pyNext_genexpQ (P := fun n s₀ s₁ => n = 0 ∧ ∃ σ' H', Inv (X.gen D.in1 sc N' code sC HC fp) (pinsAt Ss s₀.heap) σ' H' s₁ ∧ W cnt σ' H') hh I.nolim hroom G.gen e1 gg (fun v s1 gs' hb hy => ?_) (fun s1 hp => ?_)
  · obtain ⟨pl1, σ1, H1, x, hpl1, I1, st1, fr1, r1, hR, w1, go1⟩ := hy
    have ei : cnt - (m + 1 - 1) = i + 1 := by omega
    rw [ei] at st1 w1 go1 hR
    have kp : ∀ b ∈ Ss, ∀ o, s.heap.get? b = some o → s1.heap.get? b = some o := fun b hb o e => (I1.pin (b, o) (List.mem_append_right _ (List.mem_append_left _ (mem_pinsAt hb e)))).1
    have eq : pinsAt Ss s1.heap = pinsAt Ss s.heap := pinsAt_congr fun b hb => let ⟨o, e⟩ := hs b hb; ⟨o, e, kp b hb o e⟩
    have run := running_of I1
    refine hQ v x _ r1 hR ⟨?_, gs', pl1, σ1, H1, hpl1, setGen_self run, hb, ?_, st1, fr1, w1, ?_⟩ kp
    · obtain ⟨o, nm, qn, eo, r⟩ := G.gen
      exact ⟨o, nm, qn, kp a ha o eo, r⟩
    · rw [set_back run]
      show Inv _ (pinsAt Ss s1.heap ++ pl1) σ1 H1 s1
      rw [eq]
      exact I1
    · have e3 : cnt - (i + 1) = m := by omega
      rw [e3]
      exact go1
  · exact absurd hp.1 (by omega)
/-- its end -/
theorem GAt.done {pins : List (Addr × Obj)} {σ : St} {Q : Option Value → Shared → Prop} {E : Value → Shared → Prop} (G : GAt X D.in1 sc N' code sC HC fp Ss tn cnt R W a cnt s) (IC : Inv X pins σ HC sC) (hf : ∀ b ∈ fp, FpOk X pins HC b) (hh : D.handled = none) (hroom : D.depth < recursionLimit) (hs : ∀ b ∈ Ss, ∃ o, s.heap.get? b = some o)
    (hQ : ∀ s' σ' H', Inv X pins σ H' s' → W cnt σ' H' → Q none s') :
    wpAny (model X.prog X.w) D (pyNext (.ref a)) Q E s := by
  obtain ⟨gs, pl, σ', H', hpl, e1, e2, I, st, fr, w, go⟩ := G.ex
  have gg := go (s.setGen sC.gens.size .running) hs I st
  rw [Nat.sub_self] at gg
  refine wpAny_pyNext_genexpQ (P := fun n s₀ s₁ => n = 0 ∧ ∃ σ' H', Inv (X.gen D.in1 sc N' code sC HC fp) (pinsAt Ss s₀.heap) σ' H' s₁ ∧ W cnt σ' H') hh I.nolim hroom G.gen e1 gg (fun v s1 gs' hb hy => ?_) (fun s1 hp h' k => ?_)
  · obtain ⟨pl1, σ1, H1, x, hpl1, I1, st1, fr1, r1, hR, w1, go1⟩ := hy
    have kp : ∀ b ∈ Ss, ∀ o, s.heap.get? b = some o → s1.heap.get? b = some o := fun b hb o e => (I1.pin (b, o) (List.mem_append_right _ (List.mem_append_left _ (mem_pinsAt hb e)))).1
    have eq : pinsAt Ss s1.heap = pinsAt Ss s.heap := pinsAt_congr fun b hb => let ⟨o, e⟩ := hs b hb; ⟨o, e, kp b hb o e⟩
    exact False.elim (go1 s1 (fun b hb => let ⟨o, e⟩ := hs b hb; ⟨o, kp b hb o e⟩) (by rw [eq]; exact I1) st1)
  · obtain ⟨_, σ1, H1, I1, w1⟩ := hp
    have I2 := Inv.ungen (gs := .finished) IC hf rfl I1
    exact hQ _ σ1 H1 (I2.kept (t' := s1.toks) k) w1
end
end L2

namespace L2
open PySem PySem.Spec PyProof.Rows

section
variable {X : Cx} {B : Around} {sc : Scope} {N' : List Str} {code : Value} {sC : Shared} {HC : Hp} {fp Ss : List Addr} {tn : Nat → Heap → Prop} {cnt : Nat} {R : Nat → V → Prop} {W : Nat → St → Hp → Prop}
variable {elt iter tg : Expr} {pos : Pos} {it : Addr} {J : It} {g : TG} {te : TE}

theorem seg_gen0 (hco : sc.isCoroutine = false) (hc : X.calm = true) (T : Turn X.prog X.w X.K tg J fp it tn) (hg : PG (X.gen B sc N' code sC HC fp) tg g) (he : PE (X.gen B sc N' code sC HC fp) elt te) (hdis : ∀ b ∈ fp, b ∉ Ss)
    (turn : ∀ i σ' H', i < cnt → W i σ' H' → J.go i H' ∧ ∀ x H2, J.yld i H' x H2 → g x σ' H2 fun σ3 H3 => te σ3 H3 fun v H4 => R i v ∧ W (i + 1) σ3 H4)
    (stop : ∀ σ' H', W cnt σ' H' → J.stop cnt H') {σ' : St} {H' : Hp} {s : Shared} (w : W 0 σ' H') (I : Inv (X.gen B sc N' code sC HC fp) (pinsAt Ss s.heap) σ' H' s) (st : tn 0 s.heap) (fr : ∀ b ∈ fp, H' b = none) :
    Seg (model X.prog X.w) B (gEnd X B sc N' code sC HC fp Ss cnt W) (gYield X B sc N' code sC HC fp Ss tn cnt R W) cnt s (.compStart (.GeneratorExp elt [⟨tg, iter, [], 0⟩] sc pos) 0 (.ref it) .none (X.gen B sc N' code sC HC fp).env)
      ((model X.prog X.w).den (.compStart (.GeneratorExp elt [⟨tg, iter, [], 0⟩] sc pos) 0 (.ref it) .none (X.gen B sc N' code sC HC fp).env)) [] s := by
  have lp := seg_gen (iter := iter) (pos := pos) hco hc T hg he hdis turn stop cnt 0 σ' H' s s (Nat.add_zero _) w I st fr
  show Seg _ B _ _ _ s _ ((compStart (.GeneratorExp elt [⟨tg, iter, [], 0⟩] sc pos) 0 (.ref it) .none (X.gen B sc N' code sC HC fp).env).onRaise (leaving (X.gen B sc N' code sC HC fp).env)) [] s
  unfold compStart
  rw [Sem.onRaise_eq_wrap]
  show Seg _ B _ _ _ s _ ((ask >>= _).wrap _ _ _ _) [] s
  refine seg_bind_wrap (wpAny_askSetting ?_)
  split
  · exact seg_again rfl lp
  · first
      | exact seg_bind_wrap (wpAny_rule (seg_bind_wrap (wpAny_standAt (seg_bind_wrap (T.self _ 0 s _ _ st (seg_again rfl lp))))))
      | (refine seg_bind_wrap (wpAny_rule ?_); (show Seg _ B _ _ _ s _ ((standAt iter.pos >>= _).wrap _ _ _ _) [] s); exact seg_bind_wrap (wpAny_standAt (seg_bind_wrap (T.self _ 0 s _ _ st (seg_again rfl lp)))))
end

/-- how a generator expression is read: cnt turns, R what each yields, W what holds between them; F what the one who asks it wants -/
def GenRd (k : Nat) (g : TG) (te : TE) (σ : St) (F : Nat → (Nat → V → Prop) → (Nat → St → Hp → Prop) → Prop) (J : It) (H : Hp) : Prop := ∃ (cnt : Nat) (R : Nat → V → Prop) (W : Nat → St → Hp → Prop), W 0 (List.replicate k none ++ σ) H ∧
  (∀ i σ' H', i < cnt → W i σ' H' → J.go i H' ∧ ∀ x H2, J.yld i H' x H2 → g x σ' H2 fun σ3 H3 => te σ3 H3 fun v H4 => R i v ∧ W (i + 1) σ3 H4) ∧ (∀ σ' H', W cnt σ' H' → J.stop cnt H') ∧ F cnt R W


theorem eval_GeneratorExpN (elt target iter : Expr) (ifs : List Expr) (cls : List Comprehension) (scope : Scope) (pos : Pos) (env : Env) (hco : scope.isCoroutine = false) :
    eval (.GeneratorExp elt (⟨target, iter, ifs, 0⟩ :: cls) scope pos) env = (do
      let x ← eval iter env
      standAt iter.pos
      let x ← genFold iter env x
      let it ← holding [x] (pyIter x)
      enterFrame
      let cl ← closureFor scope env
      let code ← genexprCode env pos (env.qual ++ "<genexpr>") scope
      let bi ← builtinsFor env.globals env.builtins
      let cenv ← newFunctionEnv scope env.globals cl [(".0", it)] (env.qual ++ "<genexpr>.") none code none bi
      newGenerator (.compStart (.GeneratorExp elt (⟨target, iter, ifs, 0⟩ :: cls) scope pos) 0 it .none cenv) "<genexpr>" (env.qual ++ "<genexpr>")) := by
  rw [arm_eval_GeneratorExp]
  simp only [hco, Bool.false_eq_true, if_false]
  cases iter <;> rfl
section
variable {M : Model} {A : Around} {E : Value → Shared → Prop} {s : Shared}
theorem wpAny_GeneratorExpN_make {env : Env} {elt target iter : Expr} {ifs : List Expr} {cls : List Comprehension} {scope : Scope} {cl : List (Str × Addr)} {pos : Pos} {Q : Value → Shared → Prop}
    (hco : scope.isCoroutine = false) (hclos : closureFor scope env = pure cl) (hcell : ∀ y ∈ scope.names, y.2 ≠ .cell) (h0 : scope.names.lookup (".0" : Str) = some NameKind.local) (hkind : scope.kind = .function)
    (hroom : A.depth < recursionLimit)
    (h : wpAny M A (eval iter env) (fun xv s₁ => wpAny M A (pyIter xv) (fun it s₂ => s₂.heap.NoLimit ∧
      wpAny M A (genexprCode env pos (env.qual ++ "<genexpr>") scope) (fun code s₃ => wpAny M A (builtinsFor env.globals env.builtins) (fun bi s₄ =>
        ∀ h', h'.Ns s₄.heap.objs.size (fun y => if y = ".0" then some it else none) → Heap.SameBut s₄.heap.objs.size (s₄.heap.push { cls := .type "frame", data := .dict #[] }) h' →
          Q (.ref h'.objs.size) { s₄ with
            gens := s₄.gens.push (.fresh (.compStart (.GeneratorExp elt (⟨target, iter, ifs, 0⟩ :: cls) scope pos) 0 it .none (genEnv scope cl s₄.heap.objs.size code bi env))),
            toks := s₄.toks + 1 + 1 + 1,
            heap := h'.push { cls := .type "generator", data := .fields #[.int s₄.gens.size 0, .str "<genexpr>" (s₄.toks + 1), .str (env.qual ++ "<genexpr>") (s₄.toks + 1 + 1)] } }) E s₃) E s₂) E s₁) E s)
    (hs : ∀ x, genFold iter env x = pure x) :
    wpAny M A (eval (.GeneratorExp elt (⟨target, iter, ifs, 0⟩ :: cls) scope pos) env) Q E s := by
  rw [eval_GeneratorExpN _ _ _ _ _ _ _ _ hco, hclos]
  refine wpAny_bind (wpAny_mono h (fun xv s₁ h₁ => ?_) fun _ _ e => e)
  refine wpAny_bind (wpAny_standAt ?_)
  refine wpAny_bind (wpAny_of_eq (hs xv) ?_)
  refine wpAny_bind (wpAny_holding (wpAny_mono h₁ (fun it s₂ h₂ => ?_) fun _ _ e => e))
  refine wpAny_bind (wpAny_enterFrame h₂.1 hroom ?_)
  refine wpAny_bind (wpAny_pure ?_)
  refine wpAny_bind (wpAny_mono h₂.2 (fun code s₃ h₃ => ?_) fun _ _ e => e)
  refine wpAny_bind (wpAny_mono h₃ (fun bi s₄ h₄ => ?_) fun _ _ e => e)
  have hbinds : ∀ y ∈ ([((".0" : Str), it)] : List (Str × Value)), scope.names.lookup y.1 = some NameKind.local := by
    intro y hy
    rcases List.mem_cons.mp hy with rfl | hy
    · exact h0
    · cases hy
  refine wpAny_bind (wpAny_newFunctionEnv hcell hbinds (fun h' hn' hs' => ?_) hkind)
  have e : (fun y : Str => ([((".0" : Str), it)] : List (Str × Value)).reverse.lookup y) = fun y : Str => if y = (".0" : Str) then some it else none := by
    funext y
    by_cases hy : y = ".0"
    · subst hy; simp
    · have : (y == (".0" : Str)) = false := by simpa using hy
      simp [List.lookup, this, hy]
  rw [e] at hn'
  simp only [newGenerator, newFields]
  refine wpAny_bind (wpAny_newGen (wpAny_bind (wpAny_mkText (wpAny_bind (wpAny_mkText (wpAny_newObj_type ?_ (by size_fits)))))))
  exact h₄ h' hn' hs'
end

section
variable {X : Cx} {sc : Scope} {own N2 : List Str} {elt iter tg : Expr} {pos : Pos} {wi : TI} {g : TG} {te : TE} {P : Addr}

/-- a generator expression as an argument -/
theorem gen_argX {ifs : List Expr} {cls : List Comprehension} {Rd : It → Hp → Prop} {pins : List (Addr × Obj)} {σ : St} {H0 : Hp} {s0 : Shared} {F : Nat → (Nat → V → Prop) → (Nat → St → Hp → Prop) → Prop} (more : Nat → List Addr) (hmore : ∀ a, ∀ b ∈ more a, a < b)
    (hc : X.calm = true) (hroom : X.A.depth < recursionLimit) (hi : PI X tg iter wi) (Bk : Blk sc.names X.env.scope.names own N2 X.N) (hk : sc.kind = .function) (hco : sc.isCoroutine = false) (hnc : ∀ y ∈ sc.names, y.2 ≠ .cell) (h00 : sc.names.lookup (".0" : Str) = some NameKind.local)
    (hcd : CodeAt X.K X.env.code P) (bm : BM X.mg X.base)
    (hs : ∀ x, genFold iter X.env x = pure x)
    (hseg : ∀ code s H fp it tn1 J, Turn X.prog X.w X.K tg J fp it tn1 → (∀ b ∈ fp, H b = none) → Rd J H → ∃ cnt R W tn, F cnt R W ∧ W 0 (List.replicate own.length none ++ σ) H ∧ (∀ h, tn1 0 h ↔ tn 0 h) ∧ (∀ i h h', tn i h → (∀ b ∈ fp, ∀ o, h.get? b = some o → h'.get? b = some o) → tn i h') ∧
      ∀ Ss : List Addr, (∀ b ∈ fp, b ∉ Ss) → ∀ s'' : Shared, (∀ b ∈ Ss, ∃ o, s''.heap.get? b = some o) → Inv (X.gen X.A.in1.in1 sc (own ++ N2) code s H fp) (pinsAt Ss s''.heap) (List.replicate own.length none ++ σ) H s'' → tn1 0 s''.heap →
        Seg (model X.prog X.w) X.A.in1.in1 (gEnd X X.A.in1.in1 sc (own ++ N2) code s H fp Ss cnt W) (gYield X X.A.in1.in1 sc (own ++ N2) code s H fp Ss tn cnt R W) cnt s'' (.compStart (.GeneratorExp elt (⟨tg, iter, ifs, 0⟩ :: cls) sc pos) 0 (.ref it) .none (X.gen X.A.in1.in1 sc (own ++ N2) code s H fp).env)
          ((model X.prog X.w).den (.compStart (.GeneratorExp elt (⟨tg, iter, ifs, 0⟩ :: cls) sc pos) 0 (.ref it) .none (X.gen X.A.in1.in1 sc (own ++ N2) code s H fp).env)) [] s'')
    (I0 : Inv X pins σ H0 s0) (h : wi σ H0 fun J H => H P = some (tabO P) ∧ Rd J H) :
    wpAny (model X.prog X.w) X.A (eval (.GeneratorExp elt (⟨tg, iter, ifs, 0⟩ :: cls) sc pos) X.env) (fun u s5 => ∃ a cnt R W sC HC fp code tn, u = .ref a ∧ s5.heap.objs.size = a + 1 ∧
      GAt X X.A.in1.in1 sc (own ++ N2) code sC HC fp (a :: more a) tn cnt R W a 0 s5 ∧ Inv X pins σ HC sC ∧ (∀ b ∈ fp, FpOk X pins HC b) ∧ sC.heap.objs.size < a ∧ (∀ b ∈ fp, b < sC.heap.objs.size) ∧ (∀ i h h', tn i h → (∀ b ∈ fp, ∀ o, h.get? b = some o → h'.get? b = some o) → tn i h') ∧ F cnt R W) X.xe s0 := by
  refine wpAny_GeneratorExpN_make hco (clos_eq I0 Bk) hnc h00 hk hroom ?_ hs
  refine wpAny_mono (hi pins s0 σ H0 _ I0 h) (fun xv s1 h1 => wpAny_mono h1 (fun itv s2 h2 => ?_) fun _ _ e => e) fun _ _ e => e
  obtain ⟨it, fp, tn1, J, H, e, I, T, st, hf, hP, hRd⟩ := h2
  subst e
  refine ⟨I.nolim, wp_gencode I hcd hP fun code h3 tk3 I3 ext => ?_⟩
  obtain ⟨bmA, ob, b1, b2, b3, b4, b5, b6⟩ := bm
  refine wpAny_builtinsFor (m := X.mg) (by rw [I3.ok.glob]; exact I3.mod.glob.keeps I3.bk) b1 b2 (I3.bk _ _ b3) b4 b5 b6 ?_
  intro h' hn' hs'
  have st3 : tn1 0 h3 := T.keep _ _ _ st fun b hb o e => ext b o (fun z => by have := (hf b hb).1; rw [z, hP] at this; cases this) e
  have ho3 : ∀ b ∈ fp, ∃ o, h3.get? b = some o := fun b hb => let ⟨o, e, _⟩ := T.obj 0 _ st3 b hb; ⟨o, e⟩
  have keep1 : ∀ b o, h3.get? b = some o → h'.get? b = some o := fun b o e => hs'.extBut b o (Nat.ne_of_lt (Heap.lt_size e)) (Heap.get?_push_of_some _ e)
  have sz' : h'.objs.size = h3.objs.size + 1 := by rw [hs'.1, Heap.size_push]
  have IG := fun (hx : Heap) (tk : Nat) (m : Str → Option Value) (hn : hx.Ns h3.objs.size m) (kp : ∀ b o, h3.get? b = some o → hx.get? b = some o) =>
    inv_gen (B := X.A.in1.in1) (code := code) (fp := fp) (h' := hx) (tk := tk) I3 Bk hk hnc hf ho3 I3.ok.frames (I3.ok.hd hc) hn kp
  obtain ⟨cnt, R, W, tn, hF, w0, htn, ktn, sg⟩ := hseg code { s2 with heap := h3, toks := tk3 } H fp it tn1 J T (fun b hb => (hf b hb).1) hRd
  refine ⟨h'.objs.size, cnt, R, W, { s2 with heap := h3, toks := tk3 }, H, fp, code, tn, rfl, by rw [Heap.size_push], ⟨⟨_, _, _, Heap.get?_push_size _ rfl, rfl, rfl, rfl⟩, .fresh _, [], List.replicate own.length none ++ σ, H, (fun _ h => nomatch h), Array.getElem?_push_size .., rfl, ?_, ?_, fun b hb => (hf b hb).1, w0, ?_⟩, I3, hf, by show h3.objs.size < h'.objs.size; omega, fun b hb => let ⟨o, e⟩ := ho3 b hb; Heap.lt_size e, ktn, hF⟩
  · have eg : (s2.gens.push (GenState.fresh (.compStart (.GeneratorExp elt (⟨tg, iter, ifs, 0⟩ :: cls) sc pos) 0 (.ref it) .none (genEnv sc (closOf X.env sc.names []) h3.objs.size code builtinsNs X.env)))).setIfInBounds s2.gens.size .running = s2.gens.push .running := by
      apply Array.ext_getElem?
      intro i
      by_cases e : s2.gens.size = i
      · subst e
        rw [Array.getElem?_setIfInBounds_self_of_lt (by simp)]
        simp
      · rw [Array.getElem?_setIfInBounds_ne e, Array.getElem?_push, Array.getElem?_push]
        simp [Ne.symm e]
    simp only [Shared.setGen]
    rw [eg, List.append_nil]
    refine Inv.pins_of (pins := []) (IG _ _ _ (hn'.push _) (fun b o e => Heap.get?_push_of_some _ (keep1 b o e))) fun p hp => ?_
    obtain ⟨q1, q2⟩ := of_pinsAt hp
    have ep : p.1 = h'.objs.size := by
      rcases List.mem_cons.mp q1 with z | z
      · exact z
      · have l1 := hmore _ _ z
        have l2 := Heap.lt_size q2
        rw [Heap.size_push] at l2
        exact absurd (Nat.lt_of_lt_of_le l1 (Nat.le_of_lt_succ l2)) (Nat.lt_irrefl _)
    have big : h3.objs.size ≤ p.1 := by rw [ep, sz']; exact Nat.le_succ _
    have big2 : h3.objs.size < p.1 := by rw [ep, sz']; exact Nat.lt_succ_self _
    refine ⟨q2, I3.hok.fresh big, Nat.ne_of_gt big2, fun z => ?_, fun v => ?_⟩
    · rcases List.mem_cons.mp (I3.stkSub p.1 z) with y | y
      · have l : X.env.locals < h3.objs.size := I3.lt
        rw [y] at big2
        exact absurd (Nat.lt_trans l big2) (Nat.lt_irrefl _)
      · exact I3.nofs big y
    · rw [ep] at q2
      rw [Heap.get?_push_size _ rfl] at q2
      intro z
      rw [← Option.some.inj q2] at z
      cases z
  · exact (htn _).1 (T.keep _ _ _ st3 fun b hb o e => Heap.get?_push_of_some _ (keep1 b o e))
  · intro s'' hs'' I'' st''
    rw [List.append_nil] at I''
    refine ⟨rfl, ?_⟩
    rw [Nat.sub_zero]
    refine sg _ (fun b hb z => ?_) s'' hs'' I'' ((htn _).2 st'')
    have l : b < h3.objs.size := let ⟨o, e⟩ := ho3 b hb; Heap.lt_size e
    rcases List.mem_cons.mp z with y | y
    · rw [y, sz'] at l
      exact absurd (Nat.lt_of_succ_lt l) (Nat.lt_irrefl _)
    · have l2 := hmore _ _ y
      rw [sz'] at l2
      exact absurd (Nat.lt_trans (Nat.lt_trans l (Nat.lt_succ_self _)) l2) (Nat.lt_irrefl _)

/-- a generator expression as an argument -/
theorem gen_arg {pins : List (Addr × Obj)} {σ : St} {H0 : Hp} {s0 : Shared} {F : Nat → (Nat → V → Prop) → (Nat → St → Hp → Prop) → Prop} (more : Nat → List Addr) (hmore : ∀ a, ∀ b ∈ more a, a < b)
    (hc : X.calm = true) (hroom : X.A.depth < recursionLimit) (hi : PI X tg iter wi) (Bk : Blk sc.names X.env.scope.names own N2 X.N) (hk : sc.kind = .function) (hco : sc.isCoroutine = false) (hnc : ∀ y ∈ sc.names, y.2 ≠ .cell) (h00 : sc.names.lookup (".0" : Str) = some NameKind.local)
    (hcd : CodeAt X.K X.env.code P) (bm : BM X.mg X.base)
    (hg : ∀ code s H fp, PG (X.gen X.A.in1.in1 sc (own ++ N2) code s H fp) tg g) (he : ∀ code s H fp, PE (X.gen X.A.in1.in1 sc (own ++ N2) code s H fp) elt te)
    (hs : ∀ x, genFold iter X.env x = pure x) (I0 : Inv X pins σ H0 s0) (h : wi σ H0 fun J H => H P = some (tabO P) ∧ GenRd own.length g te σ F J H) :
    wpAny (model X.prog X.w) X.A (eval (.GeneratorExp elt [⟨tg, iter, [], 0⟩] sc pos) X.env) (fun u s5 => ∃ a cnt R W sC HC fp code tn, u = .ref a ∧ s5.heap.objs.size = a + 1 ∧
      GAt X X.A.in1.in1 sc (own ++ N2) code sC HC fp (a :: more a) tn cnt R W a 0 s5 ∧ Inv X pins σ HC sC ∧ (∀ b ∈ fp, FpOk X pins HC b) ∧ sC.heap.objs.size < a ∧ (∀ b ∈ fp, b < sC.heap.objs.size) ∧ (∀ i h h', tn i h → (∀ b ∈ fp, ∀ o, h.get? b = some o → h'.get? b = some o) → tn i h') ∧ F cnt R W) X.xe s0 :=
  gen_argX (cls := []) (Rd := fun J H => GenRd own.length g te σ F J H) more hmore hc hroom hi Bk hk hco hnc h00 hcd bm hs (fun code s H fp it tn1 J T hfr ⟨cnt, R, W, w0, turn, stop, hF⟩ =>
    ⟨cnt, R, W, tn1, hF, w0, fun _ => Iff.rfl, T.keep, fun Ss hd s'' _ I'' st'' => seg_gen0 hco hc T (hg code s H fp) (he code s H fp) hd turn stop w0 I'' st'' hfr⟩) I0 h
end
end L2

namespace L2
open PySem PySem.Spec PyProof.Rows

section
variable {X : Cx} {B : Around} {sc : Scope} {N' : List Str} {code : Value} {sC : Shared} {HC : Hp} {fp : List Addr} {tn : Nat → Heap → Prop} {cnt : Nat} {R : Nat → V → Prop} {W : Nat → St → Hp → Prop} {a S : Addr} {i : Nat} {s : Shared}

/-- the record of the one who asks is laid, or changed -/
theorem GAt.frame {h' : Heap} {tk : Nat} {o' : Obj} (G : GAt X B sc N' code sC HC fp [a, S] tn cnt R W a i s) (haS : a ≠ S) (hC : sC.heap.objs.size < S) (hfp : ∀ b ∈ fp, b ≠ S)
    (ktn : ∀ i h h', tn i h → (∀ b ∈ fp, ∀ o, h.get? b = some o → h'.get? b = some o) → tn i h') (hS : (∃ o, s.heap.get? S = some o) ∨ s.heap.objs.size ≤ S)
    (keep : ∀ b o, b ≠ S → s.heap.get? b = some o → h'.get? b = some o) (e' : h'.get? S = some o') (nc : ∀ v, o'.data ≠ .cell v) :
    GAt X B sc N' code sC HC fp [a, S] tn cnt R W a i { s with heap := h', toks := tk } := by
  obtain ⟨gs, pl, σ', H', hpl, e1, e2, I, st, fr, w, go⟩ := G.ex
  have I1 : Inv (X.gen B sc N' code sC HC fp) (pinsAt [a] s.heap ++ pl) σ' H' (s.setGen sC.gens.size .running) := I.pins_of fun p hp => by
    rcases List.mem_append.mp hp with hp | hp
    · obtain ⟨q1, q2⟩ := of_pinsAt hp
      exact I.pin p (List.mem_append_right _ (List.mem_append_left _ (mem_pinsAt (fp := [a, S]) (by rw [List.mem_singleton.mp q1]; simp) q2)))
    · exact I.pin p (List.mem_append_right _ (List.mem_append_right _ hp))
  have nfs : S ∉ (X.gen B sc N' code sC HC fp).fs := fun hb => by
    obtain ⟨_, o, ho, _⟩ := I.ok.funs.mem hb
    exact absurd (Nat.lt_trans (Heap.lt_size ho) hC) (Nat.lt_irrefl _)
  have ea : ∃ oa, s.heap.get? a = some oa := let ⟨o, _, _, q, _⟩ := G.gen; ⟨o, q⟩
  obtain ⟨oa, ea⟩ := ea
  have I2 : Inv (X.gen B sc N' code sC HC fp) (pinsAt [a] s.heap ++ pl) σ' H' { s.setGen sC.gens.size .running with heap := h', toks := tk } ∧ H' S = none := by
    rcases hS with ⟨o, eo⟩ | hS
    · have pS := I.pin (S, o) (List.mem_append_right _ (List.mem_append_left _ (mem_pinsAt (fp := [a, S]) (by simp) eo)))
      refine ⟨I1.turned (it := S) (h' := h') (t' := tk) keep pS.2.1 (Nat.ne_of_gt hC) (.inr (Nat.le_of_lt hC)) (fun y c hc z => ?_) (fun p hp z => ?_), pS.2.1⟩
      · obtain ⟨v, oc, q1, q2⟩ := I.cell y c hc
        rw [z] at q1
        have q1' : s.heap.get? S = some oc := q1
        rw [eo] at q1'
        have q3 : o = oc := Option.some.inj q1'
        exact pS.2.2.2.2 v (by rw [q3]; exact q2)
      · have hp' : p ∈ pinsAt [a] s.heap ++ pl := hp
        rcases List.mem_append.mp hp' with hp' | hp'
        · exact haS (by rw [← z, List.mem_singleton.mp (of_pinsAt hp').1])
        · exact hpl p hp' (by rw [z]; simp)
    · refine ⟨I1.kept (h' := h') (t' := tk) fun b o e => keep b o (fun z => ?_) e, I.hok.fresh hS⟩
      exact absurd (Nat.lt_of_lt_of_le (Heap.lt_size e) (by rw [z]; exact hS)) (Nat.lt_irrefl _)
  obtain ⟨I2, hHS⟩ := I2
  refine ⟨(let ⟨o, nm, qn, q, r⟩ := G.gen; ⟨o, nm, qn, keep a o haS q, r⟩), gs, pl, σ', H', hpl, e1, e2, I2.pins_of fun p hp => ?_, ktn _ _ _ st fun b hb o e => keep b o (hfp b hb) e, fr, w, go⟩
  refine (List.mem_append.mp hp).elim (fun hp => ?_) (fun hp => I2.pin p (List.mem_append_right _ (List.mem_append_right _ hp)))
  obtain ⟨q1, q2⟩ := of_pinsAt hp
  rcases List.mem_cons.mp q1 with z | z
  · have q := I2.pin (a, oa) (List.mem_append_right _ (List.mem_append_left _ (mem_pinsAt (fp := [a]) (by simp) ea)))
    have q2' : h'.get? p.1 = some p.2 := q2
    rw [z, keep a oa haS ea] at q2'
    have q3 : oa = p.2 := Option.some.inj q2'
    have ep : p = (a, oa) := by rw [← z, q3]
    rw [ep]
    exact q
  · have z' : p.1 = S := List.mem_singleton.mp z
    have q2' : h'.get? p.1 = some p.2 := q2
    rw [z', e'] at q2'
    have q3 : o' = p.2 := Option.some.inj q2'
    refine ⟨q2, by rw [z']; exact hHS, by rw [z']; exact Nat.ne_of_gt hC, by rw [z']; exact nfs, by rw [← q3]; exact nc⟩
end
end L2

namespace L2
open PySem PySem.Spec PyProof.Rows

section
variable {X : Cx} {sc : Scope} {N' : List Str} {code : Value} {sC : Shared} {HC : Hp} {fp : List Addr} {tn : Nat → Heap → Prop} {cnt : Nat} {R : Nat → V → Prop} {W : Nat → St → Hp → Prop} {a S : Addr} {pins : List (Addr × Obj)} {σ : St} {Rr : Result → Shared → Prop}

end
end L2

namespace L2
open PySem PySem.Spec PyProof.Rows

theorem set_same {s : Shared} {g : Nat} {x y : GenState} (h : s.gens[g]? = some x) : (s.setGen g y).setGen g x = s := by
  obtain ⟨hh, gens, d, t, os⟩ := s
  have hlt : g < gens.size := by
    rcases Nat.lt_or_ge g gens.size with q | q
    · exact q
    · have z : gens[g]? = none := Array.getElem?_eq_none q
      have h' : gens[g]? = some x := h
      rw [z] at h'; cases h'
  have q : (gens.setIfInBounds g y).setIfInBounds g x = gens := by
    apply Array.ext_getElem?
    intro i
    by_cases e : g = i
    · subst e
      rw [Array.getElem?_setIfInBounds_self_of_lt (by simpa using hlt)]
      exact h.symm
    · rw [Array.getElem?_setIfInBounds_ne e, Array.getElem?_setIfInBounds_ne e]
  show ({ heap := hh, gens := (gens.setIfInBounds g y).setIfInBounds g x, drawn := d, toks := t, os := os } : Shared) = _
  rw [q]

section
variable {X : Cx} {sc : Scope} {N' : List Str} {code : Value} {sC : Shared} {HC : Hp} {fp Ss : List Addr} {tn : Nat → Heap → Prop} {cnt : Nat} {R : Nat → V → Prop} {W : Nat → St → Hp → Prop} {a : Addr} {pins : List (Addr × Obj)} {σ : St} {Rr : Result → Shared → Prop}

theorem GAt.out {B : Around} {i : Nat} {s : Shared} (G : GAt X B sc N' code sC HC fp Ss tn cnt R W a i s) (IC : Inv X pins σ HC sC) (hf : ∀ b ∈ fp, FpOk X pins HC b) : ∃ σ' H', Inv X pins σ H' s ∧ W i σ' H' := by
  obtain ⟨gs, pl, σ', H', hpl, e1, e2, I, st, fr, w, go⟩ := G.ex
  have q := Inv.ungen (gs := gs) IC hf e2 I
  rw [set_same e1] at q
  exact ⟨σ', H', q, w⟩

theorem gall_loop (IC : Inv X pins σ HC sC) (hf : ∀ b ∈ fp, FpOk X pins HC b) (hh : X.A.handled = none) (hroom : X.A.depth < recursionLimit) (bv : Nat → Bool) (hval : ∀ i v, i < cnt → R i v → v = .bl (bv i)) : ∀ (k i : Nat) (s : Shared), cnt - i = k → i ≤ cnt →
    GAt X X.A.in1.in1 sc N' code sC HC fp [a] tn cnt R W a i s → (∀ j, j < i → bv j = true) →
    ((∀ j, j < cnt → bv j = true) → ∀ s' σ' H', Inv X pins σ H' s' → W cnt σ' H' → Rr (.ok (.ret (.bool true))) s') →
    (∀ j, j < cnt → bv j = false → (∀ l, l < j → bv l = true) → ∀ s' σ' H', Inv X pins σ H' s' → W (j + 1) σ' H' → Rr (.ok (.ret (.bool false))) s') → codeAny (model X.prog X.w) X.A (.builtin "all.loop" ⟨[.ref a], []⟩) Rr s := by
  intro k
  induction k with
  | zero =>
    intro i s hk hi G hp hT hF
    obtain rfl : i = cnt := by omega
    have ex : ∀ b ∈ [a], ∃ o, s.heap.get? b = some o := fun b hb => by
      obtain ⟨o, _, _, q, _⟩ := G.gen; rw [List.mem_singleton.mp hb]; exact ⟨o, q⟩
    refine codeAny_builtin PySem.F.entry_all_loop (by
      rw [Around.under_plainId PySem.F.plain_all_loop _]
      show wpAny _ X.A.in1 (pyNext (.ref a) >>= _) _ _ s
      exact wpAny_bind (G.done (D := X.A.in1) IC hf hh hroom ex fun s' σ' H' I' w' => wpAny_bind (wpAny_rule (wpAny_pure (hT hp s' σ' H' I' w')))))
  | succ k ih =>
    intro i s hk hi G hp hT hF
    have hlt : i < cnt := by omega
    have ex : ∀ b ∈ [a], ∃ o, s.heap.get? b = some o := fun b hb => by
      obtain ⟨o, _, _, q, _⟩ := G.gen; rw [List.mem_singleton.mp hb]; exact ⟨o, q⟩
    refine codeAny_builtin PySem.F.entry_all_loop (by
      rw [Around.under_plainId PySem.F.plain_all_loop _]
      show wpAny _ X.A.in1 (pyNext (.ref a) >>= _) _ _ s
      refine wpAny_bind (G.item (D := X.A.in1) hh hroom (by simp) ex hlt fun v x s' rx hR' G' kp => ?_)
      obtain rfl := hval i x hlt hR'
      cases rx
      refine wpAny_bind (wpAny_holding (wpAny_truthy_bool (wpAny_bind (wpAny_letGo ?_))))
      cases hb : bv i with
      | true =>
        simp only [if_true]
        exact wpAny_pure ⟨plainId_quiet PySem.F.plain_all_loop _, ih (i + 1) _ (by omega) hlt G' (fun j hj => by
          rcases Nat.lt_or_ge j i with q | q
          · exact hp j q
          · rw [show j = i by omega]; exact hb) hT hF⟩
      | false =>
        simp only [Bool.false_eq_true, if_false]
        obtain ⟨σ', H', I', w'⟩ := G'.out IC hf
        exact wpAny_bind (wpAny_rule (wpAny_pure (hF i hlt hb hp s' σ' H' I' w'))))

theorem gall_call {Q : Value → Shared → Prop} {E : Value → Shared → Prop} {s : Shared} (IC : Inv X pins σ HC sC) (hf : ∀ b ∈ fp, FpOk X pins HC b) (hh : X.A.handled = none) (hroom : X.A.depth < recursionLimit) (bv : Nat → Bool) (hval : ∀ i v, i < cnt → R i v → v = .bl (bv i)) (G : GAt X X.A.in1.in1 sc N' code sC HC fp [a] tn cnt R W a 0 s)
    (hT : (∀ j, j < cnt → bv j = true) → ∀ s' σ' H', Inv X pins σ H' s' → W cnt σ' H' → Q (.bool true) s')
    (hF : ∀ j, j < cnt → bv j = false → (∀ l, l < j → bv l = true) → ∀ s' σ' H', Inv X pins σ H' s' → W (j + 1) σ' H' → Q (.bool false) s') : wpAny (model X.prog X.w) X.A (call (.builtin "all") [.ref a]) Q E s := by
  refine call_function_tree PySem.F.kind_all PySem.F.plain_all PySem.F.entry_all (PySem.F.args_all1 _) ?_
  unfold Builtin.«all»
  refine wpAny_bind (m := oneArg "all" _) (wpAny_pure (wpAny_bind (wpAny_pyIter_gen G.gen ?_)))
  exact wpAny_pure ⟨plainId_quiet PySem.F.plain_all_loop _, gall_loop IC hf hh hroom bv hval cnt 0 s rfl (Nat.zero_le _) G (fun j hj => absurd hj (Nat.not_lt_zero _)) hT hF⟩

end

/-! ### the rules -/
/-- sum(e for tg in iter) -/
def SumRd (k : Nat) (P : Addr) (g : TG) (te : TE) (σ : St) (J : It) (H1 : Hp) (Q : VK) : Prop := H1 P = some (tabO P) ∧ GenRd k g te σ (fun cnt R W => ∃ val : Nat → Int, (∀ i v, i < cnt → R i v → v = .int (val i)) ∧ ∀ σ' H', W cnt σ' H' → Q (.int (preSum val cnt)) H') J H1
def tSumG (k : Nat) (P : Addr) (wi : TI) (g : TG) (te : TE) : TE := fun σ H Q => wi σ H fun J H1 => SumRd k P g te σ J H1 Q
/-- all(e for tg in iter) -/
def AllRd (k : Nat) (P : Addr) (g : TG) (te : TE) (σ : St) (J : It) (H1 : Hp) (Q : VK) : Prop := H1 P = some (tabO P) ∧ GenRd k g te σ (fun cnt R W => ∃ bv : Nat → Bool, (∀ i v, i < cnt → R i v → v = .bl (bv i)) ∧
  ((∀ j, j < cnt → bv j = true) → ∀ σ' H', W cnt σ' H' → Q (.bl true) H') ∧ (∀ j, j < cnt → bv j = false → (∀ l, l < j → bv l = true) → ∀ σ' H', W (j + 1) σ' H' → Q (.bl false) H')) J H1
def tAllG (k : Nat) (P : Addr) (wi : TI) (g : TG) (te : TE) : TE := fun σ H Q => wi σ H fun J H1 => AllRd k P g te σ J H1 Q
/-- any(e for tg in iter) -/
def AnyRd (k : Nat) (P : Addr) (g : TG) (te : TE) (σ : St) (J : It) (H1 : Hp) (Q : VK) : Prop := H1 P = some (tabO P) ∧ GenRd k g te σ (fun cnt R W => ∃ bv : Nat → Bool, (∀ i v, i < cnt → R i v → v = .bl (bv i)) ∧
  ((∀ j, j < cnt → bv j = false) → ∀ σ' H', W cnt σ' H' → Q (.bl false) H') ∧ (∀ j, j < cnt → bv j = true → (∀ l, l < j → bv l = false) → ∀ σ' H', W (j + 1) σ' H' → Q (.bl true) H')) J H1
def tAnyG (k : Nat) (P : Addr) (wi : TI) (g : TG) (te : TE) : TE := fun σ H Q => wi σ H fun J H1 => AnyRd k P g te σ J H1 Q

section
variable {X : Cx} {sc : Scope} {own N2 : List Str} {elt iter tg : Expr} {gpos p pos : Pos} {wi : TI} {g : TG} {te : TE} {P : Addr}

/-- what a generator expression asks of its block and its def -/
structure GenOk (X : Cx) (sc : Scope) (own N2 : List Str) (P : Addr) : Prop where
  calm : X.calm = true
  room : X.A.depth < recursionLimit
  blk : Blk sc.names X.env.scope.names own N2 X.N
  kind : sc.kind = .function
  co : sc.isCoroutine = false
  nc : ∀ y ∈ sc.names, y.2 ≠ .cell
  it0 : sc.names.lookup (".0" : Str) = some NameKind.local
  code : CodeAt X.K X.env.code P
  bm : BM X.mg X.base

theorem pe_allG (K : GenOk X sc own N2 P) (hgl : Gl X "all") (hm : X.mg "all" = none) (hi : PI X tg iter wi)
    (hg : ∀ code s H fp, PG (X.gen X.A.in1.in1 sc (own ++ N2) code s H fp) tg g) (he : ∀ code s H fp, PE (X.gen X.A.in1.in1 sc (own ++ N2) code s H fp) elt te)
    (hs : ∀ x, genFold iter X.env x = pure x := by intro _; rfl) (hst : starEach [.GeneratorExp elt [⟨tg, iter, [], 0⟩] sc gpos] X.env = [(false, eval (.GeneratorExp elt [⟨tg, iter, [], 0⟩] sc gpos) X.env)] := by rfl) :
    PE X (.Call (.Name "all" p) [.GeneratorExp elt [⟨tg, iter, [], 0⟩] sc gpos] [] pos) (tAllG own.length P wi g te) := by
  intro pins s σ H Q I h
  refine wpAny_Call_Name_kw (ld_blt I hgl hm PyProof.Rows.boot_all ?_)
  refine PyProof.Rows.callWith_builtin1 ?_ hst rfl
  rw [hst]
  refine Calls.spliced_cons (thn (gen_arg (pos := gpos) (fun a => []) (fun a b hb => by cases hb) K.calm K.room hi K.blk K.kind K.co K.nc K.it0 K.code K.bm hg he hs I h) fun u s5 h5 => ?_)
  obtain ⟨a, cnt, R, W, sC, HC, fp, code, tn, rfl, hsz, G, IC, hf, hC, hlt, ktn, bv, hval, hT, hF⟩ := h5
  exact Calls.spliced_nil (gall_call IC hf (I.ok.hd K.calm) K.room bv hval G (fun hb s' σ' H' I' w' => ⟨.bl true, H', I', rfl, hT hb σ' H' w'⟩) (fun j hj hb hp s' σ' H' I' w' => ⟨.bl false, H', I', rfl, hF j hj hb hp σ' H' w'⟩))
end
end L2

namespace L2
open PySem PySem.Spec PyProof.Rows

end L2

namespace L2
open PySem PySem.Spec PyProof.Rows

section
variable {X : Cx} {B : Around} {sc : Scope} {N' : List Str} {code : Value} {sC : Shared} {HC : Hp} {fp Ss : List Addr} {tn : Nat → Heap → Prop} {R : Nat → V → Prop} {W : Nat → St → Hp → Prop}
variable {elt iter tg iter2 tg2 : Expr} {pos : Pos} {it : Addr} {J : It} {g g' : TG} {te : TE} {wi2 : TI} {c1 c2 : Nat}

/-- what makes an address of the block's own iterator one -/
def OwnFp (X : Cx) (b : Addr) : Prop := b ≠ X.env.locals ∧ b ∉ X.fs ∧ (b ∈ X.ex ∨ X.s₀.heap.objs.size ≤ b) ∧ (∀ x c, X.env.cells.lookup x = some c → c ≠ b) ∧ ∀ p ∈ X.pn, p.1 ≠ b
theorem OwnFp.of {X : Cx} {pins : List (Addr × Obj)} {H : Hp} {b : Addr} (h : FpOk X pins H b) : OwnFp X b := ⟨h.2.1, h.2.2.1, h.2.2.2.1, h.2.2.2.2.1, fun p hp => h.2.2.2.2.2 p (List.mem_append_left _ hp)⟩
theorem OwnFp.ok {X : Cx} {pins : List (Addr × Obj)} {H : Hp} {b : Addr} (h : OwnFp X b) (hn : H b = none) (hp : ∀ p ∈ pins, p.1 ≠ b) : FpOk X pins H b := ⟨hn, h.1, h.2.1, h.2.2.1, h.2.2.2.1, fun p q => (List.mem_append.mp q).elim (h.2.2.2.2 p) (hp p)⟩

end
end L2

namespace L2
open PySem PySem.Spec PyProof.Rows

/-- how a generator expression of two clauses is read: c1 turns of c2 each -/
def GenRd2 (k : Nat) (g : TG) (wi2 : TI) (g' : TG) (te : TE) (σ : St) (F : Nat → (Nat → V → Prop) → (Nat → St → Hp → Prop) → Prop) (J : It) (H : Hp) : Prop := ∃ (c1 c2 : Nat) (R : Nat → V → Prop) (W : Nat → St → Hp → Prop), 0 < c2 ∧ W 0 (List.replicate k none ++ σ) H ∧
  (∀ i σ' H', i < c1 → W (i * c2) σ' H' → J.go i H' ∧ ∀ x H2, J.yld i H' x H2 → g x σ' H2 fun σ3 H3 => wi2 σ3 H3 fun J2 H4 => ∃ V2 : Nat → St → Hp → Prop, V2 0 σ3 H4 ∧
    (∀ j σ' H', j < c2 → V2 j σ' H' → J2.go j H' ∧ ∀ x H2, J2.yld j H' x H2 → g' x σ' H2 fun σ3 H3 => te σ3 H3 fun v H4 => R (i * c2 + j) v ∧ W (i * c2 + j + 1) σ3 H4 ∧ V2 (j + 1) σ3 H4) ∧ ∀ σ' H', V2 c2 σ' H' → J2.stop c2 H') ∧
  (∀ σ' H', W (c1 * c2) σ' H' → J.stop c1 H') ∧ F (c1 * c2) R W

section
variable {X : Cx} {B : Around} {sc : Scope} {N' : List Str} {code : Value} {sC : Shared} {HC : Hp} {fp Ss : List Addr} {tn : Nat → Heap → Prop} {R : Nat → V → Prop} {W : Nat → St → Hp → Prop}
variable {elt iter tg iter2 tg2 : Expr} {pos : Pos} {it : Addr} {J : It} {g g' : TG} {te : TE} {wi2 : TI} {c1 c2 : Nat}

end

/-- sum(e for tg in iter for tg2 in iter2) -/
def SumRd2 (k : Nat) (P : Addr) (g : TG) (wi2 : TI) (g' : TG) (te : TE) (σ : St) (J : It) (H1 : Hp) (Q : VK) : Prop := H1 P = some (tabO P) ∧ GenRd2 k g wi2 g' te σ (fun cnt R W => ∃ val : Nat → Int, (∀ i v, i < cnt → R i v → v = .int (val i)) ∧ ∀ σ' H', W cnt σ' H' → Q (.int (preSum val cnt)) H') J H1
def tSumG2 (k : Nat) (P : Addr) (wi : TI) (g : TG) (wi2 : TI) (g' : TG) (te : TE) : TE := fun σ H Q => wi σ H fun J H1 => SumRd2 k P g wi2 g' te σ J H1 Q
section
variable {X : Cx} {sc : Scope} {own N2 : List Str} {elt iter tg iter2 tg2 : Expr} {gpos p pos : Pos} {wi wi2 : TI} {g g' : TG} {te : TE} {P : Addr}
end
end L2

namespace L2
open PySem PySem.Spec PyProof.Rows

/-! ### data that is read off the abstract heap; == and != of it -/
mutual
inductive RdV (K : PySem.W.Frag) (H : Hp) : V → PyData → Prop
  | non : RdV K H .non .none
  | bl (b : Bool) : RdV K H (.bl b) (.bool b)
  | int (i : Int) : RdV K H (.int i) (.int i)
  | str (x : Str) : RdV K H (.str x) (.str x)
  | lst {a : Addr} {xs : List V} {ds : List PyData} : SqL K H a xs → RdVs K H xs ds → RdV K H (.ref a) (.list ds)
  | tup {a : Addr} {xs : List V} {ds : List PyData} : SqT K H a xs → RdVs K H xs ds → RdV K H (.ref a) (.tuple ds)
inductive RdVs (K : PySem.W.Frag) (H : Hp) : List V → List PyData → Prop
  | nil : RdVs K H [] []
  | cons {x : V} {d : PyData} {xs : List V} {ds : List PyData} : RdV K H x d → RdVs K H xs ds → RdVs K H (x :: xs) (d :: ds)
end
section
variable {X : Cx} {pins : List (Addr × Obj)} {σ : St} {H : Hp} {s : Shared}
mutual
theorem reads_of (I : Inv X pins σ H s) : ∀ {x : V} {d : PyData} {u : Value}, RdV X.K H x d → RelV x u → ∃ as, Reads s.heap u d as
  | _, _, _, .non, r => by cases r; exact ⟨_, .none⟩
  | _, _, _, .bl b, r => by cases r; exact ⟨_, .bool b⟩
  | _, _, _, .int i, r => by obtain ⟨t, rfl⟩ := r; exact ⟨_, .int i t⟩
  | _, _, _, .str x, r => by obtain ⟨t, rfl⟩ := r; exact ⟨_, .str x t⟩
  | _, _, _, .lst hq hs, r => by
    cases r
    obtain ⟨its, rv, ⟨o, n, e, c, _, dd⟩, _⟩ := I.list hq
    obtain ⟨as, q⟩ := readsAll_of I hs rv
    exact ⟨_, .list e c dd (by simpa using q)⟩
  | _, _, _, .tup hq hs, r => by
    cases r
    obtain ⟨its, rv, ⟨o, e, c, n, dd⟩, _⟩ := I.tuple hq
    obtain ⟨as, q⟩ := readsAll_of I hs rv
    exact ⟨_, .tuple e c dd (by simpa using q)⟩
theorem readsAll_of (I : Inv X pins σ H s) : ∀ {xs : List V} {ds : List PyData} {us : List Value}, RdVs X.K H xs ds → Vals xs us → ∃ as, ReadsAll s.heap us ds as
  | _, _, _, .nil, r => by cases r; exact ⟨_, .nil⟩
  | _, _, _, .cons h t, r => by
    cases r with
    | cons r1 r2 =>
      obtain ⟨as, q1⟩ := reads_of I h r1
      obtain ⟨bs, q2⟩ := readsAll_of I t r2
      exact ⟨_, .cons q1 q2⟩
end
end
def rEqD (K : PySem.W.Frag) (neg : Bool) : R2 := fun x y H Q => ∃ da db, RdV K H x da ∧ RdV K H y db ∧ SeqAt.shaped da = true ∧ SeqAt.shaped db = true ∧ Q (.bl (if neg then !PyData.eqv da db else PyData.eqv da db)) H
section
variable {X : Cx}
theorem op_eqD (hu : X.A.units + 64 < cLine) : OpR X (compareOp .Eq) (rEqD X.K false) := by
  intro pins s σ H x y v u Q I rx ry h
  obtain ⟨da, db, h1, h2, s1, s2, q⟩ := h
  obtain ⟨as, r1⟩ := reads_of I h1 rx
  obtain ⟨bs, r2⟩ := reads_of I h2 ry
  exact eq_dataH r1 r2 s1 s2 hu ⟨.bl _, H, I, rfl, q⟩
/-! ### isinstance(x, T), T a built-in type -/
theorem call_isinst : CallR X (.builtin "isinstance") (fun xs H Q => ∃ x n t b, xs = [x, .ty n] ∧ TyOf X.K H x t ∧ PySem.W.kitOne X.K t (.type n) = some b ∧ Q (.bl b) H) := by
  intro pins s σ H xs us Q I r h
  obtain ⟨x, n, t, b, rfl, ty, e, q⟩ := h
  cases r with
  | cons r1 r2 =>
    cases r2 with
    | cons r2 r3 =>
      cases r3
      cases r2
      exact isinst_ok I r1 ty e fun tk => ⟨.bl b, H, I.tok _, rfl, q⟩
end

/-! ### tables of ints as data -/
abbrev dRow (r : List Int) : PyData := .list (r.map .int)
abbrev dTab (m : List (List Int)) : PyData := .list (m.map dRow)
theorem canLay_rows : ∀ m : List (List Int), PyData.canLayAll0 (m.map dRow) = true
  | [] => rfl
  | r :: m => by simp [PyData.canLayAll0, PyData.canLay0, PySem.W.ke_canLayAll0, canLay_rows m]
theorem depth_rows : ∀ m : List (List Int), PyData.depthAll (m.map dRow) ≤ 1
  | [] => by simp [PyData.depthAll]
  | r :: m => by
    have := depth_rows m
    simp only [List.map_cons, PyData.depthAll, PyData.depth, PySem.W.ke_depthAll]
    omega
theorem shaped_tab (m : List (List Int)) : SeqAt.shaped (dTab m) = true := by
  have q := depth_rows m
  simp only [SeqAt.shaped, PyData.canLay0, PyData.depth, canLay_rows, Bool.true_and, decide_eq_true_eq]
  exact decide_eq_true (show PyData.depthAll (m.map dRow) + 1 ≤ 64 by omega)
theorem eqv_row (r t : List Int) : PyData.eqv (dRow r) (dRow t) = decide (r = t) := by
  simp only [PyData.eqv]
  exact PySem.W.ked_eqvAll r t
theorem eqvAll_rows : ∀ m n : List (List Int), PyData.eqvAll (m.map dRow) (n.map dRow) = decide (m = n)
  | [], [] => by simp [PyData.eqvAll]
  | [], _ :: _ => by simp [PyData.eqvAll]
  | _ :: _, [] => by simp [PyData.eqvAll]
  | a :: r, b :: t => by
    have e := eqv_row a b
    simp only [dRow] at e
    simp only [List.map_cons, PyData.eqvAll, eqvAll_rows r t, dRow, e]
    by_cases h : a = b <;> by_cases h' : r = t <;> simp [h, h']
theorem eqv_tab (m n : List (List Int)) : PyData.eqv (dTab m) (dTab n) = decide (m = n) := by
  simp only [PyData.eqv]
  exact eqvAll_rows m n

/-! ### the head, with the tables of code objects tracked -/
theorem law_callT {P : Program} {w : World} {K : PySem.W.Frag} {mg mb : Str → Option Value} {k : Nat} {fa a : Addr} {fd : FuncData} {x : Str} {sp : Sp} {s₁ : Shared} {vs : List Value} {ns : List Int} {tabs : List Addr}
    (KX : K.In s₁.heap) (hns : s₁.heap.Ns mainGlobals mg) (hb : s₁.heap.Ns builtinsNs mb) (hbb : ∀ x : Str, x ≠ "__name__" → mb x = bootBuiltins x) (hlim : s₁.heap.NoLimit) (hbm : BM mg s₁.heap) (hg : s₁.gens = #[])
    (htab : ∀ T ∈ tabs, isCodeTable s₁.heap T ∧ s₁.heap.get? T = some { cls := .none, data := .fields #[] })
    (ha : s₁.heap.get? a = some { cls := .type "list", data := .seq vs.toArray }) (hi : IntsAre vs ns) (hl : ns.length ≤ sizeLine) (hr : Room k callerA) (hcl : PySem.W.kb_classed K = true)
    (F : ∀ base : Heap, K.In base → base.Ns mainGlobals mg → BM mg base → FnOk P w K mg base CX0 k fa fd [x] sp) (hbind : ∀ (s : Shared) (u : Value), BindsTo s fd ⟨[u], []⟩ [(x, u)])
    (hsp : ∀ H : Hp, (∀ T ∈ tabs, H T = some (tabO T)) → SqL K H a (ns.map V.int) → sp [.ref a] H (fun v H' => v = .bl true ∧ ∀ T ∈ tabs, H' T = some (tabO T)) fun _ _ _ => False) :
    codeAny (model P w) callerA (.call (.ref fa) ⟨[.ref a], []⟩) (fun r s' => r = .ok (.ret (.bool true)) ∧ OldK s₁.heap s'.heap ∧ s'.os = s₁.os ∧ AllBare s'.gens) s₁ := by
  have rv := vals_ints hi
  have lenV := hi.length
  have naT : a ∉ tabs := fun z => by
    have e := (htab a z).2
    rw [ha] at e
    cases e
  have core : ∀ H : Hp, (∀ T ∈ tabs, H T = some (tabO T)) → (∀ b u, H b = some u → b ∈ tabs ∨ (b = a ∧ ∃ o xs, u = .frz o (.lst xs))) → SqL K H a (ns.map V.int) → HOk P w H s₁.heap → (H a ≠ none → K.lookup a = none) →
      codeAny (model P w) callerA (.call (.ref fa) ⟨[.ref a], []⟩) (fun r s' => r = .ok (.ret (.bool true)) ∧ OldK s₁.heap s'.heap ∧ s'.os = s₁.os ∧ AllBare s'.gens) s₁ := by
    intro H hT hO hS hok hK
    -- an object of a class that is no list is not tracked
    have free : ∀ {b : Addr} {o : Obj}, s₁.heap.get? b = some o → o.cls ≠ .none → b ≠ a → H b = none := fun {b o} e hc hba => by
      cases q : H b with
      | none => rfl
      | some u =>
        rcases hO b u q with z | ⟨z, _⟩
        · have e' := (htab b z).2
          rw [e] at e'
          cases e'
          exact absurd rfl hc
        · exact absurd z hba
    have base_of : ∀ {b : Addr} {o : Obj}, s₁.heap.get? b = some o → H b = none → (hidT s₁.heap H).get? b = some o := fun e n => hidT_get e n
    have noD : ∀ {b : Addr} {o : Obj} {es : Array DictEntry} {ep : Nat}, s₁.heap.get? b = some o → o.data = .dict es ep → H b = none := fun {b o es ep} e d => by
      cases q : H b with
      | none => rfl
      | some u =>
        rcases hO b u q with z | ⟨z, _⟩
        · have e' := (htab b z).2
          rw [e] at e'
          cases e'
          cases d
        · rw [z, ha] at e
          cases e
          cases d
    have nsK : ∀ {b : Addr} {m : Str → Option Value}, s₁.heap.Ns b m → (hidT s₁.heap H).Ns b m := fun {b m} ⟨o, es, ep, e, d, r⟩ => ⟨o, es, ep, base_of e (noD e d), d, r⟩
    have hKb : K.In (hidT s₁.heap H) := fun b o e => base_of (KX b o e) (by
      by_cases hba : b = a
      · cases q : H b with
        | none => rfl
        | some u =>
          subst hba
          rw [hK (by rw [q]; simp)] at e
          cases e
      · have q := List.all_eq_true.mp hcl (b, o) (PySem.W.kb_mem e)
        simp only [Bool.or_eq_true, decide_eq_true_eq, beq_iff_eq] at q
        rcases q with (q | q) | q
        · exact free (KX b o e) q hba
        · obtain ⟨mc, ⟨oc, es, ep, z1, z2, _⟩, _⟩ := hlim
          rw [q]; exact noD z1 z2
        · obtain ⟨oc, es, ep, z1, z2, _⟩ := hns
          rw [q]; exact noD z1 z2)
    have hM : Mod K mg (hidT s₁.heap H) := ⟨hKb, nsK hns, ⟨mb, nsK hb, hbb⟩, let ⟨mc, h1, h2⟩ := hlim; ⟨mc, nsK h1, h2⟩⟩
    have hBM : BM mg (hidT s₁.heap H) := by
      obtain ⟨bm, ob, q1, q2, q3, q4, q5, q6⟩ := hbm
      refine ⟨bm, ob, q1, q2, base_of q3 (free q3 (by rw [q4]; simp) fun z => ?_), q4, q5, q6⟩
      rw [z, ha] at q3
      rw [← Option.some.inj q3] at q4
      exact absurd q4 (by simp)
    have e0 : Env0 P w K mg (hidT s₁.heap H) callerA [] s₁ H := ⟨rfl, hM, fun b o e => of_hidT e, Nat.le_of_eq (hidT_size _ _), trivial, fun b hb => absurd (show b ∈ ([] : List Addr) from hb) (by simp), hok, .of_eq hg⟩
    refine codeAny_mono ((F _ hKb (nsK hns) hBM).run callerA [] s₁ H ⟨[.ref a], []⟩ [.ref a] [.ref a] _ _ hr e0 (hbind s₁ (.ref a)) (.cons rfl .nil) (hsp H hT hS)) fun r s' h => ?_
    cases r with
    | error e => exact False.elim h
    | ok fl =>
      cases fl with
      | next => exact False.elim h
      | brk => exact False.elim h
      | cont => exact False.elim h
      | ret u =>
        obtain ⟨v, H', os, bare, un, hok', r', q⟩ := h
        obtain ⟨q', hT'⟩ := q
        have q' : v = .bl true := q'
        subst q'
        obtain rfl : u = Value.bool true := r'
        refine ⟨rfl, ⟨fun b o e => ?_, fun b o e => un.there b o e (by simp)⟩, os, bare.bare⟩
        cases q : H b with
        | none => exact .inl (un.keep b o e q (by intro z; exact absurd (show b ∈ ([] : List Addr) from z) (by simp)) (by simp))
        | some u =>
          rcases hO b u q with z | ⟨z, ob, xs, eu⟩
          · obtain ⟨ct, e'⟩ := htab b z
            obtain ⟨⟨ps, ep, _⟩, _⟩ := hok' b _ (hT' b z)
            rw [e] at e'
            cases e'
            exact .inr (.inl ⟨ct, rfl, #[], ps, rfl, by simpa using ep⟩)
          · subst eu
            have z2 := un.frzs b ob _ q
            obtain ⟨e1, _⟩ := hok b _ q
            obtain ⟨e2, _⟩ := hok' b _ z2
            rw [e] at e1; cases e1
            exact .inl e2
  have tabOk : ∀ (H : Hp) (T : Addr), T ∈ tabs → ObjOk P w H s₁.heap T (tabO T) := fun H T hT => tab_ok (htab T hT).2 (by simp [TriplesOk])
  cases hk : K.lookup a with
  | some o =>
    have e := KX a o hk
    rw [ha] at e
    cases e
    refine core (fun b => if b ∈ tabs then some (tabO b) else none) (fun T hT => if_pos hT) (fun b u z => ?_) (.inr ⟨_, vs.toArray, _, hk, rfl, rfl, rfl, by rw [List.size_toArray, lenV]; exact hl, by simpa using rv⟩) (fun b u z => ?_) (fun z => absurd (if_neg naT) z)
    · by_cases hb : b ∈ tabs
      · exact .inl hb
      · have z' := (if_neg hb).symm.trans z; cases z'
    · by_cases hb : b ∈ tabs
      · have z' := (if_pos hb).symm.trans z; cases z'; exact tabOk _ b hb
      · have z' := (if_neg hb).symm.trans z; cases z'
  | none =>
    have q1 : ∀ {b : Addr}, b ∈ tabs → (if b = a then some (HO.frz { cls := .type "list", data := .seq vs.toArray } (.lst (ns.map V.int))) else if b ∈ tabs then some (tabO b) else none) = some (tabO b) := fun {b} hb => by
      rw [if_neg (fun (z : b = a) => naT (by rw [← z]; exact hb)), if_pos hb]
    refine core (fun b => if b = a then some (.frz { cls := .type "list", data := .seq vs.toArray } (.lst (ns.map V.int))) else if b ∈ tabs then some (tabO b) else none) (fun T hT => q1 hT) (fun b u z => ?_) (.inl (.inr ⟨{ cls := .type "list", data := .seq vs.toArray }, if_pos rfl⟩)) (fun b u z => ?_) fun _ => hk
    · by_cases hb : b = a
      · have z' := (if_pos hb).symm.trans z
        cases z'
        exact .inr ⟨hb, _, _, rfl⟩
      · by_cases hb2 : b ∈ tabs
        · exact .inl hb2
        · have z' := ((if_neg hb).trans (if_neg hb2)).symm.trans z; cases z'
    · by_cases hb : b = a
      · have z' := (if_pos hb).symm.trans z
        cases z'
        subst hb
        exact ⟨ha, by rw [List.length_map]; exact hl, vs, _, rv, ha⟩
      · by_cases hb2 : b ∈ tabs
        · have z' := (q1 hb2).symm.trans z
          cases z'
          exact tabOk _ b hb2
        · have z' := ((if_neg hb).trans (if_neg hb2)).symm.trans z; cases z'

/-- a def's code object and its table -/
theorem tab_of_top {p : Program} {loose : List Str} {mean : ExcName → Option Value} {mg mb : Str → Option Value} {h : Heap} (T : Top p loose mean mg mb h) {d : DefRec} {x qual : Str} (hf : (recsOf p).find? (fun e => e.name == x) = some d) {K : PySem.W.Frag} (KX : K.In h) {f : Addr}
    (hm : mg x = some (.ref f)) {oc : Value} {od : Option Addr} {sl : Array (Option Value)} {fd : FuncData} (l : K.lookup f = some ⟨oc, od, .func fd, sl⟩) (c : PySem.W.codeIn K fd.code qual = true) :
    ∃ P, CodeAt K fd.code P ∧ isCodeTable h P ∧ h.get? P = some { cls := .none, data := .fields #[] } := by
  have hn : d.name = x := beq_iff_eq.mp (List.find?_some (p := fun e : DefRec => e.name == x) hf)
  obtain ⟨a', o', fd', cc, P, h1, h2, h3, h4, h5, h6⟩ := T.tab d (List.mem_of_find?_eq_some hf)
  rw [hn, hm] at h1; cases h1
  rw [KX f _ l] at h2; cases h2
  cases h3
  refine ⟨P, ?_, h6.isCodeTable, h6.2⟩
  obtain ⟨o, vs, file, tf, flags, tg, inF, text, tt, op, ho, hd, h11, h18, h7, h9, h10, _⟩ := h5
  obtain ⟨⟨o2, vs2, g1, g2, g3, g4⟩, _⟩ := h6
  rw [ho] at g1; cases g1
  rw [hd] at g3; cases g3
  rw [h4] at c
  cases q : K.lookup cc with
  | none => unfold PySem.W.codeIn at c; simp [q] at c
  | some o3 =>
    have e3 := KX cc o3 q
    rw [ho] at e3
    have e4 : o = o3 := Option.some.inj e3
    subst e4
    exact ⟨cc, o, vs, file, tf, flags, tg, inF, text, tt, h4, q, g2, hd, g4, h18, h7, h9, h10⟩

/-- the goal that k_head leaves, with tables -/
theorem walk_ofT {l : PySem.W.OpenLaw} {n k : Nat} {q : Program} {loose : List Str} {XP : (Str → Option Value) → Heap → Prop} {YP : World → Heap → Prop} {d : DefRec} {K : Params → PySem.W.Frag} {x : Str} {sp : PySem.W.Frag → List Addr → Sp}
    (hn : l.most = some n) (hn2 : n ≤ sizeLine) (hdf : d.params.defaults = []) (hr : Room k callerA)
    (hY : ∀ (w : World) (h : Heap), YP w h → (K w.params).In h)
    (hcl : ∀ (w : World), PySem.W.kb_classed (K w.params) = true)
    (F : ∀ (w : World) (mg mb : Str → Option Value) (mean : ExcName → Option Value) (fa : Addr) (h : Heap), (K w.params).In h → Top q (PySem.W.looseW q loose) mean mg mb h → mg d.name = some (.ref fa) →
      ∃ (fd : FuncData) (tabs : List Addr), (∀ (s : Shared) (u : Value), BindsTo s fd ⟨[u], []⟩ [(x, u)]) ∧ (∀ T ∈ tabs, isCodeTable h T ∧ h.get? T = some { cls := .none, data := .fields #[] }) ∧
        ∀ base : Heap, (K w.params).In base → base.Ns mainGlobals mg → BM mg base → FnOk l.prog w (K w.params) mg base CX0 k fa fd [x] (sp (K w.params) tabs))
    (hsp : ∀ (K : PySem.W.Frag) (tabs : List Addr) (H : Hp) (a : Addr) (ns : List Int), ns.length ≤ n → (∀ T ∈ tabs, H T = some (tabO T)) → SqL K H a (ns.map V.int) → sp K tabs [.ref a] H (fun v H' => v = .bl true ∧ ∀ T ∈ tabs, H' T = some (tabO T)) fun _ _ _ => False) :
    PySem.W.WalkO q loose XP YP l.row.toRowW d [] (fun f vs => PySem.call f vs) := by
  refine Att.attach_call hn hdf fun w s₀ s₁ mg mb fa o pm cd doc a vs ns G Y ho hd hcd hmg hobj hints hlen hg => ?_
  have KX := hY w _ Y
  obtain ⟨fd, tabs, hb, ht, hF⟩ := F w mg mb _ fa _ KX G.T hmg
  exact law_callT KX G.T.g G.T.b G.T.builtins G.T.nolimit G.T.bmain hg ht hobj hints (Nat.le_trans hlen hn2) hr (hcl w) hF hb (fun H hO hS => hsp _ tabs H a ns hlen hO hS)
end L2

namespace L2
open PySem PySem.Spec PyProof.Rows

theorem Same.up {H : Hp} {D : Addr} {o : HO} (h : H D = none) : Same H (upd H D o) := fun b u q => by rw [upd_ne (ne_of_none q h)]; exact q
theorem Same.upd {H H' : Hp} {D : Addr} {o : HO} (s : Same H H') (h : H D = none) : Same H (upd H' D o) := fun b u q => by rw [upd_ne (ne_of_none q h)]; exact s b u q
theorem Same.none {H H' : Hp} (s : Same H H') {D : Addr} (h : H' D = Option.none) : H D = Option.none := s.free h
theorem _root_.PySem.Paired.impR {α β : Type} {F F' : α → β → Prop} : ∀ {l : List α} {m : List β}, Paired F l m → (∀ a b, b ∈ m → F a b → F' a b) → Paired F' l m
  | _, _, .nil, _ => .nil
  | _, _, .cons h t, k => .cons (k _ _ List.mem_cons_self h) (t.impR fun a b hb q => k a b (List.mem_cons_of_mem _ hb) q)

/-- what an iterator walks, as long as nothing that was tracked is changed -/
structure JW (J : It) (H1 : Hp) (xs : List V) : Prop where
  go : ∀ i H', Same H1 H' → i < xs.length → J.go i H'
  yld : ∀ i H' x H2, Same H1 H' → i < xs.length → J.yld i H' x H2 → H2 = H' ∧ xs[i]? = some x
  stop : ∀ H', Same H1 H' → J.stop xs.length H'
theorem jw_list {K : PySem.W.Frag} {H1 : Hp} {a : Addr} {xs : List V} (h : SqL K H1 a xs) : JW (Itl K a) H1 xs where
  go := fun i H' s hi => ⟨xs, xs[i], s.seq h, by simp [hi]⟩
  yld := fun i H' x H2 s hi ⟨e, y⟩ => ⟨e, y xs (s.seq h)⟩
  stop := fun H' s => ⟨xs, s.seq h, Nat.le_refl _⟩
def rangeV (n : Nat) : List V := (List.range n).map fun (i : Nat) => V.int (i : Int)
theorem jw_range {H1 : Hp} {n : Nat} : JW (Itr 0 n) H1 (rangeV n) where
  go := fun i H' s hi => by simpa [rangeV, Itr] using hi
  yld := fun i H' x H2 s hi ⟨e, y⟩ => ⟨e, by
    have hi' : i < n := by simpa [rangeV] using hi
    subst y
    simp [rangeV, hi']⟩
  stop := fun H' s => by simp [rangeV, Itr]

/-- a comprehension's reading by what holds of the items done, the list so far and the heap -/
theorem comp_rd {J : It} {H1 : Hp} {xs : List V} {σ : St} {te : TE} {Q : VK} (jw : JW J H1 xs) (hz : xs.length ≤ sizeLine) {D : Addr} (hD : H1 D = none) (P : List V → List V → Hp → Prop) (h0 : P [] [] (upd H1 D (.lst [])))
    (hs : ∀ pre x post acc H' (Q' : VK), xs = pre ++ x :: post → acc.length = pre.length → Same H1 H' → H' D = some (.lst acc) → P pre acc H' → (∀ v H4, Same H' H4 → P (pre ++ [x]) (acc ++ [v]) (upd H4 D (.lst (acc ++ [v]))) → Q' v H4) → te (some x :: σ) H' Q')
    (hq : ∀ acc H', acc.length = xs.length → Same H1 H' → H' D = some (.lst acc) → P xs acc H' → Q (.ref D) H') :
    CompRd 1 (gName 0) te σ J H1 D Q := by
  refine ⟨fun i m acc σ' H' => m = xs.length - i ∧ i ≤ xs.length ∧ acc.length = i ∧ (∃ o, σ' = o :: σ) ∧ Same H1 H' ∧ H' D = some (.lst acc) ∧ P (xs.take i) acc H', ⟨xs.length, rfl, Nat.zero_le _, rfl, ⟨none, rfl⟩, Same.up hD, upd_same, h0⟩, ?_⟩
  rintro i m acc σ' H' ⟨rfl, hi, hl, ⟨o, rfl⟩, sm, eD, p⟩
  by_cases hlt : i < xs.length
  · refine .inr ⟨jw.go i H' sm hlt, by omega, fun x H2 y => ?_⟩
    obtain ⟨rfl, ex⟩ := jw.yld i H' x H2 sm hlt y
    have hx : xs[i] = x := by rw [List.getElem?_eq_getElem hlt] at ex; exact Option.some.inj ex
    have sp : xs = xs.take i ++ x :: xs.drop (i + 1) := by
      rw [← hx, ← List.drop_eq_getElem_cons hlt, List.take_append_drop]
    have tk : xs.take (i + 1) = xs.take i ++ [x] := by rw [List.take_succ, ex]; rfl
    show te (some x :: σ) H2 _
    refine hs (xs.take i) x (xs.drop (i + 1)) acc H2 _ sp (by rw [hl, List.length_take]; omega) sm eD p fun v H4 s4 p4 => ?_
    refine ⟨s4 _ _ eD, xs.length - (i + 1), by omega, rfl, hlt, by simp [hl], ⟨_, rfl⟩, (sm.trans s4).upd hD, upd_same, ?_⟩
    rw [tk]
    exact p4
  · have e : i = xs.length := by omega
    subst e
    refine .inl ⟨jw.stop H' sm, eD, hq acc H' hl sm eD ?_⟩
    rw [List.take_length] at p
    exact p

end L2

namespace L2
open PySem PySem.Spec PyProof.Rows

section
variable {X : Cx} {sc : Scope} {N2 : List Str} {x : Str} {px : Pos} {elt iter : Expr} {gpos p pos : Pos} {wi : TI} {te : TE} {P : Addr}

theorem pg_comp (B : Blk sc.names X.env.scope.names [x] N2 X.N) (s : Shared) (H : Hp) (fp : List Addr) : PG (X.comp sc ([x] ++ N2) s H fp) (.Name x px) (gName 0) := by
  rcases B.own x (by simp) with e | e
  · exact pg_name (i := 0) B.ndN rfl (.inl (kind_own (env := X.env) e (.inl rfl))) (.inr (kind_own (env := X.env) e (.inl rfl)))
  · refine pg_name (i := 0) B.ndN rfl (.inr (kind_own (env := X.env) e (.inr rfl))) (.inl ?_)
    show (sc.names.lookup x == some NameKind.cell) = true
    rw [e]; rfl
/-- [e for x in iter] -/
theorem pe_lc1 (hc : X.calm = true) (hi : PI X (.Name x px) iter wi) (hB : blkB sc.names X.env.scope.names [x] N2 X.N = true) (hk : sc.kind = .function) (he : ∀ s H fp, PE (X.comp sc ([x] ++ N2) s H fp) elt te)
    (hs : ∀ x, foldedSetIterable iter X.env x = pure x := by intro _; rfl) : PE X (.ListComp elt [⟨.Name x px, iter, [], 0⟩] sc pos) (tComp 1 wi (gName 0) te) :=
  pe_lcomp (own := [x]) hc hi (blk_of hB) hk (fun s H fp => pg_comp (blk_of hB) s H fp) he hs

/-- y = [e for x in iter] -/
theorem ps_lc1 {i : Nat} {y : Str} {py spos : Pos} (hN : X.N.Nodup) (hi' : X.N[i]? = some y) (hy : X.env.scope.names.lookup y = some .local) (hc : X.calm = true) (hi : PI X (.Name x px) iter wi) (hB : blkB sc.names X.env.scope.names [x] N2 X.N = true) (hk : sc.kind = .function) (he : ∀ s H fp, PE (X.comp sc ([x] ++ N2) s H fp) elt te)
    (hsw : swapsWith (.ListComp elt [⟨.Name x px, iter, [], 0⟩] sc pos) (some (.Name y py)) spos.line X.env = pure true := by rfl) (hs : ∀ x, foldedSetIterable iter X.env x = pure x := by intro _; rfl) :
    PS X (.Assign [.Name y py] (.ListComp elt [⟨.Name x px, iter, [], 0⟩] sc pos) spos) (tAsg (tComp 1 wi (gName 0) te) (gName i)) :=
  ps_lcomp (own := [x]) hN hi' hy hc hi (blk_of hB) hk (fun s H fp => pg_comp (blk_of hB) s H fp) he hsw hs

theorem pg_gen {B : Around} (Bk : Blk sc.names X.env.scope.names [x] N2 X.N) (hnc : ∀ y ∈ sc.names, y.2 ≠ .cell) (code : Value) (s : Shared) (H : Hp) (fp : List Addr) : PG (X.gen B sc ([x] ++ N2) code s H fp) (.Name x px) (gName 0) := by
  rcases Bk.own x (by simp) with e | e
  · exact pg_name (i := 0) Bk.ndN rfl (.inl e) (.inr e)
  · exact absurd rfl (hnc _ (mem_of_lookup e))
/-- what a block of a generator expression must be, as a check -/
def genB (sc : Scope) (ks : List (Str × NameKind)) (own N2 N : List Str) : Bool :=
  blkB sc.names ks own N2 N && (sc.kind == .function) && !sc.isCoroutine && sc.names.all (fun y => y.2 != .cell) && (sc.names.lookup (".0" : Str) == some NameKind.local)
theorem genOk_of {own : List Str} (hc : X.calm = true) (hr : X.A.depth < recursionLimit) (cd : CodeAt X.K X.env.code P) (bm : BM X.mg X.base) (h : genB sc X.env.scope.names own N2 X.N = true) : GenOk X sc own N2 P := by
  unfold genB at h
  simp only [Bool.and_eq_true] at h
  obtain ⟨⟨⟨⟨h1, h2⟩, h3⟩, h4⟩, h5⟩ := h
  refine ⟨hc, hr, blk_of h1, by simpa using h2, by simpa using h3, fun y hy => ?_, by simpa using h5, cd, bm⟩
  have q := List.all_eq_true.mp h4 y hy
  simpa using q
theorem pe_all1 (hc : X.calm = true) (hr : X.A.depth < recursionLimit) (cd : CodeAt X.K X.env.code P) (bm : BM X.mg X.base) (hgl : Gl X "all") (hm : X.mg "all" = none) (hi : PI X (.Name x px) iter wi) (hB : genB sc X.env.scope.names [x] N2 X.N = true)
    (he : ∀ code s H fp, PE (X.gen X.A.in1.in1 sc ([x] ++ N2) code s H fp) elt te)
    (hs : ∀ x, genFold iter X.env x = pure x := by intro _; rfl) (hst : starEach [.GeneratorExp elt [⟨.Name x px, iter, [], 0⟩] sc gpos] X.env = [(false, eval (.GeneratorExp elt [⟨.Name x px, iter, [], 0⟩] sc gpos) X.env)] := by rfl) :
    PE X (.Call (.Name "all" p) [.GeneratorExp elt [⟨.Name x px, iter, [], 0⟩] sc gpos] [] pos) (tAllG 1 P wi (gName 0) te) :=
  have K := genOk_of hc hr cd bm hB
  pe_allG (own := [x]) K hgl hm hi (fun code s H fp => pg_gen K.blk K.nc code s H fp) he hs hst
theorem room_gen {k : Nat} {A : Around} {e : Env} (r : Room (k + 1) A) : Room k (genA A.in1.in1 e) :=
  ⟨r.hd, by have := r.dp; show A.depth + 1 + 3 * k + 5 < _; omega, by have := r.un; show A.units + 1 + 1 + 3 + 16 * k + 200 < _; omega⟩
end

/-! ### a generator expression's reading, whose items are reckoned without a change of what was tracked -/
theorem gen_rd {J : It} {H1 : Hp} {xs : List V} {σ : St} {te : TE} {F : Nat → (Nat → V → Prop) → (Nat → St → Hp → Prop) → Prop} (jw : JW J H1 xs) (R : Nat → V → Prop)
    (hs : ∀ i x, xs[i]? = some x → ∀ H' (Q' : VK), Same H1 H' → (∀ v H2, R i v → Same H' H2 → Q' v H2) → te (some x :: σ) H' Q')
    (hF : F xs.length R (fun _ σ' H' => (∃ o, σ' = o :: σ) ∧ Same H1 H')) : GenRd 1 (gName 0) te σ F J H1 := by
  refine ⟨xs.length, R, _, ⟨⟨none, rfl⟩, Same.refl _⟩, fun i σ' H' hi w => ?_, fun σ' H' w => jw.stop H' w.2, hF⟩
  obtain ⟨⟨o, rfl⟩, sm⟩ := w
  refine ⟨jw.go i H' sm hi, fun x H2 y => ?_⟩
  obtain ⟨rfl, ex⟩ := jw.yld i H' x H2 sm hi y
  show te (some x :: σ) H2 _
  exact hs i x ex H2 _ sm fun v H3 r s3 => ⟨r, ⟨_, rfl⟩, sm.trans s3⟩
/-- all: bv the truths, in order -/
theorem all_rd {J : It} {H1 : Hp} {xs : List V} {σ : St} {te : TE} {Q : VK} {P : Addr} (jw : JW J H1 xs) (hP : H1 P = some (tabO P)) (bv : Nat → Bool)
    (hs : ∀ i x, xs[i]? = some x → ∀ H' (Q' : VK), Same H1 H' → (∀ H2, Same H' H2 → Q' (.bl (bv i)) H2) → te (some x :: σ) H' Q')
    (hq : ∀ b H', Same H1 H' → (b = true ↔ ∀ j, j < xs.length → bv j = true) → Q (.bl b) H') :
    AllRd 1 P (gName 0) te σ J H1 Q :=
  ⟨hP, gen_rd jw (fun i v => v = .bl (bv i)) (fun i x ex H' Q' sm k => hs i x ex H' Q' sm fun H2 s2 => k _ _ rfl s2) ⟨bv, fun i v _ r => r, fun hb σ' H' w => hq _ H' w.2 ⟨fun _ => hb, fun _ => rfl⟩,
    fun j hj hb _ σ' H' w => hq _ H' w.2 ⟨fun z => (by cases z), fun z => by rw [z j hj] at hb; cases hb⟩⟩⟩

/-! ### a def of the text with its code's table -/
structure FunT (K : PySem.W.Frag) (x qual : Str) (st : Stmt) (f : Addr) (fd : FuncData) (T : Addr) : Prop where
  ex : ∃ (oc : Value) (od : Option Addr) (kV doc pm : Value) (an : Option Addr) (cdv ct : Value) (osl : Array (Option Value)),
    fd = PySem.W.fnOf x qual (defArgs st) (defBody st) (defScope st) .none kV doc pm an cdv ct ∧ K.lookup f = some ⟨oc, od, .func fd, osl⟩ ∧ PySem.W.codeIn K cdv qual = true ∧ CodeAt K cdv T
  kp : PySem.W.keepIn K (.ref f) = true
theorem FunT.ok {P : Program} {w : World} {K : PySem.W.Frag} {mg : Str → Option Value} {base : Heap} {x qual : Str} {st : Stmt} {f T : Addr} {fd : FuncData} {N ps : List Str} {k : Nat} {sp : Sp} (F : FunT K x qual st f fd T) (S : FnScope N ps (defScope st)) (len : ∀ vs H Q E, sp vs H Q E → vs.length = ps.length)
    (hbody : ∀ (cdv : Value) (A : Around) (outer : List Env) (s : Shared) (H : Hp) (vs : List V) (Q : VK) (E : XK), CodeAt K cdv T → Room k (A.deeper (envOfC qual (defScope st) s.heap.objs.size f cdv)) → sp vs H Q E →
      ∃ t, PSs (cxOf CX0 P w K mg base N qual (defScope st) f cdv A outer s H E).nox (defBody st) t ∧ t { nx := fun _ H' => Q .non H', rt := Q } (start N vs) H) : FnOk P w K mg base CX0 (k + 1) f fd ps sp := by
  obtain ⟨oc, od, kV, doc, pm, an, cdv, ct, osl, rfl, lk, hcd, cd⟩ := F.ex
  refine fn_of lk hcd S len fun A outer s H vs Q E hr hsp => ?_
  obtain ⟨t, h, q⟩ := hbody cdv A outer s H vs Q E cd hr hsp
  exact ⟨t, h.nox, q⟩
theorem FunT.fn {K : PySem.W.Frag} {x qual : Str} {st : Stmt} {f T : Addr} {fd : FuncData} (F : FunT K x qual st f fd T) : Fun K x qual st f fd := by
  obtain ⟨oc, od, kV, doc, pm, an, cdv, ct, osl, e, lk, hcd, cd⟩ := F.ex
  exact ⟨⟨oc, od, kV, doc, pm, an, cdv, ct, osl, e, lk, hcd⟩, F.kp⟩
end L2

namespace L2
open PySem PySem.Spec PyProof.Rows
abbrev rLen (K : PySem.W.Frag) : List V → Hp → VK → Prop := fun xs H Q => ∃ p ys, xs = [.ref p] ∧ (SqL K H p ys ∨ SqT K H p ys) ∧ Q (.int ys.length) H
abbrev rListOf (K : PySem.W.Frag) : List V → Hp → VK → Prop := fun xs H Q => ∃ p ys, xs = [.ref p] ∧ (SqL K H p ys ∨ SqT K H p ys) ∧ ∀ l, H l = none → Q (.ref l) (upd H l (.lst ys))
abbrev rIsinst (K : PySem.W.Frag) : List V → Hp → VK → Prop := fun xs H Q => ∃ x n t b, xs = [x, .ty n] ∧ TyOf K H x t ∧ PySem.W.kitOne K t (.type n) = some b ∧ Q (.bl b) H
abbrev rAbs : List V → Hp → VK → Prop := fun xs H Q => ∃ i, xs = [.int i] ∧ Q (.int (if i < 0 then -i else i)) H
theorem asPE {X : Cx} {e : Expr} {t : TE} (h : PE X e t) : PE X e t := h
theorem bits_le {k : Int} {n : Nat} (h : k.natAbs < 2 ^ n) : Builtin.Int.intBits k ≤ n := by
  unfold Builtin.Int.intBits
  split
  · exact Nat.zero_le _
  · rename_i h0
    have h1 : k.natAbs ≠ 0 := fun z => h0 (by have : k = 0 := Int.natAbs_eq_zero.mp z; rw [this]; rfl)
    exact (Nat.log2_lt h1).mpr h
/-- both factors of at most 4,096 bits -/
def CMulB (i j : Int) : Prop := i.natAbs < 2 ^ 4096 ∧ j.natAbs < 2 ^ 4096
theorem CMulB.ok {i j : Int} (h : CMulB i j) : IntMulOk i j := by
  have h1 := bits_le h.1
  have h2 := bits_le h.2
  have h3 : Builtin.Int.intTooBig (Builtin.Int.intBits i + Builtin.Int.intBits j) = false := by
    unfold Builtin.Int.intTooBig
    refine decide_eq_false ?_
    have : ((Builtin.Int.intBits i + Builtin.Int.intBits j : Nat) : Int) ≤ 8192 := by omega
    have e : (8192 : Int) ≤ ((bitsLine : Nat) : Int) := by decide
    omega
  unfold IntMulOk
  rw [h3]
  simp
section
variable {X : Cx}
theorem op_mulB : OpR X (binaryOp .Mult) (rI CMulB fun i j => .int (i * j)) := opI fun _ _ _ _ _ _ _ hc q => mul_int q hc.ok
/-- // by a positive divisor of at most 9,000 bits -/
def CDivB (i j : Int) : Prop := 0 < j ∧ j.natAbs.log2 < 9000
theorem op_fdivB : OpR X (binaryOp .FloorDiv) (rI CDivB fun i j => .int (i / j)) := opI fun i j _ _ _ _ _ hc q => by
  have h1 : (0 : Int) < j := hc.1
  exact floordiv_int (by omega) (by rw [Int.fdiv_eq_ediv_of_nonneg i (by omega)]; exact q) (.inl (PyProof.noPylong_of_log2 hc.2))
end
end L2

namespace L2
open PySem PySem.Spec PyProof.Rows

/-! ### tables of ints on the abstract heap -/
def Tab (H : Hp) (t : Addr) (bs : List Addr) (m : List (List Int)) : Prop := H t = some (.lst (bs.map V.ref)) ∧ Paired (fun row b => H b = some (.lst (row.map V.int))) m bs
theorem Tab.same {H H' : Hp} {t : Addr} {bs : List Addr} {m : List (List Int)} (s : Same H H') (h : Tab H t bs m) : Tab H' t bs m := ⟨s _ _ h.1, h.2.impR fun _ _ _ q => s _ _ q⟩
def is33 (m : List (List Int)) : Prop := m.length = 3 ∧ ∀ r ∈ m, r.length = 3
theorem row_of {H : Hp} {m : List (List Int)} {bs : List Addr} (pr : Paired (fun row b => H b = some (.lst (row.map V.int))) m bs) {b : Addr} (hb : b ∈ bs) : ∃ row, row ∈ m ∧ H b = some (.lst (row.map V.int)) := by
  induction pr with
  | nil => cases hb
  | @cons r c m bs h t ih =>
    rcases List.mem_cons.mp hb with e | hb
    · exact ⟨r, List.mem_cons_self, by rw [e]; exact h⟩
    · obtain ⟨row, q1, q2⟩ := ih hb
      exact ⟨row, List.mem_cons_of_mem _ q1, q2⟩
theorem Tab.upd {H : Hp} {t x : Addr} {bs : List Addr} {m : List (List Int)} {o : HO} (h : Tab H t bs m) (h1 : t ≠ x) (h2 : x ∉ bs) : Tab (upd H x o) t bs m :=
  ⟨by rw [upd_ne h1]; exact h.1, h.2.impR fun r b hb e => by rw [upd_ne (fun z => h2 (by rw [← z]; exact hb))]; exact e⟩
theorem Tab.apart {H : Hp} {t x : Addr} {bs : List Addr} {m : List (List Int)} (h : Tab H t bs m) (hx : H x = none) : t ≠ x ∧ x ∉ bs := by
  refine ⟨ne_of_none h.1 hx, fun z => ?_⟩
  obtain ⟨r, _, e⟩ := row_of h.2 z
  rw [e] at hx; cases hx
theorem rdRow {K : PySem.W.Frag} {H : Hp} : ∀ r : List Int, RdVs K H (r.map V.int) (r.map PyData.int)
  | [] => .nil
  | x :: r => .cons (.int x) (rdRow r)
theorem rdTab {K : PySem.W.Frag} {H : Hp} {t : Addr} {bs : List Addr} {m : List (List Int)} (h : Tab H t bs m) : RdV K H (.ref t) (dTab m) := by
  obtain ⟨e, pr⟩ := h
  refine .lst (SqL.of e) ?_
  clear e
  induction pr with
  | nil => exact .nil
  | @cons r b m bs h t ih => exact .cons (.lst (SqL.of h) (rdRow r)) ih
theorem mem_refs {bs : List Addr} {x : V} (h : x ∈ bs.map V.ref) : ∃ b, x = .ref b ∧ b ∈ bs := by
  obtain ⟨b, hb, e⟩ := List.mem_map.mp h
  exact ⟨b, e.symm, hb⟩
/-- the items of the list at a reference, each turned by g -/
def itemsOf (H : Hp) (g : V → V) (x : V) : List V := match x with
  | .ref b => (match H b with | some (.lst xs) => xs.map g | _ => [])
  | _ => []
theorem itemsOf_ref {H : Hp} {g : V → V} {b : Addr} {xs : List V} (h : H b = some (.lst xs)) : itemsOf H g (.ref b) = xs.map g := by
  show (match H b with | some (.lst xs) => xs.map g | _ => []) = _
  rw [h]
theorem pair_comp {H H' : Hp} {f : V → List V} {g : List Int → List Int} : ∀ {m : List (List Int)} {bs bs' : List Addr}, Paired (fun row b => H b = some (.lst (row.map V.int))) m bs → Paired (fun x b' => H' b' = some (.lst (f x))) (bs.map V.ref) bs' →
    (∀ row b, H b = some (.lst (row.map V.int)) → f (.ref b) = (g row).map V.int) → Paired (fun row b' => H' b' = some (.lst (row.map V.int))) (m.map g) bs'
  | _, _, _, .nil, h2, _ => by cases h2; exact .nil
  | _, _, _, .cons h t, h2, k => by
    cases h2 with
    | cons h' t' => exact .cons (by rw [h', k _ _ h]) (pair_comp t t' k)
/-! ### entries -/
def ent (m : List (List Int)) (i j : Nat) : Int := (m.getD i []).getD j 0
def mk3 (g : Nat → Nat → Int) : List (List Int) := [[g 0 0, g 0 1, g 0 2], [g 1 0, g 1 1, g 1 2], [g 2 0, g 2 1, g 2 2]]
theorem is33_mk3 (g : Nat → Nat → Int) : is33 (mk3 g) := ⟨rfl, fun r hr => by
  simp only [mk3, List.mem_cons, List.not_mem_nil, or_false] at hr
  rcases hr with rfl | rfl | rfl <;> rfl⟩
theorem cases3 {i : Nat} (h : i < 3) : i = 0 ∨ i = 1 ∨ i = 2 := by omega
theorem ent_mk3 (g : Nat → Nat → Int) {i j : Nat} (hi : i < 3) (hj : j < 3) : ent (mk3 g) i j = g i j := by
  rcases cases3 hi with rfl | rfl | rfl <;> rcases cases3 hj with rfl | rfl | rfl <;> rfl
theorem eq_mk3 {m : List (List Int)} (h : is33 m) : m = mk3 (ent m) := by
  obtain ⟨h1, h2⟩ := h
  match m, h1, h2 with
  | [r0, r1, r2], _, h2 =>
    have l0 := h2 r0 (by simp)
    have l1 := h2 r1 (by simp)
    have l2 := h2 r2 (by simp)
    match r0, r1, r2, l0, l1, l2 with
    | [a, b, c], [d, e, f], [g, h, i], _, _, _ => rfl
theorem atI_ofNat {xs : List V} {i : Nat} {v : V} (h : xs[i]? = some v) : atI xs (i : Int) = some v := atI_nat h
theorem tab_row {H : Hp} {t : Addr} {bs : List Addr} {m : List (List Int)} (h : Tab H t bs m) {i : Nat} (hi : i < m.length) : ∃ b row, atI (bs.map V.ref) (i : Int) = some (.ref b) ∧ H b = some (.lst (row.map V.int)) ∧ m[i]? = some row ∧ b ∈ bs := by
  obtain ⟨_, pr⟩ := h
  have q : ∀ {m : List (List Int)} {bs : List Addr} {i : Nat}, Paired (fun row b => H b = some (.lst (row.map V.int))) m bs → i < m.length → ∃ b row, bs[i]? = some b ∧ H b = some (.lst (row.map V.int)) ∧ m[i]? = some row := by
    intro m bs i pr
    induction pr generalizing i with
    | nil => intro hi; exact absurd hi (Nat.not_lt_zero _)
    | @cons r b m bs h t ih =>
      intro hi
      cases i with
      | zero => exact ⟨b, r, rfl, h, rfl⟩
      | succ i =>
        obtain ⟨b', r', e1, e2, e3⟩ := ih (i := i) (by simpa using hi)
        exact ⟨b', r', by simpa using e1, e2, by simpa using e3⟩
  obtain ⟨b, row, e1, e2, e3⟩ := q pr hi
  exact ⟨b, row, atI_ofNat (by rw [List.getElem?_map, e1]; rfl), e2, e3, List.mem_of_getElem? e1⟩
/-- a table's number (i, j), by its row -/
theorem tab_ent {H : Hp} {t : Addr} {bs : List Addr} {m : List (List Int)} (h : Tab H t bs m) (h33 : is33 m) {i j : Nat} (hi : i < 3) (hj : j < 3) :
    ∃ (b : Addr) (row : List Int), atI (bs.map V.ref) (i : Int) = some (.ref b) ∧ H b = some (.lst (row.map V.int)) ∧ atI (row.map V.int) (j : Int) = some (.int (ent m i j)) := by
  obtain ⟨b, row, e1, e2, e3, _⟩ := tab_row h (i := i) (by rw [h33.1]; exact hi)
  refine ⟨b, row, e1, e2, atI_ofNat ?_⟩
  have rl : row.length = 3 := h33.2 row (List.mem_of_getElem? e3)
  have e4 : m.getD i [] = row := by rw [List.getD_eq_getElem?_getD, e3]; rfl
  rw [List.getElem?_map, List.getElem?_eq_getElem (by rw [rl]; exact hj)]
  unfold ent
  rw [e4, List.getD_eq_getElem?_getD, List.getElem?_eq_getElem (by rw [rl]; exact hj)]
  rfl
/-- the row i of a 3 by 3 table, written out -/
theorem tab_row3 {H : Hp} {t : Addr} {bs : List Addr} {m : List (List Int)} (h : Tab H t bs m) (h33 : is33 m) {i : Nat} (hi : i < 3) :
    ∃ b, atI (bs.map V.ref) (i : Int) = some (.ref b) ∧ H b = some (.lst [.int (ent m i 0), .int (ent m i 1), .int (ent m i 2)]) ∧ b ∈ bs := by
  obtain ⟨b, row, e1, e2, e3, e5⟩ := tab_row h (i := i) (by rw [h33.1]; exact hi)
  refine ⟨b, e1, ?_, e5⟩
  have rl : row.length = 3 := h33.2 row (List.mem_of_getElem? e3)
  have e4 : m.getD i [] = row := by rw [List.getD_eq_getElem?_getD, e3]; rfl
  rw [e2]
  unfold ent
  rw [e4]
  match row, rl with
  | [a, b, c], _ => rfl
/-- the numbers have at most n bits -/
def Bd (n : Nat) (m : List (List Int)) : Prop := ∀ i j, i < 3 → j < 3 → (ent m i j).natAbs < 2 ^ n
theorem Bd.mono {a b : Nat} {m : List (List Int)} (h : Bd a m) (hab : a ≤ b) : Bd b m := fun i j hi hj => Nat.lt_of_lt_of_le (h i j hi hj) (Nat.pow_le_pow_right (by decide) hab)
theorem bd_mul {x y : Int} {a b : Nat} (hx : x.natAbs < 2 ^ a) (hy : y.natAbs < 2 ^ b) : (x * y).natAbs < 2 ^ (a + b) := by
  rw [Int.natAbs_mul, Nat.pow_add]
  exact Nat.mul_lt_mul_of_lt_of_lt hx hy
theorem bd_add {x y : Int} {a : Nat} (hx : x.natAbs < 2 ^ a) (hy : y.natAbs < 2 ^ a) : (x + y).natAbs < 2 ^ (a + 1) := by
  have e : 2 ^ (a + 1) = 2 ^ a + 2 ^ a := by rw [Nat.pow_succ]; omega
  omega
theorem bd_sub {x y : Int} {a : Nat} (hx : x.natAbs < 2 ^ a) (hy : y.natAbs < 2 ^ a) : (x - y).natAbs < 2 ^ (a + 1) := by
  have e : 2 ^ (a + 1) = 2 ^ a + 2 ^ a := by rw [Nat.pow_succ]; omega
  omega
theorem bd_up {x : Int} {a b : Nat} (hx : x.natAbs < 2 ^ a) (h : a ≤ b) : x.natAbs < 2 ^ b := Nat.lt_of_lt_of_le hx (Nat.pow_le_pow_right (by decide) h)
def mulT (a b : List (List Int)) : List (List Int) := mk3 fun i j => ent a i 0 * ent b 0 j + ent a i 1 * ent b 1 j + ent a i 2 * ent b 2 j
def overT (a : List (List Int)) : List (List Int) := mk3 fun i j => ent a j i
theorem bd_mulT {a b : List (List Int)} {p q : Nat} (ha : Bd p a) (hb : Bd q b) : Bd (p + q + 2) (mulT a b) := fun i j hi hj => by
  unfold mulT
  rw [ent_mk3 _ hi hj]
  exact bd_add (bd_add (bd_mul (ha i 0 hi (by decide)) (hb 0 j (by decide) hj)) (bd_mul (ha i 1 hi (by decide)) (hb 1 j (by decide) hj))) (bd_up (bd_mul (ha i 2 hi (by decide)) (hb 2 j (by decide) hj)) (Nat.le_succ _))
theorem bd_overT {a : List (List Int)} {p : Nat} (ha : Bd p a) : Bd p (overT a) := fun i j hi hj => by
  unfold overT
  rw [ent_mk3 _ hi hj]
  exact ha j i hj hi

/-! ### rows and tables by comprehensions over range(3) -/
theorem kit_same (K : PySem.W.Frag) (n : String) : PySem.W.kitOne K (.type n) (.type n) = some true := by
  unfold PySem.W.kitOne
  rw [if_pos (by simp)]
theorem kit_int_bool (K : PySem.W.Frag) : PySem.W.kitOne K (.type "int") (.type "bool") = some false := by kernel_rfl
theorem atI_in {xs : List V} {k : Int} (h0 : 0 ≤ k) (h : k < (xs.length : Int)) : ∃ v, atI xs k = some v ∧ xs[k.toNat]? = some v := by
  have hk : k.toNat < xs.length := by omega
  have ek : k = ((k.toNat : Nat) : Int) := by omega
  have q : atI xs ((k.toNat : Nat) : Int) = some xs[k.toNat] := atI_nat (by rw [List.getElem?_eq_getElem hk])
  rw [← ek] at q
  exact ⟨xs[k.toNat], q, by rw [List.getElem?_eq_getElem hk]⟩
theorem atI_int {ns : List Int} {k : Int} (h0 : 0 ≤ k) (h : k < (ns.length : Int)) : ∃ z : Int, atI (ns.map V.int) k = some (.int z) := by
  obtain ⟨v, h1, h2⟩ := atI_in (xs := ns.map V.int) h0 (by rw [List.length_map]; exact h)
  rw [List.getElem?_map] at h2
  cases q : ns[k.toNat]? with
  | none => rw [q] at h2; cases h2
  | some z => rw [q] at h2; cases h2; exact ⟨z, h1⟩
theorem small {n : Nat} (h : n ≤ 1000) : n ≤ sizeLine := Nat.le_of_lt (small1000 h)
theorem at2 {x y : V} {i : Int} (h0 : 0 ≤ i) (h : i < 2) : ∃ v, atI [x, y] i = some v ∧ (v = x ∨ v = y) := by
  have c : i = 0 ∨ i = 1 := by omega
  rcases c with rfl | rfl
  · exact ⟨x, rfl, .inl rfl⟩
  · exact ⟨y, rfl, .inr rfl⟩
end L2

namespace L2
open PySem PySem.Spec PyProof.Rows
section
variable {X : Cx}
end
/-! ### rows and tables by comprehensions over any three items -/
theorem rowJ_rd {J : It} {xs : List V} {H1 : Hp} {σ : St} {te : TE} {Q : VK} {D : Addr} (jw : JW J H1 xs) (h3 : xs.length = 3) (hD : H1 D = none) (g : Nat → Int) (hs : ∀ j x, j < 3 → xs[j]? = some x → ∀ H' (Q' : VK), Same H1 H' → (∀ H2, Same H' H2 → Q' (.int (g j)) H2) → te (some x :: σ) H' Q')
    (hq : ∀ H', Same H1 H' → H' D = some (.lst [.int (g 0), .int (g 1), .int (g 2)]) → Q (.ref D) H') : CompRd 1 (gName 0) te σ J H1 D Q := by
  refine comp_rd jw (by rw [h3]; decide) hD (fun pre acc H' => acc = (List.range pre.length).map fun j => V.int (g j)) rfl (fun pre x post acc H' Q' e hl sm eD p k => ?_) (fun acc H' hl sm eD p => ?_)
  · have hlen : pre.length < 3 := by
      have := congrArg List.length e
      rw [h3] at this
      simp at this
      omega
    refine hs pre.length x hlen (by rw [e]; simp) H' Q' sm fun H2 s2 => k _ H2 s2 ?_
    rw [p]
    simp [List.range_succ]
  · refine hq H' sm ?_
    rw [eD, p, h3]
    rfl
theorem tabJ_rd {J : It} {xs : List V} {H1 : Hp} {σ : St} {te : TE} {Q : VK} {D : Addr} (jw : JW J H1 xs) (h3 : xs.length = 3) (hD : H1 D = none) (g : Nat → Nat → Int)
    (hs : ∀ i x, i < 3 → xs[i]? = some x → ∀ H' (Q' : VK), Same H1 H' → (∀ b H2, H' b = none → Same H' H2 → H2 b = some (.lst [.int (g i 0), .int (g i 1), .int (g i 2)]) → Q' (.ref b) H2) → te (some x :: σ) H' Q')
    (hq : ∀ bs H', Same H1 H' → (∀ b ∈ bs, H1 b = none) → D ∉ bs → Tab H' D bs (mk3 g) → Q (.ref D) H') : CompRd 1 (gName 0) te σ J H1 D Q := by
  refine comp_rd jw (by rw [h3]; decide) hD (fun pre acc H' => ∃ bs : List Addr, acc = bs.map V.ref ∧ (∀ b ∈ bs, H1 b = none) ∧ D ∉ bs ∧ Paired (fun i b => H' b = some (.lst [.int (g i 0), .int (g i 1), .int (g i 2)])) (List.range pre.length) bs) ⟨[], rfl, fun _ h => (nomatch h), by simp, .nil⟩ (fun pre x post acc H' Q' e hl sm eD p k => ?_) (fun acc H' hl sm eD p => ?_)
  · obtain ⟨bs, rfl, fr, nD, pr⟩ := p
    have hlen : pre.length < 3 := by
      have := congrArg List.length e
      rw [h3] at this
      simp at this
      omega
    refine hs pre.length x hlen (by rw [e]; simp) H' _ sm fun b H2 hb s2 eb => k _ _ s2 ⟨bs ++ [b], by simp, ?_, ?_, ?_⟩
    · intro c hc
      rcases List.mem_append.mp hc with z | z
      · exact fr c z
      · rw [List.mem_singleton.mp z]; exact sm.none hb
    · intro z
      rcases List.mem_append.mp z with z | z
      · exact nD z
      · rw [← List.mem_singleton.mp z, eD] at hb; cases hb
    · have nb : b ≠ D := fun z => by rw [z, eD] at hb; cases hb
      have er : List.range (pre ++ [x]).length = List.range pre.length ++ [pre.length] := by simp [List.range_succ]
      rw [er]
      refine Paired.snoc (pr.impR fun y c hc q => ?_) (by rw [upd_ne nb]; exact eb)
      rw [upd_ne (fun z => nD (by rw [← z]; exact hc))]
      exact s2 _ _ q
  · obtain ⟨bs, rfl, fr, nD, pr⟩ := p
    refine hq bs H' sm fr nD ⟨eD, ?_⟩
    rw [h3] at pr
    have pr' : Paired (fun i b => H' b = some (.lst [.int (g i 0), .int (g i 1), .int (g i 2)])) [0, 1, 2] bs := pr
    cases pr' with
    | cons h0 t0 => cases t0 with
      | cons h1 t1 => cases t1 with
        | cons h2 t2 =>
          cases t2
          exact .cons h0 (.cons h1 (.cons h2 .nil))
theorem range_get {n k : Nat} {x : V} (h : (rangeV n)[k]? = some x) : k < n ∧ x = .int (k : Int) := by
  unfold rangeV at h
  rw [List.getElem?_map] at h
  cases q : (List.range n)[k]? with
  | none => rw [q] at h; cases h
  | some z =>
    rw [q] at h
    have hz := List.getElem?_eq_some_iff.mp q
    obtain ⟨h1, h2⟩ := hz
    have h1' : k < n := by simpa using h1
    rw [List.getElem_range] at h2
    subst h2
    cases h
    exact ⟨h1', rfl⟩
abbrev rAllL (K : PySem.W.Frag) : List V → Hp → VK → Prop := fun xs H Q => ∃ p bs, xs = [.ref p] ∧ SqL K H p ((bs : List Bool).map V.bl) ∧ Q (.bl (bs.all id)) H
end L2

namespace L2
open PySem PySem.Spec PyProof.Rows
end L2

namespace L2
open PySem PySem.Spec PyProof.Rows
theorem mk3_congr {f g : Nat → Nat → Int} (h : ∀ i j, i < 3 → j < 3 → f i j = g i j) : mk3 f = mk3 g := by
  simp only [mk3, h 0 0 (by decide) (by decide), h 0 1 (by decide) (by decide), h 0 2 (by decide) (by decide), h 1 0 (by decide) (by decide), h 1 1 (by decide) (by decide), h 1 2 (by decide) (by decide), h 2 0 (by decide) (by decide), h 2 1 (by decide) (by decide), h 2 2 (by decide) (by decide)]
theorem ent_mulT (a b : List (List Int)) {i j : Nat} (hi : i < 3) (hj : j < 3) : ent (mulT a b) i j = ent a i 0 * ent b 0 j + ent a i 1 * ent b 1 j + ent a i 2 * ent b 2 j := ent_mk3 _ hi hj
theorem ent_overT (a : List (List Int)) {i j : Nat} (hi : i < 3) (hj : j < 3) : ent (overT a) i j = ent a j i := ent_mk3 _ hi hj
theorem mulT_assoc (a b c : List (List Int)) : mulT (mulT a b) c = mulT a (mulT b c) := by
  refine mk3_congr fun i j hi hj => ?_
  rw [ent_mulT a b hi (by decide), ent_mulT a b hi (by decide), ent_mulT a b hi (by decide), ent_mulT b c (by decide) hj, ent_mulT b c (by decide) hj, ent_mulT b c (by decide) hj]
  grind
theorem overT_mulT (a b : List (List Int)) : overT (mulT a b) = mulT (overT b) (overT a) := by
  refine mk3_congr fun i j hi hj => ?_
  rw [ent_mulT a b hj hi, ent_overT b hi (by decide), ent_overT b hi (by decide), ent_overT b hi (by decide), ent_overT a (by decide) hj, ent_overT a (by decide) hj, ent_overT a (by decide) hj]
  grind
theorem overT_overT {a : List (List Int)} (h : is33 a) : overT (overT a) = a := by
  rw [eq_mk3 h]
  refine mk3_congr fun i j hi hj => ?_
  rw [ent_overT _ hj hi, ent_mk3 _ hi hj]
/-- a table carried by another one -/
def carT (m b : List (List Int)) : List (List Int) := mulT (mulT b m) (overT b)
theorem carT_over {m : List (List Int)} (b : List (List Int)) (hb : is33 b) : overT (carT m b) = carT (overT m) b := by
  unfold carT
  rw [overT_mulT, overT_mulT, overT_overT hb, mulT_assoc]
end L2

namespace L2
open PySem PySem.Spec PyProof.Rows
def minT (m : List (List Int)) (i j : Nat) : Int := ent m ((i + 1) % 3) ((j + 1) % 3) * ent m ((i + 2) % 3) ((j + 2) % 3) - ent m ((i + 1) % 3) ((j + 2) % 3) * ent m ((i + 2) % 3) ((j + 1) % 3)
def detT (m : List (List Int)) : Int := ent m 0 0 * minT m 0 0 + ent m 0 1 * minT m 0 1 + ent m 0 2 * minT m 0 2
theorem detT_eq (m : List (List Int)) : detT m = ent m 0 0 * (ent m 1 1 * ent m 2 2 - ent m 1 2 * ent m 2 1) + ent m 0 1 * (ent m 1 2 * ent m 2 0 - ent m 1 0 * ent m 2 2) + ent m 0 2 * (ent m 1 0 * ent m 2 1 - ent m 1 1 * ent m 2 0) := rfl
theorem detT_mulT (a b : List (List Int)) : detT (mulT a b) = detT a * detT b := by
  rw [detT_eq, detT_eq, detT_eq]
  simp only [ent_mulT a b (show 0 < 3 by decide) (show 0 < 3 by decide), ent_mulT a b (show 0 < 3 by decide) (show 1 < 3 by decide), ent_mulT a b (show 0 < 3 by decide) (show 2 < 3 by decide), ent_mulT a b (show 1 < 3 by decide) (show 0 < 3 by decide), ent_mulT a b (show 1 < 3 by decide) (show 1 < 3 by decide), ent_mulT a b (show 1 < 3 by decide) (show 2 < 3 by decide), ent_mulT a b (show 2 < 3 by decide) (show 0 < 3 by decide), ent_mulT a b (show 2 < 3 by decide) (show 1 < 3 by decide), ent_mulT a b (show 2 < 3 by decide) (show 2 < 3 by decide)]
  grind
theorem m3 (i : Nat) (k : Nat) : ((i : Int) + (k : Int)) % 3 = (((i + k) % 3 : Nat) : Int) := by omega
theorem lt3 (i : Nat) : i % 3 < 3 := Nat.mod_lt _ (by decide)
theorem at3n (f : Nat → Int) {c : Nat} (h : c < 3) : atI [V.int (f 0), .int (f 1), .int (f 2)] (c : Int) = some (.int (f c)) := by
  rcases cases3 h with rfl | rfl | rfl <;> rfl
theorem bd_minT {m : List (List Int)} {n : Nat} (h : Bd n m) (i j : Nat) : (minT m i j).natAbs < 2 ^ (n + n + 1) :=
  bd_sub (bd_mul (h _ _ (lt3 _) (lt3 _)) (h _ _ (lt3 _) (lt3 _))) (bd_mul (h _ _ (lt3 _) (lt3 _)) (h _ _ (lt3 _) (lt3 _)))
/-- a new list of three rows that stand -/
theorem tab_of3 {H : Hp} {t b0 b1 b2 : Addr} (g : Nat → Nat → Int) (e : H t = some (.lst [.ref b0, .ref b1, .ref b2])) (h0 : H b0 = some (.lst [.int (g 0 0), .int (g 0 1), .int (g 0 2)])) (h1 : H b1 = some (.lst [.int (g 1 0), .int (g 1 1), .int (g 1 2)]))
    (h2 : H b2 = some (.lst [.int (g 2 0), .int (g 2 1), .int (g 2 2)])) : Tab H t [b0, b1, b2] (mk3 g) := ⟨e, .cons h0 (.cons h1 (.cons h2 .nil))⟩
/-- the cover: the table of the minors, with signs, turned over -/
def covT (m : List (List Int)) : List (List Int) := mk3 fun i j => minT m j i
def unitT (d : Int) : List (List Int) := mk3 fun i j => if i = j then d else 0
theorem ent_covT (m : List (List Int)) {i j : Nat} (hi : i < 3) (hj : j < 3) : ent (covT m) i j = minT m j i := ent_mk3 _ hi hj
theorem cov_left (m : List (List Int)) : mulT (covT m) m = unitT (detT m) := by
  refine mk3_congr fun i j hi hj => ?_
  rw [ent_covT m hi (by decide), ent_covT m hi (by decide), ent_covT m hi (by decide), detT_eq]
  rcases cases3 hi with rfl | rfl | rfl <;> rcases cases3 hj with rfl | rfl | rfl <;> simp only [minT, Nat.reduceAdd, Nat.reduceMod, Nat.reduceEqDiff, if_true, if_false] <;> grind
end L2

namespace L2
open PySem PySem.Spec PyProof.Rows
/-- rows of statements, behind a structure: nothing unfolds it by chance -/
structure FSs (X : Cx) (st : List Stmt) (t : TS) : Prop where
  h : PSs X st t
theorem fss {X : Cx} {st : List Stmt} {t : TS} (h : FSs X st t) : PSs X st t := h.h
theorem fs_cons {X : Cx} {a : Stmt} {b : List Stmt} {ta tb : TS} (ha : PS X a ta) (hb : FSs X b tb) : FSs X (a :: b) (tSeq ta tb) := ⟨pss_cons ha hb.h⟩
theorem fs_one {X : Cx} {a : Stmt} {ta : TS} (ha : PS X a ta) : FSs X [a] ta := ⟨pss_one ha⟩
end L2

namespace L2
open PySem PySem.Spec PyProof.Rows
section
variable {X : Cx} {pins : List (Addr × Obj)} {σ : St} {H : Hp} {s : Shared} {h' : Heap}
/-- untracked records of ours have turned, several at once -/
theorem Inv.turnedL {t' : Nat} {ch : List Addr} (I : Inv X pins σ H s) (k : ∀ b o, b ∉ ch → s.heap.get? b = some o → h'.get? b = some o) (hf : ∀ b ∈ ch, FpOk X pins H b) : Inv X pins σ H { s with heap := h', toks := t' } := by
  have nit : ∀ b u, H b = some u → b ∉ ch := fun b u e z => by have := (hf b z).1; rw [e] at this; cases this
  refine I.step (g' := s.gens) (d' := s.drawn) (ch := ch) (fun b hb => ?_) (fun b o _ _ hc e _ => k b o hc e) (fun b o _ _ hc e _ => ⟨o.slots, k b o hc e⟩) (fun _ _ _ _ n => n)
    (fun b o hc e => ⟨o, k b o hc e⟩) (fun _ _ e => e) (fun _ _ _ e => e) (fun b ps e => ⟨#[], by rw [e]; simp⟩) (fun m hm => ?_) (fun b u e => ?_) (.refl I.bare.bare)
  · obtain ⟨f0, f1, f2, f3, f4, f5⟩ := hf b hb
    exact ⟨f3, f1, f4, f5⟩
  · obtain ⟨o, es, ep, ho, r⟩ := hm
    exact ⟨o, es, ep, k _ o (fun z => (hf _ z).2.1 rfl) ho, r⟩
  · refine (I.hok b u e).stay (fun c v hc q => k c v ?_ q) (fun _ q => q) fun _ _ q => q
    rcases hc with z | z
    · rw [z]; exact nit b u e
    · exact nit c _ z
/-- an object that lies there is tracked from now on -/
theorem Inv.track {T : Addr} {o : HO} (I : Inv X pins σ H s) (hf : FpOk X pins H T) (new : ObjOk X.prog X.w (upd H T o) s.heap T o) : Inv X pins σ (upd H T o) s := by
  obtain ⟨f0, f1, f2, f3, f4, f5⟩ := hf
  have ne : ∀ {b u}, H b = some u → b ≠ T := fun {b u} e z => by rw [z, f0] at e; cases e
  refine I.step (g' := s.gens) (d' := s.drawn) (t' := s.toks) (h' := s.heap) (ch := [T]) (fun b hb => ?_) (fun b o _ _ _ e _ => e) (fun b o _ _ _ e _ => ⟨o.slots, e⟩) (fun b o hc _ n => ?_)
    (fun b o _ e => ⟨o, e⟩) (fun b xs e => by rw [upd_ne (ne e)]; exact e) (fun b _ _ e => by rw [upd_ne (ne e)]; exact e) (fun b ps e => ⟨#[], by rw [upd_ne (ne e), e]; simp⟩) (fun m hm => hm) (fun b u e => ?_) (.refl I.bare.bare)
  · have e : b = T := by simpa using hb
    subst e
    exact ⟨f3, f1, f4, f5⟩
  · rw [upd_ne (fun z => hc (by simp [z]))]; exact n
  · by_cases hb : b = T
    · subst hb; rw [upd_same] at e; cases e; exact new
    · rw [upd_ne hb] at e
      exact (I.hok b u e).stay (fun c v _ q => q) (fun c q => by rw [upd_ne (ne q)]; exact q) fun c xs q => by rw [upd_ne (ne q)]; exact q
end

/-- two lists side by side -/
def Itz (K : PySem.W.Frag) (a b : Addr) : It :=
  ⟨fun i H => ∃ xs ys x y, SqL K H a xs ∧ SqL K H b ys ∧ xs[i]? = some x ∧ ys[i]? = some y,
   fun i H v H' => ∃ T x y, v = .ref T ∧ H T = none ∧ (∀ xs, SqL K H a xs → xs[i]? = some x) ∧ (∀ ys, SqL K H b ys → ys[i]? = some y) ∧ H' = upd H T (.tup [x, y]),
   fun i H => ∃ xs ys, SqL K H a xs ∧ SqL K H b ys ∧ (xs.length ≤ i ∨ ys.length ≤ i)⟩
def zipTn (z TI TO i1 i2 a b : Addr) (i : Nat) (h : Heap) : Prop :=
  IsZip h z TI TO .none ∧ IsPair h TI (.ref i1) (.ref i2) ∧ (∃ p q, IsPair h TO p q) ∧ h.IsListIter i1 a i ∧ h.IsListIter i2 b i
theorem turn_zip {P : Program} {w : World} {K : PySem.W.Frag} {elts : List Expr} {x1} {pos : Pos} (z TI TO i1 i2 a b : Addr) (D : ZipApart z TI TO i1 i2 a b) : Turn P w K (.Tuple elts x1 pos) (Itz K a b) [z, TI, TO, i1, i2] z (zipTn z TI TO i1 i2 a b) where
  mem := by simp
  obj := fun i h st c hc => by
    obtain ⟨hz, hTI, ⟨p, q, hTO⟩, ⟨o1, e1, c1, d1⟩, ⟨o2, e2, c2, d2⟩⟩ := st
    simp only [List.mem_cons, List.not_mem_nil, or_false] at hc
    rcases hc with rfl | rfl | rfl | rfl | rfl
    · exact ⟨_, hz, fun v e => by cases e⟩
    · exact ⟨_, hTI, fun v e => by cases e⟩
    · exact ⟨_, hTO, fun v e => by cases e⟩
    · exact ⟨_, e1, fun v e => by rw [d1] at e; cases e⟩
    · exact ⟨_, e2, fun v e => by rw [d2] at e; cases e⟩
  keep := fun i h h' st k => by
    obtain ⟨hz, hTI, ⟨p, q, hTO⟩, h1, h2⟩ := st
    exact ⟨k z (by simp) _ hz, k TI (by simp) _ hTI, ⟨p, q, k TO (by simp) _ hTO⟩, h1.at fun o e => k i1 (by simp) o e, h2.at fun o e => k i2 (by simp) o e⟩
  item := by
    intro X hP hw hK hc i pins s σ H E I hf st hg
    subst hP hw hK
    obtain ⟨xs, ys, x, y, hqa, hqb, hx, hy⟩ := hg
    obtain ⟨hz, hTI, ⟨p, q, hTO⟩, h1, h2⟩ := st
    obtain ⟨ia, ra, pa, za⟩ := I.list hqa
    obtain ⟨ib, rb, pb, zb⟩ := I.list hqb
    obtain ⟨u, hu, ru⟩ := ra.get hx
    obtain ⟨v, hv, rv⟩ := rb.get hy
    refine wpAny_pyNext_zip_item D hz hTI hTO h1 h2 pa.isList pb.isList (x := u) (y := v) (by simpa using hu) (by simpa using hv) fun h' a1 a2 a3 a4 a5 a6 hk => ?_
    refine ⟨_, rfl, ?_⟩
    have hTI' := hk _ _ D.TIz D.TITO D.TIi1 D.TIi2 hTI
    have f4 : ∀ c ∈ [z, TO, i1, i2], FpOk X pins H c := fun c hc => hf c (by simp only [List.mem_cons, List.not_mem_nil, or_false] at hc ⊢; rcases hc with rfl | rfl | rfl | rfl <;> simp)
    have I1 : Inv X pins σ H { s with heap := h' } := I.turnedL (t' := s.toks) (ch := [z, TO, i1, i2]) (fun c o hc e => hk c o (fun q => hc (by simp [q])) (fun q => hc (by simp [q])) (fun q => hc (by simp [q])) (fun q => hc (by simp [q])) e) f4
    have hn : H s.heap.objs.size = none := I.hok.fresh (Nat.le_refl _)
    have fT := I.fpOk (b := s.heap.objs.size) (Nat.le_refl _) hn
    have I2 : Inv X pins σ (upd H s.heap.objs.size (.tup [x, y])) { s with heap := h' } := I1.track fT ⟨by show 2 ≤ sizeLine; decide, [u, v], .cons ru (.cons rv .nil), ⟨_, a5, rfl, _, rfl⟩⟩
    refine wpAny_letOwnedTupleGo_zip (s := { s with heap := h' }) a1 fun h2' hz' hs' => ?_
    have lt : ∀ {c o}, s.heap.get? c = some o → c ≠ s.heap.objs.size := fun e => Nat.ne_of_lt (Heap.lt_size e)
    obtain ⟨o1, e1, _⟩ := id h1
    obtain ⟨o2, e2, _⟩ := id h2
    have neT : ∀ c ∈ [z, TI, TO, i1, i2], c ≠ s.heap.objs.size := fun c hc => by
      simp only [List.mem_cons, List.not_mem_nil, or_false] at hc
      rcases hc with rfl | rfl | rfl | rfl | rfl
      · exact lt hz
      · exact lt hTI
      · exact lt hTO
      · exact lt e1
      · exact lt e2
    obtain ⟨g0, g1, g2, g3, g4, g5⟩ := hf z (by simp)
    have I3 : Inv X pins σ (upd H s.heap.objs.size (.tup [x, y])) { s with heap := h2' } := Inv.turned (s := { s with heap := h' }) (h' := h2') I2 (it := z) (t' := s.toks) (fun c o hc e => hs'.extBut _ _ hc e) (by rw [upd_ne (neT z (by simp))]; exact g0) g1 g3 g4 g5
    refine ⟨.ref s.heap.objs.size, _, I3, rfl, ⟨_, x, y, rfl, hn, fun zs hzs => by rw [I.list_inj hzs hqa]; exact hx, fun zs hzs => by rw [I.list_inj hzs hqb]; exact hy, rfl⟩, ?_, fun c hc => ?_⟩
    · exact ⟨hz', hs'.extBut _ _ D.TIz hTI', ⟨_, _, hs'.extBut _ _ D.TOz a2⟩, a3.extBut hs'.extBut D.i1z, a4.extBut hs'.extBut D.i2z⟩
    · rw [upd_ne (neT c hc)]; exact (hf c hc).1
  done := by
    intro X hP hw hK hc i pins s σ H E I hf st hg
    subst hP hw hK
    obtain ⟨xs, ys, hqa, hqb, hend⟩ := hg
    obtain ⟨hz, hTI, ⟨p, q, hTO⟩, h1, h2⟩ := st
    obtain ⟨ia, ra, pa, za⟩ := I.list hqa
    obtain ⟨ib, rb, pb, zb⟩ := I.list hqb
    have la := ra.length
    have lb := rb.length
    have f4 : ∀ c ∈ [z, TO, i1, i2], FpOk X pins H c := fun c hc => hf c (by simp only [List.mem_cons, List.not_mem_nil, or_false] at hc ⊢; rcases hc with rfl | rfl | rfl | rfl <;> simp)
    refine wpAny_pyNext_zip_end (I.ok.hd hc) D hz hTI hTO h1 h2 pa.isList pb.isList (hend.imp (fun q => by simp; omega) (fun q => by simp; omega)) fun h' hk => ⟨rfl, ?_⟩
    exact I.turnedL (t' := s.toks) (ch := [z, TO, i1, i2]) (fun c o hc e => hk c o (fun q => hc (by simp [q])) (fun q => hc (by simp [q])) (fun q => hc (by simp [q])) (fun q => hc (by simp [q])) e) f4
  self := fun _ _ _ _ _ st h => wpAny_pyIter_zip st.1 h

def iZip (K : PySem.W.Frag) (ta : TA) : TI := fun σ H R => ta σ H fun vs H1 => ∃ a b xs ys, vs = [.ref a, .ref b] ∧ SqL K H1 a xs ∧ SqL K H1 b ys ∧ R (Itz K a b) H1
section
variable {X : Cx}
theorem pi_zip {elts : List Expr} {x1} {tpos : Pos} {a b : Expr} {ta : TA} {p pos : Pos} (hg : Gl X "zip") (hm : X.mg "zip" = none) (ha : PA X [a, b] ta) (hs : starEach [a, b] X.env = [(false, eval a X.env), (false, eval b X.env)] := by rfl) (hs2 : starEach [b] X.env = [(false, eval b X.env)] := by rfl) :
    PI X (.Tuple elts x1 tpos) (.Call (.Name "zip" p) [a, b] [] pos) (iZip X.K ta) := by
  intro pins s σ H R I h
  refine Call_ (ld_blt I hg hm boot_zip (PyProof.Rows.callWith_type1 (thn (ha pos pins s σ H _ I h) fun us s1 ⟨vs, H1, I1, r1, q1⟩ => ?_) (by rw [hs, hs2]) (by rw [hs2]; rfl)))
  obtain ⟨l1, l2, xs, ys, e, q1, q2, q⟩ := q1
  subst e
  cases r1 with
  | cons r rr =>
    cases rr with
    | cons r' rr =>
      cases rr
      cases r
      cases r'
      obtain ⟨ia, ra, pa, za⟩ := I1.list q1
      obtain ⟨ib, rb, pb, zb⟩ := I1.list q2
      have lt1 : l1 < s1.heap.objs.size := by obtain ⟨o, e, _⟩ := pa.isList; exact Heap.lt_size e
      have lt2 : l2 < s1.heap.objs.size := by obtain ⟨o, e, _⟩ := pb.isList; exact Heap.lt_size e
      refine call_zip_2 pa.isList pb.isList fun h' hz hTI hTO hi1 hi2 hsz hk => ?_
      refine wpAny_pyIter_zip hz ?_
      refine ⟨_, [s1.heap.objs.size + 4, s1.heap.objs.size + 2, s1.heap.objs.size + 3, s1.heap.objs.size, s1.heap.objs.size + 1], _, _, H1, rfl, I1.kept (t' := s1.toks) hk, turn_zip _ _ _ _ _ l1 l2 (zipApart_new lt1 lt2), ⟨hz, hTI, ⟨_, _, hTO⟩, hi1, hi2⟩, fun c hc => ?_, q⟩
      have hc' : s1.heap.objs.size ≤ c := by
        simp only [List.mem_cons, List.not_mem_nil, or_false] at hc
        rcases hc with rfl | rfl | rfl | rfl | rfl <;> first | exact Nat.le_refl _ | exact Nat.le_add_right _ _
      exact I1.fpOk hc' (I1.hok.fresh hc')
end
end L2

namespace L2
open PySem PySem.Spec PyProof.Rows
section
variable {X : Cx} {sc : Scope} {N2 : List Str} {x y : Str} {px py' tpos : Pos} {x1 : Nat} {elt iter : Expr} {gpos p pos : Pos} {wi : TI} {te : TE} {P : Addr}
theorem pg_compN {own : List Str} {i : Nat} {z : Str} (B : Blk sc.names X.env.scope.names own N2 X.N) (hz : own[i]? = some z) (s : Shared) (H : Hp) (fp : List Addr) : PG (X.comp sc (own ++ N2) s H fp) (.Name z px) (gName i) := by
  have hi : (X.comp sc (own ++ N2) s H fp).N[i]? = some z := by
    show (own ++ N2)[i]? = some z
    rw [List.getElem?_append_left (List.getElem?_eq_some_iff.mp hz).1]; exact hz
  rcases B.own z (List.mem_of_getElem? hz) with e | e
  · exact pg_name (i := i) B.ndN hi (.inl (kind_own (env := X.env) e (.inl rfl))) (.inr (kind_own (env := X.env) e (.inl rfl)))
  · refine pg_name (i := i) B.ndN hi (.inr (kind_own (env := X.env) e (.inr rfl))) (.inl ?_)
    show (sc.names.lookup z == some NameKind.cell) = true
    rw [e]; rfl
def g2 (K : PySem.W.Frag) : TG := gTup K 2 (gCons (gName 0) (gCons (gName 1) gNil))
theorem pg_comp2 (hc : X.calm = true) (B : Blk sc.names X.env.scope.names [x, y] N2 X.N) (s : Shared) (H : Hp) (fp : List Addr) : PG (X.comp sc ([x, y] ++ N2) s H fp) (.Tuple [.Name x px, .Name y py'] x1 tpos) (g2 X.K) :=
  pg_tup (X := X.comp sc ([x, y] ++ N2) s H fp) hc (pgs_cons (pg_compN (i := 0) B rfl s H fp) (pgs_cons (pg_compN (i := 1) B rfl s H fp) pgs_nil))
/-- [e for x, y in iter] -/
theorem pe_lc2 (hc : X.calm = true) (hi : PI X (.Tuple [.Name x px, .Name y py'] x1 tpos) iter wi) (hB : blkB sc.names X.env.scope.names [x, y] N2 X.N = true) (hk : sc.kind = .function) (he : ∀ s H fp, PE (X.comp sc ([x, y] ++ N2) s H fp) elt te)
    (hs : ∀ x, foldedSetIterable iter X.env x = pure x := by intro _; rfl) : PE X (.ListComp elt [⟨.Tuple [.Name x px, .Name y py'] x1 tpos, iter, [], 0⟩] sc pos) (tComp 2 wi (g2 X.K) te) :=
  pe_lcomp (own := [x, y]) hc hi (blk_of hB) hk (fun s H fp => pg_comp2 hc (blk_of hB) s H fp) he hs
end
theorem comp_zip {K : PySem.W.Frag} {H1 : Hp} {a b : Addr} {xs ys : List V} {σ : St} {te : TE} {Q : VK} (ha : SqL K H1 a xs) (hb : SqL K H1 b ys) (hl : xs.length = ys.length) (hz : xs.length ≤ sizeLine) {D : Addr} (hD : H1 D = none) (f : V → V → V)
    (hs : ∀ (i : Nat) x y, xs[i]? = some x → ys[i]? = some y → ∀ H' (Q' : VK), Same H1 H' → Q' (f x y) H' → te (some x :: some y :: σ) H' Q')
    (hq : ∀ H', Same H1 H' → H' D = some (.lst (List.zipWith f xs ys)) → Q (.ref D) H') : CompRd 2 (g2 K) te σ (Itz K a b) H1 D Q := by
  refine ⟨fun i m acc σ' H' => m = xs.length - i ∧ i ≤ xs.length ∧ acc = (List.zipWith f xs ys).take i ∧ (∃ o o', σ' = o :: o' :: σ) ∧ Same H1 H' ∧ H' D = some (.lst acc), ⟨xs.length, rfl, Nat.zero_le _, by simp, ⟨none, none, rfl⟩, Same.up hD, upd_same⟩, ?_⟩
  rintro i m acc σ' H' ⟨rfl, hi, hacc, ⟨o, o', rfl⟩, sm, eD⟩
  have lacc : acc.length = i := by rw [hacc]; simp; omega
  by_cases hlt : i < xs.length
  · have hlt' : i < ys.length := by omega
    refine .inr ⟨⟨xs, ys, xs[i], ys[i], sm.seq ha, sm.seq hb, by simp [hlt], by simp [hlt']⟩, by omega, fun v H2 yl => ?_⟩
    obtain ⟨T, x, y, rfl, hT, hx, hy, rfl⟩ := yl
    have ex := hx xs (sm.seq ha)
    have ey := hy ys (sm.seq hb)
    have s2 : Same H' (upd H' T (.tup [x, y])) := Same.up hT
    refine ⟨T, [x, y], rfl, SqT.of upd_same, rfl, x, [y], rfl, y, [], rfl, rfl, ?_⟩
    show te (some x :: some y :: σ) _ _
    refine hs i x y ex ey _ _ (sm.trans s2) ?_
    refine ⟨s2 _ _ eD, xs.length - (i + 1), by omega, rfl, hlt, ?_, ⟨_, _, rfl⟩, (sm.trans s2).upd hD, upd_same⟩
    rw [hacc, List.take_succ, List.getElem?_zipWith, ex, ey]
    rfl
  · have e : i = xs.length := by omega
    subst e
    refine .inl ⟨⟨xs, ys, sm.seq ha, sm.seq hb, .inl (Nat.le_refl _)⟩, eD, hq H' sm ?_⟩
    rw [eD, hacc]
    rw [List.take_of_length_le (by rw [List.length_zipWith]; exact Nat.min_le_left ..)]
end L2

namespace L2
open PySem PySem.Spec PyProof.Rows
section
variable {X : Cx} {sc : Scope} {N2 : List Str} {x y : Str} {px py' : Pos} {elt iter iter2 : Expr} {gpos p pos : Pos} {wi wi2 : TI} {te : TE} {P : Addr}
end
end L2

namespace L2
open PySem PySem.Spec PyProof.Rows
section
variable {prog : Program} {w : World} {A : Around} {E : Value → Shared → Prop} {s : Shared}
theorem draw_list {it t : Addr} {items : Array Value} (hne : t ≠ it) : ∀ (n i : Nat) (s : Shared) (Q : List Value → Shared → Prop), s.heap.IsListIter it t i → s.heap.IsList t items → i + n ≤ items.size →
    (∀ h', h'.IsListIter it t (i + n) → Heap.SameBut it s.heap h' → Q ((items.toList.drop i).take n) { s with heap := h' }) → wpAny (model prog w) A (draw (.ref it) n) Q E s
  | 0, i, s, Q, hit, _, _, hQ => by
    show wpAny _ _ (pure []) Q E s
    exact wpAny_pure (by simpa using hQ s.heap hit (Heap.SameBut.refl ..))
  | n + 1, i, s, Q, hit, ht, hle, hQ => by
    have hlt : i < items.size := by omega
    show wpAny _ _ (pyNext (.ref it) >>= _) Q E s
    refine wpAny_bind (wpAny_pyNext_list_item hit ht (x := items[i]) (by simp [hlt]) fun h₁ hit₁ hs₁ => ?_)
    refine wpAny_bind (wpAny_holding (draw_list hne n (i + 1) _ _ hit₁ (ht.extBut hs₁.extBut hne) (by omega) fun h₂ hit₂ hs₂ => wpAny_pure ?_))
    have hd : items.toList.drop i = items[i] :: items.toList.drop (i + 1) := by simp [List.drop_eq_getElem_cons, hlt]
    have := hQ h₂ (by rw [show i + (n + 1) = i + 1 + n by omega]; exact hit₂) (hs₁.trans hs₂)
    rw [hd, List.take_succ_cons] at this
    exact this
theorem unpack_listv {t : Addr} {items : Array Value} {targets : List (Bool × (Value → Sem Unit))} {Q : Unit → Shared → Prop} (hh : A.handled = none) (ht : s.heap.IsList t items)
    (hn : targets.length = items.size) (hstar : targets.findIdx? (·.1) = none)
    (h : ∀ h', Heap.ExtBut s.heap.objs.size s.heap h' → wpAny (model prog w) A (assignInOrder (targets.map (·.2)) items.toList) Q E { s with heap := h' }) :
    wpAny (model prog w) A (unpack (.ref t) targets) Q E s := by
  have hlt : t ≠ s.heap.objs.size := by obtain ⟨o, ho, _⟩ := ht; exact Nat.ne_of_lt (Heap.lt_size ho)
  unfold unpack
  rw [hn, hstar]
  refine wpAny_bind (wpAny_holding ?_)
  unfold unpackItems
  refine wpAny_bind ?_
  unfold notIterableAtAll
  refine wpAny_bind (wpAny_specialOf ht.typeIs PySem.F.slot_list_iter.lookup ?_)
  refine wpAny_pure ?_
  simp only [Bool.false_eq_true, if_false]
  refine wpAny_bind (wpAny_holding (wpAny_pyIter_list ht ?_))
  refine wpAny_bind (wpAny_holding (draw_list hlt items.size 0 _ _ ⟨_, Heap.get?_push_size _ rfl, rfl, rfl⟩ (Heap.IsList.push ht _) (by omega) fun h₁ hit₁ hs₁ => ?_))
  have hall : List.take items.size (List.drop 0 items.toList) = items.toList := by
    rw [List.drop_zero]; exact List.take_of_length_le (by simp)
  rw [hall]
  rw [if_neg (by simp)]
  have ht₁ : h₁.IsList t items := (Heap.IsList.push ht _).extBut hs₁.extBut hlt
  refine wpAny_bind (wpAny_holding (wpAny_pyNext_list_end hh hit₁ ht₁ (by simp) fun h₂ he₂ => ?_))
  simp only [Option.isSome_none, Bool.false_eq_true, if_false]
  refine wpAny_pure (h h₂ fun b o hb e => he₂ b o hb (hs₁.extBut b o hb (Heap.get?_push_of_some _ e)))
end
section
variable {X : Cx}
/-- a, b, .. = a list -/
def gTupL (K : PySem.W.Frag) (n : Nat) (t : TGs) : TG := fun v σ H Q => ∃ a xs, v = .ref a ∧ SqL K H a xs ∧ xs.length = n ∧ t xs σ H Q
theorem pg_tupL {es : List Expr} {k : Nat} {t : TGs} {n : Nat} {pos : Pos} (hc : X.calm = true) (h : PGs X es t)
    (hn : (assignEach es X.env).length = n := by rfl) (hst : (assignEach es X.env).findIdx? (·.1) = none := by rfl) : PG X (.Tuple es k pos) (gTupL X.K n t) := by
  intro pins s σ H v u Q I r hw
  obtain ⟨a, xs, e1, hq, hl, hw⟩ := hw
  subst e1
  cases r
  obtain ⟨its, rv, ht, hz⟩ := I.list hq
  rw [PyProof.Rows.assign_Tuple]
  refine wpAny_bind (wpAny_standAt (unpack_listv (I.ok.hd hc) ht.isList (by simp [hn, ← hl, rv.length]) hst fun h' hx => ?_))
  have I1 : Inv X pins σ H { s with heap := h' } := I.kept (t' := s.toks) fun b o e => hx b o (Nat.ne_of_lt (Heap.lt_size e)) e
  exact h pins _ σ H xs _ Q I1 (by simpa using rv) hw
end
end L2

namespace L2
open PySem PySem.Spec PyProof.Rows
def RowAt (H : Hp) (a : Addr) (x : Nat → Int) : Prop := H a = some (.lst [.int (x 0), .int (x 1), .int (x 2)])
theorem RowAt.same {H H' : Hp} {a : Addr} {x : Nat → Int} (h : RowAt H a x) (s : Same H H') : RowAt H' a x := s _ _ h
def pairF (m : List (List Int)) (x y : Nat → Int) (t : Nat) : Int := x (t / 3) * ent m (t / 3) (t % 3) * y (t % 3)
def pairT (m : List (List Int)) (x y : Nat → Int) : Int := PySem.preSum (pairF m x y) 9
theorem pairT_eq (m : List (List Int)) (x y : Nat → Int) : pairT m x y =
    x 0 * ent m 0 0 * y 0 + x 0 * ent m 0 1 * y 1 + x 0 * ent m 0 2 * y 2 + x 1 * ent m 1 0 * y 0 + x 1 * ent m 1 1 * y 1 + x 1 * ent m 1 2 * y 2 + x 2 * ent m 2 0 * y 0 + x 2 * ent m 2 1 * y 1 + x 2 * ent m 2 2 * y 2 := by
  show PySem.preSum (pairF m x y) 9 = _
  simp only [PySem.preSum, pairF, Nat.reduceDiv, Nat.reduceMod]
  omega
/-- its own turned over one, even on the diagonal -/
structure EvenT (m : List (List Int)) : Prop where
  sym : ent m 1 0 = ent m 0 1 ∧ ent m 2 0 = ent m 0 2 ∧ ent m 2 1 = ent m 1 2
  even : ∃ a b c, ent m 0 0 = 2 * a ∧ ent m 1 1 = 2 * b ∧ ent m 2 2 = 2 * c
def halfT (m : List (List Int)) (x : Nat → Int) : Int := pairT m x x / 2
theorem pair_even {m : List (List Int)} (h : EvenT m) (x : Nat → Int) : pairT m x x = 2 * halfT m x := by
  obtain ⟨⟨s1, s2, s3⟩, a, b, c, e1, e2, e3⟩ := h
  have q : pairT m x x = 2 * (x 0 * a * x 0 + x 1 * b * x 1 + x 2 * c * x 2 + x 0 * ent m 0 1 * x 1 + x 0 * ent m 0 2 * x 2 + x 1 * ent m 1 2 * x 2) := by
    rw [pairT_eq, s1, s2, s3, e1, e2, e3]; grind
  unfold halfT
  rw [q, Int.mul_ediv_cancel_left _ (by decide)]
end L2

namespace L2
open PySem PySem.Spec PyProof.Rows
section
variable {X : Cx} {pos : Pos}
/-- a, b, c = x, y, z with plain local names -/
def tPar3 (i j k : Nat) (ta : TA) : TS := fun D σ H => ta σ H fun vs H1 => ∃ v w u, vs = [v, w, u] ∧ D.nx (((σ.set i (some v)).set j (some w)).set k (some u)) H1
end
end L2

namespace L2
open PySem PySem.Spec PyProof.Rows
/-- a symmetric table by its six numbers -/
def sym3 (a b c p q r : Int) : List (List Int) := mk3 fun i j => match i, j with | 0, 0 => a | 0, 1 => p | 0, _ => q | 1, 0 => p | 1, 1 => b | 1, _ => r | _, 0 => q | _, 1 => r | _, _ => c
theorem det_sym3 (a b c p q r : Int) : detT (sym3 a b c p q r) = a * b * c + 2 * (p * q * r) - a * (r * r) - b * (q * q) - c * (p * p) := by
  rw [detT_eq]
  show a * (b * c - r * r) + p * (r * q - p * c) + q * (p * r - b * q) = _
  grind
theorem bd_sym3 {n : Nat} {a b c p q r : Int} (ha : a.natAbs < 2 ^ n) (hb : b.natAbs < 2 ^ n) (hc : c.natAbs < 2 ^ n) (hp : p.natAbs < 2 ^ n) (hq : q.natAbs < 2 ^ n) (hr : r.natAbs < 2 ^ n) : Bd n (sym3 a b c p q r) := fun i j hi hj => by
  unfold sym3
  rw [ent_mk3 _ hi hj]
  rcases cases3 hi with rfl | rfl | rfl <;> rcases cases3 hj with rfl | rfl | rfl <;> assumption
theorem even_sym3 (a b c p q r : Int) : EvenT (sym3 (2 * a) (2 * b) (2 * c) p q r) := ⟨⟨rfl, rfl, rfl⟩, a, b, c, rfl, rfl, rfl⟩
theorem sq_le {p a : Int} (h : -a ≤ p) (h' : p ≤ a) : p * p ≤ a * a := by
  have h1 : 0 ≤ a - p := by omega
  have h2 : 0 ≤ a + p := by omega
  have := Int.mul_nonneg h1 h2
  grind
theorem fresh3 {H : Hp} {a b c d : Addr} {x y z : HO} (h0 : H a = none) (h1 : upd H a x b = none) (h2 : upd (upd H a x) b y c = none) (h3 : upd (upd (upd H a x) b y) c z d = none) : H d = none ∧ (∀ e ∈ [a, b, c], H e = none) ∧ d ∉ [a, b, c] := by
  have s0 : Same H (upd H a x) := Same.up h0
  have s1 : Same (upd H a x) (upd (upd H a x) b y) := Same.up h1
  have s2 : Same (upd (upd H a x) b y) (upd (upd (upd H a x) b y) c z) := Same.up h2
  refine ⟨(s0.trans (s1.trans s2)).none h3, fun e he => ?_, fun hd => ?_⟩
  · simp only [List.mem_cons, List.not_mem_nil, or_false] at he
    rcases he with rfl | rfl | rfl
    · exact h0
    · exact s0.none h1
    · exact (s0.trans s1).none h2
  · simp only [List.mem_cons, List.not_mem_nil, or_false] at hd
    rcases hd with rfl | rfl | rfl
    · have := (s1.trans s2) _ _ (upd_same (H := H) (a := d) (o := x)); rw [h3] at this; cases this
    · have := s2 _ _ (upd_same (H := upd H a x) (a := d) (o := y)); rw [h3] at this; cases this
    · rw [upd_same] at h3; cases h3
end L2

namespace L2
open PySem PySem.Spec PyProof.Rows
/-- a table with row i put anew -/
def setT (m : List (List Int)) (i : Nat) (g : Nat → Int) : List (List Int) := mk3 fun r s => if r = i then g s else ent m r s
theorem tab_set {H : Hp} {D R : Addr} {bs : List Addr} {m : List (List Int)} {i : Nat} {g : Nat → Int} (hT : Tab H D bs m) (h33 : is33 m) (hi : i < 3) (hR : H R = some (.lst [.int (g 0), .int (g 1), .int (g 2)])) (nR : R ≠ D) (nD : D ∉ bs) :
    Tab (upd H D (.lst ((bs.map V.ref).set i (.ref R)))) D (bs.set i R) (setT m i g) := by
  obtain ⟨b0, x1, x2, _⟩ := tab_row3 hT h33 (i := 0) (by decide)
  obtain ⟨b1, y1, y2, _⟩ := tab_row3 hT h33 (i := 1) (by decide)
  obtain ⟨b2, w1, w2, _⟩ := tab_row3 hT h33 (i := 2) (by decide)
  have hl3 : bs.length = 3 := by rw [← hT.2.length, h33.1]
  obtain ⟨a0, a1, a2, rfl⟩ : ∃ a0 a1 a2, bs = [a0, a1, a2] := by
    match bs, hl3 with
    | [a, b, c], _ => exact ⟨a, b, c, rfl⟩
  obtain rfl : a0 = b0 := V.ref.inj (Option.some.inj x1)
  obtain rfl : a1 = b1 := V.ref.inj (Option.some.inj y1)
  obtain rfl : a2 = b2 := V.ref.inj (Option.some.inj w1)
  have n0 : a0 ≠ D := fun z => nD (by rw [← z]; simp)
  have n1 : a1 ≠ D := fun z => nD (by rw [← z]; simp)
  have n2 : a2 ≠ D := fun z => nD (by rw [← z]; simp)
  rcases cases3 hi with rfl | rfl | rfl
  · exact tab_of3 _ upd_same (by rw [upd_ne nR]; exact hR) (by rw [upd_ne n1]; exact y2) (by rw [upd_ne n2]; exact w2)
  · exact tab_of3 _ upd_same (by rw [upd_ne n0]; exact x2) (by rw [upd_ne nR]; exact hR) (by rw [upd_ne n2]; exact w2)
  · exact tab_of3 _ upd_same (by rw [upd_ne n0]; exact x2) (by rw [upd_ne n1]; exact y2) (by rw [upd_ne nR]; exact hR)
theorem ent_setT (m : List (List Int)) {i r s : Nat} (g : Nat → Int) (hr : r < 3) (hs : s < 3) : ent (setT m i g) r s = if r = i then g s else ent m r s := ent_mk3 _ hr hs
/-- a row added to another one so many times: the determinant stays -/
theorem det_add (m : List (List Int)) {i j : Nat} (hi : i < 3) (hj : j < 3) (hij : i ≠ j) (o : Int) : detT (setT m i fun s => ent m i s + o * ent m j s) = detT m := by
  rw [detT_eq, detT_eq]
  simp only [ent_setT m _ (show 0 < 3 by decide) (show 0 < 3 by decide), ent_setT m _ (show 0 < 3 by decide) (show 1 < 3 by decide), ent_setT m _ (show 0 < 3 by decide) (show 2 < 3 by decide), ent_setT m _ (show 1 < 3 by decide) (show 0 < 3 by decide), ent_setT m _ (show 1 < 3 by decide) (show 1 < 3 by decide), ent_setT m _ (show 1 < 3 by decide) (show 2 < 3 by decide), ent_setT m _ (show 2 < 3 by decide) (show 0 < 3 by decide), ent_setT m _ (show 2 < 3 by decide) (show 1 < 3 by decide), ent_setT m _ (show 2 < 3 by decide) (show 2 < 3 by decide)]
  rcases cases3 hi with rfl | rfl | rfl <;> rcases cases3 hj with rfl | rfl | rfl <;> first | (exact absurd rfl hij) | (simp only [Nat.reduceEqDiff, if_true, if_false]; grind)
/-- the rows from k on, then those ahead of it -/
def rotT (m : List (List Int)) (k : Nat) : List (List Int) := mk3 fun r s => ent m ((r + k) % 3) s
end L2

namespace L2
open PySem PySem.Spec PyProof.Rows
/-- expressions and their rows behind structures, as FSs: written lists of numbers are not run by chance -/
structure FE (X : Cx) (e : Expr) (t : TE) : Prop where
  h : PE X e t
structure FA (X : Cx) (es : List Expr) (t : TA) : Prop where
  h : PA X es t
variable {X : Cx}
theorem fe_int {i j pos} : FE X (.Constant (.int i) j pos) (tC (.int i)) := ⟨pe_int⟩
theorem fe {e t} (h : PE X e t) : FE X e t := ⟨h⟩
theorem fa_nil : FA X [] tNil := ⟨pa_nil⟩
theorem fa_cons {e es te t} (ha : FE X e te) (hr : FA X es t) (hs : starEach (e :: es) X.env = (false, eval e X.env) :: starEach es X.env) : FA X (e :: es) (tCons te t) := ⟨pa_cons ha.h hr.h hs⟩
theorem fe_lst {es t pos} (h : FA X es t) : FE X (.List es pos) (tLst t) := ⟨pe_lst h.h⟩
theorem fs_set {i : Nat} {x : Str} {e : Expr} {te : TE} {pos' pos : Pos} {b : List Stmt} {tb : TS} (hN : X.N.Nodup) (hi : X.N[i]? = some x) (hx : Loc X.env.scope x) (he : FE X e te) (hs : swapsWith e (some (.Name x pos')) pos.line X.env = pure false) (hf : X.fn x = true ∨ X.env.scope.names.lookup x = some .local) (hb : FSs X b tb) :
    FSs X (.Assign [.Name x pos'] e pos :: b) (tSeq (tAsg te (gName i)) tb) := fs_cons (ps_set hN hi hx he.h hs hf) hb
theorem fs_ret {e : Expr} {te : TE} {pos : Pos} (he : FE X e te) : FSs X [.Return (some e) pos] (tRet te) := fs_one (ps_ret he.h)
theorem toF {st : List Stmt} {R : TS → Prop} (h : ∃ t, FSs X st t ∧ R t) : ∃ t, PSs X st t ∧ R t := by
  obtain ⟨t, a, b⟩ := h
  exact ⟨t, a.h, b⟩
end L2

namespace L2
open PySem PySem.Spec PyProof.Rows
end L2

namespace L2
open PySem PySem.Spec PyProof.Rows
/-- the first minors are above 0 -/
def aboveT (m : List (List Int)) : Bool := decide (0 < ent m 0 0) && (decide (ent m 0 1 * ent m 0 1 < ent m 0 0 * ent m 1 1) && decide (0 < detT m))
theorem sym_ent {m : List (List Int)} (h : overT m = m) {i j : Nat} (hi : i < 3) (hj : j < 3) : ent m j i = ent m i j := by
  rw [← ent_overT m hi hj, h]
/-- the low rows -/
theorem low1 (m : List (List Int)) : pairT m (fun i => if i = 0 then 1 else 0) (fun i => if i = 0 then 1 else 0) = ent m 0 0 := by
  rw [pairT_eq]
  simp
theorem low2 {m : List (List Int)} (h : overT m = m) (x : Nat → Int) (h0 : x 0 = -ent m 0 1) (h1 : x 1 = ent m 0 0) (h2 : x 2 = 0) : pairT m x x = ent m 0 0 * (ent m 0 0 * ent m 1 1 - ent m 0 1 * ent m 0 1) := by
  rw [pairT_eq, h0, h1, h2, sym_ent h (i := 0) (j := 1) (by decide) (by decide)]
  grind
theorem low3 (m : List (List Int)) : pairT m (fun j => ent (covT m) 2 j) (fun j => ent (covT m) 2 j) = detT m * ent (covT m) 2 2 := by
  have e : ∀ j, j < 3 → ent (covT m) 2 0 * ent m 0 j + ent (covT m) 2 1 * ent m 1 j + ent (covT m) 2 2 * ent m 2 j = if 2 = j then detT m else 0 := fun j hj => by
    rw [← ent_mulT _ _ (by decide) hj, cov_left, unitT, ent_mk3 _ (by decide) hj]
  have e0 := e 0 (by decide)
  have e1 := e 1 (by decide)
  have e2 := e 2 (by decide)
  rw [if_neg (by decide)] at e0 e1
  rw [if_pos rfl] at e2
  rw [pairT_eq, ← e2]
  grind
theorem cov22 (m : List (List Int)) : ent (covT m) 2 2 = ent m 0 0 * ent m 1 1 - ent m 0 1 * ent m 1 0 := by
  rw [ent_covT m (by decide) (by decide)]
  rfl
/-- one number of a row of a table put anew -/
def setE (m : List (List Int)) (k : Nat) (z : Int) : List (List Int) := mk3 fun i j => if i = k ∧ j = k then z else ent m i j
theorem nodup3 {H : Hp} {a b c : Addr} {x y : HO} (h0 : H a = none) (h1 : upd H a x b = none) (h2 : upd (upd H a x) b y c = none) : [a, b, c].Nodup := by
  have n1 : a ≠ b := fun e => by rw [e, upd_same] at h1; cases h1
  have n2 : b ≠ c := fun e => by rw [e, upd_same] at h2; cases h2
  have n3 : a ≠ c := fun e => by rw [upd_ne (fun z => n2 z.symm), e, upd_same] at h2; cases h2
  simp [n1, n2, n3]
end L2

namespace L2
open PySem PySem.Spec PyProof.Rows
/-- a and b as a test: what is behind it where one fails -/
theorem and_if {a : Bool} {X A B : Prop} (hB : B) (h : a = true → B → X) : if a = true then X else (if false = true then A else B) := by
  cases a with
  | false => exact iteF (iteF hB)
  | true => exact iteT (h rfl hB)
end L2

namespace L2
open PySem PySem.Spec PyProof.Rows
section
variable {X : Cx}
end
/-- a row times a table -/
def ledT (x : Nat → Int) (b : List (List Int)) : Nat → Int := fun j => x 0 * ent b 0 j + x 1 * ent b 1 j + x 2 * ent b 2 j
theorem pair_left (b m : List (List Int)) (x y : Nat → Int) : pairT (mulT b m) x y = pairT m (ledT x b) y := by
  rw [pairT_eq, pairT_eq]
  unfold ledT
  simp only [ent_mulT b m (show 0 < 3 by decide) (show 0 < 3 by decide), ent_mulT b m (show 0 < 3 by decide) (show 1 < 3 by decide), ent_mulT b m (show 0 < 3 by decide) (show 2 < 3 by decide), ent_mulT b m (show 1 < 3 by decide) (show 0 < 3 by decide), ent_mulT b m (show 1 < 3 by decide) (show 1 < 3 by decide), ent_mulT b m (show 1 < 3 by decide) (show 2 < 3 by decide), ent_mulT b m (show 2 < 3 by decide) (show 0 < 3 by decide), ent_mulT b m (show 2 < 3 by decide) (show 1 < 3 by decide), ent_mulT b m (show 2 < 3 by decide) (show 2 < 3 by decide)]
  grind
theorem pair_right (b m : List (List Int)) (x y : Nat → Int) : pairT (mulT m (overT b)) x y = pairT m x (ledT y b) := by
  rw [pairT_eq, pairT_eq]
  unfold ledT
  simp only [ent_mulT m (overT b) (show 0 < 3 by decide) (show 0 < 3 by decide), ent_mulT m (overT b) (show 0 < 3 by decide) (show 1 < 3 by decide), ent_mulT m (overT b) (show 0 < 3 by decide) (show 2 < 3 by decide), ent_mulT m (overT b) (show 1 < 3 by decide) (show 0 < 3 by decide), ent_mulT m (overT b) (show 1 < 3 by decide) (show 1 < 3 by decide), ent_mulT m (overT b) (show 1 < 3 by decide) (show 2 < 3 by decide), ent_mulT m (overT b) (show 2 < 3 by decide) (show 0 < 3 by decide), ent_mulT m (overT b) (show 2 < 3 by decide) (show 1 < 3 by decide), ent_mulT m (overT b) (show 2 < 3 by decide) (show 2 < 3 by decide),
    ent_overT b (show 0 < 3 by decide) (show 0 < 3 by decide), ent_overT b (show 0 < 3 by decide) (show 1 < 3 by decide), ent_overT b (show 0 < 3 by decide) (show 2 < 3 by decide), ent_overT b (show 1 < 3 by decide) (show 0 < 3 by decide), ent_overT b (show 1 < 3 by decide) (show 1 < 3 by decide), ent_overT b (show 1 < 3 by decide) (show 2 < 3 by decide), ent_overT b (show 2 < 3 by decide) (show 0 < 3 by decide), ent_overT b (show 2 < 3 by decide) (show 1 < 3 by decide), ent_overT b (show 2 < 3 by decide) (show 2 < 3 by decide)]
  grind
theorem pair_carT (m b : List (List Int)) (x y : Nat → Int) : pairT (carT m b) x y = pairT m (ledT x b) (ledT y b) := by
  unfold carT
  rw [pair_right, pair_left]
theorem pos_mul {a b : Int} (h : 0 < a * b) (ha : 0 < a) : 0 < b := by
  rcases Int.lt_or_le 0 b with z | z
  · exact z
  · have := Int.mul_nonpos_of_nonneg_of_nonpos (show 0 ≤ a by omega) z
    omega
/-- no row but that of noughts has a worth of 0 or less -/
def PosT (m : List (List Int)) : Prop := ∀ x : Nat → Int, ¬ (x 0 = 0 ∧ x 1 = 0 ∧ x 2 = 0) → 0 < pairT m x x
theorem pos_above {m : List (List Int)} (hS : overT m = m) (h : PosT m) : aboveT m = true := by
  have c1 : 0 < ent m 0 0 := by
    have := h (fun i => if i = 0 then 1 else 0) (fun z => by simp at z)
    rw [low1] at this
    exact this
  have c2 : ent m 0 1 * ent m 0 1 < ent m 0 0 * ent m 1 1 := by
    have := h (fun i => match i with | 0 => -ent m 0 1 | 1 => ent m 0 0 | _ => 0) (fun z => by have y : ent m 0 0 = 0 := z.2.1; omega)
    rw [low2 hS _ rfl rfl rfl] at this
    have := pos_mul this c1
    omega
  have p22 : 0 < ent (covT m) 2 2 := by
    rw [cov22, sym_ent hS (i := 0) (j := 1) (by decide) (by decide)]
    omega
  have c3 : 0 < detT m := by
    have := h (fun j => ent (covT m) 2 j) (fun z => by have y : ent (covT m) 2 2 = 0 := z.2.2; omega)
    rw [low3] at this
    exact pos_mul (by rw [Int.mul_comm]; exact this) p22
  unfold aboveT
  rw [decide_eq_true c1, decide_eq_true c2, decide_eq_true c3]
  rfl
theorem above_dec {m : List (List Int)} (h : aboveT m = true) : 0 < ent m 0 0 ∧ ent m 0 1 * ent m 0 1 < ent m 0 0 * ent m 1 1 ∧ 0 < detT m := by
  unfold aboveT at h
  simp only [Bool.and_eq_true, decide_eq_true_eq] at h
  exact ⟨h.1, h.2.1, h.2.2⟩
theorem sq_nonneg' (a : Int) : 0 ≤ a * a := by
  rcases Int.le_total 0 a with h | h
  · exact Int.mul_nonneg h h
  · have := Int.mul_nonneg (show 0 ≤ -a by omega) (show 0 ≤ -a by omega)
    rwa [Int.neg_mul_neg] at this
theorem sq_zero {a : Int} (h : a * a ≤ 0) : a = 0 := by
  have := sq_nonneg' a
  have : a * a = 0 := by omega
  rcases Int.mul_eq_zero.mp this with z | z <;> exact z
theorem pos_id {m : List (List Int)} (hS : overT m = m) (x : Nat → Int) : ent m 0 0 * (ent m 0 0 * ent m 1 1 - ent m 0 1 * ent m 0 1) * pairT m x x =
    (ent m 0 0 * ent m 1 1 - ent m 0 1 * ent m 0 1) * ((ent m 0 0 * x 0 + ent m 0 1 * x 1 + ent m 0 2 * x 2) * (ent m 0 0 * x 0 + ent m 0 1 * x 1 + ent m 0 2 * x 2))
    + ((ent m 0 0 * ent m 1 1 - ent m 0 1 * ent m 0 1) * x 1 + (ent m 0 0 * ent m 1 2 - ent m 0 1 * ent m 0 2) * x 2) * ((ent m 0 0 * ent m 1 1 - ent m 0 1 * ent m 0 1) * x 1 + (ent m 0 0 * ent m 1 2 - ent m 0 1 * ent m 0 2) * x 2)
    + ent m 0 0 * detT m * (x 2 * x 2) := by
  rw [pairT_eq, detT_eq, sym_ent hS (i := 0) (j := 1) (by decide) (by decide), sym_ent hS (i := 0) (j := 2) (by decide) (by decide), sym_ent hS (i := 1) (j := 2) (by decide) (by decide)]
  generalize ent m 0 0 = a, ent m 0 1 = p, ent m 0 2 = q, ent m 1 1 = b, ent m 1 2 = r, ent m 2 2 = c
  generalize x 0 = u, x 1 = v, x 2 = w
  grind
theorem above_pos {m : List (List Int)} (hS : overT m = m) (h : aboveT m = true) : PosT m := by
  intro x n0
  obtain ⟨c1, c2, c3⟩ := above_dec h
  have e := pos_id hS x
  have f1 : 0 < ent m 0 0 * ent m 1 1 - ent m 0 1 * ent m 0 1 := by omega
  generalize ent m 0 0 * ent m 1 1 - ent m 0 1 * ent m 0 1 = fl at e f1
  have q1 := sq_nonneg' (ent m 0 0 * x 0 + ent m 0 1 * x 1 + ent m 0 2 * x 2)
  have q2 := sq_nonneg' (fl * x 1 + (ent m 0 0 * ent m 1 2 - ent m 0 1 * ent m 0 2) * x 2)
  have q3 := sq_nonneg' (x 2)
  have r1 := Int.mul_nonneg (show 0 ≤ fl by omega) q1
  have d1 := Int.mul_pos c1 c3
  have r3 := Int.mul_nonneg (show 0 ≤ ent m 0 0 * detT m by omega) q3
  have g1 := Int.mul_pos c1 f1
  refine pos_mul ?_ g1
  rcases Int.lt_or_le 0 (ent m 0 0 * fl * pairT m x x) with z | z
  · exact z
  · exfalso
    have s3 : ent m 0 0 * detT m * (x 2 * x 2) ≤ 0 := by omega
    have s2 := sq_zero (a := fl * x 1 + (ent m 0 0 * ent m 1 2 - ent m 0 1 * ent m 0 2) * x 2) (by omega)
    have s1 : fl * ((ent m 0 0 * x 0 + ent m 0 1 * x 1 + ent m 0 2 * x 2) * (ent m 0 0 * x 0 + ent m 0 1 * x 1 + ent m 0 2 * x 2)) ≤ 0 := by omega
    have x2 : x 2 = 0 := by
      refine sq_zero ?_
      rcases Int.lt_or_le 0 (x 2 * x 2) with y | y
      · have := Int.mul_pos d1 y
        omega
      · exact y
    rw [x2, Int.mul_zero, Int.add_zero] at s2
    have x1 : x 1 = 0 := by
      rcases Int.mul_eq_zero.mp s2 with y | y
      · omega
      · exact y
    rw [x1, x2, Int.mul_zero, Int.mul_zero, Int.add_zero, Int.add_zero] at s1
    have x0 : x 0 = 0 := by
      have : ent m 0 0 * x 0 = 0 := by
        refine sq_zero ?_
        rcases Int.lt_or_le 0 (ent m 0 0 * x 0 * (ent m 0 0 * x 0)) with y | y
        · have := Int.mul_pos f1 y
          omega
        · exact y
      rcases Int.mul_eq_zero.mp this with y | y
      · omega
      · exact y
    exact n0 ⟨x0, x1, x2⟩
theorem detT_overT (b : List (List Int)) : detT (overT b) = detT b := by
  rw [detT_eq, detT_eq]
  simp only [ent_overT b (show 0 < 3 by decide) (show 0 < 3 by decide), ent_overT b (show 0 < 3 by decide) (show 1 < 3 by decide), ent_overT b (show 0 < 3 by decide) (show 2 < 3 by decide), ent_overT b (show 1 < 3 by decide) (show 0 < 3 by decide), ent_overT b (show 1 < 3 by decide) (show 1 < 3 by decide), ent_overT b (show 1 < 3 by decide) (show 2 < 3 by decide), ent_overT b (show 2 < 3 by decide) (show 0 < 3 by decide), ent_overT b (show 2 < 3 by decide) (show 1 < 3 by decide), ent_overT b (show 2 < 3 by decide) (show 2 < 3 by decide)]
  grind
def Unit1 (d : Int) : Prop := d = 1 ∨ d = -1
theorem det_carT {m b : List (List Int)} (hb : Unit1 (detT b)) : detT (carT m b) = detT m := by
  unfold carT
  rw [detT_mulT, detT_mulT, detT_overT]
  rcases hb with h | h <;> rw [h] <;> omega
/-- the back of a basis -/
def backT (b : List (List Int)) : List (List Int) := mk3 fun i j => detT b * ent (covT b) i j
/-- a row times a basis is nought only where the row is -/
theorem led_zero {b : List (List Int)} (hb : Unit1 (detT b)) (x : Nat → Int) (h : ledT x b 0 = 0 ∧ ledT x b 1 = 0 ∧ ledT x b 2 = 0) : x 0 = 0 ∧ x 1 = 0 ∧ x 2 = 0 := by
  obtain ⟨h0, h1, h2⟩ := h
  unfold ledT at h0 h1 h2
  have d0 : detT b ≠ 0 := by rcases hb with z | z <;> rw [z] <;> decide
  have k : ∀ z : Int, detT b * z = 0 → z = 0 := fun z e => by
    rcases Int.mul_eq_zero.mp e with y | y
    · exact absurd y d0
    · exact y
  refine ⟨k _ ?_, k _ ?_, k _ ?_⟩ <;> rw [detT_eq] <;> grind
theorem pos_carT {m b : List (List Int)} (h : PosT m) (hb : Unit1 (detT b)) : PosT (carT m b) := fun x n0 => by
  rw [pair_carT]
  exact h _ fun z => n0 (led_zero hb x z)
theorem above_carT {m b : List (List Int)} (hS : overT m = m) (h : aboveT m = true) (cb : is33 b) (hb : Unit1 (detT b)) : aboveT (carT m b) = true :=
  pos_above ((carT_over b cb).trans (congrArg (carT · b) hS)) (pos_carT (above_pos hS h) hb)
theorem even_over {m : List (List Int)} (h : EvenT m) (c : is33 m) : overT m = m := by
  obtain ⟨⟨s1, s2, s3⟩, _⟩ := h
  conv => rhs; rw [eq_mk3 c]
  refine mk3_congr fun i j hi hj => ?_
  rcases cases3 hi with rfl | rfl | rfl <;> rcases cases3 hj with rfl | rfl | rfl <;> first | rfl | assumption | (symm; assumption)
theorem ent_carT (m b : List (List Int)) {i j : Nat} (hi : i < 3) (hj : j < 3) : ent (carT m b) i j = pairT m (fun k => ent b i k) (fun k => ent b j k) := by
  unfold carT
  rw [ent_mulT _ _ hi hj, ent_mulT _ _ hi (by decide), ent_mulT _ _ hi (by decide), ent_mulT _ _ hi (by decide), ent_overT b (by decide) hj, ent_overT b (by decide) hj, ent_overT b (by decide) hj, pairT_eq]
  grind
theorem even_carT {m b : List (List Int)} (h : EvenT m) (c : is33 m) (cb : is33 b) : EvenT (carT m b) := by
  have hS := (carT_over b cb).trans (congrArg (carT · b) (even_over h c))
  refine ⟨⟨sym_ent hS (i := 0) (j := 1) (by decide) (by decide), sym_ent hS (i := 0) (j := 2) (by decide) (by decide), sym_ent hS (i := 1) (j := 2) (by decide) (by decide)⟩, halfT m (fun k => ent b 0 k), halfT m (fun k => ent b 1 k), halfT m (fun k => ent b 2 k), ?_, ?_, ?_⟩ <;> rw [ent_carT m b (by decide) (by decide), pair_even h]
end L2
namespace L2
open PySem PySem.Spec PyProof.Rows
theorem form_above {a b c p q r : Int} (ha : 0 < a) (hab : a ≤ b) (hp : -a ≤ p) (hp' : p ≤ a) (hd : 0 < detT (sym3 (2 * a) (2 * b) (2 * c) p q r)) : aboveT (sym3 (2 * a) (2 * b) (2 * c) p q r) = true := by
  have h1 := sq_le hp hp'
  have h2 : a * a ≤ a * b := Int.mul_le_mul_of_nonneg_left hab (by omega)
  have h3 : 0 < a * b := Int.mul_pos ha (by omega)
  have h4 : p * p < 2 * a * (2 * b) := by
    have : 2 * a * (2 * b) = 4 * (a * b) := by grind
    omega
  unfold aboveT
  rw [decide_eq_true hd, decide_eq_true (p := 0 < ent (sym3 (2 * a) (2 * b) (2 * c) p q r) 0 0) (by show 0 < 2 * a; omega), decide_eq_true (p := ent (sym3 (2 * a) (2 * b) (2 * c) p q r) 0 1 * ent (sym3 (2 * a) (2 * b) (2 * c) p q r) 0 1 < ent (sym3 (2 * a) (2 * b) (2 * c) p q r) 0 0 * ent (sym3 (2 * a) (2 * b) (2 * c) p q r) 1 1) h4]
  rfl
end L2
namespace L2
open PySem PySem.Spec PyProof.Rows
section
variable {X : Cx} {sc : Scope} {N2 : List Str} {x y : Str} {px py' tpos : Pos} {x1 : Nat} {elt iter : Expr} {gpos p pos : Pos} {wi : TI} {te : TE} {P : Addr}
end
end L2

namespace L2
open PySem PySem.Spec PyProof.Rows
-- any thing, as it lies on the heap
mutual
inductive DV (H : Hp) : V → PyData → Prop
  | non : DV H .non .none
  | bl (b : Bool) : DV H (.bl b) (.bool b)
  | int (i : Int) : DV H (.int i) (.int i)
  | str (x : Str) : DV H (.str x) (.str x)
  | lst {a : Addr} {xs : List V} {ds : List PyData} : H a = some (.lst xs) → DVs H xs ds → DV H (.ref a) (.list ds)
  | tup {a : Addr} {xs : List V} {ds : List PyData} : H a = some (.tup xs) → DVs H xs ds → DV H (.ref a) (.tuple ds)
inductive DVs (H : Hp) : List V → List PyData → Prop
  | nil : DVs H [] []
  | cons {x : V} {d : PyData} {xs : List V} {ds : List PyData} : DV H x d → DVs H xs ds → DVs H (x :: xs) (d :: ds)
end
mutual
theorem DV.same {H H' : Hp} (s : Same H H') : ∀ {x : V} {d : PyData}, DV H x d → DV H' x d
  | _, _, .non => .non
  | _, _, .bl b => .bl b
  | _, _, .int i => .int i
  | _, _, .str x => .str x
  | _, _, .lst e q => .lst (s _ _ e) (DVs.same s q)
  | _, _, .tup e q => .tup (s _ _ e) (DVs.same s q)
theorem DVs.same {H H' : Hp} (s : Same H H') : ∀ {xs : List V} {ds : List PyData}, DVs H xs ds → DVs H' xs ds
  | _, _, .nil => .nil
  | _, _, .cons a q => .cons (DV.same s a) (DVs.same s q)
end
theorem DVs.length {H : Hp} : ∀ {xs : List V} {ds : List PyData}, DVs H xs ds → xs.length = ds.length
  | _, _, .nil => rfl
  | _, _, .cons _ q => congrArg (· + 1) (DVs.length q)
theorem DVs.get {H : Hp} : ∀ {xs : List V} {ds : List PyData} {i : Nat} {x : V}, DVs H xs ds → xs[i]? = some x → ∃ d, ds[i]? = some d ∧ DV H x d
  | _, _, 0, _, .cons a q, e => by cases e; exact ⟨_, rfl, a⟩
  | _, _, i + 1, _, .cons a q, e => DVs.get (i := i) q (by simpa using e)
def tyD : PyData → Value
  | .none => .type "NoneType"
  | .bool _ => .type "bool"
  | .int _ => .type "int"
  | .str _ => .type "str"
  | .list _ => .type "list"
  | .tuple _ => .type "tuple"
  | _ => .none
theorem DV.ty (K : PySem.W.Frag) {H : Hp} {x : V} {d : PyData} (h : DV H x d) : TyOf K H x (tyD d) := by
  cases h with
  | non => exact .non
  | bl b => exact .bl b
  | int i => exact .int i
  | str s => exact .str s
  | lst e _ => exact .lst e
  | tup e _ => exact .tup e
def wholeD : PyData → Bool
  | .int _ => true
  | _ => false
def rowD : PyData → Bool
  | .list ds => ds.length == 3 && ds.all wholeD
  | _ => false
def tabD : PyData → Bool
  | .list ds => ds.length == 3 && ds.all rowD
  | _ => false
theorem kit_non_int (K : PySem.W.Frag) : PySem.W.kitOne K (.type "NoneType") (.type "int") = some false := by kernel_rfl
theorem kit_str_int (K : PySem.W.Frag) : PySem.W.kitOne K (.type "str") (.type "int") = some false := by kernel_rfl
theorem kit_list_int (K : PySem.W.Frag) : PySem.W.kitOne K (.type "list") (.type "int") = some false := by kernel_rfl
theorem kit_tup_int (K : PySem.W.Frag) : PySem.W.kitOne K (.type "tuple") (.type "int") = some false := by kernel_rfl
theorem kit_bool_int (K : PySem.W.Frag) : PySem.W.kitOne K (.type "bool") (.type "int") = some true := by kernel_rfl
theorem kit_non_list (K : PySem.W.Frag) : PySem.W.kitOne K (.type "NoneType") (.type "list") = some false := by kernel_rfl
theorem kit_str_list (K : PySem.W.Frag) : PySem.W.kitOne K (.type "str") (.type "list") = some false := by kernel_rfl
theorem kit_int_list (K : PySem.W.Frag) : PySem.W.kitOne K (.type "int") (.type "list") = some false := by kernel_rfl
theorem kit_bool_list (K : PySem.W.Frag) : PySem.W.kitOne K (.type "bool") (.type "list") = some false := by kernel_rfl
theorem kit_tup_list (K : PySem.W.Frag) : PySem.W.kitOne K (.type "tuple") (.type "list") = some false := by kernel_rfl
/-- no list: the test says so -/
theorem DV.noList (K : PySem.W.Frag) {H : Hp} {x : V} {d : PyData} (h : DV H x d) (hn : ∀ ds, d ≠ .list ds) : ∃ t, TyOf K H x t ∧ PySem.W.kitOne K t (.type "list") = some false := by
  cases h with
  | non => exact ⟨_, .non, kit_non_list K⟩
  | bl b => exact ⟨_, .bl b, kit_bool_list K⟩
  | int i => exact ⟨_, .int i, kit_int_list K⟩
  | str s => exact ⟨_, .str s, kit_str_list K⟩
  | lst e _ => exact absurd rfl (hn _)
  | tup e _ => exact ⟨_, .tup e, kit_tup_list K⟩
theorem dv_row {H : Hp} : ∀ r : List Int, DVs H (r.map V.int) (r.map PyData.int)
  | [] => .nil
  | x :: r => .cons (.int x) (dv_row r)
theorem dv_rows {H : Hp} {m : List (List Int)} {bs : List Addr} (pr : Paired (fun row b => H b = some (.lst (row.map V.int))) m bs) : DVs H (bs.map V.ref) (m.map dRow) := by
  induction pr with
  | nil => exact .nil
  | cons a _ ih => exact .cons (.lst a (dv_row _)) ih
theorem dv_tab {H : Hp} {t : Addr} {bs : List Addr} {m : List (List Int)} (h : Tab H t bs m) : DV H (.ref t) (dTab m) := .lst h.1 (dv_rows h.2)
theorem rowD_row (r : List Int) (h : r.length = 3) : rowD (dRow r) = true := by
  simp [rowD, h, wholeD]
theorem tabD_tab {m : List (List Int)} (h : is33 m) : tabD (dTab m) = true := by
  unfold tabD dTab
  simp only [List.length_map, h.1, BEq.rfl, Bool.true_and, List.all_map, List.all_eq_true]
  intro r hr
  exact rowD_row r (h.2 r hr)
/-- all of a list, by what all asks -/
theorem all_of {ds : List PyData} {f : PyData → Bool} {b : Bool} {n : Nat} (hn : n = ds.length) (h : b = true ↔ ∀ j, j < n → (match ds[j]? with | some d => f d | none => true) = true) : b = ds.all f := by
  have e : (ds.all f = true) ↔ ∀ j, j < n → (match ds[j]? with | some d => f d | none => true) = true := by
    rw [List.all_eq_true]
    constructor
    · intro q j hj
      rw [hn] at hj
      rw [List.getElem?_eq_getElem hj]
      exact q _ (List.getElem_mem hj)
    · intro q d hd
      obtain ⟨j, hj, e⟩ := List.mem_iff_getElem.mp hd
      have := q j (by rw [hn]; exact hj)
      rw [List.getElem?_eq_getElem hj, e] at this
      exact this
  cases b with
  | true => exact (e.mpr (h.mp rfl)).symm
  | false =>
    cases e2 : ds.all f with
    | false => rfl
    | true => exact absurd (h.mpr (e.mp e2)) (by decide)
/-- as Bool: its own turned over one, even on the diagonal -/
theorem even_iff {m : List (List Int)} (c : is33 m) : EvenT m ↔ m = overT m ∧ ∀ j, j < 3 → ent m j j % 2 = 0 := by
  constructor
  · intro h
    refine ⟨(even_over h c).symm, fun j hj => ?_⟩
    obtain ⟨_, a, b, d, p1, p2, p3⟩ := h
    rcases cases3 hj with rfl | rfl | rfl <;> omega
  · rintro ⟨h, e⟩
    have e0 := e 0 (by decide)
    have e1 := e 1 (by decide)
    have e2 := e 2 (by decide)
    exact ⟨⟨sym_ent h.symm (i := 0) (j := 1) (by decide) (by decide), sym_ent h.symm (i := 0) (j := 2) (by decide) (by decide), sym_ent h.symm (i := 1) (j := 2) (by decide) (by decide)⟩, ent m 0 0 / 2, ent m 1 1 / 2, ent m 2 2 / 2, by omega, by omega, by omega⟩
end L2

namespace L2
open PySem PySem.Spec PyProof.Rows
theorem comp_rowsN {J : It} {H1 : Hp} {xs : List V} {σ : St} {te : TE} {Q : VK} (jw : JW J H1 xs) (hz : xs.length ≤ sizeLine) {D : Addr} (hD : H1 D = none) (f : V → HO)
    (hs : ∀ x ∈ xs, ∀ H' (Q' : VK), Same H1 H' → (∀ b H2, H' b = none → Same H' H2 → H2 b = some (f x) → Q' (.ref b) H2) → te (some x :: σ) H' Q')
    (hq : ∀ bs H', Same H1 H' → H' D = some (.lst (bs.map V.ref)) → (∀ b ∈ bs, H1 b = none) → D ∉ bs → bs.Nodup → Paired (fun x b => H' b = some (f x)) xs bs → Q (.ref D) H') :
    CompRd 1 (gName 0) te σ J H1 D Q := by
  refine comp_rd jw hz hD (fun pre acc H' => ∃ bs : List Addr, acc = bs.map V.ref ∧ (∀ b ∈ bs, H1 b = none ∧ H' b ≠ none) ∧ D ∉ bs ∧ bs.Nodup ∧ Paired (fun x b => H' b = some (f x)) pre bs) ⟨[], rfl, fun _ h => (nomatch h), by simp, List.nodup_nil, .nil⟩ (fun pre x post acc H' Q' e hl sm eD p k => ?_) (fun acc H' hl sm eD p => ?_)
  · obtain ⟨bs, rfl, fr, nD, nn, pr⟩ := p
    refine hs x (by rw [e]; simp) H' _ sm fun b H2 hb s2 eb => ?_
    have nb : b ≠ D := fun z => by rw [z, eD] at hb; cases hb
    refine k _ _ s2 ⟨bs ++ [b], by simp, ?_, ?_, ?_, ?_⟩
    · intro c hc
      rcases List.mem_append.mp hc with z | z
      · refine ⟨(fr c z).1, fun y => ?_⟩
        rw [upd_ne (fun w => nD (by rw [← w]; exact z))] at y
        exact (fr c z).2 (s2.none y)
      · rw [List.mem_singleton.mp z]
        refine ⟨sm.none hb, fun y => ?_⟩
        rw [upd_ne nb, eb] at y
        cases y
    · intro z
      rcases List.mem_append.mp z with z | z
      · exact nD z
      · exact nb (List.mem_singleton.mp z).symm
    · rw [List.nodup_append]
      refine ⟨nn, by simp, fun c hc d hd z => ?_⟩
      rw [List.mem_singleton.mp hd] at z
      exact (fr c hc).2 (by rw [z]; exact hb)
    · refine Paired.snoc (pr.impR fun y c hc q => ?_) (by rw [upd_ne nb]; exact eb)
      rw [upd_ne (fun z => nD (by rw [← z]; exact hc))]
      exact s2 _ _ q
  · obtain ⟨bs, rfl, fr, nD, nn, pr⟩ := p
    exact hq bs H' sm eD (fun b hb => (fr b hb).1) nD nn pr
/-- [list(row) for row in t], the new rows all unlike -/
theorem copy_rdN {K : PySem.W.Frag} {H : Hp} {t : Addr} {bs : List Addr} {m : List (List Int)} {σ : St} {Q : VK} (h : Tab H t bs m) (hz : m.length ≤ sizeLine) {D : Addr} (hD : H D = none)
    (hq : ∀ bs' H', Same H H' → (∀ b ∈ bs', H b = none) → D ∉ bs' → bs'.Nodup → Tab H' D bs' m → Q (.ref D) H') : CompRd 1 (gName 0) (tCB (rListOf K) (tCons (tVar 0) tNil)) σ (Itl K t) H D Q := by
  refine comp_rowsN (jw_list (SqL.of h.1)) (by rw [List.length_map, ← h.2.length]; exact hz) hD (fun x => .lst (itemsOf H id x)) (fun x hx H' Q' sm k => ?_) (fun bs' H' sm eD fr nD nn pr => ?_)
  · obtain ⟨b, rfl, hb⟩ := mem_refs hx
    obtain ⟨row, hrow, eb⟩ := row_of h.2 hb
    refine ⟨_, rfl, b, _, rfl, .inl (SqL.of (sm _ _ eb)), fun l hl => k l _ hl (Same.up hl) ?_⟩
    rw [upd_same, itemsOf_ref eb, List.map_id]
  · refine hq bs' H' sm fr nD nn ⟨eD, ?_⟩
    have := pair_comp (g := id) h.2 pr fun row b e => by rw [itemsOf_ref e, List.map_id]; rfl
    rwa [List.map_id] at this
abbrev rTupOf (K : PySem.W.Frag) : List V → Hp → VK → Prop := fun xs H Q => ∃ p ys, xs = [.ref p] ∧ ((SqL K H p ys ∧ ∀ l, H l = none → Q (.ref l) (upd H l (.tup ys))) ∨ (SqT K H p ys ∧ Q (.ref p) H))
/-- a table's three rows by name -/
theorem tab_three {H : Hp} {t : Addr} {bs : List Addr} {m : List (List Int)} (h : Tab H t bs m) (h33 : is33 m) : ∃ a0 a1 a2, bs = [a0, a1, a2] ∧ H t = some (.lst [.ref a0, .ref a1, .ref a2]) ∧ ∀ k, k < 3 → ∃ b, [a0, a1, a2][k]? = some b ∧ RowAt H b (ent m k) := by
  have hl3 : bs.length = 3 := by rw [← h.2.length, h33.1]
  obtain ⟨a0, a1, a2, rfl⟩ : ∃ a0 a1 a2, bs = [a0, a1, a2] := by
    match bs, hl3 with
    | [a, b, c], _ => exact ⟨a, b, c, rfl⟩
  refine ⟨a0, a1, a2, rfl, h.1, fun k hk => ?_⟩
  obtain ⟨b, x1, x2, _⟩ := tab_row3 h h33 hk
  refine ⟨b, ?_, x2⟩
  rcases cases3 hk with rfl | rfl | rfl <;> exact congrArg some (V.ref.inj (Option.some.inj x1))
/-- one number put anew, anywhere -/
def setIJ (m : List (List Int)) (k l : Nat) (z : Int) : List (List Int) := mk3 fun i j => if i = k ∧ j = l then z else ent m i j
theorem ent_setIJ (m : List (List Int)) {k l i j : Nat} (z : Int) (hi : i < 3) (hj : j < 3) : ent (setIJ m k l z) i j = if i = k ∧ j = l then z else ent m i j := ent_mk3 _ hi hj
theorem bd_setIJ {m : List (List Int)} {n : Nat} (h : Bd n m) (k l : Nat) {z : Int} (hz : z.natAbs < 2 ^ n) : Bd n (setIJ m k l z) := fun i j hi hj => by
  rw [ent_setIJ m z hi hj]
  split
  · exact hz
  · exact h i j hi hj
theorem tab_setIJ {H : Hp} {t b : Addr} {bs : List Addr} {m : List (List Int)} {k l : Nat} {z : Int} (hT : Tab H t bs m) (h33 : is33 m) (hk : k < 3) (hl : l < 3) (hn : bs.Nodup) (nt : t ∉ bs) (hb : atI (bs.map V.ref) (k : Int) = some (.ref b)) :
    Tab (upd H b (.lst ([V.int (ent m k 0), .int (ent m k 1), .int (ent m k 2)].set l (.int z)))) t bs (setIJ m k l z) := by
  obtain ⟨a0, a1, a2, rfl, e, rw'⟩ := tab_three hT h33
  simp only [List.nodup_cons, List.mem_cons, List.not_mem_nil, or_false, not_or, not_false_eq_true, List.nodup_nil, and_true] at hn nt
  obtain ⟨⟨n01, n02⟩, n12⟩ := hn
  obtain ⟨t0, t1, t2⟩ := nt
  obtain ⟨_, q0, x2⟩ := rw' 0 (by decide)
  obtain ⟨_, q1, y2⟩ := rw' 1 (by decide)
  obtain ⟨_, q2, w2⟩ := rw' 2 (by decide)
  cases q0
  cases q1
  cases q2
  rcases cases3 hk with rfl | rfl | rfl
  · obtain rfl : a0 = b := V.ref.inj (Option.some.inj hb)
    rcases cases3 hl with rfl | rfl | rfl <;> exact tab_of3 _ (by rw [upd_ne t0]; exact e) upd_same (by rw [upd_ne (Ne.symm n01)]; exact y2) (by rw [upd_ne (Ne.symm n02)]; exact w2)
  · obtain rfl : a1 = b := V.ref.inj (Option.some.inj hb)
    rcases cases3 hl with rfl | rfl | rfl <;> exact tab_of3 _ (by rw [upd_ne t1]; exact e) (by rw [upd_ne n01]; exact x2) upd_same (by rw [upd_ne (Ne.symm n12)]; exact w2)
  · obtain rfl : a2 = b := V.ref.inj (Option.some.inj hb)
    rcases cases3 hl with rfl | rfl | rfl <;> exact tab_of3 _ (by rw [upd_ne t2]; exact e) (by rw [upd_ne n02]; exact x2) (by rw [upd_ne n12]; exact y2) upd_same
theorem dv_at {H : Hp} {b : Addr} {x : Nat → Int} (h : RowAt H b x) : DV H (.ref b) (.list [.int (x 0), .int (x 1), .int (x 2)]) := .lst h (.cons (.int _) (.cons (.int _) (.cons (.int _) .nil)))
end L2
namespace L2
open PySem PySem.Spec PyProof.Rows
end L2
namespace L2
open PySem PySem.Spec PyProof.Rows
section
variable {X : Cx}
theorem fe_non {j pos} : FE X (.Constant .none j pos) (tC .non) := ⟨pe_non⟩
theorem fe_str {x j pos} : FE X (.Constant (.str x) j pos) (tC (.str x)) := ⟨pe_str⟩
theorem fe_ix {r : R2} {e i : Expr} {te ti : TE} {pos : Pos} (hr : IxR X r) (he : FE X e te) (hi : PE X i ti) (hs : ∀ v u, subscripted i false v u = operate [v, u] (getItem v u)) : FE X (.Subscript e i pos) (tOp r te ti) := ⟨pe_ix hr he.h hi hs⟩
theorem fs_nil : FSs X [] tNext := ⟨pss_nil⟩
end
end L2
namespace L2
open PySem PySem.Spec PyProof.Rows
theorem ps_ifF {X : Cx} {c : Expr} {a b : List Stmt} {tc : TT} {t u : TS} {pos : Pos} (hc : PT X c tc) (ha : FSs X a t) (hb : FSs X b u) : PS X (.If c a b pos) (tIfS tc t u) := ps_if hc ha.h hb.h
end L2

namespace L2
open PySem PySem.Spec PyProof.Rows
theorem tabJ_rdN {J : It} {xs : List V} {H1 : Hp} {σ : St} {te : TE} {Q : VK} {D : Addr} (jw : JW J H1 xs) (h3 : xs.length = 3) (hD : H1 D = none) (g : Nat → Nat → Int)
    (hs : ∀ i x, i < 3 → xs[i]? = some x → ∀ H' (Q' : VK), Same H1 H' → (∀ b H2, H' b = none → Same H' H2 → H2 b = some (.lst [.int (g i 0), .int (g i 1), .int (g i 2)]) → Q' (.ref b) H2) → te (some x :: σ) H' Q')
    (hq : ∀ bs H', Same H1 H' → (∀ b ∈ bs, H1 b = none) → D ∉ bs → bs.Nodup → Tab H' D bs (mk3 g) → Q (.ref D) H') : CompRd 1 (gName 0) te σ J H1 D Q := by
  refine comp_rd jw (by rw [h3]; decide) hD (fun pre acc H' => ∃ bs : List Addr, acc = bs.map V.ref ∧ (∀ b ∈ bs, H1 b = none ∧ H' b ≠ none) ∧ D ∉ bs ∧ bs.Nodup ∧ Paired (fun i b => H' b = some (.lst [.int (g i 0), .int (g i 1), .int (g i 2)])) (List.range pre.length) bs) ⟨[], rfl, fun _ h => (nomatch h), by simp, List.nodup_nil, .nil⟩ (fun pre x post acc H' Q' e hl sm eD p k => ?_) (fun acc H' hl sm eD p => ?_)
  · obtain ⟨bs, rfl, fr, nD, nn, pr⟩ := p
    have hlen : pre.length < 3 := by
      have := congrArg List.length e
      rw [h3] at this
      simp at this
      omega
    refine hs pre.length x hlen (by rw [e]; simp) H' _ sm fun b H2 hb s2 eb => ?_
    have nb : b ≠ D := fun z => by rw [z, eD] at hb; cases hb
    refine k _ _ s2 ⟨bs ++ [b], by simp, ?_, ?_, ?_, ?_⟩
    · intro c hc
      rcases List.mem_append.mp hc with z | z
      · refine ⟨(fr c z).1, fun y => ?_⟩
        rw [upd_ne (fun w => nD (by rw [← w]; exact z))] at y
        exact (fr c z).2 (s2.none y)
      · rw [List.mem_singleton.mp z]
        refine ⟨sm.none hb, fun y => ?_⟩
        rw [upd_ne nb, eb] at y
        cases y
    · intro z
      rcases List.mem_append.mp z with z | z
      · exact nD z
      · exact nb (List.mem_singleton.mp z).symm
    · rw [List.nodup_append]
      refine ⟨nn, by simp, fun c hc d hd z => ?_⟩
      rw [List.mem_singleton.mp hd] at z
      exact (fr c hc).2 (by rw [z]; exact hb)
    · have er : List.range (pre ++ [x]).length = List.range pre.length ++ [pre.length] := by simp [List.range_succ]
      rw [er]
      refine Paired.snoc (pr.impR fun y c hc q => ?_) (by rw [upd_ne nb]; exact eb)
      rw [upd_ne (fun z => nD (by rw [← z]; exact hc))]
      exact s2 _ _ q
  · obtain ⟨bs, rfl, fr, nD, nn, pr⟩ := p
    refine hq bs H' sm (fun b hb => (fr b hb).1) nD nn ⟨eD, ?_⟩
    rw [h3] at pr
    have pr' : Paired (fun i b => H' b = some (.lst [.int (g i 0), .int (g i 1), .int (g i 2)])) [0, 1, 2] bs := pr
    cases pr' with
    | cons h0 t0 => cases t0 with
      | cons h1 t1 => cases t1 with
        | cons h2 t2 =>
          cases t2
          exact .cons h0 (.cons h1 (.cons h2 .nil))
/-- two ways that meet again -/
theorem joinIf {c : Bool} {K : St → Hp → Prop} {A : Prop} {σ : St} {H : Hp} (P : St → Hp → Prop) (hK : ∀ σ' H', P σ' H' → K σ' H') (hA : c = true → (∀ σ' H', P σ' H' → K σ' H') → A) (hB : P σ H) : if c = true then A else K σ H := by
  cases c with
  | true => exact iteT (hA rfl hK)
  | false => exact iteF (hK _ _ hB)
end L2

namespace L2
open PySem PySem.Spec PyProof.Rows
section
variable {prog : Program} {w : World} {A : Around} {R : Result → Shared → Prop} {s : Shared}
end
/-- [e for tg in iter]: W the invariant by the turn, a measure, the items so far, the block's names, the heap -/
def CompRdF (k : Nat) (g : TG) (tt : TT) (te : TE) (σ : St) (J : It) (H1 : Hp) (D : Addr) (Q : VK) : Prop := ∃ W : Nat → Nat → List V → St → Hp → Prop, (∃ m, W 0 m [] (List.replicate k none ++ σ) (upd H1 D (.lst []))) ∧
  ∀ i m acc σ' H', W i m acc σ' H' → (J.stop i H' ∧ H' D = some (.lst acc) ∧ Q (.ref D) H') ∨
    (J.go i H' ∧ acc.length < sizeLine ∧ ∀ x H2, J.yld i H' x H2 → g x σ' H2 fun σ3 H3 => tt σ3 H3 fun b H4 => if b = true then te σ3 H4 fun v H5 => H5 D = some (.lst acc) ∧ ∃ m', m' < m ∧ W (i + 1) m' (acc ++ [v]) σ3 (upd H5 D (.lst (acc ++ [v]))) else ∃ m', m' < m ∧ W (i + 1) m' acc σ3 H4)
def tCompF (k : Nat) (wi : TI) (g : TG) (tt : TT) (te : TE) : TE := fun σ H Q => wi σ H fun J H1 => ∀ D, H1 D = none → CompRdF k g tt te σ J H1 D Q

section
variable {X : Cx} {sc : Scope} {own N2 : List Str}

end
end L2

namespace L2
open PySem PySem.Spec PyProof.Rows
section
variable {X : Cx} {sc : Scope} {N2 : List Str} {x : Str} {px : Pos} {elt iter c : Expr} {pos : Pos} {wi : TI} {tt : TT} {te : TE}
end
end L2
namespace L2
end L2

namespace L2
open PySem PySem.Spec PyProof.Rows
/-- the law's bag: a list of two numbers from 0 on -/
def BagAt (H : Hp) (B : Addr) : Prop := ∃ g s : Int, H B = some (.lst [.int g, .int s]) ∧ 0 ≤ g ∧ 0 ≤ s
/-- all but the bag at B stands -/
def SB (B : Addr) (H H' : Hp) : Prop := (∀ a o, a ≠ B → H a = some o → H' a = some o) ∧ BagAt H' B
theorem SB.refl {B : Addr} {H : Hp} (h : BagAt H B) : SB B H H := ⟨fun _ _ _ e => e, h⟩
theorem SB.trans {B : Addr} {H H' H'' : Hp} (h : SB B H H') (h' : SB B H' H'') : SB B H H'' := ⟨fun a o n e => h'.1 a o n (h.1 a o n e), h'.2⟩
theorem BagAt.same {H H' : Hp} {B : Addr} (h : BagAt H B) (s : Same H H') : BagAt H' B := by
  obtain ⟨g, t, e, r⟩ := h
  exact ⟨g, t, s _ _ e, r⟩
theorem SB.of {B : Addr} {H H' : Hp} (b : BagAt H B) (s : Same H H') : SB B H H' := ⟨fun a o _ e => s _ _ e, b.same s⟩
theorem SB.gone {B : Addr} {H H' : Hp} (h : SB B H H') {r : Addr} (e : H' r = none) : H r = none := by
  cases q : H r with
  | none => rfl
  | some o =>
    by_cases z : r = B
    · obtain ⟨g, t, e2, _⟩ := h.2
      rw [← z, e] at e2
      cases e2
    · rw [h.1 r o z q] at e
      cases e
theorem SB.ne {B : Addr} {H H' : Hp} (h : SB B H H') {r : Addr} (e : H' r = none) : r ≠ B := fun z => by
  obtain ⟨g, t, e2, _⟩ := h.2
  rw [← z, e] at e2
  cases e2
theorem BagAt.ne {H : Hp} {B r : Addr} (h : BagAt H B) (e : H r = none) : r ≠ B := (SB.refl h).ne e
theorem Tab.sb {B : Addr} {H H' : Hp} {t : Addr} {bs : List Addr} {m : List (List Int)} (h : Tab H t bs m) (s : SB B H H') (nt : t ≠ B) (nb : B ∉ bs) : Tab H' t bs m :=
  ⟨s.1 _ _ nt h.1, h.2.impR fun r b hb e => s.1 _ _ (fun z => nb (by rw [← z]; exact hb)) e⟩
theorem SB.seq {K : PySem.W.Frag} {B : Addr} {H H' : Hp} {a : Addr} {xs : List V} (h : SB B H H') (n : a ≠ B) (q : SqL K H a xs) : SqL K H' a xs := by
  rcases q with (q | ⟨o, q⟩) | q
  · exact .inl (.inl (h.1 _ _ n q))
  · exact .inl (.inr ⟨o, h.1 _ _ n q⟩)
  · exact .inr q
theorem sb_upd {B : Addr} {H : Hp} {g s : Int} (hg : 0 ≤ g) (hs : 0 ≤ s) : SB B H (upd H B (.lst [.int g, .int s])) :=
  ⟨fun a o n e => by rw [upd_ne n]; exact e, g, s, upd_same, hg, hs⟩
end L2
namespace L2
theorem log2_small {z : Int} (h0 : 0 ≤ z) (h : z < 2 ^ 60) : z.natAbs.log2 < 9000 := by
  by_cases hz : z.natAbs = 0
  · rw [hz]; decide
  · have : z.natAbs < 2 ^ 60 := by omega
    exact Nat.lt_trans ((Nat.log2_lt hz).mpr this) (by decide)
end L2
namespace L2
open PySem PySem.Spec PyProof.Rows
/-- two rows exchanged, the second one with the other sign: the determinant stays -/
theorem det_turn (m : List (List Int)) {i j : Nat} (hi : i < 3) (hj : j < 3) (hij : i ≠ j) : detT (setT (setT m i fun s => ent m j s) j fun s => 0 - ent m i s) = detT m := by
  rw [detT_eq, detT_eq]
  simp only [ent_setT _ _ (show 0 < 3 by decide) (show 0 < 3 by decide), ent_setT _ _ (show 0 < 3 by decide) (show 1 < 3 by decide), ent_setT _ _ (show 0 < 3 by decide) (show 2 < 3 by decide), ent_setT _ _ (show 1 < 3 by decide) (show 0 < 3 by decide), ent_setT _ _ (show 1 < 3 by decide) (show 1 < 3 by decide), ent_setT _ _ (show 1 < 3 by decide) (show 2 < 3 by decide), ent_setT _ _ (show 2 < 3 by decide) (show 0 < 3 by decide), ent_setT _ _ (show 2 < 3 by decide) (show 1 < 3 by decide), ent_setT _ _ (show 2 < 3 by decide) (show 2 < 3 by decide)]
  rcases cases3 hi with rfl | rfl | rfl <;> rcases cases3 hj with rfl | rfl | rfl <;> first | (exact absurd rfl hij) | (simp only [Nat.reduceEqDiff, if_true, if_false]; grind)
end L2
namespace L2
open PySem PySem.Spec PyProof.Rows
theorem SB.updF {B D : Addr} {H H' : Hp} {o : HO} (h : SB B H H') (f : H D = none) (n : D ≠ B) : SB B H (upd H' D o) := by
  refine ⟨fun a u na e => ?_, ?_⟩
  · rw [upd_ne (fun z => by rw [z, f] at e; cases e)]
    exact h.1 a u na e
  · obtain ⟨g, s, e, r⟩ := h.2
    exact ⟨g, s, by rw [upd_ne (Ne.symm n)]; exact e, r⟩
end L2
namespace L2
open PySem PySem.Spec PyProof.Rows
end L2
namespace L2
open PySem PySem.Spec PyProof.Rows
/-- all rows of numbers below p whose first one that isn't 0 is 1 -/
def rowsA (k : Nat) : List (List Int) := [0, 0, 1] :: (List.range k).map fun (a : Nat) => [0, 1, (a : Int)]
def rowsB (p k : Nat) : List (List Int) := rowsA p ++ (List.range k).map fun (a : Nat) => [1, ((a / p : Nat) : Int), ((a % p : Nat) : Int)]
end L2
namespace L2
open PySem PySem.Spec PyProof.Rows
def restT (m : List (List Int)) (p : Int) : List (List Int) := mk3 fun i j => ent m i j % p
end L2
namespace L2
open PySem PySem.Spec PyProof.Rows
def rowF (r : List Int) : Nat → Int := fun i => r.getD i 0
end L2

namespace L2
open PySem PySem.Spec PyProof.Rows
section
variable {X : Cx} {sc : Scope} {N2 : List Str} {x y : Str} {px py' tpos : Pos} {x1 : Nat} {elt iter : Expr} {gpos p pos : Pos} {wi : TI} {te : TE} {P : Addr}
end
end L2
namespace L2
open PySem PySem.Spec PyProof.Rows
theorem iteC {c A B : Prop} [Decidable c] (hc : c) (h : A) : if c then A else B := by
  rw [if_pos hc]
  exact h
theorem iteX {c A B : Prop} [Decidable c] (hc : ¬ c) (h : B) : if c then A else B := by
  rw [if_neg hc]
  exact h
section
variable {X : Cx} {sc : Scope} {N2 : List Str} {x : Str} {px : Pos} {elt iter : Expr} {gpos p pos : Pos} {wi : TI} {te : TE} {P : Addr}
end
def rangeL (lo : Int) (n : Nat) : List V := (List.range n).map fun (i : Nat) => V.int (lo + (i : Int))
/-! signs -/
def hasRoot (p x : Int) : Bool := (List.range p.toNat).any fun k => decide (0 < k) && decide (((k : Int) * k + x) % p = 0)
def sgn (p x : Int) : Int := if x % p = 0 then 0 else if hasRoot p x then 1 else -1
end L2

namespace L2
open PySem PySem.Spec PyProof.Rows
/-! rows but for multiples of a prime -/
/-- the first rest that isn't 0 -/
def leadR (p : Int) (x : Nat → Int) : Int := if x 0 % p ≠ 0 then x 0 % p else if x 1 % p ≠ 0 then x 1 % p else x 2 % p
def Rest0 (p : Int) (x : Nat → Int) : Prop := x 0 % p = 0 ∧ x 1 % p = 0 ∧ x 2 % p = 0
def OnCone (m : List (List Int)) (p : Int) (x : Nat → Int) : Prop := ¬ Rest0 p x ∧ halfT m (fun i => x i % p) % p = 0
/-- a row that begins by 1, of numbers below p -/
structure Lead1 (p : Int) (y : Nat → Int) : Prop where
  lo : ∀ i, i < 3 → 0 ≤ y i
  hi : ∀ i, i < 3 → y i < p
  one : (y 0 = 1) ∨ (y 0 = 0 ∧ y 1 = 1) ∨ (y 0 = 0 ∧ y 1 = 0 ∧ y 2 = 1)
end L2

namespace L2
open PySem PySem.Spec PyProof.Rows
/-- an exception's record: its class, its first field, no context; told by an entry whose flight is fl -/
def ExRec (h base : Heap) (e : Addr) (cls a0 fl : Value) : Prop :=
  ∃ ob ws tb ot us, h.get? e = some ob ∧ ob.data = .fields ws ∧ ob.cls = cls ∧ ws[0]? = some a0 ∧ ws[2]? = some .none ∧ ws[1]? = some (.ref tb) ∧ tb ≠ e ∧ base.get? tb = none ∧ h.get? tb = some ot ∧ ot.data = .fields us ∧ us[3]? = some fl
/-- it flies through the frames l, all of base stands -/
structure Fl (base : Heap) (l : List Env) (e : Addr) (cls a0 fl : Value) (h : Heap) : Prop where
  stay : base.StaysIn h
  new : base.get? e = none
  frm : h.FunFrames base l
  rec' : ExRec h base e cls a0 fl
section
variable {M : Model} {A : Around} {E : Value → Shared → Prop} {s : Shared} {base : Heap} {env : Env} {outer : List Env} {L e : Addr} {cls a0 : Value}
/-- what is no record stays, up to slots, when records alone are changed or made -/
theorem slots_of {h1 h2 : Heap} {p : Addr} {op : Obj} {xs : Array Value} {f : Obj → Obj} (hp : h1.get? p = some op) (hx : op.data = .fields xs) (k : h2 = h1.update p f) {b : Addr} {o : Obj} (hb : h1.get? b = some o) (hn : ∀ vs, o.data ≠ .fields vs) : h2.get? b = some o := by
  subst k
  rw [Heap.get?_update_other _ _ (fun z => ?_)]
  · exact hb
  · rw [z, hb] at hp
    cases hp
    exact hn xs hx
theorem note_end {ob : Obj} {ws : Array Value} {head : Value} {hn : Bool} {Q : Unit → Shared → Prop} (hfr : A.frames = some (env :: outer)) (hf : env.frame = some L) (st : base.StaysIn s.heap) (nw : base.get? e = none) (fr : s.heap.FunFrames base (env :: outer))
    (x1 : s.heap.get? e = some ob) (x2 : ob.data = .fields ws) (x3 : ob.cls = cls) (x4 : ws[0]? = some a0) (x5 : ws[2]? = some .none) (k : ∀ h', Fl base (env :: outer) e cls a0 (rawInt L) h' → s.heap.UpToSlots h' → Q () { s with heap := h' }) :
    wpAny M A (do let a ← frameOf env; let pl ← entryPlaceOf L hn; let b ← EntryCells.newEntry head a .none (rawInt L) .none pl; setField (.ref e) 1 b) Q E s := by
  have sz2 : 2 < ws.size := (Array.getElem?_eq_some_iff.mp x5).1
  have out : e ∉ (env :: outer).filterMap (·.frame) := fun z => by
    obtain ⟨_, o, q1, q2⟩ := fr.mem z
    rw [x1] at q1
    cases q1
    exact q2 ws x2
  refine wpAny_bind (wpAny_frameOf_fun hfr fr hf fun g so => wpAny_bind (wpAny_entryPlaceOf fun pl hpl => ?_))
  unfold EntryCells.newEntry newFields
  refine wpAny_bind (wpAny_newObj_type ?_ (hpl.sizeOk5 _ _ _ _ _))
  have y1 : g.get? e = some ob := (so.2.1 e out).trans x1
  generalize hnt : ({ cls := .type "traceback", dict := none, data := .fields ([head, .ref L, .none, rawInt L, .none] ++ (if pl.isEmpty then List.replicate 6 Value.none else pl)).toArray } : Obj) = nt
  have d1 : nt.data = .fields ([head, .ref L, .none, rawInt L, .none] ++ (if pl.isEmpty then List.replicate 6 Value.none else pl)).toArray := by rw [← hnt]
  have d2 : ([head, .ref L, .none, rawInt L, .none] ++ (if pl.isEmpty then List.replicate 6 Value.none else pl)).toArray[3]? = some (rawInt L) := by simp
  generalize ([head, .ref L, .none, rawInt L, .none] ++ (if pl.isEmpty then List.replicate 6 Value.none else pl)).toArray = us at d1 d2
  have y2 := Heap.get?_push_of_some (h := g) nt y1
  refine wpAny_setField y2 x2 (show 1 < ws.size by omega) (k _ ?_ ?_)
  · have ne : g.objs.size ≠ e := Nat.ne_of_gt (Heap.lt_size y1)
    have z2 := Obj.data_mapFields x2 (·.setIfInBounds 1 (Value.ref g.objs.size))
    have gS : base.StaysIn g := fun b o q => by
      by_cases m : b ∈ (env :: outer).filterMap (·.frame)
      · rw [(fr.mem m).1] at q; cases q
      · exact (so.2.1 b m).trans (st b o q)
    refine ⟨fun b o q => ?_, nw, ?_, ⟨_, _, g.objs.size, nt, us, Heap.get?_update_self _ y2 (Obj.isFreed_of_fields z2), z2, (Obj.cls_mapFields _ _).trans x3, ?_, ?_, ?_, ne, gS.fresh, ?_, d1, d2⟩⟩
    · rw [Heap.get?_update_other _ _ (fun z => by rw [← z, nw] at q; cases q)]
      exact Heap.get?_push_of_some _ (gS b o q)
    · refine fr.of_keeps fun b o q hn => ?_
      obtain ⟨sl, q1⟩ := so.2.2 b o q
      exact ⟨_, slots_of y2 x2 rfl (Heap.get?_push_of_some _ q1) hn, rfl⟩
    · rw [Array.getElem?_setIfInBounds_ne (by decide)]; exact x4
    · rw [Array.getElem?_setIfInBounds_ne (by decide)]; exact x5
    · simp [show 1 < ws.size by omega]
    · rw [Heap.get?_update_other _ _ (Ne.symm ne)]
      exact Heap.get?_push_size g (by rw [← hnt]; rfl)
  · intro b o q hn
    obtain ⟨sl, q1⟩ := so.2.2 b o q
    exact ⟨sl, slots_of y2 x2 rfl (Heap.get?_push_of_some _ q1) hn⟩
theorem note_first {ob : Obj} {ws : Array Value} {Q : Unit → Shared → Prop} (hfr : A.frames = some (env :: outer)) (hf : env.frame = some L) (st : base.StaysIn s.heap) (nw : base.get? e = none) (fr : s.heap.FunFrames base (env :: outer))
    (x1 : s.heap.get? e = some ob) (x2 : ob.data = .fields ws) (x3 : ob.cls = cls) (x4 : ws[0]? = some a0) (x5 : ws[2]? = some .none) (x6 : ws[1]? = some .none) (k : ∀ h', Fl base (env :: outer) e cls a0 (rawInt L) h' → s.heap.UpToSlots h' → Q () { s with heap := h' }) :
    wpAny M A (noteFrame (.ref e) env) Q E s := by
  unfold noteFrame
  simp only [hf]
  refine wpAny_bind (wpAny_field x1 x2 x6 ?_)
  exact note_end hfr hf st nw fr x1 x2 x3 x4 x5 k
theorem note_next {Q : Unit → Shared → Prop} (hfr : A.frames = some (env :: outer)) (hf : env.frame = some L) (F : Fl base (env :: outer) e cls a0 .none s.heap) (k : ∀ h', Fl base (env :: outer) e cls a0 (rawInt L) h' → s.heap.UpToSlots h' → Q () { s with heap := h' }) :
    wpAny M A (noteFrame (.ref e) env) Q E s := by
  obtain ⟨st, nw, fr, ob, ws, tb, ot, us, x1, x2, x3, x4, x5, x6, n1, n2, t1, t2, t3⟩ := F
  unfold noteFrame
  simp only [hf]
  refine wpAny_bind (wpAny_field x1 x2 x6 ?_)
  rw [if_pos (show (Value.ref tb != Value.none) = true by simp)]
  refine wpAny_bind (wpAny_field t1 t2 t3 ?_)
  rw [if_neg (show ¬ ((Value.none == rawInt L) = true) by simp [rawInt])]
  refine wpAny_bind (wpAny_setField t1 t2 (Array.getElem?_eq_some_iff.mp t3).1 ?_)
  have oth : ∀ b, b ≠ tb → (s.heap.update tb (Obj.mapFields (·.setIfInBounds 3 Value.none))).get? b = s.heap.get? b := fun b z => Heap.get?_update_other _ _ (Ne.symm z)
  refine note_end (s := { s with heap := s.heap.update tb (Obj.mapFields (·.setIfInBounds 3 Value.none)) }) hfr hf (fun b o q => (oth b fun z => by rw [z, n2] at q; cases q).trans (st b o q)) nw (fr.of_keeps fun b o q hn => ⟨o, slots_of t1 t2 rfl q hn, rfl⟩) ((oth e (Ne.symm n1)).trans x1) x2 x3 x4 x5 fun h' F' u => k h' F' fun b o q hn => u b o (slots_of t1 t2 rfl q hn) hn
theorem flight_off {l : List Env} {fl : Value} {Q : Unit → Shared → Prop} (F : Fl base l e cls a0 fl s.heap) (k : ∀ h', Fl base l e cls a0 .none h' → s.heap.UpToSlots h' → Q () { s with heap := h' }) : wpAny M A (setFlight (.ref e) none) Q E s := by
  obtain ⟨st, nw, fr, ob, ws, tb, ot, us, x1, x2, x3, x4, x5, x6, n1, n2, t1, t2, t3⟩ := F
  have z3 : 3 < us.size := (Array.getElem?_eq_some_iff.mp t3).1
  unfold setFlight
  refine wpAny_bind (wpAny_field x1 x2 x6 ?_)
  rw [if_pos (show (Value.ref tb != Value.none) = true by simp)]
  have oth : ∀ b, b ≠ tb → (s.heap.update tb (Obj.mapFields (·.setIfInBounds 3 ((none : Option Addr).elim Value.none fun f => rawInt f)))).get? b = s.heap.get? b := fun b z => Heap.get?_update_other _ _ (Ne.symm z)
  refine wpAny_setField t1 t2 z3 (k _ ⟨fun b o q => (oth b fun z => by rw [z, n2] at q; cases q).trans (st b o q), nw, fr.of_keeps fun b o q hn => ⟨o, slots_of t1 t2 rfl q hn, rfl⟩, ob, ws, tb, _, _, (oth e (Ne.symm n1)).trans x1, x2, x3, x4, x5, x6, n1, n2, Heap.get?_update_self _ t1 (Obj.isFreed_of_fields (Obj.data_mapFields t2 _)), Obj.data_mapFields t2 _, by simp [z3]⟩ fun b o q hn => ⟨o.slots, slots_of t1 t2 rfl q hn⟩)
theorem Fl.out {fl : Value} {h : Heap} (F : Fl base (env :: outer) e cls a0 fl h) : Fl base outer e cls a0 fl h := ⟨F.stay, F.new, F.frm.2.2, F.rec'⟩
theorem leave_next {Q : Unit → Shared → Prop} (hfr : A.frames = some (env :: outer)) (hf : env.frame = some L) (F : Fl base (env :: outer) e cls a0 .none s.heap) (k : ∀ h', Fl base outer e cls a0 .none h' → s.heap.UpToSlots h' → Q () { s with heap := h' }) :
    wpAny M A (leaving env (.ref e)) Q E s := by
  unfold leaving
  exact wpAny_bind (note_next hfr hf F fun h1 F1 u1 => flight_off F1 fun h2 F2 u2 => k h2 F2.out (u1.trans u2))
theorem leave_made {h : Heap} {args : List Value} {Q : Unit → Shared → Prop} (hfr : A.frames = some (env :: outer)) (hf : env.frame = some L) (st : base.StaysIn h) (fr : h.FunFrames base (env :: outer)) (X : Heap.MadeExcOf h s.heap e cls args)
    (k : ∀ h' t, Fl base outer e cls (.ref t) .none h' → s.heap.UpToSlots h' → Q () { s with heap := h' }) : wpAny M A (leaving env (.ref e)) Q E s := by
  obtain ⟨t, x1, _, _⟩ := X.there
  have nw : base.get? e = none := by
    cases q : base.get? e with
    | none => rfl
    | some o => have := st e o q; rw [X.new] at this; cases this
  unfold leaving
  exact wpAny_bind (note_first hfr hf (fun b o q => X.keeps b o (st b o q)) nw (fr.of_keeps fun b o q _ => ⟨o, X.keeps b o q, rfl⟩) x1 rfl rfl rfl rfl rfl fun h1 F1 u1 => flight_off F1 fun h2 F2 u2 => k h2 t F2.out (u1.trans u2))
end
end L2

namespace L2
open PySem PySem.Spec PyProof.Rows
theorem ObjOk.here {P : Program} {w : World} {H : Hp} {h : Heap} {a : Addr} {o : HO} (x : ObjOk P w H h a o) : ∃ u, h.get? a = some u := by
  cases o with
  | lst xs => obtain ⟨_, _, _, _, e⟩ := x; exact ⟨_, e⟩
  | tup xs => obtain ⟨_, _, _, ob, e, _⟩ := x; exact ⟨_, e⟩
  | dK kvs => obtain ⟨_, _, _, _, o, _, _, e, _⟩ := x; exact ⟨_, e⟩
  | dT kvs => obtain ⟨_, _, _, _, o, _, _, e, _⟩ := x; exact ⟨_, e⟩
  | set S n => obtain ⟨o, _, _, _, e, _⟩ := x; exact ⟨_, e⟩
  | ins C dx fs => obtain ⟨_, _, _, e, _⟩ := x; exact ⟨_, e⟩
  | own y => obtain ⟨_, e⟩ := x; exact ⟨_, e⟩
  | xd fs => obtain ⟨_, ⟨_, _, _, e, _⟩, _⟩ := x; exact ⟨_, e⟩
  | rng lo hi => obtain ⟨_, _, _, e⟩ := x; exact ⟨_, e⟩
  | frz ob u => obtain ⟨e, _⟩ := x; exact ⟨_, e⟩
  | tbl ps => exact ⟨_, (show h.get? a = some _ from x)⟩
  | met f y => exact ⟨_, (show h.get? a = some _ from x)⟩
  | ext φ => obtain ⟨_, ⟨_, e⟩, _⟩ := x; exact ⟨_, e⟩
/-- how an own exception lies behind a call: a its object, C its class; B all that stands; what the callers know holds in every heap in which B stands and the rest is as here up to slots -/
def CXR (P : Program) (w : World) : CXT := fun outer H s E e s'' => ∃ (a : Addr) (C : Value) (t : Addr) (B : Heap) (H' : Hp), e = .ref a ∧ s''.os = s.os ∧ GOk s.gens s''.gens ∧ Fl B outer a C (.ref t) .none s''.heap ∧ H' a = none ∧ E C none H' ∧
  ∀ h', B.StaysIn h' → s''.heap.UpToSlots h' → Un (frs outer) [] H H' s.heap h' ∧ HOk P w H' h'
/-- raise: what is wanted of the exception -/
def tRaise (C : Value) (E : XK) : TS := fun _ _ H => E C none H
section
variable {P : Program} {w : World} {K : PySem.W.Frag} {mg : Str → Option Value} {base : Heap} {N : List Str} {qual : Str} {scope : Scope} {f : Addr} {cd : Value} {A : Around} {outer : List Env} {s : Shared} {H : Hp} {E : XK}
theorem un_after {X : Cx} {pins : List (Addr × Obj)} {σ : St} {H1 : Hp} {s2 : Shared} {h' : Heap} (I : Inv X pins σ H1 s2) (hex : X.ex = []) (k : (PySem.W.hideAll s2.heap (frs X.stack)).StaysIn h') (u : ∀ b ∈ frs X.outer, ∀ o, s2.heap.get? b = some o → ∃ sl, h'.get? b = some { o with slots := sl }) :
    Un (frs X.outer) [] X.H₀ H1 X.s₀.heap h' ∧ HOk X.prog X.w H1 h' := by
  have keep : ∀ b o, s2.heap.get? b = some o → b ∉ frs X.stack → h'.get? b = some o := fun b o e n => k b o (PySem.W.hideAll_get _ e n)
  have nex : ∀ b, b ∉ X.ex := fun b => by rw [hex]; simp
  have nst : ∀ b o, X.s₀.heap.get? b = some o → b ∉ frs X.outer → b ∉ frs X.stack := fun b o e n z => by
    rcases List.mem_cons.mp (I.stkSub b z) with q | q
    · exact absurd (Heap.lt_size e) (by rw [q]; exact Nat.not_lt.mpr I.ok.above)
    · exact n q
  refine ⟨⟨fun b o e n hb _ => ?_, fun b o e n hb _ => ?_, fun b o e n _ => I.base.free b o e n (nex b), fun b o e _ => ?_, I.base.tups, I.base.frzs, I.base.tbls⟩, ?_⟩
  · exact keep b o (I.base.keep b o e n hb (nex b)) (nst b o e hb)
  · obtain ⟨sl, e2⟩ := I.base.slot b o e n hb (nex b)
    obtain ⟨sl', e3⟩ := u b hb _ e2
    exact ⟨sl', e3⟩
  · obtain ⟨o', e2⟩ := I.base.there b o e (nex b)
    by_cases hb : b ∈ frs X.outer
    · obtain ⟨sl, e3⟩ := u b hb _ e2
      exact ⟨_, e3⟩
    · exact ⟨o', keep b o' e2 (nst b o e hb)⟩
  · refine fun a o e => (I.hok a o e).stay (fun b v hb q => keep b v q fun z => ?_) (fun _ q => q) fun _ _ q => q
    have n := I.stkFree b z
    rcases hb with rfl | hb
    · rw [e] at n; cases n
    · rw [hb] at n; cases n
/-- raise C(..), C an own class; the body is a def's -/
theorem ps_raise {x : Str} {C : Addr} {B newId initId : String} {bm : List Value} {np cpos pos : Pos} {e : Expr} {es : List Expr} {ta : TA}
    (O : OwnCls x C bm newId mg base) (FB : ExcBaseFacts B newId initId bm)
    (hg : Gl (cxOf (CXR P w) P w K mg base N qual scope f cd A outer s H E) x)
    (ha : PA (cxOf (CXR P w) P w K mg base N qual scope f cd A outer s H E) (e :: es) ta)
    (he : starEach (e :: es) (envOfC qual scope s.heap.objs.size f cd) = (false, eval e (envOfC qual scope s.heap.objs.size f cd)) :: starEach es (envOfC qual scope s.heap.objs.size f cd) := by rfl)
    (hplain : (backTo cpos (starEach es (envOfC qual scope s.heap.objs.size f cd))).any (·.1) = false := by rfl) (hdb : (x == ("__debug__" : Str)) = false := by decide) :
    PS (cxOf (CXR P w) P w K mg base N qual scope f cd A outer s H E) (.Raise (some (.Call (.Name x np) (e :: es) [] cpos)) none pos) (fun D σ H1 => ta σ H1 fun vs H2 => vs.length ≤ sizeLine ∧ E (.ref C) none H2) := by
  intro pins s1 σ H1 D I h
  obtain ⟨tl, Na, nm, q, bs, hdct, sn, sub, ab, col, dd, k0, k1, k2, k3, k5, mN, hC, hN, hni, T⟩ := O.obj
  have hst := I.stack
  refine wpAny_Raise_call_subT (C := C) (nm := nm) (q := q) (N := Na) (bs := bs) (bm := tl) (hdct := hdct) (sn := sn) (sub := sub) (ab := ab) (col := col) (dd := dd) (k0 := k0) (k1 := k1) (k2 := k2) (k3 := k3) (k5 := k5)
    FB (mN := mN) (T.hasType FB.hasBase) (I.ok.hd rfl) (by show (backTo cpos (starEach (e :: es) (envOfC qual scope s.heap.objs.size f cd))).any (·.1) = false; rw [he]; show (false || (backTo cpos (starEach es (envOfC qual scope s.heap.objs.size f cd))).any (·.1)) = false; rw [hplain]; rfl) hni (ld_glob I hg O.bound ⟨rfl, ?_⟩ hdb)
  have hp := ha cpos pins s1 σ H1 _ I h
  have kb : ∀ {s2 : Shared} {σ2 : St} {H2 : Hp} {p2}, Inv (cxOf (CXR P w) P w K mg base N qual scope f cd A outer s H E) p2 σ2 H2 s2 → ∀ b o, base.get? b = some o → s2.heap.get? b = some o := fun I2 => I2.bk
  show wpAny _ _ (evalArgs (.ref C) true (backTo cpos (starEach (e :: es) (envOfC qual scope s.heap.objs.size f cd))) []) _ _ _
  rw [he]
  have hp : wpAny (model P w) (A.deeper (envOfC qual scope s.heap.objs.size f cd)) (spliced (backTo cpos (starEach (e :: es) (envOfC qual scope s.heap.objs.size f cd)))) _ _ s1 := hp
  rw [he] at hp
  refine Calls.evalArgs_plain (wpAny_mono hp (fun us s2 h2 => ?_) fun _ _ y => y)
  obtain ⟨vs, H2, I2, r2, hl, q2⟩ := h2
  have kb := I2.bk
  refine ⟨rfl, by rw [← r2.length]; exact hl, kb _ _ hC, hN.keeps kb, T.keeps kb, fun h' a hx => ?_⟩
  have hst2 := I2.stack
  have hin : ∀ env ∈ (envOfC qual scope s.heap.objs.size f cd :: outer), ∀ b, env.frame = some b → b ∈ frs (envOfC qual scope s.heap.objs.size f cd :: outer) := fun env he b hb => List.mem_filterMap.mpr ⟨env, he, hb⟩
  refine leave_made (base := PySem.W.hideAll s2.heap (frs (envOfC qual scope s.heap.objs.size f cd :: outer))) I2.ok.frames rfl (fun b o q => PySem.W.of_hideAll _ q) (PySem.W.funFrames_hide hst2 hin) hx fun h4 t x1 x4 => ?_
  refine ⟨a, .ref C, t, _, H2, rfl, I2.os, I2.bare, x1, ?_, q2, fun h5 k5 u5 => ?_⟩
  · cases e : H2 a with
    | none => rfl
    | some o =>
      obtain ⟨u, hu⟩ := (I2.hok a o e).here
      rw [hx.new] at hu
      cases hu
  · refine un_after I2 rfl k5 fun b hb o e => ?_
    obtain ⟨_, o', e', nf⟩ := hst2.mem (show b ∈ frs (envOfC qual scope s.heap.objs.size f cd :: outer) from by
      obtain ⟨env, h1, h2⟩ := List.mem_filterMap.mp hb
      exact List.mem_filterMap.mpr ⟨env, List.mem_cons_of_mem _ h1, h2⟩)
    obtain rfl : o' = o := Option.some.inj (e'.symm.trans e)
    obtain ⟨sl, e4⟩ := x4 b o' (hx.keeps b o' e) nf
    obtain ⟨sl2, e5⟩ := u5 b _ e4 nf
    exact ⟨sl2, e5⟩
end
end L2

namespace L2
open PySem PySem.Spec PyProof.Rows
section
variable {X : Cx} {pins : List (Addr × Obj)} {σ : St} {H : Hp} {s : Shared}
/-- del of a local name -/
theorem unbind_ok {M : Model} {A : Around} {E : Value → Shared → Prop} {i : Nat} {x : Str} {v : V} {Q : Unit → Shared → Prop} (I : Inv X pins σ H s) (hN : X.N.Nodup) (hi : X.N[i]? = some x) (hk : X.env.scope.names.lookup x = some .local) (hv : σ[i]? = some (some v))
    (h : ∀ s', Inv X pins (σ.set i none) H s' → Q () s') : wpAny M A (unbindName X.env x) Q E s := by
  obtain ⟨m, hn, hl⟩ := id I.loc
  have hcls : (X.env.scope.kind == .class || (X.env.scope.kind == .module && X.env.locals != X.env.globals)) = false := by rw [I.ok.kind]; rfl
  have hiσ : i < σ.length := by rw [I.len]; exact (List.getElem?_eq_some_iff.mp hi).1
  have cne := I.cne
  have tracked : ∀ {a : Addr} {h' : Heap}, (∃ o, s.heap.get? a = some o ∧ H a = none) → Heap.SameBut a s.heap h' → HOk X.prog X.w H h' := fun {a h'} ha hs b ob e => by
    obtain ⟨_, _, hfree⟩ := ha
    refine (I.hok b ob e).stay (fun c w' hc q => (hs.2 c ?_).trans q) (fun _ q => q) fun _ _ q => q
    rintro rfl
    rcases hc with rfl | hc
    · rw [hfree] at e; cases e
    · rw [hfree] at hc; cases hc
  obtain ⟨u0, r0, lk⟩ := hl i x v hi hv (.inl hk)
  have em : m x = some u0 := by
    rcases lk with ⟨_, e⟩ | ⟨k, _⟩
    · exact e
    · have hk' : X.env.kindOf x = some .local := hk
      rcases k with k | k <;> (rw [hk'] at k; cases k)
  refine wpAny_unbindName_local hk hn em hcls (fun h' u hn' hs => ?_)
  obtain ⟨oL, _, _, hoL, _⟩ := id hn
  refine h _ ⟨I.ok, I.os, I.bare, ⟨fun b o e n hb hx => ?_, fun b o e n hb hx => ?_, I.base.free, fun b o e hx => ?_, I.base.tups, I.base.frzs, I.base.tbls⟩, ⟨_, hn', fun j y v' e1 e2 e3 => ?_⟩, fun y c e => ?_, I.free, I.freeC, fun p hp => ?_, tracked ⟨oL, hoL, I.free⟩ hs, by simpa using I.len⟩
  · exact (hs.2 b (Nat.ne_of_lt (Nat.lt_of_lt_of_le (Heap.lt_size e) I.ok.above))).trans (I.base.keep b o e n hb hx)
  · obtain ⟨sl, e1⟩ := I.base.slot b o e n hb hx
    exact ⟨sl, (hs.2 b (Nat.ne_of_lt (Nat.lt_of_lt_of_le (Heap.lt_size e) I.ok.above))).trans e1⟩
  · obtain ⟨o', e1⟩ := I.base.there b o e hx
    exact ⟨o', (hs.2 b (Nat.ne_of_lt (Nat.lt_of_lt_of_le (Heap.lt_size e) I.ok.above))).trans e1⟩
  · by_cases hj : j = i
    · subst hj
      rw [List.getElem?_set_self hiσ] at e2
      cases e2
    · rw [List.getElem?_set_ne (Ne.symm hj)] at e2
      obtain ⟨u', r', q⟩ := hl j y v' e1 e2 e3
      refine ⟨u', r', ?_⟩
      rcases q with ⟨k, e⟩ | ⟨k, c, e, z⟩
      · refine .inl ⟨k, ?_⟩
        have : y ≠ x := fun e => hj (nodup_ix hN e1 (e ▸ hi))
        simp [this, e]
      · exact .inr ⟨k, c, e, z.sameBut hs (cne y c e)⟩
  · obtain ⟨w', z⟩ := I.cell y c e
    exact ⟨w', z.sameBut hs (cne y c e)⟩
  · obtain ⟨e, n, ne, nf, d⟩ := I.pin p hp
    exact ⟨(hs.2 p.1 ne).trans e, n, ne, nf, d⟩
/-- within an except suite: the exception at a stands as oe; no exception leaves -/
def Cx.hand (X : Cx) (a : Addr) (oe : Obj) : Cx := { X with A := X.A.mark (some (.ref a)), calm := false, pn := (a, oe) :: X.pn, xe := fun _ _ => False }
theorem Cx.Ok.hand (ok : X.Ok) (a : Addr) (oe : Obj) : (X.hand a oe).Ok :=
  ⟨ok.mod, ok.kind, ok.glob, ok.blt, ok.above, ok.inj, ok.has, ok.cab, (fun z => by cases z), ok.frames, ok.stk, ok.exf, ok.bs, ok.bsz, ok.noex, ok.exfs, ok.funs, ok.frf⟩
theorem Inv.hand (I : Inv X pins σ H s) {a : Addr} {oe : Obj} (e : s.heap.get? a = some oe) (n : H a = none) (nl : a ≠ X.env.locals) (nf : a ∉ X.fs) (d : ∀ v, oe.data ≠ .cell v) : Inv (X.hand a oe) pins σ H s :=
  ⟨I.ok.hand a oe, I.os, I.bare, I.base, I.loc, I.cell, I.free, I.freeC, fun p hp => by
    rcases List.mem_cons.mp (show p ∈ (a, oe) :: (X.pn ++ pins) from hp) with rfl | hp
    · exact ⟨e, n, nl, nf, d⟩
    · exact I.pin p hp, I.hok, I.len⟩
theorem Inv.unhand {a : Addr} {oe : Obj} (ok : X.Ok) (I : Inv (X.hand a oe) pins σ H s) : Inv X pins σ H s :=
  ⟨ok, I.os, I.bare, I.base, I.loc, I.cell, I.free, I.freeC, fun p hp => I.pin p (show p ∈ (a, oe) :: (X.pn ++ pins) from List.mem_cons_of_mem _ hp), I.hok, I.len⟩
/-- f(..), f may raise: what is wanted of the exception may speak of the state at the call -/
def tCallS (sp : Sp) (E : XK) (σ0 : St) (t : TA) : TE := fun σ H Q => σ = σ0 ∧ t σ H fun vs H1 => sp vs H1 Q E
theorem pe_callS {CX : CXT} {k : Nat} {f : Addr} {fd : FuncData} {ps : List Str} {sp : Sp} {x : Str} {E : XK} {e : Expr} {es : List Expr} {t : TA} {p pos : Pos} {σ0 : St} (F : FnOk X.prog X.w X.K X.mg X.base CX k f fd ps sp) (hr : Room k X.A) (hg : Gl X x) (hm : X.mg x = some (.ref f)) (hk : PySem.W.keepIn X.K (.ref f) = true) (hb : Binds X.K fd ps [])
    (hx : ∀ pins H s e s', Inv X pins σ0 H s → CX X.stack H s E e s' → X.xe e s')
    (ha : PA X (e :: es) t) (hdb : (x == ("__debug__" : Str)) = false) (he : starEach (e :: es) X.env = (false, eval e X.env) :: starEach es X.env) (hpl : (backTo pos (starEach es X.env)).any (·.1) = false) :
    PE X (.Call (.Name x p) (e :: es) [] pos) (tCallS sp E σ0 t) := by
  intro pins s σ H Q I h
  obtain ⟨rfl, h⟩ := h
  refine wpAny_Call_Name_kw (ld_glob I hg hm ?_ hdb)
  refine PySem.W.callWith_K (h₀ := X.base) I.ok.mod.kin hk (thn (ha pos pins s σ H _ I h) fun us s1 ⟨vs, H1, I1, r, q⟩ => ⟨I1.kIn, ?_⟩) he hpl
  have hl : us.length = ps.length := by rw [← r.length]; exact F.len _ _ _ _ q
  have hb' := hb s1 us I1.kIn (by rw [List.append_nil]; exact hl)
  rw [List.append_nil] at hb'
  refine wpAny_call (codeAny_mono (F.run X.A X.stack s1 H1 ⟨us, []⟩ us vs Q E hr I1.env0 hb' r q) fun r s' hq => ?_)
  cases r with
  | error e => exact hx pins H1 s1 e s' I1 hq
  | ok fl =>
    cases fl with
    | ret u => exact I1.after hq
    | next => exact False.elim hq
    | brk => exact False.elim hq
    | cont => exact False.elim hq
/-- an exception without a context -/
def NoCtx (oe : Obj) : Prop := ∃ ws : Array Value, oe.data = .fields ws ∧ ws[2]? = some .none
/-- what is wanted behind the suite: the exception's name is gone -/
def Ends.behind (D : Ends) (i : Nat) : Ends := { nx := fun σ H => D.nx (σ.set i none) H, rt := D.rt, bk := fun σ H => D.bk (σ.set i none) H, ct := fun σ H => D.ct (σ.set i none) H }
theorem caught {H0 : Hp} {s0 s' : Shared} {E : XK} {e : Value} {D : Ends} {i : Nat} {n kx : Str} {CK : Addr} {b₀ : Stmt} {suite : List Stmt} {np hpos : Pos} {th : Addr → Obj → TS} {EE : Value → Shared → Prop}
    (I0 : Inv X pins σ H0 s0) (hst : X.stack = X.env :: X.outer) (hfr : X.env.frame = some X.env.locals) (hN : X.N.Nodup) (hi : X.N[i]? = some n) (hn : X.env.scope.names.lookup n = some .local)
    (hgk : Gl X kx) (hmk : X.mg kx = some (.ref CK)) (hdb : (kx == ("__debug__" : Str)) = false)
    (hE : ∀ C o H2, E C o H2 → PySem.W.exmOne X.K C (.ref CK) = some true ∧ ∀ (a : Addr) (oe : Obj), oe.cls = C → NoCtx oe → H2 a = none → th a oe (D.behind i) (σ.set i (some (.ref a))) H2)
    (hs : ∀ a oe, PSs (X.hand a oe) (b₀ :: suite) (th a oe))
    (hq : CXR X.prog X.w X.stack H0 s0 E e s') :
    wpAny (model X.prog X.w) X.A (noteFrame e X.env) (fun _ s₂ => wpAny (model X.prog X.w) X.A (setFlight e none) (fun _ s₃ => wpAny (model X.prog X.w) X.A (handleBy e X.env [.ExceptHandler (some (.Name kx np)) (some n) (b₀ :: suite) hpos]) (SP X pins D) EE s₃) EE s₂) EE s' := by
  obtain ⟨a, C, t, B, H', rfl, hos, hgo, hfl, ha, hq, after⟩ := hq
  obtain ⟨hm, hth⟩ := hE _ _ _ hq
  have hfl' := hfl
  rw [hst] at hfl'
  refine note_next (by rw [I0.ok.frames, hst]) hfr hfl' fun h₄ hheld₄ hsm₄ => ?_
  refine flight_off hheld₄ fun h₅ hfl5 hsm₅ => ?_
  have sm5 := hsm₄.trans hsm₅
  have I5 : Inv X pins σ H' { s' with heap := h₅ } := I0.call' hos (after h₅ hfl5.stay sm5).1 (after h₅ hfl5.stay sm5).2 hgo (fun b hb => by cases hb)
  obtain ⟨oe, hoe, hcl⟩ : ∃ o, h₅.get? a = some o ∧ o.cls = C := by
    obtain ⟨ob, ws, tb, ot, us, x1, x2, x3, x4⟩ := hfl5.rec'
    exact ⟨ob, x1, x3⟩
  have I5h : ∀ {h : Heap} {tk}, Fl B (X.env :: X.outer) a C (.ref t) .none h → s'.heap.UpToSlots h → ∃ oe, oe.cls = C ∧ NoCtx oe ∧ Inv (X.hand a oe) pins σ H' { s' with heap := h, toks := tk } := fun {h tk} hf sm => by
    obtain ⟨oe, ws, tb, ot, us, e1, e3, e2, e4, e5', _⟩ := hf.rec'
    have I6 : Inv X pins σ H' { s' with heap := h, toks := tk } := I0.call' hos (after h hf.stay sm).1 (after h hf.stay sm).2 hgo (fun b hb => by cases hb)
    have nf : ∀ b ∈ frs (X.env :: X.outer), a ≠ b := fun b hb z => by
      obtain ⟨_, o, e5, e6⟩ := hf.frm.mem hb
      rw [← z] at e5
      have q : h.get? a = some oe := e1
      rw [q] at e5
      cases e5
      exact e6 ws e3
    refine ⟨oe, e2, ⟨ws, e3, e5'⟩, I6.hand e1 ha ?_ ?_ (fun v z => by rw [e3] at z; cases z)⟩
    · exact nf _ (List.mem_filterMap.mpr ⟨X.env, List.mem_cons_self, hfr⟩)
    · intro z
      obtain ⟨env, h1, h2⟩ := List.mem_filterMap.mp z
      exact nf a (List.mem_filterMap.mpr ⟨env, List.mem_cons_of_mem _ h1, h2⟩) rfl
  obtain ⟨oe5, ec5, _, Ih5⟩ := I5h (tk := s'.toks) hfl5 sm5
  refine wpAny_handleBy_cons (codeAny_handlers_test (ld_glob Ih5 hgk hmk ?_ hdb)) (by intro q; cases q)
  have LT : PySem.W.Looks (model X.prog X.w) h₅ (typeOf (.ref a)) C := by
    rw [← hcl]
    exact (PySem.W.Looks.ld hoe).andThen .now
  refine (PySem.W.exm_one (K := X.K) I5.kIn LT hm).here ?_
  refine codeAny_handlers_suite_as ?_
  refine flight_off hfl5 fun h₆ hfl6 hsm6 => ?_
  obtain ⟨oe6, ec6, nc6, I6⟩ := I5h (tk := s'.toks) hfl6 (sm5.trans hsm6)
  refine store_ok (X := X.hand a oe6) I6 hN hi (.inl hn) (v := .ref a) rfl (fun s7 I7 => ?_) (.inr hn)
  have r7 := hs a oe6 pins s7 _ H' (D.behind i) I7 (hth a oe6 ec6 nc6 ha)
  refine wpAny_mono r7 (fun fl s8 q8 => ?_) (fun _ _ z => False.elim z)
  have fin : ∀ {σ' : St} {H2 : Hp}, Inv (X.hand a oe6) pins σ' H2 s8 → (∀ s9, Inv X pins (σ'.set i none) H2 s9 → SP X pins D fl s9) → wpAny (model X.prog X.w) X.A (do bindName X.env n .none; unbindBehindTheSuite X.env n hpos) (fun _ s₃ => SP X pins D fl s₃) EE s8 := fun {σ' H2} J k => by
    have J := J.unhand I0.ok
    refine wpAny_bind (wpAny_bindName (store_ok J hN hi (.inl hn) (v := .non) rfl (fun s9 I9 => ?_) (.inr hn)))
    have hiσ : i < σ'.length := by rw [J.len]; exact (List.getElem?_eq_some_iff.mp hi).1
    unfold unbindBehindTheSuite
    refine wpAny_onRaise (unbind_ok I9 hN hi hn (List.getElem?_set_self hiσ) fun s10 I10 => ?_)
    rw [List.set_set] at I10
    exact k s10 I10
  show wpAny (model X.prog X.w) X.A (do bindName X.env n .none; unbindBehindTheSuite X.env n hpos) (fun _ s₃ => SP X pins D fl s₃) EE s8
  cases fl with
  | next => obtain ⟨σ', H2, J, q⟩ := q8; exact fin J fun s9 I9 => ⟨_, H2, I9, q⟩
  | brk => obtain ⟨σ', H2, J, q⟩ := q8; exact fin J fun s9 I9 => ⟨_, H2, I9, q⟩
  | cont => obtain ⟨σ', H2, J, q⟩ := q8; exact fin J fun s9 I9 => ⟨_, H2, I9, q⟩
  | ret u => obtain ⟨v, σ', H2, J, r, q⟩ := q8; exact fin J fun s9 I9 => ⟨v, _, H2, I9, r, q⟩
end
end L2

namespace L2
open PySem PySem.Spec PyProof.Rows
section
variable {X : Cx} {pins : List (Addr × Obj)} {σ : St} {H : Hp} {s : Shared}
def Cx.tried (X : Cx) (pn : List (Addr × Obj)) (xe : Value → Shared → Prop) : Cx := { X with pn := pn, xe := xe }
theorem Cx.Ok.tried (ok : X.Ok) (pn : List (Addr × Obj)) (xe : Value → Shared → Prop) : (X.tried pn xe).Ok :=
  ⟨ok.mod, ok.kind, ok.glob, ok.blt, ok.above, ok.inj, ok.has, ok.cab, ok.hd, ok.frames, ok.stk, ok.exf, ok.bs, ok.bsz, ok.noex, ok.exfs, ok.funs, ok.frf⟩
theorem Inv.tried (I : Inv X pins σ H s) (xe : Value → Shared → Prop) : Inv (X.tried (X.pn ++ pins) xe) [] σ H s :=
  ⟨I.ok.tried _ _, I.os, I.bare, I.base, I.loc, I.cell, I.free, I.freeC, fun p hp => I.pin p (by rcases List.mem_append.mp hp with z | z; exact z; cases z), I.hok, I.len⟩
theorem Inv.untried {pins' : List (Addr × Obj)} {xe : Value → Shared → Prop} (ok : X.Ok) (I : Inv (X.tried (X.pn ++ pins) xe) pins' σ H s) : Inv X pins σ H s :=
  ⟨ok, I.os, I.bare, I.base, I.loc, I.cell, I.free, I.freeC, fun p hp => I.pin p (List.mem_append_left _ hp), I.hok, I.len⟩
end
end L2

namespace L2
open PySem PySem.Spec PyProof.Rows PySem.W Builtin Builtin.ObjectAttr Builtin.Getset_descriptor
/-- an object whose class stands at D -/
def ExcAt (x D : Addr) (h : Heap) : Prop := ∃ o, h.get? x = some o ∧ o.cls = .ref D
theorem ExcAt.ty {x D : Addr} {h : Heap} {M : Model} (p : ExcAt x D h) : Looks M h (typeOf (.ref x)) (.ref D) := by
  obtain ⟨o, e, c⟩ := p
  rw [← c]
  exact (Looks.ld e).andThen .now
section
variable {K : Frag} {x D : Addr}
theorem exc_find {M : Model} {h : Heap} (X : K.In h) (ha : findIn K (.ref D) "__class__" = some (some (.builtin "object.__class__"))) (hn : specialIn K (.builtin "object.__class__") "__get__" = some (some (.builtin "getset_descriptor.__get__"))) (htk : takesIn K (.builtin "object.__class__") = some true) :
    Looks M h (find (.ref x) (.ref D) "__class__") (.bind (.builtin "getset_descriptor.__get__") (.builtin "object.__class__")) := by
  have q1 := looks_findIn (M := M) X ha
  have q2 : Looks M h (getOf (some (.builtin "object.__class__"))) (some (.builtin "getset_descriptor.__get__")) := looks_specialIn X hn
  have q3 : Looks M h (dataDescriptor? (some (.builtin "object.__class__")) (some (.builtin "getset_descriptor.__get__"))) (some (.builtin "getset_descriptor.__get__", .builtin "object.__class__")) := (looks_takesIn (M := M) X htk).andThen .now
  exact q1.andThen (q2.andThen (q3.andThen (Looks.tag .now)))
theorem exc_get {prog : Program} {w : World} {A : Around} {R : Result → Shared → Prop} {s : Shared} {tp : Value} (X : K.In s.heap) (p : ExcAt x D s.heap) (hm : mroIn K D (.type "object") = some true) (h : R (.ok (.ret (.ref D))) s) :
    codeAny (model prog w) A (.call (.builtin "getset_descriptor.__get__") ⟨[.builtin "object.__class__", .ref x, tp], []⟩) R s := by
  obtain ⟨h0, g0, d0, t0, o0⟩ := s
  have q0 := p.ty (M := model prog w)
  have q1 := looks_mroIn (M := model prog w) X hm
  refine codeAny_call_builtin KF.slot_gs.plain KF.entry_gs (KF.slot_gs.check _ _ _ _ _ _ _ _ KF.type_class (KF.args_gs _ _ _) (?_ : wpAny _ _ _ _ _ _))
  unfold Builtin.«getset_descriptor.__get__» descrGet; rw [dga_obj]; refine wpAny_bind (wpAny_pure ?_)
  unfold descrGetter descrCheckInstance descrNameAndClass isInstance; simp only [KF.owner_class]; repeat lk
  refine ⟨Code.quiet_builtin _ (by decide +kernel), codeAny_builtin KF.entry_class (?_ : wpAny _ _ _ _ _ _)⟩; unfold Builtin.«object.__class__» shownTypeOf; repeat lk
  exact h
theorem ga_kind : builtinKind "BaseException.__getattribute__" = some .slot := by decide +kernel
theorem ga_split : splitId "BaseException.__getattribute__" = some ("BaseException", "__getattribute__") := by decide +kernel
theorem ga_not : (Value.builtin "BaseException.__getattribute__" == Value.builtin "object.__getattribute__") = false := by decide +kernel
theorem exc_check {M : Model} {A : Around} {E : Value → Shared → Prop} {Q : Unit → Shared → Prop} {s : Shared} {nv : Value} (X : K.In s.heap) (p : ExcAt x D s.heap) (hb : mroIn K D (.type "BaseException") = some true) (k : Q () s) : wpAny M A (checkBuiltinCall "BaseException.__getattribute__" ⟨[.ref x, nv], []⟩) Q E s := by
  obtain ⟨h0, g0, d0, t0, o0⟩ := s
  have q0 := p.ty (M := M)
  have q1 := looks_mroIn (M := M) X hb
  have ha := F.args_bexc_ga (.ref x) nv
  simp only [checkBuiltinCall, ga_kind, ga_split]
  refine wpAny_bind ?_
  unfold isInstance
  repeat (first | lk | wp_step)
  exact k
theorem exc_entry {prog : Program} {w : World} {A : Around} {E : Value → Shared → Prop} {Q : Fin → Shared → Prop} {s : Shared} {tk : Tok} (X : K.In s.heap) (p : ExcAt x D s.heap) (ha : findIn K (.ref D) "__class__" = some (some (.builtin "object.__class__"))) (hn : specialIn K (.builtin "object.__class__") "__get__" = some (some (.builtin "getset_descriptor.__get__")))
    (htk : takesIn K (.builtin "object.__class__") = some true) (hm : mroIn K D (.type "object") = some true) (k : Q (.done (.ret (.ref D))) s) : wpAny (model prog w) A (Builtin.«object.__getattribute__» ⟨[.ref x, .str "__class__" tk], []⟩) Q E s := by
  obtain ⟨h0, g0, d0, t0, o0⟩ := s
  have q0 := p.ty (M := model prog w)
  have q2 := exc_find (M := model prog w) (x := x) X ha hn htk
  unfold Builtin.«object.__getattribute__»
  repeat (first | lk | wp_step)
  refine wpAny_run (exc_get (s := ⟨h0, g0, d0, t0, o0⟩) X p hm ?_)
  exact wpAny_pure (wpAny_pure k)
theorem exc_class {prog : Program} {w : World} {A : Around} {E : Value → Shared → Prop} {Q : Option Value → Shared → Prop} {s : Shared} (h1 : findIn K (.ref D) "__getattribute__" = some (some (.builtin "BaseException.__getattribute__"))) (h2 : findIn K (.ref D) "__getattr__" = some none) (hb : mroIn K D (.type "BaseException") = some true) (ha : findIn K (.ref D) "__class__" = some (some (.builtin "object.__class__"))) (hn : specialIn K (.builtin "object.__class__") "__get__" = some (some (.builtin "getset_descriptor.__get__")))
    (htk : takesIn K (.builtin "object.__class__") = some true) (hm : mroIn K D (.type "object") = some true) (X : K.In s.heap) (p : ExcAt x D s.heap) (h : Q (some (.ref D)) { s with toks := s.toks + 1 }) : wpAny (model prog w) A (getAttr? (.ref x) "__class__") Q E s := by
  obtain ⟨h0, g0, d0, t0, o0⟩ := s
  have q0 := p.ty (M := model prog w)
  have q1 := looks_findIn (M := model prog w) X h1
  have q3 := looks_findIn (M := model prog w) X h2
  unfold getAttr?; unfold getAttrBy?; unfold getAttrBy
  refine wpAny_bind (wpAny_mkText (wpAny_bind (wpAny_attempt (wpAny_holding (wpAny_bind (q0.at (wpAny_bind (q1.at ?_))))))))
  dsimp only
  rw [if_neg (show ¬ ((onTheHeap (Value.ref D) && Value.builtin "BaseException.__getattribute__" == Value.builtin "object.__getattribute__") = true) by rw [ga_not, Bool.and_false]; exact Bool.false_ne_true)]
  unfold getAttrByItsOwn hookBefore
  refine wpAny_bind ?_
  rw [if_pos (show onTheHeap (Value.ref D) = true from rfl)]
  refine q3.at ?_
  refine wpAny_bind (wpAny_attempt (wpAny_holding ?_))
  show wpAny _ _ (boundAndCalled (.builtin "BaseException.__getattribute__") (.ref x) _) _ _ _
  unfold boundAndCalled
  rw [F.attr_ValueError.ga.bind (.ref x)]
  refine wpAny_bind (wpAny_pure ?_)
  refine wpAny_call (codeAny_call_builtin F.attr_ValueError.ga.plain F.entry_bexc_ga (exc_check (s := ⟨h0, g0, d0, t0 + 1, o0⟩) X p hb (exc_entry (s := ⟨h0, g0, d0, t0 + 1, o0⟩) X p ha hn htk hm ?_)))
  show wpAny _ _ (handedOut (Value.ref D)) _ _ _
  exact handed_on rfl (wpAny_pure h)
theorem kitx_exc {oD : Obj} (h1 : findIn K (.ref D) "__getattribute__" = some (some (.builtin "BaseException.__getattribute__"))) (h2 : findIn K (.ref D) "__getattr__" = some none) (hb : mroIn K D (.type "BaseException") = some true) (ha : findIn K (.ref D) "__class__" = some (some (.builtin "object.__class__"))) (hn : specialIn K (.builtin "object.__class__") "__get__" = some (some (.builtin "getset_descriptor.__get__")))
    (htk : takesIn K (.builtin "object.__class__") = some true) (hm : mroIn K D (.type "object") = some true) (hl : K.lookup D = some oD) (hc : oD.cls = .type "type") (hi : kitCls K (.ref D) (.ref D) = some true) : KitX K (.ref x) (.ref D) (ExcAt x D) :=
  ⟨fun _ _ _ p => p.ty, fun M h X _ => (kit_cls (M := M) X hi).2.1, fun h tp dd its n sl X e => by
    rcases Nat.decEq D tp with z | z
    · exact Bool.eq_false_iff.mpr fun q => z (Value.ref.inj (beq_iff_eq.mp q))
    · subst z
      have := (X _ _ hl).symm.trans e
      cases this
      exact absurd (Value.type.inj hc) (by decide), fun X p k => exc_class h1 h2 hb ha hn htk hm X p k⟩
/-- what is to be known of an own exception class at D -/
structure ExcCls (K : Frag) (D : Addr) : Prop where
  ga : findIn K (.ref D) "__getattribute__" = some (some (.builtin "BaseException.__getattribute__"))
  gh : findIn K (.ref D) "__getattr__" = some none
  mb : mroIn K D (.type "BaseException") = some true
  at_ : findIn K (.ref D) "__class__" = some (some (.builtin "object.__class__"))
  spc : specialIn K (.builtin "object.__class__") "__get__" = some (some (.builtin "getset_descriptor.__get__"))
  tak : takesIn K (.builtin "object.__class__") = some true
  mro : mroIn K D (.type "object") = some true
  lk : ∃ oD, K.lookup D = some oD ∧ oD.cls = .type "type"
  slf : kitCls K (.ref D) (.ref D) = some true
def clsV : V → Value
  | .ref C => .ref C
  | .ty n => .type n
  | _ => .none
/-- isinstance(e, C) within an except suite, e the exception -/
theorem call_isE {X : Cx} : CallR X (.builtin "isinstance") (fun xs H Q => ∃ (a D : Addr) (oe : Obj) (c : V) (b : Bool), xs = [.ref a, c] ∧ (a, oe) ∈ X.pn ∧ oe.cls = .ref D ∧ ExcCls X.K D ∧ kitOne X.K (.ref D) (clsV c) = some b ∧ clsV c ≠ .none ∧ Q (.bl b) H) := by
  intro pins s σ H xs us Q I r h
  obtain ⟨a, D, oe, c, b, rfl, hp, hc, ⟨y1, y2, y3, z2, z3, z4, z5, ⟨oD, z6, z7⟩, z8⟩, e, nn, q⟩ := h
  cases r with
  | cons r1 r2 =>
    cases r2 with
    | cons r2 r3 =>
      cases r3
      cases r1
      have hh := (I.pin (a, oe) (List.mem_append_left _ hp)).1
      have go : ∀ v, v = clsV c → wpAny (model X.prog X.w) X.A (call (.builtin "isinstance") [.ref a, v]) (EP X pins σ Q) X.xe s := fun v ev => by
        subst ev
        exact kia_one (kitx_exc y1 y2 y3 z2 z3 z4 z5 z6 z7 z8) I.kIn ⟨oe, hh, hc⟩ e (fun z => nomatch z) fun tk => ⟨.bl b, H, I.tok _, rfl, q⟩
      cases c with
      | ref C => cases r2; exact go _ rfl
      | ty n => cases r2; exact go _ rfl
      | _ => exact absurd rfl nn
end
end L2

namespace L2
open PySem PySem.Spec PyProof.Rows
/-! refusing defs -/
section
variable {P : Program} {w : World} {K : PySem.W.Frag} {mg : Str → Option Value} {base : Heap}
theorem Fun.okR {x qual : Str} {st : Stmt} {f : Addr} {fd : FuncData} {N ps : List Str} {k : Nat} {sp : Sp} (F : Fun K x qual st f fd) (S : FnScope N ps (defScope st)) (len : ∀ vs H Q E, sp vs H Q E → vs.length = ps.length)
    (hbody : ∀ (cdv : Value) (A : Around) (outer : List Env) (s : Shared) (H : Hp) (vs : List V) (Q : VK) (E : XK), Room k (A.deeper (envOfC qual (defScope st) s.heap.objs.size f cdv)) → sp vs H Q E →
      ∃ t, PSs (cxOf (CXR P w) P w K mg base N qual (defScope st) f cdv A outer s H E) (defBody st) t ∧ t { nx := fun _ H' => Q .non H', rt := Q } (start N vs) H) : FnOk P w K mg base (CXR P w) (k + 1) f fd ps sp := by
  obtain ⟨oc, od, kV, doc, pm, an, cdv, ct, osl, rfl, lk, hcd⟩ := F.ex
  exact fn_of lk hcd S len fun A outer s H vs Q E hr hsp => hbody cdv A outer s H vs Q E hr hsp
theorem FunT.okR {x qual : Str} {st : Stmt} {f T : Addr} {fd : FuncData} {N ps : List Str} {k : Nat} {sp : Sp} (F : FunT K x qual st f fd T) (S : FnScope N ps (defScope st)) (len : ∀ vs H Q E, sp vs H Q E → vs.length = ps.length)
    (hbody : ∀ (cdv : Value) (A : Around) (outer : List Env) (s : Shared) (H : Hp) (vs : List V) (Q : VK) (E : XK), CodeAt K cdv T → Room k (A.deeper (envOfC qual (defScope st) s.heap.objs.size f cdv)) → sp vs H Q E →
      ∃ t, PSs (cxOf (CXR P w) P w K mg base N qual (defScope st) f cdv A outer s H E) (defBody st) t ∧ t { nx := fun _ H' => Q .non H', rt := Q } (start N vs) H) : FnOk P w K mg base (CXR P w) (k + 1) f fd ps sp := by
  obtain ⟨oc, od, kV, doc, pm, an, cdv, ct, osl, rfl, lk, hcd, cd⟩ := F.ex
  exact fn_of lk hcd S len fun A outer s H vs Q E hr hsp => hbody cdv A outer s H vs Q E cd hr hsp
/-- a callee's exception goes on through this def's frame -/
theorem passR {N : List Str} {qual : Str} {scope : Scope} {f : Addr} {cd : Value} {A : Around} {outer : List Env} {s : Shared} {H : Hp} {E : XK} :
    Passes (CXR P w) (cxOf (CXR P w) P w K mg base N qual scope f cd A outer s H E) E := by
  intro pins σ H1 s1 e s' I h
  obtain ⟨a, C, t, B, H', rfl, hos, hgo, hfl, ha, hq, after⟩ := h
  refine leave_next (outer := outer) I.ok.frames rfl hfl fun h' hfl' sm => ?_
  refine ⟨a, C, t, B, H', rfl, hos.trans I.os, I.bare.trans hgo, hfl', ha, hq, fun h5 k5 u5 => ?_⟩
  have af := after h5 k5 (sm.trans u5)
  have J : Inv _ pins σ H' { s' with heap := h5 } := I.call' (s' := { s' with heap := h5 }) hos af.1 af.2 hgo (fun b hb => by cases hb)
  exact ⟨J.base, J.hok⟩
/-- an own class, as it lies in K -/
theorem own_at {x : Str} {C : Addr} {bmB : List Value} {newId : String} (X : K.In base) (hm : mg x = some (.ref C)) (q : PySem.W.excIn K C bmB newId = true) : OwnCls x C bmB newId mg base := by
  refine ⟨hm, ?_⟩
  unfold PySem.W.excIn at q
  split at q
  rotate_left
  · cases q
  rename_i dd cd sl ho
  split at q
  rotate_left
  · cases q
  rename_i C1 bm k0 k1 k2 k3 n k5 hm1 hs1
  simp only [Bool.and_eq_true, beq_iff_eq, Bool.not_eq_true'] at q; obtain ⟨⟨⟨⟨⟨z1, z2⟩, z3⟩, z4⟩, z5⟩, z6⟩ := q
  subst z1 z2
  obtain ⟨nm, bs, mro, ns, qn, hd, sn, sub, ab, col, del⟩ := cd
  dsimp only at hm1 z3 z5 z6; subst hm1 z3
  obtain ⟨sll⟩ := sl
  have e : sll = [k0, k1, k2, k3, some (.builtin n), k5] := hs1
  subst e
  exact ⟨bm, ns, nm, qn, bs, hd, sn, sub, ab, col, dd, k0, k1, k2, k3, k5, _, X _ _ ho, .of_isNs (PySem.W.isNs_of_in X z5), PySem.W.nsMap_none_of_in X z5 z6, PySem.W.tail_of_in X z4⟩
end
/-! try, any body -/
section
variable {X : Cx} {pins : List (Addr × Obj)} {σ : St} {H : Hp} {s : Shared}
/-- what is wanted of an exception in a try's body -/
def HX (X : Cx) (CK : Addr) (i : Nat) (th : Addr → Obj → TS) (D : Ends) (σ : St) : XK := fun C _ H2 => PySem.W.exmOne X.K C (.ref CK) = some true ∧ ∀ (a : Addr) (oe : Obj), oe.cls = C → NoCtx oe → H2 a = none → th a oe (D.behind i) (σ.set i (some (.ref a))) H2
abbrev XW (X : Cx) (kx : Str) (np : Pos) (n : Str) (suite : List Stmt) (hpos : Pos) (pins : List (Addr × Obj)) (D : Ends) : Value → Shared → Prop := fun e s1 => wpAny (model X.prog X.w) X.A (noteFrame e X.env) (fun _ s₂ => wpAny (model X.prog X.w) X.A (setFlight e none) (fun _ s₃ => wpAny (model X.prog X.w) X.A (handleBy e X.env [.ExceptHandler (some (.Name kx np)) (some n) suite hpos]) (SP X pins D) X.xe s₃) X.xe s₂) X.xe s1
/-- what is to be known of a try's place -/
structure TryOk (X : Cx) (CK : Addr) (i : Nat) (n kx : Str) : Prop where
  stk : X.stack = X.env :: X.outer
  fr : X.env.frame = some X.env.locals
  nd : X.N.Nodup
  at_ : X.N[i]? = some n
  loc : X.env.scope.names.lookup n = some .local
  gl : Gl X kx
  glo : X.mg kx = some (.ref CK)
  db : (kx == ("__debug__" : Str)) = false
theorem pe_callT {i : Nat} {n kx fx : Str} {CK f : Addr} {b₀ : Stmt} {suite : List Stmt} {np hpos p cpos : Pos} {th : Addr → Obj → TS} {k : Nat} {fd : FuncData} {ps : List Str} {sp : Sp} {e : Expr} {es : List Expr} {ta : TA} {D : Ends} {σ0 : St}
    (ok : X.Ok) (T : TryOk X CK i n kx)
    (F : FnOk X.prog X.w X.K X.mg X.base (CXR X.prog X.w) k f fd ps sp) (hr : Room k X.A) (hg : Gl X fx) (hm : X.mg fx = some (.ref f)) (hk : PySem.W.keepIn X.K (.ref f) = true) (hb : Binds X.K fd ps [])
    (hs : ∀ a oe, PSs (X.hand a oe) (b₀ :: suite) (th a oe))
    (ha : PA (X.tried (X.pn ++ pins) (XW X kx np n (b₀ :: suite) hpos pins D)) (e :: es) ta)
    (hdf : (fx == ("__debug__" : Str)) = false := by decide) (he : starEach (e :: es) X.env = (false, eval e X.env) :: starEach es X.env := by rfl) (hpl : (backTo cpos (starEach es X.env)).any (·.1) = false := by rfl) :
    PE (X.tried (X.pn ++ pins) (XW X kx np n (b₀ :: suite) hpos pins D)) (.Call (.Name fx p) (e :: es) [] cpos) (tCallS sp (HX X CK i th D σ0) σ0 ta) :=
  pe_callS (p := p) (σ0 := σ0) F hr hg hm hk hb (fun pins' H0 s0 e s' I0 hq => caught (I0.untried ok) T.stk T.fr T.nd T.at_ T.loc T.gl T.glo T.db (fun C o H2 z => z) hs hq) ha hdf he hpl
theorem ps_try {CK : Addr} {i : Nat} {n kx : Str} {suite body : List Stmt} {np hpos pos : Pos} {th : Addr → Obj → TS} {tb : Ends → St → TS} (T : TryOk X CK i n kx) (hs : ∀ a oe, PSs (X.hand a oe) suite (th a oe))
    (hb : X.Ok → TryOk X CK i n kx → (∀ a oe, PSs (X.hand a oe) suite (th a oe)) → ∀ (pins : List (Addr × Obj)) (D : Ends) (σ : St), PSs (X.tried (X.pn ++ pins) (XW X kx np n suite hpos pins D)) body (tb D σ)) :
    PS X (.Try body [.ExceptHandler (some (.Name kx np)) (some n) suite hpos] [] [] pos) (fun D σ H => tb D σ D σ H) := by
  intro pins s σ H D I h
  refine wpAny_Try_except ?_
  refine wpAny_mono (hb I.ok T hs pins D σ [] s σ H D (I.tried _) h) (fun fl s1 q => ?_) (fun e s1 q => q)
  cases fl with
  | next =>
    obtain ⟨σ', H', J, q⟩ := q
    exact wpAny_execs_nil ⟨σ', H', J.untried I.ok, q⟩
  | brk => obtain ⟨σ', H', J, q⟩ := q; exact ⟨σ', H', J.untried I.ok, q⟩
  | cont => obtain ⟨σ', H', J, q⟩ := q; exact ⟨σ', H', J.untried I.ok, q⟩
  | ret u =>
    obtain ⟨v, σ', H', J, r, q⟩ := q
    exact ⟨v, σ', H', J.untried I.ok, r, q⟩
end
/-! defs called within an except suite -/
structure RoomH (k : Nat) (A : Around) : Prop where
  dp : A.depth + 3 * k + 5 < recursionLimit
  un : A.units + 16 * k + 200 < cLine
theorem RoomH.of {k : Nat} {A : Around} (r : Room k A) : RoomH k A := ⟨r.dp, r.un⟩
theorem RoomH.mark {k : Nat} {A : Around} {h : Option Value} (r : RoomH k A) : RoomH k (A.mark h) := ⟨r.dp, r.un⟩
theorem RoomH.mono {j k : Nat} {A : Around} (r : RoomH k A) (h : j ≤ k) : RoomH j A := ⟨by have := r.dp; omega, by have := r.un; omega⟩
/-- the context of a def's body that runs within an except suite: the exception at a stands as oe -/
def cxH (P : Program) (w : World) (K : PySem.W.Frag) (mg : Str → Option Value) (base : Heap) (N : List Str) (qual : Str) (scope : Scope) (f : Addr) (cd : Value) (A : Around) (outer : List Env) (s : Shared) (H : Hp) (a : Addr) (oe : Obj) : Cx :=
  { cxOf CX0 P w K mg base N qual scope f cd A outer s H E0 with calm := false, pn := [(a, oe)], xe := fun _ _ => False }
structure FnOkH (P : Program) (w : World) (K : PySem.W.Frag) (mg : Str → Option Value) (base : Heap) (k : Nat) (f : Addr) (fd : FuncData) (ps : List Str) (sp : Addr → Obj → Sp) : Prop where
  len : ∀ a oe vs H Q E, sp a oe vs H Q E → vs.length = ps.length
  run : ∀ (a : Addr) (oe : Obj) (A : Around) (outer : List Env) (s : Shared) (H : Hp) (args : Args) (us : List Value) (vs : List V) (Q : VK), RoomH k A → Env0 P w K mg base A outer s H → BindsTo s fd args (ps.zip us) → Vals vs us →
    s.heap.get? a = some oe → H a = none → a ∉ frs outer → (∀ v, oe.data ≠ .cell v) → sp a oe vs H Q E0 → codeAny (model P w) A (.call (.ref f) args) (CR CX0 outer P w H s Q E0) s
theorem FnOkH.mono {P : Program} {w : World} {K : PySem.W.Frag} {mg : Str → Option Value} {base : Heap} {j k : Nat} {f : Addr} {fd : FuncData} {ps : List Str} {sp : Addr → Obj → Sp} (F : FnOkH P w K mg base j f fd ps sp) (h : j ≤ k) :
    FnOkH P w K mg base k f fd ps sp := ⟨F.len, fun a oe A outer s H args us vs Q hr => F.run a oe A outer s H args us vs Q (hr.mono h)⟩
theorem Fun.okH {P : Program} {w : World} {K : PySem.W.Frag} {mg : Str → Option Value} {base : Heap} {x qual : Str} {st : Stmt} {f : Addr} {fd : FuncData} {N ps : List Str} {k : Nat} {sp : Addr → Obj → Sp} (F : Fun K x qual st f fd) (S : FnScope N ps (defScope st)) (len : ∀ a oe vs H Q E, sp a oe vs H Q E → vs.length = ps.length)
    (hbody : ∀ (a : Addr) (oe : Obj) (cdv : Value) (A : Around) (outer : List Env) (s : Shared) (H : Hp) (vs : List V) (Q : VK), RoomH k (A.deeper (envOfC qual (defScope st) s.heap.objs.size f cdv)) → sp a oe vs H Q E0 →
      ∃ t, PSs (cxH P w K mg base N qual (defScope st) f cdv A outer s H a oe) (defBody st) t ∧ t { nx := fun _ H' => Q .non H', rt := Q } (start N vs) H) : FnOkH P w K mg base (k + 1) f fd ps sp := by
  obtain ⟨oc, od, kV, doc, pm, an, cdv, ct, osl, rfl, lk, hcd⟩ := F.ex
  refine ⟨len, fun a oe A outer s H args us vs Q hr e0 hb r hoe hna hnf hnc hsp => ?_⟩
  have hl := len _ _ _ _ _ _ hsp
  have KX : K.In s.heap := e0.mod.kin.keeps fun b o e => (e0.bs b o e).1
  have lim : s.heap.NoLimit := e0.mod.nolimit.keeps fun b o e => (e0.bs b o e).1
  have hkind : ∀ y ∈ ps.zip us, (defScope st).names.lookup y.1 = some .local ∨ ((defScope st).names.lookup y.1 = some .cell ∧ ((cellsFrom (s.heap.objs.size + 1) (defScope st).names []).lookup y.1).isSome = true) := fun ⟨n, v⟩ hy =>
    (S.par n (List.of_mem_zip hy).1).elim .inl fun q => .inr ⟨q, PySem.W.cellsFrom_some _ _ _ (.inl q)⟩
  refine codeAny_call_function (show A.depth < recursionLimit by have := hr.dp; omega) (KX _ _ lk) rfl S.co S.gen rfl (PySem.W.codeRec_of KX hcd) (hb _ _ _ _ ?_)
  refine wpAny_newFunctionEnv_cells S.kind hkind fun env he s1 x => ?_
  subst he
  refine ⟨lim.keeps x.toInCall.keep, codeAny_func ?_⟩
  have hr' : RoomH k (A.deeper (envOfC qual (defScope st) s.heap.objs.size f cdv)) := ⟨by have := hr.dp; show A.depth + 1 + 3 * k + 5 < _; omega, by have := hr.un; show A.units + 3 + 16 * k + 200 < _; omega⟩
  obtain ⟨t, ht, hq⟩ := hbody a oe cdv A outer s H vs Q hr' hsp
  have e1 : Env0 P w K mg base { A with handled := none } outer s H := ⟨e0.frames, e0.mod, e0.bs, e0.bsz, e0.funs, e0.frf, e0.hok, e0.bare⟩
  have I0 : Inv (cxOf CX0 P w K mg base N qual (defScope st) f cdv { A with handled := none } outer s H E0) [] (start N vs) H s1 := inv_start S rfl e1 hl r x
  have ok := I0.ok
  have I : Inv (cxH P w K mg base N qual (defScope st) f cdv A outer s H a oe) [] (start N vs) H s1 := by
    refine ⟨⟨ok.mod, ok.kind, ok.glob, ok.blt, ok.above, ok.inj, ok.has, ok.cab, (fun z => by cases z), ok.frames, ok.stk, ok.exf, ok.bs, ok.bsz, ok.noex, ok.exfs, ok.funs, ok.frf⟩, I0.os, I0.bare, I0.base, I0.loc, I0.cell, I0.free, I0.freeC, fun p hp => ?_, I0.hok, I0.len⟩
    have e : p = (a, oe) := List.mem_singleton.mp (show p ∈ [(a, oe)] from hp)
    subst e
    refine ⟨I0.base.keep a oe hoe hna hnf (fun z => by cases z), hna, fun z => ?_, hnf, hnc⟩
    have lt := Heap.lt_size hoe
    have z' : a = s.heap.objs.size := z
    rw [z'] at lt
    exact Nat.lt_irrefl _ lt
  refine wpAny_mono (ht [] s1 (start N vs) H _ I hq) (fun fl s' hs => ?_) fun e s' hs => hs.elim
  have fin : ∀ {σ' : St} {H' : Hp} {v : V} {u : Value}, Inv (cxH P w K mg base N qual (defScope st) f cdv A outer s H a oe) [] σ' H' s' → RelV v u → Q v H' → CE outer P w H s Q u s' :=
    fun {σ' H' v u} J rv q => ⟨v, H', J.os, J.bare, J.base, J.hok, rv, q⟩
  cases fl with
  | ret u => obtain ⟨v, σ', H', J, rv, q⟩ := hs; exact fin J rv q
  | next => obtain ⟨σ', H', J, q⟩ := hs; exact fin (v := V.non) (u := Value.none) J rfl q
  | brk => obtain ⟨_, _, _, q⟩ := hs; exact q.elim
  | cont => obtain ⟨_, _, _, q⟩ := hs; exact q.elim
/-- f(..) within the suite -/
theorem pe_callH {X : Cx} {k : Nat} {f : Addr} {fd : FuncData} {ps : List Str} {sp : Addr → Obj → Sp} {x : Str} {a : Addr} {oe : Obj} {e : Expr} {es : List Expr} {t : TA} {p pos : Pos} (F : FnOkH X.prog X.w X.K X.mg X.base k f fd ps sp) (hr : RoomH k X.A) (hg : Gl X x) (hm : X.mg x = some (.ref f)) (hk : PySem.W.keepIn X.K (.ref f) = true) (hb : Binds X.K fd ps [])
    (hp : (a, oe) ∈ X.pn) (ha : PA X (e :: es) t) (hdb : (x == ("__debug__" : Str)) = false := by decide) (he : starEach (e :: es) X.env = (false, eval e X.env) :: starEach es X.env := by rfl) (hpl : (backTo pos (starEach es X.env)).any (·.1) = false := by rfl) :
    PE X (.Call (.Name x p) (e :: es) [] pos) (tCall (sp a oe) [] E0 t) := by
  intro pins s σ H Q I h
  refine wpAny_Call_Name_kw (ld_glob I hg hm ?_ hdb)
  refine PySem.W.callWith_K (h₀ := X.base) I.ok.mod.kin hk (thn (ha pos pins s σ H _ I h) fun us s1 ⟨vs, H1, I1, r, q⟩ => ⟨I1.kIn, ?_⟩) he hpl
  have q : sp a oe (vs ++ []) H1 Q E0 := q
  rw [List.append_nil] at q
  have hl : us.length = ps.length := by rw [← r.length]; exact F.len _ _ _ _ _ _ q
  have hb' := hb s1 us I1.kIn (by rw [List.append_nil]; exact hl)
  rw [List.append_nil] at hb'
  obtain ⟨q1, q2, q3, q4, q5⟩ := I1.pin (a, oe) (List.mem_append_left _ hp)
  have nst : a ∉ frs X.stack := fun z => by
    rcases List.mem_cons.mp (I1.stkSub a z) with y | y
    · exact q3 y
    · exact q4 y
  refine wpAny_call (codeAny_mono (F.run a oe X.A X.stack s1 H1 ⟨us, []⟩ us vs Q hr I1.env0 hb' r q1 q2 nst q5 q) fun r s' hq => ?_)
  cases r with
  | error e => exact False.elim hq
  | ok fl =>
    cases fl with
    | ret u => exact I1.after hq
    | next => exact False.elim hq
    | brk => exact False.elim hq
    | cont => exact False.elim hq
theorem vals_refs : ∀ {cs : List Addr} {us : List Value}, Vals (cs.map V.ref) us → us = cs.map Value.ref
  | [], _, .nil => rfl
  | c :: cs, _, .cons a1 a2 => by
    cases a1
    rw [vals_refs a2]
    rfl
/-- isinstance(e, (C, ..)) within an except suite -/
theorem call_isET {X : Cx} : CallR X (.builtin "isinstance") (fun xs H Q => ∃ (a D tp : Addr) (oe : Obj) (cs : List Addr) (b : Bool), xs = [.ref a, .ref tp] ∧ (a, oe) ∈ X.pn ∧ oe.cls = .ref D ∧ ExcCls X.K D ∧ H tp = some (.tup (cs.map V.ref)) ∧ PySem.W.kitAny X.K (.ref D) (cs.map Value.ref) = some b ∧ Q (.bl b) H) := by
  intro pins s σ H xs us Q I r h
  obtain ⟨a, D, tp, oe, cs, b, rfl, hp, hc, ⟨y1, y2, y3, z2, z3, z4, z5, ⟨oD, z6, z7⟩, z8⟩, et, e, q⟩ := h
  cases r with
  | cons r1 r2 =>
    cases r2 with
    | cons r2 r3 =>
      cases r3
      cases r1
      cases r2
      have hh := (I.pin (a, oe) (List.mem_append_left _ hp)).1
      obtain ⟨_, us, ru, ob, eo, ec, n, ed⟩ := (show ObjOk X.prog X.w H s.heap tp (.tup (cs.map V.ref)) from I.hok tp _ et)
      have eu : us = cs.map Value.ref := vals_refs ru
      obtain ⟨oc, od, dt, sl⟩ := ob
      dsimp only at ec ed
      subst ec ed eu
      exact PySem.W.kia_tup (kitx_exc y1 y2 y3 z2 z3 z4 z5 z6 z7 z8) I.kIn ⟨oe, hh, hc⟩ eo e (fun z => nomatch z) fun tk => ⟨.bl b, H, I.tok _, rfl, q⟩
/-! f-strings -/
section
variable {X : Cx}
abbrev TJ := Str → St → Hp → VK → Prop
/-- the parts of an f-string, behind the text out -/
def PJ (X : Cx) (es : List Expr) (t : TJ) : Prop :=
  ∀ (out : Str) (pins : List (Addr × Obj)) (s : Shared) (σ : St) (H : Hp) (Q : VK), Inv X pins σ H s → t out σ H Q → wpAny (model X.prog X.w) X.A (joinParts out (evalEach es X.env)) (EP X pins σ Q) X.xe s
theorem pj_nil : PJ X [] (fun out _ H Q => out.length ≤ sizeLine ∧ Q (.str out) H) := fun out pins s σ H Q I h => joinParts_nil ⟨.str out, H, I.tok _, ⟨_, rfl⟩, h.2⟩ h.1
theorem pj_str {y : Str} {k : Nat} {p : Pos} {es : List Expr} {t : TJ} (hr : PJ X es t) (he : evalEach (.Constant (.str y) k p :: es) X.env = eval (.Constant (.str y) k p) X.env :: evalEach es X.env := by rfl) :
    PJ X (.Constant (.str y) k p :: es) (fun out σ H Q => (out ++ y).length ≤ sizeLine ∧ t (out ++ y) σ H Q) := by
  intro out pins s σ H Q I h
  rw [he]
  exact joinParts_cons (Calls.Constant_str ⟨h.1, hr _ pins _ σ H Q (I.tok _) h.2⟩)
theorem pj_int {e : Expr} {p : Pos} {te : TE} {es : List Expr} {t : TJ} (ha : PE X e te) (hr : PJ X es t) (he : evalEach (.FormattedValue e (-1) none p :: es) X.env = eval (.FormattedValue e (-1) none p) X.env :: evalEach es X.env := by rfl) :
    PJ X (.FormattedValue e (-1) none p :: es) (fun out σ H Q => te σ H fun v H1 => ∃ i : Int, v = .int i ∧ i.natAbs.log2 < 1920 ∧ (out ++ Str.ofString (toString i)).length ≤ sizeLine ∧ t (out ++ Str.ofString (toString i)) σ H1 Q) := by
  intro out pins s σ H Q I h
  rw [he]
  refine joinParts_cons (FormattedValue_plain (thn (ha pins s σ H _ I h) fun u s1 ⟨x, H1, I1, r1, i, e1, hl, hz, q⟩ => ?_))
  subst e1
  obtain ⟨tk, rfl⟩ := r1
  exact formatField_int_small hl ⟨hz, hr _ pins _ σ H1 Q (I1.tok _) q⟩
theorem pj_txt {e : Expr} {p : Pos} {te : TE} {es : List Expr} {t : TJ} (ha : PE X e te) (hr : PJ X es t) (he : evalEach (.FormattedValue e (-1) none p :: es) X.env = eval (.FormattedValue e (-1) none p) X.env :: evalEach es X.env := by rfl) :
    PJ X (.FormattedValue e (-1) none p :: es) (fun out σ H Q => te σ H fun v H1 => ∃ y : Str, v = .str y ∧ y.length ≤ sizeLine ∧ (out ++ y).length ≤ sizeLine ∧ t (out ++ y) σ H1 Q) := by
  intro out pins s σ H Q I h
  rw [he]
  refine joinParts_cons (FormattedValue_plain (thn (ha pins s σ H _ I h) fun u s1 ⟨x, H1, I1, r1, y, e1, hl, hz, q⟩ => ?_))
  subst e1
  obtain ⟨tk, rfl⟩ := r1
  exact formatField_str (fun t' tk => ⟨hz, hr _ pins _ σ H1 Q (I1.tok _) q⟩) hl
def tFs (t : TJ) : TE := fun σ H Q => t Str.empty σ H Q
theorem pe_fstr {v1 v2 : Expr} {rest : List Expr} {pos : Pos} {t : TJ} (h : PJ X (v1 :: v2 :: rest) t) : PE X (.JoinedStr (v1 :: v2 :: rest) pos) (tFs t) := fun pins s σ H Q I hq => JoinedStr_many (h Str.empty pins s σ H Q I hq)
end
/-! the classes of the refusals, all at once -/
def vEbm : List Value := [.type "ValueError", .type "Exception", .type "BaseException", .type "object"]
def excClsB (K : PySem.W.Frag) (D : Addr) : Bool :=
  PySem.W.findIn K (.ref D) "__getattribute__" == some (some (.builtin "BaseException.__getattribute__")) && PySem.W.findIn K (.ref D) "__getattr__" == some none && PySem.W.mroIn K D (.type "BaseException") == some true && PySem.W.findIn K (.ref D) "__class__" == some (some (.builtin "object.__class__")) && PySem.W.specialIn K (.builtin "object.__class__") "__get__" == some (some (.builtin "getset_descriptor.__get__")) &&
  PySem.W.takesIn K (.builtin "object.__class__") == some true && PySem.W.mroIn K D (.type "object") == some true && (match K.lookup D with | some oD => oD.cls == .type "type" | none => false) && PySem.W.kitCls K (.ref D) (.ref D) == some true
theorem excCls_of {K : PySem.W.Frag} {D : Addr} (h : excClsB K D = true) : ExcCls K D := by
  unfold excClsB at h
  simp only [Bool.and_eq_true, beq_iff_eq] at h
  obtain ⟨⟨⟨⟨⟨⟨⟨⟨g1, g2⟩, h1⟩, h2⟩, h3⟩, h4⟩, h5⟩, h6⟩, h7⟩ := h
  refine ⟨g1, g2, h1, h2, h3, h4, h5, ?_, h7⟩
  split at h6
  · rename_i oD e
    exact ⟨oD, e, beq_iff_eq.mp h6⟩
  · cases h6
/-- Cs: the own classes but the common one at CK -/
def excsIn (K : PySem.W.Frag) (CK : Addr) (Cs : List Addr) : Bool :=
  decide Cs.Nodup && Cs.all fun D => excClsB K D && PySem.W.exmOne K (.ref D) (.ref CK) == some true && PySem.W.kitOne K (.ref D) (.type "ValueError") == some true && PySem.W.excIn K D vEbm "ValueError.__new__" && Cs.all fun C => PySem.W.kitOne K (.ref D) (.ref C) == some (decide (D = C))
structure ExcOne (K : PySem.W.Frag) (CK : Addr) (Cs : List Addr) (D : Addr) : Prop where
  cls : ExcCls K D
  exm : PySem.W.exmOne K (.ref D) (.ref CK) = some true
  val : PySem.W.kitOne K (.ref D) (.type "ValueError") = some true
  exc : PySem.W.excIn K D vEbm "ValueError.__new__" = true
  kit : ∀ C ∈ Cs, PySem.W.kitOne K (.ref D) (.ref C) = some (decide (D = C))
structure Excs (K : PySem.W.Frag) (CK : Addr) (Cs : List Addr) : Prop where
  nd : Cs.Nodup
  one : ∀ D ∈ Cs, ExcOne K CK Cs D
theorem excs_of {K : PySem.W.Frag} {CK : Addr} {Cs : List Addr} (h : excsIn K CK Cs = true) : Excs K CK Cs := by
  unfold excsIn at h
  rw [Bool.and_eq_true, decide_eq_true_eq, List.all_eq_true] at h
  refine ⟨h.1, fun D hD => ?_⟩
  have q := h.2 D hD
  simp only [Bool.and_eq_true, beq_iff_eq, List.all_eq_true] at q
  exact ⟨excCls_of q.1.1.1.1, q.1.1.1.2, q.1.1.2, q.1.2, q.2⟩
theorem Excs.at {K : PySem.W.Frag} {CK : Addr} {Cs : List Addr} (X : Excs K CK Cs) (i : Nat) {D : Addr} (h : Cs[i]? = some D) : ExcOne K CK Cs D := X.one D (List.mem_of_getElem? h)
theorem Excs.kit {K : PySem.W.Frag} {CK : Addr} {Cs : List Addr} (X : Excs K CK Cs) (i j : Nat) {D C : Addr} (h : Cs[i]? = some D) (g : Cs[j]? = some C) : PySem.W.kitOne K (.ref D) (.ref C) = some (decide (i = j)) := by
  rw [(X.at i h).kit C (List.mem_of_getElem? g)]
  congr 1
  rw [decide_eq_decide]
  constructor
  · rintro rfl
    exact (List.getElem?_inj (List.getElem?_eq_some_iff.mp h).1 X.nd).mp (h.trans g.symm)
  · rintro rfl
    exact Option.some.inj (h.symm.trans g)
theorem kitAny_none {K : PySem.W.Frag} {t : Value} : ∀ {cs : List Addr}, (∀ C ∈ cs, PySem.W.kitOne K t (.ref C) = some false) → PySem.W.kitAny K t (cs.map Value.ref) = some false
  | [], _ => rfl
  | C :: cs, h => by
    show (match PySem.W.kitOne K t (.ref C) with | some true => some true | some false => PySem.W.kitAny K t (cs.map Value.ref) | none => none) = _
    rw [h C List.mem_cons_self]
    exact kitAny_none fun D hD => h D (List.mem_cons_of_mem _ hD)
theorem boot_ValueError : bootBuiltins "ValueError" = some (.type "ValueError") := by decide +kernel
end L2

namespace L2
open PySem PySem.Spec PyProof.Rows
/-- a heap without the bag -/
def hide (B : Addr) (H : Hp) : Hp := fun a => if a = B then none else H a
theorem hide_same (B : Addr) (H : Hp) : Same (hide B H) H := fun a o e => by
  unfold hide at e
  split at e
  · cases e
  · exact e
theorem hide_of {B a : Addr} {H : Hp} {o : HO} (n : a ≠ B) (e : H a = some o) : hide B H a = some o := by
  unfold hide
  rw [if_neg n]
  exact e
theorem SB.hide {B : Addr} {H H' : Hp} (h : SB B H H') : Same (hide B H) (hide B H') := fun a o e => by
  unfold L2.hide at e
  split at e
  · cases e
  · rename_i n
    exact hide_of n (h.1 a o n e)
theorem Same.hide {B : Addr} {H H' : Hp} (h : Same H H') : Same (hide B H) (hide B H') := fun a o e => by
  unfold L2.hide at e
  split at e
  · cases e
  · rename_i n
    exact hide_of n (h a o e)
theorem tab_hide {B t : Addr} {H : Hp} {bs : List Addr} {m : List (List Int)} (h : Tab H t bs m) (n : t ≠ B) (nb : B ∉ bs) : Tab (hide B H) t bs m :=
  ⟨hide_of n h.1, h.2.impR fun y b hb e => hide_of (fun z => nb (by rw [← z]; exact hb)) e⟩
/-- no form: another thing, or a table that is none -/
def Bad (H : Hp) (v : V) : Prop := (∃ d, DV H v d ∧ tabD d = false) ∨ ∃ t bs m, v = .ref t ∧ Tab H t bs m ∧ is33 m ∧ Bd 440 m ∧ ¬ (EvenT m ∧ aboveT m = true)
theorem Bad.same {H H' : Hp} {v : V} (h : Bad H v) (s : Same H H') : Bad H' v := by
  rcases h with ⟨d, h, e⟩ | ⟨t, bs, m, e, T, q⟩
  · exact .inl ⟨d, h.same s, e⟩
  · exact .inr ⟨t, bs, m, e, T.same s, q⟩
/-- a form -/
def FormAt (H : Hp) (v : V) (m : List (List Int)) : Prop := ∃ t bs, v = .ref t ∧ Tab H t bs m ∧ is33 m ∧ Bd 440 m ∧ EvenT m ∧ aboveT m = true
theorem FormAt.same {H H' : Hp} {v : V} {m : List (List Int)} (h : FormAt H v m) (s : Same H H') : FormAt H' v m := by
  obtain ⟨t, bs, e, T, q⟩ := h
  exact ⟨t, bs, e, T.same s, q⟩
/-- a prime of the forms of a half determinant -/
def primeD (h : Int) : PyData → Bool
  | .int p => decide (p ∈ ([3, 5, 7, 11, 13] : List Int)) && !decide (h % p = 0)
  | _ => false
theorem DVs.append {H : Hp} : ∀ {xs ys : List V} {ds es : List PyData}, DVs H xs ds → DVs H ys es → DVs H (xs ++ ys) (ds ++ es)
  | _, _, _, _, .nil, q => q
  | _, _, _, _, .cons a p, q => .cons a (DVs.append p q)
theorem dv_rows3 {H : Hp} {a0 a1 a2 : Addr} {x0 x1 x2 : Nat → Int} (h0 : RowAt H a0 x0) (h1 : RowAt H a1 x1) (h2 : RowAt H a2 x2) : DVs H [.ref a0, .ref a1, .ref a2] [.list [.int (x0 0), .int (x0 1), .int (x0 2)], .list [.int (x1 0), .int (x1 1), .int (x1 2)], .list [.int (x2 0), .int (x2 1), .int (x2 2)]] :=
  .cons (dv_at h0) (.cons (dv_at h1) (.cons (dv_at h2) .nil))
theorem tabD_len {ds : List PyData} (h : ds.length ≠ 3) : tabD (.list ds) = false := by
  unfold tabD
  simp [h]
theorem tabD_row {ds : List PyData} {d : PyData} (hd : d ∈ ds) (h : rowD d = false) : tabD (.list ds) = false := by
  have e : ds.all rowD = false := by
    rw [Bool.eq_false_iff]
    intro z
    rw [List.all_eq_true] at z
    rw [z d hd] at h
    cases h
  show (ds.length == 3 && ds.all rowD) = false
  rw [e, Bool.and_false]
theorem fs_set1 {X : Cx} {i : Nat} {x : Str} {e : Expr} {te : TE} {pos' pos : Pos} (hN : X.N.Nodup) (hi : X.N[i]? = some x) (hx : Loc X.env.scope x) (he : FE X e te) (hs : swapsWith e (some (.Name x pos')) pos.line X.env = pure false) (hf : X.fn x = true ∨ X.env.scope.names.lookup x = some .local) :
    FSs X [.Assign [.Name x pos'] e pos] (tAsg te (gName i)) := fs_one (ps_set hN hi hx he.h hs hf)
end L2

namespace L2
open PySem PySem.Spec PyProof.Rows
/-- an iterator that zip draws from: how it lies at the place k, what it hands out there -/
structure Src (it : Addr) (foot : List Addr) (out : Nat → Option Value) (St : Nat → Heap → Prop) : Prop where
  keep : ∀ k h h', St k h → (∀ c ∈ foot, ∀ o, h.get? c = some o → h'.get? c = some o) → St k h'
  item : ∀ {prog : Program} {w : World} {A : Around} {E : Value → Shared → Prop} (s : Shared) (k : Nat) (x : Value) (Q : Value → Shared → Prop), St k s.heap → out k = some x →
    (∀ h', St (k + 1) h' → Heap.SameBut it s.heap h' → Q x { s with heap := h' }) → wpAny (model prog w) A (Builtin.SmallTypes.nextOf (.ref it)) Q E s
  done : ∀ {prog : Program} {w : World} {A : Around} {E : Value → Shared → Prop} (s : Shared) (k : Nat) (Q : Value → Shared → Prop), A.handled = none → St k s.heap → out k = none →
    (∀ h' e, Heap.ExtBut it s.heap h' → (∃ o, h'.get? e = some o ∧ o.cls = .type "StopIteration") → E (.ref e) { s with heap := h' }) → wpAny (model prog w) A (Builtin.SmallTypes.nextOf (.ref it)) Q E s
theorem src_list {it l : Addr} (n : l ≠ it) (xs : Array Value) : Src it [it, l] (fun k => xs[k]?) (fun k h => h.IsListIter it l k ∧ h.IsList l xs) where
  keep := fun k h h' st kp => ⟨st.1.at fun o e => kp it (by simp) o e, st.2.at fun o e => kp l (by simp) o e⟩
  item := fun s k x Q st hx hQ => wpAny_nextOf_list_item st.1 st.2 hx fun h' a sb => hQ h' ⟨a, st.2.extBut sb.extBut n⟩ sb
  done := fun s k Q hh st hx hE => wpAny_nextOf_list_end hh st.1 st.2 hx hE
theorem src_tuple {it t : Addr} (n : t ≠ it) (xs : Array Value) : Src it [it, t] (fun k => xs[k]?) (fun k h => h.IsTupleIter it t k ∧ h.IsTuple t xs) where
  keep := fun k h h' st kp => by
    obtain ⟨⟨o, ho, r⟩, ⟨o2, ho2, r2⟩⟩ := st
    exact ⟨⟨o, kp it (by simp) o ho, r⟩, ⟨o2, kp t (by simp) o2 ho2, r2⟩⟩
  item := fun s k x Q st hx hQ => by
    obtain ⟨hit, ht⟩ := st
    obtain ⟨o, ho, hc, hd⟩ := id hit
    obtain ⟨ol, hol, _, nl, hdl⟩ := id ht
    unfold Builtin.SmallTypes.nextOf
    refine wpAny_bind (wpAny_callSpecial?_slot (name := Str.ofString "__next__") hit.typeIs PySem.F.slot_tuple_iterator_next
      (wpAny_call_entry PySem.F.slot_tuple_iterator_next hit.typeIs PySem.F.entry_tuple_iterator_next ?_ (PySem.F.args_tuple_iterator_next_1 _)))
    show wpAny _ _ (field (.ref it) 0 >>= _) _ _ s
    refine wpAny_bind (wpAny_field ho hd (x := .ref t) rfl ?_)
    show wpAny _ _ (if (Value.ref t == Value.none) = true then _ else _) _ _ s
    rw [if_neg (show ¬ (Value.ref t == Value.none) = true from Bool.false_ne_true)]
    show wpAny _ _ (field (.ref it) 1 >>= _) _ _ s
    refine wpAny_bind (wpAny_field ho hd (x := .int k 0) rfl ?_)
    show wpAny _ _ (seqItems? (.ref t) >>= _) _ _ s
    refine wpAny_bind (wpAny_seqItems hol hdl ?_)
    simp only [Int.toNat_natCast, hx]
    refine wpAny_bind (wpAny_setField ho hd (by simp) (wpAny_pure ⟨x, rfl, wpAny_pure (hQ _ ⟨?_, ht.extBut (Heap.SameBut.update ..).extBut n⟩ (Heap.SameBut.update ..))⟩))
    exact ⟨_, Heap.get?_update_self _ ho (Obj.isFreed_of_fields (Obj.data_mapFields hd _)), (Obj.cls_mapFields ..).trans hc, by rw [Obj.data_mapFields hd]; simp [rawInt]⟩
  done := fun {_ _ A _} s k Q hh st hx hE => by
    obtain ⟨hit, ht⟩ := st
    obtain ⟨o, ho, hc, hd⟩ := id hit
    obtain ⟨ol, hol, _, nl, hdl⟩ := id ht
    unfold Builtin.SmallTypes.nextOf
    refine wpAny_bind (wpAny_callSpecial?_slot (name := Str.ofString "__next__") hit.typeIs PySem.F.slot_tuple_iterator_next
      (wpAny_call_entry PySem.F.slot_tuple_iterator_next hit.typeIs PySem.F.entry_tuple_iterator_next ?_ (PySem.F.args_tuple_iterator_next_1 _)))
    show wpAny _ _ (field (.ref it) 0 >>= _) _ _ s
    refine wpAny_bind (wpAny_field ho hd (x := .ref t) rfl ?_)
    show wpAny _ _ (if (Value.ref t == Value.none) = true then _ else _) _ _ s
    rw [if_neg (show ¬ (Value.ref t == Value.none) = true from Bool.false_ne_true)]
    show wpAny _ _ (field (.ref it) 1 >>= _) _ _ s
    refine wpAny_bind (wpAny_field ho hd (x := .int k 0) rfl ?_)
    show wpAny _ _ (seqItems? (.ref t) >>= _) _ _ s
    refine wpAny_bind (wpAny_seqItems hol hdl ?_)
    simp only [Int.toNat_natCast, hx]
    refine wpAny_bind (wpAny_rule (wpAny_bind (wpAny_setField ho hd (by simp) ?_)))
    show wpAny _ _ (newExc (.type "StopIteration") [] >>= _) _ _ _
    refine wpAny_bind ?_
    simp only [newExc, newTuple]
    refine wpAny_bind (wpAny_newObj_type ?_ (by size_fits))
    refine wpAny_bind (m := firstArgMember _ _) (wpAny_of_eq (a := Value.none) (by first | rfl | (simp only [firstArgMember]; rfl)) ?_)
    refine wpAny_newObj_type ?_ (by size_fits)
    simp only [raiseNew]
    refine wpAny_bind (wpAny_handled ?_)
    first | rw [show A.in1.handled = none from hh] | rw [hh]
    refine wpAny_bind (wpAny_pure (wpAny_throw ?_))
    exact hE _ _ (((Heap.SameBut.update ..).extBut.push _).push _) ⟨_, Heap.get?_push_size _ rfl, rfl⟩

section
variable {prog : Program} {w : World} {A : Around} {E : Value → Shared → Prop} {s : Shared}
/-- what zip's own objects and its two sources keep apart -/
structure Zap (z TI TO i1 i2 : Addr) (f1 f2 : List Addr) : Prop where
  TIz : TI ≠ z
  TOz : TO ≠ z
  i1z : i1 ≠ z
  i2z : i2 ≠ z
  TITO : TI ≠ TO
  TIi1 : TI ≠ i1
  TIi2 : TI ≠ i2
  TOi1 : TO ≠ i1
  TOi2 : TO ≠ i2
  z1 : z ∉ f1
  z2 : z ∉ f2
  TO1 : TO ∉ f1
  TO2 : TO ∉ f2
  i21 : i2 ∉ f1
  i12 : i1 ∉ f2
theorem Src.but {it b : Addr} {foot : List Addr} {out : Nat → Option Value} {St : Nat → Heap → Prop} (S : Src it foot out St) {k : Nat} {h h' : Heap} (st : St k h) (sb : Heap.ExtBut b h h') (n : b ∉ foot) : St k h' :=
  S.keep k h h' st fun c hc o e => sb c o (fun z => n (by rw [← z]; exact hc)) e
variable {z TI TO i1 i2 : Addr} {f1 f2 : List Addr} {o1 o2 : Nat → Option Value} {S1 S2 : Nat → Heap → Prop}
/-- zip's next, both sources with a thing left -/
theorem zip_itemS {k : Nat} {x y a b : Value} {Q : Option Value → Shared → Prop} (D : Zap z TI TO i1 i2 f1 f2) (G1 : Src i1 f1 o1 S1) (G2 : Src i2 f2 o2 S2)
    (hz : IsZip s.heap z TI TO .none) (hTI : IsPair s.heap TI (.ref i1) (.ref i2)) (hTO : IsPair s.heap TO a b) (h1 : S1 k s.heap) (h2 : S2 k s.heap) (hx : o1 k = some x) (hy : o2 k = some y)
    (hQ : ∀ h', IsZip h' z TI TO (rawInt s.heap.objs.size) → IsPair h' TO x y → S1 (k + 1) h' → S2 (k + 1) h' → IsPair h' s.heap.objs.size x y →
      (∀ c o, c ≠ z → c ≠ TO → c ≠ i1 → c ≠ i2 → s.heap.get? c = some o → h'.get? c = some o) → Q (some (.ref s.heap.objs.size)) { s with heap := h' }) :
    wpAny (model prog w) A (pyNext (.ref z)) Q E s := by
  have hT : s.TypeIs (.ref z) "zip" := ⟨_, hz, rfl⟩
  unfold pyNext
  refine wpAny_bind (wpAny_attempt (wpAny_callSpecial?_slot (name := Str.ofString "__next__") hT PySem.F.slot_zip_next (wpAny_call_entry PySem.F.slot_zip_next hT PySem.F.entry_zip_next ?_ (PySem.F.args_zip_next_1 _))))
  show wpAny _ _ (field (.ref z) 2 >>= _) _ _ _
  refine wpAny_bind (wpAny_field hz rfl (x := .bool false) rfl ?_)
  show wpAny _ _ (field (.ref z) 3 >>= _) _ _ _
  refine wpAny_bind (wpAny_field hz rfl (x := .ref TI) rfl (wpAny_bind (wpAny_seqItems hTI rfl ?_)))
  show wpAny _ _ (Builtin.SmallTypes.ownedTupleIsFree (.ref z) >>= _) _ _ _
  refine wpAny_bind ?_
  unfold Builtin.SmallTypes.ownedTupleIsFree
  refine wpAny_bind (wpAny_field hz rfl (x := .none) rfl (wpAny_pure ?_))
  simp only [if_true]
  refine wpAny_bind (wpAny_rule (wpAny_bind (wpAny_field hz rfl (x := .ref TO) rfl (wpAny_bind (wpAny_setField_rec hz (by simp) fun h₁ hz₁ b₁ => ?_)))))
  replace hz₁ : IsZip h₁ z TI TO .ellipsis := hz₁
  refine wpAny_bind ?_
  simp only [List.zipIdx_cons, List.zipIdx_nil, List.forIn_cons, List.forIn_nil]
  refine wpAny_bind (wpAny_bind (wpAny_onRaise ?_))
  show wpAny _ _ (Builtin.SmallTypes.nextOf (.ref i1) >>= _) _ _ _
  refine wpAny_bind (G1.item { s with heap := h₁ } k x _ (G1.but h1 b₁.extBut D.z1) hx fun h₂ g₂ b₂ => wpAny_pure ?_)
  have t₂ : IsPair h₂ TO a b := b₂.extBut _ _ D.TOi1 (b₁.extBut _ _ D.TOz hTO)
  refine wpAny_bind (wpAny_seqItems t₂ rfl (wpAny_bind (wpAny_updateSeq_pair t₂ fun h₃ t₃ b₃ => ?_)))
  replace t₃ : IsPair h₃ TO x b := t₃
  refine wpAny_bind (wpAny_letGo (wpAny_pure (wpAny_bind (wpAny_bind (wpAny_onRaise ?_)))))
  show wpAny _ _ (Builtin.SmallTypes.nextOf (.ref i2) >>= _) _ _ _
  refine wpAny_bind (G2.item { s with heap := h₃ } k y _ (G2.but (G2.but (G2.but h2 b₁.extBut D.z2) b₂.extBut D.i12) b₃.extBut D.TO2) hy fun h₄ g₄ b₄ => wpAny_pure ?_)
  have t₄ : IsPair h₄ TO x b := b₄.extBut _ _ D.TOi2 t₃
  refine wpAny_bind (wpAny_seqItems t₄ rfl (wpAny_bind (wpAny_updateSeq_pair t₄ fun h₅ t₅ b₅ => ?_)))
  replace t₅ : IsPair h₅ TO x y := t₅
  refine wpAny_bind (wpAny_letGo (wpAny_pure (wpAny_pure (wpAny_bind (wpAny_seqItems t₅ rfl (wpAny_bind (wpAny_newTuple ?_)))))))
  have sz : h₅.objs.size = s.heap.objs.size := by rw [b₅.1, b₄.1, b₃.1, b₂.1, b₁.1]
  have z₅ : IsZip h₅ z TI TO .ellipsis := b₅.extBut _ _ D.TOz.symm (b₄.extBut _ _ D.i2z.symm (b₃.extBut _ _ D.TOz.symm (b₂.extBut _ _ D.i1z.symm hz₁)))
  have k₅ : ∀ c o, c ≠ z → c ≠ TO → c ≠ i1 → c ≠ i2 → s.heap.get? c = some o → h₅.get? c = some o := fun c o c1 c2 c3 c4 e =>
    b₅.extBut _ _ c2 (b₄.extBut _ _ c4 (b₃.extBut _ _ c2 (b₂.extBut _ _ c3 (b₁.extBut _ _ c1 e))))
  have g1₅ : S1 (k + 1) h₅ := G1.but (G1.but (G1.but g₂ b₃.extBut D.TO1) b₄.extBut D.i21) b₅.extBut D.TO1
  have g2₅ : S2 (k + 1) h₅ := G2.but g₄ b₅.extBut D.TO2
  have zlt : z < h₅.objs.size := Heap.lt_size z₅
  show wpAny _ _ (Builtin.SmallTypes.ownedTupleHandOut (.ref z) (.ref h₅.objs.size) >>= _) _ _ _
  refine wpAny_bind ?_
  unfold Builtin.SmallTypes.ownedTupleHandOut
  have z₆ : IsZip (h₅.push { cls := .type "tuple", data := .seq #[x, y] }) z TI TO .ellipsis := Heap.get?_push_of_some _ z₅
  refine wpAny_bind (wpAny_setField_rec z₆ (by simp) fun h₇ z₇ b₇ => ?_)
  replace z₇ : IsZip h₇ z TI TO (rawInt h₅.objs.size) := z₇
  refine wpAny_setField_rec z₇ (by simp) fun h₈ z₈ b₈ => ?_
  replace z₈ : IsZip h₈ z TI TO (rawInt h₅.objs.size) := z₈
  have up : ∀ c o, c ≠ z → h₅.get? c = some o → h₈.get? c = some o := fun c o c1 e => b₈.extBut _ _ c1 (b₇.extBut _ _ c1 (Heap.get?_push_of_some _ e))
  have t₈ : IsPair h₈ h₅.objs.size x y := b₈.extBut _ _ (Nat.ne_of_gt zlt) (b₇.extBut _ _ (Nat.ne_of_gt zlt) (Heap.get?_push_size _ rfl))
  rw [sz] at z₈ t₈
  refine wpAny_pure ⟨_, rfl, wpAny_pure ?_⟩
  show Q (some (.ref h₅.objs.size)) _
  rw [sz]
  exact hQ h₈ z₈ (up _ _ D.TOz t₅) (G1.keep _ _ _ g1₅ fun c hc o e => up c o (fun q => D.z1 (by rw [← q]; exact hc)) e) (G2.keep _ _ _ g2₅ fun c hc o e => up c o (fun q => D.z2 (by rw [← q]; exact hc)) e) t₈ fun c o c1 c2 c3 c4 e => up c o c1 (k₅ c o c1 c2 c3 c4 e)
/-- zip's next, a source at its end: what it raises -/
theorem zip_endS {k : Nat} {a b : Value} {Q : PySem.Fin → Shared → Prop} (hh : A.handled = none) (D : Zap z TI TO i1 i2 f1 f2) (G1 : Src i1 f1 o1 S1) (G2 : Src i2 f2 o2 S2)
    (hz : IsZip s.heap z TI TO .none) (hTI : IsPair s.heap TI (.ref i1) (.ref i2)) (hTO : IsPair s.heap TO a b) (h1 : S1 k s.heap) (h2 : S2 k s.heap) (he : o1 k = none ∨ o2 k = none)
    (hE : ∀ (h' : Heap) (e : Addr), (∀ c o, c ≠ z → c ≠ TO → c ≠ i1 → c ≠ i2 → s.heap.get? c = some o → h'.get? c = some o) → (∃ o, h'.get? e = some o ∧ o.cls = .type "StopIteration") → E (.ref e) { s with heap := h' }) :
    wpAny (model prog w) A (Builtin.«zip.__next__» ⟨[.ref z], []⟩) Q E s := by
  show wpAny _ _ (field (.ref z) 2 >>= _) _ _ _
  refine wpAny_bind (wpAny_field hz rfl (x := .bool false) rfl ?_)
  show wpAny _ _ (field (.ref z) 3 >>= _) _ _ _
  refine wpAny_bind (wpAny_field hz rfl (x := .ref TI) rfl (wpAny_bind (wpAny_seqItems hTI rfl ?_)))
  show wpAny _ _ (Builtin.SmallTypes.ownedTupleIsFree (.ref z) >>= _) _ _ _
  refine wpAny_bind ?_
  unfold Builtin.SmallTypes.ownedTupleIsFree
  refine wpAny_bind (wpAny_field hz rfl (x := .none) rfl (wpAny_pure ?_))
  simp only [if_true]
  refine wpAny_bind (wpAny_rule (wpAny_bind (wpAny_field hz rfl (x := .ref TO) rfl (wpAny_bind (wpAny_setField_rec hz (by simp) fun h₁ hz₁ b₁ => ?_)))))
  replace hz₁ : IsZip h₁ z TI TO .ellipsis := hz₁
  refine wpAny_bind ?_
  simp only [List.zipIdx_cons, List.zipIdx_nil, List.forIn_cons, List.forIn_nil]
  refine wpAny_bind (wpAny_bind (wpAny_onRaise ?_))
  show wpAny _ _ (Builtin.SmallTypes.nextOf (.ref i1) >>= _) _ _ _
  cases hx : o1 k with
  | none =>
    refine wpAny_bind (G1.done { s with heap := h₁ } k _ hh (G1.but h1 b₁.extBut D.z1) hx fun h₂ e b₂ ⟨oe, hoe, hce⟩ => ?_)
    have z₂ : IsZip h₂ z TI TO .ellipsis := b₂ _ _ D.i1z.symm hz₁
    have ez : e ≠ z := fun q => by rw [q, z₂] at hoe; cases hoe; simp at hce
    exact wpAny_setField_rec z₂ (by simp) fun h₃ _ b₃ => hE h₃ e (fun c o c1 _ c3 _ q => b₃.extBut _ _ c1 (b₂ _ _ c3 (b₁.extBut _ _ c1 q))) ⟨oe, b₃.extBut _ _ ez hoe, hce⟩
  | some x =>
    have hy : o2 k = none := by
      rcases he with q | q
      · rw [hx] at q
        cases q
      · exact q
    refine wpAny_bind (G1.item { s with heap := h₁ } k x _ (G1.but h1 b₁.extBut D.z1) hx fun h₂ g₂ b₂ => wpAny_pure ?_)
    have t₂ : IsPair h₂ TO a b := b₂.extBut _ _ D.TOi1 (b₁.extBut _ _ D.TOz hTO)
    refine wpAny_bind (wpAny_seqItems t₂ rfl (wpAny_bind (wpAny_updateSeq_pair t₂ fun h₃ t₃ b₃ => ?_)))
    refine wpAny_bind (wpAny_letGo (wpAny_pure (wpAny_bind (wpAny_bind (wpAny_onRaise ?_)))))
    show wpAny _ _ (Builtin.SmallTypes.nextOf (.ref i2) >>= _) _ _ _
    refine wpAny_bind (G2.done { s with heap := h₃ } k _ hh (G2.but (G2.but (G2.but h2 b₁.extBut D.z2) b₂.extBut D.i12) b₃.extBut D.TO2) hy fun h₄ e b₄ ⟨oe, hoe, hce⟩ => ?_)
    have z₄ : IsZip h₄ z TI TO .ellipsis := b₄ _ _ D.i2z.symm (b₃.extBut _ _ D.TOz.symm (b₂.extBut _ _ D.i1z.symm hz₁))
    have ez : e ≠ z := fun q => by rw [q, z₄] at hoe; cases hoe; simp at hce
    exact wpAny_setField_rec z₄ (by simp) fun h₅ _ b₅ => hE h₅ e (fun c o c1 c2 c3 c4 q => b₅.extBut _ _ c1 (b₄ _ _ c4 (b₃.extBut _ _ c2 (b₂.extBut _ _ c3 (b₁.extBut _ _ c1 q))))) ⟨oe, b₅.extBut _ _ ez hoe, hce⟩
theorem zip_doneS {k : Nat} {a b : Value} {Q : Option Value → Shared → Prop} (hh : A.handled = none) (D : Zap z TI TO i1 i2 f1 f2) (G1 : Src i1 f1 o1 S1) (G2 : Src i2 f2 o2 S2)
    (hz : IsZip s.heap z TI TO .none) (hTI : IsPair s.heap TI (.ref i1) (.ref i2)) (hTO : IsPair s.heap TO a b) (h1 : S1 k s.heap) (h2 : S2 k s.heap) (he : o1 k = none ∨ o2 k = none)
    (hQ : ∀ h' : Heap, (∀ c o, c ≠ z → c ≠ TO → c ≠ i1 → c ≠ i2 → s.heap.get? c = some o → h'.get? c = some o) → Q none { s with heap := h' }) : wpAny (model prog w) A (pyNext (.ref z)) Q E s := by
  have hT : s.TypeIs (.ref z) "zip" := ⟨_, hz, rfl⟩
  unfold pyNext
  refine wpAny_bind (wpAny_attempt (wpAny_callSpecial?_slot (name := Str.ofString "__next__") hT PySem.F.slot_zip_next (wpAny_call_entry PySem.F.slot_zip_next hT PySem.F.entry_zip_next
    (zip_endS hh D G1 G2 hz hTI hTO h1 h2 he fun h' e hk ho => ?_) (PySem.F.args_zip_next_1 _))))
  obtain ⟨o, ho, hc⟩ := ho
  exact wpAny_bind (wpAny_isInstance (T := "StopIteration") (b := true) ⟨o, ho, hc⟩ isSubtype_stop (wpAny_pure (hQ _ hk)))
end

abbrev zh1 (h : Heap) (l : Addr) : Heap := h.push { cls := .type "list_iterator", data := .fields #[.ref l, .int 0 0] }
abbrev zh2 (h : Heap) (l t : Addr) : Heap := (zh1 h l).push { cls := .type "tuple_iterator", data := .fields #[.ref t, .int 0 0] }
abbrev zh3 (h : Heap) (l t : Addr) : Heap := (zh2 h l t).push { cls := .type "tuple", data := .seq #[.ref h.objs.size, .ref (zh1 h l).objs.size] }
abbrev zh4 (h : Heap) (l t : Addr) : Heap := (zh3 h l t).push { cls := .type "tuple", data := .seq #[.none, .none] }
abbrev zh5 (h : Heap) (l t : Addr) : Heap := (zh4 h l t).push { cls := .type "zip", data := .fields #[.none, .bool false, .bool false, .ref (zh2 h l t).objs.size, .ref (zh3 h l t).objs.size] }
theorem meets_zipT (l t : Addr) (xs ys : Array Value) :
    Meets (Builtin.«zip.__new__» ⟨[.type "zip", .ref l, .ref t], []⟩) (fun _ R s => s.heap.IsList l xs ∧ s.heap.IsTuple t ys ∧ R (.ok (.ret (.ref (zh4 s.heap l t).objs.size))) { s with heap := zh5 s.heap l t }) :=
  .of_wp fun prog w A R s h => by
    obtain ⟨hp, g, d, tk, os⟩ := s; obtain ⟨hl1, hl2, h⟩ := h
    have hsub := sub_zip
    have hL1 : Heap.IsList (Shared.heap ⟨hp, g, d, tk, os⟩) l xs := hl1
    have hL2 : Heap.IsTuple (Shared.heap ⟨hp.push { cls := .type "list_iterator", data := .fields #[.ref l, .int 0 0] }, g, d, tk, os⟩) t ys := Heap.IsTuple.push hl2 _
    wp_walk using wpAny_pyIter_list hL1, wpAny_pyIter_tuple hL2
    exact ⟨_, rfl, h⟩
theorem call_zipT {prog : Program} {w : World} {A : Around} {E : Value → Shared → Prop} {s : Shared} {l t : Addr} {xs ys : Array Value} {Q : Value → Shared → Prop} (hl : s.heap.IsList l xs) (ht : s.heap.IsTuple t ys)
    (h : ∀ h', IsZip h' (s.heap.objs.size + 4) (s.heap.objs.size + 2) (s.heap.objs.size + 3) .none → IsPair h' (s.heap.objs.size + 2) (.ref s.heap.objs.size) (.ref (s.heap.objs.size + 1)) →
      IsPair h' (s.heap.objs.size + 3) .none .none → h'.IsListIter s.heap.objs.size l 0 → h'.IsTupleIter (s.heap.objs.size + 1) t 0 →
      (∀ c o, s.heap.get? c = some o → h'.get? c = some o) → Q (.ref (s.heap.objs.size + 4)) { s with heap := h' }) :
    wpAny (model prog w) A (call (.type "zip") [.ref l, .ref t]) Q E s := by
  refine callType_new PySem.F.called_zip (by decide) (PySem.F.typeCall_zip_2 _ _) (PySem.F.newCall_zip_2 _ _) (fun obj => PySem.F.args_object_init_3 obj _ _) PySem.F.entry_zip_new (meets_zipT l t xs ys) ⟨hl, ht, ?_⟩
  have n1 : (zh1 s.heap l).objs.size = s.heap.objs.size + 1 := Heap.size_push ..
  have n2 : (zh2 s.heap l t).objs.size = s.heap.objs.size + 2 := by rw [Heap.size_push, n1]
  have n3 : (zh3 s.heap l t).objs.size = s.heap.objs.size + 3 := by rw [Heap.size_push, n2]
  have n4 : (zh4 s.heap l t).objs.size = s.heap.objs.size + 4 := by rw [Heap.size_push, n3]
  have g5 : (zh5 s.heap l t).get? (zh4 s.heap l t).objs.size = some _ := Heap.get?_push_size _ rfl
  have g4 : (zh5 s.heap l t).get? (zh3 s.heap l t).objs.size = some _ := Heap.get?_push_of_some _ (Heap.get?_push_size _ rfl)
  have g3 : (zh5 s.heap l t).get? (zh2 s.heap l t).objs.size = some _ := Heap.get?_push_of_some _ (Heap.get?_push_of_some _ (Heap.get?_push_size _ rfl))
  have g2 : (zh5 s.heap l t).get? (zh1 s.heap l).objs.size = some _ := Heap.get?_push_of_some _ (Heap.get?_push_of_some _ (Heap.get?_push_of_some _ (Heap.get?_push_size _ rfl)))
  have g1 : (zh5 s.heap l t).get? s.heap.objs.size = some _ := Heap.get?_push_of_some _ (Heap.get?_push_of_some _ (Heap.get?_push_of_some _ (Heap.get?_push_of_some _ (Heap.get?_push_size _ rfl))))
  show _ ∧ _
  rw [n2, n3, n4] at g5
  rw [n1, n2] at g3
  rw [n3] at g4
  rw [n1] at g2
  rw [n4]
  exact ⟨⟨_, g5, rfl⟩, h _ g5 g3 g4 ⟨_, g1, rfl, rfl⟩ ⟨_, g2, rfl, rfl⟩ fun c o x =>
    Heap.get?_push_of_some _ (Heap.get?_push_of_some _ (Heap.get?_push_of_some _ (Heap.get?_push_of_some _ (Heap.get?_push_of_some _ x))))⟩
/-- a list and a tuple side by side -/
def Itzt (K : PySem.W.Frag) (a b : Addr) : It :=
  ⟨fun i H => ∃ xs ys x y, SqL K H a xs ∧ SqT K H b ys ∧ xs[i]? = some x ∧ ys[i]? = some y,
   fun i H v H' => ∃ T x y, v = .ref T ∧ H T = none ∧ (∀ xs, SqL K H a xs → xs[i]? = some x) ∧ (∀ ys, SqT K H b ys → ys[i]? = some y) ∧ H' = upd H T (.tup [x, y]),
   fun i H => ∃ xs ys, SqL K H a xs ∧ SqT K H b ys ∧ (xs.length ≤ i ∨ ys.length ≤ i)⟩
def zipTt (z TI TO i1 i2 a b : Addr) (i : Nat) (h : Heap) : Prop :=
  IsZip h z TI TO .none ∧ IsPair h TI (.ref i1) (.ref i2) ∧ (∃ p q, IsPair h TO p q) ∧ h.IsListIter i1 a i ∧ h.IsTupleIter i2 b i
theorem zap_of {z TI TO i1 i2 a b : Addr} (D : ZipApart z TI TO i1 i2 a b) : Zap z TI TO i1 i2 [i1, a] [i2, b] where
  TIz := D.TIz
  TOz := D.TOz
  i1z := D.i1z
  i2z := D.i2z
  TITO := D.TITO
  TIi1 := D.TIi1
  TIi2 := D.TIi2
  TOi1 := D.TOi1
  TOi2 := D.TOi2
  z1 := by simp [D.i1z.symm, D.l1z.symm]
  z2 := by simp [D.i2z.symm, D.l2z.symm]
  TO1 := by simp [D.TOi1, D.l1TO.symm]
  TO2 := by simp [D.TOi2, D.l2TO.symm]
  i21 := by simp [D.i12.symm, D.l1i2.symm]
  i12 := by simp [D.i12, D.l2i1.symm]
theorem turn_zipT {P : Program} {w : World} {K : PySem.W.Frag} {elts : List Expr} {x1} {pos : Pos} (z TI TO i1 i2 a b : Addr) (D : ZipApart z TI TO i1 i2 a b) : Turn P w K (.Tuple elts x1 pos) (Itzt K a b) [z, TI, TO, i1, i2] z (zipTt z TI TO i1 i2 a b) where
  mem := by simp
  obj := fun i h st c hc => by
    obtain ⟨hz, hTI, ⟨p, q, hTO⟩, ⟨o1, e1, c1, d1⟩, ⟨o2, e2, c2, d2⟩⟩ := st
    simp only [List.mem_cons, List.not_mem_nil, or_false] at hc
    rcases hc with rfl | rfl | rfl | rfl | rfl
    · exact ⟨_, hz, fun v e => by cases e⟩
    · exact ⟨_, hTI, fun v e => by cases e⟩
    · exact ⟨_, hTO, fun v e => by cases e⟩
    · exact ⟨_, e1, fun v e => by rw [d1] at e; cases e⟩
    · exact ⟨_, e2, fun v e => by rw [d2] at e; cases e⟩
  keep := fun i h h' st k => by
    obtain ⟨hz, hTI, ⟨p, q, hTO⟩, h1, h2⟩ := st
    exact ⟨k z (by simp) _ hz, k TI (by simp) _ hTI, ⟨p, q, k TO (by simp) _ hTO⟩, h1.at fun o e => k i1 (by simp) o e, (by obtain ⟨o, ho, r⟩ := h2; exact ⟨o, k i2 (by simp) o ho, r⟩)⟩
  item := by
    intro X hP hw hK hc i pins s σ H E I hf st hg
    subst hP hw hK
    obtain ⟨xs, ys, x, y, hqa, hqb, hx, hy⟩ := hg
    obtain ⟨hz, hTI, ⟨p, q, hTO⟩, h1, h2⟩ := st
    obtain ⟨ia, ra, pa, za⟩ := I.list hqa
    obtain ⟨ib, rb, pb, zb⟩ := I.tuple hqb
    obtain ⟨u, hu, ru⟩ := ra.get hx
    obtain ⟨v, hv, rv⟩ := rb.get hy
    refine zip_itemS (zap_of D) (src_list D.l1i1 ia.toArray) (src_tuple D.l2i2 ib.toArray) hz hTI hTO ⟨h1, pa.isList⟩ ⟨h2, pb⟩ (x := u) (y := v) (by simpa using hu) (by simpa using hv) fun h' a1 a2 a3 a4 a5 hk => ?_
    replace a3 := a3.1
    replace a4 := a4.1
    refine ⟨_, rfl, ?_⟩
    have hTI' := hk _ _ D.TIz D.TITO D.TIi1 D.TIi2 hTI
    have f4 : ∀ c ∈ [z, TO, i1, i2], FpOk X pins H c := fun c hc => hf c (by simp only [List.mem_cons, List.not_mem_nil, or_false] at hc ⊢; rcases hc with rfl | rfl | rfl | rfl <;> simp)
    have I1 : Inv X pins σ H { s with heap := h' } := I.turnedL (t' := s.toks) (ch := [z, TO, i1, i2]) (fun c o hc e => hk c o (fun q => hc (by simp [q])) (fun q => hc (by simp [q])) (fun q => hc (by simp [q])) (fun q => hc (by simp [q])) e) f4
    have hn : H s.heap.objs.size = none := I.hok.fresh (Nat.le_refl _)
    have fT := I.fpOk (b := s.heap.objs.size) (Nat.le_refl _) hn
    have I2 : Inv X pins σ (upd H s.heap.objs.size (.tup [x, y])) { s with heap := h' } := I1.track fT ⟨by show 2 ≤ sizeLine; decide, [u, v], .cons ru (.cons rv .nil), ⟨_, a5, rfl, _, rfl⟩⟩
    refine wpAny_letOwnedTupleGo_zip (s := { s with heap := h' }) a1 fun h2' hz' hs' => ?_
    have lt : ∀ {c o}, s.heap.get? c = some o → c ≠ s.heap.objs.size := fun e => Nat.ne_of_lt (Heap.lt_size e)
    obtain ⟨o1, e1, _⟩ := id h1
    obtain ⟨o2, e2, _⟩ := id h2
    have neT : ∀ c ∈ [z, TI, TO, i1, i2], c ≠ s.heap.objs.size := fun c hc => by
      simp only [List.mem_cons, List.not_mem_nil, or_false] at hc
      rcases hc with rfl | rfl | rfl | rfl | rfl
      · exact lt hz
      · exact lt hTI
      · exact lt hTO
      · exact lt e1
      · exact lt e2
    obtain ⟨g0, g1, g2, g3, g4, g5⟩ := hf z (by simp)
    have I3 : Inv X pins σ (upd H s.heap.objs.size (.tup [x, y])) { s with heap := h2' } := Inv.turned (s := { s with heap := h' }) (h' := h2') I2 (it := z) (t' := s.toks) (fun c o hc e => hs'.extBut _ _ hc e) (by rw [upd_ne (neT z (by simp))]; exact g0) g1 g3 g4 g5
    refine ⟨.ref s.heap.objs.size, _, I3, rfl, ⟨_, x, y, rfl, hn, fun zs hzs => by rw [I.list_inj hzs hqa]; exact hx, fun zs hzs => by rw [I.tuple_inj hzs hqb]; exact hy, rfl⟩, ?_, fun c hc => ?_⟩
    · exact ⟨hz', hs'.extBut _ _ D.TIz hTI', ⟨_, _, hs'.extBut _ _ D.TOz a2⟩, a3.extBut hs'.extBut D.i1z, a4.extBut hs'.extBut D.i2z⟩
    · rw [upd_ne (neT c hc)]; exact (hf c hc).1
  done := by
    intro X hP hw hK hc i pins s σ H E I hf st hg
    subst hP hw hK
    obtain ⟨xs, ys, hqa, hqb, hend⟩ := hg
    obtain ⟨hz, hTI, ⟨p, q, hTO⟩, h1, h2⟩ := st
    obtain ⟨ia, ra, pa, za⟩ := I.list hqa
    obtain ⟨ib, rb, pb, zb⟩ := I.tuple hqb
    have la := ra.length
    have lb := rb.length
    have f4 : ∀ c ∈ [z, TO, i1, i2], FpOk X pins H c := fun c hc => hf c (by simp only [List.mem_cons, List.not_mem_nil, or_false] at hc ⊢; rcases hc with rfl | rfl | rfl | rfl <;> simp)
    refine zip_doneS (I.ok.hd hc) (zap_of D) (src_list D.l1i1 ia.toArray) (src_tuple D.l2i2 ib.toArray) hz hTI hTO ⟨h1, pa.isList⟩ ⟨h2, pb⟩ (hend.imp (fun q => by simp; omega) (fun q => by simp; omega)) fun h' hk => ⟨rfl, ?_⟩
    exact I.turnedL (t' := s.toks) (ch := [z, TO, i1, i2]) (fun c o hc e => hk c o (fun q => hc (by simp [q])) (fun q => hc (by simp [q])) (fun q => hc (by simp [q])) (fun q => hc (by simp [q])) e) f4
  self := fun _ _ _ _ _ st h => wpAny_pyIter_zip st.1 h

def iZipT (K : PySem.W.Frag) (ta : TA) : TI := fun σ H R => ta σ H fun vs H1 => ∃ a b xs ys, vs = [.ref a, .ref b] ∧ SqL K H1 a xs ∧ SqT K H1 b ys ∧ R (Itzt K a b) H1
section
variable {X : Cx}
theorem pi_zipT {elts : List Expr} {x1} {tpos : Pos} {a b : Expr} {ta : TA} {p pos : Pos} (hg : Gl X "zip") (hm : X.mg "zip" = none) (ha : PA X [a, b] ta) (hs : starEach [a, b] X.env = [(false, eval a X.env), (false, eval b X.env)] := by rfl) (hs2 : starEach [b] X.env = [(false, eval b X.env)] := by rfl) :
    PI X (.Tuple elts x1 tpos) (.Call (.Name "zip" p) [a, b] [] pos) (iZipT X.K ta) := by
  intro pins s σ H R I h
  refine Call_ (ld_blt I hg hm boot_zip (PyProof.Rows.callWith_type1 (thn (ha pos pins s σ H _ I h) fun us s1 ⟨vs, H1, I1, r1, q1⟩ => ?_) (by rw [hs, hs2]) (by rw [hs2]; rfl)))
  obtain ⟨l1, l2, xs, ys, e, q1, q2, q⟩ := q1
  subst e
  cases r1 with
  | cons r rr =>
    cases rr with
    | cons r' rr =>
      cases rr
      cases r
      cases r'
      obtain ⟨ia, ra, pa, za⟩ := I1.list q1
      obtain ⟨ib, rb, pb, zb⟩ := I1.tuple q2
      have lt1 : l1 < s1.heap.objs.size := by obtain ⟨o, e, _⟩ := pa.isList; exact Heap.lt_size e
      have lt2 : l2 < s1.heap.objs.size := by obtain ⟨o, e, _⟩ := pb; exact Heap.lt_size e
      refine call_zipT pa.isList pb fun h' hz hTI hTO hi1 hi2 hk => ?_
      refine wpAny_pyIter_zip hz ?_
      refine ⟨_, [s1.heap.objs.size + 4, s1.heap.objs.size + 2, s1.heap.objs.size + 3, s1.heap.objs.size, s1.heap.objs.size + 1], _, _, H1, rfl, I1.kept (t' := s1.toks) hk, turn_zipT _ _ _ _ _ l1 l2 (zipApart_new lt1 lt2), ⟨hz, hTI, ⟨_, _, hTO⟩, hi1, hi2⟩, fun c hc => ?_, q⟩
      have hc' : s1.heap.objs.size ≤ c := by
        simp only [List.mem_cons, List.not_mem_nil, or_false] at hc
        rcases hc with rfl | rfl | rfl | rfl | rfl <;> first | exact Nat.le_refl _ | exact Nat.le_add_right _ _
      exact I1.fpOk hc' (I1.hok.fresh hc')
end
theorem for_zipT {K : PySem.W.Frag} {a b : Addr} {xs ys : List V} {g : TG} {tb : TS} {D : Ends} {σ : St} {H : Hp} (Pv : Nat → St → Hp → Prop) (hn : xs.length = ys.length) (h0 : Pv 0 σ H) (hl : ∀ i σ H, i ≤ xs.length → Pv i σ H → SqL K H a xs ∧ SqT K H b ys)
    (hs : ∀ i x y p σ H, xs[i]? = some x → ys[i]? = some y → Pv i σ H → H p = none → g (.ref p) σ (upd H p (.tup [x, y])) fun σ2 H2 => tb { D with nx := Pv (i + 1), ct := Pv (i + 1), bk := D.nx } σ2 H2) (hd : ∀ σ H, Pv xs.length σ H → D.nx σ H) :
    ∃ W : Nat → Nat → St → Hp → Prop, (∃ m, W 0 m σ H) ∧ ∀ i m σ H, W i m σ H →
      ((Itzt K a b).stop i H ∧ D.nx σ H) ∨ ((Itzt K a b).go i H ∧ ∃ N : St → Hp → Prop, (∀ σ' H', N σ' H' → ∃ m', m' < m ∧ W (i + 1) m' σ' H') ∧ ∀ x H', (Itzt K a b).yld i H x H' → g x σ H' fun σ2 H2 => tb { D with nx := N, ct := N, bk := D.nx } σ2 H2) := by
  refine ⟨fun i m σ H => m = xs.length - i ∧ i ≤ xs.length ∧ Pv i σ H, ⟨xs.length, by simp, Nat.zero_le _, h0⟩, ?_⟩
  rintro i m σ H ⟨rfl, hi, p⟩
  obtain ⟨q1, q2⟩ := hl i σ H hi p
  by_cases hlt : i < xs.length
  · have hlt2 : i < ys.length := by omega
    refine .inr ⟨?_, Pv (i + 1), fun σ' H' p' => ⟨xs.length - (i + 1), by omega, rfl, hlt, p'⟩, fun x H' y => ?_⟩
    · exact ⟨xs, ys, xs[i], ys[i], q1, q2, by simp [hlt], by simp [hlt2]⟩
    · obtain ⟨pp, u, v, rfl, e1, e2, e3, rfl⟩ := y
      exact hs i u v pp σ H (e2 xs q1) (e3 ys q2) p e1
  · have e : i = xs.length := by omega
    subst e
    exact .inl ⟨⟨xs, ys, q1, q2, .inl (Nat.le_refl _)⟩, hd σ H p⟩
end L2

namespace L2
open PySem PySem.Spec PyProof.Rows
section
variable {X : Cx}
/-- text[lo:hi] -/
def rSlS : V → Option Int → Option Int → Hp → VK → Prop := fun x lo hi H Q => ∃ t, x = .str t ∧ t.length ≤ sizeLine ∧ Q (.str (Txt.slice t lo hi)) H
theorem sl_str : SlR X rSlS := by
  intro pins s σ H x v vl vu lo hi sl Q I rx hs pl pu h
  obtain ⟨t, rfl, hz, q⟩ := h
  obtain ⟨tk, rfl⟩ := rx
  have fin : ∀ (t' : Tok) (k : Nat), EP X pins σ Q (.str (Txt.slice t lo hi) t') { s with toks := k } := fun t' k => ⟨.str (Txt.slice t lo hi), H, I.tok k, ⟨t', rfl⟩, q⟩
  cases pl with
  | none =>
    cases pu with
    | none => exact ⟨"str", _, PySem.F.slot_str_getitem.lookup, typeIs_str _ _ _, wpAny_getItem_str_slice (l := none) (u := none) (st := none) hs rfl (post_val_or_str ⟨Nat.le_trans (Txt.slice_le t _ _) hz, fin⟩)⟩
    | int j uj => exact ⟨"str", _, PySem.F.slot_str_getitem.lookup, typeIs_str _ _ _, wpAny_getItem_str_slice (l := none) (u := some (j, uj)) (st := none) hs rfl (post_val_or_str ⟨Nat.le_trans (Txt.slice_le t _ _) hz, fin⟩)⟩
  | int i ui =>
    cases pu with
    | none => exact ⟨"str", _, PySem.F.slot_str_getitem.lookup, typeIs_str _ _ _, wpAny_getItem_str_slice (l := some (i, ui)) (u := none) (st := none) hs rfl (post_val_or_str ⟨Nat.le_trans (Txt.slice_le t _ _) hz, fin⟩)⟩
    | int j uj => exact ⟨"str", _, PySem.F.slot_str_getitem.lookup, typeIs_str _ _ _, wpAny_getItem_str_slice (l := some (i, ui)) (u := some (j, uj)) (st := none) hs rfl (post_val_or_str ⟨Nat.le_trans (Txt.slice_le t _ _) hz, fin⟩)⟩
end

/-- a text that begins, and not by a space -/
def Fst (t : Str) : Prop := ∃ c, t.cps[0]? = some c ∧ c ≠ 32
theorem Fst.app {t : Str} (h : Fst t) (u : Str) : Fst (t ++ u) := by
  obtain ⟨c, e, n⟩ := h
  refine ⟨c, ?_, n⟩
  have lt : 0 < t.cps.size := by
    rcases Nat.eq_zero_or_pos t.cps.size with z | z
    · rw [Array.getElem?_eq_none (by omega)] at e
      cases e
    · exact z
  show (t.cps ++ u.cps)[0]? = some c
  rw [Array.getElem?_append_left lt]
  exact e
theorem Fst.cut {t : Str} (h : Fst t) : Txt.slice t none (some 1) ≠ Str.ofString " " := by
  obtain ⟨c, e, n⟩ := h
  have lt : 0 < t.length := by
    rcases Nat.eq_zero_or_pos t.cps.size with z | z
    · rw [Array.getElem?_eq_none (by omega)] at e
      cases e
    · exact z
  have key : (Txt.slice t none (some 1)).cps[0]? = some c := by
    unfold Txt.slice
    split
    · exact e
    · have e1 : Builtin.Str.strSliceIndices none (some 1) 1 t.length = [0] := by
        have e2 : max (0 : Int) (min 1 (t.length : Int)) = 1 := by omega
        simp [Builtin.Str.strSliceIndices, sliceRange, e2]
      rw [e1]
      simp [e]
  intro z
  rw [z] at key
  have : (Str.ofString " ").cps[0]? = some 32 := by decide +kernel
  rw [this] at key
  exact n (Option.some.inj key).symm
theorem fst_nat (n : Nat) : Fst (Str.ofString (toString (n : Int))) := by
  have e : toString (n : Int) = Nat.repr n := rfl
  rw [e]
  have l : (Nat.repr n).toList = Nat.toDigits 10 n := by simp [Nat.repr]
  have ne : Nat.toDigits 10 n ≠ [] := Nat.toDigits_ne_nil
  cases hd : Nat.toDigits 10 n with
  | nil => exact absurd hd ne
  | cons c r =>
    have dg := Nat.isDigit_of_mem_toDigits (b := 10) (n := n) (c := c) (by decide) (by decide) (by rw [hd]; exact List.mem_cons_self)
    refine ⟨c.toNat, ?_, fun z => ?_⟩
    · rw [Str.ofString_eq_toList, l, hd]
      simp
    · have : c = ' ' := Char.toNat_inj.mp z
      rw [this] at dg
      exact absurd dg (by decide)
theorem str_app (a b : Str) : (a ++ b).length = a.length + b.length := Array.size_append ..
theorem len_nat {n k : Nat} (hk : 0 < k) (h : n < 2 ^ k) : (Str.ofString (toString (n : Int))).length ≤ k := by
  have e : toString (n : Int) = Nat.repr n := rfl
  have l := nat_repr_length_le hk h
  rw [e, Str.ofString_eq_toList]
  show ((Nat.repr n).toList.map Char.toNat).toArray.size ≤ k
  rw [List.size_toArray, List.length_map]
  exact l
theorem ip_add_str {X : Cx} : PIp X .Add (fun x y H Q => ∃ i j, x = .str i ∧ y = .str j ∧ i.length + j.length ≤ sizeLine ∧ Q (.str (i ++ j)) H) := fun pins s σ H x y v u Q I rx ry h => iop_add_str pins s σ H x y v u Q I rx ry h
theorem str_nil (a : Str) : Str.empty ++ a = a := by
  show (⟨#[] ++ a.cps⟩ : Str) = a
  rw [Array.empty_append]
/-- the same place, where nothing is raised -/
def _root_.L2.Cx.quiet (X : Cx) : Cx := { X with xe := fun _ _ => False }
theorem Cx.Ok.quiet {X : Cx} (h : X.Ok) : X.quiet.Ok := ⟨h.mod, h.kind, h.glob, h.blt, h.above, h.inj, h.has, h.cab, h.hd, h.frames, h.stk, h.exf, h.bs, h.bsz, h.noex, h.exfs, h.funs, h.frf⟩
theorem Inv.hush {X : Cx} {pins : List (Addr × Obj)} {σ : St} {H : Hp} {s : Shared} (I : Inv X pins σ H s) : Inv X.quiet pins σ H s := ⟨Cx.Ok.quiet I.ok, I.os, I.bare, I.base, I.loc, I.cell, I.free, I.freeC, I.pin, I.hok, I.len⟩
theorem Inv.unhush {X : Cx} {pins : List (Addr × Obj)} {σ : St} {H : Hp} {s : Shared} (ok : X.Ok) (I : Inv X.quiet pins σ H s) : Inv X pins σ H s := ⟨ok, I.os, I.bare, I.base, I.loc, I.cell, I.free, I.freeC, I.pin, I.hok, I.len⟩
theorem PS.loud {X : Cx} {st : Stmt} {t : TS} (h : PS X.quiet st t) : PS X st t := by
  intro pins s σ H D I ht
  refine wpAny_mono (h pins s σ H D (Inv.hush I) ht) (fun f s' q => ?_) (fun _ _ z => z.elim)
  cases f with
  | next => obtain ⟨σ', H', i, q⟩ := q; exact ⟨σ', H', Inv.unhush I.ok i, q⟩
  | brk => obtain ⟨σ', H', i, q⟩ := q; exact ⟨σ', H', Inv.unhush I.ok i, q⟩
  | cont => obtain ⟨σ', H', i, q⟩ := q; exact ⟨σ', H', Inv.unhush I.ok i, q⟩
  | ret u => obtain ⟨v, σ', H', i, r, q⟩ := q; exact ⟨v, σ', H', Inv.unhush I.ok i, r, q⟩
end L2

namespace L2
open PySem PySem.Spec PyProof.Rows
/-! how many rows lie on the cone -/
def sumN : Nat → (Nat → Nat) → Nat
  | 0, _ => 0
  | k + 1, f => sumN k f + f k
def chi (q r : Nat) : Nat := (List.range q).countP fun s => s * s % q == r % q
/-- of a square sum of one letter -/
def cntZ (q a b c : Nat) : Nat := (List.range q).countP fun z => (c * (z * z) + b * z + a) % q == 0
def chkZa (q a : Nat) : Bool := (List.range q).all fun b => (List.range q).all fun c => c == 0 || cntZ q a b c == chi q (b * b + 4 * (q - 1) * (a * c))
def chkZ (q : Nat) : Bool := (List.range q).all (chkZa q)
def chkL (q : Nat) : Bool := (List.range q).all fun a => (List.range q).all fun b => cntZ q a b 0 == if b == 0 then (if a == 0 then q else 0) else 1
def chkSa (q a : Nat) : Bool := (List.range q).all fun b => (List.range q).all fun c => (b * b + 4 * (q - 1) * (a * c)) % q == 0 || chi q c + sumN q (fun y => chi q (a + b * y + c * (y * y))) == q + 1
def chkS (q : Nat) : Bool := (List.range q).all (chkSa q)
def chkE (q : Nat) : Bool := (List.range q).all fun e => (List.range q).all fun f => f == 0 || sumN q (fun y => if (e + f * y) % q == 0 then 0 else 1) == q - 1
end L2

namespace L2
open PySem PySem.Spec PyProof.Rows
/-- the form at (x, y, z), by whole numbers from 0 on -/
def quadN (a b c d e f x y z : Nat) : Nat := a * (x * x) + b * (y * y) + c * (z * z) + d * (x * y) + e * (x * z) + f * (y * z)
def cntQ (q a b c d e f x y : Nat) : Nat := (List.range q).countP fun z => quadN a b c d e f x y z % q == 0
end L2
namespace L2
open PySem PySem.Spec PyProof.Rows
end L2

namespace L2
open PySem PySem.Spec PyProof.Rows
end L2

namespace L2
open PySem PySem.Spec PyProof.Rows
/-! ### generator expressions with a test -/
def rk (sel : Nat → Bool) (k : Nat) : Nat := (List.range k).countP sel
def tnF (sel : Nat → Bool) (N : Nat) (tn : Nat → Heap → Prop) (i : Nat) (h : Heap) : Prop := ∃ k, k ≤ N ∧ rk sel k = i ∧ (k = 0 ∨ sel (k - 1) = true) ∧ tn k h
section
variable {X : Cx} {B : Around} {sc : Scope} {N' : List Str} {code : Value} {sC : Shared} {HC : Hp} {fp Ss : List Addr} {tn : Nat → Heap → Prop} {N : Nat} {sel : Nat → Bool} {R : Nat → V → Prop} {W : St → Hp → Prop}
variable {elt iter tg c : Expr} {pos : Pos} {it : Addr} {J : It} {g : TG} {tt : TT} {te : TE}
end
/-- how a generator expression with a test is read -/
def GenRdF (k : Nat) (g : TG) (tt : TT) (te : TE) (σ : St) (F : Nat → (Nat → V → Prop) → (Nat → St → Hp → Prop) → Prop) (J : It) (H : Hp) : Prop := ∃ (N : Nat) (sel : Nat → Bool) (R : Nat → V → Prop) (W : St → Hp → Prop), W (List.replicate k none ++ σ) H ∧
  (∀ i σ' H', i < N → W σ' H' → J.go i H' ∧ ∀ x H2, J.yld i H' x H2 → g x σ' H2 fun σ3 H3 => tt σ3 H3 fun b H4 => b = sel i ∧ if b = true then te σ3 H4 fun v H5 => R (rk sel i) v ∧ W σ3 H5 else W σ3 H4) ∧ (∀ σ' H', W σ' H' → J.stop N H') ∧ F (rk sel N) R fun _ => W
section
variable {X : Cx} {sc : Scope} {own N2 : List Str} {elt iter tg c : Expr} {pos : Pos} {wi : TI} {g : TG} {tt : TT} {te : TE} {P : Addr}
end
/-! ### max of a generator -/
def mx (val : Nat → Int) : Nat → Int
  | 0 => val 0
  | k + 1 => if val (k + 1) > mx val k then val (k + 1) else mx val k
section
variable {X : Cx} {sc : Scope} {N' : List Str} {code : Value} {sC : Shared} {HC : Hp} {fp : List Addr} {tn : Nat → Heap → Prop} {cnt : Nat} {R : Nat → V → Prop} {W : Nat → St → Hp → Prop} {a S : Addr} {pins : List (Addr × Obj)} {σ : St} {Rr : Result → Shared → Prop}
end
/-- max(e for tg in iter if c) -/
def MaxRdF (k : Nat) (P : Addr) (g : TG) (tt : TT) (te : TE) (σ : St) (J : It) (H1 : Hp) (Q : VK) : Prop := H1 P = some (tabO P) ∧ GenRdF k g tt te σ (fun cnt R W => 0 < cnt ∧ ∃ val : Nat → Int, (∀ i v, i < cnt → R i v → v = .int (val i)) ∧ ∀ σ' H', W cnt σ' H' → Q (.int (mx val (cnt - 1))) H') J H1
def tMaxGF (k : Nat) (P : Addr) (wi : TI) (g : TG) (tt : TT) (te : TE) : TE := fun σ H Q => wi σ H fun J H1 => MaxRdF k P g tt te σ J H1 Q
section
variable {X : Cx} {sc : Scope} {N2 : List Str} {x : Str} {px : Pos} {elt iter c : Expr} {gpos p pos : Pos} {wi : TI} {tt : TT} {te : TE} {P : Addr}
end
end L2

namespace L2
open PySem PySem.Spec PyProof.Rows
/-! ### list comprehensions of several clauses -/
def ifsM (ifs : List Expr) (env : Env) : Sem Bool := forIn ifs true fun c r => if r = true then (do let ok ← isTrue c env (eval c env); pure (ForInStep.yield ok)) else pure (ForInStep.yield r)
def emitM (elt : Expr) (acc : Value) (env : Env) : Sem Unit := eval elt env >>= fun x => call (.builtin "list.append") [acc, x] >>= fun _ => pure ()
section
variable {X : Cx}
/-- what a turn of a clause comes to: the element, or the next clause's loop -/
def NextC (X : Cx) (e elt : Expr) (gens : List Comprehension) (d : Nat) (acc : Value) (Post : Shared → Prop) (s : Shared) : Prop :=
  match gens[d + 1]? with
  | none => wpAny (model X.prog X.w) X.A (eval elt X.env) (fun x s₃ => wpAny (model X.prog X.w) X.A (call (.builtin "list.append") [acc, x]) (fun _ s₄ => Post s₄) (fun _ _ => False) s₃) (fun _ _ => False) s
  | some g' => wpAny (model X.prog X.w) X.A (eval g'.iter X.env) (fun x s₃ => wpAny (model X.prog X.w) X.A (pyIter x) (fun y s₄ => codeAny (model X.prog X.w) X.A (.compStart e (d + 1) y acc X.env) (fun r s' => r = .ok .next ∧ Post s') s₄) (fun _ _ => False) s₃) (fun _ _ => False) s
def turnM (e : Expr) (d : Nat) (tg iter : Expr) (ifs : List Expr) (next : Sem Unit) (it acc : Value) (env : Env) : Sem Fin := standAt iter.pos >>= fun _ => pyNext it >>= fun r => match r with
  | none => pure (.done .next)
  | some v => letOwnedTupleGo tg it v >>= fun _ => assign tg env v >>= fun _ => ifsM ifs env >>= fun ok => if ok = true then next >>= fun _ => again (.compLoop e d it acc env) else again (.compLoop e d it acc env)
def turnN (e : Expr) (d : Nat) (tg iter : Expr) (ifs : List Expr) (iter2 : Expr) (it acc : Value) (env : Env) : Sem Fin := standAt iter.pos >>= fun _ => pyNext it >>= fun r => match r with
  | none => pure (.done .next)
  | some v => letOwnedTupleGo tg it v >>= fun _ => assign tg env v >>= fun _ => ifsM ifs env >>= fun ok => if ok = true then (eval iter2 env >>= fun x => standAt iter2.pos >>= fun _ => foldedSetIterable iter2 env x >>= fun x => holding [x] (pyIter x) >>= fun y => runOwn (.compStart e (d + 1) y acc env) env >>= fun _ => again (.compLoop e d it acc env)) else again (.compLoop e d it acc env)
/-- tests of a clause -/
def PIf (X : Cx) (ifs : List Expr) (tt : TT) : Prop := ∀ pins s σ H Q, Inv X pins σ H s → tt σ H Q → wpAny (model X.prog X.w) X.A (ifsM ifs X.env) (fun b s' => ∃ H', Inv X pins σ H' s' ∧ Q b H') X.xe s
def tYes : TT := fun _ H Q => Q true H
abbrev TB := St → Hp → (St → Hp → Prop) → Prop
/-- what a clause's turn asks of the rest -/
def PN (X : Cx) (e elt : Expr) (gens : List Comprehension) (d : Nat) (D : Addr) (b : TB) : Prop := ∀ pins s σ H K, Inv X pins σ H s → b σ H K → NextC X e elt gens d (.ref D) (fun s' => ∃ σ' H', Inv X pins σ' H' s' ∧ K σ' H') s
def tEmit (te : TE) (D : Addr) : TB := fun σ H K => te σ H fun v H' => ∃ acc, H' D = some (.lst acc) ∧ acc.length < sizeLine ∧ K σ (upd H' D (.lst (acc ++ [v])))
def tLoopB (J : It) (g : TG) (tt : TT) (b : TB) (σ : St) (H1 : Hp) (K : St → Hp → Prop) : Prop := ∃ W : Nat → Nat → St → Hp → Prop, (∃ m, W 0 m σ H1) ∧ ∀ i m σ' H', W i m σ' H' →
  (J.stop i H' ∧ K σ' H') ∨ (J.go i H' ∧ ∀ x H2, J.yld i H' x H2 → g x σ' H2 fun σ3 H3 => tt σ3 H3 fun ok H4 => if ok = true then b σ3 H4 (fun σ5 H5 => ∃ m', m' < m ∧ W (i + 1) m' σ5 H5) else ∃ m', m' < m ∧ W (i + 1) m' σ3 H4)
def tClause (wi : TI) (g : TG) (tt : TT) (b : TB) : TB := fun σ H K => wi σ H fun J H1 => tLoopB J g tt b σ H1 K
end
/-- [e for tg in iter if .. for ..] -/
def CompRdN (k : Nat) (g : TG) (tt : TT) (b : Addr → TB) (σ : St) (J : It) (H1 : Hp) (D : Addr) (Q : VK) : Prop := tLoopB J g tt (b D) (List.replicate k none ++ σ) (upd H1 D (.lst [])) (fun _ H' => Q (.ref D) H')
def tCompN (k : Nat) (wi : TI) (g : TG) (tt : TT) (b : Addr → TB) : TE := fun σ H Q => wi σ H fun J H1 => ∀ D, H1 D = none → CompRdN k g tt b σ J H1 D Q
section
variable {X : Cx} {sc : Scope} {own N2 : List Str}
variable {x y : Str} {px py' : Pos} {elt iter iter2 : Expr} {pos : Pos} {wi wi2 : TI} {te : TE}
end
end L2

namespace L2
open PySem PySem.Spec PyProof.Rows
/-- what has been laid of a grid of rows -/
structure GridAt (H1 : Hp) (D : Addr) (k : Nat) (f : Nat → Nat → List V) (t : Nat) (bs : List Addr) (H' : Hp) : Prop where
  same : Same H1 H'
  at' : H' D = some (.lst (bs.map V.ref))
  fresh : ∀ b ∈ bs, H1 b = none
  nD : D ∉ bs
  nd : bs.Nodup
  rows : Paired (fun (i : Nat) b => H' b = some (.lst (f (i / k) (i % k)))) (List.range t) bs
end L2
namespace L2
open PySem PySem.Spec PyProof.Rows
end L2

namespace L2
open PySem PySem.Spec PyProof.Rows
/-! lifts -/
def slopeT (m : List (List Int)) (x : Nat → Int) (j : Nat) : Int := x 0 * ent m 0 j + x 1 * ent m 1 j + x 2 * ent m 2 j
/-- the lift, as the program makes it -/
structure LiftAt (m : List (List Int)) (p : Int) (x : Nat → Int) (i : Nat) (t : Int) : Prop where
  hi : i < 3
  sl : slopeT m x i % p ≠ 0
  flat : ∀ j, i < j → j < 3 → slopeT m x j % p = 0
  lo : 0 ≤ t
  up : t < p
  eq : (halfT m x / p + t * slopeT m x i) % p = 0
def liftR (p : Int) (x : Nat → Int) (i : Nat) (t : Int) : Nat → Int := fun j => if j = i then x j + t * p else x j
/-- the rows as the law goes through them -/
def digit (n k j : Nat) : Nat := if j = 0 then k / (n * n) else if j = 1 then k / n % n else k % n
def vecL (n : Nat) (x : Nat → Int) (k : Nat) : Nat → Int := fun j => x j + (digit n k j : Int) * n
/-- the place of the lift among the rows gone through -/
def placeL (n i : Nat) (t : Nat) : Nat := if i = 0 then t * (n * n) else if i = 1 then t * n else t
end L2
namespace L2
open PySem PySem.Spec PyProof.Rows
end L2

namespace L2
open PySem PySem.Spec PyProof.Rows
section
variable {X : Cx}
/-- xs.index(k) of a list of flat values -/
def rIndex (K : PySem.W.Frag) : V → List V → Hp → VK → Prop := fun x vs H Q => ∃ l xs y, ∃ j : Nat, x = .ref l ∧ vs = [y] ∧ SqL K H l xs ∧ flatV y = true ∧ xs.all flatV = true ∧ (∃ z, xs[j]? = some z ∧ eqV z y = true) ∧ (∀ (i : Nat) z, i < j → xs[i]? = some z → eqV z y = false) ∧ Q (.int (j : Int)) H
end
end L2

namespace L2
open PySem PySem.Spec PyProof.Rows
end L2

namespace L2
open PySem PySem.Spec PyProof.Rows
section
variable {prog : Program} {w : World} {A : Around} {E : Value → Shared → Prop} {s : Shared}
end
section
variable {X : Cx}
/-- what is wanted of xs[:] = ys -/
def gSlc (to : TE) : TG := fun v σ H k => to σ H fun x H1 => ∃ (l b : Addr) (xs ys : List V), x = .ref l ∧ v = .ref b ∧ H1 l = some (.lst xs) ∧ H1 b = some (.lst ys) ∧ l ≠ b ∧ xs.length + ys.length ≤ sizeLine ∧ k σ (upd H1 l (.lst ys))
end
end L2

namespace L2
open PySem PySem.Spec PyProof.Rows
section
variable {X : Cx}
/-- xs.count(k) of a list of flat values -/
def rCount (K : PySem.W.Frag) : V → List V → Hp → VK → Prop := fun x vs H Q => ∃ l xs y, x = .ref l ∧ vs = [y] ∧ SqL K H l xs ∧ flatV y = true ∧ xs.all flatV = true ∧ Q (.int ((xs.filter fun z => eqV z y).length : Int)) H
end
end L2

namespace L2
open PySem PySem.Spec PyProof.Rows
/-- x in a list of things, by what they are worth -/
def rInD (K : PySem.W.Frag) (neg : Bool) : R2 := fun x y H Q => ∃ p xs d ds, y = .ref p ∧ SqL K H p xs ∧ RdV K H x d ∧ SeqAt.shaped d = true ∧ RdVs K H xs ds ∧ ds.all SeqAt.shaped = true ∧ Q (.bl (if neg then !(ds.any fun e => PyData.eqv e d) else ds.any fun e => PyData.eqv e d)) H
section
variable {X : Cx} {pins : List (Addr × Obj)} {σ : St} {H : Hp} {s : Shared}
open Classical in
end
end L2

set_option maxHeartbeats 1000000
namespace CL
open PySem L2
def top (i : Nat) : Stmt := PySem.Challenge.pw_conekin_k77_forms_not_written.main.body.getD i (.Pass ⟨0, 0, 0, 0⟩)
abbrev s_is_whole : Stmt := top 13
theorem sc_is_whole : FnScope ["thing"] ["thing"] (defScope s_is_whole) := ⟨rfl, rfl, rfl, by decide +kernel, rfl, by decide +kernel, by decide +kernel⟩
abbrev s_is_row : Stmt := top 14
theorem sc_is_row : FnScope ["thing"] ["thing"] (defScope s_is_row) := ⟨rfl, rfl, rfl, by decide +kernel, rfl, by decide +kernel, by decide +kernel⟩
abbrev s_is_table : Stmt := top 15
theorem sc_is_table : FnScope ["thing"] ["thing"] (defScope s_is_table) := ⟨rfl, rfl, rfl, by decide +kernel, rfl, by decide +kernel, by decide +kernel⟩
abbrev s_turned_over : Stmt := top 16
theorem sc_turned_over : FnScope ["table"] ["table"] (defScope s_turned_over) := ⟨rfl, rfl, rfl, by decide +kernel, rfl, by decide +kernel, by decide +kernel⟩
abbrev s_signed_minor : Stmt := top 17
theorem sc_signed_minor : FnScope ["table", "i", "j", "row", "next_row", "column", "next_column"] ["table", "i", "j"] (defScope s_signed_minor) := ⟨rfl, rfl, rfl, by decide +kernel, rfl, by decide +kernel, by decide +kernel⟩
abbrev s_determinant : Stmt := top 18
theorem sc_determinant : FnScope ["table", "a", "b", "c", "d", "e", "f", "g", "h", "i"] ["table"] (defScope s_determinant) := ⟨rfl, rfl, rfl, by decide +kernel, rfl, by decide +kernel, by decide +kernel⟩
abbrev s_cover : Stmt := top 19
theorem sc_cover : FnScope ["table"] ["table"] (defScope s_cover) := ⟨rfl, rfl, rfl, by decide +kernel, rfl, by decide +kernel, by decide +kernel⟩
abbrev s_is_even_table : Stmt := top 22
theorem sc_is_even_table : FnScope ["thing"] ["thing"] (defScope s_is_even_table) := ⟨rfl, rfl, rfl, by decide +kernel, rfl, by decide +kernel, by decide +kernel⟩
abbrev s_is_form : Stmt := top 23
theorem sc_is_form : FnScope ["thing"] ["thing"] (defScope s_is_form) := ⟨rfl, rfl, rfl, by decide +kernel, rfl, by decide +kernel, by decide +kernel⟩
abbrev s_low_row : Stmt := top 24
theorem sc_low_row : FnScope ["table", "first", "mixed"] ["table"] (defScope s_low_row) := ⟨rfl, rfl, rfl, by decide +kernel, rfl, by decide +kernel, by decide +kernel⟩
abbrev s_half : Stmt := top 25
theorem sc_half : FnScope ["form", "told"] ["form"] (defScope s_half) := ⟨rfl, rfl, rfl, by decide +kernel, rfl, by decide +kernel, by decide +kernel⟩
abbrev s_numbers_of : Stmt := top 28
theorem sc_numbers_of : FnScope ["form"] ["form"] (defScope s_numbers_of) := ⟨rfl, rfl, rfl, by decide +kernel, rfl, by decide +kernel, by decide +kernel⟩
abbrev s_term : Stmt := top 29
theorem sc_term : FnScope ["number", "letters"] ["number", "letters"] (defScope s_term) := ⟨rfl, rfl, rfl, by decide +kernel, rfl, by decide +kernel, by decide +kernel⟩
abbrev s_show : Stmt := top 30
theorem sc_show : FnScope ["form", "numbers", "told", "number", "letters", "joint"] ["form"] (defScope s_show) := ⟨rfl, rfl, rfl, by decide +kernel, rfl, by decide +kernel, by decide +kernel⟩
abbrev s__law_bag : Stmt := top 32
theorem sc__law_bag : FnScope ["_law_script", "_law_at", "_law_cell", "_law_great"] ["_law_script", "_law_at"] (defScope s__law_bag) := ⟨rfl, rfl, rfl, by decide +kernel, rfl, by decide +kernel, by decide +kernel⟩
abbrev s__law_take : Stmt := top 33
theorem sc__law_take : FnScope ["_law_bag_here", "_law_many", "_law_digit"] ["_law_bag_here", "_law_many"] (defScope s__law_take) := ⟨rfl, rfl, rfl, by decide +kernel, rfl, by decide +kernel, by decide +kernel⟩
abbrev s__law_determinant : Stmt := top 34
theorem sc__law_determinant : FnScope ["_law_t", "_law_first", "_law_second"] ["_law_t"] (defScope s__law_determinant) := ⟨rfl, rfl, rfl, by decide +kernel, rfl, by decide +kernel, by decide +kernel⟩
abbrev s__law_pairing : Stmt := top 35
theorem sc__law_pairing : FnScope ["_law_form", "_law_one", "_law_other", "_law_total", "_law_i", "_law_j"] ["_law_form", "_law_one", "_law_other"] (defScope s__law_pairing) := ⟨rfl, rfl, rfl, by decide +kernel, rfl, by decide +kernel, by decide +kernel⟩
abbrev s__law_product : Stmt := top 36
abbrev s__law_carried : Stmt := top 37
theorem sc__law_carried : FnScope ["_law_form", "_law_by"] ["_law_form", "_law_by"] (defScope s__law_carried) := ⟨rfl, rfl, rfl, by decide +kernel, rfl, by decide +kernel, by decide +kernel⟩
abbrev s__law_drawn_form : Stmt := top 38
theorem sc__law_drawn_form : FnScope ["_law_bag_here", "_law_a", "_law_b", "_law_c", "_law_one", "_law_other", "_law_third"] ["_law_bag_here"] (defScope s__law_drawn_form) := ⟨rfl, rfl, rfl, by decide +kernel, rfl, by decide +kernel, by decide +kernel⟩
abbrev s__law_is_above : Stmt := top 39
theorem sc__law_is_above : FnScope ["_law_form"] ["_law_form"] (defScope s__law_is_above) := ⟨rfl, rfl, rfl, by decide +kernel, rfl, by decide +kernel, by decide +kernel⟩
abbrev s__law_reduced : Stmt := top 40
theorem sc__law_reduced : FnScope ["_law_bag_here", "_law_most", "_law_turn", "_law_form", "_law_last"] ["_law_bag_here", "_law_most"] (defScope s__law_reduced) := ⟨rfl, rfl, rfl, by decide +kernel, rfl, by decide +kernel, by decide +kernel⟩
abbrev s__law_basis : Stmt := top 41
theorem sc__law_basis : FnScope ["_law_bag_here", "_law_far", "_law_made", "_law_turn", "_law_i", "_law_j", "_law_times"] ["_law_bag_here", "_law_far"] (defScope s__law_basis) := ⟨rfl, rfl, rfl, by decide +kernel, rfl, by decide +kernel, by decide +kernel⟩
abbrev s__law_copy : Stmt := top 42
theorem sc__law_copy : FnScope ["_law_table"] ["_law_table"] (defScope s__law_copy) := ⟨rfl, rfl, rfl, by decide +kernel, rfl, by decide +kernel, by decide +kernel⟩
abbrev s__law_kind : Stmt := top 43
theorem sc__law_kind : FnScope ["_law_e", "_law_names"] ["_law_e"] (defScope s__law_kind) := ⟨rfl, rfl, rfl, by decide +kernel, rfl, by decide +kernel, by decide +kernel⟩
abbrev s__law_odd_form : Stmt := top 44
theorem sc__law_odd_form : FnScope ["_law_bag_here", "_law_form", "_law_way", "_law_odd"] ["_law_bag_here", "_law_form"] (defScope s__law_odd_form) := ⟨rfl, rfl, rfl, by decide +kernel, rfl, by decide +kernel, by decide +kernel⟩
abbrev s__law_great_form : Stmt := top 45
theorem sc__law_great_form : FnScope ["_law_bag_here", "_law_most", "_law_way", "_law_more", "_law_form"] ["_law_bag_here", "_law_most"] (defScope s__law_great_form) := ⟨rfl, rfl, rfl, by decide +kernel, rfl, by decide +kernel, by decide +kernel⟩
abbrev s__law_asked : Stmt := top 46
theorem sc__law_asked : FnScope ["_law_form", "_law_heard", "_law_e"] ["_law_form"] (defScope s__law_asked) := ⟨rfl, rfl, rfl, by decide +kernel, rfl, by decide +kernel, by decide +kernel⟩
abbrev s_law : Stmt := top 47
theorem sc_law : FnScope ["_law_script", "_law_k", "_law_bag_here", "_law_form", "_law_turn"] ["_law_script"] (defScope s_law) := ⟨rfl, rfl, rfl, by decide +kernel, rfl, by decide +kernel, by decide +kernel⟩
section
variable {P : Program} {w : World} {K : PySem.W.Frag} {mg : Str → Option Value} {base : Heap}
def spOver : Sp := fun vs H Q _ => ∃ (t1 : Addr) (b1 : List Addr) (m1 : List (List Int)), vs = [.ref t1] ∧ Tab H t1 b1 m1 ∧ is33 m1 ∧
  ∀ r bs H', Same H H' → H r = none → (∀ b ∈ bs, H b = none) → r ∉ bs → Tab H' r bs (overT m1) → Q (.ref r) H'
theorem ok_turned_over {f : Addr} {fd : FuncData} (F : Fun K "turned_over" "turned_over" s_turned_over f fd) (z_range : mg "range" = none) : FnOk P w K mg base CX0 1 f fd ["table"] spOver := by
  refine F.ok sc_turned_over (fun vs H Q E h => ?_) (fun cdv A outer s H vs Q E hr h => ?_)
  · obtain ⟨t1, b1, m1, rfl, h1, c1, q⟩ := h
    rfl
  obtain ⟨t1, b1, m1, rfl, h1, c1, q⟩ := h
  have hu := hr.units
  refine ⟨_, (pss_one (ps_ret (pe_lc1 (N2 := ["table"]) (te := (tComp 1 (iRng1 (tCons (tC (.int 3)) tNil)) (gName 0) (tOp (rIxL K) (tOp (rIxL K) (tVar 2) (tVar 0)) (tVar 1)))) rfl (pi_range1 rfl z_range (pa_cons pe_int pa_nil)) (by kernel_rfl) rfl (fun _ _ _ => by exact asPE (pe_lc1 (N2 := ["i", "table"]) (te := (tOp (rIxL K) (tOp (rIxL K) (tVar 2) (tVar 0)) (tVar 1))) rfl (pi_range1 rfl z_range (pa_cons pe_int pa_nil)) (by kernel_rfl) rfl (fun _ _ _ => by exact asPE (pe_ix ix_list (pe_ix ix_list (pv 2) (pv 0) (fun _ _ => rfl)) (pv 1) (fun _ _ => rfl)))))))), ?_⟩
  refine ⟨3, rfl, by decide, by decide, fun D hD => tabJ_rd (jw_range (n := 3)) rfl hD _ (fun i x hi ex H1 Q1 s1 k1 => ?_) (fun bs H1 s1 fr nD hT => q D bs H1 s1 hD fr nD hT)⟩
  obtain ⟨_, rfl⟩ := range_get ex
  refine ⟨3, rfl, by decide, by decide, fun D2 hD2 => rowJ_rd (jw_range (n := 3)) rfl hD2 (fun j => ent m1 j i) (fun j x hj ex2 H2 Q2 s2 k2 => ?_) (fun H2 s2 e2 => k1 D2 H2 hD2 s2 e2)⟩
  obtain ⟨_, rfl⟩ := range_get ex2
  have sm := s1.trans s2
  obtain ⟨b, row, e1, e2, e3⟩ := tab_ent (h1.same sm) c1 hj hi
  exact ⟨_, rfl, _, rfl, t1, _, _, _, rfl, rfl, SqL.of (h1.same sm).1, e1, _, rfl, b, _, _, _, rfl, rfl, SqL.of e2, e3, k2 H2 (Same.refl _)⟩
def spMinor (K : PySem.W.Frag) : Sp := fun vs H Q _ => ∃ (t : Addr) (bs : List Addr) (m : List (List Int)) (i j : Nat), vs = [.ref t, .int (i : Int), .int (j : Int)] ∧ Tab H t bs m ∧ is33 m ∧ i < 3 ∧ j < 3 ∧ Bd 4096 m ∧ Q (.int (minT m i j)) H
theorem ok_signed_minor {f : Addr} {fd : FuncData} (F : Fun K "signed_minor" "signed_minor" s_signed_minor f fd)  : FnOk P w K mg base CX0 1 f fd ["table", "i", "j"] (spMinor K) := by
  refine F.ok sc_signed_minor (fun vs H Q E h => ?_) (fun cdv A outer s H vs Q E hr h => ?_)
  · obtain ⟨t, bs, m, i, j, rfl, hT, h33, hi, hj, hB, q⟩ := h
    rfl
  obtain ⟨t, bs, m, i, j, rfl, hT, h33, hi, hj, hB, q⟩ := h
  have hu := hr.units
  refine ⟨_, (fss (@fs_cons _ _ _ _ _ (ps_par (i := 3) (j := 4) rfl sc_signed_minor.nd rfl rfl (by decide) rfl rfl (pa_cons (pe_ix ix_list (pv 0) (pe_op op_mod (pe_op op_add (pv 1) pe_int) pe_int) (fun _ _ => rfl)) (pa_cons (pe_ix ix_list (pv 0) (pe_op op_mod (pe_op op_add (pv 1) pe_int) pe_int) (fun _ _ => rfl)) pa_nil)) rfl)
    (@fs_cons _ _ _ _ _ (ps_par (i := 5) (j := 6) rfl sc_signed_minor.nd rfl rfl (by decide) rfl rfl (pa_cons (pe_op op_mod (pe_op op_add (pv 2) pe_int) pe_int) (pa_cons (pe_op op_mod (pe_op op_add (pv 2) pe_int) pe_int) pa_nil)) rfl)
    (@fs_one _ _ _ (ps_ret (pe_op op_sub (pe_op op_mulB (pe_ix ix_list (pv 3) (pv 5) (fun _ _ => rfl)) (pe_ix ix_list (pv 4) (pv 6) (fun _ _ => rfl))) (pe_op op_mulB (pe_ix ix_list (pv 3) (pv 6) (fun _ _ => rfl)) (pe_ix ix_list (pv 4) (pv 5) (fun _ _ => rfl))))))))), ?_⟩
  obtain ⟨b, e1, e2, _⟩ := tab_row3 hT h33 (i := (i + 1) % 3) (lt3 _)
  obtain ⟨b', e1', e2', _⟩ := tab_row3 hT h33 (i := (i + 2) % 3) (lt3 _)
  rw [← m3 i 1] at e1
  rw [← m3 i 2] at e1'
  refine ⟨_, rfl, _, rfl, _, _, rfl, rfl, _, _, rfl, rfl, (by show (0 : Int) < 3; decide), t, _, _, _, rfl, rfl, SqL.of hT.1, e1, ?_⟩
  refine ⟨_, rfl, _, rfl, _, _, rfl, rfl, _, _, rfl, rfl, (by show (0 : Int) < 3; decide), t, _, _, _, rfl, rfl, SqL.of hT.1, e1', _, _, rfl, ?_⟩
  refine ⟨_, rfl, _, _, rfl, rfl, _, _, rfl, rfl, (by show (0 : Int) < 3; decide), _, rfl, _, _, rfl, rfl, _, _, rfl, rfl, (by show (0 : Int) < 3; decide), _, _, rfl, ?_⟩
  have a1 := at3n (fun c => ent m ((i + 1) % 3) c) (c := (j + 1) % 3) (lt3 _)
  have a2 := at3n (fun c => ent m ((i + 2) % 3) c) (c := (j + 2) % 3) (lt3 _)
  have a3 := at3n (fun c => ent m ((i + 1) % 3) c) (c := (j + 2) % 3) (lt3 _)
  have a4 := at3n (fun c => ent m ((i + 2) % 3) c) (c := (j + 1) % 3) (lt3 _)
  rw [← m3 j 1] at a1 a4
  rw [← m3 j 2] at a2 a3
  refine ⟨_, rfl, _, rfl, b, _, _, _, rfl, rfl, SqL.of e2, a1, _, rfl, _, rfl, b', _, _, _, rfl, rfl, SqL.of e2', a2, _, _, rfl, rfl, ⟨hB _ _ (lt3 _) (lt3 _), hB _ _ (lt3 _) (lt3 _)⟩, ?_⟩
  exact ⟨_, rfl, _, rfl, b, _, _, _, rfl, rfl, SqL.of e2, a3, _, rfl, _, rfl, b', _, _, _, rfl, rfl, SqL.of e2', a4, _, _, rfl, rfl, ⟨hB _ _ (lt3 _) (lt3 _), hB _ _ (lt3 _) (lt3 _)⟩, _, _, rfl, rfl, q⟩
theorem tab_rows {H : Hp} {t : Addr} {bs : List Addr} {m : List (List Int)} (hT : Tab H t bs m) (h33 : is33 m) : ∃ c0 c1 c2, bs = [c0, c1, c2] ∧ RowAt H c0 (fun c => ent m 0 c) ∧ RowAt H c1 (fun c => ent m 1 c) ∧ RowAt H c2 (fun c => ent m 2 c) := by
  have l3 : bs.length = 3 := by rw [← hT.2.length, h33.1]
  match bs, l3, hT with
  | [c0, c1, c2], _, hT =>
    obtain ⟨b0, x1, x2, _⟩ := tab_row3 hT h33 (i := 0) (by decide)
    obtain ⟨b1, y1, y2, _⟩ := tab_row3 hT h33 (i := 1) (by decide)
    obtain ⟨b2, w1, w2, _⟩ := tab_row3 hT h33 (i := 2) (by decide)
    cases x1; cases y1; cases w1
    exact ⟨c0, c1, c2, rfl, x2, y2, w2⟩
def spDet : Sp := fun vs H Q _ => ∃ (t : Addr) (bs : List Addr) (m : List (List Int)), vs = [.ref t] ∧ Tab H t bs m ∧ is33 m ∧ Bd 1000 m ∧ True ∧ ∀ H', Same H H' → Q (.int (detT m)) H'
theorem ok_determinant {f : Addr} {fd : FuncData} (F : Fun K "determinant" "determinant" s_determinant f fd)  : FnOk P w K mg base CX0 3 f fd ["table"] spDet := by
  refine F.ok sc_determinant (fun vs H Q E h => ?_) (fun cdv A outer s H vs Q E hr h => ?_)
  · obtain ⟨t, bs, m, rfl, hT, h33, hB, hP, q⟩ := h
    rfl
  obtain ⟨t, bs, m, rfl, hT, h33, hB, hP, q⟩ := h
  have hu := hr.units
  refine ⟨_, (fss (@fs_cons _ _ _ _ _ (ps_asg (pv 0) (pg_tupL rfl (pgs_cons (pg_tupL rfl (pgs_cons (pg_name (i := 1) sc_determinant.nd rfl (Or.inl rfl)) (pgs_cons (pg_name (i := 2) sc_determinant.nd rfl (Or.inl rfl)) (pgs_cons (pg_name (i := 3) sc_determinant.nd rfl (Or.inl rfl)) pgs_nil)))) (pgs_cons (pg_tupL rfl (pgs_cons (pg_name (i := 4) sc_determinant.nd rfl (Or.inl rfl)) (pgs_cons (pg_name (i := 5) sc_determinant.nd rfl (Or.inl rfl)) (pgs_cons (pg_name (i := 6) sc_determinant.nd rfl (Or.inl rfl)) pgs_nil)))) (pgs_cons (pg_tupL rfl (pgs_cons (pg_name (i := 7) sc_determinant.nd rfl (Or.inl rfl)) (pgs_cons (pg_name (i := 8) sc_determinant.nd rfl (Or.inl rfl)) (pgs_cons (pg_name (i := 9) sc_determinant.nd rfl (Or.inl rfl)) pgs_nil)))) pgs_nil)))))
    (@fs_one _ _ _ (ps_ret (pe_op op_add (pe_op op_add (pe_op op_mulB (pv 1) (pe_op op_sub (pe_op op_mulB (pv 5) (pv 9)) (pe_op op_mulB (pv 6) (pv 8)))) (pe_op op_mulB (pv 2) (pe_op op_sub (pe_op op_mulB (pv 6) (pv 7)) (pe_op op_mulB (pv 4) (pv 9))))) (pe_op op_mulB (pv 3) (pe_op op_sub (pe_op op_mulB (pv 4) (pv 8)) (pe_op op_mulB (pv 5) (pv 7))))))))), ?_⟩
  obtain ⟨c0, c1, c2, rfl, x2, y2, w2⟩ := tab_rows hT h33
  refine ⟨_, rfl, t, _, rfl, SqL.of hT.1, rfl, _, _, rfl, c0, _, rfl, SqL.of x2, rfl, _, _, rfl, _, _, rfl, _, _, rfl, rfl, _, _, rfl, c1, _, rfl, SqL.of y2, rfl, _, _, rfl, _, _, rfl, _, _, rfl, rfl, _, _, rfl, c2, _, rfl, SqL.of w2, rfl, _, _, rfl, _, _, rfl, _, _, rfl, rfl, rfl, ?_⟩
  refine ⟨_, rfl, _, rfl, _, rfl, _, _, rfl, rfl, ⟨bd_up (hB 1 1 (by decide) (by decide)) (by decide), bd_up (hB 2 2 (by decide) (by decide)) (by decide)⟩, _, rfl, _, rfl, _, _, rfl, rfl, ⟨bd_up (hB 1 2 (by decide) (by decide)) (by decide), bd_up (hB 2 1 (by decide) (by decide)) (by decide)⟩, _, _, rfl, rfl, _, _, rfl, rfl, ⟨bd_up (hB 0 0 (by decide) (by decide)) (by decide), bd_up (bd_sub (bd_mul (hB 1 1 (by decide) (by decide)) (hB 2 2 (by decide) (by decide))) (bd_mul (hB 1 2 (by decide) (by decide)) (hB 2 1 (by decide) (by decide)))) (by decide)⟩, _, rfl, _, rfl, _, rfl, _, _, rfl, rfl, ⟨bd_up (hB 1 2 (by decide) (by decide)) (by decide), bd_up (hB 2 0 (by decide) (by decide)) (by decide)⟩, _, rfl, _, rfl, _, _, rfl, rfl, ⟨bd_up (hB 1 0 (by decide) (by decide)) (by decide), bd_up (hB 2 2 (by decide) (by decide)) (by decide)⟩, _, _, rfl, rfl, _, _, rfl, rfl, ⟨bd_up (hB 0 1 (by decide) (by decide)) (by decide), bd_up (bd_sub (bd_mul (hB 1 2 (by decide) (by decide)) (hB 2 0 (by decide) (by decide))) (bd_mul (hB 1 0 (by decide) (by decide)) (hB 2 2 (by decide) (by decide)))) (by decide)⟩, _, _, rfl, rfl, _, rfl, _, rfl, _, rfl, _, _, rfl, rfl, ⟨bd_up (hB 1 0 (by decide) (by decide)) (by decide), bd_up (hB 2 1 (by decide) (by decide)) (by decide)⟩, _, rfl, _, rfl, _, _, rfl, rfl, ⟨bd_up (hB 1 1 (by decide) (by decide)) (by decide), bd_up (hB 2 0 (by decide) (by decide)) (by decide)⟩, _, _, rfl, rfl, _, _, rfl, rfl, ⟨bd_up (hB 0 2 (by decide) (by decide)) (by decide), bd_up (bd_sub (bd_mul (hB 1 0 (by decide) (by decide)) (hB 2 1 (by decide) (by decide))) (bd_mul (hB 1 1 (by decide) (by decide)) (hB 2 0 (by decide) (by decide)))) (by decide)⟩, _, _, rfl, rfl, ?_⟩
  have e : ent m 0 0 * (ent m 1 1 * ent m 2 2 - ent m 1 2 * ent m 2 1) + ent m 0 1 * (ent m 1 2 * ent m 2 0 - ent m 1 0 * ent m 2 2) + ent m 0 2 * (ent m 1 0 * ent m 2 1 - ent m 1 1 * ent m 2 0) = detT m := by
    rw [detT_eq]
  have q := q H (Same.refl _)
  rw [← e] at q
  exact q
def spCover : Sp := fun vs H Q _ => ∃ (t1 : Addr) (b1 : List Addr) (m1 : List (List Int)), vs = [.ref t1] ∧ Tab H t1 b1 m1 ∧ is33 m1 ∧ Bd 4096 m1 ∧
  ∀ r bs H', Same H H' → H r = none → (∀ b ∈ bs, H b = none) → r ∉ bs → Tab H' r bs (covT m1) → Q (.ref r) H'
theorem ok_cover {f : Addr} {fd : FuncData} (F : Fun K "cover" "cover" s_cover f fd) (z_range : mg "range" = none) {f_signed_minor : Addr} {fd_signed_minor : FuncData} (G_signed_minor : FnOk P w K mg base CX0 1 f_signed_minor fd_signed_minor ["table", "i", "j"] (spMinor K)) (b_signed_minor : Binds K fd_signed_minor ["table", "i", "j"] []) (k_signed_minor : PySem.W.keepIn K (.ref f_signed_minor) = true) (m_signed_minor : mg "signed_minor" = some (.ref f_signed_minor)) : FnOk P w K mg base CX0 2 f fd ["table"] spCover := by
  refine F.ok sc_cover (fun vs H Q E h => ?_) (fun cdv A outer s H vs Q E hr h => ?_)
  · obtain ⟨t1, b1, m1, rfl, h1, c1, d1, q⟩ := h
    rfl
  obtain ⟨t1, b1, m1, rfl, h1, c1, d1, q⟩ := h
  have hu := hr.units
  refine ⟨_, (pss_one (ps_ret (pe_lc1 (N2 := ["table"]) (te := (tComp 1 (iRng1 (tCons (tC (.int 3)) tNil)) (gName 0) (tCall (spMinor K) [] E0 (tCons (tVar 2) (tCons (tVar 0) (tCons (tVar 1) tNil)))))) rfl (pi_range1 rfl z_range (pa_cons pe_int pa_nil)) (by kernel_rfl) rfl (fun _ _ _ => by exact asPE (pe_lc1 (N2 := ["i", "table"]) (te := (tCall (spMinor K) [] E0 (tCons (tVar 2) (tCons (tVar 0) (tCons (tVar 1) tNil))))) rfl (pi_range1 rfl z_range (pa_cons pe_int pa_nil)) (by kernel_rfl) rfl (fun _ _ _ => by exact asPE (pe_call G_signed_minor hr rfl m_signed_minor k_signed_minor b_signed_minor .nil pass0 (pa_cons (pv 2) (pa_cons (pv 0) (pa_cons (pv 1) pa_nil)))))))))), ?_⟩
  refine ⟨3, rfl, by decide, by decide, fun D hD => tabJ_rd (jw_range (n := 3)) rfl hD (fun i j => minT m1 j i) (fun i x hi ex H1 Q1 s1 k1 => ?_) (fun bs H1 s1 fr nD hT => q D bs H1 s1 hD fr nD hT)⟩
  obtain ⟨_, rfl⟩ := range_get ex
  refine ⟨3, rfl, by decide, by decide, fun D2 hD2 => rowJ_rd (jw_range (n := 3)) rfl hD2 (fun j => minT m1 j i) (fun j x hj ex2 H2 Q2 s2 k2 => ?_) (fun H2 s2 e2 => k1 D2 H2 hD2 s2 e2)⟩
  obtain ⟨_, rfl⟩ := range_get ex2
  exact ⟨_, rfl, _, rfl, _, rfl, t1, b1, m1, j, i, rfl, h1.same (s1.trans s2), c1, hj, hi, d1, k2 H2 (Same.refl _)⟩
def spLow : Sp := fun vs H Q _ => ∃ (t : Addr) (bs : List Addr) (m : List (List Int)), vs = [.ref t] ∧ Tab H t bs m ∧ is33 m ∧ Bd 440 m ∧ overT m = m ∧ True ∧ (aboveT m = true → ∀ H', Same H H' → Q .non H') ∧
  (aboveT m = false → ∀ (x : Nat → Int) a H', Same H H' → H a = none → RowAt H' a x → ¬ (x 0 = 0 ∧ x 1 = 0 ∧ x 2 = 0) → pairT m x x ≤ 0 → (∀ i, i < 3 → (x i).natAbs < 2 ^ 1000) → Q (.ref a) H')
theorem ok_low_row {f : Addr} {fd : FuncData} (F : Fun K "low_row" "low_row" s_low_row f fd)  {f_determinant : Addr} {fd_determinant : FuncData} (G_determinant : FnOk P w K mg base CX0 3 f_determinant fd_determinant ["table"] spDet) (b_determinant : Binds K fd_determinant ["table"] []) (k_determinant : PySem.W.keepIn K (.ref f_determinant) = true) (m_determinant : mg "determinant" = some (.ref f_determinant)) {f_cover : Addr} {fd_cover : FuncData} (G_cover : FnOk P w K mg base CX0 3 f_cover fd_cover ["table"] spCover) (b_cover : Binds K fd_cover ["table"] []) (k_cover : PySem.W.keepIn K (.ref f_cover) = true) (m_cover : mg "cover" = some (.ref f_cover)) : FnOk P w K mg base CX0 4 f fd ["table"] spLow := by
  refine F.ok sc_low_row (fun vs H Q E h => ?_) (fun cdv A outer s H vs Q E hr h => ?_)
  · obtain ⟨t, bs, m, rfl, hT, h33, hB, hS, hP, q1, q2⟩ := h
    rfl
  obtain ⟨t, bs, m, rfl, hT, h33, hB, hS, hP, q1, q2⟩ := h
  have hu := hr.units
  refine ⟨_, (fss (@fs_cons _ _ _ _ _ (ps_set (i := 1) sc_low_row.nd rfl (Or.inl rfl) (pe_ix ix_list (pe_ix ix_list (pv 0) pe_int (fun _ _ => rfl)) pe_int (fun _ _ => rfl)))
    (@fs_cons _ _ _ _ _ (ps_ifF (pt_cmpR op_le (pv 1) pe_int (nomark _)) (fs_ret (fe_lst (fa_cons fe_int (fa_cons fe_int (fa_cons fe_int fa_nil (by kernel_rfl)) (by kernel_rfl)) (by kernel_rfl)))) fs_nil)
    (@fs_cons _ _ _ _ _ (ps_set (i := 2) sc_low_row.nd rfl (Or.inl rfl) (pe_ix ix_list (pe_ix ix_list (pv 0) pe_int (fun _ _ => rfl)) pe_int (fun _ _ => rfl)))
    (@fs_cons _ _ _ _ _ (ps_ifF (pt_cmpR op_le (pe_op op_sub (pe_op op_mulB (pv 1) (pe_ix ix_list (pe_ix ix_list (pv 0) pe_int (fun _ _ => rfl)) pe_int (fun _ _ => rfl))) (pe_op op_mulB (pv 2) (pv 2))) pe_int (nomark _)) (@fs_one _ _ _ (ps_ret (pe_lst (pa_cons (pe_un un_neg (pv 2)) (pa_cons (pv 1) (pa_cons pe_int pa_nil)))))) fs_nil)
    (@fs_cons _ _ _ _ _ (ps_ifF (pt_cmpR op_le (pe_call G_determinant hr rfl m_determinant k_determinant b_determinant .nil pass0 (pa_cons (pv 0) pa_nil)) pe_int (nomark _)) (@fs_one _ _ _ (ps_ret (pe_ix ix_list (pe_call G_cover hr rfl m_cover k_cover b_cover .nil pass0 (pa_cons (pv 0) pa_nil)) pe_int (fun _ _ => rfl)))) fs_nil)
    (@fs_one _ _ _ (ps_ret pe_non)))))))), ?_⟩
  obtain ⟨c0, x1, x2, _⟩ := tab_row3 hT h33 (i := 0) (by decide)
  obtain ⟨c1, y1, y2, _⟩ := tab_row3 hT h33 (i := 1) (by decide)
  obtain ⟨c2, w1, w2, _⟩ := tab_row3 hT h33 (i := 2) (by decide)
  have b0 := hB 0 0 (by decide) (by decide)
  have b1 := hB 0 1 (by decide) (by decide)
  refine ⟨_, rfl, t, _, _, _, rfl, rfl, SqL.of hT.1, x1, c0, _, _, _, rfl, rfl, SqL.of x2, rfl, ?_⟩
  refine ⟨_, rfl, _, _, rfl, rfl, _, rfl, ite2 (fun c => ?_) (fun c => ?_)⟩
  · have c : ent m 0 0 ≤ 0 := of_decide_eq_true c
    have ab : aboveT m = false := by
      unfold aboveT
      rw [decide_eq_false (by omega), Bool.false_and]
    refine ⟨(by show 3 ≤ sizeLine; decide), fun r hr => ?_⟩
    refine q2 ab (fun i => if i = 0 then 1 else 0) r _ (Same.up hr) hr upd_same (fun z => by simp at z) (by rw [low1]; exact c) (fun i _ => ?_)
    show (if i = 0 then (1 : Int) else 0).natAbs < _
    exact bd_up (a := 1) (by split <;> decide) (by decide)
  have c : 0 < ent m 0 0 := by
    have : ¬ ent m 0 0 ≤ 0 := fun z => c (decide_eq_true z)
    omega
  refine ⟨_, rfl, t, _, _, _, rfl, rfl, SqL.of hT.1, x1, c0, _, _, _, rfl, rfl, SqL.of x2, rfl, ?_⟩
  refine ⟨_, rfl, _, rfl, t, _, _, _, rfl, rfl, SqL.of hT.1, y1, c1, _, _, _, rfl, rfl, SqL.of y2, rfl, _, _, rfl, rfl, ⟨bd_up (hB 0 0 (by decide) (by decide)) (by decide), bd_up (hB 1 1 (by decide) (by decide)) (by decide)⟩, _, rfl, _, rfl, _, _, rfl, rfl, ⟨bd_up (hB 0 1 (by decide) (by decide)) (by decide), bd_up (hB 0 1 (by decide) (by decide)) (by decide)⟩, _, _, rfl, rfl, _, _, rfl, rfl, _, rfl, ite2 (fun d => ?_) (fun d => ?_)⟩
  · have d : ent m 0 0 * ent m 1 1 - ent m 0 1 * ent m 0 1 ≤ 0 := of_decide_eq_true d
    have ab : aboveT m = false := by
      unfold aboveT
      rw [decide_eq_false (p := ent m 0 1 * ent m 0 1 < ent m 0 0 * ent m 1 1) (by omega), Bool.false_and, Bool.and_false]
    refine ⟨_, rfl, _, rfl, _, rfl, (by show 3 ≤ sizeLine; decide), fun r hr => ?_⟩
    refine q2 ab (fun i => match i with | 0 => -ent m 0 1 | 1 => ent m 0 0 | _ => 0) r _ (Same.up hr) hr upd_same (fun z => by have y : ent m 0 0 = 0 := z.2.1; omega) ?_ (fun i hi => ?_)
    · rw [low2 hS _ rfl rfl rfl]
      exact Int.mul_nonpos_of_nonneg_of_nonpos (by omega) d
    · rcases cases3 hi with rfl | rfl | rfl
      · show (-ent m 0 1).natAbs < _
        exact bd_up (a := 440) (by omega) (by decide)
      · exact bd_up b0 (by decide)
      · show (0 : Int).natAbs < _
        exact Nat.two_pow_pos _
  have d : 0 < ent m 0 0 * ent m 1 1 - ent m 0 1 * ent m 0 1 := by
    have : ¬ ent m 0 0 * ent m 1 1 - ent m 0 1 * ent m 0 1 ≤ 0 := fun z => d (decide_eq_true z)
    omega
  refine ⟨_, rfl, t, bs, m, rfl, hT, h33, hB.mono (by decide), hP, fun H1 s1 => ⟨_, _, rfl, rfl, _, rfl, ite2 (fun e => ?_) (fun e => ?_)⟩⟩
  · have e : detT m ≤ 0 := of_decide_eq_true e
    have ab : aboveT m = false := by
      unfold aboveT
      rw [decide_eq_false (p := 0 < detT m) (by omega), Bool.and_false, Bool.and_false]
    refine ⟨_, rfl, t, bs, m, rfl, hT.same s1, h33, hB.mono (by decide), fun r rs H2 s2 fr frs nr T2 => ?_⟩
    obtain ⟨k, k1, k2, k3⟩ := tab_row3 T2 (is33_mk3 _) (i := 2) (by decide)
    refine ⟨r, _, _, _, rfl, rfl, SqL.of T2.1, k1, ?_⟩
    have p22 : 0 < ent (covT m) 2 2 := by
      rw [cov22, sym_ent hS (i := 0) (j := 1) (by decide) (by decide)]
      exact d
    refine q2 ab (fun j => ent (covT m) 2 j) k H2 (s1.trans s2) (s1.none (frs k k3)) k2 (fun z => by have y : ent (covT m) 2 2 = 0 := z.2.2; omega) ?_ (fun j hj => ?_)
    · rw [low3]
      exact Int.mul_nonpos_of_nonpos_of_nonneg e (by omega)
    · show (ent (covT m) 2 j).natAbs < _
      rw [ent_covT m (by decide) hj]
      exact bd_up (bd_minT hB j 2) (by decide)
  · have e : 0 < detT m := by
      have : ¬ detT m ≤ 0 := fun z => e (decide_eq_true z)
      omega
    refine q1 ?_ H1 s1
    unfold aboveT
    rw [decide_eq_true c, decide_eq_true e, decide_eq_true (p := ent m 0 1 * ent m 0 1 < ent m 0 0 * ent m 1 1) (by omega)]
    rfl
def spWholeG : Sp := fun vs H Q _ => ∃ (v : V) (d : PyData), vs = [v] ∧ DV H v d ∧ Q (.bl (wholeD d)) H
theorem ok_is_whole {f : Addr} {fd : FuncData} (F : Fun K "is_whole" "is_whole" s_is_whole f fd) (z_isinstance : mg "isinstance" = none) (z_int : mg "int" = none) (z_bool : mg "bool" = none) : FnOk P w K mg base CX0 1 f fd ["thing"] spWholeG := by
  refine F.ok sc_is_whole (fun vs H Q E h => ?_) (fun cdv A outer s H vs Q E hr h => ?_)
  · obtain ⟨v, d, rfl, hv, q⟩ := h
    rfl
  obtain ⟨v, d, rfl, hv, q⟩ := h
  have hu := hr.units
  refine ⟨_, (pss_one (ps_ret (pe_and (pe_callB call_isinst rfl z_isinstance PyProof.Rows.boot_isinstance (pa_cons (pv 0) (pa_cons (pe_bltn (v := .ty "int") rfl z_int PyProof.Rows.boot_int rfl) pa_nil))) (pe_one (pe_not (pe_callB call_isinst rfl z_isinstance PyProof.Rows.boot_isinstance (pa_cons (pv 0) (pa_cons (pe_bltn (v := .ty "bool") rfl z_bool PyProof.Rows.boot_bool rfl) pa_nil)))))))), ?_⟩
  cases hv with
  | non => exact ⟨_, rfl, _, _, _, _, rfl, .non, kit_non_int K, _, rfl, iteF q⟩
  | bl b => exact ⟨_, rfl, _, _, _, _, rfl, .bl b, kit_bool_int K, _, rfl, iteT ⟨_, rfl, _, _, _, _, rfl, .bl b, kit_same K "bool", _, rfl, q⟩⟩
  | int i => exact ⟨_, rfl, _, _, _, _, rfl, .int i, kit_same K "int", _, rfl, iteT ⟨_, rfl, _, _, _, _, rfl, .int i, kit_int_bool K, _, rfl, q⟩⟩
  | str x => exact ⟨_, rfl, _, _, _, _, rfl, .str x, kit_str_int K, _, rfl, iteF q⟩
  | lst e _ => exact ⟨_, rfl, _, _, _, _, rfl, .lst e, kit_list_int K, _, rfl, iteF q⟩
  | tup e _ => exact ⟨_, rfl, _, _, _, _, rfl, .tup e, kit_tup_int K, _, rfl, iteF q⟩
def spRowG (T0 : Addr) : Sp := fun vs H Q _ => ∃ (v : V) (d : PyData), vs = [v] ∧ DV H v d ∧ H T0 = some (tabO T0) ∧ ∀ H', Same H H' → Q (.bl (rowD d)) H'
theorem ok_is_row {f : Addr} {fd : FuncData} {T_is_row : Addr} (F : FunT K "is_row" "is_row" s_is_row f fd T_is_row) (bm : BM mg base) (z_isinstance : mg "isinstance" = none) (z_list : mg "list" = none) (z_len : mg "len" = none) (z_all : mg "all" = none) {f_is_whole : Addr} {fd_is_whole : FuncData} (G_is_whole : FnOk P w K mg base CX0 1 f_is_whole fd_is_whole ["thing"] spWholeG) (b_is_whole : Binds K fd_is_whole ["thing"] []) (k_is_whole : PySem.W.keepIn K (.ref f_is_whole) = true) (m_is_whole : mg "is_whole" = some (.ref f_is_whole)) : FnOk P w K mg base CX0 3 f fd ["thing"] (spRowG T_is_row) := by
  refine F.ok sc_is_row (fun vs H Q E h => ?_) (fun cdv A outer s H vs Q E cd hr h => ?_)
  · obtain ⟨v, d, rfl, hv, q⟩ := h
    rfl
  obtain ⟨v, d, rfl, hv, q⟩ := h
  have hu := hr.units
  refine ⟨_, (fss (@fs_cons _ _ _ _ _ (ps_ifF (PW.pt (pw_or (pt_not (pt_val (pe_callB call_isinst rfl z_isinstance PyProof.Rows.boot_isinstance (pa_cons (pv 0) (pa_cons (pe_bltn (v := .ty "list") rfl z_list PyProof.Rows.boot_list rfl) pa_nil))))) (pw_or1 (pt_cmpR op_ne (pe_callB call_len_seq rfl z_len PySem.boot_len (pa_cons (pv 0) pa_nil)) pe_int (nomark _))))) (@fs_one _ _ _ (ps_ret pe_bl)) fs_nil)
    (@fs_one _ _ _ (ps_ret (pe_all1 (N2 := ["thing"]) (te := (tCall spWholeG [] E0 (tCons (tVar 0) tNil))) rfl (Room.depth hr) cd bm rfl z_all (pi_list (pv 0)) (by kernel_rfl) (fun _ _ _ _ => by exact asPE (pe_call G_is_whole (room_gen hr) rfl m_is_whole k_is_whole b_is_whole .nil pass0 (pa_cons (pv 0) pa_nil)))))))), ?_⟩
  by_cases hd : ∃ ds, d = .list ds
  · obtain ⟨ds, rfl⟩ := hd
    cases hv with
    | lst e hs =>
      have hl := hs.length
      refine ⟨_, rfl, _, _, _, _, rfl, .lst e, kit_same K "list", _, rfl, iteF ⟨_, rfl, _, _, rfl, .inl (SqL.of e), rfl, _, rfl, ite2 (fun c => ?_) (fun c => ?_)⟩⟩
      · have c' : ¬ ds.length = 3 := fun z => by
          rw [hl, z] at c
          exact absurd c (by decide)
        have e0 : rowD (.list ds) = false := by
          unfold rowD
          simp [c']
        rw [e0] at q
        exact q.2 H (Same.refl _)
      · have c' : ds.length = 3 := by
          rcases Nat.decEq ds.length 3 with z | z
          · exact absurd (by rw [hl, decide_eq_false (fun y => z (by have := V.int.inj y; omega))]; rfl) c
          · exact z
        refine ⟨_, rfl, _, rfl, ⟨_, SqL.of e⟩, all_rd (jw_list (SqL.of e)) q.1 (fun j => match ds[j]? with | some d => wholeD d | none => true) (fun j y ey H1 Q1 s1 k1 => ?_) (fun b H1 s1 hb => ?_)⟩
        · obtain ⟨d, ed, hy⟩ := hs.get ey
          rw [ed] at k1
          exact ⟨_, rfl, y, d, rfl, hy.same s1, k1 H1 (Same.refl _)⟩
        · have e1 := all_of (f := wholeD) hl hb
          have e2 : b = rowD (.list ds) := by
            rw [e1]
            unfold rowD
            simp [c']
          rw [e2]
          exact q.2 H1 s1
  · have e0 : rowD d = false := by
      cases d <;> first | rfl | exact absurd ⟨_, rfl⟩ hd
    rw [e0] at q
    obtain ⟨t, ty, kt⟩ := hv.noList K fun ds z => hd ⟨ds, z⟩
    exact ⟨_, rfl, _, _, _, _, rfl, ty, kt, _, rfl, iteT (iteT (q.2 H (Same.refl _)))⟩
def spTableG (T1 T0 : Addr) : Sp := fun vs H Q _ => ∃ (v : V) (d : PyData), vs = [v] ∧ DV H v d ∧ H T1 = some (tabO T1) ∧ H T0 = some (tabO T0) ∧ ∀ H', Same H H' → Q (.bl (tabD d)) H'
theorem ok_is_table {f : Addr} {fd : FuncData} {T_is_row T_is_table : Addr} (F : FunT K "is_table" "is_table" s_is_table f fd T_is_table) (bm : BM mg base) (z_isinstance : mg "isinstance" = none) (z_list : mg "list" = none) (z_len : mg "len" = none) (z_all : mg "all" = none) {f_is_row : Addr} {fd_is_row : FuncData} (G_is_row : FnOk P w K mg base CX0 3 f_is_row fd_is_row ["thing"] (spRowG T_is_row)) (b_is_row : Binds K fd_is_row ["thing"] []) (k_is_row : PySem.W.keepIn K (.ref f_is_row) = true) (m_is_row : mg "is_row" = some (.ref f_is_row)) : FnOk P w K mg base CX0 5 f fd ["thing"] (spTableG T_is_row T_is_table) := by
  refine F.ok sc_is_table (fun vs H Q E h => ?_) (fun cdv A outer s H vs Q E cd hr h => ?_)
  · obtain ⟨v, d, rfl, hv, hR, q⟩ := h
    rfl
  obtain ⟨v, d, rfl, hv, hR, q⟩ := h
  have hu := hr.units
  refine ⟨_, (fss (@fs_cons _ _ _ _ _ (ps_ifF (PW.pt (pw_or (pt_not (pt_val (pe_callB call_isinst rfl z_isinstance PyProof.Rows.boot_isinstance (pa_cons (pv 0) (pa_cons (pe_bltn (v := .ty "list") rfl z_list PyProof.Rows.boot_list rfl) pa_nil))))) (pw_or1 (pt_cmpR op_ne (pe_callB call_len_seq rfl z_len PySem.boot_len (pa_cons (pv 0) pa_nil)) pe_int (nomark _))))) (@fs_one _ _ _ (ps_ret pe_bl)) fs_nil)
    (@fs_one _ _ _ (ps_ret (pe_all1 (N2 := ["thing"]) (te := (tCall (spRowG T_is_row) [] E0 (tCons (tVar 0) tNil))) rfl (Room.depth hr) cd bm rfl z_all (pi_list (pv 0)) (by kernel_rfl) (fun _ _ _ _ => by exact asPE (pe_call G_is_row (room_gen hr) rfl m_is_row k_is_row b_is_row .nil pass0 (pa_cons (pv 0) pa_nil)))))))), ?_⟩
  by_cases hd : ∃ ds, d = .list ds
  · obtain ⟨ds, rfl⟩ := hd
    cases hv with
    | lst e hs =>
      have hl := hs.length
      refine ⟨_, rfl, _, _, _, _, rfl, .lst e, kit_same K "list", _, rfl, iteF ⟨_, rfl, _, _, rfl, .inl (SqL.of e), rfl, _, rfl, ite2 (fun c => ?_) (fun c => ?_)⟩⟩
      · have c' : ¬ ds.length = 3 := fun z => by
          rw [hl, z] at c
          exact absurd c (by decide)
        have e0 : tabD (.list ds) = false := by
          unfold tabD
          simp [c']
        rw [e0] at q
        exact q.2 H (Same.refl _)
      · have c' : ds.length = 3 := by
          rcases Nat.decEq ds.length 3 with z | z
          · exact absurd (by rw [hl, decide_eq_false (fun y => z (by have := V.int.inj y; omega))]; rfl) c
          · exact z
        refine ⟨_, rfl, _, rfl, ⟨_, SqL.of e⟩, all_rd (jw_list (SqL.of e)) q.1 (fun j => match ds[j]? with | some d => rowD d | none => true) (fun j y ey H1 Q1 s1 k1 => ?_) (fun b H1 s1 hb => ?_)⟩
        · obtain ⟨d, ed, hy⟩ := hs.get ey
          rw [ed] at k1
          exact ⟨_, rfl, y, d, rfl, hy.same s1, s1 _ _ hR, k1⟩
        · have e1 := all_of (f := rowD) hl hb
          have e2 : b = tabD (.list ds) := by
            rw [e1]
            unfold tabD
            simp [c']
          rw [e2]
          exact q.2 H1 s1
  · have e0 : tabD d = false := by
      cases d <;> first | rfl | exact absurd ⟨_, rfl⟩ hd
    rw [e0] at q
    obtain ⟨t, ty, kt⟩ := hv.noList K fun ds z => hd ⟨ds, z⟩
    exact ⟨_, rfl, _, _, _, _, rfl, ty, kt, _, rfl, iteT (iteT (q.2 H (Same.refl _)))⟩
def spEvenG (T1 T2 T0 : Addr) : Sp := fun vs H Q _ => ∃ (v : V), vs = [v] ∧ H T1 = some (tabO T1) ∧ H T2 = some (tabO T2) ∧ H T0 = some (tabO T0) ∧
  ((∃ d, DV H v d ∧ tabD d = false ∧ ∀ H', Same H H' → Q (.bl false) H') ∨ (∃ t bs m, v = .ref t ∧ Tab H t bs m ∧ is33 m ∧ ∀ b H', (b = true ↔ EvenT m) → Same H H' → Q (.bl b) H'))
theorem ok_is_even_table {f : Addr} {fd : FuncData} {T_is_row T_is_table T_is_even_table : Addr} (F : FunT K "is_even_table" "is_even_table" s_is_even_table f fd T_is_even_table) (bm : BM mg base) (z_all : mg "all" = none) (z_range : mg "range" = none) {f_is_table : Addr} {fd_is_table : FuncData} (G_is_table : FnOk P w K mg base CX0 6 f_is_table fd_is_table ["thing"] (spTableG T_is_row T_is_table)) (b_is_table : Binds K fd_is_table ["thing"] []) (k_is_table : PySem.W.keepIn K (.ref f_is_table) = true) (m_is_table : mg "is_table" = some (.ref f_is_table)) {f_turned_over : Addr} {fd_turned_over : FuncData} (G_turned_over : FnOk P w K mg base CX0 6 f_turned_over fd_turned_over ["table"] spOver) (b_turned_over : Binds K fd_turned_over ["table"] []) (k_turned_over : PySem.W.keepIn K (.ref f_turned_over) = true) (m_turned_over : mg "turned_over" = some (.ref f_turned_over)) : FnOk P w K mg base CX0 7 f fd ["thing"] (spEvenG T_is_row T_is_table T_is_even_table) := by
  refine F.ok sc_is_even_table (fun vs H Q E h => ?_) (fun cdv A outer s H vs Q E cd hr h => ?_)
  · obtain ⟨v, rfl, hR, hU, hP, hv⟩ := h
    rfl
  obtain ⟨v, rfl, hR, hU, hP, hv⟩ := h
  have hu := hr.units
  refine ⟨_, (fss (@fs_cons _ _ _ _ _ (ps_ifF (pt_not (pt_val (pe_call G_is_table hr rfl m_is_table k_is_table b_is_table .nil pass0 (pa_cons (pv 0) pa_nil)))) (@fs_one _ _ _ (ps_ret pe_bl)) fs_nil)
    (@fs_one _ _ _ (ps_ret (pe_and (pe_cmpR (op_eqD hu) (pv 0) (pe_call G_turned_over hr rfl m_turned_over k_turned_over b_turned_over .nil pass0 (pa_cons (pv 0) pa_nil)) (nomark _)) (pe_one (pe_all1 (N2 := ["thing"]) (te := (tOp rEq (tOp (rI (fun _ j => 0 < j) fun i j => .int (i % j)) (tOp (rIxL K) (tOp (rIxL K) (tVar 1) (tVar 0)) (tVar 0)) (tC (.int 2))) (tC (.int 0)))) rfl (Room.depth hr) cd bm rfl z_all (pi_range1 rfl z_range (pa_cons pe_int pa_nil)) (by kernel_rfl) (fun _ _ _ _ => by exact asPE (pe_cmpR op_eq (pe_op op_mod (pe_ix ix_list (pe_ix ix_list (pv 1) (pv 0) (fun _ _ => rfl)) (pv 0) (fun _ _ => rfl)) pe_int) pe_int (nomark _)))))))))), ?_⟩
  rcases hv with ⟨d, hd, e0, q⟩ | ⟨t, bs, m, rfl, hT, h33, q⟩
  · refine ⟨_, rfl, v, d, rfl, hd, hR, hU, fun H1 s1 => ?_⟩
    rw [e0]
    exact ⟨_, rfl, iteT (q H1 s1)⟩
  refine ⟨_, rfl, _, _, rfl, dv_tab hT, hR, hU, fun H1 s1 => ?_⟩
  rw [tabD_tab h33]
  refine ⟨_, rfl, iteF ?_⟩
  refine ⟨_, rfl, _, rfl, t, bs, m, rfl, hT.same s1, h33, fun r rs H2 s2 fr frs nr Tr => ?_⟩
  have s12 := s1.trans s2
  refine ⟨_, _, rdTab (hT.same s12), rdTab Tr, shaped_tab m, shaped_tab _, _, rfl, ?_⟩
  rw [show (if false = true then !PyData.eqv (dTab m) (dTab (overT m)) else PyData.eqv (dTab m) (dTab (overT m))) = decide (m = overT m) from eqv_tab m (overT m)]
  refine ite2 (fun c => ?_) (fun c => ?_)
  · have c : m = overT m := of_decide_eq_true c
    refine ⟨3, rfl, by decide, by decide, all_rd (jw_range (n := 3)) (s12 _ _ hP) (fun j => decide (ent m j j % 2 = 0)) (fun j y ey H3 Q3 s3 k3 => ?_) (fun b H3 s3 hb => ?_)⟩
    · obtain ⟨hj, rfl⟩ := range_get ey
      obtain ⟨b, row, e1, e2, e3⟩ := tab_ent (hT.same (s12.trans s3)) h33 hj hj
      refine ⟨_, rfl, _, rfl, t, _, _, _, rfl, rfl, SqL.of (hT.same (s12.trans s3)).1, e1, _, rfl, b, _, _, _, rfl, rfl, SqL.of e2, e3, _, _, rfl, rfl, (by show (0 : Int) < 2; decide), rfl, ?_⟩
      have e : decide (V.int (ent m j j % 2) = V.int 0) = decide (ent m j j % 2 = 0) := by simp
      rw [e]
      exact k3 H3 (Same.refl _)
    · refine q b H3 ?_ (s12.trans s3)
      rw [even_iff h33, hb]
      constructor
      · intro z
        exact ⟨c, fun j hj => of_decide_eq_true (z j hj)⟩
      · intro z j hj
        exact decide_eq_true (z.2 j hj)
  · have c : ¬ m = overT m := fun z => c (decide_eq_true z)
    exact q false H2 ⟨fun z => (nomatch z), fun z => absurd (even_over z h33).symm c⟩ s12
def spFormG (T1 T2 T3 : Addr) : Sp := fun vs H Q _ => ∃ (v : V), vs = [v] ∧ H T1 = some (tabO T1) ∧ H T2 = some (tabO T2) ∧ H T3 = some (tabO T3) ∧ True ∧
  ((∃ d, DV H v d ∧ tabD d = false ∧ ∀ H', Same H H' → Q (.bl false) H') ∨ (∃ t bs m, v = .ref t ∧ Tab H t bs m ∧ is33 m ∧ Bd 440 m ∧ ∀ b H', (b = true ↔ (EvenT m ∧ aboveT m = true)) → Same H H' → Q (.bl b) H'))
theorem ok_is_form {f : Addr} {fd : FuncData} {T_is_row T_is_table T_is_even_table : Addr} (F : Fun K "is_form" "is_form" s_is_form f fd)  {f_is_even_table : Addr} {fd_is_even_table : FuncData} (G_is_even_table : FnOk P w K mg base CX0 7 f_is_even_table fd_is_even_table ["thing"] (spEvenG T_is_row T_is_table T_is_even_table)) (b_is_even_table : Binds K fd_is_even_table ["thing"] []) (k_is_even_table : PySem.W.keepIn K (.ref f_is_even_table) = true) (m_is_even_table : mg "is_even_table" = some (.ref f_is_even_table)) {f_low_row : Addr} {fd_low_row : FuncData} (G_low_row : FnOk P w K mg base CX0 7 f_low_row fd_low_row ["table"] spLow) (b_low_row : Binds K fd_low_row ["table"] []) (k_low_row : PySem.W.keepIn K (.ref f_low_row) = true) (m_low_row : mg "low_row" = some (.ref f_low_row)) : FnOk P w K mg base CX0 8 f fd ["thing"] (spFormG T_is_row T_is_table T_is_even_table) := by
  refine F.ok sc_is_form (fun vs H Q E h => ?_) (fun cdv A outer s H vs Q E hr h => ?_)
  · obtain ⟨v, rfl, h1, h2, h3, h4, hv⟩ := h
    rfl
  obtain ⟨v, rfl, h1, h2, h3, h4, hv⟩ := h
  have hu := hr.units
  refine ⟨_, (pss_one (ps_ret (pe_and (pe_call G_is_even_table hr rfl m_is_even_table k_is_even_table b_is_even_table .nil pass0 (pa_cons (pv 0) pa_nil)) (pe_one (pe_cmpR op_isN (pe_call G_low_row hr rfl m_low_row k_low_row b_low_row .nil pass0 (pa_cons (pv 0) pa_nil)) pe_non (nomark _)))))), ?_⟩
  rcases hv with ⟨d, hd, e0, q⟩ | ⟨t, bs, m, rfl, hT, h33, hB, q⟩
  · exact ⟨_, rfl, v, rfl, h1, h2, h3, .inl ⟨d, hd, e0, fun H1 s1 => ⟨_, rfl, iteF (q H1 s1)⟩⟩⟩
  · refine ⟨_, rfl, _, rfl, h1, h2, h3, .inr ⟨t, bs, m, rfl, hT, h33, fun b H1 hb s1 => ⟨_, rfl, ?_⟩⟩⟩
    cases b with
    | false => exact iteF (q false H1 ⟨fun z => (nomatch z), fun z => hb.mpr z.1⟩ s1)
    | true =>
      have ev := hb.mp rfl
      refine iteT ⟨_, rfl, t, bs, m, rfl, hT.same s1, h33, hB, even_over ev h33, trivial, fun ab H2 s2 => ⟨rfl, q _ H2 ⟨fun _ => ⟨ev, ab⟩, fun _ => rfl⟩ (s1.trans s2)⟩, fun ab x a H2 s2 fa hx n0 lo bx => ⟨rfl, ?_⟩⟩
      have e : decide (V.ref a = V.non) = false := decide_eq_false fun z => (nomatch z)
      rw [e]
      exact q false H2 ⟨fun z => (nomatch z), fun z => by rw [z.2] at ab; cases ab⟩ (s1.trans s2)
def spHalfR (T1 T2 T3 cF cG : Addr) : Sp := fun vs H Q E => ∃ (v : V), vs = [v] ∧ H T1 = some (tabO T1) ∧ H T2 = some (tabO T2) ∧ H T3 = some (tabO T3) ∧ True ∧
  ((Bad H v ∧ ∀ H', Same H H' → E (.ref cF) none H') ∨ ∃ m, FormAt H v m ∧ ∀ H', Same H H' → if 200 < detT m / 2 then E (.ref cG) none H' else Q (.int (detT m / 2)) H')
theorem ok_half {f : Addr} {fd : FuncData} {T_is_row T_is_table T_is_even_table : Addr} {c_NoForm c_TooGreat : Addr} (F : Fun K "half" "half" s_half f fd) {t_GREATEST_HALF : _} (m_GREATEST_HALF : mg "GREATEST_HALF" = some (Value.int 200 t_GREATEST_HALF)) (m_NoForm : mg "NoForm" = some (.ref c_NoForm)) (o_NoForm : PyProof.Rows.OwnCls "NoForm" c_NoForm vEbm "ValueError.__new__" mg base) (m_TooGreat : mg "TooGreat" = some (.ref c_TooGreat)) (o_TooGreat : PyProof.Rows.OwnCls "TooGreat" c_TooGreat vEbm "ValueError.__new__" mg base) {f_is_form : Addr} {fd_is_form : FuncData} (G_is_form : FnOk P w K mg base CX0 8 f_is_form fd_is_form ["thing"] (spFormG T_is_row T_is_table T_is_even_table)) (b_is_form : Binds K fd_is_form ["thing"] []) (k_is_form : PySem.W.keepIn K (.ref f_is_form) = true) (m_is_form : mg "is_form" = some (.ref f_is_form)) {f_determinant : Addr} {fd_determinant : FuncData} (G_determinant : FnOk P w K mg base CX0 8 f_determinant fd_determinant ["table"] spDet) (b_determinant : Binds K fd_determinant ["table"] []) (k_determinant : PySem.W.keepIn K (.ref f_determinant) = true) (m_determinant : mg "determinant" = some (.ref f_determinant)) : FnOk P w K mg base (CXR P w) 9 f fd ["form"] (spHalfR T_is_row T_is_table T_is_even_table c_NoForm c_TooGreat) := by
  refine F.okR sc_half (fun vs H Q E h => ?_) (fun cdv A outer s H vs Q E hr h => ?_)
  · obtain ⟨v, rfl, h1, h2, h3, h4, hv⟩ := h
    rfl
  obtain ⟨v, rfl, h1, h2, h3, h4, hv⟩ := h
  have hu := hr.units
  refine ⟨_, (fss (@fs_cons _ _ _ _ _ (ps_ifF (pt_not (pt_val (pe_call G_is_form hr rfl m_is_form k_is_form b_is_form .nil pass0 (pa_cons (pv 0) pa_nil)))) (@fs_one _ _ _ (ps_raise o_NoForm PySem.F.excBase_ValueError rfl (pa_cons pe_str pa_nil))) fs_nil)
    (@fs_cons _ _ _ _ _ (ps_set (i := 1) sc_half.nd rfl (Or.inl rfl) (pe_op op_fdiv (pe_call G_determinant hr rfl m_determinant k_determinant b_determinant .nil pass0 (pa_cons (pv 0) pa_nil)) pe_int))
    (@fs_cons _ _ _ _ _ (ps_ifF (pt_cmpR op_gt (pv 1) (pe_glob (v := .int 200) rfl m_GREATEST_HALF ⟨_, rfl⟩) (nomark _)) (@fs_one _ _ _ (ps_raise o_TooGreat PySem.F.excBase_ValueError rfl (pa_cons (pe_fstr (pj_str (pj_int (pe_glob (v := .int 200) rfl m_GREATEST_HALF ⟨_, rfl⟩) pj_nil))) pa_nil))) fs_nil)
    (@fs_one _ _ _ (ps_ret (pv 1))))))), ?_⟩
  rcases hv with ⟨hb, q⟩ | ⟨m, hf, q⟩
  · refine ⟨_, rfl, v, rfl, h1, h2, h3, trivial, ?_⟩
    rcases hb with ⟨d, hd, e⟩ | ⟨t, bs, m, rfl, hT, h33, hB, nf⟩
    · exact .inl ⟨d, hd, e, fun H1 s1 => ⟨_, rfl, iteT ⟨(by show 1 ≤ sizeLine; decide), q H1 s1⟩⟩⟩
    · refine .inr ⟨t, bs, m, rfl, hT, h33, hB, fun b H1 hb s1 => ?_⟩
      obtain rfl : b = false := by
        cases b with
        | false => rfl
        | true => exact absurd (hb.mp rfl) nf
      exact ⟨_, rfl, iteT ⟨(by show 1 ≤ sizeLine; decide), q H1 s1⟩⟩
  · obtain ⟨t, bs, rfl, hT, h33, hB, ev, ab⟩ := hf
    refine ⟨_, rfl, _, rfl, h1, h2, h3, trivial, .inr ⟨t, bs, m, rfl, hT, h33, hB, fun b H1 hb s1 => ?_⟩⟩
    obtain rfl : b = true := hb.mpr ⟨ev, ab⟩
    refine ⟨_, rfl, iteF ?_⟩
    refine ⟨_, rfl, t, bs, m, rfl, hT.same s1, h33, hB.mono (by decide), trivial, fun H2 s2 => ⟨_, _, rfl, rfl, ⟨by decide, by decide⟩, ?_⟩⟩
    have q := q H2 (s1.trans s2)
    refine ⟨_, rfl, _, _, rfl, rfl, _, rfl, ite2 (fun c => ?_) (fun c => ?_)⟩
    · have c : (200 : Int) < detT m / 2 := of_decide_eq_true c
      rw [if_pos c] at q
      exact ⟨(by decide +kernel), 200, rfl, (by decide), (by decide +kernel), (by decide +kernel), (by show 1 ≤ sizeLine; decide), q⟩
    · have c : ¬ (200 : Int) < detT m / 2 := fun z => c (decide_eq_true z)
      rw [if_neg c] at q
      exact ⟨_, rfl, q⟩
end
end CL

set_option maxHeartbeats 1000000
namespace CL
open PySem L2
section
variable {P : Program} {w : World} {K : PySem.W.Frag} {mg : Str → Option Value} {base : Heap}
def spNums : Sp := fun vs H Q _ => ∃ (t : Addr) (bs : List Addr) (m : List (List Int)), vs = [.ref t] ∧ Tab H t bs m ∧ is33 m ∧ ∀ p H', Same H H' → H p = none → H' p = some (.lst [V.int (ent m 0 0 / 2), .int (ent m 1 1 / 2), .int (ent m 2 2 / 2), .int (ent m 0 1), .int (ent m 0 2), .int (ent m 1 2)]) → Q (.ref p) H'
theorem ok_numbers_of {f : Addr} {fd : FuncData} (F : Fun K "numbers_of" "numbers_of" s_numbers_of f fd) (z_range : mg "range" = none) : FnOk P w K mg base CX0 1 f fd ["form"] spNums := by
  refine F.ok sc_numbers_of (fun vs H Q E h => ?_) (fun cdv A outer s H vs Q E hr h => ?_)
  · obtain ⟨t, bs, m, rfl, T, c33, q⟩ := h
    rfl
  obtain ⟨t, bs, m, rfl, T, c33, q⟩ := h
  have hu := hr.units
  refine ⟨_, (pss_one (ps_ret (pe_op op_cat (pe_lc1 (N2 := ["form"]) (te := (tOp (rI CDiv fun i j => .int (i / j)) (tOp (rIxL K) (tOp (rIxL K) (tVar 1) (tVar 0)) (tVar 0)) (tC (.int 2)))) rfl (pi_range1 rfl z_range (pa_cons pe_int pa_nil)) (by kernel_rfl) rfl (fun _ _ _ => by exact asPE (pe_op op_fdiv (pe_ix ix_list (pe_ix ix_list (pv 1) (pv 0) (fun _ _ => rfl)) (pv 0) (fun _ _ => rfl)) pe_int))) (pe_lst (pa_cons (pe_ix ix_list (pe_ix ix_list (pv 0) pe_int (fun _ _ => rfl)) pe_int (fun _ _ => rfl)) (pa_cons (pe_ix ix_list (pe_ix ix_list (pv 0) pe_int (fun _ _ => rfl)) pe_int (fun _ _ => rfl)) (pa_cons (pe_ix ix_list (pe_ix ix_list (pv 0) pe_int (fun _ _ => rfl)) pe_int (fun _ _ => rfl)) pa_nil))))))), ?_⟩
  refine ⟨3, rfl, by decide, by decide, fun D hD => rowJ_rd (jw_range (n := 3)) rfl hD (fun i => ent m i i / 2) (fun i x hi ex H1 Q1 s1 k1 => ?_) (fun H1 s1 e1 => ?_)⟩
  · obtain ⟨b, e1, e2, _⟩ := tab_row3 (T.same s1) c33 hi
    obtain ⟨_, rfl⟩ := range_get ex
    exact ⟨_, rfl, _, rfl, t, _, _, _, rfl, rfl, SqL.of (T.same s1).1, (by simpa using e1), _, rfl, b, _, _, _, rfl, rfl, SqL.of e2, (by simpa using at3n (ent m i) hi), _, _, rfl, rfl, ⟨by decide, by decide⟩, k1 H1 (Same.refl _)⟩
  have T1 := T.same s1
  obtain ⟨b0, x1, x2, _⟩ := tab_row3 T1 c33 (i := 0) (by decide)
  obtain ⟨b1, y1, y2, _⟩ := tab_row3 T1 c33 (i := 1) (by decide)
  refine ⟨_, rfl, t, _, _, _, rfl, rfl, SqL.of T1.1, x1, b0, _, _, _, rfl, rfl, SqL.of x2, rfl, _, rfl, t, _, _, _, rfl, rfl, SqL.of T1.1, x1, b0, _, _, _, rfl, rfl, SqL.of x2, rfl, _, rfl, t, _, _, _, rfl, rfl, SqL.of T1.1, y1, b1, _, _, _, rfl, rfl, SqL.of y2, rfl, (by show 3 ≤ sizeLine; decide), fun p hp => ?_⟩
  have u := Same.up (o := .lst [V.int (ent m 0 1), .int (ent m 0 2), .int (ent m 1 2)]) hp
  refine ⟨D, p, _, _, rfl, rfl, u _ _ e1, upd_same, (by show 6 ≤ sizeLine; decide), fun r hr => ?_⟩
  exact q r _ (s1.trans (u.trans (Same.up hr))) (s1.none (u.none hr)) upd_same
end
end CL

set_option maxHeartbeats 1000000
namespace CL
open PySem L2
section
variable {P : Program} {w : World} {K : PySem.W.Frag} {mg : Str → Option Value} {base : Heap}
def spTerm : Sp := fun vs H Q _ => ∃ (n : Int) (s : Str), vs = [.int n, .str s] ∧ n.natAbs < 2 ^ 441 ∧ s.length ≤ 100 ∧ ∀ t H', Same H H' → (Fst s → Fst t) → t.length ≤ 450 + s.length → Q (.str t) H'
theorem ok_term {f : Addr} {fd : FuncData} (F : Fun K "term" "term" s_term f fd) (z_abs : mg "abs" = none) : FnOk P w K mg base CX0 1 f fd ["number", "letters"] spTerm := by
  refine F.ok sc_term (fun vs H Q E h => ?_) (fun cdv A outer s H vs Q E hr h => ?_)
  · obtain ⟨n, s, rfl, hn, hs, q⟩ := h
    rfl
  obtain ⟨n, s, rfl, hn, hs, q⟩ := h
  have hu := hr.units
  refine ⟨_, (pss_one (ps_ret (pe_ifExp (pt_cmpR op_in_seq (pv 0) (pe_tup (pa_cons pe_int (pa_cons (pe_un un_neg pe_int) pa_nil))) (by rfl)) (pv 1) (pe_fstr (pj_int (pe_callB call_abs rfl z_abs PyProof.Rows.boot_abs (pa_cons (pv 0) pa_nil)) (pj_txt (pv 1) pj_nil)))))), ?_⟩
  refine ⟨_, rfl, _, rfl, (by show 2 ≤ sizeLine; decide), fun P hP => ?_⟩
  have u := Same.up (o := .tup [V.int 1, .int (-1)]) hP
  have sz : ∀ k, k ≤ 700 → k ≤ sizeLine := fun k hk => Nat.le_of_lt (small1000 (by omega))
  refine ⟨P, _, rfl, .inr (SqT.of upd_same), rfl, rfl, _, rfl, ite2 (fun c => ?_) (fun c => ?_)⟩
  · exact ⟨_, rfl, q s _ u (fun z => z) (by omega)⟩
  · have ld := len_nat (n := n.natAbs) (k := 441) (by decide) hn
    have la : ∀ x : Str, (Str.empty ++ x).length = x.length := fun x => by rw [str_app]; show 0 + x.length = _; omega
    have ea : (if n < 0 then -n else n) = (n.natAbs : Int) := by split <;> omega
    refine ⟨_, rfl, n, rfl, (n.natAbs : Int), congrArg V.int ea, ?_, sz _ ?_, _, rfl, s, rfl, sz _ (by omega), sz _ ?_, sz _ ?_, q _ _ u (fun _ => ?_) ?_⟩
    · show n.natAbs.log2 < 1920
      by_cases z : n.natAbs = 0
      · rw [z]
        decide
      · exact (Nat.log2_lt z).mpr (Nat.lt_of_lt_of_le hn (Nat.pow_le_pow_right (by decide) (by decide)))
    · rw [la]
      omega
    · rw [str_app, la]
      omega
    · rw [str_app, la]
      omega
    · refine Fst.app ?_ s
      have e : Str.empty ++ Str.ofString (toString (n.natAbs : Int)) = Str.ofString (toString (n.natAbs : Int)) := str_nil _
      rw [e]
      exact fst_nat _
    · rw [str_app, la]
      omega
end
end CL

set_option maxHeartbeats 1000000
namespace CL
open PySem L2
section
variable {P : Program} {w : World} {K : PySem.W.Frag} {mg : Str → Option Value} {base : Heap}
def spShowR (T1 T2 T3 cF cG : Addr) : Sp := fun vs H Q E => ∃ (v : V), vs = [v] ∧ H T1 = some (tabO T1) ∧ H T2 = some (tabO T2) ∧ H T3 = some (tabO T3) ∧ True ∧
  ((Bad H v ∧ ∀ H', Same H H' → E (.ref cF) none H') ∨ ∃ m, FormAt H v m ∧ ∀ H', Same H H' → if 200 < detT m / 2 then E (.ref cG) none H' else ∀ t, Fst t → t.length ≤ 5000 → Q (.str t) H')
theorem ok_show {f : Addr} {fd : FuncData} {T_is_row T_is_table T_is_even_table : Addr} {c_NoForm c_TooGreat : Addr} (F : Fun K "show" "show" s_show f fd) (z_zip : mg "zip" = none) {a_LETTERS : Addr} (m_LETTERS : mg "LETTERS" = some (Value.ref a_LETTERS)) (q_LETTERS : ∀ H : Hp, SqT K H a_LETTERS [.str "xx", .str "yy", .str "zz", .str "xy", .str "xz", .str "yz"]) {f_half : Addr} {fd_half : FuncData} (G_half : FnOk P w K mg base (CXR P w) 9 f_half fd_half ["form"] (spHalfR T_is_row T_is_table T_is_even_table c_NoForm c_TooGreat)) (b_half : Binds K fd_half ["form"] []) (k_half : PySem.W.keepIn K (.ref f_half) = true) (m_half : mg "half" = some (.ref f_half)) {f_numbers_of : Addr} {fd_numbers_of : FuncData} (G_numbers_of : FnOk P w K mg base CX0 9 f_numbers_of fd_numbers_of ["form"] spNums) (b_numbers_of : Binds K fd_numbers_of ["form"] []) (k_numbers_of : PySem.W.keepIn K (.ref f_numbers_of) = true) (m_numbers_of : mg "numbers_of" = some (.ref f_numbers_of)) {f_term : Addr} {fd_term : FuncData} (G_term : FnOk P w K mg base CX0 9 f_term fd_term ["number", "letters"] spTerm) (b_term : Binds K fd_term ["number", "letters"] []) (k_term : PySem.W.keepIn K (.ref f_term) = true) (m_term : mg "term" = some (.ref f_term)) : FnOk P w K mg base (CXR P w) 10 f fd ["form"] (spShowR T_is_row T_is_table T_is_even_table c_NoForm c_TooGreat) := by
  refine F.okR sc_show (fun vs H Q E h => ?_) (fun cdv A outer s H vs Q E hr h => ?_)
  · obtain ⟨v, rfl, h1, h2, h3, h4, hv⟩ := h
    rfl
  obtain ⟨v, rfl, h1, h2, h3, h4, hv⟩ := h
  have hu := hr.units
  refine ⟨_, (fss (@fs_cons _ _ _ _ _ (ps_expr (pe_call G_half hr rfl m_half k_half b_half .nil passR (pa_cons (pv 0) pa_nil)))
    (@fs_cons _ _ _ _ _ (ps_set (i := 1) sc_show.nd rfl (Or.inl rfl) (pe_call G_numbers_of hr rfl m_numbers_of k_numbers_of b_numbers_of .nil pass0 (pa_cons (pv 0) pa_nil)))
    (@fs_cons _ _ _ _ _ (ps_set (i := 2) sc_show.nd rfl (Or.inl rfl) (pe_call G_term hr rfl m_term k_term b_term .nil pass0 (pa_cons (pe_ix ix_list (pv 1) pe_int (fun _ _ => rfl)) (pa_cons (pe_ix ix_tup (pe_glob (v := .ref a_LETTERS) rfl m_LETTERS rfl) pe_int (fun _ _ => rfl)) pa_nil))))
    (@fs_cons _ _ _ _ _ (PS.loud (ps_for PassesOwn.never rfl (pi_zipT rfl z_zip (pa_cons (pe_slice sl_list (pv 1) (po_some pe_int) po_none) (pa_cons (pe_slice sl_tup (pe_glob (v := .ref a_LETTERS) rfl m_LETTERS rfl) (po_some pe_int) po_none) pa_nil))) (pg_tup rfl (pgs_cons (pg_name (i := 3) sc_show.nd rfl (Or.inl rfl)) (pgs_cons (pg_name (i := 4) sc_show.nd rfl (Or.inl rfl)) pgs_nil))) (pss_one (ps_ifF (pt_cmpR op_ne (pv 3) pe_int (nomark _)) (@fs_cons _ _ _ _ _ (ps_set (i := 5) sc_show.nd rfl (Or.inl rfl) (pe_ifExp (pt_cmpR op_gt (pv 3) pe_int (nomark _)) pe_str pe_str))
    (@fs_one _ _ _ (ps_aug (i := 2) sc_show.nd rfl (Or.inl rfl) (pe_op op_add_str (pv 5) (pe_call G_term hr rfl m_term k_term b_term .nil pass0 (pa_cons (pv 3) (pa_cons (pv 4) pa_nil)))) ip_add_str))) fs_nil))))
    (@fs_one _ _ _ (ps_ret (pv 2)))))))), ?_⟩
  refine ⟨_, rfl, v, rfl, h1, h2, h3, trivial, ?_⟩
  rcases hv with ⟨hb, q⟩ | ⟨m, hf, q⟩
  · exact .inl ⟨hb, q⟩
  refine .inr ⟨m, hf, fun H1 s1 => ?_⟩
  refine ite2 (fun c => ?_) (fun c => ?_)
  · have q := q H1 s1
    rw [if_pos c] at q
    exact q
  have q : ∀ H', Same H H' → ∀ t, Fst t → t.length ≤ 5000 → Q (.str t) H' := fun H' s => by
    have := q H' s
    rw [if_neg c] at this
    exact this
  have z5 : 6000 ≤ sizeLine := by decide
  obtain ⟨t, bs, rfl, T, c33, hB, ev, ab⟩ := hf
  have bd : ∀ i j, i < 3 → j < 3 → (ent m i j).natAbs < 2 ^ 441 := fun i j hi hj => bd_up (hB i j hi hj) (by decide)
  have b2 : ∀ i j, i < 3 → j < 3 → (ent m i j / 2).natAbs < 2 ^ 441 := fun i j hi hj => by
    have := hB i j hi hj
    omega
  refine ⟨_, rfl, t, bs, m, rfl, T.same s1, c33, fun p H2 s2 fp ep => ?_⟩
  refine ⟨_, rfl, p, _, _, _, rfl, rfl, SqL.of ep, rfl, a_LETTERS, _, _, _, rfl, rfl, q_LETTERS H2, rfl, _, _, rfl, b2 0 0 (by decide) (by decide), (by decide), fun t0 H3 s3 ft lt => ?_⟩
  have ft := ft ⟨120, by decide +kernel, by decide⟩
  have lt : t0.length ≤ 600 := Nat.le_trans lt (by decide)
  have ep3 := s3 _ _ ep
  refine ⟨_, rfl, _, rfl, p, _, rfl, SqL.of ep3, fun N hN => ⟨_, rfl, a_LETTERS, _, rfl, q_LETTERS _, (by decide), fun M hM => ?_⟩⟩
  have uN := Same.up (o := .lst [V.int (ent m 1 1 / 2), .int (ent m 2 2 / 2), .int (ent m 0 1), .int (ent m 0 2), .int (ent m 1 2)]) hN
  have uM := Same.up (o := .tup [V.str "yy", .str "zz", .str "xy", .str "xz", .str "yz"]) hM
  refine ⟨N, M, _, _, rfl, SqL.of (uM _ _ upd_same), SqT.of upd_same, for_zipT (xs := [V.int (ent m 1 1 / 2), .int (ent m 2 2 / 2), .int (ent m 0 1), .int (ent m 0 2), .int (ent m 1 2)]) (ys := [V.str "yy", .str "zz", .str "xy", .str "xz", .str "yz"]) (fun i σ H' => ∃ (td : Str) (o3 o4 o5 : Option V), σ = [some (.ref t), some (.ref p), some (.str td), o3, o4, o5] ∧ Same (upd (upd H3 N (.lst [V.int (ent m 1 1 / 2), .int (ent m 2 2 / 2), .int (ent m 0 1), .int (ent m 0 2), .int (ent m 1 2)])) M (.tup [V.str "yy", .str "zz", .str "xy", .str "xz", .str "yz"])) H' ∧ Fst td ∧ td.length ≤ 600 + 600 * i) rfl ⟨t0, _, _, _, rfl, Same.refl _, ft, by omega⟩ (fun i σ H' _ hh => ?_) (fun i x y pp σ H' ex ey hh hp => ?_) (fun σ H' hh => ?_)⟩
  · obtain ⟨td, o3, o4, o5, _, sh, _, _⟩ := hh
    exact ⟨SqL.of (sh _ _ (uM _ _ upd_same)), SqT.of (sh _ _ upd_same)⟩
  · obtain ⟨td, o3, o4, o5, rfl, sh, fd, ld⟩ := hh
    have i5 : i < 5 := (List.getElem?_eq_some_iff.mp ex).1
    obtain ⟨n, rfl, hn⟩ : ∃ n : Int, x = .int n ∧ n.natAbs < 2 ^ 441 := by
      have hm := List.mem_of_getElem? ex
      simp only [List.mem_cons, List.not_mem_nil, or_false] at hm
      rcases hm with rfl | rfl | rfl | rfl | rfl
      · exact ⟨_, rfl, b2 1 1 (by decide) (by decide)⟩
      · exact ⟨_, rfl, b2 2 2 (by decide) (by decide)⟩
      · exact ⟨_, rfl, bd 0 1 (by decide) (by decide)⟩
      · exact ⟨_, rfl, bd 0 2 (by decide) (by decide)⟩
      · exact ⟨_, rfl, bd 1 2 (by decide) (by decide)⟩
    obtain ⟨s, rfl, hs⟩ : ∃ s : Str, y = .str s ∧ s.length ≤ 100 := by
      have hm := List.mem_of_getElem? ey
      simp only [List.mem_cons, List.not_mem_nil, or_false] at hm
      rcases hm with rfl | rfl | rfl | rfl | rfl <;> exact ⟨_, rfl, by decide⟩
    have up := Same.up (o := .tup [V.int n, .str s]) hp
    refine ⟨pp, _, rfl, SqT.of upd_same, rfl, _, _, rfl, _, _, rfl, rfl, _, rfl, rfl, _, rfl, ite2 (fun c => ?_) (fun c => ?_)⟩
    · refine ⟨_, rfl, _, _, rfl, rfl, _, rfl, ite2 (fun c => ?_) (fun c => ?_)⟩
      · refine ⟨_, rfl, _, rfl, _, rfl, _, rfl, n, s, rfl, hn, hs, fun tt H5 s5 _ lt => ⟨_, _, rfl, rfl, ?_, _, _, rfl, rfl, ?_, ?_⟩⟩
        · have : (" + " : Str).length = 3 := by decide +kernel
          omega
        · rw [str_app]
          have : (" + " : Str).length = 3 := by decide +kernel
          omega
        · refine ⟨_, _, _, _, rfl, (sh.trans up).trans s5, Fst.app fd _, ?_⟩
          rw [str_app, str_app]
          have : (" + " : Str).length = 3 := by decide +kernel
          omega
      · refine ⟨_, rfl, _, rfl, _, rfl, _, rfl, n, s, rfl, hn, hs, fun tt H5 s5 _ lt => ⟨_, _, rfl, rfl, ?_, _, _, rfl, rfl, ?_, ?_⟩⟩
        · have : (" - " : Str).length = 3 := by decide +kernel
          omega
        · rw [str_app]
          have : (" - " : Str).length = 3 := by decide +kernel
          omega
        · refine ⟨_, _, _, _, rfl, (sh.trans up).trans s5, Fst.app fd _, ?_⟩
          rw [str_app, str_app]
          have : (" - " : Str).length = 3 := by decide +kernel
          omega
    · exact ⟨td, _, _, _, rfl, sh.trans up, fd, by omega⟩
  · obtain ⟨td, o3, o4, o5, rfl, sh, fd, ld⟩ := hh
    exact ⟨_, rfl, q H' (s1.trans (s2.trans (s3.trans (uN.trans (uM.trans sh))))) td fd (Nat.le_trans ld (show 600 + 600 * 5 ≤ 5000 by decide))⟩
end
end CL

set_option maxHeartbeats 1000000
namespace CL
open PySem L2
section
variable {P : Program} {w : World} {K : PySem.W.Frag} {mg : Str → Option Value} {base : Heap}
def spBag (K : PySem.W.Frag) : Sp := fun vs H Q _ => ∃ (a : Addr) (ns : List Int) (k : Int), vs = [.ref a, .int k] ∧ SqL K H a (ns.map V.int) ∧ ns.length ≤ 63 ∧ 0 ≤ k ∧ k < 1000 ∧ ∀ B H', Same H H' → H B = none → BagAt H' B → Q (.ref B) H'
theorem ok__law_bag {f : Addr} {fd : FuncData} (F : Fun K "_law_bag" "_law_bag" s__law_bag f fd) (z_len : mg "len" = none) (z_abs : mg "abs" = none) : FnOk P w K mg base CX0 1 f fd ["_law_script", "_law_at"] (spBag K) := by
  refine F.ok sc__law_bag (fun vs H Q E h => ?_) (fun cdv A outer s H vs Q E hr h => ?_)
  · obtain ⟨a, ns, k, rfl, hS, h63, h0, hk, q⟩ := h
    rfl
  obtain ⟨a, ns, k, rfl, hS, h63, h0, hk, q⟩ := h
  have hu := hr.units
  refine ⟨_, (fss (@fs_cons _ _ _ _ _ (ps_set (i := 2) sc__law_bag.nd rfl (Or.inl rfl) pe_int)
    (@fs_cons _ _ _ _ _ (ps_ifF (pt_cmpR op_lt (pv 1) (pe_callB call_len_seq rfl z_len PySem.boot_len (pa_cons (pv 0) pa_nil)) (nomark _)) (@fs_one _ _ _ (ps_set (i := 2) sc__law_bag.nd rfl (Or.inl rfl) (pe_ix ix_list (pv 0) (pv 1) (fun _ _ => rfl)))) fs_nil)
    (@fs_cons _ _ _ _ _ (ps_set (i := 3) sc__law_bag.nd rfl (Or.inl rfl) pe_int)
    (@fs_cons _ _ _ _ _ (ps_ifF (pt_cmpR op_ge (pe_callB call_abs rfl z_abs PyProof.Rows.boot_abs (pa_cons (pv 2) pa_nil)) (pe_op op_pow pe_int pe_int) (nomark _)) (@fs_one _ _ _ (ps_set (i := 3) sc__law_bag.nd rfl (Or.inl rfl) (pe_callB call_abs rfl z_abs PyProof.Rows.boot_abs (pa_cons (pv 2) pa_nil)))) fs_nil)
    (@fs_one _ _ _ (ps_ret (pe_lst (pa_cons (pv 3) (pa_cons (pe_op op_add (pe_op op_mod (pe_op op_mul (pe_op op_add (pe_op op_add (pe_op op_mod (pv 2) pe_int) (pe_op op_mul pe_int (pv 1))) pe_int) pe_int) pe_int) pe_int) pa_nil)))))))))), ?_⟩
  have hl : (ns.map V.int).length = ns.length := List.length_map _
  refine ⟨_, rfl, _, rfl, a, _, rfl, .inl hS, _, _, rfl, rfl, _, rfl, joinIf (fun σ' H' => ∃ c : Int, H' = H ∧ σ' = [some (.ref a), some (.int k), some (.int c), none]) ?_ (fun c hK => ?_) ⟨0, rfl, rfl⟩⟩
  rotate_left
  · have c' : k < (((ns.map V.int).length : Nat) : Int) := of_decide_eq_true c
    rw [hl] at c'
    obtain ⟨z, hz⟩ := atI_int h0 c'
    exact ⟨_, rfl, _, rfl, a, _, _, _, rfl, rfl, hS, hz, hK _ _ ⟨z, rfl, rfl⟩⟩
  rintro σ' H' ⟨c, rfl, rfl⟩
  refine ⟨_, rfl, c, rfl, _, _, rfl, rfl, ⟨by decide, by decide, by decide⟩, _, _, rfl, rfl, _, rfl, joinIf (fun σ' H2 => ∃ g : Int, 0 ≤ g ∧ H2 = H' ∧ σ' = [some (.ref a), some (.int k), some (.int c), some (.int g)]) ?_ (fun _ hK => ?_) ⟨0, Int.le_refl 0, rfl, rfl⟩⟩
  rotate_left
  · exact ⟨_, rfl, c, rfl, hK _ _ ⟨_, by split <;> omega, rfl, rfl⟩⟩
  rintro σ' H2 ⟨g, hg, rfl, rfl⟩
  refine ⟨_, rfl, _, rfl, _, _, rfl, rfl, (by show (0 : Int) < 2147483629; decide), _, rfl, _, _, rfl, rfl, .inl ⟨by decide, by decide⟩, _, _, rfl, rfl, _, _, rfl, rfl, _, _, rfl, rfl, .inr ⟨by decide, by decide⟩, _, _, rfl, rfl, (by show (0 : Int) < 2147483629; decide), _, _, rfl, rfl, (by show 2 ≤ sizeLine; decide), fun B hB => ?_⟩
  exact q B _ (Same.up hB) hB ⟨g, _, upd_same, hg, by have := Int.emod_nonneg ((c % 2147483629 + 7919 * k + 13) * 69621) (show (2147483629 : Int) ≠ 0 by decide); omega⟩
def spTake : Sp := fun vs H Q _ => ∃ (B : Addr) (many : Int), vs = [.ref B, .int many] ∧ BagAt H B ∧ 0 < many ∧ many.natAbs.log2 < 9000 ∧ ∀ (d : Int) H', 0 ≤ d → d < many → SB B H H' → Q (.int d) H'
theorem ok__law_take {f : Addr} {fd : FuncData} (F : Fun K "_law_take" "_law_take" s__law_take f fd)  : FnOk P w K mg base CX0 1 f fd ["_law_bag_here", "_law_many"] spTake := by
  refine F.ok sc__law_take (fun vs H Q E h => ?_) (fun cdv A outer s H vs Q E hr h => ?_)
  · obtain ⟨B, many, rfl, ⟨g, s, eB, hg, hs⟩, hm, hm2, q⟩ := h
    rfl
  obtain ⟨B, many, rfl, ⟨g, s, eB, hg, hs⟩, hm, hm2, q⟩ := h
  have hu := hr.units
  refine ⟨_, (fss (@fs_cons _ _ _ _ _ (ps_ifF (pt_cmpR op_gt (pe_ix ix_list (pv 0) pe_int (fun _ _ => rfl)) pe_int (nomark _)) (@fs_cons _ _ _ _ _ (ps_set (i := 2) sc__law_take.nd rfl (Or.inl rfl) (pe_op op_mod (pe_ix ix_list (pv 0) pe_int (fun _ _ => rfl)) (pv 1)))
    (@fs_cons _ _ _ _ _ (ps_asg (pe_op op_fdivB (pe_ix ix_list (pv 0) pe_int (fun _ _ => rfl)) (pv 1)) (pg_sub (pv 0) pe_int set_list))
    (@fs_one _ _ _ (ps_ret (pv 2))))) fs_nil)
    (@fs_cons _ _ _ _ _ (ps_asg (pe_op op_mod (pe_op op_add (pe_op op_mul (pe_ix ix_list (pv 0) pe_int (fun _ _ => rfl)) pe_int) pe_int) pe_int) (pg_sub (pv 0) pe_int set_list))
    (@fs_one _ _ _ (ps_ret (pe_op op_mod (pe_op op_fdiv (pe_op op_mod (pe_op op_mul (pe_op op_fdiv (pe_ix ix_list (pv 0) pe_int (fun _ _ => rfl)) pe_int) pe_int) pe_int) pe_int) (pv 1))))))), ?_⟩
  refine ⟨_, rfl, B, _, _, _, rfl, rfl, SqL.of eB, rfl, _, _, rfl, rfl, _, rfl, ite2 (fun c => ?_) (fun c => ?_)⟩
  · refine ⟨_, rfl, B, _, _, _, rfl, rfl, SqL.of eB, rfl, _, rfl, _, _, rfl, rfl, hm, ?_⟩
    refine ⟨_, rfl, B, _, _, _, rfl, rfl, SqL.of eB, rfl, _, rfl, _, _, rfl, rfl, ⟨hm, hm2⟩, _, rfl, B, _, _, 0, rfl, rfl, eB, rfl, ?_⟩
    exact ⟨_, rfl, q (g % many) _ (Int.emod_nonneg _ (by omega)) (Int.emod_lt_of_pos _ hm) (sb_upd (Int.ediv_nonneg hg (by omega)) hs)⟩
  · refine ⟨_, rfl, B, _, _, _, rfl, rfl, SqL.of eB, rfl, _, _, rfl, rfl, .inr ⟨by decide, by decide⟩, _, _, rfl, rfl, _, _, rfl, rfl, (by show (0 : Int) < 2147483647; decide), _, rfl, B, _, _, 1, rfl, rfl, eB, rfl, ?_⟩
    have eB2 : upd H B (.lst ([V.int g, .int s].set 1 (.int ((s * 48271 + 11) % 2147483647)))) B = some (.lst [.int g, .int ((s * 48271 + 11) % 2147483647)]) := upd_same
    refine ⟨_, rfl, B, _, _, _, rfl, rfl, SqL.of eB2, rfl, _, _, rfl, rfl, ⟨by decide, by decide⟩, _, _, rfl, rfl, .inr ⟨by decide, by decide⟩, _, _, rfl, rfl, (by show (0 : Int) < 2147483629; decide), _, _, rfl, rfl, ⟨by decide, by decide⟩, _, rfl, _, _, rfl, rfl, hm, ?_⟩
    exact q _ _ (Int.emod_nonneg _ (by omega)) (Int.emod_lt_of_pos _ hm) (sb_upd hg (Int.emod_nonneg _ (by decide)))
def spDetL : Sp := fun vs H Q _ => ∃ (t : Addr) (bs : List Addr) (m : List (List Int)), vs = [.ref t] ∧ Tab H t bs m ∧ is33 m ∧ Bd 1000 m ∧ Q (.int (detT m)) H
theorem ok__law_determinant {f : Addr} {fd : FuncData} (F : Fun K "_law_determinant" "_law_determinant" s__law_determinant f fd)  : FnOk P w K mg base CX0 1 f fd ["_law_t"] spDetL := by
  refine F.ok sc__law_determinant (fun vs H Q E h => ?_) (fun cdv A outer s H vs Q E hr h => ?_)
  · obtain ⟨t, bs, m, rfl, hT, h33, hB, q⟩ := h
    rfl
  obtain ⟨t, bs, m, rfl, hT, h33, hB, q⟩ := h
  have hu := hr.units
  refine ⟨_, (fss (@fs_cons _ _ _ _ _ (ps_set (i := 1) sc__law_determinant.nd rfl (Or.inl rfl) (pe_op op_mulB (pe_ix ix_list (pe_ix ix_list (pv 0) pe_int (fun _ _ => rfl)) pe_int (fun _ _ => rfl)) (pe_op op_sub (pe_op op_mulB (pe_ix ix_list (pe_ix ix_list (pv 0) pe_int (fun _ _ => rfl)) pe_int (fun _ _ => rfl)) (pe_ix ix_list (pe_ix ix_list (pv 0) pe_int (fun _ _ => rfl)) pe_int (fun _ _ => rfl))) (pe_op op_mulB (pe_ix ix_list (pe_ix ix_list (pv 0) pe_int (fun _ _ => rfl)) pe_int (fun _ _ => rfl)) (pe_ix ix_list (pe_ix ix_list (pv 0) pe_int (fun _ _ => rfl)) pe_int (fun _ _ => rfl))))))
    (@fs_cons _ _ _ _ _ (ps_set (i := 2) sc__law_determinant.nd rfl (Or.inl rfl) (pe_op op_mulB (pe_ix ix_list (pe_ix ix_list (pv 0) pe_int (fun _ _ => rfl)) pe_int (fun _ _ => rfl)) (pe_op op_sub (pe_op op_mulB (pe_ix ix_list (pe_ix ix_list (pv 0) pe_int (fun _ _ => rfl)) pe_int (fun _ _ => rfl)) (pe_ix ix_list (pe_ix ix_list (pv 0) pe_int (fun _ _ => rfl)) pe_int (fun _ _ => rfl))) (pe_op op_mulB (pe_ix ix_list (pe_ix ix_list (pv 0) pe_int (fun _ _ => rfl)) pe_int (fun _ _ => rfl)) (pe_ix ix_list (pe_ix ix_list (pv 0) pe_int (fun _ _ => rfl)) pe_int (fun _ _ => rfl))))))
    (@fs_one _ _ _ (ps_ret (pe_op op_add (pe_op op_sub (pv 1) (pv 2)) (pe_op op_mulB (pe_ix ix_list (pe_ix ix_list (pv 0) pe_int (fun _ _ => rfl)) pe_int (fun _ _ => rfl)) (pe_op op_sub (pe_op op_mulB (pe_ix ix_list (pe_ix ix_list (pv 0) pe_int (fun _ _ => rfl)) pe_int (fun _ _ => rfl)) (pe_ix ix_list (pe_ix ix_list (pv 0) pe_int (fun _ _ => rfl)) pe_int (fun _ _ => rfl))) (pe_op op_mulB (pe_ix ix_list (pe_ix ix_list (pv 0) pe_int (fun _ _ => rfl)) pe_int (fun _ _ => rfl)) (pe_ix ix_list (pe_ix ix_list (pv 0) pe_int (fun _ _ => rfl)) pe_int (fun _ _ => rfl))))))))))), ?_⟩
  obtain ⟨c0, x1, x2, _⟩ := tab_row3 hT h33 (i := 0) (by decide)
  obtain ⟨c1, y1, y2, _⟩ := tab_row3 hT h33 (i := 1) (by decide)
  obtain ⟨c2, w1, w2, _⟩ := tab_row3 hT h33 (i := 2) (by decide)
  refine ⟨_, rfl, t, _, _, _, rfl, rfl, SqL.of hT.1, x1, c0, _, _, _, rfl, rfl, SqL.of x2, rfl, _, rfl, t, _, _, _, rfl, rfl, SqL.of hT.1, y1, c1, _, _, _, rfl, rfl, SqL.of y2, rfl, _, rfl, t, _, _, _, rfl, rfl, SqL.of hT.1, w1, c2, _, _, _, rfl, rfl, SqL.of w2, rfl, _, _, rfl, rfl, ⟨bd_up (hB 1 1 (by decide) (by decide)) (by decide), bd_up (hB 2 2 (by decide) (by decide)) (by decide)⟩, _, rfl, t, _, _, _, rfl, rfl, SqL.of hT.1, y1, c1, _, _, _, rfl, rfl, SqL.of y2, rfl, _, rfl, t, _, _, _, rfl, rfl, SqL.of hT.1, w1, c2, _, _, _, rfl, rfl, SqL.of w2, rfl, _, _, rfl, rfl, ⟨bd_up (hB 1 2 (by decide) (by decide)) (by decide), bd_up (hB 2 1 (by decide) (by decide)) (by decide)⟩, _, _, rfl, rfl, _, _, rfl, rfl, ⟨bd_up (hB 0 0 (by decide) (by decide)) (by decide), bd_up (bd_sub (bd_mul (hB 1 1 (by decide) (by decide)) (hB 2 2 (by decide) (by decide))) (bd_mul (hB 1 2 (by decide) (by decide)) (hB 2 1 (by decide) (by decide)))) (by decide)⟩, ?_⟩
  refine ⟨_, rfl, t, _, _, _, rfl, rfl, SqL.of hT.1, x1, c0, _, _, _, rfl, rfl, SqL.of x2, rfl, _, rfl, t, _, _, _, rfl, rfl, SqL.of hT.1, y1, c1, _, _, _, rfl, rfl, SqL.of y2, rfl, _, rfl, t, _, _, _, rfl, rfl, SqL.of hT.1, w1, c2, _, _, _, rfl, rfl, SqL.of w2, rfl, _, _, rfl, rfl, ⟨bd_up (hB 1 0 (by decide) (by decide)) (by decide), bd_up (hB 2 2 (by decide) (by decide)) (by decide)⟩, _, rfl, t, _, _, _, rfl, rfl, SqL.of hT.1, y1, c1, _, _, _, rfl, rfl, SqL.of y2, rfl, _, rfl, t, _, _, _, rfl, rfl, SqL.of hT.1, w1, c2, _, _, _, rfl, rfl, SqL.of w2, rfl, _, _, rfl, rfl, ⟨bd_up (hB 1 2 (by decide) (by decide)) (by decide), bd_up (hB 2 0 (by decide) (by decide)) (by decide)⟩, _, _, rfl, rfl, _, _, rfl, rfl, ⟨bd_up (hB 0 1 (by decide) (by decide)) (by decide), bd_up (bd_sub (bd_mul (hB 1 0 (by decide) (by decide)) (hB 2 2 (by decide) (by decide))) (bd_mul (hB 1 2 (by decide) (by decide)) (hB 2 0 (by decide) (by decide)))) (by decide)⟩, ?_⟩
  refine ⟨_, rfl, _, rfl, _, _, rfl, rfl, _, rfl, t, _, _, _, rfl, rfl, SqL.of hT.1, x1, c0, _, _, _, rfl, rfl, SqL.of x2, rfl, _, rfl, t, _, _, _, rfl, rfl, SqL.of hT.1, y1, c1, _, _, _, rfl, rfl, SqL.of y2, rfl, _, rfl, t, _, _, _, rfl, rfl, SqL.of hT.1, w1, c2, _, _, _, rfl, rfl, SqL.of w2, rfl, _, _, rfl, rfl, ⟨bd_up (hB 1 0 (by decide) (by decide)) (by decide), bd_up (hB 2 1 (by decide) (by decide)) (by decide)⟩, _, rfl, t, _, _, _, rfl, rfl, SqL.of hT.1, y1, c1, _, _, _, rfl, rfl, SqL.of y2, rfl, _, rfl, t, _, _, _, rfl, rfl, SqL.of hT.1, w1, c2, _, _, _, rfl, rfl, SqL.of w2, rfl, _, _, rfl, rfl, ⟨bd_up (hB 1 1 (by decide) (by decide)) (by decide), bd_up (hB 2 0 (by decide) (by decide)) (by decide)⟩, _, _, rfl, rfl, _, _, rfl, rfl, ⟨bd_up (hB 0 2 (by decide) (by decide)) (by decide), bd_up (bd_sub (bd_mul (hB 1 0 (by decide) (by decide)) (hB 2 1 (by decide) (by decide))) (bd_mul (hB 1 1 (by decide) (by decide)) (hB 2 0 (by decide) (by decide)))) (by decide)⟩, _, _, rfl, rfl, ?_⟩
  have e : ent m 0 0 * (ent m 1 1 * ent m 2 2 - ent m 1 2 * ent m 2 1) - ent m 0 1 * (ent m 1 0 * ent m 2 2 - ent m 1 2 * ent m 2 0) + ent m 0 2 * (ent m 1 0 * ent m 2 1 - ent m 1 1 * ent m 2 0) = detT m := by
    rw [detT_eq]
    grind
  rw [← e] at q
  exact q
def spPairL : Sp := fun vs H Q _ => ∃ (t : Addr) (bs : List Addr) (m : List (List Int)) (a b : Addr) (x y : Nat → Int), vs = [.ref t, .ref a, .ref b] ∧ Tab H t bs m ∧ is33 m ∧ Bd 1000 m ∧ RowAt H a x ∧ RowAt H b y ∧ (∀ i, i < 3 → (x i).natAbs < 2 ^ 1000) ∧ (∀ i, i < 3 → (y i).natAbs < 2 ^ 1000) ∧ Q (.int (pairT m x y)) H
theorem ok__law_pairing {f : Addr} {fd : FuncData} (F : Fun K "_law_pairing" "_law_pairing" s__law_pairing f fd) (z_range : mg "range" = none) : FnOk P w K mg base CX0 1 f fd ["_law_form", "_law_one", "_law_other"] spPairL := by
  refine F.ok sc__law_pairing (fun vs H Q E h => ?_) (fun cdv A outer s H vs Q E hr h => ?_)
  · obtain ⟨t, bs, m, a, b, x, y, rfl, hT, h33, hB, hx, hy, bx, bY, q⟩ := h
    rfl
  obtain ⟨t, bs, m, a, b, x, y, rfl, hT, h33, hB, hx, hy, bx, bY, q⟩ := h
  have hu := hr.units
  refine ⟨_, (fss (@fs_cons _ _ _ _ _ (ps_set (i := 3) sc__law_pairing.nd rfl (Or.inl rfl) pe_int)
    (@fs_cons _ _ _ _ _ (ps_for PassesOwn.never rfl (pi_range1 rfl z_range (pa_cons pe_int pa_nil)) (pg_name (i := 4) sc__law_pairing.nd rfl (Or.inl rfl)) (pss_one (ps_for PassesOwn.never rfl (pi_range1 rfl z_range (pa_cons pe_int pa_nil)) (pg_name (i := 5) sc__law_pairing.nd rfl (Or.inl rfl)) (pss_one (ps_set (i := 3) sc__law_pairing.nd rfl (Or.inl rfl) (pe_op op_add (pv 3) (pe_op op_mulB (pe_op op_mulB (pe_ix ix_list (pv 1) (pv 4) (fun _ _ => rfl)) (pe_ix ix_list (pe_ix ix_list (pv 0) (pv 4) (fun _ _ => rfl)) (pv 5) (fun _ _ => rfl))) (pe_ix ix_list (pv 2) (pv 5) (fun _ _ => rfl)))))))))
    (@fs_one _ _ _ (ps_ret (pv 3)))))), ?_⟩
  refine ⟨3, rfl, by decide, by decide, for_range (n := 3) (fun i σ H' => ∃ (oi oj : Option V), H = H' ∧ σ = [some (.ref t), some (.ref a), some (.ref b), some (.int (preSum (pairF m x y) (i * 3))), oi, oj]) ⟨_, _, rfl, rfl⟩ (fun i σ H' hi h => ?_) (fun σ H' h => ?_)⟩
  · obtain ⟨oi, oj, rfl, rfl⟩ := h
    refine ⟨3, rfl, by decide, by decide, for_range (n := 3) (fun j σ H' => ∃ (oj : Option V), H = H' ∧ σ = [some (.ref t), some (.ref a), some (.ref b), some (.int (preSum (pairF m x y) (i * 3 + j))), some (.int (0 + i)), oj]) ⟨_, rfl, rfl⟩ (fun j σ H' hj h => ?_) (fun σ H' h => ?_)⟩
    · obtain ⟨oj, rfl, rfl⟩ := h
      have e1 : (i * 3 + j) / 3 = i := by omega
      have e2 : (i * 3 + j) % 3 = j := by omega
      obtain ⟨c, row, f1, f2, f3⟩ := tab_ent hT h33 hi hj
      simp only [Int.zero_add]
      refine ⟨_, rfl, _, rfl, _, rfl, a, _, _, _, rfl, rfl, SqL.of hx, at3n x hi, _, rfl, _, rfl, t, _, _, _, rfl, rfl, SqL.of hT.1, f1, _, rfl, c, _, _, _, rfl, rfl, SqL.of f2, f3, _, _, rfl, rfl, ⟨bd_up (bx i hi) (by decide), bd_up (hB i j hi hj) (by decide)⟩, _, rfl, _, rfl, b, _, _, _, rfl, rfl, SqL.of hy, at3n y hj, _, _, rfl, rfl, ⟨bd_up (bd_mul (bx i hi) (hB i j hi hj)) (by decide), bd_up (bY j hj) (by decide)⟩, _, _, rfl, rfl, ?_⟩
      refine ⟨some (.int j), rfl, ?_⟩
      have e : preSum (pairF m x y) (i * 3 + (j + 1)) = preSum (pairF m x y) (i * 3 + j) + x i * ent m i j * y j := by
        show preSum (pairF m x y) (i * 3 + j) + pairF m x y (i * 3 + j) = _
        unfold pairF
        rw [e1, e2]
      rw [e]
      rfl
    · obtain ⟨oj, rfl, rfl⟩ := h
      exact ⟨some (.int (0 + i)), oj, rfl, by rw [Nat.succ_mul]⟩
  · obtain ⟨oi, oj, rfl, rfl⟩ := h
    exact ⟨_, rfl, q⟩
def spCarL : Sp := fun vs H Q _ => ∃ (t1 : Addr) (b1 : List Addr) (m1 : List (List Int)) (t2 : Addr) (b2 : List Addr) (m2 : List (List Int)), vs = [.ref t1, .ref t2] ∧ Tab H t1 b1 m1 ∧ Tab H t2 b2 m2 ∧ is33 m1 ∧ is33 m2 ∧ Bd 1000 m1 ∧ Bd 1000 m2 ∧
  ∀ r bs H', Same H H' → H r = none → (∀ b ∈ bs, H b = none) → r ∉ bs → bs.Nodup → Tab H' r bs (carT m1 m2) → Q (.ref r) H'
theorem ok__law_carried {f : Addr} {fd : FuncData} (F : Fun K "_law_carried" "_law_carried" s__law_carried f fd)  {f__law_pairing : Addr} {fd__law_pairing : FuncData} (G__law_pairing : FnOk P w K mg base CX0 1 f__law_pairing fd__law_pairing ["_law_form", "_law_one", "_law_other"] spPairL) (b__law_pairing : Binds K fd__law_pairing ["_law_form", "_law_one", "_law_other"] []) (k__law_pairing : PySem.W.keepIn K (.ref f__law_pairing) = true) (m__law_pairing : mg "_law_pairing" = some (.ref f__law_pairing)) : FnOk P w K mg base CX0 2 f fd ["_law_form", "_law_by"] spCarL := by
  refine F.ok sc__law_carried (fun vs H Q E h => ?_) (fun cdv A outer s H vs Q E hr h => ?_)
  · obtain ⟨t1, b1, m1, t2, b2, m2, rfl, h1, h2, c1, c2, d1, d2, q⟩ := h
    rfl
  obtain ⟨t1, b1, m1, t2, b2, m2, rfl, h1, h2, c1, c2, d1, d2, q⟩ := h
  have hu := hr.units
  refine ⟨_, (pss_one (ps_ret (pe_lc1 (N2 := ["_law_form", "_law_by"]) (te := (tComp 1 (iList K (tVar 2)) (gName 0) (tCall spPairL [] E0 (tCons (tVar 2) (tCons (tVar 1) (tCons (tVar 0) tNil)))))) rfl (pi_list (pv 1)) (by kernel_rfl) rfl (fun _ _ _ => by exact asPE (pe_lc1 (N2 := ["_law_one", "_law_form", "_law_by"]) (te := (tCall spPairL [] E0 (tCons (tVar 2) (tCons (tVar 1) (tCons (tVar 0) tNil))))) rfl (pi_list (pv 2)) (by kernel_rfl) rfl (fun _ _ _ => by exact asPE (pe_call G__law_pairing hr rfl m__law_pairing k__law_pairing b__law_pairing .nil pass0 (pa_cons (pv 2) (pa_cons (pv 1) (pa_cons (pv 0) pa_nil)))))))))), ?_⟩
  have l2 : (b2.map V.ref).length = 3 := by rw [List.length_map, ← h2.2.length, c2.1]
  have e : mk3 (fun i j => pairT m1 (ent m2 i) (ent m2 j)) = carT m1 m2 := by
    rw [eq_mk3 (show is33 (carT m1 m2) from (show is33 (mulT (mulT m2 m1) (overT m2)) from is33_mk3 _))]
    exact mk3_congr fun i j hi hj => (ent_carT m1 m2 hi hj).symm
  refine ⟨_, rfl, t2, rfl, ⟨_, SqL.of h2.1⟩, fun D hD => tabJ_rdN (jw_list (SqL.of h2.1)) l2 hD (fun i j => pairT m1 (ent m2 i) (ent m2 j)) (fun i x hi ex H1 Q1 s1 k1 => ?_) (fun bs' H1 s1 fr nD nn hT => q D bs' H1 s1 hD fr nD nn (by rw [← e]; exact hT))⟩
  obtain ⟨b, e1, e2, _⟩ := tab_row3 (h2.same s1) c2 hi
  have ex' : x = .ref b := by
    have q1 := atI_ofNat ex
    rw [e1] at q1
    exact (Option.some.inj q1).symm
  subst ex'
  refine ⟨_, rfl, t2, rfl, ⟨_, SqL.of (h2.same s1).1⟩, fun D2 hD2 => rowJ_rd (jw_list (SqL.of (h2.same s1).1)) l2 hD2 (fun j => pairT m1 (ent m2 i) (ent m2 j)) (fun j x hj ex2 H2 Q2 s2 k2 => ?_) (fun H2 s2 e2 => k1 D2 H2 hD2 s2 e2)⟩
  obtain ⟨b', f1, f2, _⟩ := tab_row3 ((h2.same s1).same s2) c2 hj
  have ex' : x = .ref b' := by
    have q1 := atI_ofNat ex2
    rw [f1] at q1
    exact (Option.some.inj q1).symm
  subst ex'
  exact ⟨_, rfl, _, rfl, _, rfl, t1, b1, m1, b, b', ent m2 i, ent m2 j, rfl, (h1.same s1).same s2, c1, d1, s2 _ _ e2, f2, fun k hk => d2 i k hi hk, fun k hk => d2 j k hj hk, k2 H2 (Same.refl _)⟩
def DrawnC (a b c p q r : Int) : Prop := 0 < a ∧ a ≤ b ∧ b ≤ c ∧ c < 1000000 ∧ -a ≤ p ∧ p ≤ a ∧ -a ≤ q ∧ q ≤ a ∧ -b ≤ r ∧ r ≤ b
def spDrawnB : Sp := fun vs H Q _ => ∃ (B : Addr), vs = [.ref B] ∧ BagAt H B ∧ ∀ a b c p q r t bs H', DrawnC a b c p q r → SB B H H' → H t = none → (∀ b ∈ bs, H b = none) → t ∉ bs → bs.Nodup → Tab H' t bs (sym3 (2 * a) (2 * b) (2 * c) p q r) → Q (.ref t) H'
theorem ok__law_drawn_form {f : Addr} {fd : FuncData} (F : Fun K "_law_drawn_form" "_law_drawn_form" s__law_drawn_form f fd)  {f__law_take : Addr} {fd__law_take : FuncData} (G__law_take : FnOk P w K mg base CX0 1 f__law_take fd__law_take ["_law_bag_here", "_law_many"] spTake) (b__law_take : Binds K fd__law_take ["_law_bag_here", "_law_many"] []) (k__law_take : PySem.W.keepIn K (.ref f__law_take) = true) (m__law_take : mg "_law_take" = some (.ref f__law_take)) : FnOk P w K mg base CX0 2 f fd ["_law_bag_here"] spDrawnB := by
  refine F.ok sc__law_drawn_form (fun vs H Q E h => ?_) (fun cdv A outer s H vs Q E hr h => ?_)
  · obtain ⟨B, rfl, hb, q⟩ := h
    rfl
  obtain ⟨B, rfl, hb, q⟩ := h
  have hu := hr.units
  refine ⟨_, (fss (@fs_cons _ _ _ _ _ (ps_set (i := 1) sc__law_drawn_form.nd rfl (Or.inl rfl) (pe_op op_add pe_int (pe_op op_mul pe_int (pe_call G__law_take hr rfl m__law_take k__law_take b__law_take .nil pass0 (pa_cons (pv 0) (pa_cons pe_int pa_nil))))))
    (@fs_cons _ _ _ _ _ (ps_set (i := 2) sc__law_drawn_form.nd rfl (Or.inl rfl) (pe_op op_add (pv 1) (pe_op op_mul pe_int (pe_call G__law_take hr rfl m__law_take k__law_take b__law_take .nil pass0 (pa_cons (pv 0) (pa_cons pe_int pa_nil))))))
    (@fs_cons _ _ _ _ _ (ps_set (i := 3) sc__law_drawn_form.nd rfl (Or.inl rfl) (pe_op op_add (pv 2) (pe_op op_mul pe_int (pe_call G__law_take hr rfl m__law_take k__law_take b__law_take .nil pass0 (pa_cons (pv 0) (pa_cons pe_int pa_nil))))))
    (@fs_cons _ _ _ _ _ (ps_set (i := 4) sc__law_drawn_form.nd rfl (Or.inl rfl) (pe_op op_sub (pe_call G__law_take hr rfl m__law_take k__law_take b__law_take .nil pass0 (pa_cons (pv 0) (pa_cons (pe_op op_add (pv 1) pe_int) pa_nil))) (pe_op op_fdiv (pv 1) pe_int)))
    (@fs_cons _ _ _ _ _ (ps_set (i := 5) sc__law_drawn_form.nd rfl (Or.inl rfl) (pe_op op_sub (pe_call G__law_take hr rfl m__law_take k__law_take b__law_take .nil pass0 (pa_cons (pv 0) (pa_cons (pe_op op_add (pv 1) pe_int) pa_nil))) (pe_op op_fdiv (pv 1) pe_int)))
    (@fs_cons _ _ _ _ _ (ps_set (i := 6) sc__law_drawn_form.nd rfl (Or.inl rfl) (pe_op op_sub (pe_call G__law_take hr rfl m__law_take k__law_take b__law_take .nil pass0 (pa_cons (pv 0) (pa_cons (pe_op op_add (pv 2) pe_int) pa_nil))) (pe_op op_fdiv (pv 2) pe_int)))
    (@fs_one _ _ _ (ps_ret (pe_lst (pa_cons (pe_lst (pa_cons (pv 1) (pa_cons (pv 4) (pa_cons (pv 5) pa_nil)))) (pa_cons (pe_lst (pa_cons (pv 4) (pa_cons (pv 2) (pa_cons (pv 6) pa_nil)))) (pa_cons (pe_lst (pa_cons (pv 5) (pa_cons (pv 6) (pa_cons (pv 3) pa_nil)))) pa_nil))))))))))))), ?_⟩
  refine ⟨_, rfl, B, _, rfl, hb, by decide, by decide, fun d0 H1 l0 u0 s1 => ⟨_, _, rfl, rfl, .inl ⟨by decide, by decide⟩, _, _, rfl, rfl, ?_⟩⟩
  obtain ⟨a, ea, a1, a4⟩ : ∃ a, 2 + 2 * d0 = 2 * a ∧ 0 < a ∧ a ≤ 4 := ⟨1 + d0, by omega, by omega, by omega⟩
  simp only [ea]
  refine ⟨_, rfl, _, rfl, B, _, rfl, s1.2, by decide, by decide, fun d1 H2 l1 u1 s2 => ⟨_, _, rfl, rfl, .inl ⟨by decide, by decide⟩, _, _, rfl, rfl, ?_⟩⟩
  obtain ⟨b, eb, ab, b9⟩ : ∃ b, 2 * a + 2 * d1 = 2 * b ∧ a ≤ b ∧ b ≤ 9 := ⟨a + d1, by omega, by omega, by omega⟩
  simp only [eb]
  refine ⟨_, rfl, _, rfl, B, _, rfl, s2.2, by decide, by decide, fun d2 H3 l2 u2 s3 => ⟨_, _, rfl, rfl, .inl ⟨by decide, by decide⟩, _, _, rfl, rfl, ?_⟩⟩
  obtain ⟨c, ec, bc, c9⟩ : ∃ c, 2 * b + 2 * d2 = 2 * c ∧ b ≤ c ∧ c < 1000000 := ⟨b + d2, by omega, by omega, by omega⟩
  simp only [ec]
  refine ⟨_, rfl, _, rfl, _, _, rfl, rfl, B, _, rfl, s3.2, by omega, log2_small (by omega) (by omega), fun d3 H4 l3 u3 s4 => ⟨_, rfl, _, _, rfl, rfl, ⟨by decide, by decide⟩, _, _, rfl, rfl, ?_⟩⟩
  refine ⟨_, rfl, _, rfl, _, _, rfl, rfl, B, _, rfl, s4.2, by omega, log2_small (by omega) (by omega), fun d4 H5 l4 u4 s5 => ⟨_, rfl, _, _, rfl, rfl, ⟨by decide, by decide⟩, _, _, rfl, rfl, ?_⟩⟩
  refine ⟨_, rfl, _, rfl, _, _, rfl, rfl, B, _, rfl, s5.2, by omega, log2_small (by omega) (by omega), fun d5 H6 l5 u5 s6 => ⟨_, rfl, _, _, rfl, rfl, ⟨by decide, by decide⟩, _, _, rfl, rfl, ?_⟩⟩
  obtain ⟨p, ep, hp, hp'⟩ : ∃ p, d3 - 2 * a / 2 = p ∧ -a ≤ p ∧ p ≤ a := ⟨_, rfl, by omega, by omega⟩
  obtain ⟨qq, eq, hq, hq'⟩ : ∃ p, d4 - 2 * a / 2 = p ∧ -a ≤ p ∧ p ≤ a := ⟨_, rfl, by omega, by omega⟩
  obtain ⟨r, er, hr', hr''⟩ : ∃ p, d5 - 2 * b / 2 = p ∧ -b ≤ p ∧ p ≤ b := ⟨_, rfl, by omega, by omega⟩
  simp only [ep, eq, er]
  have s16 := s1.trans (s2.trans (s3.trans (s4.trans (s5.trans s6))))
  refine ⟨_, rfl, _, rfl, _, rfl, (by show 3 ≤ sizeLine; decide), fun p0 h0 => ⟨_, rfl, _, rfl, _, rfl, (by show 3 ≤ sizeLine; decide), fun p1 h1 => ⟨_, rfl, _, rfl, _, rfl, (by show 3 ≤ sizeLine; decide), fun p2 h2 => ⟨(by show 3 ≤ sizeLine; decide), fun t ht => ?_⟩⟩⟩⟩
  have v0 := Same.up (o := .lst [.int (2 * a), .int p, .int qq]) h0
  have v1 := Same.up (o := .lst [.int p, .int (2 * b), .int r]) h1
  have v2 := Same.up (o := .lst [.int qq, .int r, .int (2 * c)]) h2
  have v3 := Same.up (o := .lst [.ref p0, .ref p1, .ref p2]) ht
  have T : Tab _ t [p0, p1, p2] (sym3 (2 * a) (2 * b) (2 * c) p qq r) := tab_of3 _ upd_same (v3 _ _ (v2 _ _ (v1 _ _ upd_same))) (v3 _ _ (v2 _ _ upd_same)) (v3 _ _ upd_same)
  obtain ⟨f1, f2, f3⟩ := fresh3 h0 h1 h2 ht
  exact q a b c p qq r t _ _ ⟨a1, ab, bc, c9, hp, hp', hq, hq', hr', hr''⟩ (s16.trans (SB.of s16.2 (v0.trans (v1.trans (v2.trans v3))))) (s16.gone f1) (fun x hx => s16.gone (f2 x hx)) f3 (nodup3 h0 h1 h2) T
def spAboveB : Sp := fun vs H Q _ => ∃ (t : Addr) (bs : List Addr) (m : List (List Int)), vs = [.ref t] ∧ Tab H t bs m ∧ is33 m ∧ Bd 1000 m ∧ Q (.bl (decide (ent m 0 1 * ent m 0 1 < ent m 0 0 * ent m 1 1) && decide (0 < detT m))) H
theorem ok__law_is_above {f : Addr} {fd : FuncData} (F : Fun K "_law_is_above" "_law_is_above" s__law_is_above f fd)  {f__law_determinant : Addr} {fd__law_determinant : FuncData} (G__law_determinant : FnOk P w K mg base CX0 1 f__law_determinant fd__law_determinant ["_law_t"] spDetL) (b__law_determinant : Binds K fd__law_determinant ["_law_t"] []) (k__law_determinant : PySem.W.keepIn K (.ref f__law_determinant) = true) (m__law_determinant : mg "_law_determinant" = some (.ref f__law_determinant)) : FnOk P w K mg base CX0 2 f fd ["_law_form"] spAboveB := by
  refine F.ok sc__law_is_above (fun vs H Q E h => ?_) (fun cdv A outer s H vs Q E hr h => ?_)
  · obtain ⟨t, bs, m, rfl, hT, h33, hB, q⟩ := h
    rfl
  obtain ⟨t, bs, m, rfl, hT, h33, hB, q⟩ := h
  have hu := hr.units
  refine ⟨_, (pss_one (ps_ret (pe_and (pe_cmpR op_gt (pe_op op_mulB (pe_ix ix_list (pe_ix ix_list (pv 0) pe_int (fun _ _ => rfl)) pe_int (fun _ _ => rfl)) (pe_ix ix_list (pe_ix ix_list (pv 0) pe_int (fun _ _ => rfl)) pe_int (fun _ _ => rfl))) (pe_op op_mulB (pe_ix ix_list (pe_ix ix_list (pv 0) pe_int (fun _ _ => rfl)) pe_int (fun _ _ => rfl)) (pe_ix ix_list (pe_ix ix_list (pv 0) pe_int (fun _ _ => rfl)) pe_int (fun _ _ => rfl))) (nomark _)) (pe_one (pe_cmpR op_gt (pe_call G__law_determinant hr rfl m__law_determinant k__law_determinant b__law_determinant .nil pass0 (pa_cons (pv 0) pa_nil)) pe_int (nomark _)))))), ?_⟩
  obtain ⟨c0, x1, x2, _⟩ := tab_row3 hT h33 (i := 0) (by decide)
  obtain ⟨c1, y1, y2, _⟩ := tab_row3 hT h33 (i := 1) (by decide)
  obtain ⟨c2, w1, w2, _⟩ := tab_row3 hT h33 (i := 2) (by decide)
  refine ⟨_, rfl, t, _, _, _, rfl, rfl, SqL.of hT.1, x1, c0, _, _, _, rfl, rfl, SqL.of x2, rfl, _, rfl, t, _, _, _, rfl, rfl, SqL.of hT.1, y1, c1, _, _, _, rfl, rfl, SqL.of y2, rfl, _, _, rfl, rfl, ⟨bd_up (hB 0 0 (by decide) (by decide)) (by decide), bd_up (hB 1 1 (by decide) (by decide)) (by decide)⟩, _, rfl, t, _, _, _, rfl, rfl, SqL.of hT.1, x1, c0, _, _, _, rfl, rfl, SqL.of x2, rfl, _, rfl, t, _, _, _, rfl, rfl, SqL.of hT.1, x1, c0, _, _, _, rfl, rfl, SqL.of x2, rfl, _, _, rfl, rfl, ⟨bd_up (hB 0 1 (by decide) (by decide)) (by decide), bd_up (hB 0 1 (by decide) (by decide)) (by decide)⟩, _, _, rfl, rfl, _, rfl, ite2 (fun d => ?_) (fun d => ?_)⟩
  · have d : ent m 0 1 * ent m 0 1 < ent m 0 0 * ent m 1 1 := of_decide_eq_true d
    rw [decide_eq_true d, Bool.true_and] at q
    exact ⟨_, rfl, t, bs, m, rfl, hT, h33, hB, _, _, rfl, rfl, q⟩
  · have d : ¬ ent m 0 1 * ent m 0 1 < ent m 0 0 * ent m 1 1 := fun z => d (decide_eq_true z)
    rw [decide_eq_false d, Bool.false_and] at q
    exact q
def spReduced : Sp := fun vs H Q _ => ∃ (B : Addr) (most : Int), vs = [.ref B, .int most] ∧ BagAt H B ∧ 4 ≤ most ∧ most ≤ 1000 ∧ ∀ m t bs H', is33 m → Bd 30 m → EvenT m → aboveT m = true → detT m / 2 ≤ most → SB B H H' → H t = none → (∀ b ∈ bs, H b = none) → t ∉ bs → bs.Nodup → Tab H' t bs m → Q (.ref t) H'
theorem ok__law_reduced {f : Addr} {fd : FuncData} (F : Fun K "_law_reduced" "_law_reduced" s__law_reduced f fd) (z_range : mg "range" = none) {f__law_drawn_form : Addr} {fd__law_drawn_form : FuncData} (G__law_drawn_form : FnOk P w K mg base CX0 2 f__law_drawn_form fd__law_drawn_form ["_law_bag_here"] spDrawnB) (b__law_drawn_form : Binds K fd__law_drawn_form ["_law_bag_here"] []) (k__law_drawn_form : PySem.W.keepIn K (.ref f__law_drawn_form) = true) (m__law_drawn_form : mg "_law_drawn_form" = some (.ref f__law_drawn_form)) {f__law_is_above : Addr} {fd__law_is_above : FuncData} (G__law_is_above : FnOk P w K mg base CX0 2 f__law_is_above fd__law_is_above ["_law_form"] spAboveB) (b__law_is_above : Binds K fd__law_is_above ["_law_form"] []) (k__law_is_above : PySem.W.keepIn K (.ref f__law_is_above) = true) (m__law_is_above : mg "_law_is_above" = some (.ref f__law_is_above)) {f__law_determinant : Addr} {fd__law_determinant : FuncData} (G__law_determinant : FnOk P w K mg base CX0 2 f__law_determinant fd__law_determinant ["_law_t"] spDetL) (b__law_determinant : Binds K fd__law_determinant ["_law_t"] []) (k__law_determinant : PySem.W.keepIn K (.ref f__law_determinant) = true) (m__law_determinant : mg "_law_determinant" = some (.ref f__law_determinant)) {f__law_take : Addr} {fd__law_take : FuncData} (G__law_take : FnOk P w K mg base CX0 2 f__law_take fd__law_take ["_law_bag_here", "_law_many"] spTake) (b__law_take : Binds K fd__law_take ["_law_bag_here", "_law_many"] []) (k__law_take : PySem.W.keepIn K (.ref f__law_take) = true) (m__law_take : mg "_law_take" = some (.ref f__law_take)) : FnOk P w K mg base CX0 3 f fd ["_law_bag_here", "_law_most"] spReduced := by
  refine F.ok sc__law_reduced (fun vs H Q E h => ?_) (fun cdv A outer s H vs Q E hr h => ?_)
  · obtain ⟨B, most, rfl, hb, m0, m1, q⟩ := h
    rfl
  obtain ⟨B, most, rfl, hb, m0, m1, q⟩ := h
  have hu := hr.units
  refine ⟨_, (fss (@fs_cons _ _ _ _ _ (ps_for PassesOwn.never rfl (pi_range1 rfl z_range (pa_cons pe_int pa_nil)) (pg_name (i := 2) sc__law_reduced.nd rfl (Or.inl rfl)) (fss (@fs_cons _ _ _ _ _ (ps_set (i := 3) sc__law_reduced.nd rfl (Or.inl rfl) (pe_call G__law_drawn_form hr rfl m__law_drawn_form k__law_drawn_form b__law_drawn_form .nil pass0 (pa_cons (pv 0) pa_nil)))
    (@fs_one _ _ _ (ps_ifF (PW.pt (pw_and (pt_val (pe_call G__law_is_above hr rfl m__law_is_above k__law_is_above b__law_is_above .nil pass0 (pa_cons (pv 3) pa_nil))) (pw_and1 (pt_cmpR op_le (pe_call G__law_determinant hr rfl m__law_determinant k__law_determinant b__law_determinant .nil pass0 (pa_cons (pv 3) pa_nil)) (pe_op op_mul pe_int (pv 1)) (nomark _))))) (@fs_one _ _ _ (ps_ret (pv 3))) fs_nil)))))
    (@fs_cons _ _ _ _ _ (ps_set (i := 4) sc__law_reduced.nd rfl (Or.inl rfl) (pe_op op_add pe_int (pe_op op_mul pe_int (pe_call G__law_take hr rfl m__law_take k__law_take b__law_take .nil pass0 (pa_cons (pv 0) (pa_cons (pe_op op_fdiv (pv 1) pe_int) pa_nil))))))
    (fs_ret (fe_lst (fa_cons (fe_lst (fa_cons fe_int (fa_cons fe_int (fa_cons fe_int fa_nil (by kernel_rfl)) (by kernel_rfl)) (by kernel_rfl))) (fa_cons (fe_lst (fa_cons fe_int (fa_cons fe_int (fa_cons fe_int fa_nil (by kernel_rfl)) (by kernel_rfl)) (by kernel_rfl))) (fa_cons (fe_lst (fa_cons fe_int (fa_cons fe_int (fa_cons (fe (pv 4)) fa_nil (by kernel_rfl)) (by kernel_rfl)) (by kernel_rfl))) fa_nil (by kernel_rfl)) (by kernel_rfl)) (by kernel_rfl))))))), ?_⟩
  refine ⟨12, rfl, by decide, by decide, for_range (n := 12) (fun i σ H' => ∃ (o2 o3 : Option V), SB B H H' ∧ σ = [some (.ref B), some (.int most), o2, o3, none]) ⟨_, _, SB.refl hb, rfl⟩ (fun i σ H1 hi h => ?_) (fun σ H1 h => ?_)⟩
  · obtain ⟨o2, o3, s1, rfl⟩ := h
    refine ⟨_, rfl, B, rfl, s1.2, fun a b c p qq r t bs H2 hD s2 ft fb nt nn T => ?_⟩
    obtain ⟨i1, i2, i3, i4, i5, i6, i7, i8, i9, i10⟩ := hD
    have bM : Bd 30 (sym3 (2 * a) (2 * b) (2 * c) p qq r) := bd_sym3 (by omega) (by omega) (by omega) (by omega) (by omega) (by omega)
    have s12 := s1.trans s2
    refine ⟨_, rfl, t, bs, _, rfl, T, is33_mk3 _, bM.mono (by decide), _, rfl, ?_⟩
    refine and_if ⟨_, _, s12, rfl⟩ (fun ca hE => ⟨_, rfl, t, bs, _, rfl, T, is33_mk3 _, bM.mono (by decide), _, rfl, _, _, rfl, rfl, .inl ⟨by decide, by decide⟩, _, _, rfl, rfl, _, rfl, ite2 (fun cd => ?_) (fun _ => hE)⟩)
    rw [Bool.and_eq_true] at ca
    have hd := of_decide_eq_true ca.2
    have cd : detT (sym3 (2 * a) (2 * b) (2 * c) p qq r) ≤ 2 * most := of_decide_eq_true cd
    exact ⟨_, rfl, q (sym3 (2 * a) (2 * b) (2 * c) p qq r) t bs H2 (is33_mk3 _) bM (even_sym3 _ _ _ _ _ _) (form_above i1 i2 i5 i6 hd) (by omega) s12 (s1.gone ft) (fun x hx => s1.gone (fb x hx)) nt nn T⟩
  · obtain ⟨o2, o3, s1, rfl⟩ := h
    refine ⟨_, rfl, _, rfl, _, _, rfl, rfl, ⟨by decide, by decide⟩, B, _, rfl, s1.2, by omega, log2_small (by omega) (by omega), fun d H2 l0 u0 s2 => ⟨_, _, rfl, rfl, .inl ⟨by decide, by decide⟩, _, _, rfl, rfl, ?_⟩⟩
    obtain ⟨c, ec, c1, c2⟩ : ∃ c, 2 + 2 * d = 2 * c ∧ 0 < c ∧ 4 * c ≤ most := ⟨1 + d, by omega, by omega, by omega⟩
    simp only [ec]
    have s12 := s1.trans s2
    refine ⟨(by show 3 ≤ sizeLine; decide), fun p0 h0 => ⟨(by show 3 ≤ sizeLine; decide), fun p1 h1 => ⟨_, rfl, (by show 3 ≤ sizeLine; decide), fun p2 h2 => ⟨(by show 3 ≤ sizeLine; decide), fun t ht => ?_⟩⟩⟩⟩
    have v0 := Same.up (o := .lst [.int (2 * 1), .int 0, .int 0]) h0
    have v1 := Same.up (o := .lst [.int 0, .int (2 * 1), .int 0]) h1
    have v2 := Same.up (o := .lst [.int 0, .int 0, .int (2 * c)]) h2
    have v3 := Same.up (o := .lst [.ref p0, .ref p1, .ref p2]) ht
    have T : Tab _ t [p0, p1, p2] (sym3 (2 * 1) (2 * 1) (2 * c) 0 0 0) := tab_of3 _ upd_same (v3 _ _ (v2 _ _ (v1 _ _ upd_same))) (v3 _ _ (v2 _ _ upd_same)) (v3 _ _ upd_same)
    obtain ⟨f1, f2, f3⟩ := fresh3 h0 h1 h2 ht
    have ed : detT (sym3 (2 * 1) (2 * 1) (2 * c) 0 0 0) = 8 * c := by
      rw [det_sym3]
      omega
    exact q (sym3 (2 * 1) (2 * 1) (2 * c) 0 0 0) t _ _ (is33_mk3 _) (bd_sym3 (by omega) (by omega) (by omega) (by omega) (by omega) (by omega)) (even_sym3 1 1 c 0 0 0) (form_above (by decide) (by decide) (by decide) (by decide) (by rw [ed]; omega)) (by rw [ed]; omega) (s12.trans (SB.of s12.2 (v0.trans (v1.trans (v2.trans v3))))) (s12.gone f1) (fun x hx => s12.gone (f2 x hx)) f3 (nodup3 h0 h1 h2) T
end
end CL

set_option maxHeartbeats 1000000
namespace CL
open PySem L2
section
variable {P : Program} {w : World} {K : PySem.W.Frag} {mg : Str → Option Value} {base : Heap}
def spBasisB : Sp := fun vs H Q _ => ∃ (B : Addr) (far : Int), vs = [.ref B, .int far] ∧ BagAt H B ∧ 0 ≤ far ∧ far ≤ 10000 ∧ ∀ m t bs H', is33 m → Bd 100 m → detT m = 1 → SB B H H' → H t = none → (∀ b ∈ bs, H b = none) → t ∉ bs → Tab H' t bs m → Q (.ref t) H'
theorem ok__law_basis {f : Addr} {fd : FuncData} (F : Fun K "_law_basis" "_law_basis" s__law_basis f fd) (z_range : mg "range" = none) (z_zip : mg "zip" = none) (z_int : mg "int" = none) {f__law_take : Addr} {fd__law_take : FuncData} (G__law_take : FnOk P w K mg base CX0 1 f__law_take fd__law_take ["_law_bag_here", "_law_many"] spTake) (b__law_take : Binds K fd__law_take ["_law_bag_here", "_law_many"] []) (k__law_take : PySem.W.keepIn K (.ref f__law_take) = true) (m__law_take : mg "_law_take" = some (.ref f__law_take)) : FnOk P w K mg base CX0 2 f fd ["_law_bag_here", "_law_far"] spBasisB := by
  refine F.ok sc__law_basis (fun vs H Q E h => ?_) (fun cdv A outer s H vs Q E hr h => ?_)
  · obtain ⟨B, far, rfl, hb, f0, f1, K0⟩ := h
    rfl
  obtain ⟨B, far, rfl, hb, f0, f1, K0⟩ := h
  have hu := hr.units
  refine toF ?_
  refine ⟨_, (fs_set (i := 2) sc__law_basis.nd rfl (Or.inl rfl) (fe_lst (fa_cons (fe_lst (fa_cons fe_int (fa_cons fe_int (fa_cons fe_int fa_nil (by kernel_rfl)) (by kernel_rfl)) (by kernel_rfl))) (fa_cons (fe_lst (fa_cons fe_int (fa_cons fe_int (fa_cons fe_int fa_nil (by kernel_rfl)) (by kernel_rfl)) (by kernel_rfl))) (fa_cons (fe_lst (fa_cons fe_int (fa_cons fe_int (fa_cons fe_int fa_nil (by kernel_rfl)) (by kernel_rfl)) (by kernel_rfl))) fa_nil (by kernel_rfl)) (by kernel_rfl)) (by kernel_rfl))) (by kernel_rfl) (by first | exact .inl rfl | exact .inr rfl)
    (@fs_cons _ _ _ _ _ (ps_for PassesOwn.never rfl (pi_range1 rfl z_range (pa_cons (pe_call G__law_take hr rfl m__law_take k__law_take b__law_take .nil pass0 (pa_cons (pv 0) (pa_cons (pe_ix ix_list (pe_lst (pa_cons pe_int (pa_cons pe_int pa_nil))) (pe_callTy call_int1 rfl z_int PyProof.Rows.boot_int (pa_cons (pe_cmpR op_gt (pv 1) pe_int (nomark _)) pa_nil)) (fun _ _ => rfl)) pa_nil))) pa_nil)) (pg_name (i := 3) sc__law_basis.nd rfl (Or.inl rfl)) (fss (@fs_cons _ _ _ _ _ (ps_set (i := 4) sc__law_basis.nd rfl (Or.inl rfl) (pe_call G__law_take hr rfl m__law_take k__law_take b__law_take .nil pass0 (pa_cons (pv 0) (pa_cons pe_int pa_nil))))
    (@fs_cons _ _ _ _ _ (ps_set (i := 5) sc__law_basis.nd rfl (Or.inl rfl) (pe_op op_mod (pe_op op_add (pe_op op_add (pv 4) pe_int) (pe_call G__law_take hr rfl m__law_take k__law_take b__law_take .nil pass0 (pa_cons (pv 0) (pa_cons pe_int pa_nil)))) pe_int))
    (@fs_cons _ _ _ _ _ (ps_set (i := 6) sc__law_basis.nd rfl (Or.inr rfl) (pe_op op_sub (pe_call G__law_take hr rfl m__law_take k__law_take b__law_take .nil pass0 (pa_cons (pv 0) (pa_cons (pe_op op_add (pe_op op_mul pe_int (pv 1)) pe_int) pa_nil))) (pv 1)))
    (@fs_cons _ _ _ _ _ (ps_asg (pe_lc2 (N2 := ["_law_bag_here", "_law_far", "_law_made", "_law_turn", "_law_i", "_law_j", "_law_times"]) (te := (tOp (rI0 fun i j => .int (i + j)) (tVar 0) (tOp (rI CMulB fun i j => .int (i * j)) (tVar 8) (tVar 1)))) rfl (pi_zip rfl z_zip (pa_cons (pe_ix ix_list (pv 2) (pv 4) (fun _ _ => rfl)) (pa_cons (pe_ix ix_list (pv 2) (pv 5) (fun _ _ => rfl)) pa_nil))) (by kernel_rfl) rfl (fun _ _ _ => by exact asPE (pe_op op_add (pv 0) (pe_op op_mulB (pv 8) (pv 1))))) (pg_sub (pv 2) (pv 4) set_list))
    (@fs_one _ _ _ (ps_ifF (pt_cmpR op_eq (pe_call G__law_take hr rfl m__law_take k__law_take b__law_take .nil pass0 (pa_cons (pv 0) (pa_cons pe_int pa_nil))) pe_int (nomark _)) (@fs_one _ _ _ (ps_asg (pe_tup (pa_cons (pe_ix ix_list (pv 2) (pv 5) (fun _ _ => rfl)) (pa_cons (pe_lc1 (N2 := ["_law_bag_here", "_law_far", "_law_made", "_law_turn", "_law_i", "_law_j", "_law_times"]) (te := (tOp (rI0 fun i j => .int (i - j)) (tC (.int 0)) (tVar 0))) rfl (pi_list (pe_ix ix_list (pv 2) (pv 4) (fun _ _ => rfl))) (by kernel_rfl) rfl (fun _ _ _ => by exact asPE (pe_op op_sub pe_int (pv 0)))) pa_nil))) (pg_tup rfl (pgs_cons (pg_sub (pv 2) (pv 4) set_list) (pgs_cons (pg_sub (pv 2) (pv 5) set_list) pgs_nil))))) fs_nil))))))))
    (@fs_one _ _ _ (ps_ret (pv 2))))), ?_⟩
  refine ⟨(by show 3 ≤ sizeLine; decide), fun p0 g0 => ⟨(by show 3 ≤ sizeLine; decide), fun p1 g1 => ⟨(by show 3 ≤ sizeLine; decide), fun p2 g2 => ⟨(by show 3 ≤ sizeLine; decide), fun D hD => ?_⟩⟩⟩⟩
  have u0 := Same.up (o := .lst [.int 1, .int 0, .int 0]) g0
  have u1 := Same.up (o := .lst [.int 0, .int 1, .int 0]) g1
  have u2 := Same.up (o := .lst [.int 0, .int 0, .int 1]) g2
  have u3 := Same.up (o := .lst [.ref p0, .ref p1, .ref p2]) hD
  have T : Tab _ D [p0, p1, p2] (unitT 1) := tab_of3 _ upd_same (u3 _ _ (u2 _ _ (u1 _ _ upd_same))) (u3 _ _ (u2 _ _ upd_same)) (u3 _ _ upd_same)
  have us := u0.trans (u1.trans (u2.trans u3))
  obtain ⟨fD, fb, nD⟩ := fresh3 g0 g1 g2 hD
  have nDB : D ≠ B := hb.ne fD
  have nB : ∀ bs : List Addr, (∀ b ∈ bs, H b = none) → B ∉ bs := fun bs f z => hb.ne (f B z) rfl
  refine ⟨_, rfl, (by show 2 ≤ sizeLine; decide), fun Lx hL => ?_⟩
  have u4 := Same.up (o := .lst [.int 6, .int 4]) hL
  refine ⟨_, rfl, _, _, rfl, rfl, .inr ⟨_, rfl, ?_⟩⟩
  obtain ⟨v, hv, hv2⟩ := at2 (x := .int 6) (y := .int 4) (i := if decide ((3 : Int) < far) = true then 1 else 0) (by split <;> decide) (by split <;> decide)
  obtain ⟨w, rfl, w0, w6⟩ : ∃ w : Int, v = .int w ∧ 0 < w ∧ w ≤ 6 := by
    rcases hv2 with rfl | rfl
    · exact ⟨_, rfl, by decide, by decide⟩
    · exact ⟨_, rfl, by decide, by decide⟩
  have sb0 := SB.of hb (us.trans u4)
  refine ⟨Lx, _, _, _, rfl, rfl, SqL.of upd_same, hv, B, w, rfl, sb0.2, w0, log2_small (by omega) (by omega), fun d H2 l0 d6 s2 => ?_⟩
  have T2 := (T.same u4).sb s2 nDB (nB _ fb)
  have s02 := sb0.trans s2
  refine ⟨_, rfl, by omega, by omega, for_range (n := d.toNat) (fun k σ H' => ∃ (o3 o4 o5 o6 : Option V) (bs : List Addr) (m : List (List Int)), σ = [some (.ref B), some (.int far), some (.ref D), o3, o4, o5, o6] ∧ SB B H H' ∧ Tab H' D bs m ∧ is33 m ∧ Bd (15 * k + 1) m ∧ detT m = 1 ∧ (∀ b ∈ bs, H b = none) ∧ D ∉ bs) ⟨_, _, _, _, _, _, rfl, s02, T2, is33_mk3 _, fun i j hi hj => ?_, rfl, fb, nD⟩ (fun k σ H1 hk h => ?_) (fun σ H1 h => ?_)⟩
  · rw [unitT, ent_mk3 _ hi hj]
    split <;> decide
  · obtain ⟨o3, o4, o5, o6, bs, m, rfl, s1, T1, c33, dm, det1, fb, nD⟩ := h
    have nBb := nB bs fb
    refine ⟨_, rfl, B, _, rfl, s1.2, by decide, by decide, fun d1 H2 l1 u1 s2 => ?_⟩
    refine ⟨_, rfl, _, _, rfl, rfl, _, rfl, B, _, rfl, s2.2, by decide, by decide, fun d2 H3 l2 u2 s3 => ⟨_, _, rfl, rfl, _, _, rfl, rfl, (by show (0 : Int) < 3; decide), ?_⟩⟩
    refine ⟨_, rfl, _, rfl, _, _, rfl, rfl, .inl ⟨by decide, by decide⟩, _, _, rfl, rfl, B, _, rfl, s3.2, by omega, log2_small (by omega) (by omega), fun d3 H4 l3 u3 s4 => ⟨_, rfl, _, _, rfl, rfl, ?_⟩⟩
    obtain ⟨i, ei, hi⟩ : ∃ i : Nat, d1 = (i : Int) ∧ i < 3 := ⟨d1.toNat, by omega, by omega⟩
    obtain ⟨j, ej, hj⟩ : ∃ j : Nat, ((i : Int) + 1 + d2) % 3 = (j : Int) ∧ j < 3 := ⟨(((i : Int) + 1 + d2) % 3).toNat, by omega, by omega⟩
    have hij : i ≠ j := by omega
    obtain ⟨o, eo, ho⟩ : ∃ o : Int, o = d3 - far ∧ o.natAbs < 2 ^ 14 := ⟨_, rfl, by omega⟩
    simp only [ei, ej, ← eo]
    have s24 := s2.trans (s3.trans s4)
    have T4 := T1.sb s24 nDB nBb
    have s14 := s1.trans s24
    obtain ⟨bi, x1, x2, x3⟩ := tab_row3 T4 c33 hi
    obtain ⟨bj, y1, y2, y3⟩ := tab_row3 T4 c33 hj
    refine ⟨_, rfl, _, rfl, D, _, _, _, rfl, rfl, SqL.of T4.1, x1, _, rfl, _, rfl, D, _, _, _, rfl, rfl, SqL.of T4.1, y1, bi, bj, _, _, rfl, SqL.of x2, SqL.of y2, fun R hR => ?_⟩
    have bk : ∀ s, s < 3 → (ent m i s + o * ent m j s).natAbs < 2 ^ (15 * (k + 1) + 1) := fun s hs => bd_up (bd_add (bd_up (dm i s hi hs) (show 15 * k + 1 ≤ 14 + (15 * k + 1) by omega)) (bd_mul ho (dm j s hj hs))) (by omega)
    have k6 : k < 6 := by omega
    refine comp_zip (SqL.of x2) (SqL.of y2) rfl (by show 3 ≤ sizeLine; decide) hR (fun u v => match u, v with | .int i, .int j => .int (i + o * j) | _, _ => .non) (fun n u v eu ev G Q' sm kk => ?_) (fun H5 s5 e5 => ?_)
    · have hn : n < 3 := (List.getElem?_eq_some_iff.mp eu).1
      rcases cases3 hn with rfl | rfl | rfl <;> cases eu <;> cases ev <;> exact ⟨_, rfl, _, rfl, _, rfl, _, _, rfl, rfl, ⟨bd_up ho (by decide), bd_up (dm j _ hj (by decide)) (by omega)⟩, _, _, rfl, rfl, kk⟩
    have nR : R ≠ D := Ne.symm (ne_of_none T4.1 hR)
    have l3 : bs.length = 3 := by rw [← T4.2.length, c33.1]
    have fR : H R = none := s14.gone hR
    refine ⟨_, rfl, _, rfl, D, _, _, i, rfl, rfl, s5 _ _ T4.1, (by rw [List.length_map, l3]; rcases cases3 hi with rfl | rfl | rfl <;> rfl), ?_⟩
    have T5 := tab_set (g := fun s => ent m i s + o * ent m j s) (T4.same s5) c33 hi e5 nR nD
    have s15 : SB B H _ := (s14.trans (SB.of s14.2 s5)).updF (o := .lst ((bs.map V.ref).set i (.ref R))) fD nDB
    have fb5 : ∀ b ∈ bs.set i R, H b = none := fun b hb => by
      rcases List.mem_or_eq_of_mem_set hb with z | z
      · exact fb b z
      · rw [z]; exact fR
    have nD5 : D ∉ bs.set i R := fun hb => by
      rcases List.mem_or_eq_of_mem_set hb with z | z
      · exact nD z
      · exact nR z.symm
    have dm5 : Bd (15 * (k + 1) + 1) (setT m i fun s => ent m i s + o * ent m j s) := fun r s hr hs => by
      rw [ent_setT m _ hr hs]
      split
      · exact bk s hs
      · exact bd_up (dm r s hr hs) (by omega)
    have det5 := (det_add m hi hj hij o).trans det1
    have c5 : is33 (setT m i fun s => ent m i s + o * ent m j s) := is33_mk3 _
    generalize setT m i (fun s => ent m i s + o * ent m j s) = M at T5 dm5 det5 c5
    generalize bs.set i R = bS at T5 fb5 nD5
    refine ⟨_, rfl, B, _, rfl, s15.2, by decide, by decide, fun d4 H6 l4 u4 s6 => ⟨rfl, _, rfl, ite2 (fun _ => ?_) (fun _ => ?_)⟩⟩
    · have T6 := T5.sb s6 nDB (nB _ fb5)
      have s16 := s15.trans s6
      obtain ⟨ai, q1, q2, q3⟩ := tab_row3 T6 c5 hi
      obtain ⟨aj, r1, r2, r3⟩ := tab_row3 T6 c5 hj
      refine ⟨_, rfl, _, rfl, D, _, _, _, rfl, rfl, SqL.of T6.1, r1, _, rfl, _, rfl, D, _, _, _, rfl, rfl, SqL.of T6.1, q1, ai, rfl, ⟨_, SqL.of q2⟩, fun R2 hR2 => ?_⟩
      refine rowJ_rd (jw_list (SqL.of q2)) rfl hR2 (fun s => 0 - ent M i s) (fun n y hn ey G Q' sm kk => ?_) (fun H7 s7 e7 => ?_)
      · rcases cases3 hn with rfl | rfl | rfl <;> cases ey <;> exact ⟨_, rfl, _, _, rfl, rfl, kk G (Same.refl _)⟩
      refine ⟨(by show 2 ≤ sizeLine; decide), fun Pt hP => ?_⟩
      have u8 := Same.up (o := .tup [.ref aj, .ref R2]) hP
      have s68 := s7.trans u8
      have T8 := T6.same s68
      have l5 : bS.length = 3 := by rw [← T6.2.length, c5.1]
      have naj : aj ≠ D := fun z => nD5 (by rw [← z]; exact r3)
      have T9 := tab_set (g := fun s => ent M j s) T8 c5 hi (s68 _ _ r2) naj nD5
      have nD9 : D ∉ bS.set i aj := fun hb => by
        rcases List.mem_or_eq_of_mem_set hb with z | z
        · exact nD5 z
        · exact naj z.symm
      have nR2 : R2 ≠ D := Ne.symm (ne_of_none T6.1 hR2)
      have e9 : upd (upd H7 Pt (.tup [.ref aj, .ref R2])) D (.lst ((bS.map V.ref).set i (.ref aj))) R2 = some (.lst [.int (0 - ent M i 0), .int (0 - ent M i 1), .int (0 - ent M i 2)]) := by rw [upd_ne nR2]; exact u8 _ _ e7
      have Ta := tab_set (g := fun s => 0 - ent M i s) T9 (is33_mk3 _) hj e9 nR2 nD9
      have ix : ∀ (r : Nat) (l : List V), r < 3 → l.length = 3 → ixN l.length (r : Int) = some r := fun r l hr hl => by rw [hl]; rcases cases3 hr with rfl | rfl | rfl <;> rfl
      refine ⟨Pt, _, rfl, SqT.of upd_same, rfl, _, _, rfl, _, rfl, _, rfl, D, _, _, i, rfl, rfl, T8.1, ix i _ hi (by rw [List.length_map, l5]), _, _, rfl, _, rfl, _, rfl, D, _, _, j, rfl, rfl, upd_same, ix j _ hj (by rw [List.length_set, List.length_map, l5]), rfl, ?_⟩
      have sa : SB B H _ := ((s16.trans (SB.of s16.2 s68)).updF (o := .lst ((bS.map V.ref).set i (.ref aj))) fD nDB).updF (o := .lst (((bS.map V.ref).set i (.ref aj)).set j (.ref R2))) fD nDB
      have ea : ((bS.set i aj).map V.ref).set j (.ref R2) = ((bS.map V.ref).set i (.ref aj)).set j (.ref R2) := by rw [List.map_set]
      refine ⟨_, _, _, _, (bS.set i aj).set j R2, setT (setT M i fun s => ent M j s) j fun s => 0 - ent M i s, rfl, sa, (by rw [← ea]; exact Ta), is33_mk3 _, fun r s hr hs => ?_, (det_turn M hi hj hij).trans det5, fun b hb => ?_, fun hb => ?_⟩
      · rw [ent_setT _ _ hr hs]
        split
        · have := dm5 i s hi hs
          show (0 - ent M i s).natAbs < _
          rw [Int.zero_sub, Int.natAbs_neg]
          exact this
        · rw [ent_setT M _ hr hs]
          split
          · exact dm5 j s hj hs
          · exact dm5 r s hr hs
      · rcases List.mem_or_eq_of_mem_set hb with z | z
        · rcases List.mem_or_eq_of_mem_set z with y | y
          · exact fb5 b y
          · rw [y]; exact fb5 aj r3
        · rw [z]; exact s16.gone hR2
      · rcases List.mem_or_eq_of_mem_set hb with z | z
        · exact nD9 z
        · exact nR2 z.symm
    · exact ⟨_, _, _, _, _, M, rfl, s15.trans s6, T5.sb s6 nDB (nB _ fb5), c5, dm5, det5, fb5, nD5⟩
  · obtain ⟨o3, o4, o5, o6, bs, m, rfl, s1, T1, c33, dm, det1, fb, nD⟩ := h
    exact ⟨_, rfl, K0 m D bs H1 c33 (dm.mono (by omega)) det1 s1 fD fb nD T1⟩
def spCopy : Sp := fun vs H Q _ => ∃ (t : Addr) (bs : List Addr) (m : List (List Int)), vs = [.ref t] ∧ Tab H t bs m ∧ is33 m ∧ ∀ r rs H', Same H H' → H r = none → (∀ b ∈ rs, H b = none) → r ∉ rs → rs.Nodup → Tab H' r rs m → Q (.ref r) H'
theorem ok__law_copy {f : Addr} {fd : FuncData} (F : Fun K "_law_copy" "_law_copy" s__law_copy f fd) (z_list : mg "list" = none) : FnOk P w K mg base CX0 1 f fd ["_law_table"] spCopy := by
  refine F.ok sc__law_copy (fun vs H Q E h => ?_) (fun cdv A outer s H vs Q E hr h => ?_)
  · obtain ⟨t, bs, m, rfl, hT, h33, q⟩ := h
    rfl
  obtain ⟨t, bs, m, rfl, hT, h33, q⟩ := h
  have hu := hr.units
  refine ⟨_, (pss_one (ps_ret (pe_lc1 (N2 := ["_law_table"]) (te := (tCB (rListOf K) (tCons (tVar 0) tNil))) rfl (pi_list (pv 0)) (by kernel_rfl) rfl (fun _ _ _ => by exact asPE (pe_callTy call_list_of rfl z_list PyProof.Rows.boot_list (pa_cons (pv 0) pa_nil)))))), ?_⟩
  exact ⟨_, rfl, t, rfl, ⟨_, SqL.of hT.1⟩, fun D hD => copy_rdN hT (by rw [h33.1]; decide) hD fun bs' H' s fr nD nn T => q D bs' H' s hD fr nD nn T⟩
def spKind (c0 c1 c2 c3 c4 c5 : Addr) (cls : Value) (a : Addr) : Sp := fun vs H Q _ => vs = [.ref a] ∧ ((cls = .ref c0 ∧ ∀ H', Same H H' → Q (.str "form") H') ∨ (cls = .ref c1 ∧ ∀ H', Same H H' → Q (.str "great") H') ∨ (cls = .ref c2 ∧ ∀ H', Same H H' → Q (.str "prime") H') ∨ (cls = .ref c3 ∧ ∀ H', Same H H' → Q (.str "line") H') ∨ (cls = .ref c4 ∧ ∀ H', Same H H' → Q (.str "step") H') ∨ (cls = .ref c5 ∧ ∀ H', Same H H' → Q (.str "worth") H'))
theorem ok__law_kind {f : Addr} {fd : FuncData} {c_NoForm c_TooGreat c_NoPrime c_NoLine c_NoStep c_NoWorth c_KinError c_NoBasis c_NoText c_NoRow c_NoName : Addr} (F : Fun K "_law_kind" "_law_kind" s__law_kind f fd) (z_isinstance : mg "isinstance" = none) (z_ValueError : mg "ValueError" = none) (XC : Excs K c_KinError [c_NoBasis, c_NoForm, c_TooGreat, c_NoWorth, c_NoPrime, c_NoLine, c_NoStep, c_NoText, c_NoRow, c_NoName]) (m_NoBasis : mg "NoBasis" = some (.ref c_NoBasis)) (m_NoForm : mg "NoForm" = some (.ref c_NoForm)) (m_TooGreat : mg "TooGreat" = some (.ref c_TooGreat)) (m_NoWorth : mg "NoWorth" = some (.ref c_NoWorth)) (m_NoPrime : mg "NoPrime" = some (.ref c_NoPrime)) (m_NoLine : mg "NoLine" = some (.ref c_NoLine)) (m_NoStep : mg "NoStep" = some (.ref c_NoStep)) (m_NoText : mg "NoText" = some (.ref c_NoText)) (m_NoRow : mg "NoRow" = some (.ref c_NoRow)) (m_NoName : mg "NoName" = some (.ref c_NoName)) : FnOkH P w K mg base 1 f fd ["_law_e"] (fun a oe => spKind c_NoForm c_TooGreat c_NoPrime c_NoLine c_NoStep c_NoWorth oe.cls a) := by
  refine F.okH sc__law_kind (fun a oe vs H Q E h => ?_) (fun a oe cdv A outer s H vs Q hr h => ?_)
  · obtain ⟨rfl, h⟩ := h
    rfl
  obtain ⟨rfl, h⟩ := h
  refine ⟨_, (fss (@fs_cons _ _ _ _ _ (ps_set (i := 1) sc__law_kind.nd rfl (Or.inl rfl) pe_str)
    (@fs_cons _ _ _ _ _ (ps_ifF (pt_val (pe_callB call_isE rfl z_isinstance PyProof.Rows.boot_isinstance (pa_cons (pv 0) (pa_cons (pe_glob (v := .ref c_NoForm) rfl m_NoForm rfl) pa_nil)))) (@fs_one _ _ _ (ps_set (i := 1) sc__law_kind.nd rfl (Or.inl rfl) (pe_op op_add_str (pv 1) pe_str))) fs_nil)
    (@fs_cons _ _ _ _ _ (ps_ifF (pt_val (pe_callB call_isE rfl z_isinstance PyProof.Rows.boot_isinstance (pa_cons (pv 0) (pa_cons (pe_glob (v := .ref c_TooGreat) rfl m_TooGreat rfl) pa_nil)))) (@fs_one _ _ _ (ps_set (i := 1) sc__law_kind.nd rfl (Or.inl rfl) (pe_op op_add_str (pv 1) pe_str))) fs_nil)
    (@fs_cons _ _ _ _ _ (ps_ifF (pt_val (pe_callB call_isE rfl z_isinstance PyProof.Rows.boot_isinstance (pa_cons (pv 0) (pa_cons (pe_glob (v := .ref c_NoPrime) rfl m_NoPrime rfl) pa_nil)))) (@fs_one _ _ _ (ps_set (i := 1) sc__law_kind.nd rfl (Or.inl rfl) (pe_op op_add_str (pv 1) pe_str))) fs_nil)
    (@fs_cons _ _ _ _ _ (ps_ifF (pt_val (pe_callB call_isE rfl z_isinstance PyProof.Rows.boot_isinstance (pa_cons (pv 0) (pa_cons (pe_glob (v := .ref c_NoLine) rfl m_NoLine rfl) pa_nil)))) (@fs_one _ _ _ (ps_set (i := 1) sc__law_kind.nd rfl (Or.inl rfl) (pe_op op_add_str (pv 1) pe_str))) fs_nil)
    (@fs_cons _ _ _ _ _ (ps_ifF (pt_val (pe_callB call_isE rfl z_isinstance PyProof.Rows.boot_isinstance (pa_cons (pv 0) (pa_cons (pe_glob (v := .ref c_NoStep) rfl m_NoStep rfl) pa_nil)))) (@fs_one _ _ _ (ps_set (i := 1) sc__law_kind.nd rfl (Or.inl rfl) (pe_op op_add_str (pv 1) pe_str))) fs_nil)
    (@fs_cons _ _ _ _ _ (ps_ifF (pt_val (pe_callB call_isE rfl z_isinstance PyProof.Rows.boot_isinstance (pa_cons (pv 0) (pa_cons (pe_glob (v := .ref c_NoWorth) rfl m_NoWorth rfl) pa_nil)))) (@fs_one _ _ _ (ps_set (i := 1) sc__law_kind.nd rfl (Or.inl rfl) (pe_op op_add_str (pv 1) pe_str))) fs_nil)
    (@fs_cons _ _ _ _ _ (ps_ifF (PW.pt (pw_or (pt_val (pe_callB call_isET rfl z_isinstance PyProof.Rows.boot_isinstance (pa_cons (pv 0) (pa_cons (pe_tup (pa_cons (pe_glob (v := .ref c_NoBasis) rfl m_NoBasis rfl) (pa_cons (pe_glob (v := .ref c_NoText) rfl m_NoText rfl) (pa_cons (pe_glob (v := .ref c_NoRow) rfl m_NoRow rfl) (pa_cons (pe_glob (v := .ref c_NoName) rfl m_NoName rfl) pa_nil))))) pa_nil)))) (pw_or1 (pt_not (pt_val (pe_callB call_isE rfl z_isinstance PyProof.Rows.boot_isinstance (pa_cons (pv 0) (pa_cons (pe_bltn (v := .ty "ValueError") rfl z_ValueError boot_ValueError rfl) pa_nil)))))))) (@fs_one _ _ _ (ps_set (i := 1) sc__law_kind.nd rfl (Or.inl rfl) (pe_op op_add_str (pv 1) pe_str))) fs_nil)
    (@fs_one _ _ _ (ps_ret (pv 1)))))))))))), ?_⟩
  rcases h with ⟨hc, q⟩ | ⟨hc, q⟩ | ⟨hc, q⟩ | ⟨hc, q⟩ | ⟨hc, q⟩ | ⟨hc, q⟩
  · refine ⟨_, rfl, a, c_NoForm, oe, .ref c_NoForm, _, rfl, List.mem_cons_self, hc, (XC.at 1 rfl).cls, XC.kit 1 1 rfl rfl, (fun z => nomatch z), _, rfl, iteC (by decide) ⟨_, rfl, _, _, rfl, rfl, (by decide +kernel), ⟨_, rfl, a, c_NoForm, oe, .ref c_TooGreat, _, rfl, List.mem_cons_self, hc, (XC.at 1 rfl).cls, XC.kit 1 2 rfl rfl, (fun z => nomatch z), _, rfl, iteX (by decide) ⟨_, rfl, a, c_NoForm, oe, .ref c_NoPrime, _, rfl, List.mem_cons_self, hc, (XC.at 1 rfl).cls, XC.kit 1 4 rfl rfl, (fun z => nomatch z), _, rfl, iteX (by decide) ⟨_, rfl, a, c_NoForm, oe, .ref c_NoLine, _, rfl, List.mem_cons_self, hc, (XC.at 1 rfl).cls, XC.kit 1 5 rfl rfl, (fun z => nomatch z), _, rfl, iteX (by decide) ⟨_, rfl, a, c_NoForm, oe, .ref c_NoStep, _, rfl, List.mem_cons_self, hc, (XC.at 1 rfl).cls, XC.kit 1 6 rfl rfl, (fun z => nomatch z), _, rfl, iteX (by decide) ⟨_, rfl, a, c_NoForm, oe, .ref c_NoWorth, _, rfl, List.mem_cons_self, hc, (XC.at 1 rfl).cls, XC.kit 1 3 rfl rfl, (fun z => nomatch z), _, rfl, iteX (by decide) ?_⟩⟩⟩⟩⟩⟩⟩
    refine ⟨_, rfl, (by show 4 ≤ sizeLine; decide), fun tp htp => ⟨a, c_NoForm, tp, oe, [c_NoBasis, c_NoText, c_NoRow, c_NoName], false, rfl, List.mem_cons_self, hc, (XC.at 1 rfl).cls, upd_same, kitAny_none (fun C hC => ?_), _, rfl, iteF ⟨_, rfl, a, c_NoForm, oe, .ty "ValueError", _, rfl, List.mem_cons_self, hc, (XC.at 1 rfl).cls, (XC.at 1 rfl).val, (fun z => nomatch z), _, rfl, iteF ⟨_, rfl, ?_⟩⟩⟩⟩
    · simp only [List.mem_cons, List.not_mem_nil, or_false] at hC
      rcases hC with rfl | rfl | rfl | rfl
      · exact XC.kit 1 0 rfl rfl
      · exact XC.kit 1 7 rfl rfl
      · exact XC.kit 1 8 rfl rfl
      · exact XC.kit 1 9 rfl rfl
    · have e : (Str.ofString "" ++ Str.ofString "form") = Str.ofString "form" := by decide +kernel
      have q := q _ (Same.up (o := .tup [V.ref c_NoBasis, .ref c_NoText, .ref c_NoRow, .ref c_NoName]) htp)
      rw [← e] at q
      exact q
  · refine ⟨_, rfl, a, c_TooGreat, oe, .ref c_NoForm, _, rfl, List.mem_cons_self, hc, (XC.at 2 rfl).cls, XC.kit 2 1 rfl rfl, (fun z => nomatch z), _, rfl, iteX (by decide) ⟨_, rfl, a, c_TooGreat, oe, .ref c_TooGreat, _, rfl, List.mem_cons_self, hc, (XC.at 2 rfl).cls, XC.kit 2 2 rfl rfl, (fun z => nomatch z), _, rfl, iteC (by decide) ⟨_, rfl, _, _, rfl, rfl, (by decide +kernel), ⟨_, rfl, a, c_TooGreat, oe, .ref c_NoPrime, _, rfl, List.mem_cons_self, hc, (XC.at 2 rfl).cls, XC.kit 2 4 rfl rfl, (fun z => nomatch z), _, rfl, iteX (by decide) ⟨_, rfl, a, c_TooGreat, oe, .ref c_NoLine, _, rfl, List.mem_cons_self, hc, (XC.at 2 rfl).cls, XC.kit 2 5 rfl rfl, (fun z => nomatch z), _, rfl, iteX (by decide) ⟨_, rfl, a, c_TooGreat, oe, .ref c_NoStep, _, rfl, List.mem_cons_self, hc, (XC.at 2 rfl).cls, XC.kit 2 6 rfl rfl, (fun z => nomatch z), _, rfl, iteX (by decide) ⟨_, rfl, a, c_TooGreat, oe, .ref c_NoWorth, _, rfl, List.mem_cons_self, hc, (XC.at 2 rfl).cls, XC.kit 2 3 rfl rfl, (fun z => nomatch z), _, rfl, iteX (by decide) ?_⟩⟩⟩⟩⟩⟩⟩
    refine ⟨_, rfl, (by show 4 ≤ sizeLine; decide), fun tp htp => ⟨a, c_TooGreat, tp, oe, [c_NoBasis, c_NoText, c_NoRow, c_NoName], false, rfl, List.mem_cons_self, hc, (XC.at 2 rfl).cls, upd_same, kitAny_none (fun C hC => ?_), _, rfl, iteF ⟨_, rfl, a, c_TooGreat, oe, .ty "ValueError", _, rfl, List.mem_cons_self, hc, (XC.at 2 rfl).cls, (XC.at 2 rfl).val, (fun z => nomatch z), _, rfl, iteF ⟨_, rfl, ?_⟩⟩⟩⟩
    · simp only [List.mem_cons, List.not_mem_nil, or_false] at hC
      rcases hC with rfl | rfl | rfl | rfl
      · exact XC.kit 2 0 rfl rfl
      · exact XC.kit 2 7 rfl rfl
      · exact XC.kit 2 8 rfl rfl
      · exact XC.kit 2 9 rfl rfl
    · have e : (Str.ofString "" ++ Str.ofString "great") = Str.ofString "great" := by decide +kernel
      have q := q _ (Same.up (o := .tup [V.ref c_NoBasis, .ref c_NoText, .ref c_NoRow, .ref c_NoName]) htp)
      rw [← e] at q
      exact q
  · refine ⟨_, rfl, a, c_NoPrime, oe, .ref c_NoForm, _, rfl, List.mem_cons_self, hc, (XC.at 4 rfl).cls, XC.kit 4 1 rfl rfl, (fun z => nomatch z), _, rfl, iteX (by decide) ⟨_, rfl, a, c_NoPrime, oe, .ref c_TooGreat, _, rfl, List.mem_cons_self, hc, (XC.at 4 rfl).cls, XC.kit 4 2 rfl rfl, (fun z => nomatch z), _, rfl, iteX (by decide) ⟨_, rfl, a, c_NoPrime, oe, .ref c_NoPrime, _, rfl, List.mem_cons_self, hc, (XC.at 4 rfl).cls, XC.kit 4 4 rfl rfl, (fun z => nomatch z), _, rfl, iteC (by decide) ⟨_, rfl, _, _, rfl, rfl, (by decide +kernel), ⟨_, rfl, a, c_NoPrime, oe, .ref c_NoLine, _, rfl, List.mem_cons_self, hc, (XC.at 4 rfl).cls, XC.kit 4 5 rfl rfl, (fun z => nomatch z), _, rfl, iteX (by decide) ⟨_, rfl, a, c_NoPrime, oe, .ref c_NoStep, _, rfl, List.mem_cons_self, hc, (XC.at 4 rfl).cls, XC.kit 4 6 rfl rfl, (fun z => nomatch z), _, rfl, iteX (by decide) ⟨_, rfl, a, c_NoPrime, oe, .ref c_NoWorth, _, rfl, List.mem_cons_self, hc, (XC.at 4 rfl).cls, XC.kit 4 3 rfl rfl, (fun z => nomatch z), _, rfl, iteX (by decide) ?_⟩⟩⟩⟩⟩⟩⟩
    refine ⟨_, rfl, (by show 4 ≤ sizeLine; decide), fun tp htp => ⟨a, c_NoPrime, tp, oe, [c_NoBasis, c_NoText, c_NoRow, c_NoName], false, rfl, List.mem_cons_self, hc, (XC.at 4 rfl).cls, upd_same, kitAny_none (fun C hC => ?_), _, rfl, iteF ⟨_, rfl, a, c_NoPrime, oe, .ty "ValueError", _, rfl, List.mem_cons_self, hc, (XC.at 4 rfl).cls, (XC.at 4 rfl).val, (fun z => nomatch z), _, rfl, iteF ⟨_, rfl, ?_⟩⟩⟩⟩
    · simp only [List.mem_cons, List.not_mem_nil, or_false] at hC
      rcases hC with rfl | rfl | rfl | rfl
      · exact XC.kit 4 0 rfl rfl
      · exact XC.kit 4 7 rfl rfl
      · exact XC.kit 4 8 rfl rfl
      · exact XC.kit 4 9 rfl rfl
    · have e : (Str.ofString "" ++ Str.ofString "prime") = Str.ofString "prime" := by decide +kernel
      have q := q _ (Same.up (o := .tup [V.ref c_NoBasis, .ref c_NoText, .ref c_NoRow, .ref c_NoName]) htp)
      rw [← e] at q
      exact q
  · refine ⟨_, rfl, a, c_NoLine, oe, .ref c_NoForm, _, rfl, List.mem_cons_self, hc, (XC.at 5 rfl).cls, XC.kit 5 1 rfl rfl, (fun z => nomatch z), _, rfl, iteX (by decide) ⟨_, rfl, a, c_NoLine, oe, .ref c_TooGreat, _, rfl, List.mem_cons_self, hc, (XC.at 5 rfl).cls, XC.kit 5 2 rfl rfl, (fun z => nomatch z), _, rfl, iteX (by decide) ⟨_, rfl, a, c_NoLine, oe, .ref c_NoPrime, _, rfl, List.mem_cons_self, hc, (XC.at 5 rfl).cls, XC.kit 5 4 rfl rfl, (fun z => nomatch z), _, rfl, iteX (by decide) ⟨_, rfl, a, c_NoLine, oe, .ref c_NoLine, _, rfl, List.mem_cons_self, hc, (XC.at 5 rfl).cls, XC.kit 5 5 rfl rfl, (fun z => nomatch z), _, rfl, iteC (by decide) ⟨_, rfl, _, _, rfl, rfl, (by decide +kernel), ⟨_, rfl, a, c_NoLine, oe, .ref c_NoStep, _, rfl, List.mem_cons_self, hc, (XC.at 5 rfl).cls, XC.kit 5 6 rfl rfl, (fun z => nomatch z), _, rfl, iteX (by decide) ⟨_, rfl, a, c_NoLine, oe, .ref c_NoWorth, _, rfl, List.mem_cons_self, hc, (XC.at 5 rfl).cls, XC.kit 5 3 rfl rfl, (fun z => nomatch z), _, rfl, iteX (by decide) ?_⟩⟩⟩⟩⟩⟩⟩
    refine ⟨_, rfl, (by show 4 ≤ sizeLine; decide), fun tp htp => ⟨a, c_NoLine, tp, oe, [c_NoBasis, c_NoText, c_NoRow, c_NoName], false, rfl, List.mem_cons_self, hc, (XC.at 5 rfl).cls, upd_same, kitAny_none (fun C hC => ?_), _, rfl, iteF ⟨_, rfl, a, c_NoLine, oe, .ty "ValueError", _, rfl, List.mem_cons_self, hc, (XC.at 5 rfl).cls, (XC.at 5 rfl).val, (fun z => nomatch z), _, rfl, iteF ⟨_, rfl, ?_⟩⟩⟩⟩
    · simp only [List.mem_cons, List.not_mem_nil, or_false] at hC
      rcases hC with rfl | rfl | rfl | rfl
      · exact XC.kit 5 0 rfl rfl
      · exact XC.kit 5 7 rfl rfl
      · exact XC.kit 5 8 rfl rfl
      · exact XC.kit 5 9 rfl rfl
    · have e : (Str.ofString "" ++ Str.ofString "line") = Str.ofString "line" := by decide +kernel
      have q := q _ (Same.up (o := .tup [V.ref c_NoBasis, .ref c_NoText, .ref c_NoRow, .ref c_NoName]) htp)
      rw [← e] at q
      exact q
  · refine ⟨_, rfl, a, c_NoStep, oe, .ref c_NoForm, _, rfl, List.mem_cons_self, hc, (XC.at 6 rfl).cls, XC.kit 6 1 rfl rfl, (fun z => nomatch z), _, rfl, iteX (by decide) ⟨_, rfl, a, c_NoStep, oe, .ref c_TooGreat, _, rfl, List.mem_cons_self, hc, (XC.at 6 rfl).cls, XC.kit 6 2 rfl rfl, (fun z => nomatch z), _, rfl, iteX (by decide) ⟨_, rfl, a, c_NoStep, oe, .ref c_NoPrime, _, rfl, List.mem_cons_self, hc, (XC.at 6 rfl).cls, XC.kit 6 4 rfl rfl, (fun z => nomatch z), _, rfl, iteX (by decide) ⟨_, rfl, a, c_NoStep, oe, .ref c_NoLine, _, rfl, List.mem_cons_self, hc, (XC.at 6 rfl).cls, XC.kit 6 5 rfl rfl, (fun z => nomatch z), _, rfl, iteX (by decide) ⟨_, rfl, a, c_NoStep, oe, .ref c_NoStep, _, rfl, List.mem_cons_self, hc, (XC.at 6 rfl).cls, XC.kit 6 6 rfl rfl, (fun z => nomatch z), _, rfl, iteC (by decide) ⟨_, rfl, _, _, rfl, rfl, (by decide +kernel), ⟨_, rfl, a, c_NoStep, oe, .ref c_NoWorth, _, rfl, List.mem_cons_self, hc, (XC.at 6 rfl).cls, XC.kit 6 3 rfl rfl, (fun z => nomatch z), _, rfl, iteX (by decide) ?_⟩⟩⟩⟩⟩⟩⟩
    refine ⟨_, rfl, (by show 4 ≤ sizeLine; decide), fun tp htp => ⟨a, c_NoStep, tp, oe, [c_NoBasis, c_NoText, c_NoRow, c_NoName], false, rfl, List.mem_cons_self, hc, (XC.at 6 rfl).cls, upd_same, kitAny_none (fun C hC => ?_), _, rfl, iteF ⟨_, rfl, a, c_NoStep, oe, .ty "ValueError", _, rfl, List.mem_cons_self, hc, (XC.at 6 rfl).cls, (XC.at 6 rfl).val, (fun z => nomatch z), _, rfl, iteF ⟨_, rfl, ?_⟩⟩⟩⟩
    · simp only [List.mem_cons, List.not_mem_nil, or_false] at hC
      rcases hC with rfl | rfl | rfl | rfl
      · exact XC.kit 6 0 rfl rfl
      · exact XC.kit 6 7 rfl rfl
      · exact XC.kit 6 8 rfl rfl
      · exact XC.kit 6 9 rfl rfl
    · have e : (Str.ofString "" ++ Str.ofString "step") = Str.ofString "step" := by decide +kernel
      have q := q _ (Same.up (o := .tup [V.ref c_NoBasis, .ref c_NoText, .ref c_NoRow, .ref c_NoName]) htp)
      rw [← e] at q
      exact q
  · refine ⟨_, rfl, a, c_NoWorth, oe, .ref c_NoForm, _, rfl, List.mem_cons_self, hc, (XC.at 3 rfl).cls, XC.kit 3 1 rfl rfl, (fun z => nomatch z), _, rfl, iteX (by decide) ⟨_, rfl, a, c_NoWorth, oe, .ref c_TooGreat, _, rfl, List.mem_cons_self, hc, (XC.at 3 rfl).cls, XC.kit 3 2 rfl rfl, (fun z => nomatch z), _, rfl, iteX (by decide) ⟨_, rfl, a, c_NoWorth, oe, .ref c_NoPrime, _, rfl, List.mem_cons_self, hc, (XC.at 3 rfl).cls, XC.kit 3 4 rfl rfl, (fun z => nomatch z), _, rfl, iteX (by decide) ⟨_, rfl, a, c_NoWorth, oe, .ref c_NoLine, _, rfl, List.mem_cons_self, hc, (XC.at 3 rfl).cls, XC.kit 3 5 rfl rfl, (fun z => nomatch z), _, rfl, iteX (by decide) ⟨_, rfl, a, c_NoWorth, oe, .ref c_NoStep, _, rfl, List.mem_cons_self, hc, (XC.at 3 rfl).cls, XC.kit 3 6 rfl rfl, (fun z => nomatch z), _, rfl, iteX (by decide) ⟨_, rfl, a, c_NoWorth, oe, .ref c_NoWorth, _, rfl, List.mem_cons_self, hc, (XC.at 3 rfl).cls, XC.kit 3 3 rfl rfl, (fun z => nomatch z), _, rfl, iteC (by decide) ⟨_, rfl, _, _, rfl, rfl, (by decide +kernel), ?_⟩⟩⟩⟩⟩⟩⟩
    refine ⟨_, rfl, (by show 4 ≤ sizeLine; decide), fun tp htp => ⟨a, c_NoWorth, tp, oe, [c_NoBasis, c_NoText, c_NoRow, c_NoName], false, rfl, List.mem_cons_self, hc, (XC.at 3 rfl).cls, upd_same, kitAny_none (fun C hC => ?_), _, rfl, iteF ⟨_, rfl, a, c_NoWorth, oe, .ty "ValueError", _, rfl, List.mem_cons_self, hc, (XC.at 3 rfl).cls, (XC.at 3 rfl).val, (fun z => nomatch z), _, rfl, iteF ⟨_, rfl, ?_⟩⟩⟩⟩
    · simp only [List.mem_cons, List.not_mem_nil, or_false] at hC
      rcases hC with rfl | rfl | rfl | rfl
      · exact XC.kit 3 0 rfl rfl
      · exact XC.kit 3 7 rfl rfl
      · exact XC.kit 3 8 rfl rfl
      · exact XC.kit 3 9 rfl rfl
    · have e : (Str.ofString "" ++ Str.ofString "worth") = Str.ofString "worth" := by decide +kernel
      have q := q _ (Same.up (o := .tup [V.ref c_NoBasis, .ref c_NoText, .ref c_NoRow, .ref c_NoName]) htp)
      rw [← e] at q
      exact q
end
end CL

set_option maxHeartbeats 1000000
namespace CL
open PySem L2
section
variable {P : Program} {w : World} {K : PySem.W.Frag} {mg : Str → Option Value} {base : Heap}
def spOddForm : Sp := fun vs H Q _ => ∃ (B t : Addr) (bs : List Addr) (m : List (List Int)), vs = [.ref B, .ref t] ∧ BagAt H B ∧ Tab H t bs m ∧ is33 m ∧ Bd 400 m ∧ EvenT m ∧ aboveT m = true ∧ t ≠ B ∧ B ∉ bs ∧ ∀ v H', SB B H H' → Bad (hide B H') v → Q v H'
theorem ok__law_odd_form {f : Addr} {fd : FuncData} (F : Fun K "_law_odd_form" "_law_odd_form" s__law_odd_form f fd) (z_tuple : mg "tuple" = none) {f__law_take : Addr} {fd__law_take : FuncData} (G__law_take : FnOk P w K mg base CX0 1 f__law_take fd__law_take ["_law_bag_here", "_law_many"] spTake) (b__law_take : Binds K fd__law_take ["_law_bag_here", "_law_many"] []) (k__law_take : PySem.W.keepIn K (.ref f__law_take) = true) (m__law_take : mg "_law_take" = some (.ref f__law_take)) {f__law_copy : Addr} {fd__law_copy : FuncData} (G__law_copy : FnOk P w K mg base CX0 1 f__law_copy fd__law_copy ["_law_table"] spCopy) (b__law_copy : Binds K fd__law_copy ["_law_table"] []) (k__law_copy : PySem.W.keepIn K (.ref f__law_copy) = true) (m__law_copy : mg "_law_copy" = some (.ref f__law_copy)) : FnOk P w K mg base CX0 2 f fd ["_law_bag_here", "_law_form"] spOddForm := by
  refine F.ok sc__law_odd_form (fun vs H Q E h => ?_) (fun cdv A outer s H vs Q E hr h => ?_)
  · obtain ⟨B, t, bs, m, rfl, hb, T, c33, hB, ev, ab, nt, nb, q⟩ := h
    rfl
  obtain ⟨B, t, bs, m, rfl, hb, T, c33, hB, ev, ab, nt, nb, q⟩ := h
  have hu := hr.units
  refine ⟨_, (fss (@fs_cons _ _ _ _ _ (ps_set (i := 2) sc__law_odd_form.nd rfl (Or.inl rfl) (pe_call G__law_take hr rfl m__law_take k__law_take b__law_take .nil pass0 (pa_cons (pv 0) (pa_cons pe_int pa_nil))))
    (@fs_cons _ _ _ _ _ (ps_set (i := 3) sc__law_odd_form.nd rfl (Or.inl rfl) (pe_call G__law_copy hr rfl m__law_copy k__law_copy b__law_copy .nil pass0 (pa_cons (pv 1) pa_nil)))
    (@fs_cons _ _ _ _ _ (ps_ifF (pt_cmpR op_eq (pv 2) pe_int (nomark _)) (@fs_one _ _ _ (ps_asg (pe_op op_add (pe_ix ix_list (pe_ix ix_list (pv 3) pe_int (fun _ _ => rfl)) pe_int (fun _ _ => rfl)) pe_int) (pg_sub (pe_ix ix_list (pv 3) pe_int (fun _ _ => rfl)) pe_int set_list))) (@fs_one _ _ _ (ps_ifF (pt_cmpR op_eq (pv 2) pe_int (nomark _)) (@fs_one _ _ _ (ps_asg (pe_op op_add (pe_ix ix_list (pe_ix ix_list (pv 3) pe_int (fun _ _ => rfl)) pe_int (fun _ _ => rfl)) pe_int) (pg_sub (pe_ix ix_list (pv 3) pe_int (fun _ _ => rfl)) pe_int set_list))) (@fs_one _ _ _ (ps_ifF (pt_cmpR op_eq (pv 2) pe_int (nomark _)) (@fs_one _ _ _ (ps_lc1 (i := 3) sc__law_odd_form.nd rfl rfl (N2 := ["_law_bag_here", "_law_form", "_law_way", "_law_odd"]) (te := (tComp 1 (iList K (tVar 0)) (gName 0) (tOp (rI0 fun i j => .int (i - j)) (tC (.int 0)) (tVar 0)))) rfl (pi_list (pv 3)) (by kernel_rfl) rfl (fun _ _ _ => by exact asPE (pe_lc1 (N2 := ["_law_row", "_law_bag_here", "_law_form", "_law_way", "_law_odd"]) (te := (tOp (rI0 fun i j => .int (i - j)) (tC (.int 0)) (tVar 0))) rfl (pi_list (pv 0)) (by kernel_rfl) rfl (fun _ _ _ => by exact asPE (pe_op op_sub pe_int (pv 0))))))) (@fs_one _ _ _ (ps_ifF (pt_cmpR op_eq (pv 2) pe_int (nomark _)) (@fs_one _ _ _ (ps_expr (pe_bm PySem.F.plainAttrs_list PySem.F.slot_list_append PySem.F.type_list_append mt_append (pv 3) (pa_cons (pe_lst (pa_cons pe_int (pa_cons pe_int (pa_cons pe_int pa_nil)))) pa_nil)))) (@fs_one _ _ _ (ps_ifF (pt_cmpR op_eq (pv 2) pe_int (nomark _)) (@fs_one _ _ _ (ps_asg (pe_op op_cat (pe_ix ix_list (pv 3) pe_int (fun _ _ => rfl)) (pe_lst (pa_cons pe_int pa_nil))) (pg_sub (pv 3) pe_int set_list))) (@fs_one _ _ _ (ps_ifF (pt_cmpR op_eq (pv 2) pe_int (nomark _)) (@fs_one _ _ _ (ps_asg (pe_callTy call_tuple_of rfl z_tuple PyProof.Rows.boot_tuple (pa_cons (pe_ix ix_list (pv 3) pe_int (fun _ _ => rfl)) pa_nil)) (pg_sub (pv 3) pe_int set_list))) (@fs_one _ _ _ (ps_ifF (pt_cmpR op_eq (pv 2) pe_int (nomark _)) (@fs_one _ _ _ (ps_set (i := 3) sc__law_odd_form.nd rfl (Or.inl rfl) (pe_callTy call_tuple_of rfl z_tuple PyProof.Rows.boot_tuple (pa_cons (pv 3) pa_nil)))) (@fs_one _ _ _ (ps_ifF (pt_cmpR op_eq (pv 2) pe_int (nomark _)) (@fs_one _ _ _ (ps_asg (pe_cmpR op_gt (pe_ix ix_list (pe_ix ix_list (pv 3) pe_int (fun _ _ => rfl)) pe_int (fun _ _ => rfl)) pe_int (nomark _)) (pg_sub (pe_ix ix_list (pv 3) pe_int (fun _ _ => rfl)) pe_int set_list))) (@fs_one _ _ _ (ps_ifF (pt_cmpR op_eq (pv 2) pe_int (nomark _)) (fs_set1 (i := 3) sc__law_odd_form.nd rfl (Or.inl rfl) (fe_lst (fa_cons (fe_lst (fa_cons fe_int (fa_cons fe_int (fa_cons fe_int fa_nil (by kernel_rfl)) (by kernel_rfl)) (by kernel_rfl))) (fa_cons (fe_lst (fa_cons fe_int (fa_cons fe_int (fa_cons fe_int fa_nil (by kernel_rfl)) (by kernel_rfl)) (by kernel_rfl))) (fa_cons (fe_lst (fa_cons fe_int (fa_cons fe_int (fa_cons fe_int fa_nil (by kernel_rfl)) (by kernel_rfl)) (by kernel_rfl))) fa_nil (by kernel_rfl)) (by kernel_rfl)) (by kernel_rfl))) (by kernel_rfl) (by first | exact .inl rfl | exact .inr rfl)) (fs_set1 (i := 3) sc__law_odd_form.nd rfl (Or.inl rfl) (fe_ix ix_list (fe_lst (fa_cons fe_non (fa_cons fe_str (fa_cons (fe_lst fa_nil) fa_nil (by kernel_rfl)) (by kernel_rfl)) (by kernel_rfl))) (pe_op op_sub (pv 2) pe_int) (fun _ _ => rfl)) (by kernel_rfl) (by first | exact .inl rfl | exact .inr rfl)))))))))))))))))))
    (@fs_one _ _ _ (ps_ret (pv 3))))))), ?_⟩
  refine ⟨_, rfl, B, _, rfl, hb, by decide, by decide, fun d H1 l0 u0 s1 => ?_⟩
  have T1 := T.sb s1 nt nb
  refine ⟨_, rfl, t, bs, m, rfl, T1, c33, fun D bs' H2 s2 fD fb nD nn hC => ?_⟩
  have s12 := s1.trans (SB.of s1.2 s2)
  have nDB : D ≠ B := s1.2.ne fD
  have nbB : B ∉ bs' := fun z => s1.2.ne (fb B z) rfl
  have fDH : H D = none := s1.gone fD
  have fbH : ∀ b ∈ bs', H b = none := fun b z => s1.gone (fb b z)
  obtain ⟨sy, dg⟩ := (even_iff c33).mp ev
  have sy := sy.symm
  have ab0 := (above_dec ab).1
  have b1 : (1 : Int).natAbs < 2 ^ 400 := bd_up (a := 1) (by decide) (by decide)
  obtain ⟨a0, a1, a2, rfl, eD, rows⟩ := tab_three hC c33
  obtain ⟨_, q0, r0⟩ := rows 0 (by decide)
  obtain ⟨_, q1, r1⟩ := rows 1 (by decide)
  obtain ⟨_, q2, r2⟩ := rows 2 (by decide)
  cases q0
  cases q1
  cases q2
  have m0 : a0 ∈ [a0, a1, a2] := List.mem_cons_self
  have m1 : a1 ∈ [a0, a1, a2] := List.mem_cons_of_mem _ List.mem_cons_self
  have m2 : a2 ∈ [a0, a1, a2] := List.mem_cons_of_mem _ (List.mem_cons_of_mem _ List.mem_cons_self)
  have nB : ∀ b ∈ [a0, a1, a2], b ≠ B := fun b hb' z => nbB (by rw [← z]; exact hb')
  have nbD : ∀ b ∈ [a0, a1, a2], b ≠ D := fun b hb' z => nD (by rw [← z]; exact hb')
  refine ⟨_, rfl, rfl, _, rfl, ite2 (fun _ => ?_) (fun n0 => ?_)⟩
  · refine ⟨_, rfl, D, _, _, _, rfl, rfl, SqL.of eD, rfl, a0, _, _, _, rfl, rfl, SqL.of r0, rfl, _, _, rfl, rfl, _, rfl, D, _, _, _, rfl, rfl, SqL.of eD, rfl, a0, _, _, 1, rfl, rfl, r0, rfl, _, rfl, q _ _ (s12.updF (fbH a0 m0) (nB a0 m0)) (.inr ⟨D, _, setIJ m 0 1 (ent m 0 1 + 1), rfl, tab_hide (tab_setIJ hC c33 (by decide) (by decide) nn nD rfl) nDB nbB, is33_mk3 _, (bd_setIJ (hB.mono (show 400 ≤ 401 by decide)) 0 1 (bd_up (bd_add (hB 0 1 (by decide) (by decide)) b1) (by decide))).mono (by decide), fun e => ?_⟩)⟩
    have z := sym_ent ((even_iff (is33_mk3 _)).mp e.1).1.symm (i := 0) (j := 1) (by decide) (by decide)
    rw [ent_mk3 _ (by decide) (by decide), ent_mk3 _ (by decide) (by decide), if_neg (by decide), if_pos ⟨rfl, rfl⟩, sym_ent sy (i := 0) (j := 1) (by decide) (by decide)] at z
    omega
  refine ⟨_, rfl, rfl, _, rfl, ite2 (fun _ => ?_) (fun n1 => ?_)⟩
  · refine ⟨_, rfl, D, _, _, _, rfl, rfl, SqL.of eD, rfl, a1, _, _, _, rfl, rfl, SqL.of r1, rfl, _, _, rfl, rfl, _, rfl, D, _, _, _, rfl, rfl, SqL.of eD, rfl, a1, _, _, 1, rfl, rfl, r1, rfl, _, rfl, q _ _ (s12.updF (fbH a1 m1) (nB a1 m1)) (.inr ⟨D, _, setIJ m 1 1 (ent m 1 1 + 1), rfl, tab_hide (tab_setIJ hC c33 (by decide) (by decide) nn nD rfl) nDB nbB, is33_mk3 _, (bd_setIJ (hB.mono (show 400 ≤ 401 by decide)) 1 1 (bd_up (bd_add (hB 1 1 (by decide) (by decide)) b1) (by decide))).mono (by decide), fun e => ?_⟩)⟩
    have z := ((even_iff (is33_mk3 _)).mp e.1).2 1 (by decide)
    rw [ent_mk3 _ (by decide) (by decide), if_pos ⟨rfl, rfl⟩] at z
    have := dg 1 (by decide)
    omega
  refine ⟨_, rfl, rfl, _, rfl, ite2 (fun _ => ?_) (fun n2 => ?_)⟩
  · refine ⟨_, rfl, D, rfl, ⟨_, SqL.of eD⟩, fun D2 hD2 => tabJ_rdN (jw_list (SqL.of eD)) rfl hD2 (fun i j => 0 - ent m i j) (fun i x hi ex H3 Q3 s3 k3 => ?_) (fun bs2 H3 s3 fr nD2 nn2 hT => ⟨_, rfl, q _ _ (s12.trans (SB.of s12.2 s3)) (.inr ⟨D2, bs2, mk3 (fun i j => 0 - ent m i j), rfl, tab_hide hT (s12.2.ne hD2) (fun z => s12.2.ne (fr B z) rfl), is33_mk3 _, (fun i j hi hj => ?_), fun e => ?_⟩)⟩)⟩
    · obtain ⟨b, e1, e2, _⟩ := tab_row3 (hC.same s3) c33 hi
      have ex' : x = .ref b := by
        have q1 := atI_ofNat ex
        exact Option.some.inj (q1.symm.trans e1)
      subst ex'
      refine ⟨_, rfl, b, rfl, ⟨_, SqL.of e2⟩, fun D3 hD3 => rowJ_rd (jw_list (SqL.of e2)) rfl hD3 (fun j => 0 - ent m i j) (fun j x hj ex2 H4 Q4 s4 k4 => ?_) (fun H4 s4 e4 => k3 D3 H4 hD3 s4 e4)⟩
      have ex' : x = .int (ent m i j) := by
        rcases cases3 hj with rfl | rfl | rfl <;> exact (Option.some.inj ex2).symm
      subst ex'
      exact ⟨_, rfl, _, _, rfl, rfl, k4 H4 (Same.refl _)⟩
    · rw [ent_mk3 _ hi hj]
      have := bd_up (hB i j hi hj) (show 400 ≤ 440 by decide)
      omega
    · have z := (above_dec e.2).1
      rw [ent_mk3 _ (by decide) (by decide)] at z
      omega
  refine ⟨_, rfl, rfl, _, rfl, ite2 (fun _ => ?_) (fun n3 => ?_)⟩
  · refine ⟨_, rfl, .inl ⟨rfl, _, SqL.of eD⟩, (by show 3 ≤ sizeLine; decide), fun r hr => ?_⟩
    have u := Same.up (o := .lst [V.int 0, .int 0, .int 0]) hr
    have nr : r ≠ D := Ne.symm (ne_of_none eD hr)
    have nrB : r ≠ B := s12.2.ne hr
    refine ⟨D, _, _, rfl, rfl, u _ _ eD, (by show 3 < sizeLine; decide), _, rfl, q _ _ ((s12.trans (SB.of s12.2 u)).updF fDH nDB) (.inl ⟨_, .lst (hide_of nDB upd_same) (DVs.append (dv_rows3 (x0 := ent m 0) (x1 := ent m 1) (x2 := ent m 2) (hide_of (nB a0 m0) (by rw [upd_ne (nbD a0 m0)]; exact u _ _ r0)) (hide_of (nB a1 m1) (by rw [upd_ne (nbD a1 m1)]; exact u _ _ r1)) (hide_of (nB a2 m2) (by rw [upd_ne (nbD a2 m2)]; exact u _ _ r2))) (.cons (.lst (hide_of nrB (by rw [upd_ne nr]; exact upd_same)) (.cons (.int 0) (.cons (.int 0) (.cons (.int 0) .nil)))) .nil)), tabD_len (by show 4 ≠ 3; decide)⟩)⟩
  refine ⟨_, rfl, rfl, _, rfl, ite2 (fun _ => ?_) (fun n4 => ?_)⟩
  · refine ⟨_, rfl, D, _, _, _, rfl, rfl, SqL.of eD, rfl, (by show 1 ≤ sizeLine; decide), fun p hp => ?_⟩
    have u := Same.up (o := .lst [V.int 0]) hp
    refine ⟨a2, p, _, _, rfl, rfl, u _ _ r2, upd_same, (by show 4 ≤ sizeLine; decide), fun r hr => ?_⟩
    have u2 := u.trans (Same.up (o := .lst ([V.int (ent m 2 0), .int (ent m 2 1), .int (ent m 2 2)] ++ [.int 0])) hr)
    have nr : r ≠ D := Ne.symm (ne_of_none (u _ _ eD) hr)
    have nrB : r ≠ B := (SB.of s12.2 u).ne hr
    refine ⟨_, rfl, D, _, _, 2, rfl, rfl, u2 _ _ eD, rfl, _, rfl, q _ _ ((s12.trans (SB.of s12.2 u2)).updF fDH nDB) (.inl ⟨_, .lst (hide_of nDB upd_same) (.cons (dv_at (x := ent m 0) (hide_of (nB a0 m0) (by rw [upd_ne (nbD a0 m0)]; exact u2 _ _ r0))) (.cons (dv_at (x := ent m 1) (hide_of (nB a1 m1) (by rw [upd_ne (nbD a1 m1)]; exact u2 _ _ r1))) (.cons (.lst (hide_of nrB (by rw [upd_ne nr]; exact upd_same)) (.cons (.int _) (.cons (.int _) (.cons (.int _) (.cons (.int _) .nil))))) .nil))), tabD_row (List.mem_cons_of_mem _ (List.mem_cons_of_mem _ List.mem_cons_self)) rfl⟩)⟩
  refine ⟨_, rfl, rfl, _, rfl, ite2 (fun _ => ?_) (fun n5 => ?_)⟩
  · refine ⟨_, rfl, D, _, _, _, rfl, rfl, SqL.of eD, rfl, a2, _, rfl, .inl ⟨SqL.of r2, fun r hr => ?_⟩⟩
    have u2 := Same.up (o := .tup [V.int (ent m 2 0), .int (ent m 2 1), .int (ent m 2 2)]) hr
    have nr : r ≠ D := Ne.symm (ne_of_none eD hr)
    have nrB : r ≠ B := s12.2.ne hr
    refine ⟨_, rfl, D, _, _, 2, rfl, rfl, u2 _ _ eD, rfl, _, rfl, q _ _ ((s12.trans (SB.of s12.2 u2)).updF fDH nDB) (.inl ⟨_, .lst (hide_of nDB upd_same) (.cons (dv_at (x := ent m 0) (hide_of (nB a0 m0) (by rw [upd_ne (nbD a0 m0)]; exact u2 _ _ r0))) (.cons (dv_at (x := ent m 1) (hide_of (nB a1 m1) (by rw [upd_ne (nbD a1 m1)]; exact u2 _ _ r1))) (.cons (.tup (hide_of nrB (by rw [upd_ne nr]; exact upd_same)) (.cons (.int _) (.cons (.int _) (.cons (.int _) .nil)))) .nil))), tabD_row (List.mem_cons_of_mem _ (List.mem_cons_of_mem _ List.mem_cons_self)) rfl⟩)⟩
  refine ⟨_, rfl, rfl, _, rfl, ite2 (fun _ => ?_) (fun n6 => ?_)⟩
  · refine ⟨_, rfl, D, _, rfl, .inl ⟨SqL.of eD, fun r hr => ?_⟩⟩
    have u2 := Same.up (o := .tup [V.ref a0, .ref a1, .ref a2]) hr
    have nrB : r ≠ B := s12.2.ne hr
    exact ⟨_, rfl, q _ _ (s12.trans (SB.of s12.2 u2)) (.inl ⟨_, .tup (hide_of nrB upd_same) (dv_rows3 (x0 := ent m 0) (x1 := ent m 1) (x2 := ent m 2) (hide_of (nB a0 m0) (u2 _ _ r0)) (hide_of (nB a1 m1) (u2 _ _ r1)) (hide_of (nB a2 m2) (u2 _ _ r2))), rfl⟩)⟩
  refine ⟨_, rfl, rfl, _, rfl, ite2 (fun _ => ?_) (fun n7 => ?_)⟩
  · have n1 : a1 ≠ a0 := fun z => by rw [z] at nn; exact (List.nodup_cons.mp nn).1 List.mem_cons_self
    have n2 : a2 ≠ a0 := fun z => by rw [z] at nn; exact (List.nodup_cons.mp nn).1 (List.mem_cons_of_mem _ List.mem_cons_self)
    refine ⟨_, rfl, D, _, _, _, rfl, rfl, SqL.of eD, rfl, a0, _, _, _, rfl, rfl, SqL.of r0, rfl, _, _, rfl, rfl, _, rfl, D, _, _, _, rfl, rfl, SqL.of eD, rfl, a0, _, _, 0, rfl, rfl, r0, rfl, _, rfl, q _ _ (s12.updF (fbH a0 m0) (nB a0 m0)) (.inl ⟨_, .lst (hide_of nDB (by rw [upd_ne (Ne.symm (nbD a0 m0))]; exact eD)) (.cons (.lst (hide_of (nB a0 m0) upd_same) (.cons (.bl _) (.cons (.int _) (.cons (.int _) .nil)))) (.cons (dv_at (x := ent m 1) (hide_of (nB a1 m1) (by rw [upd_ne n1]; exact r1))) (.cons (dv_at (x := ent m 2) (hide_of (nB a2 m2) (by rw [upd_ne n2]; exact r2))) .nil))), tabD_row List.mem_cons_self rfl⟩)⟩
  refine ⟨_, rfl, rfl, _, rfl, ite2 (fun _ => ?_) (fun n8 => ?_)⟩
  · refine ⟨(by show 3 ≤ sizeLine; decide), fun p0 h0 => ⟨(by show 3 ≤ sizeLine; decide), fun p1 h1 => ⟨(by show 3 ≤ sizeLine; decide), fun p2 h2 => ⟨(by show 3 ≤ sizeLine; decide), fun t' ht => ?_⟩⟩⟩⟩
    have v0 := Same.up (o := .lst [.int 0, .int 0, .int 0]) h0
    have v1 := Same.up (o := .lst [.int 0, .int 0, .int 0]) h1
    have v2 := Same.up (o := .lst [.int 0, .int 0, .int 0]) h2
    have v3 := Same.up (o := .lst [.ref p0, .ref p1, .ref p2]) ht
    have T0 : Tab _ t' [p0, p1, p2] (mk3 fun _ _ => 0) := tab_of3 _ upd_same (v3 _ _ (v2 _ _ (v1 _ _ upd_same))) (v3 _ _ (v2 _ _ upd_same)) (v3 _ _ upd_same)
    obtain ⟨f1, f2, f3⟩ := fresh3 h0 h1 h2 ht
    refine ⟨_, rfl, q _ _ (s12.trans (SB.of s12.2 (v0.trans (v1.trans (v2.trans v3))))) (.inr ⟨t', _, _, rfl, tab_hide T0 (s12.2.ne f1) (fun z => s12.2.ne (f2 B z) rfl), is33_mk3 _, (fun i j hi hj => ?_), fun e => ?_⟩)⟩
    · rw [ent_mk3 _ hi hj]
      exact bd_up (a := 1) (by decide) (by decide)
    · have z := (above_dec e.2).1
      rw [ent_mk3 _ (by decide) (by decide)] at z
      omega
  have k0 : d ≠ 0 := fun z => n0 (decide_eq_true (by rw [z]))
  have k1 : d ≠ 1 := fun z => n1 (decide_eq_true (by rw [z]))
  have k2 : d ≠ 2 := fun z => n2 (decide_eq_true (by rw [z]))
  have k3 : d ≠ 3 := fun z => n3 (decide_eq_true (by rw [z]))
  have k4 : d ≠ 4 := fun z => n4 (decide_eq_true (by rw [z]))
  have k5 : d ≠ 5 := fun z => n5 (decide_eq_true (by rw [z]))
  have k6 : d ≠ 6 := fun z => n6 (decide_eq_true (by rw [z]))
  have k7 : d ≠ 7 := fun z => n7 (decide_eq_true (by rw [z]))
  have k8 : d ≠ 8 := fun z => n8 (decide_eq_true (by rw [z]))
  refine ⟨(by show 0 ≤ sizeLine; decide), fun p hp => ⟨(by show 3 ≤ sizeLine; decide), fun L hL => ⟨_, rfl, _, _, rfl, rfl, ?_⟩⟩⟩
  have u1 := Same.up (o := .lst []) hp
  have u2 := Same.up (o := .lst [V.non, .str "2 0 0", .ref p]) hL
  obtain ⟨v, hv, hv2⟩ := atI_in (xs := [V.non, .str "2 0 0", .ref p]) (k := d - 9) (by omega) (by show d - 9 < (3 : Int); omega)
  refine ⟨L, _, _, _, rfl, rfl, SqL.of upd_same, hv, _, rfl, q _ _ (s12.trans (SB.of s12.2 (u1.trans u2))) (.inl ?_)⟩
  have hm := List.mem_of_getElem? hv2
  simp only [List.mem_cons, List.not_mem_nil, or_false] at hm
  rcases hm with rfl | rfl | rfl
  · exact ⟨_, .non, rfl⟩
  · exact ⟨_, .str _, rfl⟩
  · exact ⟨_, .lst (hide_of (s12.2.ne hp) (u2 _ _ upd_same)) .nil, rfl⟩
end
end CL

set_option maxHeartbeats 1000000
namespace CL
open PySem L2
section
variable {P : Program} {w : World} {K : PySem.W.Frag} {mg : Str → Option Value} {base : Heap}
def spGreat : Sp := fun vs H Q _ => ∃ (B : Addr) (most : Int), vs = [.ref B, .int most] ∧ BagAt H B ∧ (most = 100 ∨ most = 200) ∧ ∀ m v H', SB B H H' → FormAt (hide B H') v m → most < detT m / 2 → Q v H'
theorem ok__law_great_form {f : Addr} {fd : FuncData} (F : Fun K "_law_great_form" "_law_great_form" s__law_great_form f fd)  {f__law_take : Addr} {fd__law_take : FuncData} (G__law_take : FnOk P w K mg base CX0 2 f__law_take fd__law_take ["_law_bag_here", "_law_many"] spTake) (b__law_take : Binds K fd__law_take ["_law_bag_here", "_law_many"] []) (k__law_take : PySem.W.keepIn K (.ref f__law_take) = true) (m__law_take : mg "_law_take" = some (.ref f__law_take)) {f__law_carried : Addr} {fd__law_carried : FuncData} (G__law_carried : FnOk P w K mg base CX0 2 f__law_carried fd__law_carried ["_law_form", "_law_by"] spCarL) (b__law_carried : Binds K fd__law_carried ["_law_form", "_law_by"] []) (k__law_carried : PySem.W.keepIn K (.ref f__law_carried) = true) (m__law_carried : mg "_law_carried" = some (.ref f__law_carried)) {f__law_basis : Addr} {fd__law_basis : FuncData} (G__law_basis : FnOk P w K mg base CX0 2 f__law_basis fd__law_basis ["_law_bag_here", "_law_far"] spBasisB) (b__law_basis : Binds K fd__law_basis ["_law_bag_here", "_law_far"] []) (k__law_basis : PySem.W.keepIn K (.ref f__law_basis) = true) (m__law_basis : mg "_law_basis" = some (.ref f__law_basis)) : FnOk P w K mg base CX0 3 f fd ["_law_bag_here", "_law_most"] spGreat := by
  refine F.ok sc__law_great_form (fun vs H Q E h => ?_) (fun cdv A outer s H vs Q E hr h => ?_)
  · obtain ⟨B, most, rfl, hb, hm, q⟩ := h
    rfl
  obtain ⟨B, most, rfl, hb, hm, q⟩ := h
  have hu := hr.units
  refine ⟨_, (fss (@fs_cons _ _ _ _ _ (ps_set (i := 2) sc__law_great_form.nd rfl (Or.inl rfl) (pe_call G__law_take hr rfl m__law_take k__law_take b__law_take .nil pass0 (pa_cons (pv 0) (pa_cons pe_int pa_nil))))
    (fs_set (i := 3) sc__law_great_form.nd rfl (Or.inl rfl) (fe_ix ix_list (fe_lst (fa_cons fe_int (fa_cons (fe (pe_call G__law_take hr rfl m__law_take k__law_take b__law_take .nil pass0 (pa_cons (pv 0) (pa_cons pe_int pa_nil)))) fa_nil (by kernel_rfl)) (by kernel_rfl))) (pe_call G__law_take hr rfl m__law_take k__law_take b__law_take .nil pass0 (pa_cons (pv 0) (pa_cons pe_int pa_nil))) (fun _ _ => rfl)) (by kernel_rfl) (by first | exact .inl rfl | exact .inr rfl)
    (fs_set (i := 4) sc__law_great_form.nd rfl (Or.inl rfl) (fe_lst (fa_cons (fe_lst (fa_cons fe_int (fa_cons fe_int (fa_cons fe_int fa_nil (by kernel_rfl)) (by kernel_rfl)) (by kernel_rfl))) (fa_cons (fe_lst (fa_cons fe_int (fa_cons fe_int (fa_cons fe_int fa_nil (by kernel_rfl)) (by kernel_rfl)) (by kernel_rfl))) (fa_cons (fe_lst (fa_cons fe_int (fa_cons fe_int (fa_cons (fe (pe_op op_mul pe_int (pe_op op_add (pe_op op_add (pe_op op_fdiv (pv 1) pe_int) pe_int) (pv 3)))) fa_nil (by kernel_rfl)) (by kernel_rfl)) (by kernel_rfl))) fa_nil (by kernel_rfl)) (by kernel_rfl)) (by kernel_rfl))) (by kernel_rfl) (by first | exact .inl rfl | exact .inr rfl)
    (@fs_cons _ _ _ _ _ (ps_ifF (pt_cmpR op_eq (pv 2) pe_int (nomark _)) (fs_set1 (i := 4) sc__law_great_form.nd rfl (Or.inl rfl) (fe_lst (fa_cons (fe_lst (fa_cons fe_int (fa_cons fe_int (fa_cons fe_int fa_nil (by kernel_rfl)) (by kernel_rfl)) (by kernel_rfl))) (fa_cons (fe_lst (fa_cons fe_int (fa_cons fe_int (fa_cons fe_int fa_nil (by kernel_rfl)) (by kernel_rfl)) (by kernel_rfl))) (fa_cons (fe_lst (fa_cons fe_int (fa_cons fe_int (fa_cons (fe (pe_op op_mul pe_int (pe_op op_add (pe_op op_add (pe_op op_fdiv (pv 1) pe_int) pe_int) (pv 3)))) fa_nil (by kernel_rfl)) (by kernel_rfl)) (by kernel_rfl))) fa_nil (by kernel_rfl)) (by kernel_rfl)) (by kernel_rfl))) (by kernel_rfl) (by first | exact .inl rfl | exact .inr rfl)) fs_nil)
    (@fs_cons _ _ _ _ _ (ps_ifF (pt_cmpR op_eq (pv 2) pe_int (nomark _)) (fs_set1 (i := 4) sc__law_great_form.nd rfl (Or.inl rfl) (fe_lst (fa_cons (fe_lst (fa_cons fe_int (fa_cons fe_int (fa_cons fe_int fa_nil (by kernel_rfl)) (by kernel_rfl)) (by kernel_rfl))) (fa_cons (fe_lst (fa_cons fe_int (fa_cons fe_int (fa_cons fe_int fa_nil (by kernel_rfl)) (by kernel_rfl)) (by kernel_rfl))) (fa_cons (fe_lst (fa_cons fe_int (fa_cons fe_int (fa_cons (fe (pe_op op_mul pe_int (pe_op op_add (pe_op op_add (pe_op op_fdiv (pv 1) pe_int) pe_int) (pv 3)))) fa_nil (by kernel_rfl)) (by kernel_rfl)) (by kernel_rfl))) fa_nil (by kernel_rfl)) (by kernel_rfl)) (by kernel_rfl))) (by kernel_rfl) (by first | exact .inl rfl | exact .inr rfl)) fs_nil)
    (@fs_cons _ _ _ _ _ (ps_ifF (pt_cmpR op_eq (pv 2) pe_int (nomark _)) (fs_set1 (i := 4) sc__law_great_form.nd rfl (Or.inl rfl) (fe_lst (fa_cons (fe_lst (fa_cons fe_int (fa_cons fe_int (fa_cons fe_int fa_nil (by kernel_rfl)) (by kernel_rfl)) (by kernel_rfl))) (fa_cons (fe_lst (fa_cons fe_int (fa_cons fe_int (fa_cons fe_int fa_nil (by kernel_rfl)) (by kernel_rfl)) (by kernel_rfl))) (fa_cons (fe_lst (fa_cons fe_int (fa_cons fe_int (fa_cons (fe (pe_op op_mul pe_int (pe_op op_add (pe_op op_add (pe_op op_fdiv (pe_op op_add (pv 1) pe_int) pe_int) pe_int) (pv 3)))) fa_nil (by kernel_rfl)) (by kernel_rfl)) (by kernel_rfl))) fa_nil (by kernel_rfl)) (by kernel_rfl)) (by kernel_rfl))) (by kernel_rfl) (by first | exact .inl rfl | exact .inr rfl)) fs_nil)
    (@fs_one _ _ _ (ps_ret (pe_call G__law_carried hr rfl m__law_carried k__law_carried b__law_carried .nil pass0 (pa_cons (pv 4) (pa_cons (pe_call G__law_basis hr rfl m__law_basis k__law_basis b__law_basis .nil pass0 (pa_cons (pv 0) (pa_cons pe_int pa_nil))) pa_nil)))))))))))), ?_⟩
  refine ⟨_, rfl, B, _, rfl, hb, by decide, by decide, fun d H1 l0 u0 s1 => ?_⟩
  refine ⟨_, rfl, B, _, rfl, s1.2, by decide, by decide, fun d1 H2 l1 u1 s2 => ⟨(by show 2 ≤ sizeLine; decide), fun L hL => ?_⟩⟩
  have uL := Same.up (o := .lst [V.int 0, .int d1]) hL
  have nL : L ≠ B := s2.2.ne hL
  have s2L := SB.of s2.2 uL
  refine ⟨_, rfl, B, _, rfl, s2L.2, by decide, by decide, fun d2 H3 l2 u2 s3 => ?_⟩
  obtain ⟨v, hv, hv2⟩ := at2 (x := .int 0) (y := .int d1) (i := d2) l2 u2
  obtain ⟨more, rfl, g0, g1⟩ : ∃ more : Int, v = .int more ∧ 0 ≤ more ∧ more < 50 := by
    rcases hv2 with rfl | rfl
    · exact ⟨_, rfl, by decide, by decide⟩
    · exact ⟨_, rfl, l1, u1⟩
  refine ⟨L, _, _, _, rfl, rfl, SqL.of (s3.1 _ _ nL upd_same), hv, ?_⟩
  have sN := s1.trans (s2.trans (s2L.trans s3))
  refine ⟨(by show 3 ≤ sizeLine; decide), fun p0 h0 => ⟨(by show 3 ≤ sizeLine; decide), fun p1 h1 => ⟨_, rfl, _, _, rfl, rfl, ⟨by decide, by decide⟩, _, _, rfl, rfl, _, rfl, _, _, rfl, rfl, _, _, rfl, rfl, .inl ⟨by decide, by decide⟩, (by show 3 ≤ sizeLine; decide), fun p2 h2 => ⟨(by show 3 ≤ sizeLine; decide), fun t ht => ?_⟩⟩⟩⟩
  obtain ⟨c, ec, c0, c1, c2⟩ : ∃ c, most / 4 + 1 + more = c ∧ 0 < c ∧ c < 1000 ∧ most < 4 * c := ⟨_, rfl, by omega, by omega, by omega⟩
  have ht := ht
  rw [ec] at ht
  have v0 := Same.up (o := .lst [.int (2 * 1), .int 0, .int 0]) h0
  have v1 := Same.up (o := .lst [.int 0, .int (2 * 1), .int 0]) h1
  have v2 := Same.up (o := .lst [.int 0, .int 0, .int (2 * c)]) h2
  have v3 := Same.up (o := .lst [.ref p0, .ref p1, .ref p2]) ht
  have T : Tab _ t [p0, p1, p2] (sym3 (2 * 1) (2 * 1) (2 * c) 0 0 0) := tab_of3 _ upd_same (v3 _ _ (v2 _ _ (v1 _ _ upd_same))) (v3 _ _ (v2 _ _ upd_same)) (v3 _ _ upd_same)
  obtain ⟨f1, f2, f3⟩ := fresh3 h0 h1 h2 ht
  have ed : detT (sym3 (2 * 1) (2 * 1) (2 * c) 0 0 0) = 2 * (4 * c) := by
    rw [det_sym3]
    omega
  rw [ec]
  have sN' := sN.trans (SB.of sN.2 (v0.trans (v1.trans (v2.trans v3))))
  have nt : t ≠ B := sN.2.ne f1
  have nb : B ∉ [p0, p1, p2] := fun z => sN.2.ne (f2 B z) rfl
  have c33 : is33 (sym3 (2 * 1) (2 * 1) (2 * c) 0 0 0) := is33_mk3 _
  have dm : Bd 30 (sym3 (2 * 1) (2 * 1) (2 * c) 0 0 0) := bd_sym3 (by omega) (by omega) (by omega) (by omega) (by omega) (by omega)
  have ev := even_sym3 1 1 c 0 0 0
  have ab : aboveT (sym3 (2 * 1) (2 * 1) (2 * c) 0 0 0) = true := form_above (by decide) (by decide) (by decide) (by decide) (by rw [ed]; omega)
  have gt : most < detT (sym3 (2 * 1) (2 * 1) (2 * c) 0 0 0) / 2 := by rw [ed]; omega
  clear sN
  have sN := sN'
  generalize sym3 (2 * 1) (2 * 1) (2 * c) 0 0 0 = m at T c33 dm ev ab gt
  generalize [p0, p1, p2] = bs at T nb
  clear ed f3
  refine ⟨_, rfl, rfl, _, rfl, joinIf (fun σ' H' => ∃ (t : Addr) (bs : List Addr) (m : List (List Int)), σ' = [some (.ref B), some (.int most), some (.int d), some (.int more), some (.ref t)] ∧ SB B H H' ∧ t ≠ B ∧ B ∉ bs ∧ Tab H' t bs m ∧ is33 m ∧ Bd 30 m ∧ EvenT m ∧ aboveT m = true ∧ most < detT m / 2) ?_ (fun _ hK => ?_) ⟨t, bs, m, rfl, sN, nt, nb, T, c33, dm, ev, ab, gt⟩⟩
  rotate_left
  · refine ⟨(by show 3 ≤ sizeLine; decide), fun p0 h0 => ⟨(by show 3 ≤ sizeLine; decide), fun p1 h1 => ⟨_, rfl, _, _, rfl, rfl, ⟨by decide, by decide⟩, _, _, rfl, rfl, _, rfl, _, _, rfl, rfl, _, _, rfl, rfl, .inl ⟨by decide, by decide⟩, (by show 3 ≤ sizeLine; decide), fun p2 h2 => ⟨(by show 3 ≤ sizeLine; decide), fun t ht => ?_⟩⟩⟩⟩
    obtain ⟨c, ec, c0, c1, c2⟩ : ∃ c, most / 4 + 1 + more = c ∧ 0 < c ∧ c < 1000 ∧ most < 4 * c - 1 := ⟨_, rfl, by omega, by omega, by omega⟩
    have ht := ht
    rw [ec] at ht
    have v0 := Same.up (o := .lst [.int (2 * 1), .int 0, .int 1]) h0
    have v1 := Same.up (o := .lst [.int 0, .int (2 * 1), .int 0]) h1
    have v2 := Same.up (o := .lst [.int 1, .int 0, .int (2 * c)]) h2
    have v3 := Same.up (o := .lst [.ref p0, .ref p1, .ref p2]) ht
    have T : Tab _ t [p0, p1, p2] (sym3 (2 * 1) (2 * 1) (2 * c) 0 1 0) := tab_of3 _ upd_same (v3 _ _ (v2 _ _ (v1 _ _ upd_same))) (v3 _ _ (v2 _ _ upd_same)) (v3 _ _ upd_same)
    obtain ⟨f1, f2, f3⟩ := fresh3 h0 h1 h2 ht
    have ed : detT (sym3 (2 * 1) (2 * 1) (2 * c) 0 1 0) = 2 * (4 * c - 1) := by
      rw [det_sym3]
      omega
    rw [ec]
    exact hK _ _ ⟨t, _, sym3 (2 * 1) (2 * 1) (2 * c) 0 1 0, rfl, sN.trans (SB.of sN.2 (v0.trans (v1.trans (v2.trans v3)))), sN.2.ne f1, (fun z => sN.2.ne (f2 B z) rfl), T, is33_mk3 _, bd_sym3 (by omega) (by omega) (by omega) (by omega) (by omega) (by omega), even_sym3 1 1 c 0 1 0, form_above (by decide) (by decide) (by decide) (by decide) (by rw [ed]; omega), by rw [ed]; omega⟩
  clear T c33 dm ev ab gt nt nb sN
  rintro σ' H' ⟨t, bs, m, rfl, sN, nt, nb, T, c33, dm, ev, ab, gt⟩
  refine ⟨_, rfl, rfl, _, rfl, joinIf (fun σ' H' => ∃ (t : Addr) (bs : List Addr) (m : List (List Int)), σ' = [some (.ref B), some (.int most), some (.int d), some (.int more), some (.ref t)] ∧ SB B H H' ∧ t ≠ B ∧ B ∉ bs ∧ Tab H' t bs m ∧ is33 m ∧ Bd 30 m ∧ EvenT m ∧ aboveT m = true ∧ most < detT m / 2) ?_ (fun _ hK => ?_) ⟨t, bs, m, rfl, sN, nt, nb, T, c33, dm, ev, ab, gt⟩⟩
  rotate_left
  · refine ⟨(by show 3 ≤ sizeLine; decide), fun p0 h0 => ⟨(by show 3 ≤ sizeLine; decide), fun p1 h1 => ⟨_, rfl, _, _, rfl, rfl, ⟨by decide, by decide⟩, _, _, rfl, rfl, _, rfl, _, _, rfl, rfl, _, _, rfl, rfl, .inl ⟨by decide, by decide⟩, (by show 3 ≤ sizeLine; decide), fun p2 h2 => ⟨(by show 3 ≤ sizeLine; decide), fun t ht => ?_⟩⟩⟩⟩
    obtain ⟨c, ec, c0, c1, c2⟩ : ∃ c, most / 3 + 1 + more = c ∧ 0 < c ∧ c < 1000 ∧ most < 3 * c := ⟨_, rfl, by omega, by omega, by omega⟩
    have ht := ht
    rw [ec] at ht
    have v0 := Same.up (o := .lst [.int (2 * 1), .int 1, .int 0]) h0
    have v1 := Same.up (o := .lst [.int 1, .int (2 * 1), .int 0]) h1
    have v2 := Same.up (o := .lst [.int 0, .int 0, .int (2 * c)]) h2
    have v3 := Same.up (o := .lst [.ref p0, .ref p1, .ref p2]) ht
    have T : Tab _ t [p0, p1, p2] (sym3 (2 * 1) (2 * 1) (2 * c) 1 0 0) := tab_of3 _ upd_same (v3 _ _ (v2 _ _ (v1 _ _ upd_same))) (v3 _ _ (v2 _ _ upd_same)) (v3 _ _ upd_same)
    obtain ⟨f1, f2, f3⟩ := fresh3 h0 h1 h2 ht
    have ed : detT (sym3 (2 * 1) (2 * 1) (2 * c) 1 0 0) = 2 * (3 * c) := by
      rw [det_sym3]
      omega
    rw [ec]
    exact hK _ _ ⟨t, _, sym3 (2 * 1) (2 * 1) (2 * c) 1 0 0, rfl, sN.trans (SB.of sN.2 (v0.trans (v1.trans (v2.trans v3)))), sN.2.ne f1, (fun z => sN.2.ne (f2 B z) rfl), T, is33_mk3 _, bd_sym3 (by omega) (by omega) (by omega) (by omega) (by omega) (by omega), even_sym3 1 1 c 1 0 0, form_above (by decide) (by decide) (by decide) (by decide) (by rw [ed]; omega), by rw [ed]; omega⟩
  clear T c33 dm ev ab gt nt nb sN
  rintro σ' H' ⟨t, bs, m, rfl, sN, nt, nb, T, c33, dm, ev, ab, gt⟩
  refine ⟨_, rfl, rfl, _, rfl, joinIf (fun σ' H' => ∃ (t : Addr) (bs : List Addr) (m : List (List Int)), σ' = [some (.ref B), some (.int most), some (.int d), some (.int more), some (.ref t)] ∧ SB B H H' ∧ t ≠ B ∧ B ∉ bs ∧ Tab H' t bs m ∧ is33 m ∧ Bd 30 m ∧ EvenT m ∧ aboveT m = true ∧ most < detT m / 2) ?_ (fun _ hK => ?_) ⟨t, bs, m, rfl, sN, nt, nb, T, c33, dm, ev, ab, gt⟩⟩
  rotate_left
  · refine ⟨(by show 3 ≤ sizeLine; decide), fun p0 h0 => ⟨(by show 3 ≤ sizeLine; decide), fun p1 h1 => ⟨_, rfl, _, _, rfl, rfl, _, _, rfl, rfl, ⟨by decide, by decide⟩, _, _, rfl, rfl, _, rfl, _, _, rfl, rfl, _, _, rfl, rfl, .inl ⟨by decide, by decide⟩, (by show 3 ≤ sizeLine; decide), fun p2 h2 => ⟨(by show 3 ≤ sizeLine; decide), fun t ht => ?_⟩⟩⟩⟩
    obtain ⟨c, ec, c0, c1, c2⟩ : ∃ c, (most + 1) / 3 + 1 + more = c ∧ 0 < c ∧ c < 1000 ∧ most < 3 * c - 1 := ⟨_, rfl, by omega, by omega, by omega⟩
    have ht := ht
    rw [ec] at ht
    have v0 := Same.up (o := .lst [.int (2 * 1), .int 1, .int 0]) h0
    have v1 := Same.up (o := .lst [.int 1, .int (2 * 1), .int 1]) h1
    have v2 := Same.up (o := .lst [.int 0, .int 1, .int (2 * c)]) h2
    have v3 := Same.up (o := .lst [.ref p0, .ref p1, .ref p2]) ht
    have T : Tab _ t [p0, p1, p2] (sym3 (2 * 1) (2 * 1) (2 * c) 1 0 1) := tab_of3 _ upd_same (v3 _ _ (v2 _ _ (v1 _ _ upd_same))) (v3 _ _ (v2 _ _ upd_same)) (v3 _ _ upd_same)
    obtain ⟨f1, f2, f3⟩ := fresh3 h0 h1 h2 ht
    have ed : detT (sym3 (2 * 1) (2 * 1) (2 * c) 1 0 1) = 2 * (3 * c - 1) := by
      rw [det_sym3]
      omega
    rw [ec]
    exact hK _ _ ⟨t, _, sym3 (2 * 1) (2 * 1) (2 * c) 1 0 1, rfl, sN.trans (SB.of sN.2 (v0.trans (v1.trans (v2.trans v3)))), sN.2.ne f1, (fun z => sN.2.ne (f2 B z) rfl), T, is33_mk3 _, bd_sym3 (by omega) (by omega) (by omega) (by omega) (by omega) (by omega), even_sym3 1 1 c 1 0 1, form_above (by decide) (by decide) (by decide) (by decide) (by rw [ed]; omega), by rw [ed]; omega⟩
  clear T c33 dm ev ab gt nt nb sN
  rintro σ' H' ⟨t, bs, m, rfl, sN, nt, nb, T, c33, dm, ev, ab, gt⟩
  refine ⟨_, rfl, _, rfl, B, _, rfl, sN.2, by decide, by decide, fun mb tb bbs H3' cb dB detB s3' ftb fbb ntb Tb => ?_⟩
  have Tm := T.sb s3' nt nb
  refine ⟨t, bs, m, tb, bbs, mb, rfl, Tm, Tb, c33, cb, dm.mono (by decide), dB.mono (by decide), fun r rs H4 s4 fr frs nr nn Tr => ?_⟩
  have s13 := sN.trans s3'
  exact q (carT m mb) _ H4 (s13.trans (SB.of s13.2 s4)) ⟨r, rs, rfl, tab_hide Tr (s13.2.ne fr) (fun z => s13.2.ne (frs B z) rfl), (show is33 (mulT (mulT mb m) (overT mb)) from is33_mk3 _), ((bd_mulT (bd_mulT dB dm) (bd_overT dB)).mono (by decide)), even_carT ev c33 cb, above_carT (even_over ev c33) ab cb (.inl detB)⟩ (by rw [det_carT (.inl detB)]; exact gt)
end
end CL

set_option maxHeartbeats 1000000
namespace CL
open PySem L2
section
variable {P : Program} {w : World} {K : PySem.W.Frag} {mg : Str → Option Value} {base : Heap}
def spAsked (T1 T2 T3 : Addr) : Sp := fun vs H Q _ => ∃ (v : V), vs = [v] ∧ H T1 = some (tabO T1) ∧ H T2 = some (tabO T2) ∧ H T3 = some (tabO T3) ∧ True ∧
  ((Bad H v ∧ ∀ H', Same H H' → Q (.str "form") H') ∨ ∃ m, FormAt H v m ∧ ((200 < detT m / 2 ∧ ∀ H', Same H H' → Q (.str "great") H') ∨ (detT m / 2 ≤ 200 ∧ ∀ H', Same H H' → Q (.str "told") H')))
theorem ok__law_asked {f : Addr} {fd : FuncData} {T_is_row T_is_table T_is_even_table : Addr} {c_NoForm c_TooGreat c_NoPrime c_NoLine c_NoStep c_NoWorth c_KinError c_NoBasis c_NoText c_NoRow c_NoName : Addr} (F : Fun K "_law_asked" "_law_asked" s__law_asked f fd) (m_KinError : mg "KinError" = some (.ref c_KinError)) (XC : Excs K c_KinError [c_NoBasis, c_NoForm, c_TooGreat, c_NoWorth, c_NoPrime, c_NoLine, c_NoStep, c_NoText, c_NoRow, c_NoName]) (z_isinstance : mg "isinstance" = none) (z_int : mg "int" = none) (z_str : mg "str" = none) {f_show : Addr} {fd_show : FuncData} (G_show : FnOk P w K mg base (CXR P w) 12 f_show fd_show ["form"] (spShowR T_is_row T_is_table T_is_even_table c_NoForm c_TooGreat)) (b_show : Binds K fd_show ["form"] []) (k_show : PySem.W.keepIn K (.ref f_show) = true) (m_show : mg "show" = some (.ref f_show)) {f__law_kind : Addr} {fd__law_kind : FuncData} (G__law_kind : FnOkH P w K mg base 12 f__law_kind fd__law_kind ["_law_e"] (fun a oe => spKind c_NoForm c_TooGreat c_NoPrime c_NoLine c_NoStep c_NoWorth oe.cls a)) (b__law_kind : Binds K fd__law_kind ["_law_e"] []) (k__law_kind : PySem.W.keepIn K (.ref f__law_kind) = true) (m__law_kind : mg "_law_kind" = some (.ref f__law_kind)) : FnOk P w K mg base CX0 13 f fd ["_law_form"] (spAsked T_is_row T_is_table T_is_even_table) := by
  refine F.ok sc__law_asked (fun vs H Q E h => ?_) (fun cdv A outer s H vs Q E hr h => ?_)
  · obtain ⟨v, rfl, h1, h2, h3, h4, hv⟩ := h
    rfl
  obtain ⟨v, rfl, h1, h2, h3, h4, hv⟩ := h
  have hu := hr.units
  refine ⟨_, (fss (@fs_cons _ _ _ _ _ (ps_try (CK := c_KinError) (i := 2) ⟨rfl, rfl, sc__law_asked.nd, rfl, rfl, rfl, m_KinError, by decide⟩ (fun a oe => (pss_one (ps_ret (pe_callH G__law_kind (RoomH.mark (RoomH.of hr)) rfl m__law_kind k__law_kind b__law_kind List.mem_cons_self (pa_cons (pv 2) pa_nil))))) (fun ok T hs pins D σ => (pss_one (ps_set (i := 1) sc__law_asked.nd rfl (Or.inl rfl) (pe_callT (σ0 := σ) ok T G_show hr rfl m_show k_show b_show hs (pa_cons (pv 0) pa_nil))))))
    (fs_ret (fe_ix ix_list (fe_lst (fa_cons fe_str (fa_cons fe_str fa_nil (by kernel_rfl)) (by kernel_rfl))) (pe_callTy call_int1 rfl z_int PyProof.Rows.boot_int (pa_cons (pe_and (pe_callB call_isinst rfl z_isinstance PyProof.Rows.boot_isinstance (pa_cons (pv 1) (pa_cons (pe_bltn (v := .ty "str") rfl z_str PyProof.Rows.boot_str rfl) pa_nil))) (pe_one (pe_cmpR op_ne (pe_slice sl_str (pv 1) po_none (po_some pe_int)) pe_str (nomark _)))) pa_nil)) (fun _ _ => rfl))))), ?_⟩
  refine ⟨rfl, _, rfl, v, rfl, h1, h2, h3, trivial, ?_⟩
  rcases hv with ⟨hb, q⟩ | ⟨m, hf, ⟨g, q⟩ | ⟨g, q⟩⟩
  · exact .inl ⟨hb, fun H1 s1 => ⟨(XC.at 1 rfl).exm, fun a oe hc nc ha => ⟨_, rfl, rfl, .inl ⟨hc, fun H3 s3 => q H3 (s1.trans s3)⟩⟩⟩⟩
  · refine .inr ⟨m, hf, fun H1 s1 => ?_⟩
    rw [if_pos g]
    exact ⟨(XC.at 2 rfl).exm, fun a oe hc nc ha => ⟨_, rfl, rfl, .inr (.inl ⟨hc, fun H3 s3 => q H3 (s1.trans s3)⟩)⟩⟩
  · refine .inr ⟨m, hf, fun H1 s1 => ?_⟩
    rw [if_neg (by omega)]
    intro t ft lt
    refine ⟨(by show 2 ≤ sizeLine; decide), fun L hL => ?_⟩
    refine ⟨_, rfl, _, _, _, _, rfl, .str t, kit_same K "str", _, rfl, iteT ⟨_, rfl, _, rfl, t, rfl, Nat.le_trans lt (by decide), rfl, ?_⟩⟩
    have ne : decide (V.str (Txt.slice t none (some 1)) = V.str " ") = false := decide_eq_false fun z => ft.cut (V.str.inj z)
    rw [ne]
    exact .inr ⟨_, rfl, L, _, _, _, rfl, rfl, SqL.of upd_same, rfl, q _ (s1.trans (Same.up hL))⟩
end
end CL

set_option maxHeartbeats 1000000
namespace CL
open PySem L2
section
variable {P : Program} {w : World} {K : PySem.W.Frag} {mg : Str → Option Value} {base : Heap}
def spLaw (K : PySem.W.Frag) (tabs : List Addr) : Sp := fun vs H Q _ => ∃ (a : Addr) (ns : List Int), vs = [.ref a] ∧ SqL K H a (ns.map V.int) ∧ ns.length ≤ 63 ∧ (∀ T ∈ tabs, H T = some (tabO T)) ∧ ∀ H', Same H H' → Q (.bl true) H'
theorem ok_law {f : Addr} {fd : FuncData} {T_is_row T_is_table T_is_even_table : Addr} {tabs : List Addr} (hT_is_row : T_is_row ∈ tabs) (hT_is_table : T_is_table ∈ tabs) (hT_is_even_table : T_is_even_table ∈ tabs) (F : Fun K "law" "law" s_law f fd) (z_range : mg "range" = none) (z_max : mg "max" = none) (z_min : mg "min" = none) (z_len : mg "len" = none) {f__law_bag : Addr} {fd__law_bag : FuncData} (G__law_bag : FnOk P w K mg base CX0 13 f__law_bag fd__law_bag ["_law_script", "_law_at"] (spBag K)) (b__law_bag : Binds K fd__law_bag ["_law_script", "_law_at"] []) (k__law_bag : PySem.W.keepIn K (.ref f__law_bag) = true) (m__law_bag : mg "_law_bag" = some (.ref f__law_bag)) {f__law_reduced : Addr} {fd__law_reduced : FuncData} (G__law_reduced : FnOk P w K mg base CX0 13 f__law_reduced fd__law_reduced ["_law_bag_here", "_law_most"] spReduced) (b__law_reduced : Binds K fd__law_reduced ["_law_bag_here", "_law_most"] []) (k__law_reduced : PySem.W.keepIn K (.ref f__law_reduced) = true) (m__law_reduced : mg "_law_reduced" = some (.ref f__law_reduced)) {f__law_odd_form : Addr} {fd__law_odd_form : FuncData} (G__law_odd_form : FnOk P w K mg base CX0 13 f__law_odd_form fd__law_odd_form ["_law_bag_here", "_law_form"] spOddForm) (b__law_odd_form : Binds K fd__law_odd_form ["_law_bag_here", "_law_form"] []) (k__law_odd_form : PySem.W.keepIn K (.ref f__law_odd_form) = true) (m__law_odd_form : mg "_law_odd_form" = some (.ref f__law_odd_form)) {f__law_asked : Addr} {fd__law_asked : FuncData} (G__law_asked : FnOk P w K mg base CX0 13 f__law_asked fd__law_asked ["_law_form"] (spAsked T_is_row T_is_table T_is_even_table)) (b__law_asked : Binds K fd__law_asked ["_law_form"] []) (k__law_asked : PySem.W.keepIn K (.ref f__law_asked) = true) (m__law_asked : mg "_law_asked" = some (.ref f__law_asked)) {f__law_great_form : Addr} {fd__law_great_form : FuncData} (G__law_great_form : FnOk P w K mg base CX0 13 f__law_great_form fd__law_great_form ["_law_bag_here", "_law_most"] spGreat) (b__law_great_form : Binds K fd__law_great_form ["_law_bag_here", "_law_most"] []) (k__law_great_form : PySem.W.keepIn K (.ref f__law_great_form) = true) (m__law_great_form : mg "_law_great_form" = some (.ref f__law_great_form)) : FnOk P w K mg base CX0 14 f fd ["_law_script"] (spLaw K tabs) := by
  refine F.ok sc_law (fun vs H Q E h => ?_) (fun cdv A outer s H vs Q E hr h => ?_)
  · obtain ⟨a, ns, rfl, hS, h63, hT, q⟩ := h
    rfl
  obtain ⟨a, ns, rfl, hS, h63, hT, q⟩ := h
  have hu := hr.units
  refine ⟨_, (fss (@fs_cons _ _ _ _ _ (ps_for PassesOwn.never rfl (pi_range1 rfl z_range (pa_cons (pe_callB (call_max2 rfl) rfl z_max PyProof.Rows.boot_max (pa_cons pe_int (pa_cons (pe_callB (call_min2 rfl) rfl z_min PyProof.Rows.boot_min (pa_cons pe_int (pa_cons (pe_callB call_len_seq rfl z_len PySem.boot_len (pa_cons (pv 0) pa_nil)) pa_nil))) pa_nil))) pa_nil)) (pg_name (i := 1) sc_law.nd rfl (Or.inl rfl)) (fss (@fs_cons _ _ _ _ _ (ps_set (i := 2) sc_law.nd rfl (Or.inl rfl) (pe_call G__law_bag hr rfl m__law_bag k__law_bag b__law_bag .nil pass0 (pa_cons (pv 0) (pa_cons (pv 1) pa_nil))))
    (@fs_cons _ _ _ _ _ (ps_set (i := 3) sc_law.nd rfl (Or.inl rfl) (pe_call G__law_reduced hr rfl m__law_reduced k__law_reduced b__law_reduced .nil pass0 (pa_cons (pv 2) (pa_cons pe_int pa_nil))))
    (@fs_one _ _ _ (ps_for PassesOwn.never rfl (pi_range1 rfl z_range (pa_cons pe_int pa_nil)) (pg_name (i := 4) sc_law.nd rfl (Or.inl rfl)) (fss (@fs_cons _ _ _ _ _ (ps_ifF (PW.pt (pw_or (pt_cmpR op_ne (pe_call G__law_asked hr rfl m__law_asked k__law_asked b__law_asked .nil pass0 (pa_cons (pe_call G__law_odd_form hr rfl m__law_odd_form k__law_odd_form b__law_odd_form .nil pass0 (pa_cons (pv 2) (pa_cons (pv 3) pa_nil))) pa_nil)) pe_str (nomark _)) (pw_or1 (pt_cmpR op_ne (pe_call G__law_asked hr rfl m__law_asked k__law_asked b__law_asked .nil pass0 (pa_cons (pe_call G__law_great_form hr rfl m__law_great_form k__law_great_form b__law_great_form .nil pass0 (pa_cons (pv 2) (pa_cons pe_int pa_nil))) pa_nil)) pe_str (nomark _))))) (@fs_one _ _ _ (ps_ret pe_bl)) fs_nil)
    (@fs_one _ _ _ (ps_ifF (pt_cmpR op_ne (pe_call G__law_asked hr rfl m__law_asked k__law_asked b__law_asked .nil pass0 (pa_cons (pv 3) pa_nil)) pe_str (nomark _)) (@fs_one _ _ _ (ps_ret pe_bl)) fs_nil))))))))))
    (@fs_one _ _ _ (ps_ret pe_bl)))), ?_⟩
  have hl : (ns.map V.int).length = ns.length := List.length_map _
  refine ⟨_, rfl, a, _, rfl, .inl hS, _, _, rfl, _, _, rfl, _, rfl, ?b1, ?b2, for_range (n := _) (fun i σ H' => ∃ (o1 o2 o3 o4 : Option V), Same H H' ∧ σ = [some (.ref a), o1, o2, o3, o4]) ⟨_, _, _, _, Same.refl _, rfl⟩ (fun i σ H0 hi h => ?_) (fun σ H0 h => ?_)⟩
  case b1 => rw [hl]; split <;> split <;> omega
  case b2 => rw [hl]; split <;> split <;> omega
  · obtain ⟨o1, o2, o3, o4, s0, rfl⟩ := h
    have i4 : i < 4 := by
      rw [hl] at hi
      split at hi <;> split at hi <;> omega
    refine ⟨_, rfl, _, rfl, a, ns, _, rfl, s0.seq hS, h63, by omega, by omega, fun B H1 s1 fB hb => ?_⟩
    have fin : ∀ H', SB B H1 H' → Same H H' := fun H' s => s0.trans fun b o e => s.1 b o (fun z => by rw [z, fB] at e; cases e) (s1 b o e)
    refine ⟨_, rfl, B, _, rfl, hb, by decide, by decide, fun m t bs H2 c33 dm ev ab le s2 ft fb nt nn T => ?_⟩
    have ntB : t ≠ B := hb.ne ft
    have nbB : B ∉ bs := fun z => hb.ne (fb B z) rfl
    have d4 : Bd 440 m := dm.mono (by decide)
    refine ⟨2, rfl, by decide, by decide, for_range (n := 2) (fun j σ H' => ∃ o4, σ = [some (.ref a), some (.int (0 + (i : Int))), some (.ref B), some (.ref t), o4] ∧ SB B H2 H') ⟨_, rfl, SB.refl s2.2⟩ (fun j σ Hs hj hh => ?_) (fun σ Hs hh => ?_)⟩
    · obtain ⟨o4, rfl, sh⟩ := hh
      have Ts := T.sb sh ntB nbB
      refine ⟨_, rfl, _, rfl, B, t, bs, m, rfl, sh.2, Ts, c33, dm.mono (by decide), ev, ab, ntB, nbB, fun w H3 s3 hw => ?_⟩
      have s23 := sh.trans s3
      refine ⟨w, rfl, (fin _ (s2.trans s23)) _ _ (hT _ hT_is_row), (fin _ (s2.trans s23)) _ _ (hT _ hT_is_table), (fin _ (s2.trans s23)) _ _ (hT _ hT_is_even_table), trivial, .inl ⟨hw.same (hide_same B H3), fun H4 s4 => ⟨rfl, _, rfl, iteNS rfl ?_⟩⟩⟩
      have s24 := s23.trans (SB.of s23.2 s4)
      refine ⟨_, rfl, B, 200, rfl, s24.2, .inr rfl, fun mx w2 H5 s5 hf5 gt5 => ?_⟩
      have s25 := s24.trans s5
      refine ⟨w2, rfl, (fin _ (s2.trans s25)) _ _ (hT _ hT_is_row), (fin _ (s2.trans s25)) _ _ (hT _ hT_is_table), (fin _ (s2.trans s25)) _ _ (hT _ hT_is_even_table), trivial, .inr ⟨mx, hf5.same (hide_same B H5), .inl ⟨gt5, fun H6 s6 => ⟨rfl, _, rfl, iteNS rfl ?_⟩⟩⟩⟩
      have s26 := s25.trans (SB.of s25.2 s6)
      have F6 : FormAt H6 (.ref t) m := ⟨t, bs, rfl, T.sb s26 ntB nbB, c33, d4, ev, ab⟩
      refine ⟨_, rfl, .ref t, rfl, (fin _ (s2.trans s26)) _ _ (hT _ hT_is_row), (fin _ (s2.trans s26)) _ _ (hT _ hT_is_table), (fin _ (s2.trans s26)) _ _ (hT _ hT_is_even_table), trivial, .inr ⟨m, F6, .inr ⟨le, fun H7 s7 => ⟨rfl, _, rfl, iteNS rfl ?_⟩⟩⟩⟩
      exact ⟨_, rfl, s26.trans (SB.of s26.2 s7)⟩
    · obtain ⟨o4, rfl, sh⟩ := hh
      exact ⟨_, _, _, _, fin _ (s2.trans sh), rfl⟩
  · obtain ⟨o1, o2, o3, o4, s0, rfl⟩ := h
    exact q H0 s0
end
end CL

set_option maxHeartbeats 1000000
namespace CL
open PySem L2
section
variable {P : Program} {w : World} {K : PySem.W.Frag} {mg : Str → Option Value} {base : Heap}

end
theorem all_mk {l : PySem.W.OpenLaw} {q : Program} {loose : List Str} {mean : ExcName → Option Value} {w : World} {K : PySem.W.Frag} {h : Heap} {mg mb : Str → Option Value} {fa f_turned_over f_signed_minor f_determinant f_cover f_low_row f_is_whole f_is_row f_is_table f_is_even_table f_is_form f_half f_numbers_of f_term f_show f__law_bag f__law_take f__law_determinant f__law_pairing f__law_carried f__law_drawn_form f__law_is_above f__law_reduced f__law_basis f__law_copy f__law_kind f__law_odd_form f__law_great_form f__law_asked f_law : Addr} (X : K.In h) (Tp : PyProof.Rows.Top q loose mean mg mb h) (hfa : mg "law" = some (.ref fa))
    {od_turned_over an_turned_over : Option Addr} {sl_turned_over : Array (Option Value)} {oc_turned_over kV_turned_over dc_turned_over pm_turned_over cd_turned_over ct_turned_over : Value} (a_turned_over : PySem.W.nsIn K mainGlobals "turned_over" = some (some (.ref f_turned_over))) (l_turned_over : K.lookup f_turned_over = some ⟨oc_turned_over, od_turned_over, .func (PySem.W.fnOf "turned_over" "turned_over" (defArgs s_turned_over) (defBody s_turned_over) (defScope s_turned_over) .none kV_turned_over dc_turned_over pm_turned_over an_turned_over cd_turned_over ct_turned_over), sl_turned_over⟩) (c_turned_over : PySem.W.codeIn K cd_turned_over "turned_over" = true) (k_turned_over : PySem.W.keepIn K (.ref f_turned_over) = true)
    {od_signed_minor an_signed_minor : Option Addr} {sl_signed_minor : Array (Option Value)} {oc_signed_minor kV_signed_minor dc_signed_minor pm_signed_minor cd_signed_minor ct_signed_minor : Value} (a_signed_minor : PySem.W.nsIn K mainGlobals "signed_minor" = some (some (.ref f_signed_minor))) (l_signed_minor : K.lookup f_signed_minor = some ⟨oc_signed_minor, od_signed_minor, .func (PySem.W.fnOf "signed_minor" "signed_minor" (defArgs s_signed_minor) (defBody s_signed_minor) (defScope s_signed_minor) .none kV_signed_minor dc_signed_minor pm_signed_minor an_signed_minor cd_signed_minor ct_signed_minor), sl_signed_minor⟩) (c_signed_minor : PySem.W.codeIn K cd_signed_minor "signed_minor" = true) (k_signed_minor : PySem.W.keepIn K (.ref f_signed_minor) = true)
    {od_determinant an_determinant : Option Addr} {sl_determinant : Array (Option Value)} {oc_determinant kV_determinant dc_determinant pm_determinant cd_determinant ct_determinant : Value} (a_determinant : PySem.W.nsIn K mainGlobals "determinant" = some (some (.ref f_determinant))) (l_determinant : K.lookup f_determinant = some ⟨oc_determinant, od_determinant, .func (PySem.W.fnOf "determinant" "determinant" (defArgs s_determinant) (defBody s_determinant) (defScope s_determinant) .none kV_determinant dc_determinant pm_determinant an_determinant cd_determinant ct_determinant), sl_determinant⟩) (c_determinant : PySem.W.codeIn K cd_determinant "determinant" = true) (k_determinant : PySem.W.keepIn K (.ref f_determinant) = true)
    {od_cover an_cover : Option Addr} {sl_cover : Array (Option Value)} {oc_cover kV_cover dc_cover pm_cover cd_cover ct_cover : Value} (a_cover : PySem.W.nsIn K mainGlobals "cover" = some (some (.ref f_cover))) (l_cover : K.lookup f_cover = some ⟨oc_cover, od_cover, .func (PySem.W.fnOf "cover" "cover" (defArgs s_cover) (defBody s_cover) (defScope s_cover) .none kV_cover dc_cover pm_cover an_cover cd_cover ct_cover), sl_cover⟩) (c_cover : PySem.W.codeIn K cd_cover "cover" = true) (k_cover : PySem.W.keepIn K (.ref f_cover) = true)
    {od_low_row an_low_row : Option Addr} {sl_low_row : Array (Option Value)} {oc_low_row kV_low_row dc_low_row pm_low_row cd_low_row ct_low_row : Value} (a_low_row : PySem.W.nsIn K mainGlobals "low_row" = some (some (.ref f_low_row))) (l_low_row : K.lookup f_low_row = some ⟨oc_low_row, od_low_row, .func (PySem.W.fnOf "low_row" "low_row" (defArgs s_low_row) (defBody s_low_row) (defScope s_low_row) .none kV_low_row dc_low_row pm_low_row an_low_row cd_low_row ct_low_row), sl_low_row⟩) (c_low_row : PySem.W.codeIn K cd_low_row "low_row" = true) (k_low_row : PySem.W.keepIn K (.ref f_low_row) = true)
    {od_is_whole an_is_whole : Option Addr} {sl_is_whole : Array (Option Value)} {oc_is_whole kV_is_whole dc_is_whole pm_is_whole cd_is_whole ct_is_whole : Value} (a_is_whole : PySem.W.nsIn K mainGlobals "is_whole" = some (some (.ref f_is_whole))) (l_is_whole : K.lookup f_is_whole = some ⟨oc_is_whole, od_is_whole, .func (PySem.W.fnOf "is_whole" "is_whole" (defArgs s_is_whole) (defBody s_is_whole) (defScope s_is_whole) .none kV_is_whole dc_is_whole pm_is_whole an_is_whole cd_is_whole ct_is_whole), sl_is_whole⟩) (c_is_whole : PySem.W.codeIn K cd_is_whole "is_whole" = true) (k_is_whole : PySem.W.keepIn K (.ref f_is_whole) = true)
    {od_is_row an_is_row : Option Addr} {sl_is_row : Array (Option Value)} {oc_is_row kV_is_row dc_is_row pm_is_row cd_is_row ct_is_row : Value} (a_is_row : PySem.W.nsIn K mainGlobals "is_row" = some (some (.ref f_is_row))) (l_is_row : K.lookup f_is_row = some ⟨oc_is_row, od_is_row, .func (PySem.W.fnOf "is_row" "is_row" (defArgs s_is_row) (defBody s_is_row) (defScope s_is_row) .none kV_is_row dc_is_row pm_is_row an_is_row cd_is_row ct_is_row), sl_is_row⟩) (c_is_row : PySem.W.codeIn K cd_is_row "is_row" = true) (k_is_row : PySem.W.keepIn K (.ref f_is_row) = true)
    {od_is_table an_is_table : Option Addr} {sl_is_table : Array (Option Value)} {oc_is_table kV_is_table dc_is_table pm_is_table cd_is_table ct_is_table : Value} (a_is_table : PySem.W.nsIn K mainGlobals "is_table" = some (some (.ref f_is_table))) (l_is_table : K.lookup f_is_table = some ⟨oc_is_table, od_is_table, .func (PySem.W.fnOf "is_table" "is_table" (defArgs s_is_table) (defBody s_is_table) (defScope s_is_table) .none kV_is_table dc_is_table pm_is_table an_is_table cd_is_table ct_is_table), sl_is_table⟩) (c_is_table : PySem.W.codeIn K cd_is_table "is_table" = true) (k_is_table : PySem.W.keepIn K (.ref f_is_table) = true)
    {od_is_even_table an_is_even_table : Option Addr} {sl_is_even_table : Array (Option Value)} {oc_is_even_table kV_is_even_table dc_is_even_table pm_is_even_table cd_is_even_table ct_is_even_table : Value} (a_is_even_table : PySem.W.nsIn K mainGlobals "is_even_table" = some (some (.ref f_is_even_table))) (l_is_even_table : K.lookup f_is_even_table = some ⟨oc_is_even_table, od_is_even_table, .func (PySem.W.fnOf "is_even_table" "is_even_table" (defArgs s_is_even_table) (defBody s_is_even_table) (defScope s_is_even_table) .none kV_is_even_table dc_is_even_table pm_is_even_table an_is_even_table cd_is_even_table ct_is_even_table), sl_is_even_table⟩) (c_is_even_table : PySem.W.codeIn K cd_is_even_table "is_even_table" = true) (k_is_even_table : PySem.W.keepIn K (.ref f_is_even_table) = true)
    {od_is_form an_is_form : Option Addr} {sl_is_form : Array (Option Value)} {oc_is_form kV_is_form dc_is_form pm_is_form cd_is_form ct_is_form : Value} (a_is_form : PySem.W.nsIn K mainGlobals "is_form" = some (some (.ref f_is_form))) (l_is_form : K.lookup f_is_form = some ⟨oc_is_form, od_is_form, .func (PySem.W.fnOf "is_form" "is_form" (defArgs s_is_form) (defBody s_is_form) (defScope s_is_form) .none kV_is_form dc_is_form pm_is_form an_is_form cd_is_form ct_is_form), sl_is_form⟩) (c_is_form : PySem.W.codeIn K cd_is_form "is_form" = true) (k_is_form : PySem.W.keepIn K (.ref f_is_form) = true)
    {od_half an_half : Option Addr} {sl_half : Array (Option Value)} {oc_half kV_half dc_half pm_half cd_half ct_half : Value} (a_half : PySem.W.nsIn K mainGlobals "half" = some (some (.ref f_half))) (l_half : K.lookup f_half = some ⟨oc_half, od_half, .func (PySem.W.fnOf "half" "half" (defArgs s_half) (defBody s_half) (defScope s_half) .none kV_half dc_half pm_half an_half cd_half ct_half), sl_half⟩) (c_half : PySem.W.codeIn K cd_half "half" = true) (k_half : PySem.W.keepIn K (.ref f_half) = true)
    {od_numbers_of an_numbers_of : Option Addr} {sl_numbers_of : Array (Option Value)} {oc_numbers_of kV_numbers_of dc_numbers_of pm_numbers_of cd_numbers_of ct_numbers_of : Value} (a_numbers_of : PySem.W.nsIn K mainGlobals "numbers_of" = some (some (.ref f_numbers_of))) (l_numbers_of : K.lookup f_numbers_of = some ⟨oc_numbers_of, od_numbers_of, .func (PySem.W.fnOf "numbers_of" "numbers_of" (defArgs s_numbers_of) (defBody s_numbers_of) (defScope s_numbers_of) .none kV_numbers_of dc_numbers_of pm_numbers_of an_numbers_of cd_numbers_of ct_numbers_of), sl_numbers_of⟩) (c_numbers_of : PySem.W.codeIn K cd_numbers_of "numbers_of" = true) (k_numbers_of : PySem.W.keepIn K (.ref f_numbers_of) = true)
    {od_term an_term : Option Addr} {sl_term : Array (Option Value)} {oc_term kV_term dc_term pm_term cd_term ct_term : Value} (a_term : PySem.W.nsIn K mainGlobals "term" = some (some (.ref f_term))) (l_term : K.lookup f_term = some ⟨oc_term, od_term, .func (PySem.W.fnOf "term" "term" (defArgs s_term) (defBody s_term) (defScope s_term) .none kV_term dc_term pm_term an_term cd_term ct_term), sl_term⟩) (c_term : PySem.W.codeIn K cd_term "term" = true) (k_term : PySem.W.keepIn K (.ref f_term) = true)
    {od_show an_show : Option Addr} {sl_show : Array (Option Value)} {oc_show kV_show dc_show pm_show cd_show ct_show : Value} (a_show : PySem.W.nsIn K mainGlobals "show" = some (some (.ref f_show))) (l_show : K.lookup f_show = some ⟨oc_show, od_show, .func (PySem.W.fnOf "show" "show" (defArgs s_show) (defBody s_show) (defScope s_show) .none kV_show dc_show pm_show an_show cd_show ct_show), sl_show⟩) (c_show : PySem.W.codeIn K cd_show "show" = true) (k_show : PySem.W.keepIn K (.ref f_show) = true)
    {od__law_bag an__law_bag : Option Addr} {sl__law_bag : Array (Option Value)} {oc__law_bag kV__law_bag dc__law_bag pm__law_bag cd__law_bag ct__law_bag : Value} (a__law_bag : PySem.W.nsIn K mainGlobals "_law_bag" = some (some (.ref f__law_bag))) (l__law_bag : K.lookup f__law_bag = some ⟨oc__law_bag, od__law_bag, .func (PySem.W.fnOf "_law_bag" "_law_bag" (defArgs s__law_bag) (defBody s__law_bag) (defScope s__law_bag) .none kV__law_bag dc__law_bag pm__law_bag an__law_bag cd__law_bag ct__law_bag), sl__law_bag⟩) (c__law_bag : PySem.W.codeIn K cd__law_bag "_law_bag" = true) (k__law_bag : PySem.W.keepIn K (.ref f__law_bag) = true)
    {od__law_take an__law_take : Option Addr} {sl__law_take : Array (Option Value)} {oc__law_take kV__law_take dc__law_take pm__law_take cd__law_take ct__law_take : Value} (a__law_take : PySem.W.nsIn K mainGlobals "_law_take" = some (some (.ref f__law_take))) (l__law_take : K.lookup f__law_take = some ⟨oc__law_take, od__law_take, .func (PySem.W.fnOf "_law_take" "_law_take" (defArgs s__law_take) (defBody s__law_take) (defScope s__law_take) .none kV__law_take dc__law_take pm__law_take an__law_take cd__law_take ct__law_take), sl__law_take⟩) (c__law_take : PySem.W.codeIn K cd__law_take "_law_take" = true) (k__law_take : PySem.W.keepIn K (.ref f__law_take) = true)
    {od__law_determinant an__law_determinant : Option Addr} {sl__law_determinant : Array (Option Value)} {oc__law_determinant kV__law_determinant dc__law_determinant pm__law_determinant cd__law_determinant ct__law_determinant : Value} (a__law_determinant : PySem.W.nsIn K mainGlobals "_law_determinant" = some (some (.ref f__law_determinant))) (l__law_determinant : K.lookup f__law_determinant = some ⟨oc__law_determinant, od__law_determinant, .func (PySem.W.fnOf "_law_determinant" "_law_determinant" (defArgs s__law_determinant) (defBody s__law_determinant) (defScope s__law_determinant) .none kV__law_determinant dc__law_determinant pm__law_determinant an__law_determinant cd__law_determinant ct__law_determinant), sl__law_determinant⟩) (c__law_determinant : PySem.W.codeIn K cd__law_determinant "_law_determinant" = true) (k__law_determinant : PySem.W.keepIn K (.ref f__law_determinant) = true)
    {od__law_pairing an__law_pairing : Option Addr} {sl__law_pairing : Array (Option Value)} {oc__law_pairing kV__law_pairing dc__law_pairing pm__law_pairing cd__law_pairing ct__law_pairing : Value} (a__law_pairing : PySem.W.nsIn K mainGlobals "_law_pairing" = some (some (.ref f__law_pairing))) (l__law_pairing : K.lookup f__law_pairing = some ⟨oc__law_pairing, od__law_pairing, .func (PySem.W.fnOf "_law_pairing" "_law_pairing" (defArgs s__law_pairing) (defBody s__law_pairing) (defScope s__law_pairing) .none kV__law_pairing dc__law_pairing pm__law_pairing an__law_pairing cd__law_pairing ct__law_pairing), sl__law_pairing⟩) (c__law_pairing : PySem.W.codeIn K cd__law_pairing "_law_pairing" = true) (k__law_pairing : PySem.W.keepIn K (.ref f__law_pairing) = true)
    {od__law_carried an__law_carried : Option Addr} {sl__law_carried : Array (Option Value)} {oc__law_carried kV__law_carried dc__law_carried pm__law_carried cd__law_carried ct__law_carried : Value} (a__law_carried : PySem.W.nsIn K mainGlobals "_law_carried" = some (some (.ref f__law_carried))) (l__law_carried : K.lookup f__law_carried = some ⟨oc__law_carried, od__law_carried, .func (PySem.W.fnOf "_law_carried" "_law_carried" (defArgs s__law_carried) (defBody s__law_carried) (defScope s__law_carried) .none kV__law_carried dc__law_carried pm__law_carried an__law_carried cd__law_carried ct__law_carried), sl__law_carried⟩) (c__law_carried : PySem.W.codeIn K cd__law_carried "_law_carried" = true) (k__law_carried : PySem.W.keepIn K (.ref f__law_carried) = true)
    {od__law_drawn_form an__law_drawn_form : Option Addr} {sl__law_drawn_form : Array (Option Value)} {oc__law_drawn_form kV__law_drawn_form dc__law_drawn_form pm__law_drawn_form cd__law_drawn_form ct__law_drawn_form : Value} (a__law_drawn_form : PySem.W.nsIn K mainGlobals "_law_drawn_form" = some (some (.ref f__law_drawn_form))) (l__law_drawn_form : K.lookup f__law_drawn_form = some ⟨oc__law_drawn_form, od__law_drawn_form, .func (PySem.W.fnOf "_law_drawn_form" "_law_drawn_form" (defArgs s__law_drawn_form) (defBody s__law_drawn_form) (defScope s__law_drawn_form) .none kV__law_drawn_form dc__law_drawn_form pm__law_drawn_form an__law_drawn_form cd__law_drawn_form ct__law_drawn_form), sl__law_drawn_form⟩) (c__law_drawn_form : PySem.W.codeIn K cd__law_drawn_form "_law_drawn_form" = true) (k__law_drawn_form : PySem.W.keepIn K (.ref f__law_drawn_form) = true)
    {od__law_is_above an__law_is_above : Option Addr} {sl__law_is_above : Array (Option Value)} {oc__law_is_above kV__law_is_above dc__law_is_above pm__law_is_above cd__law_is_above ct__law_is_above : Value} (a__law_is_above : PySem.W.nsIn K mainGlobals "_law_is_above" = some (some (.ref f__law_is_above))) (l__law_is_above : K.lookup f__law_is_above = some ⟨oc__law_is_above, od__law_is_above, .func (PySem.W.fnOf "_law_is_above" "_law_is_above" (defArgs s__law_is_above) (defBody s__law_is_above) (defScope s__law_is_above) .none kV__law_is_above dc__law_is_above pm__law_is_above an__law_is_above cd__law_is_above ct__law_is_above), sl__law_is_above⟩) (c__law_is_above : PySem.W.codeIn K cd__law_is_above "_law_is_above" = true) (k__law_is_above : PySem.W.keepIn K (.ref f__law_is_above) = true)
    {od__law_reduced an__law_reduced : Option Addr} {sl__law_reduced : Array (Option Value)} {oc__law_reduced kV__law_reduced dc__law_reduced pm__law_reduced cd__law_reduced ct__law_reduced : Value} (a__law_reduced : PySem.W.nsIn K mainGlobals "_law_reduced" = some (some (.ref f__law_reduced))) (l__law_reduced : K.lookup f__law_reduced = some ⟨oc__law_reduced, od__law_reduced, .func (PySem.W.fnOf "_law_reduced" "_law_reduced" (defArgs s__law_reduced) (defBody s__law_reduced) (defScope s__law_reduced) .none kV__law_reduced dc__law_reduced pm__law_reduced an__law_reduced cd__law_reduced ct__law_reduced), sl__law_reduced⟩) (c__law_reduced : PySem.W.codeIn K cd__law_reduced "_law_reduced" = true) (k__law_reduced : PySem.W.keepIn K (.ref f__law_reduced) = true)
    {od__law_basis an__law_basis : Option Addr} {sl__law_basis : Array (Option Value)} {oc__law_basis kV__law_basis dc__law_basis pm__law_basis cd__law_basis ct__law_basis : Value} (a__law_basis : PySem.W.nsIn K mainGlobals "_law_basis" = some (some (.ref f__law_basis))) (l__law_basis : K.lookup f__law_basis = some ⟨oc__law_basis, od__law_basis, .func (PySem.W.fnOf "_law_basis" "_law_basis" (defArgs s__law_basis) (defBody s__law_basis) (defScope s__law_basis) .none kV__law_basis dc__law_basis pm__law_basis an__law_basis cd__law_basis ct__law_basis), sl__law_basis⟩) (c__law_basis : PySem.W.codeIn K cd__law_basis "_law_basis" = true) (k__law_basis : PySem.W.keepIn K (.ref f__law_basis) = true)
    {od__law_copy an__law_copy : Option Addr} {sl__law_copy : Array (Option Value)} {oc__law_copy kV__law_copy dc__law_copy pm__law_copy cd__law_copy ct__law_copy : Value} (a__law_copy : PySem.W.nsIn K mainGlobals "_law_copy" = some (some (.ref f__law_copy))) (l__law_copy : K.lookup f__law_copy = some ⟨oc__law_copy, od__law_copy, .func (PySem.W.fnOf "_law_copy" "_law_copy" (defArgs s__law_copy) (defBody s__law_copy) (defScope s__law_copy) .none kV__law_copy dc__law_copy pm__law_copy an__law_copy cd__law_copy ct__law_copy), sl__law_copy⟩) (c__law_copy : PySem.W.codeIn K cd__law_copy "_law_copy" = true) (k__law_copy : PySem.W.keepIn K (.ref f__law_copy) = true)
    {od__law_kind an__law_kind : Option Addr} {sl__law_kind : Array (Option Value)} {oc__law_kind kV__law_kind dc__law_kind pm__law_kind cd__law_kind ct__law_kind : Value} (a__law_kind : PySem.W.nsIn K mainGlobals "_law_kind" = some (some (.ref f__law_kind))) (l__law_kind : K.lookup f__law_kind = some ⟨oc__law_kind, od__law_kind, .func (PySem.W.fnOf "_law_kind" "_law_kind" (defArgs s__law_kind) (defBody s__law_kind) (defScope s__law_kind) .none kV__law_kind dc__law_kind pm__law_kind an__law_kind cd__law_kind ct__law_kind), sl__law_kind⟩) (c__law_kind : PySem.W.codeIn K cd__law_kind "_law_kind" = true) (k__law_kind : PySem.W.keepIn K (.ref f__law_kind) = true)
    {od__law_odd_form an__law_odd_form : Option Addr} {sl__law_odd_form : Array (Option Value)} {oc__law_odd_form kV__law_odd_form dc__law_odd_form pm__law_odd_form cd__law_odd_form ct__law_odd_form : Value} (a__law_odd_form : PySem.W.nsIn K mainGlobals "_law_odd_form" = some (some (.ref f__law_odd_form))) (l__law_odd_form : K.lookup f__law_odd_form = some ⟨oc__law_odd_form, od__law_odd_form, .func (PySem.W.fnOf "_law_odd_form" "_law_odd_form" (defArgs s__law_odd_form) (defBody s__law_odd_form) (defScope s__law_odd_form) .none kV__law_odd_form dc__law_odd_form pm__law_odd_form an__law_odd_form cd__law_odd_form ct__law_odd_form), sl__law_odd_form⟩) (c__law_odd_form : PySem.W.codeIn K cd__law_odd_form "_law_odd_form" = true) (k__law_odd_form : PySem.W.keepIn K (.ref f__law_odd_form) = true)
    {od__law_great_form an__law_great_form : Option Addr} {sl__law_great_form : Array (Option Value)} {oc__law_great_form kV__law_great_form dc__law_great_form pm__law_great_form cd__law_great_form ct__law_great_form : Value} (a__law_great_form : PySem.W.nsIn K mainGlobals "_law_great_form" = some (some (.ref f__law_great_form))) (l__law_great_form : K.lookup f__law_great_form = some ⟨oc__law_great_form, od__law_great_form, .func (PySem.W.fnOf "_law_great_form" "_law_great_form" (defArgs s__law_great_form) (defBody s__law_great_form) (defScope s__law_great_form) .none kV__law_great_form dc__law_great_form pm__law_great_form an__law_great_form cd__law_great_form ct__law_great_form), sl__law_great_form⟩) (c__law_great_form : PySem.W.codeIn K cd__law_great_form "_law_great_form" = true) (k__law_great_form : PySem.W.keepIn K (.ref f__law_great_form) = true)
    {od__law_asked an__law_asked : Option Addr} {sl__law_asked : Array (Option Value)} {oc__law_asked kV__law_asked dc__law_asked pm__law_asked cd__law_asked ct__law_asked : Value} (a__law_asked : PySem.W.nsIn K mainGlobals "_law_asked" = some (some (.ref f__law_asked))) (l__law_asked : K.lookup f__law_asked = some ⟨oc__law_asked, od__law_asked, .func (PySem.W.fnOf "_law_asked" "_law_asked" (defArgs s__law_asked) (defBody s__law_asked) (defScope s__law_asked) .none kV__law_asked dc__law_asked pm__law_asked an__law_asked cd__law_asked ct__law_asked), sl__law_asked⟩) (c__law_asked : PySem.W.codeIn K cd__law_asked "_law_asked" = true) (k__law_asked : PySem.W.keepIn K (.ref f__law_asked) = true)
    {od_law an_law : Option Addr} {sl_law : Array (Option Value)} {oc_law kV_law dc_law pm_law cd_law ct_law : Value} (a_law : PySem.W.nsIn K mainGlobals "law" = some (some (.ref f_law))) (l_law : K.lookup f_law = some ⟨oc_law, od_law, .func (PySem.W.fnOf "law" "law" (defArgs s_law) (defBody s_law) (defScope s_law) .none kV_law dc_law pm_law an_law cd_law ct_law), sl_law⟩) (c_law : PySem.W.codeIn K cd_law "law" = true) (k_law : PySem.W.keepIn K (.ref f_law) = true)
    {d_is_row : DefRec} (r_is_row : (PyProof.Rows.recsOf q).find? (fun e => e.name == ("is_row" : Str)) = some d_is_row)
    {d_is_table : DefRec} (r_is_table : (PyProof.Rows.recsOf q).find? (fun e => e.name == ("is_table" : Str)) = some d_is_table)
    {d_is_even_table : DefRec} (r_is_even_table : (PyProof.Rows.recsOf q).find? (fun e => e.name == ("is_even_table" : Str)) = some d_is_even_table)
    (y_range : PySem.W.nsIn K mainGlobals "range" = some none)
    (y_isinstance : PySem.W.nsIn K mainGlobals "isinstance" = some none)
    (y_int : PySem.W.nsIn K mainGlobals "int" = some none)
    (y_bool : PySem.W.nsIn K mainGlobals "bool" = some none)
    (y_list : PySem.W.nsIn K mainGlobals "list" = some none)
    (y_len : PySem.W.nsIn K mainGlobals "len" = some none)
    (y_all : PySem.W.nsIn K mainGlobals "all" = some none)
    {t_GREATEST_HALF : _} (y_GREATEST_HALF : PySem.W.nsIn K mainGlobals "GREATEST_HALF" = some (some (Value.int 200 t_GREATEST_HALF)))
    (y_abs : PySem.W.nsIn K mainGlobals "abs" = some none)
    (y_zip : PySem.W.nsIn K mainGlobals "zip" = some none)
    {a_LETTERS : Addr} {od_LETTERS : Option Addr} {n_LETTERS : Nat} {sl_LETTERS : Array (Option Value)} {t_LETTERS_0 t_LETTERS_1 t_LETTERS_2 t_LETTERS_3 t_LETTERS_4 t_LETTERS_5 : _} (y_LETTERS : PySem.W.nsIn K mainGlobals "LETTERS" = some (some (Value.ref a_LETTERS))) (yl_LETTERS : K.lookup a_LETTERS = some ⟨.type "tuple", od_LETTERS, .seq #[.str "xx" t_LETTERS_0, .str "yy" t_LETTERS_1, .str "zz" t_LETTERS_2, .str "xy" t_LETTERS_3, .str "xz" t_LETTERS_4, .str "yz" t_LETTERS_5] n_LETTERS, sl_LETTERS⟩)
    (y_ValueError : PySem.W.nsIn K mainGlobals "ValueError" = some none)
    (y_tuple : PySem.W.nsIn K mainGlobals "tuple" = some none)
    (y_str : PySem.W.nsIn K mainGlobals "str" = some none)
    (y_max : PySem.W.nsIn K mainGlobals "max" = some none)
    (y_min : PySem.W.nsIn K mainGlobals "min" = some none)
    {c_KinError : Addr} (ca_KinError : PySem.W.nsIn K mainGlobals "KinError" = some (some (.ref c_KinError)))
    {c_NoBasis : Addr} (ca_NoBasis : PySem.W.nsIn K mainGlobals "NoBasis" = some (some (.ref c_NoBasis)))
    {c_NoForm : Addr} (ca_NoForm : PySem.W.nsIn K mainGlobals "NoForm" = some (some (.ref c_NoForm)))
    {c_TooGreat : Addr} (ca_TooGreat : PySem.W.nsIn K mainGlobals "TooGreat" = some (some (.ref c_TooGreat)))
    {c_NoWorth : Addr} (ca_NoWorth : PySem.W.nsIn K mainGlobals "NoWorth" = some (some (.ref c_NoWorth)))
    {c_NoPrime : Addr} (ca_NoPrime : PySem.W.nsIn K mainGlobals "NoPrime" = some (some (.ref c_NoPrime)))
    {c_NoLine : Addr} (ca_NoLine : PySem.W.nsIn K mainGlobals "NoLine" = some (some (.ref c_NoLine)))
    {c_NoStep : Addr} (ca_NoStep : PySem.W.nsIn K mainGlobals "NoStep" = some (some (.ref c_NoStep)))
    {c_NoText : Addr} (ca_NoText : PySem.W.nsIn K mainGlobals "NoText" = some (some (.ref c_NoText)))
    {c_NoRow : Addr} (ca_NoRow : PySem.W.nsIn K mainGlobals "NoRow" = some (some (.ref c_NoRow)))
    {c_NoName : Addr} (ca_NoName : PySem.W.nsIn K mainGlobals "NoName" = some (some (.ref c_NoName)))
    (xp : excsIn K c_KinError [c_NoBasis, c_NoForm, c_TooGreat, c_NoWorth, c_NoPrime, c_NoLine, c_NoStep, c_NoText, c_NoRow, c_NoName] = true)
    : ∃ (fd : FuncData) (tabs : List Addr), (∀ (s : Shared) (v : Value), BindsTo s fd ⟨[v], []⟩ [("_law_script", v)]) ∧ (∀ T ∈ tabs, isCodeTable h T ∧ h.get? T = some { cls := .none, data := .fields #[] }) ∧ ∀ base : Heap, K.In base → base.Ns mainGlobals mg → BM mg base → FnOk l.prog w K mg base CX0 40 fa fd ["_law_script"] (spLaw K tabs) := by
  have G := Tp.g
  have e := hfa.symm.trans (PySem.W.mg_of X G a_law)
  cases e
  have m_turned_over := PySem.W.mg_of X G a_turned_over
  have m_signed_minor := PySem.W.mg_of X G a_signed_minor
  have m_determinant := PySem.W.mg_of X G a_determinant
  have m_cover := PySem.W.mg_of X G a_cover
  have m_low_row := PySem.W.mg_of X G a_low_row
  have m_is_whole := PySem.W.mg_of X G a_is_whole
  have m_is_row := PySem.W.mg_of X G a_is_row
  have m_is_table := PySem.W.mg_of X G a_is_table
  have m_is_even_table := PySem.W.mg_of X G a_is_even_table
  have m_is_form := PySem.W.mg_of X G a_is_form
  have m_half := PySem.W.mg_of X G a_half
  have m_numbers_of := PySem.W.mg_of X G a_numbers_of
  have m_term := PySem.W.mg_of X G a_term
  have m_show := PySem.W.mg_of X G a_show
  have m__law_bag := PySem.W.mg_of X G a__law_bag
  have m__law_take := PySem.W.mg_of X G a__law_take
  have m__law_determinant := PySem.W.mg_of X G a__law_determinant
  have m__law_pairing := PySem.W.mg_of X G a__law_pairing
  have m__law_carried := PySem.W.mg_of X G a__law_carried
  have m__law_drawn_form := PySem.W.mg_of X G a__law_drawn_form
  have m__law_is_above := PySem.W.mg_of X G a__law_is_above
  have m__law_reduced := PySem.W.mg_of X G a__law_reduced
  have m__law_basis := PySem.W.mg_of X G a__law_basis
  have m__law_copy := PySem.W.mg_of X G a__law_copy
  have m__law_kind := PySem.W.mg_of X G a__law_kind
  have m__law_odd_form := PySem.W.mg_of X G a__law_odd_form
  have m__law_great_form := PySem.W.mg_of X G a__law_great_form
  have m__law_asked := PySem.W.mg_of X G a__law_asked
  have m_law := PySem.W.mg_of X G a_law
  obtain ⟨T_is_row, cA_is_row, cT_is_row, cE_is_row⟩ := tab_of_top Tp r_is_row X m_is_row l_is_row (show PySem.W.codeIn K (PySem.W.fnOf "is_row" "is_row" (defArgs s_is_row) (defBody s_is_row) (defScope s_is_row) .none kV_is_row dc_is_row pm_is_row an_is_row cd_is_row ct_is_row).code "is_row" = true from c_is_row)
  obtain ⟨T_is_table, cA_is_table, cT_is_table, cE_is_table⟩ := tab_of_top Tp r_is_table X m_is_table l_is_table (show PySem.W.codeIn K (PySem.W.fnOf "is_table" "is_table" (defArgs s_is_table) (defBody s_is_table) (defScope s_is_table) .none kV_is_table dc_is_table pm_is_table an_is_table cd_is_table ct_is_table).code "is_table" = true from c_is_table)
  obtain ⟨T_is_even_table, cA_is_even_table, cT_is_even_table, cE_is_even_table⟩ := tab_of_top Tp r_is_even_table X m_is_even_table l_is_even_table (show PySem.W.codeIn K (PySem.W.fnOf "is_even_table" "is_even_table" (defArgs s_is_even_table) (defBody s_is_even_table) (defScope s_is_even_table) .none kV_is_even_table dc_is_even_table pm_is_even_table an_is_even_table cd_is_even_table ct_is_even_table).code "is_even_table" = true from c_is_even_table)
  have F_turned_over := fun_mk (st := s_turned_over) l_turned_over c_turned_over k_turned_over
  have b_turned_over := F_turned_over.binds (ps := ["table"]) fun _ _ _ _ _ _ us hl => match us, hl with | [_], _ => rfl
  have F_signed_minor := fun_mk (st := s_signed_minor) l_signed_minor c_signed_minor k_signed_minor
  have b_signed_minor := F_signed_minor.binds (ps := ["table", "i", "j"]) fun _ _ _ _ _ _ us hl => match us, hl with | [_, _, _], _ => rfl
  have F_determinant := fun_mk (st := s_determinant) l_determinant c_determinant k_determinant
  have b_determinant := F_determinant.binds (ps := ["table"]) fun _ _ _ _ _ _ us hl => match us, hl with | [_], _ => rfl
  have F_cover := fun_mk (st := s_cover) l_cover c_cover k_cover
  have b_cover := F_cover.binds (ps := ["table"]) fun _ _ _ _ _ _ us hl => match us, hl with | [_], _ => rfl
  have F_low_row := fun_mk (st := s_low_row) l_low_row c_low_row k_low_row
  have b_low_row := F_low_row.binds (ps := ["table"]) fun _ _ _ _ _ _ us hl => match us, hl with | [_], _ => rfl
  have F_is_whole := fun_mk (st := s_is_whole) l_is_whole c_is_whole k_is_whole
  have b_is_whole := F_is_whole.binds (ps := ["thing"]) fun _ _ _ _ _ _ us hl => match us, hl with | [_], _ => rfl
  have F_is_row : FunT K "is_row" "is_row" s_is_row f_is_row _ T_is_row := ⟨⟨oc_is_row, od_is_row, kV_is_row, dc_is_row, pm_is_row, an_is_row, cd_is_row, ct_is_row, sl_is_row, rfl, l_is_row, c_is_row, cA_is_row⟩, k_is_row⟩
  have b_is_row := F_is_row.fn.binds (ps := ["thing"]) fun _ _ _ _ _ _ us hl => match us, hl with | [_], _ => rfl
  have F_is_table : FunT K "is_table" "is_table" s_is_table f_is_table _ T_is_table := ⟨⟨oc_is_table, od_is_table, kV_is_table, dc_is_table, pm_is_table, an_is_table, cd_is_table, ct_is_table, sl_is_table, rfl, l_is_table, c_is_table, cA_is_table⟩, k_is_table⟩
  have b_is_table := F_is_table.fn.binds (ps := ["thing"]) fun _ _ _ _ _ _ us hl => match us, hl with | [_], _ => rfl
  have F_is_even_table : FunT K "is_even_table" "is_even_table" s_is_even_table f_is_even_table _ T_is_even_table := ⟨⟨oc_is_even_table, od_is_even_table, kV_is_even_table, dc_is_even_table, pm_is_even_table, an_is_even_table, cd_is_even_table, ct_is_even_table, sl_is_even_table, rfl, l_is_even_table, c_is_even_table, cA_is_even_table⟩, k_is_even_table⟩
  have b_is_even_table := F_is_even_table.fn.binds (ps := ["thing"]) fun _ _ _ _ _ _ us hl => match us, hl with | [_], _ => rfl
  have F_is_form := fun_mk (st := s_is_form) l_is_form c_is_form k_is_form
  have b_is_form := F_is_form.binds (ps := ["thing"]) fun _ _ _ _ _ _ us hl => match us, hl with | [_], _ => rfl
  have F_half := fun_mk (st := s_half) l_half c_half k_half
  have b_half := F_half.binds (ps := ["form"]) fun _ _ _ _ _ _ us hl => match us, hl with | [_], _ => rfl
  have F_numbers_of := fun_mk (st := s_numbers_of) l_numbers_of c_numbers_of k_numbers_of
  have b_numbers_of := F_numbers_of.binds (ps := ["form"]) fun _ _ _ _ _ _ us hl => match us, hl with | [_], _ => rfl
  have F_term := fun_mk (st := s_term) l_term c_term k_term
  have b_term := F_term.binds (ps := ["number", "letters"]) fun _ _ _ _ _ _ us hl => match us, hl with | [_, _], _ => rfl
  have F_show := fun_mk (st := s_show) l_show c_show k_show
  have b_show := F_show.binds (ps := ["form"]) fun _ _ _ _ _ _ us hl => match us, hl with | [_], _ => rfl
  have F__law_bag := fun_mk (st := s__law_bag) l__law_bag c__law_bag k__law_bag
  have b__law_bag := F__law_bag.binds (ps := ["_law_script", "_law_at"]) fun _ _ _ _ _ _ us hl => match us, hl with | [_, _], _ => rfl
  have F__law_take := fun_mk (st := s__law_take) l__law_take c__law_take k__law_take
  have b__law_take := F__law_take.binds (ps := ["_law_bag_here", "_law_many"]) fun _ _ _ _ _ _ us hl => match us, hl with | [_, _], _ => rfl
  have F__law_determinant := fun_mk (st := s__law_determinant) l__law_determinant c__law_determinant k__law_determinant
  have b__law_determinant := F__law_determinant.binds (ps := ["_law_t"]) fun _ _ _ _ _ _ us hl => match us, hl with | [_], _ => rfl
  have F__law_pairing := fun_mk (st := s__law_pairing) l__law_pairing c__law_pairing k__law_pairing
  have b__law_pairing := F__law_pairing.binds (ps := ["_law_form", "_law_one", "_law_other"]) fun _ _ _ _ _ _ us hl => match us, hl with | [_, _, _], _ => rfl
  have F__law_carried := fun_mk (st := s__law_carried) l__law_carried c__law_carried k__law_carried
  have b__law_carried := F__law_carried.binds (ps := ["_law_form", "_law_by"]) fun _ _ _ _ _ _ us hl => match us, hl with | [_, _], _ => rfl
  have F__law_drawn_form := fun_mk (st := s__law_drawn_form) l__law_drawn_form c__law_drawn_form k__law_drawn_form
  have b__law_drawn_form := F__law_drawn_form.binds (ps := ["_law_bag_here"]) fun _ _ _ _ _ _ us hl => match us, hl with | [_], _ => rfl
  have F__law_is_above := fun_mk (st := s__law_is_above) l__law_is_above c__law_is_above k__law_is_above
  have b__law_is_above := F__law_is_above.binds (ps := ["_law_form"]) fun _ _ _ _ _ _ us hl => match us, hl with | [_], _ => rfl
  have F__law_reduced := fun_mk (st := s__law_reduced) l__law_reduced c__law_reduced k__law_reduced
  have b__law_reduced := F__law_reduced.binds (ps := ["_law_bag_here", "_law_most"]) fun _ _ _ _ _ _ us hl => match us, hl with | [_, _], _ => rfl
  have F__law_basis := fun_mk (st := s__law_basis) l__law_basis c__law_basis k__law_basis
  have b__law_basis := F__law_basis.binds (ps := ["_law_bag_here", "_law_far"]) fun _ _ _ _ _ _ us hl => match us, hl with | [_, _], _ => rfl
  have F__law_copy := fun_mk (st := s__law_copy) l__law_copy c__law_copy k__law_copy
  have b__law_copy := F__law_copy.binds (ps := ["_law_table"]) fun _ _ _ _ _ _ us hl => match us, hl with | [_], _ => rfl
  have F__law_kind := fun_mk (st := s__law_kind) l__law_kind c__law_kind k__law_kind
  have b__law_kind := F__law_kind.binds (ps := ["_law_e"]) fun _ _ _ _ _ _ us hl => match us, hl with | [_], _ => rfl
  have F__law_odd_form := fun_mk (st := s__law_odd_form) l__law_odd_form c__law_odd_form k__law_odd_form
  have b__law_odd_form := F__law_odd_form.binds (ps := ["_law_bag_here", "_law_form"]) fun _ _ _ _ _ _ us hl => match us, hl with | [_, _], _ => rfl
  have F__law_great_form := fun_mk (st := s__law_great_form) l__law_great_form c__law_great_form k__law_great_form
  have b__law_great_form := F__law_great_form.binds (ps := ["_law_bag_here", "_law_most"]) fun _ _ _ _ _ _ us hl => match us, hl with | [_, _], _ => rfl
  have F__law_asked := fun_mk (st := s__law_asked) l__law_asked c__law_asked k__law_asked
  have b__law_asked := F__law_asked.binds (ps := ["_law_form"]) fun _ _ _ _ _ _ us hl => match us, hl with | [_], _ => rfl
  have F_law := fun_mk (st := s_law) l_law c_law k_law
  have z_range := PySem.W.mg_none_of X G y_range
  have z_isinstance := PySem.W.mg_none_of X G y_isinstance
  have z_int := PySem.W.mg_none_of X G y_int
  have z_bool := PySem.W.mg_none_of X G y_bool
  have z_list := PySem.W.mg_none_of X G y_list
  have z_len := PySem.W.mg_none_of X G y_len
  have z_all := PySem.W.mg_none_of X G y_all
  have m_GREATEST_HALF := PySem.W.mg_of X G y_GREATEST_HALF
  have z_abs := PySem.W.mg_none_of X G y_abs
  have z_zip := PySem.W.mg_none_of X G y_zip
  have m_LETTERS := PySem.W.mg_of X G y_LETTERS
  have q_LETTERS : ∀ H : Hp, SqT K H a_LETTERS [.str "xx", .str "yy", .str "zz", .str "xy", .str "xz", .str "yz"] := fun H => .inr ⟨_, _, _, yl_LETTERS, rfl, rfl, (by show 6 ≤ sizeLine; decide), (.cons ⟨_, rfl⟩ (.cons ⟨_, rfl⟩ (.cons ⟨_, rfl⟩ (.cons ⟨_, rfl⟩ (.cons ⟨_, rfl⟩ (.cons ⟨_, rfl⟩ .nil))))))⟩
  have z_ValueError := PySem.W.mg_none_of X G y_ValueError
  have z_tuple := PySem.W.mg_none_of X G y_tuple
  have z_str := PySem.W.mg_none_of X G y_str
  have z_max := PySem.W.mg_none_of X G y_max
  have z_min := PySem.W.mg_none_of X G y_min
  refine ⟨PySem.W.fnOf "law" "law" (defArgs s_law) (defBody s_law) (defScope s_law) .none kV_law dc_law pm_law an_law cd_law ct_law, [T_is_row, T_is_table, T_is_even_table], fun s v => .of_eq rfl, fun T hT => ?_, fun base kin _ bm => ?_⟩
  · simp only [List.mem_cons, List.not_mem_nil, or_false] at hT
    rcases hT with rfl | rfl | rfl
    · exact ⟨cT_is_row, cE_is_row⟩
    · exact ⟨cT_is_table, cE_is_table⟩
    · exact ⟨cT_is_even_table, cE_is_even_table⟩
  have XC := excs_of xp
  have m_KinError := PySem.W.mg_of X G ca_KinError
  have m_NoBasis := PySem.W.mg_of X G ca_NoBasis
  have m_NoForm := PySem.W.mg_of X G ca_NoForm
  have m_TooGreat := PySem.W.mg_of X G ca_TooGreat
  have m_NoWorth := PySem.W.mg_of X G ca_NoWorth
  have m_NoPrime := PySem.W.mg_of X G ca_NoPrime
  have m_NoLine := PySem.W.mg_of X G ca_NoLine
  have m_NoStep := PySem.W.mg_of X G ca_NoStep
  have m_NoText := PySem.W.mg_of X G ca_NoText
  have m_NoRow := PySem.W.mg_of X G ca_NoRow
  have m_NoName := PySem.W.mg_of X G ca_NoName
  have o_NoBasis := own_at kin m_NoBasis (XC.at 0 rfl).exc
  have o_NoForm := own_at kin m_NoForm (XC.at 1 rfl).exc
  have o_TooGreat := own_at kin m_TooGreat (XC.at 2 rfl).exc
  have o_NoWorth := own_at kin m_NoWorth (XC.at 3 rfl).exc
  have o_NoPrime := own_at kin m_NoPrime (XC.at 4 rfl).exc
  have o_NoLine := own_at kin m_NoLine (XC.at 5 rfl).exc
  have o_NoStep := own_at kin m_NoStep (XC.at 6 rfl).exc
  have o_NoText := own_at kin m_NoText (XC.at 7 rfl).exc
  have o_NoRow := own_at kin m_NoRow (XC.at 8 rfl).exc
  have o_NoName := own_at kin m_NoName (XC.at 9 rfl).exc
  have G_turned_over := ok_turned_over (P := l.prog) (w := w) (mg := mg) (base := base) F_turned_over z_range 
  have G_signed_minor := ok_signed_minor (P := l.prog) (w := w) (mg := mg) (base := base) F_signed_minor 
  have G_determinant := ok_determinant (P := l.prog) (w := w) (mg := mg) (base := base) F_determinant 
  have G_cover := ok_cover (P := l.prog) (w := w) (mg := mg) (base := base) F_cover z_range (G_signed_minor.mono (by decide)) b_signed_minor k_signed_minor m_signed_minor 
  have G_low_row := ok_low_row (P := l.prog) (w := w) (mg := mg) (base := base) F_low_row (G_determinant.mono (by decide)) b_determinant k_determinant m_determinant (G_cover.mono (by decide)) b_cover k_cover m_cover 
  have G_is_whole := ok_is_whole (P := l.prog) (w := w) (mg := mg) (base := base) F_is_whole z_isinstance z_int z_bool 
  have G_is_row := ok_is_row (P := l.prog) (w := w) (mg := mg) (base := base) F_is_row bm z_isinstance z_list z_len z_all (G_is_whole.mono (by decide)) b_is_whole k_is_whole m_is_whole 
  have G_is_table := ok_is_table (P := l.prog) (w := w) (mg := mg) (base := base) F_is_table bm z_isinstance z_list z_len z_all (G_is_row.mono (by decide)) b_is_row k_is_row m_is_row 
  have G_is_even_table := ok_is_even_table (P := l.prog) (w := w) (mg := mg) (base := base) F_is_even_table bm z_all z_range (G_is_table.mono (by decide)) b_is_table k_is_table m_is_table (G_turned_over.mono (by decide)) b_turned_over k_turned_over m_turned_over 
  have G_is_form := ok_is_form (P := l.prog) (w := w) (mg := mg) (base := base) F_is_form (G_is_even_table.mono (by decide)) b_is_even_table k_is_even_table m_is_even_table (G_low_row.mono (by decide)) b_low_row k_low_row m_low_row 
  have G_half := ok_half (P := l.prog) (w := w) (mg := mg) (base := base) F_half m_GREATEST_HALF m_NoForm o_NoForm m_TooGreat o_TooGreat (G_is_form.mono (by decide)) b_is_form k_is_form m_is_form (G_determinant.mono (by decide)) b_determinant k_determinant m_determinant 
  have G_numbers_of := ok_numbers_of (P := l.prog) (w := w) (mg := mg) (base := base) F_numbers_of z_range 
  have G_term := ok_term (P := l.prog) (w := w) (mg := mg) (base := base) F_term z_abs 
  have G_show := ok_show (P := l.prog) (w := w) (mg := mg) (base := base) F_show z_zip m_LETTERS q_LETTERS (G_half.mono (by decide)) b_half k_half m_half (G_numbers_of.mono (by decide)) b_numbers_of k_numbers_of m_numbers_of (G_term.mono (by decide)) b_term k_term m_term 
  have G__law_bag := ok__law_bag (P := l.prog) (w := w) (mg := mg) (base := base) F__law_bag z_len z_abs 
  have G__law_take := ok__law_take (P := l.prog) (w := w) (mg := mg) (base := base) F__law_take 
  have G__law_determinant := ok__law_determinant (P := l.prog) (w := w) (mg := mg) (base := base) F__law_determinant 
  have G__law_pairing := ok__law_pairing (P := l.prog) (w := w) (mg := mg) (base := base) F__law_pairing z_range 
  have G__law_carried := ok__law_carried (P := l.prog) (w := w) (mg := mg) (base := base) F__law_carried (G__law_pairing.mono (by decide)) b__law_pairing k__law_pairing m__law_pairing 
  have G__law_drawn_form := ok__law_drawn_form (P := l.prog) (w := w) (mg := mg) (base := base) F__law_drawn_form (G__law_take.mono (by decide)) b__law_take k__law_take m__law_take 
  have G__law_is_above := ok__law_is_above (P := l.prog) (w := w) (mg := mg) (base := base) F__law_is_above (G__law_determinant.mono (by decide)) b__law_determinant k__law_determinant m__law_determinant 
  have G__law_reduced := ok__law_reduced (P := l.prog) (w := w) (mg := mg) (base := base) F__law_reduced z_range (G__law_drawn_form.mono (by decide)) b__law_drawn_form k__law_drawn_form m__law_drawn_form (G__law_is_above.mono (by decide)) b__law_is_above k__law_is_above m__law_is_above (G__law_determinant.mono (by decide)) b__law_determinant k__law_determinant m__law_determinant (G__law_take.mono (by decide)) b__law_take k__law_take m__law_take 
  have G__law_basis := ok__law_basis (P := l.prog) (w := w) (mg := mg) (base := base) F__law_basis z_range z_zip z_int (G__law_take.mono (by decide)) b__law_take k__law_take m__law_take 
  have G__law_copy := ok__law_copy (P := l.prog) (w := w) (mg := mg) (base := base) F__law_copy z_list 
  have G__law_kind := ok__law_kind (P := l.prog) (w := w) (mg := mg) (base := base) F__law_kind z_isinstance z_ValueError XC m_NoBasis m_NoForm m_TooGreat m_NoWorth m_NoPrime m_NoLine m_NoStep m_NoText m_NoRow m_NoName 
  have G__law_odd_form := ok__law_odd_form (P := l.prog) (w := w) (mg := mg) (base := base) F__law_odd_form z_tuple (G__law_take.mono (by decide)) b__law_take k__law_take m__law_take (G__law_copy.mono (by decide)) b__law_copy k__law_copy m__law_copy 
  have G__law_great_form := ok__law_great_form (P := l.prog) (w := w) (mg := mg) (base := base) F__law_great_form (G__law_take.mono (by decide)) b__law_take k__law_take m__law_take (G__law_carried.mono (by decide)) b__law_carried k__law_carried m__law_carried (G__law_basis.mono (by decide)) b__law_basis k__law_basis m__law_basis 
  have G__law_asked := ok__law_asked (P := l.prog) (w := w) (mg := mg) (base := base) F__law_asked m_KinError XC z_isinstance z_int z_str (G_show.mono (by decide)) b_show k_show m_show (G__law_kind.mono (by decide)) b__law_kind k__law_kind m__law_kind 
  exact (ok_law (P := l.prog) (w := w) (mg := mg) (base := base) (tabs := [T_is_row, T_is_table, T_is_even_table]) (T_is_row := T_is_row) (by simp) (T_is_table := T_is_table) (by simp) (T_is_even_table := T_is_even_table) (by simp) F_law z_range z_max z_min z_len (G__law_bag.mono (by decide)) b__law_bag k__law_bag m__law_bag (G__law_reduced.mono (by decide)) b__law_reduced k__law_reduced m__law_reduced (G__law_odd_form.mono (by decide)) b__law_odd_form k__law_odd_form m__law_odd_form (G__law_asked.mono (by decide)) b__law_asked k__law_asked m__law_asked (G__law_great_form.mono (by decide)) b__law_great_form k__law_great_form m__law_great_form ).mono (by decide)
theorem walk {l : PySem.W.OpenLaw} {q : Program} {loose : List Str} {XP : (Str → Option Value) → Heap → Prop} {YP : World → Heap → Prop} {d : DefRec} {K : Params → PySem.W.Frag} (hn : l.most = some 63) (hdf : d.params.defaults = [])
    (hY : ∀ (w : World) (h : Heap), YP w h → (K w.params).In h) (hcl : ∀ (w : World), PySem.W.kb_classed (K w.params) = true)
    (F : ∀ (w : World) (mg mb : Str → Option Value) (mean : ExcName → Option Value) (fa : Addr) (h : Heap), (K w.params).In h → PyProof.Rows.Top q (PySem.W.looseW q loose) mean mg mb h → mg d.name = some (.ref fa) →
      ∃ (fd : FuncData) (tabs : List Addr), (∀ (s : Shared) (u : Value), BindsTo s fd ⟨[u], []⟩ [("_law_script", u)]) ∧ (∀ T ∈ tabs, isCodeTable h T ∧ h.get? T = some { cls := .none, data := .fields #[] }) ∧
        ∀ base : Heap, (K w.params).In base → base.Ns mainGlobals mg → BM mg base → FnOk l.prog w (K w.params) mg base CX0 40 fa fd ["_law_script"] (spLaw (K w.params) tabs)) :
    PySem.W.WalkO q loose XP YP l.row.toRowW d [] (fun f vs => PySem.call f vs) :=
  L2.walk_ofT (n := 63) (k := 40) (x := "_law_script") (sp := spLaw) hn (by decide) hdf ⟨rfl, by decide, by decide⟩ hY hcl F (fun _ tabs H a ns hl hT hS => ⟨a, ns, rfl, hS, hl, hT, fun H' s => ⟨rfl, fun T h => s _ _ (hT T h)⟩⟩)
theorem ws : PySem.W.OpenLaw.wellSaid PySem.Challenge.rw_conekin_k77_forms_not_written = true := by kernel_rfl
end CL
def PySem.W.Fast.tw12167187650304362023 : Nat := 0
def PySem.W.Fast.tw17204959816475020690 : Nat := 0
def PySem.W.Fast.tw11976023164813403173 : Nat := 0
def PySem.W.Fast.tw683897530001136550 : Nat := 0
def PySem.W.Fast.tw847797829462969333 : Nat := 0
def PySem.W.Fast.tw14058698033444112258 : Nat := 0
def PySem.W.Fast.tw6998618980937865879 : Nat := 0
def PySem.W.Fast.tw7335504839118448963 : Nat := 0
def PySem.W.Fast.tw9173371421481906280 : Nat := 0
def PySem.W.Fast.tw14103263117388537416 : Nat := 0
def PySem.W.Fast.tw11596188761799629622 : Nat := 0
def PySem.W.Fast.tw11386609269860667485 : Nat := 0
def PySem.W.Fast.tw13526922990777285546 : Nat := 0
def PySem.W.Fast.tw9254540232999829523 : Nat := 0
def PySem.W.Fast.tw11459648933121468933 : Nat := 0
def PySem.W.Fast.tw15801414018245166863 : Nat := 0
def PySem.W.Fast.tw4617168552006326829 : Nat := 0
def PySem.W.Fast.tw10999107652642358488 : Nat := 0
def PySem.W.Fast.tw6956601512754514282 : Nat := 0
def PySem.W.Fast.tw15920431376795038351 : Nat := 0
def PySem.W.Fast.tw12707615947174477327 : Nat := 0
def PySem.W.Fast.tw15026449267777227546 : Nat := 0
def PySem.W.Fast.tw7247001816679375074 : Nat := 0
def PySem.W.Fast.tw4017210781590249256 : Nat := 0
def PySem.W.Fast.tw10674071011361564626 : Nat := 0
def PySem.W.Fast.tw1595984525941980329 : Nat := 0
def PySem.W.Fast.tw7391349696774357410 : Nat := 0
def PySem.W.Fast.tw6311845537647413524 : Nat := 0
def PySem.W.Fast.tw17000545143795315755 : Nat := 0
def PySem.W.Fast.tw13485511090757257788 : Nat := 0
def PySem.W.Fast.tw643857073914272429 : Nat := 0
def PySem.W.Fast.tw2716518123326679126 : Nat := 0
def PySem.W.Fast.tw3492027406515922430 : Nat := 0
def PySem.W.Fast.tw2325530387452739203 : Nat := 0
def PySem.W.Fast.tw4924504938312114642 : Nat := 0
end
open PySem PySem.W PyProof.Rows
set_option maxRecDepth 100000 in
set_option maxHeartbeats 0 in
theorem PySem.Challenge.cw_conekin_k77_forms_not_written_holds : PySem.Challenge.rw_conekin_k77_forms_not_written.Holds := by
  w_on; refine PySem.W.holds_law CL.ws fun said => ?_; k_head; (case hw => w_witness2)
  k_fill
  refine CL.walk (l := PySem.Challenge.rw_conekin_k77_forms_not_written) rfl rfl (fun w h Y => by first | exact PySem.W.kIn_of Y | exact PySem.W.km_in_of Y) ?cl ?F
  case cl =>
    intro w
    first | kernel_rfl | (trace_state; k_is)
  case F =>
    intro w mg mb mean fa h KX Tp hmg
    refine' CL.all_mk KX Tp hmg ?a_turned_over ?l_turned_over ?c_turned_over ?k_turned_over ?a_signed_minor ?l_signed_minor ?c_signed_minor ?k_signed_minor ?a_determinant ?l_determinant ?c_determinant ?k_determinant ?a_cover ?l_cover ?c_cover ?k_cover ?a_low_row ?l_low_row ?c_low_row ?k_low_row ?a_is_whole ?l_is_whole ?c_is_whole ?k_is_whole ?a_is_row ?l_is_row ?c_is_row ?k_is_row ?a_is_table ?l_is_table ?c_is_table ?k_is_table ?a_is_even_table ?l_is_even_table ?c_is_even_table ?k_is_even_table ?a_is_form ?l_is_form ?c_is_form ?k_is_form ?a_half ?l_half ?c_half ?k_half ?a_numbers_of ?l_numbers_of ?c_numbers_of ?k_numbers_of ?a_term ?l_term ?c_term ?k_term ?a_show ?l_show ?c_show ?k_show ?a__law_bag ?l__law_bag ?c__law_bag ?k__law_bag ?a__law_take ?l__law_take ?c__law_take ?k__law_take ?a__law_determinant ?l__law_determinant ?c__law_determinant ?k__law_determinant ?a__law_pairing ?l__law_pairing ?c__law_pairing ?k__law_pairing ?a__law_carried ?l__law_carried ?c__law_carried ?k__law_carried ?a__law_drawn_form ?l__law_drawn_form ?c__law_drawn_form ?k__law_drawn_form ?a__law_is_above ?l__law_is_above ?c__law_is_above ?k__law_is_above ?a__law_reduced ?l__law_reduced ?c__law_reduced ?k__law_reduced ?a__law_basis ?l__law_basis ?c__law_basis ?k__law_basis ?a__law_copy ?l__law_copy ?c__law_copy ?k__law_copy ?a__law_kind ?l__law_kind ?c__law_kind ?k__law_kind ?a__law_odd_form ?l__law_odd_form ?c__law_odd_form ?k__law_odd_form ?a__law_great_form ?l__law_great_form ?c__law_great_form ?k__law_great_form ?a__law_asked ?l__law_asked ?c__law_asked ?k__law_asked ?a_law ?l_law ?c_law ?k_law ?r_is_row ?r_is_table ?r_is_even_table ?y_range ?y_isinstance ?y_int ?y_bool ?y_list ?y_len ?y_all ?y_GREATEST_HALF ?y_abs ?y_zip ?y_LETTERS ?yl_LETTERS ?y_ValueError ?y_tuple ?y_str ?y_max ?y_min ?ca_KinError ?ca_NoBasis ?ca_NoForm ?ca_TooGreat ?ca_NoWorth ?ca_NoPrime ?ca_NoLine ?ca_NoStep ?ca_NoText ?ca_NoRow ?ca_NoName ?xp
    (case a_turned_over => k_is); (case l_turned_over => k_is); (case c_turned_over => k_is); (case k_turned_over => k_is)
    (case a_signed_minor => k_is); (case l_signed_minor => k_is); (case c_signed_minor => k_is); (case k_signed_minor => k_is)
    (case a_determinant => k_is); (case l_determinant => k_is); (case c_determinant => k_is); (case k_determinant => k_is)
    (case a_cover => k_is); (case l_cover => k_is); (case c_cover => k_is); (case k_cover => k_is)
    (case a_low_row => k_is); (case l_low_row => k_is); (case c_low_row => k_is); (case k_low_row => k_is)
    (case a_is_whole => k_is); (case l_is_whole => k_is); (case c_is_whole => k_is); (case k_is_whole => k_is)
    (case a_is_row => k_is); (case l_is_row => k_is); (case c_is_row => k_is); (case k_is_row => k_is)
    (case a_is_table => k_is); (case l_is_table => k_is); (case c_is_table => k_is); (case k_is_table => k_is)
    (case a_is_even_table => k_is); (case l_is_even_table => k_is); (case c_is_even_table => k_is); (case k_is_even_table => k_is)
    (case a_is_form => k_is); (case l_is_form => k_is); (case c_is_form => k_is); (case k_is_form => k_is)
    (case a_half => k_is); (case l_half => k_is); (case c_half => k_is); (case k_half => k_is)
    (case a_numbers_of => k_is); (case l_numbers_of => k_is); (case c_numbers_of => k_is); (case k_numbers_of => k_is)
    (case a_term => k_is); (case l_term => k_is); (case c_term => k_is); (case k_term => k_is)
    (case a_show => k_is); (case l_show => k_is); (case c_show => k_is); (case k_show => k_is)
    (case a__law_bag => k_is); (case l__law_bag => k_is); (case c__law_bag => k_is); (case k__law_bag => k_is)
    (case a__law_take => k_is); (case l__law_take => k_is); (case c__law_take => k_is); (case k__law_take => k_is)
    (case a__law_determinant => k_is); (case l__law_determinant => k_is); (case c__law_determinant => k_is); (case k__law_determinant => k_is)
    (case a__law_pairing => k_is); (case l__law_pairing => k_is); (case c__law_pairing => k_is); (case k__law_pairing => k_is)
    (case a__law_carried => k_is); (case l__law_carried => k_is); (case c__law_carried => k_is); (case k__law_carried => k_is)
    (case a__law_drawn_form => k_is); (case l__law_drawn_form => k_is); (case c__law_drawn_form => k_is); (case k__law_drawn_form => k_is)
    (case a__law_is_above => k_is); (case l__law_is_above => k_is); (case c__law_is_above => k_is); (case k__law_is_above => k_is)
    (case a__law_reduced => k_is); (case l__law_reduced => k_is); (case c__law_reduced => k_is); (case k__law_reduced => k_is)
    (case a__law_basis => k_is); (case l__law_basis => k_is); (case c__law_basis => k_is); (case k__law_basis => k_is)
    (case a__law_copy => k_is); (case l__law_copy => k_is); (case c__law_copy => k_is); (case k__law_copy => k_is)
    (case a__law_kind => k_is); (case l__law_kind => k_is); (case c__law_kind => k_is); (case k__law_kind => k_is)
    (case a__law_odd_form => k_is); (case l__law_odd_form => k_is); (case c__law_odd_form => k_is); (case k__law_odd_form => k_is)
    (case a__law_great_form => k_is); (case l__law_great_form => k_is); (case c__law_great_form => k_is); (case k__law_great_form => k_is)
    (case a__law_asked => k_is); (case l__law_asked => k_is); (case c__law_asked => k_is); (case k__law_asked => k_is)
    (case a_law => k_is); (case l_law => k_is); (case c_law => k_is); (case k_law => k_is)
    (case r_is_row => rfl)
    (case r_is_table => rfl)
    (case r_is_even_table => rfl)
    (case y_range => k_is)
    (case y_isinstance => k_is)
    (case y_int => k_is)
    (case y_bool => k_is)
    (case y_list => k_is)
    (case y_len => k_is)
    (case y_all => k_is)
    (case y_GREATEST_HALF => k_is)
    (case y_abs => k_is)
    (case y_zip => k_is)
    (case y_LETTERS => k_is); (case yl_LETTERS => k_is)
    (case y_ValueError => k_is)
    (case y_tuple => k_is)
    (case y_str => k_is)
    (case y_max => k_is)
    (case y_min => k_is)
    (case ca_KinError => k_is)
    (case ca_NoBasis => k_is)
    (case ca_NoForm => k_is)
    (case ca_TooGreat => k_is)
    (case ca_NoWorth => k_is)
    (case ca_NoPrime => k_is)
    (case ca_NoLine => k_is)
    (case ca_NoStep => k_is)
    (case ca_NoText => k_is)
    (case ca_NoRow => k_is)
    (case ca_NoName => k_is)
    (case xp => kernel_rfl)


