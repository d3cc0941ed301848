import PyProof.Rows.All
import Wide.All
import OpenK.AllK
import Wide.FinOn
import Lean
import PyProof.EqAt
import PyProof.EqKinds
import PyProof.TupleCall
import KE.KTryMore
import OpenK.KOwn
import PyProof.ExcArgsOwn
import PyProof.RulesAs
import KE.KEqSeq
import PyProof.ConsumeWalk
import PyProof.WalksMore
import PyProof.DictCompW
import PyProof.WalksEnum
import PyProof.AttrMissHeap
import PyProof.MeetsIn
import PyProof.DictUpdate
import KE.KEqDict
import PyProof.WalkInts
import PySem.Challenge.RW_passpapers_k68_ticks
set_option Elab.async false
set_option linter.all false
set_option maxRecDepth 100000
/-! THE HAND LAYER, for ints, bools, texts, own classes, LISTS and tuples (index, slices, in, append, pop ..), calls, loops. Paste it whole ahead of your own text; what your proof does not reach may be deleted. -/
namespace L2
open PySem PySem.Spec PyProof.Rows

/-- a key: an int or a str -/
abbrev Key := Sum Int Str
def keyIs : Key → Value → Bool
  | .inl k, v => Value.isInt k v
  | .inr x, v => Value.isStrOf x v
def keyH (w : World) : Key → Int
  | .inl k => hashInt k
  | .inr x => hashStr w x
theorem keyIs_shape : ∀ {k : Key} {v : Value}, keyIs k v = true → (∃ i t, k = Sum.inl i ∧ v = Value.int i t) ∨ (∃ x t, k = Sum.inr x ∧ v = Value.str x t)
  | .inl i, v, h => by
    obtain ⟨t, e⟩ := Value.isInt_shape (k := i) (v := v) h
    exact .inl ⟨i, t, rfl, e⟩
  | .inr x, v, h => by
    obtain ⟨t, e⟩ := Value.isStrOf_shape (x := x) (v := v) h
    exact .inr ⟨x, t, rfl, e⟩
theorem keyIs_int (i : Int) (t : Tok) : keyIs (.inl i) (.int i t) = true := by simp [keyIs, Value.isInt]
theorem keyIs_str (x : Str) (t : Tok) : keyIs (.inr x) (.str x t) = true := by simp [keyIs, Value.isStrOf]
theorem key_ll (a b : Int) : decide ((Sum.inl a : Key) = Sum.inl b) = (a == b) := by
  by_cases e : a = b
  · subst e; simp
  · have h : ¬ (Sum.inl a : Key) = Sum.inl b := fun q => e (Sum.inl.inj q)
    rw [decide_eq_false h]
    exact (beq_eq_false_iff_ne.mpr e).symm
theorem key_rr (a b : Str) : decide ((Sum.inr a : Key) = Sum.inr b) = decide (a = b) := by
  by_cases e : a = b
  · subst e; simp
  · have h : ¬ (Sum.inr a : Key) = Sum.inr b := fun q => e (Sum.inr.inj q)
    rw [decide_eq_false h, decide_eq_false e]
theorem key_lr (a : Int) (b : Str) : decide ((Sum.inl a : Key) = Sum.inr b) = false := decide_eq_false (fun q => nomatch q)
theorem key_rl (a : Str) (b : Int) : decide ((Sum.inr a : Key) = Sum.inl b) = false := decide_eq_false (fun q => nomatch q)

def mixKind (prog : Program) (w : World) : PySem.KeyKind prog w Key where
  is := keyIs
  hash := keyH w
  inj := fun v a b ha hb => by
    rcases keyIs_shape ha with ⟨i, t, rfl, rfl⟩ | ⟨x, t, rfl, rfl⟩
    · rcases keyIs_shape hb with ⟨j, u, rfl, e⟩ | ⟨y, u, rfl, e⟩
      · injection e with e1 _; rw [e1]
      · exact nomatch e
    · rcases keyIs_shape hb with ⟨j, u, rfl, e⟩ | ⟨y, u, rfl, e⟩
      · exact nomatch e
      · injection e with e1 _; rw [e1]
  byValue := fun k v h => by
    rcases keyIs_shape h with ⟨i, t, rfl, rfl⟩ | ⟨x, t, rfl, rfl⟩ <;> rfl
  pyHash := fun hv h => by
    rcases keyIs_shape hv with ⟨i, t, rfl, rfl⟩ | ⟨x, t, rfl, rfl⟩
    · exact wpAny_pyHash_int h
    · exact wpAny_pyHash_str h
  eqBool := fun hu hv h => by
    rcases keyIs_shape hu with ⟨i, t, rfl, rfl⟩ | ⟨x, t, rfl, rfl⟩
    · rcases keyIs_shape hv with ⟨j, u, rfl, rfl⟩ | ⟨y, u, rfl, rfl⟩
      · rw [key_ll] at h; exact wpAny_eqBool_int h
      · rw [key_lr] at h; exact SeqAt.EqAt.int_str i t y u _ _ _ _ h
    · rcases keyIs_shape hv with ⟨j, u, rfl, rfl⟩ | ⟨y, u, rfl, rfl⟩
      · rw [key_rl] at h; exact SeqAt.EqAt.str_int x t j u _ _ _ _ h
      · rw [key_rr] at h; exact wpAny_eqBool_str h
  «strs» := fun k x t v h => by
    rcases keyIs_shape h with ⟨i, u, rfl, e⟩ | ⟨y, u, rfl, e⟩
    · exact nomatch e
    · injection e with e1 _
      subst e1
      cases v <;> rfl

theorem mixKind_int (prog : Program) (w : World) (i : Int) (t : Tok) : (mixKind prog w).is (.inl i) (.int i t) = true := keyIs_int i t
theorem mixKind_str (prog : Program) (w : World) (x : Str) (t : Tok) : (mixKind prog w).is (.inr x) (.str x t) = true := keyIs_str x t
end L2

namespace L2
open PySem PySem.Spec PyProof.Rows

/-- a value, without the heap -/
inductive V where
  | non | bl (b : Bool) | int (i : Int) | str (x : Str) | byt (b : Array UInt8) | flt (b : UInt64) | ref (a : Addr) | ty (n : String)
  deriving DecidableEq

def RelV : V → Value → Prop
  | .non, u => u = Value.none
  | .bl b, u => u = Value.bool b
  | .int i, u => ∃ t, u = Value.int i t
  | .str x, u => ∃ t, u = Value.str x t
  | .byt b, u => ∃ t, u = Value.bytes b t
  | .flt b, u => ∃ t, u = Value.float b t
  | .ref a, u => u = Value.ref a
  | .ty n, u => u = Value.type n

abbrev Vals : List V → List Value → Prop := Paired RelV
theorem Vals.length {xs : List V} {us : List Value} (r : Vals xs us) : xs.length = us.length := Paired.length r
theorem Vals.get : ∀ {xs : List V} {us : List Value} {i : Nat} {x : V}, Vals xs us → xs[i]? = some x → ∃ u, us[i]? = some u ∧ RelV x u
  | _, _, _, _, .nil, e => by simp at e
  | _, _, 0, _, .cons r _, e => by simp at e; subst e; exact ⟨_, rfl, r⟩
  | _, _, i + 1, x, .cons _ t, e => by
    obtain ⟨u, h1, h2⟩ := Vals.get (i := i) (x := x) t (by simpa using e)
    exact ⟨u, by simpa using h1, h2⟩
theorem Vals.append : ∀ {xs ys : List V} {us ws : List Value}, Vals xs us → Vals ys ws → Vals (xs ++ ys) (us ++ ws)
  | _, _, _, _, .nil, s => s
  | _, _, _, _, .cons r t, s => .cons r (Vals.append t s)
theorem Vals.take : ∀ {xs : List V} {us : List Value} (n : Nat), Vals xs us → Vals (xs.take n) (us.take n)
  | _, _, 0, _ => .nil
  | _, _, _ + 1, .nil => .nil
  | _, _, n + 1, .cons r t => .cons r (Vals.take n t)
theorem Vals.drop : ∀ {xs : List V} {us : List Value} (n : Nat), Vals xs us → Vals (xs.drop n) (us.drop n)
  | _, _, 0, r => r
  | _, _, _ + 1, .nil => .nil
  | _, _, n + 1, .cons _ t => Vals.drop n t

def RelO : Option V → Option Value → Prop
  | some v, some u => RelV v u
  | none, none => True
  | _, _ => False
def KV {κ : Type} : List (κ × V) → List (κ × Value) → Prop := Paired fun (p : κ × V) (q : κ × Value) => p.1 = q.1 ∧ RelV p.2 q.2

/-- a key of a dict (00_mix): an int or a text -/
def kV : Key → V
  | .inl i => .int i
  | .inr x => .str x

/-- what stands at a tracked address -/
inductive HO where
  /-- a list -/
  | lst (xs : List V)
  /-- a tuple (never changes) -/
  | tup (xs : List V)
  /-- a dict whose keys are ints and texts; one whose keys are tuples of ints and texts (the empty one is both) -/
  | dK (kvs : List (Key × V)) | dT (kvs : List (List Key × V))
  /-- a set of ints: its members, its size -/
  | set (S : Int → Bool) (n : Nat)
  /-- an instance of the class at C, its dict at dx, its attributes -/
  | ins (C dx : Addr) (fs : List (Str × V))
  /-- the dict of the instance at x -/
  | own (x : Addr)
  /-- the dict of an exception -/
  | xd (fs : List (Str × V))
  /-- a bound method, f of x -/
  | met (f x : Addr)
  /-- a range object lo, lo + 1, .. below hi -/
  | rng (lo hi : Int)
  /-- a thing that is known to the object (the script; a dict while a loop walks it): read, never written while it is so -/
  | frz (o : Obj) (u : HO)
  /-- a code object's table -/
  | tbl (ps : Array Value)
  /-- any other thing, by what is true of its one object (a def of one's own: SetO a S n := HO.ext fun h => ..) -/
  | ext (φ : Heap → Prop)

abbrev Hp := Addr → Option HO
def upd (H : Hp) (a : Addr) (o : HO) : Hp := fun b => if b = a then some o else H b
theorem upd_same {H : Hp} {a : Addr} {o : HO} : upd H a o a = some o := by unfold upd; rw [if_pos rfl]
theorem upd_ne {H : Hp} {a b : Addr} {o : HO} (h : b ≠ a) : upd H a o b = H b := by unfold upd; rw [if_neg h]
theorem upd_upd {H : Hp} {a : Addr} {o u : HO} : upd (upd H a o) a u = upd H a u := by
  funext b; unfold upd; split <;> rfl
/-- two objects of different content stand apart -/
theorem ne_of {H : Hp} {a b : Addr} {o u : HO} (h : H a = some o) (h' : H b = some u) (d : o ≠ u) : a ≠ b := by
  intro e; subst e; rw [h] at h'; exact d (Option.some.inj h')
theorem ne_of_none {H : Hp} {a b : Addr} {o : HO} (h : H a = some o) (h' : H b = none) : a ≠ b := by
  intro e; subst e; rw [h] at h'; cases h'

section
variable (P : Program) (w : World)
def ObjOk (H : Hp) (h : Heap) (a : Addr) : HO → Prop
  | .lst xs => xs.length ≤ sizeLine ∧ ∃ (its : List Value) (n : Nat), Vals xs its ∧ h.get? a = some { cls := .type "list", data := .seq its.toArray n }
  | .tup xs => xs.length ≤ sizeLine ∧ ∃ its : List Value, Vals xs its ∧ IsTup h a its.toArray
  | .dK kvs => kvs.length ≤ sizeLine ∧ (a == sysModules) = false ∧ ∃ vs, KV kvs vs ∧ h.DictOf (mixKind P w) a vs
  | .dT kvs => kvs.length ≤ sizeLine ∧ (a == sysModules) = false ∧ ∃ xs : List (List Key × Addr × Value),
      Paired (fun (p : List Key × V) (q : List Key × Addr × Value) => p.1 = q.1 ∧ H q.2.1 = some (.tup (p.1.map kV)) ∧ RelV p.2 q.2.2) kvs xs ∧
      ∃ o es ep, h.get? a = some o ∧ o.ExactDict ∧ o.data = .dict es ep ∧ es.toList = xs.map (entryOfKey (tupleKind (mixKind P w))) ∧ (xs.map (·.1)).Nodup
  | .set S n => h.SetOf (intKind P w) a S n
  | .ins C dx fs => H dx = some (.own a) ∧ fs.length ≤ 1000 ∧ dx ≠ a ∧ h.get? a = some (PySem.W.instObj C dx) ∧
      ∃ mA, h.Ns1 dx mA ∧ (∀ f, RelO (fs.lookup f) (mA f)) ∧ PySem.Within mA (fs.map (·.1))
  | .own _ => ∃ o, h.get? a = some o
  | .xd fs => ∃ mA, h.Ns1 a mA ∧ ∀ f, RelO (fs.lookup f) (mA f)
  | .rng lo hi => ∃ t u v, h.get? a = some { cls := .type "range", data := .fields #[.int lo t, .int hi u, .int 1 v] }
  | .frz o u => h.get? a = some o ∧ ObjOk H h a u
  | .tbl ps => h.get? a = some { cls := .none, data := .fields ps }
  | .met f x => h.get? a = some (PySem.W.methodObj (.ref f) (.ref x))
  | .ext φ => φ h ∧ (∃ o, h.get? a = some o) ∧ ∀ h1 h2 : Heap, φ h1 → (∀ o, h1.get? a = some o → h2.get? a = some o) → φ h2
/-- the abstract heap is held -/
def HOk (H : Hp) (h : Heap) : Prop := ∀ a o, H a = some o → ObjOk P w H h a o
end

section
variable {P : Program} {w : World} {H H' : Hp} {h h' : Heap} {a : Addr} {o : HO}
theorem ObjOk.lt (x : ObjOk P w H h a o) : a < h.objs.size := by
  cases o with
  | lst xs => obtain ⟨_, _, _, _, e⟩ := x; exact Heap.lt_size e
  | tup xs => obtain ⟨_, _, _, p⟩ := x; exact p.lt
  | dK kvs => obtain ⟨_, _, _, _, o, _, _, e, _⟩ := x; exact Heap.lt_size e
  | dT kvs => obtain ⟨_, _, _, _, o, _, _, e, _⟩ := x; exact Heap.lt_size e
  | set S n => obtain ⟨o, _, _, _, e, _⟩ := x; exact Heap.lt_size e
  | ins C dx fs => obtain ⟨_, _, _, e, _⟩ := x; exact Heap.lt_size e
  | own y => obtain ⟨_, e⟩ := x; exact Heap.lt_size e
  | xd fs => obtain ⟨_, ⟨_, _, _, e, _⟩, _⟩ := x; exact Heap.lt_size e
  | rng lo hi => obtain ⟨_, _, _, e⟩ := x; exact Heap.lt_size e
  | frz ob u => obtain ⟨e, _⟩ := x; exact Heap.lt_size e
  | tbl ps => exact Heap.lt_size (show h.get? a = some _ from x)
  | met f y => exact Heap.lt_size (show h.get? a = some _ from x)
  | ext φ => obtain ⟨_, ⟨_, e⟩, _⟩ := x; exact Heap.lt_size e
theorem Paired.mapP {α β : Type} {F G : α → β → Prop} : ∀ {l₁ : List α} {l₂ : List β}, Paired F l₁ l₂ → (∀ a b, F a b → G a b) → Paired G l₁ l₂
  | _, _, .nil, _ => .nil
  | _, _, .cons r t, f => .cons (f _ _ r) (Paired.mapP t f)
/-- what an object's description leans on: its own object, its own dict, the tuples -/
theorem ObjOk.stay (x : ObjOk P w H h a o) (k : ∀ b u, (b = a ∨ H b = some (.own a)) → h.get? b = some u → h'.get? b = some u)
    (ho : ∀ b, H b = some (.own a) → H' b = some (.own a)) (ht : ∀ b xs, H b = some (.tup xs) → H' b = some (.tup xs)) : ObjOk P w H' h' a o := by
  induction o with
  | lst xs => obtain ⟨z, its, n, r, e⟩ := x; exact ⟨z, its, n, r, k _ _ (.inl rfl) e⟩
  | tup xs => obtain ⟨z, its, r, ob, e, c⟩ := x; exact ⟨z, its, r, ob, k _ _ (.inl rfl) e, c⟩
  | dK kvs => obtain ⟨z, y, vs, r, ob, es, ep, e, c⟩ := x; exact ⟨z, y, vs, r, ob, es, ep, k _ _ (.inl rfl) e, c⟩
  | dT kvs =>
    obtain ⟨z, y, xs, r, ob, es, ep, e, c⟩ := x
    exact ⟨z, y, xs, Paired.mapP r fun p q z => ⟨z.1, ht _ _ z.2.1, z.2.2⟩, ob, es, ep, k _ _ (.inl rfl) e, c⟩
  | set S n => obtain ⟨ob, es, ep, t, e, c⟩ := x; exact ⟨ob, es, ep, t, k _ _ (.inl rfl) e, c⟩
  | ins C dx fs =>
    obtain ⟨d, z, ne, e, mA, ⟨od, es, ep, e2, c⟩, r⟩ := x
    exact ⟨ho _ d, z, ne, k _ _ (.inl rfl) e, mA, ⟨od, es, ep, k _ _ (.inr d) e2, c⟩, r⟩
  | own y => obtain ⟨ob, e⟩ := x; exact ⟨ob, k _ _ (.inl rfl) e⟩
  | xd fs => obtain ⟨mA, ⟨od, es, ep, e, c⟩, r⟩ := x; exact ⟨mA, ⟨od, es, ep, k _ _ (.inl rfl) e, c⟩, r⟩
  | rng lo hi => obtain ⟨t, u, v, e⟩ := x; exact ⟨t, u, v, k _ _ (.inl rfl) e⟩
  | frz ob u ih => obtain ⟨e, q⟩ := x; exact ⟨k _ _ (.inl rfl) e, ih q⟩
  | tbl ps =>
    have e : h.get? a = some { cls := .none, data := .fields ps } := x
    show h'.get? a = some { cls := .none, data := .fields ps }
    exact k a _ (.inl rfl) e
  | met f y =>
    have e : h.get? a = some (PySem.W.methodObj (.ref f) (.ref y)) := x
    show h'.get? a = some (PySem.W.methodObj (.ref f) (.ref y))
    exact k a _ (.inl rfl) e
  | ext φ => obtain ⟨p, ⟨o, e⟩, st⟩ := x; exact ⟨st _ _ p fun o q => k _ _ (.inl rfl) q, ⟨o, k _ _ (.inl rfl) e⟩, st⟩
theorem HOk.lt (x : HOk P w H h) (e : H a = some o) : a < h.objs.size := (x a o e).lt
theorem HOk.fresh (x : HOk P w H h) (e : h.objs.size ≤ a) : H a = none := by
  cases q : H a with
  | none => rfl
  | some u => exact absurd (Nat.lt_of_lt_of_le (x.lt q) e) (Nat.lt_irrefl _)
/-- every object of the heap is kept -/
theorem HOk.kept (x : HOk P w H h) (k : ∀ b u, h.get? b = some u → h'.get? b = some u) : HOk P w H h' := fun a o e =>
  (x a o e).stay (fun b u _ q => k b u q) (fun _ q => q) fun _ _ q => q
/-- a new object is laid and tracked -/
theorem HOk.laid (x : HOk P w H h) (k : ∀ b u, h.get? b = some u → h'.get? b = some u) (hp : h.objs.size ≤ a) (new : ObjOk P w (upd H a o) h' a o) : HOk P w (upd H a o) h' := fun b u e => by
  have hn := x.fresh hp
  by_cases hb : b = a
  · subst hb; rw [upd_same] at e; cases e; exact new
  · rw [upd_ne hb] at e
    exact (x b u e).stay (fun c v _ q => k c v q) (fun c q => by rw [upd_ne (ne_of_none q hn)]; exact q) fun c xs q => by rw [upd_ne (ne_of_none q hn)]; exact q
end

/-- what may be read as u: it is u, or a known u -/
def Rd (H : Hp) (a : Addr) (u : HO) : Prop := H a = some u ∨ ∃ o, H a = some (.frz o u)
theorem Rd.ok {P : Program} {w : World} {H : Hp} {h : Heap} {a : Addr} {u : HO} (r : Rd H a u) (x : HOk P w H h) : ObjOk P w H h a u := by
  rcases r with r | ⟨o, r⟩
  · exact x a u r
  · obtain ⟨_, q⟩ := x a _ r
    exact q
/-- what may be written -/
def Mut : Option HO → Prop
  | some (.lst _) => True
  | some (.dK _) => True
  | some (.dT _) => True
  | some (.set _ _) => True
  | some (.ins _ _ _) => True
  | some (.ext _) => True
  | _ => False
section
variable {P : Program} {w : World} {H : Hp} {h h' : Heap} {x e : Addr} {o' : HO}
/-- the object at e is changed: x itself, or the dict of the instance x -/
theorem HOk.write (ok : HOk P w H h) (mu : Mut (H x)) (he : e = x ∨ H e = some (.own x)) (k : ∀ b u, b ≠ e → h.get? b = some u → h'.get? b = some u) (heo : ∃ u, h'.get? e = some u)
    (new : ObjOk P w (upd H x o') h' x o') : HOk P w (upd H x o') h' := fun b u q => by
  have nown : ∀ c y, H c = some (.own y) → c ≠ x := fun c y r z => by subst z; rw [r] at mu; exact mu
  have ntup : ∀ c xs, H c = some (.tup xs) → c ≠ x := fun c xs r z => by subst z; rw [r] at mu; exact mu
  by_cases hb : b = x
  · subst hb; rw [upd_same] at q; cases q; exact new
  · rw [upd_ne hb] at q
    by_cases hbe : b = e
    · have q' : H b = some (.own x) := by
        rcases he with z | z
        · exact absurd (hbe.trans z) hb
        · rw [hbe]; exact z
      rw [q] at q'; cases q'
      obtain ⟨v, hv⟩ := heo
      exact ⟨v, by rw [hbe]; exact hv⟩
    · refine (ok b u q).stay (fun c v hc r => k c v ?_ r) (fun c r => by rw [upd_ne (nown c b r)]; exact r) fun c xs r => by rw [upd_ne (ntup c xs r)]; exact r
      rcases hc with rfl | hc
      · exact hbe
      · rintro rfl
        rcases he with z | z
        · exact nown c b hc z
        · rw [hc] at z; cases z; exact hb rfl
end

/-! ### kept unless tracked; of the frames at fs (the callers') the slots may change (an exception that passes writes there); of the records at ex (iterators) nothing is said -/
structure Un (fs ex : List Addr) (H H' : Hp) (h h' : Heap) : Prop where
  keep : ∀ b o, h.get? b = some o → H b = none → b ∉ fs → b ∉ ex → h'.get? b = some o
  slot : ∀ b o, h.get? b = some o → H b = none → b ∈ fs → b ∉ ex → ∃ sl, h'.get? b = some { o with slots := sl }
  free : ∀ b o, h.get? b = some o → H b = none → b ∉ ex → H' b = none
  there : ∀ b o, h.get? b = some o → b ∉ ex → ∃ o', h'.get? b = some o'
  tups : ∀ b xs, H b = some (.tup xs) → H' b = some (.tup xs)
  frzs : ∀ b o u, H b = some (.frz o u) → H' b = some (.frz o u)
  tbls : ∀ b ps, H b = some (.tbl ps) → ∃ more, H' b = some (.tbl (ps ++ more))
section
variable {fs fs' ex ex' : List Addr} {H H1 H2 : Hp} {h h1 h2 h' : Heap} {a x e : Addr} {o : HO}
theorem Un.any (u : Un fs ex H H1 h h1) {b : Addr} {ob : Obj} (q : h.get? b = some ob) (n : H b = none) (hx : b ∉ ex) : ∃ sl, h1.get? b = some { ob with slots := sl } := by
  by_cases hb : b ∈ fs
  · exact u.slot b ob q n hb hx
  · exact ⟨ob.slots, u.keep b ob q n hb hx⟩
theorem Un.kept (k : ∀ b u, h.get? b = some u → h'.get? b = some u) : Un fs ex H H h h' :=
  ⟨fun b ob q _ _ _ => k b ob q, fun b ob q _ _ _ => ⟨ob.slots, k b ob q⟩, fun _ _ _ n _ => n, fun b ob q _ => ⟨ob, k b ob q⟩, fun _ _ q => q, fun _ _ _ q => q, fun _ ps q => ⟨#[], by rw [q]; simp⟩⟩
theorem Un.refl : Un fs ex H H h h := Un.kept fun _ _ q => q
theorem Un.laid (k : ∀ b u, h.get? b = some u → h'.get? b = some u) (hp : h.objs.size ≤ a) (hn : H a = none) : Un fs ex H (upd H a o) h h' where
  keep := fun b u q _ _ _ => k b u q
  slot := fun b u q _ _ _ => ⟨u.slots, k b u q⟩
  free := fun b u q n _ => by rw [upd_ne (Nat.ne_of_lt (Nat.lt_of_lt_of_le (Heap.lt_size q) hp))]; exact n
  there := fun b u q _ => ⟨u, k b u q⟩
  tups := fun b xs q => by rw [upd_ne (ne_of_none q hn)]; exact q
  frzs := fun b u xs q => by rw [upd_ne (ne_of_none q hn)]; exact q
  tbls := fun b ps q => ⟨#[], by rw [upd_ne (ne_of_none q hn), q]; simp⟩
theorem Un.write (mu : Mut (H x)) (he : e = x ∨ H e = some (.own x)) (k : ∀ b u, b ≠ e → h.get? b = some u → h'.get? b = some u) (heo : ∃ u, h'.get? e = some u) : Un fs ex H (upd H x o) h h' := by
  have hx : ∀ b, H b = none → b ≠ x := fun b n z => by subst z; rw [n] at mu; exact mu
  have hb : ∀ b, H b = none → b ≠ e := fun b n z => by
    subst z
    rcases he with r | r
    · exact hx b n r
    · rw [n] at r; cases r
  have hm : ∀ b u, H b = some u → ¬ Mut (some u) → b ≠ x := fun b u q nm z => by subst z; rw [q] at mu; exact nm mu
  refine ⟨fun b u q n _ _ => k b u (hb b n) q, fun b u q n _ _ => ⟨u.slots, k b u (hb b n) q⟩, fun b u q n _ => by rw [upd_ne (hx b n)]; exact n, fun b u q _ => ?_,
    fun b xs q => by rw [upd_ne (hm b _ q fun z => z)]; exact q, fun b u xs q => by rw [upd_ne (hm b _ q fun z => z)]; exact q, fun b ps q => ⟨#[], by rw [upd_ne (hm b _ q fun z => z), q]; simp⟩⟩
  by_cases hbe : b = e
  · subst hbe; exact heo
  · exact ⟨u, k b u hbe q⟩
end

/-! ### the heap without what is tracked -/
def trk (h : Heap) (H : Hp) : List Addr := (List.range h.objs.size).filter fun a => (H a).isSome
def hidT (h : Heap) (H : Hp) : Heap := PySem.W.hideAll h (trk h H)
theorem hidT_size (h : Heap) (H : Hp) : (hidT h H).objs.size = h.objs.size := PySem.W.hideAll_size _ _
theorem hidT_get {h : Heap} {H : Hp} {b : Addr} {o : Obj} (e : h.get? b = some o) (n : H b = none) : (hidT h H).get? b = some o :=
  PySem.W.hideAll_get _ e fun hm => by
    have q : (H b).isSome = true := (List.mem_filter.mp hm).2
    rw [n] at q; simp at q
theorem of_hidT {h : Heap} {H : Hp} {b : Addr} {o : Obj} (e : (hidT h H).get? b = some o) : h.get? b = some o ∧ H b = none := by
  have e' : h.get? b = some o := PySem.W.of_hideAll (trk h H) e
  refine ⟨e', ?_⟩
  cases q : H b with
  | none => rfl
  | some x =>
    have hm : b ∈ trk h H := List.mem_filter.mpr ⟨List.mem_range.mpr (Heap.lt_size e'), by simp [q]⟩
    have z : (hidT h H).get? b = none := PySem.W.hideAll_none (trk h H) hm
    rw [z] at e; cases e

/-! ### OpenK's ledger, filled with every new object but one -/
end L2

namespace L2
open PySem PySem.Spec PyProof.Rows

/-- the module's facts, over the base: the heap at the law's entry without what is tracked there -/
structure Mod (K : PySem.W.Frag) (mg : Str → Option Value) (base : Heap) : Prop where
  kin : K.In base
  glob : base.Ns mainGlobals mg
  blt : ∃ mb, base.Ns builtinsNs mb ∧ ∀ x : Str, x ≠ "__name__" → mb x = bootBuiltins x
  nolimit : base.NoLimit

/-- the context: a def's body (or a comprehension's block) running. base: fixed through the whole law; s₀, H₀: the entry; outer: the frames whose slots others may change (a def's callers); stack: all frames that run;
   ex: iterators that were made ahead of the entry and are walked here (a comprehension's); fn: the names whose cells were made at the entry (a def: all; a comprehension's block: its own); calm: not within an except suite; pn: pins that every state bears; xe: what is wanted of an exception that leaves the code -/
structure Cx where
  prog : Program
  w : World
  K : PySem.W.Frag
  mg : Str → Option Value
  base : Heap
  A : Around
  N : List Str
  s₀ : Shared
  H₀ : Hp
  env : Env
  outer : List Env
  stack : List Env
  ex : List Addr
  fn : Str → Bool
  calm : Bool
  pn : List (Addr × Obj)
  xe : Value → Shared → Prop
/-- the callers' frames -/
def frs (l : List Env) : List Addr := l.filterMap (·.frame)
abbrev Cx.fs (X : Cx) : List Addr := frs X.outer

def Vis (sc : Scope) (x : Str) : Prop := sc.names.lookup x = some .local ∨ sc.names.lookup x = some .cell ∨ sc.names.lookup x = some .free
def Loc (sc : Scope) (x : Str) : Prop := sc.names.lookup x = some .local ∨ sc.names.lookup x = some .cell
def Look (env : Env) (h : Heap) (m : Str → Option Value) (x : Str) (u : Value) : Prop :=
  (env.kindOf x = some .local ∧ m x = some u) ∨ ((env.kindOf x = some .cell ∨ env.kindOf x = some .free) ∧ ∃ c, env.cells.lookup x = some c ∧ h.IsCell c (some u))

structure Cx.Ok (X : Cx) : Prop where
  mod : Mod X.K X.mg X.base
  kind : X.env.scope.kind = .function
  glob : X.env.globals = mainGlobals
  blt : X.env.builtins = builtinsNs
  above : X.s₀.heap.objs.size ≤ X.env.locals
  inj : ∀ x y c, X.env.cells.lookup x = some c → X.env.cells.lookup y = some c → x = y
  has : ∀ x, (X.env.kindOf x = some .cell ∨ X.env.kindOf x = some .free) → ∃ c, X.env.cells.lookup x = some c
  cab : ∀ x c, X.fn x = true → X.env.cells.lookup x = some c → X.s₀.heap.objs.size ≤ c
  hd : X.calm = true → X.A.handled = none
  frames : X.A.frames = some X.stack
  stk : X.stack = X.outer ∨ (X.stack = X.env :: X.outer ∧ X.env.frame = some X.env.locals)
  exf : ∀ b ∈ X.ex, b ≠ X.env.locals ∧ ∀ x c, X.env.cells.lookup x = some c → c ≠ b
  bs : ∀ b o, X.base.get? b = some o → X.s₀.heap.get? b = some o ∧ X.H₀ b = none
  bsz : X.base.objs.size ≤ X.s₀.heap.objs.size
  noex : ∀ b o, X.base.get? b = some o → b ∉ X.ex
  exfs : ∀ b ∈ X.ex, b ∉ X.fs
  funs : X.s₀.heap.FunFrames X.base X.outer
  frf : ∀ b ∈ X.fs, X.H₀ b = none

structure Inv (X : Cx) (pins : List (Addr × Obj)) (σ : List (Option V)) (H : Hp) (s : Shared) : Prop where
  ok : X.Ok
  os : s.os = X.s₀.os
  bare : AllBare s.gens
  base : Un X.fs X.ex X.H₀ H X.s₀.heap s.heap
  loc : ∃ m, s.heap.Ns X.env.locals m ∧ ∀ (i : Nat) (x : Str) (v : V), X.N[i]? = some x → σ[i]? = some (some v) → Vis X.env.scope x → ∃ u, RelV v u ∧ Look X.env s.heap m x u
  cell : ∀ x c, X.env.cells.lookup x = some c → ∃ v, s.heap.IsCell c v
  free : H X.env.locals = none
  freeC : ∀ x c, X.env.cells.lookup x = some c → H c = none
  pin : ∀ p ∈ X.pn ++ pins, s.heap.get? p.1 = some p.2 ∧ H p.1 = none ∧ p.1 ≠ X.env.locals ∧ p.1 ∉ X.fs ∧ ∀ v, p.2.data ≠ .cell v
  hok : HOk X.prog X.w H s.heap
  len : σ.length = X.N.length

section
variable {X : Cx} {pins : List (Addr × Obj)} {σ : List (Option V)} {H H' : Hp} {s : Shared} {h' : Heap}

theorem Cx.Ok.nofr (ok : X.Ok) {b : Addr} {o : Obj} (e : X.base.get? b = some o) : b ∉ X.fs := fun hb => by
  have := (ok.funs.mem hb).1
  rw [e] at this; cases this
theorem Inv.bs (I : Inv X pins σ H s) : ∀ b o, X.base.get? b = some o → s.heap.get? b = some o ∧ H b = none := fun b o e =>
  ⟨I.base.keep b o (I.ok.bs b o e).1 (I.ok.bs b o e).2 (I.ok.nofr e) (I.ok.noex b o e), I.base.free b o (I.ok.bs b o e).1 (I.ok.bs b o e).2 (I.ok.noex b o e)⟩
theorem Inv.bk (I : Inv X pins σ H s) : ∀ b o, X.base.get? b = some o → s.heap.get? b = some o := fun b o e => (I.bs b o e).1
theorem Inv.mod (I : Inv X pins σ H s) : Mod X.K X.mg X.base := I.ok.mod
theorem Inv.kIn (I : Inv X pins σ H s) : X.K.In s.heap := I.ok.mod.kin.keeps I.bk
theorem Inv.lt (I : Inv X pins σ H s) : X.env.locals < s.heap.objs.size := let ⟨_, hn, _⟩ := I.loc; hn.lt
theorem Inv.sz (I : Inv X pins σ H s) : X.s₀.heap.objs.size ≤ s.heap.objs.size := Nat.le_trans I.ok.above (Nat.le_of_lt I.lt)
theorem Inv.nofs (I : Inv X pins σ H s) {a : Addr} (h : s.heap.objs.size ≤ a) : a ∉ X.fs := fun hb => by
  obtain ⟨_, o, ho, _⟩ := I.ok.funs.mem hb
  exact absurd (Nat.lt_of_lt_of_le (Heap.lt_size ho) (Nat.le_trans I.sz h)) (Nat.lt_irrefl _)
theorem Inv.cne (I : Inv X pins σ H s) : ∀ x c, X.env.cells.lookup x = some c → c ≠ X.env.locals := fun x c e z => by
  obtain ⟨v, o, ho, hd⟩ := I.cell x c e
  obtain ⟨m, ⟨o', es, ep, ho', hd', _⟩, _⟩ := I.loc
  rw [z, ho'] at ho; cases ho; rw [hd'] at hd; cases hd
theorem Inv.funs (I : Inv X pins σ H s) : s.heap.FunFrames X.base X.outer := by
  have all : ∀ (l : List Env), (∀ b ∈ frs l, b ∈ X.fs) → X.s₀.heap.FunFrames X.base l → s.heap.FunFrames X.base l := by
    intro l
    induction l with
    | nil => intro _ _; trivial
    | cons env r ih =>
      intro hs hl
      obtain ⟨hk, ⟨L, o, hf, hn, ho, hd⟩, hr⟩ := hl
      have hL : L ∈ X.fs := hs L (by unfold frs; rw [List.filterMap_cons, hf]; exact List.mem_cons_self)
      obtain ⟨sl, e⟩ := I.base.slot L o ho (I.ok.frf L hL) hL fun z => I.ok.exfs L z hL
      exact ⟨hk, ⟨L, _, hf, hn, e, hd⟩, ih (fun b hb => hs b (by unfold frs; rw [List.filterMap_cons, hf]; exact List.mem_cons_of_mem _ hb)) hr⟩
  exact all X.outer (fun _ hb => hb) I.ok.funs

/-- the frames that run, for a call -/
theorem Inv.stack (I : Inv X pins σ H s) : s.heap.FunFrames X.base X.stack := by
  rcases I.ok.stk with e | ⟨e, hf⟩
  · rw [e]; exact I.funs
  · rw [e]
    obtain ⟨m, hn, _⟩ := I.loc
    refine .cons (by rw [I.ok.kind]; decide) hf hn ?_ I.funs
    exact Heap.get?_none_of_le (Nat.le_trans I.ok.bsz I.ok.above)
theorem Inv.stkSub (I : Inv X pins σ H s) : ∀ b ∈ frs X.stack, b ∈ X.env.locals :: X.fs := fun b hb => by
  rcases I.ok.stk with e | ⟨e, hf⟩
  · rw [e] at hb; exact List.mem_cons_of_mem _ hb
  · rw [e] at hb
    unfold frs at hb
    rw [List.filterMap_cons, hf] at hb
    exact hb
theorem Inv.stkFree (I : Inv X pins σ H s) : ∀ b ∈ frs X.stack, H b = none := fun b hb => by
  rcases List.mem_cons.mp (I.stkSub b hb) with e | hb
  · rw [e]; exact I.free
  · obtain ⟨_, o, ho, _⟩ := I.ok.funs.mem hb
    exact I.base.free b o ho (I.ok.frf b hb) fun z => I.ok.exfs b z hb

/-- THE STEP: the untracked objects but the frame and the records at ch are kept (the callers' frames up to slots), the frame's map is kept, the new abstract heap is held -/
theorem Inv.step {g' : Array GenState} {t' : Nat} {d' : Drawn} {ch : List Addr} (I : Inv X pins σ H s)
    (hch : ∀ b ∈ ch, (b ∈ X.ex ∨ X.s₀.heap.objs.size ≤ b) ∧ b ≠ X.env.locals ∧ (∀ x c, X.env.cells.lookup x = some c → c ≠ b) ∧ ∀ p ∈ X.pn ++ pins, p.1 ≠ b)
    (keep : ∀ b o, b ≠ X.env.locals → b ∉ X.fs → b ∉ ch → s.heap.get? b = some o → H b = none → h'.get? b = some o)
    (slot : ∀ b o, b ≠ X.env.locals → b ∈ X.fs → b ∉ ch → s.heap.get? b = some o → H b = none → ∃ sl, h'.get? b = some { o with slots := sl }) (free : ∀ b o, b ∉ ch → s.heap.get? b = some o → H b = none → H' b = none)
    (there : ∀ b o, b ∉ ch → s.heap.get? b = some o → ∃ o', h'.get? b = some o')
    (tups : ∀ b xs, H b = some (.tup xs) → H' b = some (.tup xs)) (frzs : ∀ b o u, H b = some (.frz o u) → H' b = some (.frz o u)) (tbls : ∀ b ps, H b = some (.tbl ps) → ∃ more, H' b = some (.tbl (ps ++ more)))
    (ns : ∀ m, s.heap.Ns X.env.locals m → h'.Ns X.env.locals m) (hok : HOk X.prog X.w H' h') (hg : AllBare g') :
    Inv X pins σ H' { s with heap := h', gens := g', drawn := d', toks := t' } := by
  have neL : ∀ b o, X.s₀.heap.get? b = some o → b ≠ X.env.locals := fun b o e => Nat.ne_of_lt (Nat.lt_of_lt_of_le (Heap.lt_size e) I.ok.above)
  have neC : ∀ b o, X.s₀.heap.get? b = some o → b ∉ X.ex → b ∉ ch := fun b o e hx hb => by
    rcases (hch b hb).1 with z | z
    · exact hx z
    · exact absurd (Nat.lt_of_lt_of_le (Heap.lt_size e) z) (Nat.lt_irrefl _)
  have cellK : ∀ x c, X.env.cells.lookup x = some c → ∀ v, s.heap.IsCell c v → h'.IsCell c v := fun x c e v ⟨o, ho, hd⟩ => by
    have nch : c ∉ ch := fun z => (hch c z).2.2.1 x c e rfl
    by_cases hc : c ∈ X.fs
    · obtain ⟨sl, q⟩ := slot c o (I.cne x c e) hc nch ho (I.freeC x c e)
      exact ⟨_, q, hd⟩
    · exact ⟨o, keep c o (I.cne x c e) hc nch ho (I.freeC x c e), hd⟩
  refine ⟨I.ok, I.os, hg, ⟨fun b o e n hb hx => ?_, fun b o e n hb hx => ?_, fun b o e n hx => ?_, fun b o e hx => ?_, fun b xs e => tups b xs (I.base.tups b xs e), fun b o xs e => frzs b o xs (I.base.frzs b o xs e), fun b ps e => ?_⟩, ?_, fun x c e => ?_, ?_, fun x c e => ?_, fun p hp => ?_, hok, I.len⟩
  · exact keep b o (neL b o e) hb (neC b o e hx) (I.base.keep b o e n hb hx) (I.base.free b o e n hx)
  · obtain ⟨sl, e1⟩ := I.base.slot b o e n hb hx
    obtain ⟨sl', e2⟩ := slot b _ (neL b o e) hb (neC b o e hx) e1 (I.base.free b o e n hx)
    exact ⟨sl', e2⟩
  · obtain ⟨o', e1⟩ := I.base.there b o e hx
    exact free b o' (neC b o e hx) e1 (I.base.free b o e n hx)
  · obtain ⟨o', e1⟩ := I.base.there b o e hx
    exact there b o' (neC b o e hx) e1
  · obtain ⟨m1, e1⟩ := I.base.tbls b ps e
    obtain ⟨m2, e2⟩ := tbls b _ e1
    exact ⟨m1 ++ m2, by rw [e2, Array.append_assoc]⟩
  · obtain ⟨m, hn, hl⟩ := I.loc
    refine ⟨m, ns m hn, fun i x v e1 e2 e3 => ?_⟩
    obtain ⟨u, r, l⟩ := hl i x v e1 e2 e3
    refine ⟨u, r, ?_⟩
    rcases l with l | ⟨k, c, e, z⟩
    · exact .inl l
    · exact .inr ⟨k, c, e, cellK x c e _ z⟩
  · obtain ⟨v, z⟩ := I.cell x c e
    exact ⟨v, cellK x c e v z⟩
  · obtain ⟨m, ⟨o, _, _, ho, _⟩, _⟩ := I.loc
    exact free _ o (fun z => (hch _ z).2.1 rfl) ho I.free
  · obtain ⟨v, o, ho, hd⟩ := I.cell x c e
    exact free c o (fun z => (hch c z).2.2.1 x c e rfl) ho (I.freeC x c e)
  · obtain ⟨e, n, ne, nf, d⟩ := I.pin p hp
    have nch : p.1 ∉ ch := fun z => (hch p.1 z).2.2.2 p hp rfl
    exact ⟨keep p.1 p.2 ne nf nch e n, free p.1 p.2 nch e n, ne, nf, d⟩
/-- .. where the frame's own object is kept too -/
theorem Inv.un {t' : Nat} (I : Inv X pins σ H s) (u : Un X.fs [] H H' s.heap h') (hok : HOk X.prog X.w H' h') : Inv X pins σ H' { s with heap := h', toks := t' } := by
  obtain ⟨m, ⟨o, es, ep, ho, r⟩, _⟩ := id I.loc
  obtain ⟨sl, hL⟩ := u.any ho I.free (by simp)
  exact I.step (g' := s.gens) (d' := s.drawn) (ch := []) (fun _ z => nomatch z) (fun b o _ hb _ e n => u.keep b o e n hb (by simp)) (fun b o _ hb _ e n => u.slot b o e n hb (by simp)) (fun b o _ e n => u.free b o e n (by simp)) (fun b o _ e => u.there b o e (by simp)) u.tups u.frzs u.tbls (fun m' hm => by
    obtain ⟨o', es', ep', ho', r'⟩ := hm
    rw [ho] at ho'; cases ho'
    exact ⟨_, es', ep', hL, r'⟩) hok I.bare
/-- behind a call (or a comprehension's block): the slots of this frame may have changed too, the records at ch may have turned -/
theorem Inv.call {g' : Array GenState} {t' : Nat} {d' : Drawn} {ch : List Addr} (I : Inv X pins σ H s) (u : Un (frs X.stack) ch H H' s.heap h') (hok : HOk X.prog X.w H' h') (hg : AllBare g')
    (hch : ∀ b ∈ ch, (b ∈ X.ex ∨ X.s₀.heap.objs.size ≤ b) ∧ b ≠ X.env.locals ∧ (∀ x c, X.env.cells.lookup x = some c → c ≠ b) ∧ ∀ p ∈ X.pn ++ pins, p.1 ≠ b) :
    Inv X pins σ H' { s with heap := h', gens := g', drawn := d', toks := t' } := by
  obtain ⟨m, ⟨o, es, ep, ho, r⟩, _⟩ := id I.loc
  obtain ⟨sl, hL⟩ := u.any ho I.free fun z => (hch _ z).2.1 rfl
  exact I.step (ch := ch) hch (fun b o hL hb hc e n => u.keep b o e n (fun z => (List.mem_cons.mp (I.stkSub b z)).elim hL hb) hc) (fun b o _ _ hc e n => u.any e n hc) (fun b o hc e n => u.free b o e n hc) (fun b o hc e => u.there b o e hc) u.tups u.frzs u.tbls (fun m' hm => by
    obtain ⟨o', es', ep', ho', r'⟩ := hm
    rw [ho] at ho'; cases ho'
    exact ⟨_, es', ep', hL, r'⟩) hok hg
/-- an untracked record of ours (an iterator) has turned -/
theorem Inv.turned {t' : Nat} {it : Addr} (I : Inv X pins σ H s) (k : ∀ b o, b ≠ it → s.heap.get? b = some o → h'.get? b = some o) (hn : H it = none) (hL : it ≠ X.env.locals)
    (h1 : it ∈ X.ex ∨ X.s₀.heap.objs.size ≤ it) (h2 : ∀ x c, X.env.cells.lookup x = some c → c ≠ it) (h3 : ∀ p ∈ X.pn ++ pins, p.1 ≠ it) : Inv X pins σ H { s with heap := h', toks := t' } := by
  have nit : ∀ b u, H b = some u → b ≠ it := fun b u e z => by rw [z, hn] at e; cases e
  refine I.step (g' := s.gens) (d' := s.drawn) (ch := [it]) (fun b hb => ?_) (fun b o _ _ hc e _ => k b o (fun z => hc (by simp [z])) e) (fun b o _ _ hc e _ => ⟨o.slots, k b o (fun z => hc (by simp [z])) e⟩) (fun _ _ _ _ n => n)
    (fun b o hc e => ⟨o, k b o (fun z => hc (by simp [z])) e⟩) (fun _ _ e => e) (fun _ _ _ e => e) (fun b ps e => ⟨#[], by rw [e]; simp⟩) (fun m hm => ?_) (fun b u e => ?_) I.bare
  · have e : b = it := by simpa using hb
    subst e
    exact ⟨h1, hL, h2, h3⟩
  · obtain ⟨o, es, ep, ho, r⟩ := hm
    exact ⟨o, es, ep, k _ o (Ne.symm hL) ho, r⟩
  · refine (I.hok b u e).stay (fun c v hc q => k c v ?_ q) (fun _ q => q) fun _ _ q => q
    rcases hc with z | z
    · rw [z]; exact nit b u e
    · exact nit c _ z
theorem Inv.tok (I : Inv X pins σ H s) (t : Nat) : Inv X pins σ H { s with toks := t } := I.un (h' := s.heap) (t' := t) Un.refl I.hok
/-- all objects kept -/
theorem Inv.kept {t' : Nat} (I : Inv X pins σ H s) (k : ∀ b u, s.heap.get? b = some u → h'.get? b = some u) : Inv X pins σ H { s with heap := h', toks := t' } := I.un (Un.kept k) (I.hok.kept k)
/-- a new object laid and tracked -/
theorem Inv.laid {a : Addr} {o : HO} {t' : Nat} (I : Inv X pins σ H s) (k : ∀ b u, s.heap.get? b = some u → h'.get? b = some u) (hp : s.heap.objs.size ≤ a) (new : ObjOk X.prog X.w (upd H a o) h' a o) :
    Inv X pins σ (upd H a o) { s with heap := h', toks := t' } := I.un (Un.laid k hp (I.hok.fresh hp)) (I.hok.laid k hp new)
/-- an object written -/
theorem Inv.write {x e : Addr} {o : HO} {t' : Nat} (I : Inv X pins σ H s) (mu : Mut (H x)) (he : e = x ∨ H e = some (.own x)) (k : ∀ b u, b ≠ e → s.heap.get? b = some u → h'.get? b = some u) (heo : ∃ u, h'.get? e = some u)
    (new : ObjOk X.prog X.w (upd H x o) h' x o) : Inv X pins σ (upd H x o) { s with heap := h', toks := t' } := I.un (Un.write mu he k heo) (I.hok.write mu he k heo new)
theorem Inv.pins_of {pins' : List (Addr × Obj)} (I : Inv X pins σ H s) (h : ∀ p ∈ pins', s.heap.get? p.1 = some p.2 ∧ H p.1 = none ∧ p.1 ≠ X.env.locals ∧ p.1 ∉ X.fs ∧ ∀ v, p.2.data ≠ .cell v) : Inv X pins' σ H s :=
  ⟨I.ok, I.os, I.bare, I.base, I.loc, I.cell, I.free, I.freeC, fun p hp => (List.mem_append.mp hp).elim (fun z => I.pin p (List.mem_append_left _ z)) (h p), I.hok, I.len⟩

theorem nodup_ix {N : List Str} (hN : N.Nodup) {i j : Nat} {x : Str} (a : N[i]? = some x) (b : N[j]? = some x) : i = j := by
  obtain ⟨h1, e1⟩ := List.getElem?_eq_some_iff.mp a
  obtain ⟨h2, e2⟩ := List.getElem?_eq_some_iff.mp b
  exact (List.getElem_inj hN).mp (e1.trans e2.symm)

/-- a name is stored; what changed -/
theorem store_ok2 {M : Model} {A : Around} {E : Value → Shared → Prop} {i : Nat} {x : Str} {v : V} {u : Value} {Q : Unit → Shared → Prop} (I : Inv X pins σ H s) (hN : X.N.Nodup) (hi : X.N[i]? = some x) (hx : Loc X.env.scope x) (r : RelV v u)
    (h : ∀ s', Inv X pins (σ.set i (some v)) H s' → (∃ a, Heap.SameBut a s.heap s'.heap ∧ (a = X.env.locals ∨ X.env.cells.lookup x = some a)) → Q () s') (hf : X.fn x = true ∨ X.env.scope.names.lookup x = some .local := by first | exact .inl rfl | exact .inr rfl | assumption) : wpAny M A (storeName X.env x u) Q E s := by
  obtain ⟨m, hn, hl⟩ := id I.loc
  have hcls : (X.env.scope.kind == .class || (X.env.scope.kind == .module && X.env.locals != X.env.globals)) = false := by rw [I.ok.kind]; rfl
  have hiσ : i < σ.length := by rw [I.len]; exact (List.getElem?_eq_some_iff.mp hi).1
  have cne := I.cne
  have tracked : ∀ {a : Addr} {h' : Heap}, (∃ o, s.heap.get? a = some o ∧ H a = none) → Heap.SameBut a s.heap h' → HOk X.prog X.w H h' := fun {a h'} ha hs b ob e => by
    obtain ⟨_, _, hfree⟩ := ha
    refine (I.hok b ob e).stay (fun c w' hc q => (hs.2 c ?_).trans q) (fun _ q => q) fun _ _ q => q
    rintro rfl
    rcases hc with rfl | hc
    · rw [hfree] at e; cases e
    · rw [hfree] at hc; cases hc
  rcases hx with hk | hk
  · refine wpAny_storeName_local hk hn (fun h' hn' hs => ?_) hcls
    obtain ⟨oL, _, _, hoL, _⟩ := id hn
    refine h _ ⟨I.ok, I.os, I.bare, ⟨fun b o e n hb hx => ?_, fun b o e n hb hx => ?_, I.base.free, fun b o e hx => ?_, I.base.tups, I.base.frzs, I.base.tbls⟩, ⟨_, hn', fun j y v' e1 e2 e3 => ?_⟩, fun y c e => ?_, I.free, I.freeC, fun p hp => ?_, tracked ⟨oL, hoL, I.free⟩ hs, by simpa using I.len⟩ ⟨_, hs, .inl rfl⟩
    · exact (hs.2 b (Nat.ne_of_lt (Nat.lt_of_lt_of_le (Heap.lt_size e) I.ok.above))).trans (I.base.keep b o e n hb hx)
    · obtain ⟨sl, e1⟩ := I.base.slot b o e n hb hx
      exact ⟨sl, (hs.2 b (Nat.ne_of_lt (Nat.lt_of_lt_of_le (Heap.lt_size e) I.ok.above))).trans e1⟩
    · obtain ⟨o', e1⟩ := I.base.there b o e hx
      exact ⟨o', (hs.2 b (Nat.ne_of_lt (Nat.lt_of_lt_of_le (Heap.lt_size e) I.ok.above))).trans e1⟩
    · by_cases hj : j = i
      · subst hj
        rw [hi] at e1; cases e1
        rw [List.getElem?_set_self hiσ] at e2
        cases e2
        exact ⟨u, r, .inl ⟨hk, by simp⟩⟩
      · rw [List.getElem?_set_ne (Ne.symm hj)] at e2
        obtain ⟨u', r', q⟩ := hl j y v' e1 e2 e3
        refine ⟨u', r', ?_⟩
        rcases q with ⟨k, e⟩ | ⟨k, c, e, z⟩
        · refine .inl ⟨k, ?_⟩
          have : y ≠ x := fun e => hj (nodup_ix hN e1 (e ▸ hi))
          simp [this, e]
        · exact .inr ⟨k, c, e, z.sameBut hs (cne y c e)⟩
    · obtain ⟨w', z⟩ := I.cell y c e
      exact ⟨w', z.sameBut hs (cne y c e)⟩
    · obtain ⟨e, n, ne, nf, d⟩ := I.pin p hp
      exact ⟨(hs.2 p.1 ne).trans e, n, ne, nf, d⟩
  · have hfn : X.fn x = true := by
      rcases hf with z | z
      · exact z
      · rw [z] at hk; cases hk
    obtain ⟨c, hc⟩ := I.ok.has x (.inl hk)
    obtain ⟨w', z⟩ := I.cell x c hc
    refine wpAny_storeName_cell I.ok.kind hk hc z (fun h' hc' hs => ?_)
    obtain ⟨oc, hoc, hocd⟩ := id z
    refine h { s with heap := h' } ⟨I.ok, I.os, I.bare, ⟨fun b o e n hb hx => ?_, fun b o e n hb hx => ?_, I.base.free, fun b o e hx => ?_, I.base.tups, I.base.frzs, I.base.tbls⟩, ⟨m, hn.sameBut hs (Ne.symm (cne x c hc)), fun j y v' e1 e2 e3 => ?_⟩, fun y c' e => ?_, I.free, I.freeC, fun p hp => ?_, tracked ⟨oc, hoc, I.freeC x c hc⟩ hs, by simpa using I.len⟩ ⟨c, hs, .inr hc⟩
    · exact (hs.2 b (Nat.ne_of_lt (Nat.lt_of_lt_of_le (Heap.lt_size e) (I.ok.cab x c hfn hc)))).trans (I.base.keep b o e n hb hx)
    · obtain ⟨sl, e1⟩ := I.base.slot b o e n hb hx
      exact ⟨sl, (hs.2 b (Nat.ne_of_lt (Nat.lt_of_lt_of_le (Heap.lt_size e) (I.ok.cab x c hfn hc)))).trans e1⟩
    · obtain ⟨o', e1⟩ := I.base.there b o e hx
      exact ⟨o', (hs.2 b (Nat.ne_of_lt (Nat.lt_of_lt_of_le (Heap.lt_size e) (I.ok.cab x c hfn hc)))).trans e1⟩
    · by_cases hj : j = i
      · subst hj
        rw [hi] at e1; cases e1
        rw [List.getElem?_set_self hiσ] at e2
        cases e2
        exact ⟨u, r, .inr ⟨.inl hk, c, hc, hc'⟩⟩
      · rw [List.getElem?_set_ne (Ne.symm hj)] at e2
        obtain ⟨u', r', q⟩ := hl j y v' e1 e2 e3
        refine ⟨u', r', ?_⟩
        rcases q with q | ⟨k, c', e, z'⟩
        · exact .inl q
        · refine .inr ⟨k, c', e, z'.sameBut hs ?_⟩
          rintro rfl
          exact hj (nodup_ix hN e1 (I.ok.inj _ _ _ e hc ▸ hi))
    · by_cases hcc : c' = c
      · subst hcc; exact ⟨_, hc'⟩
      · obtain ⟨w2, z2⟩ := I.cell y c' e
        exact ⟨w2, z2.sameBut hs hcc⟩
    · obtain ⟨e, n, ne, nf, d⟩ := I.pin p hp
      refine ⟨(hs.2 p.1 ?_).trans e, n, ne, nf, d⟩
      intro q
      rw [q, hoc] at e
      have q' : oc = p.2 := Option.some.inj e
      exact d w' (by rw [← q']; exact hocd)
theorem store_ok {M : Model} {A : Around} {E : Value → Shared → Prop} {i : Nat} {x : Str} {v : V} {u : Value} {Q : Unit → Shared → Prop} (I : Inv X pins σ H s) (hN : X.N.Nodup) (hi : X.N[i]? = some x) (hx : Loc X.env.scope x) (r : RelV v u)
    (h : ∀ s', Inv X pins (σ.set i (some v)) H s' → Q () s') (hf : X.fn x = true ∨ X.env.scope.names.lookup x = some .local := by first | exact .inl rfl | exact .inr rfl | assumption) : wpAny M A (storeName X.env x u) Q E s :=
  store_ok2 I hN hi hx r (fun s' I' _ => h s' I') hf
/-- behind a call or a block, the state as it is -/
theorem Inv.call' {s' : Shared} {ch : List Addr} (I : Inv X pins σ H s) (ho : s'.os = s.os) (u : Un (frs X.stack) ch H H' s.heap s'.heap) (hok : HOk X.prog X.w H' s'.heap) (hg : AllBare s'.gens)
    (hch : ∀ b ∈ ch, (b ∈ X.ex ∨ X.s₀.heap.objs.size ≤ b) ∧ b ≠ X.env.locals ∧ (∀ x c, X.env.cells.lookup x = some c → c ≠ b) ∧ ∀ p ∈ X.pn ++ pins, p.1 ≠ b) : Inv X pins σ H' s' := by
  obtain ⟨h', g', d', t', o'⟩ := s'
  have e : o' = s.os := ho
  subst e
  exact I.call (g' := g') (t' := t') (d' := d') u hok hg hch
end

/-! ### the judgements -/
/-- an exception: its class, its own dict's address (where it has one), the abstract heap behind it -/
abbrev XK := Value → Option Addr → Hp → Prop
abbrev St := List (Option V)
abbrev VK := V → Hp → Prop
/-- an expression's reading; a test's; an argument list's -/
abbrev TE := St → Hp → VK → Prop
abbrev TT := St → Hp → (Bool → Hp → Prop) → Prop
abbrev TA := St → Hp → (List V → Hp → Prop) → Prop
/-- what is wanted behind a statement -/
structure Ends where
  nx : St → Hp → Prop
  rt : VK
  bk : St → Hp → Prop := fun _ _ => False
  ct : St → Hp → Prop := fun _ _ => False
abbrev TS := Ends → St → Hp → Prop

def EP (X : Cx) (pins : List (Addr × Obj)) (σ : St) (Q : VK) (u : Value) (s' : Shared) : Prop := ∃ v H', Inv X pins σ H' s' ∧ RelV v u ∧ Q v H'
def TP (X : Cx) (pins : List (Addr × Obj)) (σ : St) (Q : Bool → Hp → Prop) (b : Bool) (s' : Shared) : Prop := ∃ H', Inv X pins σ H' s' ∧ Q b H'
def AP (X : Cx) (pins : List (Addr × Obj)) (σ : St) (Q : List V → Hp → Prop) (us : List Value) (s' : Shared) : Prop := ∃ vs H', Inv X pins σ H' s' ∧ Vals vs us ∧ Q vs H'
def SP (X : Cx) (pins : List (Addr × Obj)) (D : Ends) (f : Flow) (s' : Shared) : Prop :=
  match f with
  | .next => ∃ σ' H', Inv X pins σ' H' s' ∧ D.nx σ' H'
  | .brk => ∃ σ' H', Inv X pins σ' H' s' ∧ D.bk σ' H'
  | .cont => ∃ σ' H', Inv X pins σ' H' s' ∧ D.ct σ' H'
  | .ret u => ∃ v σ' H', Inv X pins σ' H' s' ∧ RelV v u ∧ D.rt v H'

def PE (X : Cx) (e : Expr) (t : TE) : Prop :=
  ∀ (pins : List (Addr × Obj)) (s : Shared) (σ : St) (H : Hp) (Q : VK), Inv X pins σ H s → t σ H Q → wpAny (model X.prog X.w) X.A (eval e X.env) (EP X pins σ Q) X.xe s
def PT (X : Cx) (e : Expr) (t : TT) : Prop :=
  ∀ (pins : List (Addr × Obj)) (s : Shared) (σ : St) (H : Hp) (Q : Bool → Hp → Prop), Inv X pins σ H s → t σ H Q → wpAny (model X.prog X.w) X.A (isTrue e X.env (eval e X.env)) (TP X pins σ Q) X.xe s
/-- a test whatever its 'whole' is (and, or) -/
def PW (X : Cx) (e : Expr) (t : TT) : Prop :=
  ∀ (whole : Sem Value) (pins : List (Addr × Obj)) (s : Shared) (σ : St) (H : Hp) (Q : Bool → Hp → Prop), Inv X pins σ H s → t σ H Q → wpAny (model X.prog X.w) X.A (isTrue e X.env whole) (TP X pins σ Q) X.xe s
theorem PW.pt {X : Cx} {e : Expr} {t : TT} (h : PW X e t) : PT X e t := h _
/-- an argument list (no star), from the left -/
def PA (X : Cx) (es : List Expr) (t : TA) : Prop :=
  ∀ (pos : Pos) (pins : List (Addr × Obj)) (s : Shared) (σ : St) (H : Hp) (Q : List V → Hp → Prop), Inv X pins σ H s → t σ H Q → wpAny (model X.prog X.w) X.A (spliced (backTo pos (starEach es X.env))) (AP X pins σ Q) X.xe s
def PS (X : Cx) (st : Stmt) (t : TS) : Prop :=
  ∀ (pins : List (Addr × Obj)) (s : Shared) (σ : St) (H : Hp) (D : Ends), Inv X pins σ H s → t D σ H → wpAny (model X.prog X.w) X.A (exec st X.env) (SP X pins D) X.xe s
def PSs (X : Cx) (st : List Stmt) (t : TS) : Prop :=
  ∀ (pins : List (Addr × Obj)) (s : Shared) (σ : St) (H : Hp) (D : Ends), Inv X pins σ H s → t D σ H → wpAny (model X.prog X.w) X.A (execs st X.env) (SP X pins D) X.xe s
/-- weaken the end -/
theorem thn {α : Type} {t : Sem α} {Q Q' : α → Shared → Prop} {M : Model} {A : Around} {E : Value → Shared → Prop} {s : Shared} (h : wpAny M A t Q E s) (hQ : ∀ a s, Q a s → Q' a s) : wpAny M A t Q' E s := wpAny_mono h hQ fun _ _ x => x
end L2

namespace L2
open PySem PySem.Spec PyProof.Rows
section
variable {X : Cx}

/-! ### names and constants -/
def tVar (i : Nat) : TE := fun σ H Q => ∃ v, σ[i]? = some (some v) ∧ Q v H
def tC (v : V) : TE := fun _ H Q => Q v H
theorem pe_var {i : Nat} {x : Str} {pos : Pos} (hN : X.N[i]? = some x) (hv : Vis X.env.scope x) (hd : (x == ("__debug__" : Str)) = false := by decide) (hcd : (x == ("__classdict__" : Str)) = false := by decide) : PE X (.Name x pos) (tVar i) := by
  intro pins s σ H Q I h
  obtain ⟨v, e, h⟩ := h
  obtain ⟨m, hn, hl⟩ := I.loc
  obtain ⟨u, r, l⟩ := hl i x v hN e hv
  have fin : EP X pins σ Q u s := ⟨v, H, I, r, h⟩
  rcases l with ⟨hk, hm⟩ | ⟨hk, c, hc, hcell⟩
  · exact wpAny_Name (wpAny_loadName_local I.ok.kind hk hn hm fin) hd
  · rcases hk with hk | hk
    · exact wpAny_Name (wpAny_loadName_cell I.ok.kind hk hc hcell fin) hd
    · exact wpAny_Name (wpAny_loadName_free I.ok.kind hk hc hcell fin hcd) hd
theorem pe_int {i j pos} : PE X (.Constant (.int i) j pos) (tC (.int i)) := fun _ _ _ H _ I h => wpAny_Constant_int ⟨.int i, H, I.tok _, ⟨_, rfl⟩, h⟩
theorem pe_bl {b j pos} : PE X (.Constant (.bool b) j pos) (tC (.bl b)) := fun _ _ _ H _ I h => Constant_bool ⟨.bl b, H, I, rfl, h⟩
theorem pe_non {j pos} : PE X (.Constant .none j pos) (tC .non) := fun _ _ _ H _ I h => Constant_none ⟨.non, H, I, rfl, h⟩
theorem pe_str {x j pos} : PE X (.Constant (.str x) j pos) (tC (.str x)) := fun _ _ _ H _ I h => Calls.Constant_str ⟨.str x, H, I.tok _, ⟨_, rfl⟩, h⟩

/-- a global name of the def -/
def Gl (X : Cx) (x : Str) : Prop := X.env.kindOf x = some .globalImplicit
theorem ld_glob {E : Value → Shared → Prop} {pins : List (Addr × Obj)} {s : Shared} {σ : St} {H : Hp} {x : Str} {u : Value} {pos : Pos} {Q : Value → Shared → Prop} (I : Inv X pins σ H s) (hg : Gl X x) (hm : X.mg x = some u) (h : Q u s)
    (hd : (x == ("__debug__" : Str)) = false := by decide) : wpAny (model X.prog X.w) X.A (eval (.Name x pos) X.env) Q E s :=
  Calls.Name_function_global I.ok.kind hg (Calls.loadGlobal_global (by rw [I.ok.glob]; exact I.mod.glob.keeps I.bk) hm h) hd
theorem ld_blt {E : Value → Shared → Prop} {pins : List (Addr × Obj)} {s : Shared} {σ : St} {H : Hp} {x : Str} {u : Value} {pos : Pos} {Q : Value → Shared → Prop} (I : Inv X pins σ H s) (hg : Gl X x) (hm : X.mg x = none) (hv : bootBuiltins x = some u) (h : Q u s)
    (hn : x ≠ "__name__" := by decide) (hd : (x == ("__debug__" : Str)) = false := by decide) : wpAny (model X.prog X.w) X.A (eval (.Name x pos) X.env) Q E s := by
  obtain ⟨mb, h1, h2⟩ := I.mod.blt
  exact Calls.Name_function_global I.ok.kind hg (Calls.loadGlobal_builtin (by rw [I.ok.glob]; exact I.mod.glob.keeps I.bk) hm (by rw [I.ok.blt]; exact h1.keeps I.bk) ((h2 x hn).trans hv) h) hd
theorem pe_bltn {x : Str} {v : V} {u : Value} {pos : Pos} (hg : Gl X x) (hm : X.mg x = none) (hv : bootBuiltins x = some u) (r : RelV v u) (hn : x ≠ "__name__" := by decide) (hd : (x == ("__debug__" : Str)) = false := by decide) : PE X (.Name x pos) (tC v) :=
  fun _ _ _ H _ I h => ld_blt I hg hm hv ⟨v, H, I, r, h⟩ hn hd

/-! ### arithmetic -/
variable {a b : Expr} {ta tb : TE} {pos : Pos}

/-! ### comparisons -/
/-- a comparison as a value, as a test -/
def tB (t : TE) : TT := fun σ H Q => t σ H fun x H1 => ∃ c, x = .bl c ∧ Q c H1
/-- an expression whose value is a bool, as a test -/
theorem pt_val {e : Expr} {t : TE} (h : PE X e t) (he : ∀ whole, isTrue e X.env whole = (do let v ← whole; standAt e.pos; holding [v] (truthy v)) := by intro _; rfl) : PT X e (tB t) := by
  intro pins s σ H Q I hw
  refine isTrue_plain (thn (h pins s σ H _ I hw) fun v s1 ⟨x, H1, I1, r1, q1⟩ => ?_) (he _)
  obtain ⟨d, rfl, q⟩ := q1
  cases r1
  exact wpAny_truthy_bool ⟨H1, I1, q⟩

/-! ### and, or, not -/
variable {tA tB' : TT} {rest : List Expr}
def tAnd (t u : TT) : TT := fun σ H Q => t σ H fun c H1 => if c = true then u σ H1 Q else Q false H1
def tOr (t u : TT) : TT := fun σ H Q => t σ H fun c H1 => if c = true then Q true H1 else u σ H1 Q
def tNot (t : TT) : TT := fun σ H Q => t σ H fun c H1 => Q (!c) H1
theorem pw_and1 (ha : PT X a tA) : PW X (.BoolOp .And [a] pos) tA := by
  intro wh pins s σ H Q I h
  refine isTrue_and (thn (ha pins s σ H Q I h) fun c s1 e => ?_)
  cases c with
  | true => exact isTrue_and_nil e
  | false => exact e
theorem pw_or1 (ha : PT X a tA) : PW X (.BoolOp .Or [a] pos) tA := by
  intro wh pins s σ H Q I h
  refine isTrue_or (thn (ha pins s σ H Q I h) fun c s1 e => ?_)
  cases c with
  | false => exact isTrue_or_nil e
  | true => exact e
theorem pw_and (ha : PT X a tA) (hb : PW X (.BoolOp .And (b :: rest) pos) tB') : PW X (.BoolOp .And (a :: b :: rest) pos) (tAnd tA tB') := by
  intro wh pins s σ H Q I h
  refine isTrue_and (thn (ha pins s σ H _ I h) fun c s1 ⟨H1, I1, q1⟩ => ?_)
  cases c with
  | true => exact hb wh pins s1 σ H1 Q I1 q1
  | false => exact ⟨H1, I1, q1⟩
theorem pw_or (ha : PT X a tA) (hb : PW X (.BoolOp .Or (b :: rest) pos) tB') : PW X (.BoolOp .Or (a :: b :: rest) pos) (tOr tA tB') := by
  intro wh pins s σ H Q I h
  refine isTrue_or (thn (ha pins s σ H _ I h) fun c s1 ⟨H1, I1, q1⟩ => ?_)
  cases c with
  | true => exact ⟨H1, I1, q1⟩
  | false => exact hb wh pins s1 σ H1 Q I1 q1
theorem pt_not (ha : PT X a tA) : PT X (.UnaryOp .Not a pos) (tNot tA) := by
  intro pins s σ H Q I h
  exact isTrue_not (ha pins s σ H (fun c H1 => Q (!c) H1) I h)
/-- a if t else b -/
def tIf (t : TT) (ta tb : TE) : TE := fun σ H Q => t σ H fun c H1 => if c = true then ta σ H1 Q else tb σ H1 Q
theorem pe_ifExp {c : Expr} (hc : PT X c tA) (ha : PE X a ta) (hb : PE X b tb) : PE X (.IfExp c a b pos) (tIf tA ta tb) := by
  intro pins s σ H Q I h
  refine wpAny_IfExp (thn (hc pins s σ H _ I h) fun d s1 ⟨H1, I1, q1⟩ => ?_)
  cases d with
  | true => exact ha pins s1 σ H1 Q I1 q1
  | false => exact hb pins s1 σ H1 Q I1 q1
end
end L2

namespace L2
open PySem PySem.Spec PyProof.Rows

/-! ### a list, a tuple that is read: tracked, frozen, or an object of the module -/
def SqL (K : PySem.W.Frag) (H : Hp) (a : Addr) (xs : List V) : Prop :=
  Rd H a (.lst xs) ∨
    ∃ (o : Obj) (its : Array Value) (n : Nat), K.lookup a = some o ∧ o.cls = .type "list" ∧ o.dict = none ∧ o.data = .seq its n ∧ its.size ≤ sizeLine ∧ Vals xs its.toList
def SqT (K : PySem.W.Frag) (H : Hp) (a : Addr) (xs : List V) : Prop :=
  Rd H a (.tup xs) ∨
    ∃ (o : Obj) (its : Array Value) (n : Nat), K.lookup a = some o ∧ o.cls = .type "tuple" ∧ o.data = .seq its n ∧ its.size ≤ sizeLine ∧ Vals xs its.toList
def absV : Value → Option V
  | .none => some .non
  | .bool b => some (.bl b)
  | .int i _ => some (.int i)
  | .str x _ => some (.str x)
  | .bytes b _ => some (.byt b)
  | .float b _ => some (.flt b)
  | .ref a => some (.ref a)
  | .type n => some (.ty n)
  | _ => none
theorem RelV.abs {x : V} {u : Value} (r : RelV x u) : absV u = some x := by
  cases x with
  | non => cases r; rfl
  | bl _ => cases r; rfl
  | int _ => obtain ⟨t, rfl⟩ := r; rfl
  | str _ => obtain ⟨t, rfl⟩ := r; rfl
  | byt _ => obtain ⟨t, rfl⟩ := r; rfl
  | flt _ => obtain ⟨t, rfl⟩ := r; rfl
  | ref _ => cases r; rfl
  | ty _ => cases r; rfl
theorem RelV.inj {x y : V} {u : Value} (r : RelV x u) (q : RelV y u) : x = y := Option.some.inj (r.abs.symm.trans q.abs)
theorem Vals.inj : ∀ {xs ys : List V} {us : List Value}, Vals xs us → Vals ys us → xs = ys
  | _, _, _, .nil, .nil => rfl
  | _, _, _, .cons r t, .cons r' t' => by rw [r.inj r', Vals.inj t t']
section
variable {X : Cx} {pins : List (Addr × Obj)} {σ : St} {H : Hp} {s : Shared} {a : Addr} {xs ys : List V}
theorem SqL.of {K : PySem.W.Frag} (h : H a = some (.lst xs)) : SqL K H a xs := .inl (.inl h)
theorem SqT.of {K : PySem.W.Frag} (h : H a = some (.tup xs)) : SqT K H a xs := .inl (.inl h)
theorem Inv.list (I : Inv X pins σ H s) (h : SqL X.K H a xs) : ∃ its : List Value, Vals xs its ∧ PlainL s.heap a its.toArray ∧ xs.length ≤ sizeLine := by
  rcases h with h | ⟨o, its, n, hk, hc, hd, hs, hz, r⟩
  · obtain ⟨z, its, n, r, e⟩ := h.ok I.hok
    exact ⟨its, r, ⟨_, n, e, rfl, rfl, rfl⟩, z⟩
  · refine ⟨its.toList, r, ⟨o, n, I.kIn a o hk, hc, hd, by simpa using hs⟩, ?_⟩
    have e := r.length
    simp only [Array.length_toList] at e
    omega
theorem Inv.tuple (I : Inv X pins σ H s) (h : SqT X.K H a xs) : ∃ its : List Value, Vals xs its ∧ IsTup s.heap a its.toArray ∧ xs.length ≤ sizeLine := by
  rcases h with h | ⟨o, its, n, hk, hc, hs, hz, r⟩
  · obtain ⟨z, its, r, p⟩ := h.ok I.hok
    exact ⟨its, r, p, z⟩
  · refine ⟨its.toList, r, ⟨o, I.kIn a o hk, hc, n, by simpa using hs⟩, ?_⟩
    have e := r.length
    simp only [Array.length_toList] at e
    omega
theorem Inv.list_inj (I : Inv X pins σ H s) (h : SqL X.K H a xs) (h' : SqL X.K H a ys) : xs = ys := by
  obtain ⟨its, r, ⟨o, n, e, _, _, d⟩, _⟩ := I.list h
  obtain ⟨its', r', ⟨o', n', e', _, _, d'⟩, _⟩ := I.list h'
  rw [e] at e'; cases e'
  rw [d] at d'
  injection d' with d1 _
  have : its = its' := by simpa using congrArg Array.toList d1
  subst this
  exact r.inj r'
theorem Inv.tuple_inj (I : Inv X pins σ H s) (h : SqT X.K H a xs) (h' : SqT X.K H a ys) : xs = ys := by
  obtain ⟨its, r, ⟨o, e, _, n, d⟩, _⟩ := I.tuple h
  obtain ⟨its', r', ⟨o', e', _, n', d'⟩, _⟩ := I.tuple h'
  rw [e] at e'; cases e'
  rw [d] at d'
  injection d' with d1 _
  have : its = its' := by simpa using congrArg Array.toList d1
  subst this
  exact r.inj r'
end

/-! ### another wish about exceptions -/
abbrev Cx.wish (X : Cx) (E : Value → Shared → Prop) : Cx := { X with xe := E }
/-- no exception leaves -/
abbrev Cx.nox (X : Cx) : Cx := X.wish fun _ _ => False
theorem Cx.Ok.wish {X : Cx} (ok : X.Ok) (E : Value → Shared → Prop) : (X.wish E).Ok :=
  ⟨ok.mod, ok.kind, ok.glob, ok.blt, ok.above, ok.inj, ok.has, ok.cab, ok.hd, ok.frames, ok.stk, ok.exf, ok.bs, ok.bsz, ok.noex, ok.exfs, ok.funs, ok.frf⟩
theorem Cx.Ok.unwish {X : Cx} {E : Value → Shared → Prop} (ok : (X.wish E).Ok) : X.Ok :=
  ⟨ok.mod, ok.kind, ok.glob, ok.blt, ok.above, ok.inj, ok.has, ok.cab, ok.hd, ok.frames, ok.stk, ok.exf, ok.bs, ok.bsz, ok.noex, ok.exfs, ok.funs, ok.frf⟩
section
variable {X : Cx} {pins : List (Addr × Obj)} {σ : St} {H : Hp} {s : Shared} {E : Value → Shared → Prop}
theorem Inv.wish (I : Inv X pins σ H s) (E : Value → Shared → Prop) : Inv (X.wish E) pins σ H s := ⟨I.ok.wish E, I.os, I.bare, I.base, I.loc, I.cell, I.free, I.freeC, I.pin, I.hok, I.len⟩
theorem Inv.unwish (I : Inv (X.wish E) pins σ H s) : Inv X pins σ H s := ⟨I.ok.unwish, I.os, I.bare, I.base, I.loc, I.cell, I.free, I.freeC, I.pin, I.hok, I.len⟩
theorem SP.unwish {D : Ends} {f : Flow} {s' : Shared} (h : SP (X.wish E) pins D f s') : SP X pins D f s' := by
  cases f with
  | next => obtain ⟨σ', H', I, q⟩ := h; exact ⟨σ', H', I.unwish, q⟩
  | brk => obtain ⟨σ', H', I, q⟩ := h; exact ⟨σ', H', I.unwish, q⟩
  | cont => obtain ⟨σ', H', I, q⟩ := h; exact ⟨σ', H', I.unwish, q⟩
  | ret u => obtain ⟨v, σ', H', I, r, q⟩ := h; exact ⟨v, σ', H', I.unwish, r, q⟩
theorem PSs.nox {st : List Stmt} {t : TS} (h : PSs X.nox st t) : PSs X st t := fun pins s σ H D I hw =>
  wpAny_mono (h pins s σ H D (I.wish _) hw) (fun _ _ q => q.unwish) fun _ _ z => False.elim z
end

/-! ### blocks and small statements -/
section
variable {X : Cx} {st : Stmt} {rest : List Stmt} {t u : TS} {e : Expr} {te : TE} {pos : Pos}
def tNext : TS := fun D σ H => D.nx σ H
def tSeq (t u : TS) : TS := fun D σ H => t { D with nx := u D } σ H
theorem pss_nil : PSs X [] tNext := fun _ _ σ H _ I h => wpAny_execs_nil ⟨σ, H, I, h⟩
theorem pss_cons (h1 : PS X st t) (h2 : PSs X rest u) : PSs X (st :: rest) (tSeq t u) := by
  intro pins s σ H D I h
  refine wpAny_execs_cons (thn (h1 pins s σ H { D with nx := u D } I h) fun f s1 q => ?_)
  cases f with
  | next =>
    obtain ⟨σ', H', I', q⟩ := q
    exact h2 pins s1 σ' H' D I' q
  | ret v => exact q
  | brk => exact q
  | cont => exact q
theorem pss_one (h1 : PS X st t) : PSs X [st] t := by
  intro pins s σ H D I h
  refine wpAny_execs_cons (thn (h1 pins s σ H D I h) fun f s1 q => ?_)
  cases f with
  | next => exact wpAny_execs_nil q
  | ret v => exact q
  | brk => exact q
  | cont => exact q
/-- in a def's body nothing is shown -/
theorem Inv.quiet {pins : List (Addr × Obj)} {σ : St} {H : Hp} {s : Shared} (I : Inv X pins σ H s) : interactive X.env = false := by simp [interactive, I.ok.kind]
/-- an expression whose value is dropped -/
def tDrop (te : TE) : TS := fun D σ H => te σ H fun _ H1 => D.nx σ H1
theorem ps_expr (he : PE X e te) (hs : swapsWith e none pos.line X.env = pure false := by rfl) : PS X (.Expr e pos) (tDrop te) := by
  intro pins s σ H D I h
  exact wpAny_Expr_any (thn (he pins s σ H _ I h) fun v s1 ⟨x, H1, I1, r1, q1⟩ => ⟨σ, H1, I1, q1⟩) I.quiet hs
def tRet (te : TE) : TS := fun D σ H => te σ H D.rt
theorem ps_ret (he : PE X e te) : PS X (.Return (some e) pos) (tRet te) := by
  intro pins s σ H D I h
  exact wpAny_Return_some (thn (he pins s σ H _ I h) fun v s1 ⟨x, H1, I1, r1, q1⟩ => ⟨x, σ, H1, I1, r1, q1⟩)
def tIfS (c : TT) (t u : TS) : TS := fun D σ H => c σ H fun b H1 => if b = true then t D σ H1 else u D σ H1
theorem ps_if {c : Expr} {a b : List Stmt} {tc : TT} (hc : PT X c tc) (ha : PSs X a t) (hb : PSs X b u) : PS X (.If c a b pos) (tIfS tc t u) := by
  intro pins s σ H D I h
  refine wpAny_If (thn (hc pins s σ H _ I h) fun d s1 ⟨H1, I1, q1⟩ => ?_)
  cases d with
  | true => exact ha pins s1 σ H1 D I1 q1
  | false => exact hb pins s1 σ H1 D I1 q1
end

/-! ### targets -/
abbrev TG := V → St → Hp → (St → Hp → Prop) → Prop
abbrev TGs := List V → St → Hp → (St → Hp → Prop) → Prop
def PG (X : Cx) (target : Expr) (t : TG) : Prop :=
  ∀ (pins : List (Addr × Obj)) (s : Shared) (σ : St) (H : Hp) (v : V) (u : Value) (Q : St → Hp → Prop), Inv X pins σ H s → RelV v u → t v σ H Q →
    wpAny (model X.prog X.w) X.A (assign target X.env u) (fun _ s' => ∃ σ' H', Inv X pins σ' H' s' ∧ Q σ' H') X.xe s
/-- several targets, one after another -/
def PGs (X : Cx) (ts : List Expr) (t : TGs) : Prop :=
  ∀ (pins : List (Addr × Obj)) (s : Shared) (σ : St) (H : Hp) (vs : List V) (us : List Value) (Q : St → Hp → Prop), Inv X pins σ H s → Vals vs us → t vs σ H Q →
    wpAny (model X.prog X.w) X.A (assignInOrder ((assignEach ts X.env).map (·.2)) us) (fun _ s' => ∃ σ' H', Inv X pins σ' H' s' ∧ Q σ' H') X.xe s
section
variable {X : Cx} {pos : Pos}
def gName (i : Nat) : TG := fun v σ H Q => Q (σ.set i (some v)) H
theorem pg_name {i : Nat} {x : Str} (hN : X.N.Nodup) (hi : X.N[i]? = some x) (hx : Loc X.env.scope x) (hf : X.fn x = true ∨ X.env.scope.names.lookup x = some .local := by first | exact .inl rfl | exact .inr rfl | assumption) : PG X (.Name x pos) (gName i) := by
  intro pins s σ H v u Q I r h
  exact wpAny_assign_Name (store_ok I hN hi hx r (fun s' I' => ⟨_, H, I', h⟩) hf)
def gNil : TGs := fun vs σ H Q => vs = [] ∧ Q σ H
def gCons (t : TG) (u : TGs) : TGs := fun vs σ H Q => ∃ v r, vs = v :: r ∧ t v σ H fun σ' H' => u r σ' H' Q
theorem pgs_nil : PGs X [] gNil := by
  intro pins s σ H vs us Q I r h
  obtain ⟨e, h⟩ := h
  subst e
  cases r
  exact assignInOrder_nil ⟨σ, H, I, h⟩
theorem pgs_cons {e : Expr} {es : List Expr} {t : TG} {u : TGs} (h1 : PG X e t) (h2 : PGs X es u)
    (hs : (assignEach (e :: es) X.env).map (·.2) = assign e X.env :: (assignEach es X.env).map (·.2) := by rfl) : PGs X (e :: es) (gCons t u) := by
  intro pins s σ H vs us Q I r h
  obtain ⟨v, vr, e1, h⟩ := h
  subst e1
  cases r with
  | cons r rr =>
    rw [hs]
    refine assignInOrder_cons (thn (h1 pins s σ H _ _ _ I r h) fun _ s1 ⟨σ1, H1, I1, q1⟩ => ?_)
    exact h2 pins s1 σ1 H1 _ _ Q I1 rr q1
/-- (a, b, ..) = a tuple of that length -/
def gTup (K : PySem.W.Frag) (n : Nat) (t : TGs) : TG := fun v σ H Q => ∃ a xs, v = .ref a ∧ SqT K H a xs ∧ xs.length = n ∧ t xs σ H Q
theorem pg_tup {es : List Expr} {k : Nat} {t : TGs} {n : Nat} (hc : X.calm = true) (h : PGs X es t)
    (hn : (assignEach es X.env).length = n := by rfl) (hst : (assignEach es X.env).findIdx? (·.1) = none := by rfl) : PG X (.Tuple es k pos) (gTup X.K n t) := by
  intro pins s σ H v u Q I r hw
  obtain ⟨a, xs, e1, hq, hl, hw⟩ := hw
  subst e1
  cases r
  obtain ⟨its, rv, ht, hz⟩ := I.tuple hq
  refine assign_Tuple_tuple (I.ok.hd hc) ht (by simp [hn, ← hl, rv.length]) hst fun h' hx => ?_
  have I1 : Inv X pins σ H { s with heap := h' } := I.kept (t' := s.toks) fun b o e => hx b o (Nat.ne_of_lt (Heap.lt_size e)) e
  exact h pins _ σ H xs _ Q I1 (by simpa using rv) hw
/-- target = value -/
def tAsg (te : TE) (g : TG) : TS := fun D σ H => te σ H fun x H1 => g x σ H1 D.nx
theorem ps_asg {tg e : Expr} {te : TE} {g : TG} (he : PE X e te) (hg : PG X tg g) (hs : swapsWithSole [tg] e pos.line X.env = pure false := by rfl) (hw : swappedStores [tg] e X.env = pure none := by rfl)
    (h1 : (assignEach [tg] X.env).map (·.2) = [assign tg X.env] := by rfl) : PS X (.Assign [tg] e pos) (tAsg te g) := by
  intro pins s σ H D I h
  refine wpAny_Assign_stores (thn (he pins s σ H _ I h) fun v s1 ⟨x, H1, I1, r1, q1⟩ => ?_) hs hw
  rw [h1]
  exact thn (hg pins s1 σ H1 x v _ I1 r1 q1) fun _ s2 q => q
/-- name = value -/
theorem ps_set {i : Nat} {x : Str} {e : Expr} {te : TE} {pos' : Pos} (hN : X.N.Nodup) (hi : X.N[i]? = some x) (hx : Loc X.env.scope x) (he : PE X e te) (hs : swapsWith e (some (.Name x pos')) pos.line X.env = pure false := by rfl) (hf : X.fn x = true ∨ X.env.scope.names.lookup x = some .local := by first | exact .inl rfl | exact .inr rfl | assumption) :
    PS X (.Assign [.Name x pos'] e pos) (tAsg te (gName i)) := by
  intro pins s σ H D I h
  refine wpAny_Assign_Name (thn (he pins s σ H _ I h) fun v s1 ⟨y, H1, I1, r1, q1⟩ => ?_) hs
  exact store_ok I1 hN hi hx r1 (fun s2 I2 => ⟨_, H1, I2, q1⟩) hf
end

/-! ### while -/
section
variable {X : Cx} {pos : Pos}
end

/-! ### what a loop or a comprehension walks -/
/-- at turn i: it yields x (the heap may grow), or it stops -/
structure It where
  go : Nat → Hp → Prop
  yld : Nat → Hp → V → Hp → Prop
  stop : Nat → Hp → Prop
/-- the iterator's own objects may turn: they are not the frame's, not pinned, younger than the entry (or a comprehension's own) -/
def FpOk (X : Cx) (pins : List (Addr × Obj)) (H : Hp) (b : Addr) : Prop :=
  H b = none ∧ b ≠ X.env.locals ∧ b ∉ X.fs ∧ (b ∈ X.ex ∨ X.s₀.heap.objs.size ≤ b) ∧ (∀ x c, X.env.cells.lookup x = some c → c ≠ b) ∧ ∀ p ∈ X.pn ++ pins, p.1 ≠ b
theorem Inv.fpOk {X : Cx} {pins : List (Addr × Obj)} {σ : St} {H H' : Hp} {s : Shared} {b : Addr} (I : Inv X pins σ H s) (hb : s.heap.objs.size ≤ b) (hn : H' b = none) : FpOk X pins H' b := by
  refine ⟨hn, Nat.ne_of_gt (Nat.lt_of_lt_of_le I.lt hb), I.nofs hb, .inr (Nat.le_trans I.sz hb), fun x c e z => ?_, fun p hp z => ?_⟩
  · obtain ⟨v, q⟩ := I.cell x c e
    exact absurd (Nat.lt_of_lt_of_le q.lt (by rw [z]; exact hb)) (Nat.lt_irrefl _)
  · exact absurd (Nat.lt_of_lt_of_le (Heap.lt_size (I.pin p hp).1) (by rw [z]; exact hb)) (Nat.lt_irrefl _)
structure Turn (P : Program) (w : World) (K : PySem.W.Frag) (tg : Expr) (J : It) (fp : List Addr) (it : Addr) (tn : Nat → Heap → Prop) : Prop where
  mem : it ∈ fp
  obj : ∀ i h, tn i h → ∀ b ∈ fp, ∃ o, h.get? b = some o ∧ ∀ v, o.data ≠ .cell v
  keep : ∀ i h h', tn i h → (∀ b ∈ fp, ∀ o, h.get? b = some o → h'.get? b = some o) → tn i h'
  item : ∀ (X : Cx), X.prog = P → X.w = w → X.K = K → X.calm = true → ∀ (i : Nat) (pins : List (Addr × Obj)) (s : Shared) (σ : St) (H : Hp) (E : Value → Shared → Prop), Inv X pins σ H s → (∀ b ∈ fp, FpOk X pins H b) → tn i s.heap → J.go i H →
    wpAny (model P w) X.A (pyNext (.ref it)) (fun r s1 => ∃ u, r = some u ∧
      wpAny (model P w) X.A (letOwnedTupleGo tg (.ref it) u) (fun _ s2 => ∃ x H', Inv X pins σ H' s2 ∧ RelV x u ∧ J.yld i H x H' ∧ tn (i + 1) s2.heap ∧ ∀ b ∈ fp, H' b = none) E s1) E s
  done : ∀ (X : Cx), X.prog = P → X.w = w → X.K = K → X.calm = true → ∀ (i : Nat) (pins : List (Addr × Obj)) (s : Shared) (σ : St) (H : Hp) (E : Value → Shared → Prop), Inv X pins σ H s → (∀ b ∈ fp, FpOk X pins H b) → tn i s.heap → J.stop i H →
    wpAny (model P w) X.A (pyNext (.ref it)) (fun r s1 => r = none ∧ Inv X pins σ H s1) E s
  self : ∀ (A : Around) (i : Nat) (s : Shared) (Q : Value → Shared → Prop) (E : Value → Shared → Prop), tn i s.heap → Q (.ref it) s → wpAny (model P w) A (pyIter (.ref it)) Q E s
abbrev TI := St → Hp → (It → Hp → Prop) → Prop
/-- an iterator has come -/
def PIE (X : Cx) (pins : List (Addr × Obj)) (σ : St) (tg : Expr) (R : It → Hp → Prop) (itv : Value) (s2 : Shared) : Prop :=
  ∃ (it : Addr) (fp : List Addr) (tn : Nat → Heap → Prop) (J : It) (H' : Hp), itv = .ref it ∧ Inv X pins σ H' s2 ∧ Turn X.prog X.w X.K tg J fp it tn ∧ tn 0 s2.heap ∧ (∀ b ∈ fp, FpOk X pins H' b) ∧ R J H'
def PI (X : Cx) (tg iter : Expr) (wi : TI) : Prop :=
  ∀ (pins : List (Addr × Obj)) (s : Shared) (σ : St) (H : Hp) (R : It → Hp → Prop), Inv X pins σ H s → wi σ H R →
    wpAny (model X.prog X.w) X.A (eval iter X.env) (fun v s1 => wpAny (model X.prog X.w) X.A (pyIter v) (PIE X pins σ tg R) X.xe s1) X.xe s

/-- the step ahead of the store is nothing for an iterator that keeps no tuple -/
theorem go_of {M : Model} {A : Around} {E : Value → Shared → Prop} {s : Shared} {tg : Expr} {it : Addr} {u : Value} {o : Obj} {n : String} {vs : Array Value} {Q : Unit → Shared → Prop} (ho : s.heap.get? it = some o) (hc : o.cls = .type n) (hd : o.data = .fields vs)
    (hn : ["enumerate", "zip", "dict_itemiterator", "dict_reverseitemiterator", "odict_iterator", "itertools.zip_longest", "itertools.pairwise"].contains n = false) (hQ : Q () s) : wpAny M A (letOwnedTupleGo tg (.ref it) u) Q E s := by
  unfold letOwnedTupleGo
  cases tg <;> first
    | exact wpAny_pure hQ
    | (cases u <;> first
        | exact wpAny_pure hQ
        | (refine wpAny_bind (wpAny_load ho ?_)
           rw [hc, hd]
           show wpAny M A (if (["enumerate", "zip", "dict_itemiterator", "dict_reverseitemiterator", "odict_iterator", "itertools.zip_longest", "itertools.pairwise"].contains n && vs[0]? == some (rawInt _)) = true then _ else _) Q E s
           rw [if_neg (by intro h; rw [hn, Bool.false_and] at h; cases h)]
           exact wpAny_pure hQ))

/-- the list at a, as it stands at each turn (a loop may append to it) -/
def Itl (K : PySem.W.Frag) (a : Addr) : It :=
  ⟨fun i H => ∃ xs x, SqL K H a xs ∧ xs[i]? = some x, fun i H x H' => H' = H ∧ ∀ xs, SqL K H a xs → xs[i]? = some x, fun i H => ∃ xs, SqL K H a xs ∧ xs.length ≤ i⟩
def Itt (K : PySem.W.Frag) (a : Addr) : It :=
  ⟨fun i H => ∃ xs x, SqT K H a xs ∧ xs[i]? = some x, fun i H x H' => H' = H ∧ ∀ xs, SqT K H a xs → xs[i]? = some x, fun i H => ∃ xs, SqT K H a xs ∧ xs.length ≤ i⟩
/-- lo, lo + 1, .. (n of them) -/
def Itr (lo : Int) (n : Nat) : It := ⟨fun i _ => i < n, fun i H x H' => H' = H ∧ x = .int (lo + i), fun i _ => n ≤ i⟩
theorem turn_list {P : Program} {w : World} {K : PySem.W.Frag} {tg : Expr} (a it : Addr) : Turn P w K tg (Itl K a) [it] it (fun i h => h.IsListIter it a i) where
  mem := by simp
  obj := fun i h st b hb => by
    have e : b = it := by simpa using hb
    subst e
    obtain ⟨o, e, c, d⟩ := st
    exact ⟨o, e, fun v z => by rw [d] at z; cases z⟩
  keep := fun i h h' st k => st.at fun o e => k it (by simp) o e
  item := by
    intro X hP hw hK hc i pins s σ H E I hf st hg
    subst hP hw hK
    obtain ⟨xs, x, hq, hx⟩ := hg
    obtain ⟨its, rv, p, hz⟩ := I.list hq
    obtain ⟨u, hu, ru⟩ := rv.get hx
    obtain ⟨f0, f1, f2, f3, f4, f5⟩ := hf it (by simp)
    refine wpAny_pyNext_list_item st p.isList (x := u) (by simpa using hu) fun h' st' sb => ?_
    have I1 : Inv X pins σ H { s with heap := h' } := I.turned (t' := s.toks) (fun b o hb e => (sb.2 b hb).trans e) f0 f1 f3 f4 f5
    obtain ⟨o, e, c, d⟩ := id st'
    exact ⟨u, rfl, go_of (s := { s with heap := h' }) e c d (by decide) ⟨x, H, I1, ru, ⟨rfl, fun ys hy => by rw [I.list_inj hy hq]; exact hx⟩, st', fun b hb => (hf b hb).1⟩⟩
  done := by
    intro X hP hw hK hc i pins s σ H E I hf st hg
    subst hP hw hK
    obtain ⟨xs, hq, hx⟩ := hg
    obtain ⟨its, rv, p, hz⟩ := I.list hq
    obtain ⟨f0, f1, f2, f3, f4, f5⟩ := hf it (by simp)
    have hl := rv.length
    exact wpAny_pyNext_list_end (I.ok.hd hc) st p.isList (by simp; omega) fun h' eb => ⟨rfl, I.turned (t' := s.toks) (fun b o hb e => eb b o hb e) f0 f1 f3 f4 f5⟩
  self := fun _ _ _ _ _ st h => wpAny_pyIter_listiter st h
theorem turn_tuple {P : Program} {w : World} {K : PySem.W.Frag} {tg : Expr} (a it : Addr) : Turn P w K tg (Itt K a) [it] it (fun i h => h.IsTupleIter it a i) where
  mem := by simp
  obj := fun i h st b hb => by
    have e : b = it := by simpa using hb
    subst e
    obtain ⟨o, e, c, d⟩ := st
    exact ⟨o, e, fun v z => by rw [d] at z; cases z⟩
  keep := fun i h h' st k => st.at fun o e => k it (by simp) o e
  item := by
    intro X hP hw hK hc i pins s σ H E I hf st hg
    subst hP hw hK
    obtain ⟨xs, x, hq, hx⟩ := hg
    obtain ⟨its, rv, p, hz⟩ := I.tuple hq
    obtain ⟨u, hu, ru⟩ := rv.get hx
    obtain ⟨f0, f1, f2, f3, f4, f5⟩ := hf it (by simp)
    refine wpAny_pyNext_tuple_item st (show s.heap.IsTuple a its.toArray from p) (x := u) (by simpa using hu) fun h' st' sb => ?_
    have I1 : Inv X pins σ H { s with heap := h' } := I.turned (t' := s.toks) (fun b o hb e => (sb.2 b hb).trans e) f0 f1 f3 f4 f5
    obtain ⟨o, e, c, d⟩ := id st'
    exact ⟨u, rfl, go_of (s := { s with heap := h' }) e c d (by decide) ⟨x, H, I1, ru, ⟨rfl, fun ys hy => by rw [I.tuple_inj hy hq]; exact hx⟩, st', fun b hb => (hf b hb).1⟩⟩
  done := by
    intro X hP hw hK hc i pins s σ H E I hf st hg
    subst hP hw hK
    obtain ⟨xs, hq, hx⟩ := hg
    obtain ⟨its, rv, p, hz⟩ := I.tuple hq
    obtain ⟨f0, f1, f2, f3, f4, f5⟩ := hf it (by simp)
    have hl := rv.length
    exact wpAny_pyNext_tuple_end (I.ok.hd hc) st (show s.heap.IsTuple a its.toArray from p) (by simp; omega) fun h' eb => ⟨rfl, I.turned (t' := s.toks) (fun b o hb e => eb b o hb e) f0 f1 f3 f4 f5⟩
  self := fun _ _ _ _ _ st h => wpAny_pyIter_tupleiter st h
theorem turn_range {P : Program} {w : World} {K : PySem.W.Frag} {tg : Expr} (it : Addr) (lo : Int) (n : Nat) : Turn P w K tg (Itr lo n) [it] it (fun i h => IsRangeIter h it (lo + (i : Nat) * 1) ((n : Int) - (i : Nat)) 1) where
  mem := by simp
  obj := fun i h st b hb => by
    have e : b = it := by simpa using hb
    subst e
    exact ⟨_, st, fun v z => by
      have z' : Data.fields _ = Data.cell v := z
      cases z'⟩
  keep := fun i h h' st k => k it (by simp) _ st
  item := by
    intro X hP hw hK hc i pins s σ H E I hf st hg
    subst hP hw hK
    obtain ⟨f0, f1, f2, f3, f4, f5⟩ := hf it (by simp)
    have W := Walks.range (prog := X.prog) (w := X.w) (I.ok.hd hc) it lo 1 n
    refine W.item i s _ _ hg st fun v h' tk hv st' kk => ?_
    obtain ⟨t, rfl⟩ := hv
    have I1 : Inv X pins σ H { s with heap := h', toks := tk } := I.turned (fun b o hb e => kk b o (by simpa using hb) e) f0 f1 f3 f4 f5
    refine ⟨_, rfl, go_of (s := { s with heap := h', toks := tk }) (n := "range_iterator") st' rfl rfl (by decide) ⟨.int (lo + i), H, I1, ⟨t, ?_⟩, ⟨rfl, rfl⟩, st', fun b hb => (hf b hb).1⟩⟩
    rw [Int.mul_one]
  done := by
    intro X hP hw hK hc i pins s σ H E I hf st hg
    subst hP hw hK
    obtain ⟨f0, f1, f2, f3, f4, f5⟩ := hf it (by simp)
    exact wpAny_pyNext_range_end (I.ok.hd hc) st (by have : n ≤ i := hg; omega) fun h' eb => ⟨rfl, I.turned (t' := s.toks) (fun b o hb e => eb b o hb e) f0 f1 f3 f4 f5⟩
  self := fun _ _ _ _ _ st h => wpAny_pyIter_rangeiter st h
end L2

namespace L2
open PySem PySem.Spec PyProof.Rows
section
variable {X : Cx} {tg : Expr}
def iList (K : PySem.W.Frag) (tl : TE) : TI := fun σ H R => tl σ H fun x H1 => ∃ a, x = .ref a ∧ (∃ xs, SqL K H1 a xs) ∧ R (Itl K a) H1
def iTup (K : PySem.W.Frag) (tl : TE) : TI := fun σ H R => tl σ H fun x H1 => ∃ a, x = .ref a ∧ (∃ xs, SqT K H1 a xs) ∧ R (Itt K a) H1
theorem pi_list {l : Expr} {tl : TE} (hl : PE X l tl) : PI X tg l (iList X.K tl) := by
  intro pins s σ H R I h
  refine thn (hl pins s σ H _ I h) fun v s1 ⟨x, H1, I1, r1, q1⟩ => ?_
  obtain ⟨a, e, ⟨xs, hq⟩, q⟩ := q1
  subst e
  cases r1
  obtain ⟨its, rv, p, hz⟩ := I1.list hq
  refine wpAny_pyIter_list p.isList ?_
  refine ⟨s1.heap.objs.size, [s1.heap.objs.size], _, _, H1, rfl, I1.kept (t' := s1.toks) fun b o e => Heap.get?_push_of_some _ e, turn_list a _, ⟨_, Heap.get?_push_size _ rfl, rfl, rfl⟩, fun b hb => ?_, q⟩
  have e : b = s1.heap.objs.size := by simpa using hb
  subst e
  exact I1.fpOk (Nat.le_refl _) (I1.hok.fresh (Nat.le_refl _))
theorem pi_tup {l : Expr} {tl : TE} (hl : PE X l tl) : PI X tg l (iTup X.K tl) := by
  intro pins s σ H R I h
  refine thn (hl pins s σ H _ I h) fun v s1 ⟨x, H1, I1, r1, q1⟩ => ?_
  obtain ⟨a, e, ⟨xs, hq⟩, q⟩ := q1
  subst e
  cases r1
  obtain ⟨its, rv, p, hz⟩ := I1.tuple hq
  refine wpAny_pyIter_tuple (show s1.heap.IsTuple a its.toArray from p) ?_
  refine ⟨s1.heap.objs.size, [s1.heap.objs.size], _, _, H1, rfl, I1.kept (t' := s1.toks) fun b o e => Heap.get?_push_of_some _ e, turn_tuple a _, ⟨_, Heap.get?_push_size _ rfl, rfl, rfl⟩, fun b hb => ?_, q⟩
  have e : b = s1.heap.objs.size := by simpa using hb
  subst e
  exact I1.fpOk (Nat.le_refl _) (I1.hok.fresh (Nat.le_refl _))
/-- a range object just made, walked -/
theorem range_it {pins : List (Addr × Obj)} {σ : St} {H : Hp} {s : Shared} {R : It → Hp → Prop} {E : Value → Shared → Prop} {lo hi : Int} {t u v : Tok} {tk : Nat} (I : Inv X pins σ H s) (h1 : -(2 ^ 62) ≤ lo) (h2 : lo < 2 ^ 62) (h3 : -(2 ^ 62) ≤ hi) (h4 : hi < 2 ^ 62)
    (q : R (Itr lo (hi - lo).toNat) H) : wpAny (model X.prog X.w) X.A (pyIter (.ref s.heap.objs.size)) (PIE X pins σ tg R) E { s with heap := s.heap.push { cls := .type "range", data := .fields #[.int lo t, .int hi u, .int 1 v] }, toks := tk } := by
  refine wpAny_pyIter_range (IsRange.new ..) (small_one h1 h2 h3 h4) ?_
  have I1 : Inv X pins σ H { s with heap := s.heap.push { cls := .type "range", data := .fields #[.int lo t, .int hi u, .int 1 v] }, toks := tk } := I.kept fun b o e => Heap.get?_push_of_some _ e
  refine ⟨(s.heap.push { cls := .type "range", data := .fields #[.int lo t, .int hi u, .int 1 v] }).objs.size, [(s.heap.push { cls := .type "range", data := .fields #[.int lo t, .int hi u, .int 1 v] }).objs.size], _, _, H, rfl,
    I1.kept (t' := tk) fun b o e => Heap.get?_push_of_some _ e, turn_range _ lo (hi - lo).toNat, ?_, fun b hb => ?_, q⟩
  · have e1 : lo + ((0 : Nat) : Int) * 1 = lo := by simp
    have e2 : (((hi - lo).toNat : Nat) : Int) - ((0 : Nat) : Int) = Builtin.Range.rangeSize lo hi 1 := by rw [rangeSize_one]; split <;> omega
    show IsRangeIter _ _ (lo + ((0 : Nat) : Int) * 1) ((((hi - lo).toNat : Nat) : Int) - ((0 : Nat) : Int)) 1
    rw [e1, e2]
    exact Heap.get?_push_size _ rfl
  · have e : b = (s.heap.push { cls := .type "range", data := .fields #[.int lo t, .int hi u, .int 1 v] }).objs.size := by simpa using hb
    subst e
    exact I1.fpOk (Nat.le_refl _) (I1.hok.fresh (Nat.le_refl _))
def iRng1 (ta : TA) : TI := fun σ H R => ta σ H fun vs H1 => ∃ j : Int, vs = [.int j] ∧ -(2 ^ 62) ≤ j ∧ j < 2 ^ 62 ∧ R (Itr 0 j.toNat) H1
theorem pi_range1 {a : Expr} {ta : TA} {p pos : Pos} (hg : Gl X "range") (hm : X.mg "range" = none) (ha : PA X [a] ta) (hs : starEach [a] X.env = [(false, eval a X.env)] := by rfl) : PI X tg (.Call (.Name "range" p) [a] [] pos) (iRng1 ta) := by
  intro pins s σ H R I h
  refine Call_ (ld_blt I hg hm boot_range (PyProof.Rows.callWith_type1 (thn (ha pos pins s σ H _ I h) fun us s1 ⟨vs, H1, I1, r1, q1⟩ => ?_) hs rfl))
  obtain ⟨j, e, q1, q2, q⟩ := q1
  subst e
  cases r1 with
  | cons r rr =>
    cases rr
    obtain ⟨t, rfl⟩ := r
    exact call_range_1 (range_it I1 (by omega) (by omega) q1 q2 (by simpa using q))

/-! ### for -/
/-- W: the invariant by the turn and a measure; N: what the body is to reach -/
def tFor (wi : TI) (g : TG) (tb : TS) : TS := fun D σ H => wi σ H fun J H1 => ∃ W : Nat → Nat → St → Hp → Prop, (∃ m, W 0 m σ H1) ∧ ∀ i m σ H, W i m σ H →
  (J.stop i H ∧ D.nx σ H) ∨ (J.go i H ∧ ∃ N : St → Hp → Prop, (∀ σ' H', N σ' H' → ∃ m', m' < m ∧ W (i + 1) m' σ' H') ∧ ∀ x H', J.yld i H x H' → g x σ H' fun σ2 H2 => tb { D with nx := N, ct := N, bk := D.nx } σ2 H2)
/-- the records at fp as they stand -/
def pinsAt (fp : List Addr) (h : Heap) : List (Addr × Obj) := fp.filterMap fun b => (h.get? b).map fun o => (b, o)
theorem mem_pinsAt {fp : List Addr} {h : Heap} {b : Addr} {o : Obj} (hb : b ∈ fp) (e : h.get? b = some o) : (b, o) ∈ pinsAt fp h := List.mem_filterMap.mpr ⟨b, hb, by rw [e]; rfl⟩
theorem of_pinsAt {fp : List Addr} {h : Heap} {p : Addr × Obj} (hp : p ∈ pinsAt fp h) : p.1 ∈ fp ∧ h.get? p.1 = some p.2 := by
  obtain ⟨b, hb, e⟩ := List.mem_filterMap.mp hp
  cases q : h.get? b with
  | none => rw [q] at e; cases e
  | some o =>
    rw [q] at e
    have e' : (b, o) = p := Option.some.inj e
    subst e'
    exact ⟨hb, q⟩
theorem Inv.pinned {pins : List (Addr × Obj)} {σ : St} {H : Hp} {s : Shared} {fp : List Addr} (I : Inv X pins σ H s) (hf : ∀ b ∈ fp, FpOk X pins H b) (ho : ∀ b ∈ fp, ∃ o, s.heap.get? b = some o ∧ ∀ v, o.data ≠ .cell v) : Inv X (pins ++ pinsAt fp s.heap) σ H s :=
  I.pins_of fun p hp => (List.mem_append.mp hp).elim (fun z => I.pin p (List.mem_append_right _ z)) fun z => by
    obtain ⟨hb, e⟩ := of_pinsAt z
    obtain ⟨f0, f1, f2, _⟩ := hf p.1 hb
    obtain ⟨o, e', d⟩ := ho p.1 hb
    rw [e] at e'; cases e'
    exact ⟨e, f0, f1, f2, d⟩
theorem Inv.unpinned {pins pl : List (Addr × Obj)} {σ : St} {H : Hp} {s : Shared} (I : Inv X (pins ++ pl) σ H s) : Inv X pins σ H s := I.pins_of fun p hp => I.pin p (List.mem_append_right _ (List.mem_append_left _ hp))
theorem ps_for {iter : Expr} {body : List Stmt} {wi : TI} {g : TG} {tb : TS} {pos : Pos} (hp : PassesOwn (model X.prog X.w) X.A X.env X.xe) (hc : X.calm = true) (hi : PI X tg iter wi) (hg : PG X tg g) (hb : PSs X body tb)
    (hs : ∀ x, foldedSetIterable iter X.env x = pure x := by intro _; rfl) : PS X (.For tg iter body [] pos) (tFor wi g tb) := by
  intro pins s σ H D I h
  refine wpAny_For (thn (hi pins s σ H _ I h) fun v s1 h1 => thn h1 fun itv s2 h2 => ?_) hs
  obtain ⟨it, fp, tn, J, H2, e, I2, T, st2, f2, W, ⟨m0, w0⟩, turn⟩ := h2
  subst e
  -- what stays true of the iterator's objects through the loop
  have stat : ∀ {H' : Hp}, (∀ b ∈ fp, H' b = none) → ∀ b ∈ fp, FpOk X pins H' b := fun hn b hb => ⟨hn b hb, (f2 b hb).2⟩
  refine codeAny_forLoop_any (fun n s' => ∃ i σ' H', Inv X pins σ' H' s' ∧ tn i s'.heap ∧ (∀ b ∈ fp, H' b = none) ∧ W i n σ' H') ?_ m0 ⟨0, σ, H2, I2, st2, fun b hb => (f2 b hb).1, w0⟩
  rintro n s3 ⟨i, σ3, H3, I3, st3, fr3, w3⟩
  rcases turn i n σ3 H3 w3 with ⟨stop, qn⟩ | ⟨go, N, hN, step⟩
  · refine wpAny_passesOwn hp (thn (T.done X rfl rfl rfl hc i pins s3 σ3 H3 X.xe I3 (stat fr3) st3 stop) fun r s4 ⟨hr, I4⟩ => ?_)
    subst hr
    exact wpAny_execs_nil ⟨σ3, H3, I4, qn⟩
  · refine wpAny_passesOwn hp (thn (T.item X rfl rfl rfl hc i pins s3 σ3 H3 X.xe I3 (stat fr3) st3 go) fun r s4 ⟨u, hr, h4⟩ => ?_)
    subst hr
    refine wpAny_passesOwn hp (thn h4 fun _ s5 ⟨x, H5, I5, r5, y5, st5, fr5⟩ => ?_)
    have I5' := I5.pinned (stat fr5) (T.obj _ _ st5)
    refine wpAny_passesOwn hp (thn (hg _ s5 σ3 H5 x u _ I5' r5 (step x H5 y5)) fun _ s6 ⟨σ6, H6, I6, q6⟩ => ?_)
    refine wpAny_passesOwn hp (thn (hb _ s6 σ6 H6 _ I6 q6) fun f s7 q7 => ?_)
    have again : ∀ {σ7 : St} {H7 : Hp}, Inv X (pins ++ pinsAt fp s5.heap) σ7 H7 s7 → N σ7 H7 → ∃ m, m < n ∧ ∃ i σ' H', Inv X pins σ' H' s7 ∧ tn i s7.heap ∧ (∀ b ∈ fp, H' b = none) ∧ W i m σ' H' := fun {σ7 H7} I7 n7 => by
      obtain ⟨m', hm, w7⟩ := hN σ7 H7 n7
      refine ⟨m', hm, i + 1, σ7, H7, I7.unpinned, T.keep _ _ _ st5 fun b hb o e => (I7.pin (b, o) (List.mem_append_right _ (List.mem_append_right _ (mem_pinsAt hb e)))).1, fun b hb => ?_, w7⟩
      obtain ⟨o, e, d⟩ := T.obj _ _ st5 b hb
      exact (I7.pin (b, o) (List.mem_append_right _ (List.mem_append_right _ (mem_pinsAt hb e)))).2.1
    cases f with
    | next => obtain ⟨σ7, H7, I7, n7⟩ := q7; exact again I7 n7
    | cont => obtain ⟨σ7, H7, I7, n7⟩ := q7; exact again I7 n7
    | brk => obtain ⟨σ7, H7, I7, q7⟩ := q7; exact ⟨σ7, H7, I7.unpinned, q7⟩
    | ret v => obtain ⟨x7, σ7, H7, I7, r7, q7⟩ := q7; exact ⟨x7, σ7, H7, I7.unpinned, r7, q7⟩
end

/-! ### the forms one uses -/
/-- over a list that the body leaves as it is -/
theorem for_list {K : PySem.W.Frag} {a : Addr} {xs : List V} {g : TG} {tb : TS} {D : Ends} {σ : St} {H : Hp} (Pv : Nat → St → Hp → Prop) (h0 : Pv 0 σ H) (hl : ∀ i σ H, i ≤ xs.length → Pv i σ H → SqL K H a xs)
    (hs : ∀ i x σ H, xs[i]? = some x → Pv i σ H → g x σ H fun σ2 H2 => tb { D with nx := Pv (i + 1), ct := Pv (i + 1), bk := D.nx } σ2 H2) (hd : ∀ σ H, Pv xs.length σ H → D.nx σ H) :
    ∃ W : Nat → Nat → St → Hp → Prop, (∃ m, W 0 m σ H) ∧ ∀ i m σ H, W i m σ H →
      ((Itl K a).stop i H ∧ D.nx σ H) ∨ ((Itl K a).go i H ∧ ∃ N : St → Hp → Prop, (∀ σ' H', N σ' H' → ∃ m', m' < m ∧ W (i + 1) m' σ' H') ∧ ∀ x H', (Itl K a).yld i H x H' → g x σ H' fun σ2 H2 => tb { D with nx := N, ct := N, bk := D.nx } σ2 H2) := by
  refine ⟨fun i m σ H => m = xs.length - i ∧ i ≤ xs.length ∧ Pv i σ H, ⟨xs.length, by simp, Nat.zero_le _, h0⟩, ?_⟩
  rintro i m σ H ⟨rfl, hi, p⟩
  have q := hl i σ H hi p
  by_cases hlt : i < xs.length
  · refine .inr ⟨⟨xs, xs[i], q, by simp [hlt]⟩, Pv (i + 1), fun σ' H' p' => ⟨xs.length - (i + 1), by omega, rfl, hlt, p'⟩, fun x H' y => ?_⟩
    obtain ⟨e, y⟩ := y
    subst e
    exact hs i x σ _ (y xs q) p
  · have e : i = xs.length := by omega
    subst e
    exact .inl ⟨⟨xs, q, Nat.le_refl _⟩, hd σ H p⟩
theorem for_tup {K : PySem.W.Frag} {a : Addr} {xs : List V} {g : TG} {tb : TS} {D : Ends} {σ : St} {H : Hp} (Pv : Nat → St → Hp → Prop) (h0 : Pv 0 σ H) (hl : ∀ i σ H, i ≤ xs.length → Pv i σ H → SqT K H a xs)
    (hs : ∀ i x σ H, xs[i]? = some x → Pv i σ H → g x σ H fun σ2 H2 => tb { D with nx := Pv (i + 1), ct := Pv (i + 1), bk := D.nx } σ2 H2) (hd : ∀ σ H, Pv xs.length σ H → D.nx σ H) :
    ∃ W : Nat → Nat → St → Hp → Prop, (∃ m, W 0 m σ H) ∧ ∀ i m σ H, W i m σ H →
      ((Itt K a).stop i H ∧ D.nx σ H) ∨ ((Itt K a).go i H ∧ ∃ N : St → Hp → Prop, (∀ σ' H', N σ' H' → ∃ m', m' < m ∧ W (i + 1) m' σ' H') ∧ ∀ x H', (Itt K a).yld i H x H' → g x σ H' fun σ2 H2 => tb { D with nx := N, ct := N, bk := D.nx } σ2 H2) := by
  refine ⟨fun i m σ H => m = xs.length - i ∧ i ≤ xs.length ∧ Pv i σ H, ⟨xs.length, by simp, Nat.zero_le _, h0⟩, ?_⟩
  rintro i m σ H ⟨rfl, hi, p⟩
  have q := hl i σ H hi p
  by_cases hlt : i < xs.length
  · refine .inr ⟨⟨xs, xs[i], q, by simp [hlt]⟩, Pv (i + 1), fun σ' H' p' => ⟨xs.length - (i + 1), by omega, rfl, hlt, p'⟩, fun x H' y => ?_⟩
    obtain ⟨e, y⟩ := y
    subst e
    exact hs i x σ _ (y xs q) p
  · have e : i = xs.length := by omega
    subst e
    exact .inl ⟨⟨xs, q, Nat.le_refl _⟩, hd σ H p⟩
theorem for_range {lo : Int} {n : Nat} {g : TG} {tb : TS} {D : Ends} {σ : St} {H : Hp} (Pv : Nat → St → Hp → Prop) (h0 : Pv 0 σ H)
    (hs : ∀ i σ H, i < n → Pv i σ H → g (.int (lo + i)) σ H fun σ2 H2 => tb { D with nx := Pv (i + 1), ct := Pv (i + 1), bk := D.nx } σ2 H2) (hd : ∀ σ H, Pv n σ H → D.nx σ H) :
    ∃ W : Nat → Nat → St → Hp → Prop, (∃ m, W 0 m σ H) ∧ ∀ i m σ H, W i m σ H →
      ((Itr lo n).stop i H ∧ D.nx σ H) ∨ ((Itr lo n).go i H ∧ ∃ N : St → Hp → Prop, (∀ σ' H', N σ' H' → ∃ m', m' < m ∧ W (i + 1) m' σ' H') ∧ ∀ x H', (Itr lo n).yld i H x H' → g x σ H' fun σ2 H2 => tb { D with nx := N, ct := N, bk := D.nx } σ2 H2) := by
  refine ⟨fun i m σ H => m = n - i ∧ i ≤ n ∧ Pv i σ H, ⟨n, by simp, Nat.zero_le _, h0⟩, ?_⟩
  rintro i m σ H ⟨rfl, hi, p⟩
  by_cases hlt : i < n
  · refine .inr ⟨hlt, Pv (i + 1), fun σ' H' p' => ⟨n - (i + 1), by omega, rfl, hlt, p'⟩, fun x H' y => ?_⟩
    obtain ⟨e, y⟩ := y
    subst e y
    exact hs i σ _ hlt p
  · have e : i = n := by omega
    subst e
    exact .inl ⟨Nat.le_refl _, hd σ H p⟩
end L2

namespace L2
open PySem PySem.Spec PyProof.Rows

abbrev R2 := V → V → Hp → VK → Prop
/-- a two-place operation on values: f is binaryOp op, inplaceOp op or compareOp op -/
def OpR (X : Cx) (f : Value → Value → Sem Value) (r : R2) : Prop :=
  ∀ (pins : List (Addr × Obj)) (s : Shared) (σ : St) (H : Hp) (x y : V) (v u : Value) (Q : VK), Inv X pins σ H s → RelV x v → RelV y u → r x y H Q →
    wpAny (model X.prog X.w) X.A (f v u) (EP X pins σ Q) X.xe s
/-- a one-place operation -/
def UnR (X : Cx) (f : Value → Sem Value) (r : V → Hp → VK → Prop) : Prop :=
  ∀ (pins : List (Addr × Obj)) (s : Shared) (σ : St) (H : Hp) (x : V) (v : Value) (Q : VK), Inv X pins σ H s → RelV x v → r x H Q →
    wpAny (model X.prog X.w) X.A (f v) (EP X pins σ Q) X.xe s
/-- a call of a value that is known (a builtin, a type) with values -/
def CallR (X : Cx) (f : Value) (r : List V → Hp → VK → Prop) : Prop :=
  ∀ (pins : List (Addr × Obj)) (s : Shared) (σ : St) (H : Hp) (xs : List V) (us : List Value) (Q : VK), Inv X pins σ H s → Vals xs us → r xs H Q →
    wpAny (model X.prog X.w) X.A (call f us) (EP X pins σ Q) X.xe s

def tOp (r : R2) (ta tb : TE) : TE := fun σ H Q => ta σ H fun x H1 => tb σ H1 fun y H2 => r x y H2 Q
def tUn (r : V → Hp → VK → Prop) (ta : TE) : TE := fun σ H Q => ta σ H fun x H1 => r x H1 Q
/-- ints in, under C, and a value out -/
def rI (C : Int → Int → Prop) (g : Int → Int → V) : R2 := fun x y H Q => ∃ i j, x = .int i ∧ y = .int j ∧ C i j ∧ Q (g i j) H
def rI0 (g : Int → Int → V) : R2 := fun x y H Q => ∃ i j, x = .int i ∧ y = .int j ∧ Q (g i j) H
def rU (g : Int → V) : V → Hp → VK → Prop := fun x H Q => ∃ i, x = .int i ∧ Q (g i) H

section
variable {X : Cx} {a b c : Expr} {ta tb tc : TE} {pos : Pos}

theorem binT (ha : PE X a ta) (hb : PE X b tb) {pins : List (Addr × Obj)} {s : Shared} {σ : St} {H : Hp} {R : V → V → Hp → Prop} (I : Inv X pins σ H s)
    (h : ta σ H fun x H1 => tb σ H1 fun y H2 => R x y H2) {Q : Value → Shared → Prop} {f : Value → Value → Sem Value}
    (hf : ∀ v u s2 x y H2, Inv X pins σ H2 s2 → RelV x v → RelV y u → R x y H2 → wpAny (model X.prog X.w) X.A (f v u) Q X.xe s2) :
    wpAny (model X.prog X.w) X.A (eval a X.env) (fun v s₁ => wpAny (model X.prog X.w) X.A (eval b X.env) (fun u s₂ => wpAny (model X.prog X.w) X.A (f v u) Q X.xe s₂) X.xe s₁) X.xe s := by
  refine thn (ha pins s σ H _ I h) fun v s1 ⟨x, H1, I1, r1, q1⟩ => ?_
  refine thn (hb pins s1 σ H1 _ I1 q1) fun u s2 ⟨y, H2, I2, r2, q2⟩ => ?_
  exact hf v u s2 x y H2 I2 r1 r2 q2

theorem pe_op {op : Operator} {r : R2} (ho : OpR X (binaryOp op) r) (ha : PE X a ta) (hb : PE X b tb) : PE X (.BinOp a op b pos) (tOp r ta tb) := by
  intro pins s σ H Q I h
  exact wpAny_BinOp (binT ha hb I h fun v u s2 x y H2 I2 rx ry q => ho pins s2 σ H2 x y v u Q I2 rx ry q)
theorem pe_un {op : UnaryOp} {r : V → Hp → VK → Prop} (ho : UnR X (unaryOp op) r) (ha : PE X a ta) : PE X (.UnaryOp op a pos) (tUn r ta) := by
  intro pins s σ H Q I h
  exact UnaryOp_ (thn (ha pins s σ H _ I h) fun v s1 ⟨x, H1, I1, r1, q1⟩ => ho pins s1 σ H1 x v Q I1 r1 q1)

/-! ### ints -/
theorem opI {f : Value → Value → Sem Value} {C : Int → Int → Prop} {g : Int → Int → Int}
    (rule : ∀ (i j : Int) (t u : Tok) (s : Shared) (Q : Value → Shared → Prop) (E : Value → Shared → Prop), C i j → Q (.int (g i j) s.toks) { s with toks := s.toks + 1 } → wpAny (model X.prog X.w) X.A (f (.int i t) (.int j u)) Q E s) :
    OpR X f (rI C fun i j => .int (g i j)) := by
  intro pins s σ H x y v u Q I rx ry h
  obtain ⟨i, j, rfl, rfl, hc, q⟩ := h
  obtain ⟨t, rfl⟩ := rx
  obtain ⟨t', rfl⟩ := ry
  exact rule i j t t' s _ _ hc ⟨.int (g i j), H, I.tok _, ⟨_, rfl⟩, q⟩
theorem opI0 {f : Value → Value → Sem Value} {g : Int → Int → Int}
    (rule : ∀ (i j : Int) (t u : Tok) (s : Shared) (Q : Value → Shared → Prop) (E : Value → Shared → Prop), Q (.int (g i j) s.toks) { s with toks := s.toks + 1 } → wpAny (model X.prog X.w) X.A (f (.int i t) (.int j u)) Q E s) :
    OpR X f (rI0 fun i j => .int (g i j)) := by
  intro pins s σ H x y v u Q I rx ry h
  obtain ⟨i, j, rfl, rfl, q⟩ := h
  obtain ⟨t, rfl⟩ := rx
  obtain ⟨t', rfl⟩ := ry
  exact rule i j t t' s _ _ ⟨.int (g i j), H, I.tok _, ⟨_, rfl⟩, q⟩
theorem opB0 {f : Value → Value → Sem Value} {g : Int → Int → Bool}
    (rule : ∀ (i j : Int) (t u : Tok) (s : Shared) (Q : Value → Shared → Prop) (E : Value → Shared → Prop), Q (.bool (g i j)) s → wpAny (model X.prog X.w) X.A (f (.int i t) (.int j u)) Q E s) :
    OpR X f (rI0 fun i j => .bl (g i j)) := by
  intro pins s σ H x y v u Q I rx ry h
  obtain ⟨i, j, rfl, rfl, q⟩ := h
  obtain ⟨t, rfl⟩ := rx
  obtain ⟨t', rfl⟩ := ry
  exact rule i j t t' s _ _ ⟨.bl (g i j), H, I, rfl, q⟩

def CDiv (i j : Int) : Prop := 0 < j ∧ j < 1073741824
def CMul (i j : Int) : Prop := (-(2 ^ 64) < i ∧ i < 2 ^ 64) ∨ (-(2 ^ 64) < j ∧ j < 2 ^ 64)
theorem CMul.ok {i j : Int} (h : CMul i j) : IntMulOk i j := by
  rcases h with ⟨h1, h2⟩ | ⟨h1, h2⟩
  · exact .of_left (intBits_le_64 h1 h2)
  · exact .of_right (intBits_le_64 h1 h2)

theorem op_add : OpR X (binaryOp .Add) (rI0 fun i j => .int (i + j)) := opI0 fun _ _ _ _ _ _ _ q => add_int q
theorem op_sub : OpR X (binaryOp .Sub) (rI0 fun i j => .int (i - j)) := opI0 fun _ _ _ _ _ _ _ q => sub_int q
theorem op_mul : OpR X (binaryOp .Mult) (rI CMul fun i j => .int (i * j)) := opI fun _ _ _ _ _ _ _ hc q => mul_int q hc.ok
/-- // by a positive divisor -/
theorem op_fdiv : OpR X (binaryOp .FloorDiv) (rI CDiv fun i j => .int (i / j)) := opI fun i j _ _ _ _ _ hc q => by
  have h1 : (0 : Int) < j := hc.1
  have h2 : j < 1073741824 := hc.2
  exact floordiv_int (by omega) (by rw [Int.fdiv_eq_ediv_of_nonneg i (by omega)]; exact q) (.inl (PyProof.noPylong_small (by omega)))
/-- % by a positive divisor of any size -/
theorem op_mod : OpR X (binaryOp .Mod) (rI (fun _ j => 0 < j) fun i j => .int (i % j)) := opI fun i j _ _ _ _ _ hc q => by
  have h1 : (0 : Int) < j := hc
  exact mod_int' (by omega) (by rw [Int.fmod_eq_emod_of_nonneg i (by omega)]; exact q)

theorem unI {f : Value → Sem Value} {g : Int → Int}
    (rule : ∀ (i : Int) (t : Tok) (s : Shared) (Q : Value → Shared → Prop) (E : Value → Shared → Prop), Q (.int (g i) s.toks) { s with toks := s.toks + 1 } → wpAny (model X.prog X.w) X.A (f (.int i t)) Q E s) :
    UnR X f (rU fun i => .int (g i)) := by
  intro pins s σ H x v Q I rx h
  obtain ⟨i, rfl, q⟩ := h
  obtain ⟨t, rfl⟩ := rx
  exact rule i t s _ _ ⟨.int (g i), H, I.tok _, ⟨_, rfl⟩, q⟩
theorem un_neg : UnR X (unaryOp .USub) (rU fun i => .int (-i)) := unI fun _ _ _ _ _ q => neg_int q

/-! ### bools among ints: n += (a < b) -/
end

/-! ### comparisons -/
/-- the scalars that == tells apart as data does -/
def scal : V → V → Bool
  | .non, .non => true | .non, .int _ => true | .int _, .non => true | .non, .bl _ => true | .bl _, .non => true | .non, .str _ => true | .str _, .non => true
  | .int _, .int _ => true | .bl _, .bl _ => true | .str _, .str _ => true | .byt _, .byt _ => true
  | .int _, .str _ => true | .str _, .int _ => true | .bl _, .str _ => true | .str _, .bl _ => true
  | _, _ => false
def rEq : R2 := fun x y H Q => scal x y = true ∧ Q (.bl (decide (x = y))) H
def rNe : R2 := fun x y H Q => scal x y = true ∧ Q (.bl (!decide (x = y))) H

theorem dec_int {i j : Int} : decide (V.int i = V.int j) = (i == j) := by
  rw [Bool.eq_iff_iff]
  simp
theorem dec_bl {i j : Bool} : decide (V.bl i = V.bl j) = (i == j) := by
  rw [Bool.eq_iff_iff]
  simp
theorem dec_str {i j : Str} : decide (V.str i = V.str j) = (i == j) := by
  rw [Bool.eq_iff_iff]
  simp
theorem dec_byt {i j : Array UInt8} : decide (V.byt i = V.byt j) = (i.toList == j.toList) := by
  rw [Bool.eq_iff_iff]
  cases i
  cases j
  simp

section
variable {X : Cx} {a b c : Expr} {ta tb tc : TE} {pos : Pos}
theorem fin_bl {pins : List (Addr × Obj)} {σ : St} {H : Hp} {s : Shared} {Q : VK} {k k' : Bool} (I : Inv X pins σ H s) (q : Q (.bl k) H) (e : k = k') : EP X pins σ Q (.bool k') s := by
  subst e
  exact ⟨.bl k, H, I, rfl, q⟩
theorem op_eq : OpR X (compareOp .Eq) rEq := by
  intro pins s σ H x y v u Q I rx ry h
  obtain ⟨hs, q⟩ := h
  cases x with
  | non =>
    cases rx
    cases y with
    | non => cases ry; exact PySem.EqNone.eq_none_none (fin_bl I q (by simp))
    | bl j => cases ry; exact PySem.EqNone.eq_none_bool (fin_bl I q (by simp))
    | int j => obtain ⟨t', rfl⟩ := ry; exact PySem.EqNone.eq_none_int (fin_bl I q (by simp))
    | str j => obtain ⟨t', rfl⟩ := ry; exact PySem.EqNone.eq_none_str (fin_bl I q (by simp))
    | _ => exact absurd (show false = true from hs) Bool.false_ne_true
  | bl i =>
    cases rx
    cases y with
    | non => cases ry; exact PySem.EqNone.eq_bool_none (fin_bl I q (by simp))
    | bl j => cases ry; exact eq_bool (fin_bl I q dec_bl)
    | str j => obtain ⟨t', rfl⟩ := ry; exact PySem.EqMixed.eq_bool_str (fin_bl I q (by simp))
    | _ => exact absurd (show false = true from hs) Bool.false_ne_true
  | int i =>
    obtain ⟨t, rfl⟩ := rx
    cases y with
    | non => cases ry; exact PySem.EqNone.eq_int_none (fin_bl I q (by simp))
    | int j => obtain ⟨t', rfl⟩ := ry; exact eq_int (fin_bl I q dec_int)
    | str j => obtain ⟨t', rfl⟩ := ry; exact PySem.EqMixed.eq_int_str (fin_bl I q (by simp))
    | _ => exact absurd (show false = true from hs) Bool.false_ne_true
  | str i =>
    obtain ⟨t, rfl⟩ := rx
    cases y with
    | non => cases ry; exact PySem.EqNone.eq_str_none (fin_bl I q (by simp))
    | bl j => cases ry; exact PySem.EqMixed.eq_str_bool (fin_bl I q (by simp))
    | int j => obtain ⟨t', rfl⟩ := ry; exact PySem.EqMixed.eq_str_int (fin_bl I q (by simp))
    | str j => obtain ⟨t', rfl⟩ := ry; exact eq_str (fin_bl I q dec_str)
    | _ => exact absurd (show false = true from hs) Bool.false_ne_true
  | byt i =>
    obtain ⟨t, rfl⟩ := rx
    cases y with
    | byt j => obtain ⟨t', rfl⟩ := ry; exact PySem.W.eq_bytes (fin_bl I q dec_byt)
    | _ => exact absurd (show false = true from hs) Bool.false_ne_true
  | _ => cases y <;> exact absurd (show false = true from hs) Bool.false_ne_true
theorem op_ne : OpR X (compareOp .NotEq) rNe := by
  intro pins s σ H x y v u Q I rx ry h
  obtain ⟨hs, q⟩ := h
  cases x with
  | non =>
    cases rx
    cases y with
    | non => cases ry; exact PySem.EqNone.ne_none_none (fin_bl I q (by simp))
    | bl j => cases ry; exact PySem.EqNone.ne_none_bool (fin_bl I q (by simp))
    | int j => obtain ⟨t', rfl⟩ := ry; exact PySem.EqNone.ne_none_int (fin_bl I q (by simp))
    | str j => obtain ⟨t', rfl⟩ := ry; exact PySem.EqNone.ne_none_str (fin_bl I q (by simp))
    | _ => exact absurd (show false = true from hs) Bool.false_ne_true
  | bl i =>
    cases rx
    cases y with
    | non => cases ry; exact PySem.EqNone.ne_bool_none (fin_bl I q (by simp))
    | bl j => cases ry; exact ne_bool (fin_bl I q (congrArg not dec_bl))
    | str j => obtain ⟨t', rfl⟩ := ry; exact PySem.EqMixed.ne_bool_str (fin_bl I q (by simp))
    | _ => exact absurd (show false = true from hs) Bool.false_ne_true
  | int i =>
    obtain ⟨t, rfl⟩ := rx
    cases y with
    | non => cases ry; exact PySem.EqNone.ne_int_none (fin_bl I q (by simp))
    | int j => obtain ⟨t', rfl⟩ := ry; exact ne_int (fin_bl I q (congrArg not dec_int))
    | str j => obtain ⟨t', rfl⟩ := ry; exact PySem.EqMixed.ne_int_str (fin_bl I q (by simp))
    | _ => exact absurd (show false = true from hs) Bool.false_ne_true
  | str i =>
    obtain ⟨t, rfl⟩ := rx
    cases y with
    | non => cases ry; exact PySem.EqNone.ne_str_none (fin_bl I q (by simp))
    | bl j => cases ry; exact PySem.EqMixed.ne_str_bool (fin_bl I q (by simp))
    | int j => obtain ⟨t', rfl⟩ := ry; exact PySem.EqMixed.ne_str_int (fin_bl I q (by simp))
    | str j => obtain ⟨t', rfl⟩ := ry; exact ne_str (fin_bl I q (congrArg not dec_str))
    | _ => exact absurd (show false = true from hs) Bool.false_ne_true
  | byt i =>
    obtain ⟨t, rfl⟩ := rx
    cases y with
    | byt j => obtain ⟨t', rfl⟩ := ry; exact PySem.W.ne_bytes (fin_bl I q (congrArg not dec_byt))
    | _ => exact absurd (show false = true from hs) Bool.false_ne_true
  | _ => cases y <;> exact absurd (show false = true from hs) Bool.false_ne_true

theorem op_lt : OpR X (compareOp .Lt) (rI0 fun i j => .bl (decide (i < j))) := opB0 fun _ _ _ _ _ _ _ q => lt_int q
theorem op_gt : OpR X (compareOp .Gt) (rI0 fun i j => .bl (decide (j < i))) := opB0 fun _ _ _ _ _ _ _ q => gt_int q

/-- is None, is not None: the right side a value none -/
theorem op_isN : OpR X (compareOp .Is) (fun x y H Q => y = .non ∧ Q (.bl (decide (x = .non))) H) := by
  intro pins s σ H x y v u Q I rx ry h
  obtain ⟨rfl, q⟩ := h
  cases ry
  refine is_none_gen (fin_bl I q ?_)
  cases x <;> first
    | (cases rx; rfl)
    | (obtain ⟨t, rfl⟩ := rx; rfl)
theorem op_notN : OpR X (compareOp .IsNot) (fun x y H Q => y = .non ∧ Q (.bl (!decide (x = .non))) H) := by
  intro pins s σ H x y v u Q I rx ry h
  obtain ⟨rfl, q⟩ := h
  cases ry
  refine isnot_none_gen (fin_bl I q ?_)
  cases x <;> first
    | (cases rx; rfl)
    | (obtain ⟨t, rfl⟩ := rx; rfl)

theorem nomark (b : Expr) {op : CmpOp} (h : op ≠ .In := by decide) (h2 : op ≠ .NotIn := by decide) : behindInMarks op b = false := by
  have e1 : (op == CmpOp.In) = false := by cases op <;> first | rfl | exact absurd rfl h
  have e2 : (op == CmpOp.NotIn) = false := by cases op <;> first | rfl | exact absurd rfl h2
  cases b <;> simp [behindInMarks, e1, e2]
/-- a comparison as a value; hm: nomark b, or (for in, not in) by with_unfolding_all rfl -/
theorem pe_cmpR {op : CmpOp} {r : R2} (ho : OpR X (compareOp op) r) (ha : PE X a ta) (hb : PE X b tb) (hm : behindInMarks op b = false) : PE X (.Compare a [op] [b] pos) (tOp r ta tb) := by
  intro pins s σ H Q I h
  exact wpAny_Compare1 (binT ha hb I h fun v u s2 x y H2 I2 rx ry q => ho pins s2 σ H2 x y v u Q I2 rx ry q) hm
/-- a reading of a value as a test -/
def tTest (t : TE) : TT := fun σ H Q => t σ H fun x H' => ∃ k, x = .bl k ∧ Q k H'
theorem pt_cmpR {op : CmpOp} {r : R2} (ho : OpR X (compareOp op) r) (ha : PE X a ta) (hb : PE X b tb) (hm : behindInMarks op b = false) : PT X (.Compare a [op] [b] pos) (tTest (tOp r ta tb)) := by
  intro pins s σ H Q I h
  refine wpAny_isTrue_Compare1 (thn (ha pins s σ H _ I h) fun v s1 ⟨x, H1, I1, r1, q1⟩ => thn (hb pins s1 σ H1 _ I1 q1) fun u s2 ⟨y, H2, I2, r2, q2⟩ =>
    thn (ho pins s2 σ H2 x y v u _ I2 r1 r2 q2) fun c s3 ⟨z, H3, I3, r3, k, e, q3⟩ => ?_) hm
  subst e
  cases r3
  exact wpAny_truthy_bool ⟨H3, I3, q3⟩

/-! ### truth -/
theorem line63 : (sizeLine : Nat) < 2 ^ 63 := by rw [sizeLine_eq]; decide

/-! ### strs and bytes -/

/-! ### scalar builtins, by CallR -/
theorem vals1 {x : V} {us : List Value} (r : Vals [x] us) : ∃ u, us = [u] ∧ RelV x u := by
  cases r with
  | cons r1 r2 => cases r2; exact ⟨_, rfl, r1⟩
theorem vals2 {x y : V} {us : List Value} (r : Vals [x, y] us) : ∃ u w', us = [u, w'] ∧ RelV x u ∧ RelV y w' := by
  cases r with
  | cons r1 r2 =>
    cases r2 with
    | cons r3 r4 => cases r4; exact ⟨_, _, rfl, r1, r3⟩
theorem call_max2 (hc : X.calm = true) : CallR X (.builtin "max") (fun xs H Q => ∃ i j, xs = [.int i, .int j] ∧ Q (.int (if j > i then j else i)) H) := by
  intro pins s σ H xs us Q I r h
  obtain ⟨i, j, rfl, q⟩ := h
  obtain ⟨u, w', rfl, ⟨t, rfl⟩, ⟨t', rfl⟩⟩ := vals2 r
  refine max_two_ints (I.ok.hd hc) fun h' tk k => ⟨_, H, I.kept k, ?_, q⟩
  by_cases hj : j > i
  · rw [if_pos hj, if_pos hj]; exact ⟨_, rfl⟩
  · rw [if_neg hj, if_neg hj]; exact ⟨_, rfl⟩
theorem call_min2 (hc : X.calm = true) : CallR X (.builtin "min") (fun xs H Q => ∃ i j, xs = [.int i, .int j] ∧ Q (.int (if j < i then j else i)) H) := by
  intro pins s σ H xs us Q I r h
  obtain ⟨i, j, rfl, q⟩ := h
  obtain ⟨u, w', rfl, ⟨t, rfl⟩, ⟨t', rfl⟩⟩ := vals2 r
  refine min_two_ints (I.ok.hd hc) fun h' tk k => ⟨_, H, I.kept k, ?_, q⟩
  by_cases hj : j < i
  · rw [if_pos hj, if_pos hj]; exact ⟨_, rfl⟩
  · rw [if_neg hj, if_neg hj]; exact ⟨_, rfl⟩
end
end L2

namespace L2
open PySem PySem.Spec PyProof.Rows

/-! ### an instance, its attributes a map -/
structure ObjM (h : Heap) (x dx C : Addr) (mA : Str → Option Value) : Prop where
  obj : h.get? x = some (PySem.W.instObj C dx)
  ns : h.Ns1 dx mA
  ne : dx ≠ x

theorem lookIn_ns {h : Heap} {dx : Addr} {mA : Str → Option Value} (n : h.Ns1 dx mA) : ∃ od, h.get? dx = some od ∧ ∀ name, PySem.W.lookIn name od = some (mA name) := by
  obtain ⟨o, es, ep, ho, hd, hk, _, hm⟩ := n
  refine ⟨o, ho, fun name => ?_⟩
  have e := hm name
  unfold nsFind findBy at e
  rw [← Array.find?_toList] at e
  unfold PySem.W.lookIn
  rw [hd]
  dsimp only
  split
  · rename_i y q
    rw [q] at e
    exact congrArg some e
  · rename_i q
    rw [q] at e
    have a : es.toList.any (·.refKey) = false := by
      rw [List.any_eq_false]
      intro y hy
      obtain ⟨z, t, hkey⟩ := hk y (Array.mem_toList_iff.mp hy)
      simp [DictEntry.refKey, hkey]
    have a' : ¬ es.toList.any (·.refKey) = true := by rw [a]; exact Bool.false_ne_true
    rw [if_neg a']
    exact congrArg some e

theorem ObjM.look {h : Heap} {x dx C : Addr} {mA : Str → Option Value} (I : ObjM h x dx C mA) : ∃ od, PySem.W.InstAt h x (PySem.W.instObj C dx) C (some od) ∧ ∀ name, PySem.W.lookIn name od = some (mA name) :=
  let ⟨od, ho, hl⟩ := lookIn_ns I.ns
  ⟨od, ⟨I.obj, rfl, rfl, ho⟩, hl⟩

section
variable {prog : Program} {w : World} {A : Around} {E : Value → Shared → Prop} {s : Shared} {K : PySem.W.Frag} {x dx C f : Addr} {mA : Str → Option Value} {name : Str} {v : Value}

theorem get_map {expr : Bool} {Q : Value → Shared → Prop} (X : K.In s.heap) (I : ObjM s.heap x dx C mA) (hg : PySem.W.plainGet K C name = true) (hh : PySem.W.hasDictIn K C = true)
    (ha : PySem.W.findIn K (.ref C) name = some none) (hv : mA name = some v) (hv' : PySem.W.handedIn v = true) (h : Q v { s with toks := s.toks + 1 }) :
    wpAny (model prog w) A (getAttr (.ref x) name expr) Q E s := by
  obtain ⟨od, J, hl⟩ := I.look
  exact PySem.W.get_value X J (PySem.W.plainGet_of hg).1 (PySem.W.findObj_own hh ha rfl (by rw [hl, hv])) hv' h

theorem get_meth {pl : Sem Bool} {Q : Value × List Value → Shared → Prop} (X : K.In s.heap) (I : ObjM s.heap x dx C mA) (hg : PySem.W.plainGet K C name = true)
    (hf : PySem.W.findIn K (.ref C) name = some (some (.ref f))) (ht : PySem.W.isFn K (.ref f) = true) (hv : mA name = none) (h : Q (.ref f, [.ref x]) s) :
    wpAny (model prog w) A (getMethod (.ref x) name pl) Q E s := by
  obtain ⟨od, J, hl⟩ := I.look
  exact PySem.W.method_fn X J (PySem.W.plainGet_of hg).1 (PySem.W.plainGet_of hg).2 hf (beq_iff_eq.mp ht) (by show (PySem.W.lookIn name od).map (·.isSome) = some false; rw [hl, hv]; rfl) h

theorem set_map {ns : List Str} {Q : Unit → Shared → Prop} (X : K.In s.heap) (I : ObjM s.heap x dx C mA)
    (hs : PySem.W.findIn K (.ref C) "__setattr__" = some (some (.builtin "object.__setattr__"))) (hp : PySem.W.plainOver K C = true) (ht : PySem.W.takerIn K C name = some none) (hh : PySem.W.hasDictIn K C = true)
    (hw : PySem.Within mA ns) (hsz : ns.length ≤ sizeLine)
    (h : ∀ h', ObjM h' x dx C (fun y => if y = name then some v else mA y) → Heap.SameBut dx s.heap h' → Q () { s with heap := h', toks := s.toks + 2 }) :
    wpAny (model prog w) A (setAttr (.ref x) name v) Q E s := by
  obtain ⟨od, J, hl⟩ := I.look
  refine PySem.W.set_plain X J hs (PySem.W.osa_open (s := { s with toks := s.toks + 1 }) (r := none) X J hp ht fun b => ?_)
  obtain ⟨cd, hc, hd'⟩ := PySem.W.any_some hh
  have hx : s.heap.get? x = some ⟨.ref C, some dx, .plain, #[]⟩ := I.obj
  refine wpAny_bind (wpAny_pure (wpAny_bind (wpAny_bind (wpAny_loadPart hx (wpAny_bind (PySem.W.Looks.here (s := { s with toks := s.toks + 1 }) (PySem.W.looks_clsIn X hc) ?_))))))
  rw [hd']
  refine wpAny_pure (a := some dx) (wpAny_bind (wpAny_pure (wpAny_bind ?_)))
  refine wpAny_nsSet1 (s := { s with toks := s.toks + 1 }) I.ns fun h' hn2 hs2 => ?_
  obtain ⟨oD, esD, epD, hoD, hdD, hcD⟩ := hn2.count (PySem.Within.cons name v hw)
  refine wpAny_bind (wpAny_lookBehind hoD (by rw [hdD]; exact pastItsLine_dict (Nat.le_trans hcD (by rw [List.length_cons]; omega))) ?_)
  exact wpAny_pure (h _ ⟨(hs2.2 _ (Ne.symm I.ne)).trans I.obj, hn2, I.ne⟩ hs2)

/-- C(..): the dict at the heap's end, the instance behind it; then its __init__ -/
theorem make_map {R : Result → Shared → Prop} {vs : List Value} {kw : List (Str × Value)} (X : K.In s.heap) (hm : PySem.W.makesIn K C = true)
    (hi : PySem.W.findIn K (.ref C) "__init__" = some (some (.ref f))) (hf : PySem.W.typeIn K (.ref f) = some (.type "function"))
    (h : codeAny (model prog w) (A.under (.builtin "type.__call__" ⟨.ref C :: vs, kw⟩)) (.call (.ref f) ⟨.ref (s.heap.objs.size + 1) :: vs, kw⟩) (PySem.W.InitBack (s.heap.objs.size + 1) R)
      { s with heap := (s.heap.push PySem.W.emptyDict).push (PySem.W.instObj C s.heap.objs.size) }) :
    codeAny (model prog w) A (.call (.ref C) ⟨vs, kw⟩) R s := by
  obtain ⟨hh, g, d, t, os⟩ := s
  exact PySem.W.make_core (PySem.W.makes_of X hm) (PySem.W.looks_findIn X hi) (fun self => PySem.W.bind_fn X self hf) (.inl rfl) h
end

/-! ### the attributes as a list of pairs -/
def putF (f : Str) (v : V) : List (Str × V) → List (Str × V)
  | [] => [(f, v)]
  | (g, x) :: r => if g = f then (g, v) :: r else (g, x) :: putF f v r
theorem lookup_putF (f g : Str) (v : V) : ∀ fs : List (Str × V), (putF f v fs).lookup g = if g = f then some v else fs.lookup g
  | [] => by
    show List.lookup g [(f, v)] = _
    by_cases h : g = f
    · have hb : (g == f) = true := beq_iff_eq.mpr h
      simp only [List.lookup, hb, if_pos h]
    · have hb : (g == f) = false := beq_eq_false_iff_ne.mpr h
      simp only [List.lookup, hb, if_neg h]
  | (k, x) :: r => by
    have ih := lookup_putF f g v r
    rw [show putF f v ((k, x) :: r) = (if k = f then (k, v) :: r else (k, x) :: putF f v r) from rfl]
    by_cases hk : k = f
    · rw [if_pos hk]
      by_cases h : g = k
      · have hb : (g == k) = true := beq_iff_eq.mpr h
        simp only [List.lookup, hb, if_pos (h.trans hk)]
      · have hb : (g == k) = false := beq_eq_false_iff_ne.mpr h
        simp only [List.lookup, hb, if_neg (fun e : g = f => h (e.trans hk.symm))]
    · rw [if_neg hk]
      by_cases h : g = k
      · have hb : (g == k) = true := beq_iff_eq.mpr h
        simp only [List.lookup, hb, if_neg (fun e : g = f => hk (h.symm.trans e))]
      · have hb : (g == k) = false := beq_eq_false_iff_ne.mpr h
        simp only [List.lookup, hb]
        exact ih
theorem keys_putF (f : Str) (v : V) : ∀ fs : List (Str × V), f ∈ (putF f v fs).map (·.1) ∧ ∀ g, g ∈ fs.map (·.1) → g ∈ (putF f v fs).map (·.1)
  | [] => ⟨by simp [putF], fun g h => by simp at h⟩
  | (k, x) :: r => by
    obtain ⟨i1, i2⟩ := keys_putF f v r
    rw [show putF f v ((k, x) :: r) = (if k = f then (k, v) :: r else (k, x) :: putF f v r) from rfl]
    by_cases hk : k = f
    · rw [if_pos hk]
      subst hk
      exact ⟨by simp, fun g h => by simpa using h⟩
    · rw [if_neg hk]
      refine ⟨?_, fun g h => ?_⟩
      · rw [List.map_cons]
        exact List.mem_cons_of_mem _ i1
      · rw [List.map_cons] at h ⊢
        rcases List.mem_cons.mp h with e | e
        · exact List.mem_cons.mpr (.inl e)
        · exact List.mem_cons_of_mem _ (i2 g e)
theorem length_putF (f : Str) (v : V) : ∀ fs : List (Str × V), (putF f v fs).length ≤ fs.length + 1
  | [] => by simp [putF]
  | (k, x) :: r => by
    have ih := length_putF f v r
    rw [show putF f v ((k, x) :: r) = (if k = f then (k, v) :: r else (k, x) :: putF f v r) from rfl]
    by_cases hk : k = f
    · rw [if_pos hk, List.length_cons, List.length_cons]; omega
    · rw [if_neg hk, List.length_cons, List.length_cons]; omega

theorem RelO.some_of {v : V} {o : Option Value} (r : RelO (some v) o) : ∃ u, o = some u ∧ RelV v u := by
  cases o with
  | none => exact (show False from r).elim
  | some u => exact ⟨u, rfl, r⟩
theorem RelO.none_of {o : Option Value} (r : RelO none o) : o = none := by
  cases o with
  | none => rfl
  | some u => exact (show False from r).elim
theorem handed_of {v : V} {u : Value} (r : RelV v u) : PySem.W.handedIn u = true := by
  cases v with
  | non => cases (show u = Value.none from r); rfl
  | bl b => cases (show u = Value.bool b from r); rfl
  | int i => obtain ⟨t, e⟩ := (show ∃ t, u = Value.int i t from r); cases e; rfl
  | str x => obtain ⟨t, e⟩ := (show ∃ t, u = Value.str x t from r); cases e; rfl
  | byt b => obtain ⟨t, e⟩ := (show ∃ t, u = Value.bytes b t from r); cases e; rfl
  | flt b => obtain ⟨t, e⟩ := (show ∃ t, u = Value.float b t from r); cases e; rfl
  | ref a => cases (show u = Value.ref a from r); rfl
  | ty n => cases (show u = Value.type n from r); rfl

section
variable {P : Program} {w : World} {H H' : Hp} {h h' : Heap} {a C dx : Addr} {fs fs' : List (Str × V)}
theorem ins_get (hok : HOk P w H h) (e : H a = some (.ins C dx fs)) : ∃ mA, ObjM h a dx C mA ∧ (∀ f, RelO (fs.lookup f) (mA f)) ∧ PySem.Within mA (fs.map (·.1)) ∧ fs.length ≤ 1000 ∧ H dx = some (.own a) := by
  obtain ⟨d, z, ne, ob, mA, n, r, q⟩ := (show ObjOk P w H h a (.ins C dx fs) from hok a _ e)
  exact ⟨mA, ⟨ob, n, ne⟩, r, q, z, d⟩
end

/-! ### what of the text a class must have -/
structure Cls (K : PySem.W.Frag) (C : Addr) : Prop where
  pg : PySem.W.plainGet K C Str.empty = true
  hd : PySem.W.hasDictIn K C = true
  po : PySem.W.plainOver K C = true
  sa : PySem.W.findIn K (.ref C) "__setattr__" = some (some (.builtin "object.__setattr__"))
theorem Cls.get {K : PySem.W.Frag} {C : Addr} (c : Cls K C) (f : Str) : PySem.W.plainGet K C f = true := c.pg
/-- no class of it has the name -/
def NoAttr (K : PySem.W.Frag) (C : Addr) (f : Str) : Prop := PySem.W.findIn K (.ref C) f = some none
theorem NoAttr.taker {K : PySem.W.Frag} {C : Addr} {f : Str} (n : NoAttr K C f) : PySem.W.takerIn K C f = some none := by
  unfold PySem.W.takerIn
  rw [show PySem.W.findIn K (.ref C) f = some none from n]
  rfl
/-- a method: a plain def of the class or of one above it -/
structure Meth (K : PySem.W.Frag) (C : Addr) (m : Str) (f : Addr) : Prop where
  at_ : PySem.W.findIn K (.ref C) m = some (some (.ref f))
  fn : PySem.W.isFn K (.ref f) = true
  kp : PySem.W.keepIn K (.ref f) = true

section
variable {X : Cx} {pins : List (Addr × Obj)} {σ : St} {H : Hp} {s : Shared} {a C dx : Addr} {fs : List (Str × V)} {f : Str} {v : V} {A : Around} {E : Value → Shared → Prop}

theorem getattr_ok {b : Bool} {Q : Value → Shared → Prop} (I : Inv X pins σ H s) (e : H a = some (.ins C dx fs)) (c : Cls X.K C) (n : NoAttr X.K C f) (l : fs.lookup f = some v)
    (h : ∀ u s', Inv X pins σ H s' → RelV v u → Q u s') : wpAny (model X.prog X.w) A (getAttr (.ref a) f b) Q E s := by
  obtain ⟨mA, O, r, _, _, _⟩ := ins_get I.hok e
  obtain ⟨u, hu, ru⟩ := RelO.some_of (v := v) (o := mA f) (by rw [← l]; exact r f)
  exact get_map I.kIn O (c.get f) c.hd n hu (handed_of ru) (h u _ (I.tok _) ru)

theorem getmeth_ok {m : Str} {g : Addr} {pl : Sem Bool} {Q : Value × List Value → Shared → Prop} (I : Inv X pins σ H s) (e : H a = some (.ins C dx fs)) (c : Cls X.K C) (k : Meth X.K C m g) (l : fs.lookup m = none)
    (h : Q (.ref g, [.ref a]) s) : wpAny (model X.prog X.w) A (getMethod (.ref a) m pl) Q E s := by
  obtain ⟨mA, O, r, _, _, _⟩ := ins_get I.hok e
  have hn : mA m = none := RelO.none_of (by rw [← l]; exact r m)
  exact get_meth I.kIn O (c.get m) k.at_ k.fn hn h

theorem setattr_ok {y : V} {u : Value} {Q : Unit → Shared → Prop} (I : Inv X pins σ H s) (e : H a = some (.ins C dx fs)) (c : Cls X.K C) (n : NoAttr X.K C f) (hl : fs.length < 1000) (ry : RelV y u)
    (h : ∀ s', Inv X pins σ (upd H a (.ins C dx (putF f y fs))) s' → Q () s') : wpAny (model X.prog X.w) A (setAttr (.ref a) f u) Q E s := by
  obtain ⟨mA, O, r, wi, _, ho⟩ := ins_get I.hok e
  have hz : (fs.map (·.1)).length ≤ sizeLine := by rw [List.length_map, sizeLine_eq]; omega
  refine set_map I.kIn O c.sa c.po n.taker c.hd wi hz fun h' O' sb => h _ ?_
  have hd : ∃ o, h'.get? dx = some o := let ⟨o, _, _, e', _⟩ := O'.ns; ⟨o, e'⟩
  refine I.write (x := a) (e := dx) (by rw [e]; exact True.intro) (.inr ho) (fun b q hb z => (sb.2 b hb).trans z) hd ?_
  refine ⟨by rw [upd_ne O.ne]; exact ho, ?_, O.ne, O'.obj, _, O'.ns, fun g => ?_, fun g hg => ?_⟩
  · have := length_putF f y fs; omega
  · show RelO ((putF f y fs).lookup g) (if g = f then some u else mA g)
    rw [lookup_putF]
    by_cases q : g = f
    · rw [if_pos q, if_pos q]; exact ry
    · rw [if_neg q, if_neg q]; exact r g
  · by_cases q : g = f
    · rw [q]; exact (keys_putF f y fs).1
    · refine (keys_putF f y fs).2 g (wi g fun z => hg ?_)
      show (if g = f then some u else mA g) = none
      rw [if_neg q]; exact z

/-- a new instance, tracked, without attributes -/
theorem Inv.made (I : Inv X pins σ H s) : Inv X pins σ (upd (upd H s.heap.objs.size (.own (s.heap.objs.size + 1))) (s.heap.objs.size + 1) (.ins C s.heap.objs.size []))
    { s with heap := (s.heap.push PySem.W.emptyDict).push (PySem.W.instObj C s.heap.objs.size) } := by
  have e1 : (s.heap.push PySem.W.emptyDict).get? s.heap.objs.size = some PySem.W.emptyDict := Heap.get?_push_size s.heap rfl
  have e2 : ((s.heap.push PySem.W.emptyDict).push (PySem.W.instObj C s.heap.objs.size)).get? (s.heap.objs.size + 1) = some (PySem.W.instObj C s.heap.objs.size) := by
    have := Heap.get?_push_size (s.heap.push PySem.W.emptyDict) (o := PySem.W.instObj C s.heap.objs.size) rfl
    rwa [Heap.size_push] at this
  have e3 : (s.heap.push PySem.W.emptyDict).Ns s.heap.objs.size (fun _ => none) := ⟨PySem.W.emptyDict, #[], _, e1, rfl, (fun e he => absurd he (by simp)), fun _ => rfl⟩
  have I1 := I.laid (a := s.heap.objs.size) (o := .own (s.heap.objs.size + 1)) (h' := s.heap.push PySem.W.emptyDict) (t' := s.toks) (fun b u q => Heap.get?_push_of_some _ q) (Nat.le_refl _) ⟨_, e1⟩
  refine I1.laid (a := s.heap.objs.size + 1) (o := .ins C s.heap.objs.size []) (t' := s.toks) (fun b u q => Heap.get?_push_of_some _ q) (Nat.le_of_eq (Heap.size_push _ _)) ?_
  have ne : s.heap.objs.size ≠ s.heap.objs.size + 1 := Nat.ne_of_lt (Nat.lt_succ_self _)
  refine ⟨by rw [upd_ne ne, upd_same], Nat.zero_le _, ne, e2, fun _ => none, (Heap.Ns1.of_empty e3).at fun o q => Heap.get?_push_of_some _ q, fun _ => True.intro, fun y hy => absurd rfl hy⟩

/-- e.f where nothing but the object is asked: through attributeBase (super) and the last hold -/
theorem attr_of {prog : Program} {w : World} {env : Env} {e : Expr} {f : Str} {pos : Pos} {s : Shared} {Q : Value → Shared → Prop} (hb : attributeBase e f env (eval e env) = eval e env)
    (h : wpAny (model prog w) A (eval e env) (fun o s₁ => wpAny (model prog w) A (getAttr o f true) Q E s₁) E s) : wpAny (model prog w) A (eval (.Attribute e f pos) env) Q E s :=
  Attribute_any_ h (by rw [arm_eval_Attribute, hb])
end

/-! ### readings and rules -/
/-- e.f, an attribute of the instance -/
def tFld (K : PySem.W.Frag) (ta : TE) (f : Str) : TE := fun σ H Q => ta σ H fun x H1 => ∃ a C dx fs v, x = .ref a ∧ H1 a = some (.ins C dx fs) ∧ Cls K C ∧ NoAttr K C f ∧ fs.lookup f = some v ∧ Q v H1
/-- e.f = value -/
def sFld (K : PySem.W.Frag) (ta tv : TE) (f : Str) : TS := fun D σ H => tv σ H fun y H1 => ta σ H1 fun x H2 => ∃ a C dx fs, x = .ref a ∧ H2 a = some (.ins C dx fs) ∧ Cls K C ∧ NoAttr K C f ∧ fs.length < 1000 ∧
  D.nx σ (upd H2 a (.ins C dx (putF f y fs)))

section
variable {X : Cx} {o e value : Expr} {f : Str} {pos pos' tpos : Pos} {ta tv : TE}
theorem pe_fld (he : PE X e ta) (hb : attributeBase e f X.env (eval e X.env) = eval e X.env) : PE X (.Attribute e f pos) (tFld X.K ta f) := by
  intro pins s σ H Q I h
  refine attr_of hb (thn (he pins s σ H _ I h) fun u s1 ⟨x, H1, I1, rx, a, C, dx, fs, v, ex, ea, c, n, l, q⟩ => ?_)
  subst ex
  obtain rfl : u = Value.ref a := rx
  exact getattr_ok I1 ea c n l fun u' s2 I2 ru => ⟨v, H1, I2, ru, q⟩
theorem ps_fld (ha : PE X o ta) (hv : PE X value tv) (hs : swapsWith value (some (.Attribute o f pos')) pos.line X.env = pure false) : PS X (.Assign [.Attribute o f pos'] value pos) (sFld X.K ta tv f) := by
  intro pins s σ H D I h
  refine plainObj_wpAny_Assign_Attribute (thn (hv pins s σ H _ I h) fun u s1 ⟨y, H1, I1, ry, q⟩ => thn (ha pins s1 σ H1 _ I1 q) fun ov s2 ⟨x, H2, I2, rx, a, C, dx, fs, ex, ea, c, n, l, q2⟩ => ?_) hs
  subst ex
  obtain rfl : ov = Value.ref a := rx
  exact setattr_ok I2 ea c n l ry fun s3 I3 => ⟨σ, _, I3, q2⟩

end

/-! ### isinstance -/
section
variable {X : Cx} {pins : List (Addr × Obj)} {σ : St} {H : Hp} {s : Shared} {A : Around} {E : Value → Shared → Prop} {Q : Value → Shared → Prop} {c : Value} {b : Bool}
/-- the type of a value, as the fragment's deciders take it; for an instance its class -/
inductive TyOf (K : PySem.W.Frag) (H : Hp) : V → Value → Prop where
  | non : TyOf K H .non (.type "NoneType")
  | bl (x : Bool) : TyOf K H (.bl x) (.type "bool")
  | int (i : Int) : TyOf K H (.int i) (.type "int")
  | str (x : Str) : TyOf K H (.str x) (.type "str")
  | flt (x : UInt64) : TyOf K H (.flt x) (.type "float")
  | lst {a : Addr} {xs : List V} (e : H a = some (.lst xs)) : TyOf K H (.ref a) (.type "list")
  | frz {a : Addr} {o : Obj} {xs : List V} (e : H a = some (.frz o (.lst xs))) : TyOf K H (.ref a) (.type "list")
  | tup {a : Addr} {xs : List V} (e : H a = some (.tup xs)) : TyOf K H (.ref a) (.type "tuple")
  | dK {a : Addr} {kvs : List (Key × V)} (e : H a = some (.dK kvs)) : TyOf K H (.ref a) (.type "dict")
  | dT {a : Addr} {kvs : List (List Key × V)} (e : H a = some (.dT kvs)) : TyOf K H (.ref a) (.type "dict")
  | ins {a C dx : Addr} {fs : List (Str × V)} (e : H a = some (.ins C dx fs)) (cl : Cls K C) (ha : PySem.W.findIn K (.ref C) "__class__" = some (some (.builtin "object.__class__")))
      (hn : PySem.W.specialIn K (.builtin "object.__class__") "__get__" = some (some (.builtin "getset_descriptor.__get__"))) (htk : PySem.W.takesIn K (.builtin "object.__class__") = some true)
      (hm : PySem.W.mroIn K C (.type "object") = some true) : TyOf K H (.ref a) (.ref C)
/-- isinstance(x, c) for one class c, a built-in or an own one: kitOne's answer -/
theorem isinst_ok {x : V} {u t : Value} (I : Inv X pins σ H s) (rx : RelV x u) (ty : TyOf X.K H x t) (e : PySem.W.kitOne X.K t c = some b) (h : ∀ tk, Q (.bool b) { s with toks := tk }) :
    wpAny (model X.prog X.w) A (call (.builtin "isinstance") [u, c]) Q E s := by
  cases ty with
  | non => cases (show u = Value.none from rx); exact PySem.W.kia_one PySem.W.kitx_none I.kIn True.intro e (fun z => nomatch z) h
  | bl y => cases (show u = Value.bool y from rx); exact PySem.W.kia_one PySem.W.kitx_bool I.kIn True.intro e (fun z => nomatch z) h
  | int i => obtain ⟨t, q⟩ := (show ∃ t, u = Value.int i t from rx); cases q; exact PySem.W.kia_one PySem.W.kitx_int I.kIn True.intro e (fun z => nomatch z) h
  | str y => obtain ⟨t, q⟩ := (show ∃ t, u = Value.str y t from rx); cases q; exact PySem.W.kia_one PySem.W.kitx_str I.kIn True.intro e (fun z => nomatch z) h
  | flt y => obtain ⟨t, q⟩ := (show ∃ t, u = Value.float y t from rx); cases q; exact PySem.W.kia_one PySem.W.kitx_float I.kIn True.intro e (fun z => nomatch z) h
  | @lst a xs ea =>
    cases (show u = Value.ref a from rx)
    obtain ⟨_, _, n, _, h1⟩ := (show ObjOk X.prog X.w H s.heap a (.lst xs) from I.hok a _ ea)
    exact PySem.W.kia_one PySem.W.kitx_list I.kIn ⟨_, h1, rfl⟩ e (fun z => nomatch z) h
  | @frz a ob xs ea =>
    cases (show u = Value.ref a from rx)
    obtain ⟨_, _, _, n, _, h1⟩ := (show ObjOk X.prog X.w H s.heap a (.frz ob (.lst xs)) from I.hok a _ ea)
    exact PySem.W.kia_one PySem.W.kitx_list I.kIn ⟨_, h1, rfl⟩ e (fun z => nomatch z) h
  | @tup a xs ea =>
    cases (show u = Value.ref a from rx)
    obtain ⟨_, _, _, p⟩ := (show ObjOk X.prog X.w H s.heap a (.tup xs) from I.hok a _ ea)
    obtain ⟨o, h1, h2, _⟩ := p
    exact PySem.W.kia_one PySem.W.kitx_tuple I.kIn ⟨o, h1, h2⟩ e (fun z => nomatch z) h
  | @dK a kvs ea =>
    cases (show u = Value.ref a from rx)
    obtain ⟨_, _, vs, _, p⟩ := (show ObjOk X.prog X.w H s.heap a (.dK kvs) from I.hok a _ ea)
    obtain ⟨o, es, ep, h1, h2, _⟩ := p
    exact PySem.W.kia_one PySem.W.kitx_dict I.kIn ⟨o, h1, h2.1⟩ e (fun z => nomatch z) h
  | @dT a kvs ea =>
    cases (show u = Value.ref a from rx)
    obtain ⟨_, _, xs, _, o, es, ep, h1, h2, _⟩ := (show ObjOk X.prog X.w H s.heap a (.dT kvs) from I.hok a _ ea)
    exact PySem.W.kia_one PySem.W.kitx_dict I.kIn ⟨o, h1, h2.1⟩ e (fun z => nomatch z) h
  | @ins a C dx fs ea cl ha hn htk hm =>
    cases (show u = Value.ref a from rx)
    obtain ⟨mA, O, _⟩ := ins_get I.hok ea
    obtain ⟨od, J, _⟩ := O.look
    exact PySem.W.kia_one (PySem.W.kitx_own (cl.get _) cl.hd ha hn htk hm) I.kIn J e (fun z => nomatch z) h
end
end L2

namespace L2
open PySem PySem.Spec PyProof.Rows

/-! ### room -/
structure Room (k : Nat) (A : Around) : Prop where
  hd : A.handled = none
  dp : A.depth + 3 * k + 5 < recursionLimit
  un : A.units + 16 * k + 200 < cLine
theorem Room.mono {j k : Nat} {A : Around} (r : Room k A) (h : j ≤ k) : Room j A := ⟨r.hd, by have := r.dp; omega, by have := r.un; omega⟩
theorem Room.deeper {k : Nat} {A : Around} (r : Room (k + 1) A) (env : Env) : Room k (A.deeper env) :=
  ⟨r.hd, by have := r.dp; show A.depth + 1 + 3 * k + 5 < _; omega, by have := r.un; show A.units + 3 + 16 * k + 200 < _; omega⟩
theorem make_depth {A : Around} {C : Addr} {us : List Value} {kw : List (Str × Value)} : (A.under (.builtin "type.__call__" ⟨.ref C :: us, kw⟩)).depth = A.depth + 1 := by
  first | rfl | simp [Around.under, Code.weight, Code.isCreation, Code.isGuard, Code.isCaller, Code.frames, Code.isFrame, guardIds]
theorem make_units {A : Around} {C : Addr} {us : List Value} {kw : List (Str × Value)} : (A.under (.builtin "type.__call__" ⟨.ref C :: us, kw⟩)).units = A.units + 1 := by
  first | rfl | simp [Around.under, Code.cUnits, Code.frames, Code.isFrame]
theorem Room.make {k : Nat} {A : Around} (r : Room (k + 1) A) (C : Addr) (us : List Value) (kw : List (Str × Value)) : Room k (A.under (.builtin "type.__call__" ⟨.ref C :: us, kw⟩)) :=
  ⟨r.hd, by have := r.dp; rw [make_depth]; omega, by have := r.un; rw [make_units]; omega⟩
theorem Room.depth {k : Nat} {A : Around} (r : Room k A) : A.depth < recursionLimit := by have := r.dp; omega
theorem Room.units {k : Nat} {A : Around} (r : Room k A) : A.units + 64 < cLine := by have := r.un; omega
theorem Room.units0 {k : Nat} {A : Around} (r : Room k A) : A.units < cLine := by have := r.un; omega

/-! ### argument lists and displays -/
def tNil : TA := fun _ H Q => Q [] H
def tCons (ta : TE) (tr : TA) : TA := fun σ H Q => ta σ H fun x H1 => tr σ H1 fun xs H2 => Q (x :: xs) H2
section
variable {X : Cx} {e : Expr} {es : List Expr} {te : TE} {t : TA} {pos : Pos}
theorem pa_nil : PA X [] tNil := fun _ _ _ _ H Q I h => Calls.spliced_nil ⟨[], H, I, .nil, h⟩
theorem pa_cons (ha : PE X e te) (hr : PA X es t) (hs : starEach (e :: es) X.env = (false, eval e X.env) :: starEach es X.env := by rfl) : PA X (e :: es) (tCons te t) := by
  intro pos pins s σ H Q I h
  rw [hs]
  show wpAny _ _ (spliced ((false, eval e X.env) :: backTo pos (starEach es X.env))) _ _ s
  refine Calls.spliced_cons (thn (ha pins s σ H _ I h) fun u s1 ⟨x, H1, I1, r1, q1⟩ => ?_)
  exact thn (hr pos pins s1 σ H1 _ I1 q1) fun us s2 ⟨xs, H2, I2, r2, q2⟩ => ⟨x :: xs, H2, I2, .cons r1 r2, q2⟩

/-- a tuple, a list of written items -/
def tTup (t : TA) : TE := fun σ H Q => t σ H fun xs H1 => xs.length ≤ sizeLine ∧ ∀ p, H1 p = none → Q (.ref p) (upd H1 p (.tup xs))
def tLst (t : TA) : TE := fun σ H Q => t σ H fun xs H1 => xs.length ≤ sizeLine ∧ ∀ p, H1 p = none → Q (.ref p) (upd H1 p (.lst xs))
theorem pe_tup {x1} (h : PA X es t) : PE X (.Tuple es x1 pos) (tTup t) := by
  intro pins s σ H Q I hq
  refine wpAny_Tuple_spliced (thn (h pos pins s σ H _ I hq) fun us s1 ⟨xs, H1, I1, r, z, q⟩ => ⟨by rw [← r.length]; exact z, ?_⟩)
  have hf : H1 s1.heap.objs.size = none := I1.hok.fresh (Nat.le_refl _)
  refine ⟨.ref s1.heap.objs.size, upd H1 s1.heap.objs.size (.tup xs), I1.laid (t' := s1.toks) (fun b u e => Heap.get?_push_of_some _ e) (Nat.le_refl _) ?_, rfl, q _ hf⟩
  exact ⟨z, us, r, ⟨_, Heap.get?_push_size _ rfl, rfl, _, rfl⟩⟩
theorem pe_lst (h : PA X es t) : PE X (.List es pos) (tLst t) := by
  intro pins s σ H Q I hq
  refine wpAny_List_spliced (thn (h pos pins s σ H _ I hq) fun us s1 ⟨xs, H1, I1, r, z, q⟩ => ⟨by rw [← r.length]; exact z, ?_⟩)
  have hf : H1 s1.heap.objs.size = none := I1.hok.fresh (Nat.le_refl _)
  refine ⟨.ref s1.heap.objs.size, upd H1 s1.heap.objs.size (.lst xs), I1.laid (t' := s1.toks) (fun b u e => Heap.get?_push_of_some _ e) (Nat.le_refl _) ?_, rfl, q _ hf⟩
  exact ⟨z, us, 0, r, Heap.get?_push_size _ rfl⟩
end

/-! ### what a def promises -/
/-- a def's promise: the bound arguments in the parameters' order, the heap, the wanted end, the wanted exception -/
abbrev Sp := List V → Hp → VK → XK → Prop
/-- how an exception lies behind a call (file 08 gives it): the callers' frames, abstract heap and state ahead of the call, the wish, the exception, the state -/
abbrev CXT := List Env → Hp → Shared → XK → Value → Shared → Prop

/-- the state at a call -/
structure Env0 (P : Program) (w : World) (K : PySem.W.Frag) (mg : Str → Option Value) (base : Heap) (A : Around) (outer : List Env) (s : Shared) (H : Hp) : Prop where
  frames : A.frames = some outer
  mod : Mod K mg base
  bs : ∀ b o, base.get? b = some o → s.heap.get? b = some o ∧ H b = none
  bsz : base.objs.size ≤ s.heap.objs.size
  funs : s.heap.FunFrames base outer
  frf : ∀ b ∈ frs outer, H b = none
  hok : HOk P w H s.heap
  bare : AllBare s.gens
/-- a call's end -/
def CE (outer : List Env) (P : Program) (w : World) (H : Hp) (s : Shared) (Q : VK) (u : Value) (s' : Shared) : Prop :=
  ∃ v H', s'.os = s.os ∧ AllBare s'.gens ∧ Un (frs outer) [] H H' s.heap s'.heap ∧ HOk P w H' s'.heap ∧ RelV v u ∧ Q v H'
def CR (CX : CXT) (outer : List Env) (P : Program) (w : World) (H : Hp) (s : Shared) (Q : VK) (E : XK) (r : Result) (s' : Shared) : Prop :=
  match r with
  | .ok (.ret u) => CE outer P w H s Q u s'
  | .ok _ => False
  | .error e => CX outer H s E e s'
structure FnOk (P : Program) (w : World) (K : PySem.W.Frag) (mg : Str → Option Value) (base : Heap) (CX : CXT) (k : Nat) (f : Addr) (fd : FuncData) (ps : List Str) (sp : Sp) : Prop where
  len : ∀ vs H Q E, sp vs H Q E → vs.length = ps.length
  run : ∀ (A : Around) (outer : List Env) (s : Shared) (H : Hp) (args : Args) (us : List Value) (vs : List V) (Q : VK) (E : XK), Room k A → Env0 P w K mg base A outer s H → BindsTo s fd args (ps.zip us) → Vals vs us → sp vs H Q E →
    codeAny (model P w) A (.call (.ref f) args) (CR CX outer P w H s Q E) s

theorem Env0.make {P : Program} {w : World} {K : PySem.W.Frag} {mg : Str → Option Value} {base : Heap} {A : Around} {outer : List Env} {s : Shared} {H : Hp} (e : Env0 P w K mg base A outer s H) (C : Addr) (us : List Value) (kw : List (Str × Value)) :
    Env0 P w K mg base (A.under (.builtin "type.__call__" ⟨.ref C :: us, kw⟩)) outer s H := ⟨by first | exact e.frames | (simpa [Around.under, Code.envs, Code.isFrame, pushEnvs] using e.frames), e.mod, e.bs, e.bsz, e.funs, e.frf, e.hok, e.bare⟩

section
variable {X : Cx} {pins : List (Addr × Obj)} {σ : St} {H : Hp} {s s' : Shared}
/-- from a body: what a callee wants -/
theorem Inv.env0 (I : Inv X pins σ H s) : Env0 X.prog X.w X.K X.mg X.base X.A X.stack s H :=
  ⟨I.ok.frames, I.ok.mod, I.bs, Nat.le_trans I.ok.bsz I.sz, I.stack, I.stkFree, I.hok, I.bare⟩
/-- behind a call -/
theorem Inv.after {Q : VK} {u : Value} (I : Inv X pins σ H s) (h : CE X.stack X.prog X.w H s Q u s') : EP X pins σ Q u s' := by
  obtain ⟨v, H', os, bare, un, hok, r, q⟩ := h
  obtain ⟨hh, g, d, t, os'⟩ := s'
  obtain rfl : os' = s.os := os
  exact ⟨v, H', I.call (h' := hh) (g' := g) (d' := d) (t' := t) (ch := []) un hok bare (fun b z => absurd z (by simp)), r, q⟩
end

/-! ### calls -/
/-- f(..): the written arguments, then the defaults dvs; E: what is wanted of an exception -/
def tCall (sp : Sp) (dvs : List V) (E : XK) (t : TA) : TE := fun σ H Q => t σ H fun vs H1 => sp (vs ++ dvs) H1 Q E
/-- o.m(..) of an instance of the class at C -/
def tMeth (C : Addr) (m : Str) (sp : Sp) (dvs : List V) (E : XK) (ta : TE) (t : TA) : TE := fun σ H Q => ta σ H fun x H1 => ∃ a dx fs, x = .ref a ∧ H1 a = some (.ins C dx fs) ∧ fs.lookup m = none ∧
  t σ H1 fun vs H2 => sp (x :: (vs ++ dvs)) H2 Q E
/-- C(..): a new instance and its dict, then __init__ -/
def tMake (C : Addr) (sp : Sp) (dvs : List V) (E : XK) (t : TA) : TE := fun σ H Q => t σ H fun vs H1 => ∀ x dx, H1 x = none → H1 dx = none → dx ≠ x →
  sp (.ref x :: (vs ++ dvs)) (upd (upd H1 dx (.own x)) x (.ins C dx [])) (fun v H2 => v = .non ∧ Q (.ref x) H2) E

/-- how the parameters are bound: us the positional arguments, kw the keywords' values by name, ds the defaults that fill up -/
def Binds (K : PySem.W.Frag) (fd : FuncData) (ps : List Str) (ds : List Value) : Prop :=
  ∀ (s : Shared) (us : List Value), K.In s.heap → (us ++ ds).length = ps.length → BindsTo s fd ⟨us, []⟩ (ps.zip (us ++ ds))
/-- every parameter is given -/
theorem Binds.all {K : PySem.W.Frag} {fd : FuncData} {ps : List Str} (h : ∀ us : List Value, us.length = ps.length → bindArgs fd ⟨us, []⟩ = pure (ps.zip us)) : Binds K fd ps [] := fun s us _ hl => by
  rw [List.append_nil] at hl ⊢
  exact .of_eq (h us hl)

/-- an exception of a callee reaches what this body wants of exceptions -/
def Passes (CX : CXT) (X : Cx) (E : XK) : Prop := ∀ (pins : List (Addr × Obj)) (σ : St) (H : Hp) (s : Shared) (e : Value) (s' : Shared), Inv X pins σ H s → CX X.stack H s E e s' → X.xe e s'

section
variable {X : Cx} {CX : CXT} {k : Nat} {f C : Addr} {fd : FuncData} {ps : List Str} {sp : Sp} {dvs : List V} {ds : List Value} {E : XK} {x m : Str} {p pos apos : Pos} {e o : Expr} {es : List Expr} {ta : TE} {t : TA}

/-- the callee runs -/
theorem run_fn {pins : List (Addr × Obj)} {σ : St} {H : Hp} {s : Shared} {Q : VK} {us : List Value} {vs : List V} (F : FnOk X.prog X.w X.K X.mg X.base CX k f fd ps sp) (hr : Room k X.A) (hb : Binds X.K fd ps ds) (hd : Vals dvs ds) (hx : Passes CX X E)
    (I : Inv X pins σ H s) (r : Vals vs us) (h : sp (vs ++ dvs) H Q E) : wpAny (model X.prog X.w) X.A (call (.ref f) us) (EP X pins σ Q) X.xe s := by
  have r2 : Vals (vs ++ dvs) (us ++ ds) := r.append hd
  have hl : (us ++ ds).length = ps.length := by rw [← r2.length]; exact F.len _ _ _ _ h
  refine wpAny_call (codeAny_mono (F.run X.A X.stack s H ⟨us, []⟩ (us ++ ds) (vs ++ dvs) Q E hr I.env0 (hb s us I.kIn hl) r2 h) fun r s' hq => ?_)
  cases r with
  | error e => exact hx pins σ H s e s' I hq
  | ok fl =>
    cases fl with
    | ret u => exact I.after hq
    | next => exact False.elim hq
    | brk => exact False.elim hq
    | cont => exact False.elim hq

theorem pe_call (F : FnOk X.prog X.w X.K X.mg X.base CX k f fd ps sp) (hr : Room k X.A) (hg : Gl X x) (hm : X.mg x = some (.ref f)) (hk : PySem.W.keepIn X.K (.ref f) = true) (hb : Binds X.K fd ps ds) (hd : Vals dvs ds) (hx : Passes CX X E)
    (ha : PA X (e :: es) t) (hdb : (x == ("__debug__" : Str)) = false := by decide) (he : starEach (e :: es) X.env = (false, eval e X.env) :: starEach es X.env := by rfl) (hpl : (backTo pos (starEach es X.env)).any (·.1) = false := by rfl) :
    PE X (.Call (.Name x p) (e :: es) [] pos) (tCall sp dvs E t) := by
  intro pins s σ H Q I h
  refine wpAny_Call_Name_kw (ld_glob I hg hm ?_ hdb)
  refine PySem.W.callWith_K (h₀ := X.base) I.ok.mod.kin hk (thn (ha pos pins s σ H _ I h) fun us s1 ⟨vs, H1, I1, r, q⟩ => ⟨I1.kIn, ?_⟩) he hpl
  exact run_fn F hr hb hd hx I1 r q

/-- o.m(e, ..) -/
theorem pe_meth {pl : Sem Bool} (he : PE X o ta) (c : Cls X.K C) (hm : Meth X.K C m f) (F : FnOk X.prog X.w X.K X.mg X.base CX k f fd ps sp) (hr : Room k X.A) (hb : Binds X.K fd ps ds) (hd : Vals dvs ds) (hx : Passes CX X E) (ha : PA X (e :: es) t)
    (hst : starEach (e :: es) X.env = (false, eval e X.env) :: starEach es X.env := by rfl) (hpl : (backTo pos (starEach es X.env)).any (·.1) = false := by rfl)
    (ht : eval (.Call (.Attribute o m apos) (e :: es) [] pos) X.env = (do
      let ov ← eval o X.env
      standAt apos.atName
      let (f, first) ← holding [ov] (getMethod ov m pl)
      callWith pos f first (backTo pos (starEach (e :: es) X.env)) (backToKw pos (keywordEach [] X.env))) := by rfl) :
    PE X (.Call (.Attribute o m apos) (e :: es) [] pos) (tMeth C m sp dvs E ta t) := by
  intro pins s σ H Q I h
  refine PySem.W.methodCall_KW (pl := pl) (thn (he pins s σ H _ I h) fun u s1 ⟨x, H1, I1, rx, a, dx, fs, ex, ea, l, q⟩ => ?_) ht
  subst ex
  obtain rfl : u = Value.ref a := rx
  refine getmeth_ok I1 ea c hm l ?_
  refine PySem.W.callWith_K (first := [.ref a]) (h₀ := X.base) I.ok.mod.kin hm.kp (thn (ha pos pins s1 σ H1 _ I1 q) fun us s2 ⟨vs, H2, I2, r, q2⟩ => ⟨I2.kIn, ?_⟩) hst hpl
  exact run_fn (us := .ref a :: us) (vs := .ref a :: vs) F hr hb hd hx I2 (.cons rfl r) q2

/-- what a class must have to be made -/
structure Mk (K : PySem.W.Frag) (C f : Addr) : Prop where
  makes : PySem.W.makesIn K C = true
  init : PySem.W.findIn K (.ref C) "__init__" = some (some (.ref f))
  fn : PySem.W.isFn K (.ref f) = true
  kp : PySem.W.keepIn K (.ref C) = true

theorem run_make {pins : List (Addr × Obj)} {σ : St} {H : Hp} {s : Shared} {Q : VK} {us : List Value} {vs : List V} (M : Mk X.K C f) (F : FnOk X.prog X.w X.K X.mg X.base CX k f fd ps sp) (hr : Room (k + 1) X.A) (hb : Binds X.K fd ps ds) (hd : Vals dvs ds)
    (hx : Passes CX X E) (I : Inv X pins σ H s) (r : Vals vs us)
    (h : ∀ x dx, H x = none → H dx = none → dx ≠ x → sp (.ref x :: (vs ++ dvs)) (upd (upd H dx (.own x)) x (.ins C dx [])) (fun v H2 => v = .non ∧ Q (.ref x) H2) E) :
    wpAny (model X.prog X.w) X.A (call (.ref C) us) (EP X pins σ Q) X.xe s := by
  have hq := h (s.heap.objs.size + 1) s.heap.objs.size (I.hok.fresh (Nat.le_succ _)) (I.hok.fresh (Nat.le_refl _)) (Nat.ne_of_lt (Nat.lt_succ_self _))
  have I2 := Inv.made (C := C) I
  have r2 : Vals (V.ref (s.heap.objs.size + 1) :: (vs ++ dvs)) (Value.ref (s.heap.objs.size + 1) :: (us ++ ds)) := .cons rfl (r.append hd)
  have hl : (Value.ref (s.heap.objs.size + 1) :: us ++ ds).length = ps.length := by
    have e := r2.length
    rw [F.len _ _ _ _ hq] at e
    exact e.symm
  refine wpAny_call (make_map (f := f) I.kIn M.makes M.init (beq_iff_eq.mp M.fn) (codeAny_mono (F.run _ X.stack _ _ ⟨Value.ref (s.heap.objs.size + 1) :: us, []⟩ (Value.ref (s.heap.objs.size + 1) :: (us ++ ds)) _ _ E (hr.make C us [])
    (I2.env0.make C us []) (hb _ (Value.ref (s.heap.objs.size + 1) :: us) I2.kIn hl) r2 hq) fun r s' hq' => ?_))
  cases r with
  | error e => exact hx pins σ _ _ e s' I2 hq'
  | ok fl =>
    cases fl with
    | ret u =>
      obtain ⟨v, H', I3, rv, ev, q3⟩ := I2.after hq'
      subst ev
      exact ⟨rv, ⟨V.ref (s.heap.objs.size + 1), H', I3, rfl, q3⟩⟩
    | next => exact False.elim hq'
    | brk => exact False.elim hq'
    | cont => exact False.elim hq'
theorem pe_make (M : Mk X.K C f) (F : FnOk X.prog X.w X.K X.mg X.base CX k f fd ps sp) (hr : Room (k + 1) X.A) (hg : Gl X x) (hm : X.mg x = some (.ref C)) (hb : Binds X.K fd ps ds) (hd : Vals dvs ds) (hx : Passes CX X E)
    (ha : PA X (e :: es) t) (hdb : (x == ("__debug__" : Str)) = false := by decide) (he : starEach (e :: es) X.env = (false, eval e X.env) :: starEach es X.env := by rfl) (hpl : (backTo pos (starEach es X.env)).any (·.1) = false := by rfl) :
    PE X (.Call (.Name x p) (e :: es) [] pos) (tMake C sp dvs E t) := by
  intro pins s σ H Q I h
  refine wpAny_Call_Name_kw (ld_glob I hg hm ?_ hdb)
  refine PySem.W.callWith_K (h₀ := X.base) I.ok.mod.kin M.kp (thn (ha pos pins s σ H _ I h) fun us s1 ⟨vs, H1, I1, r, q⟩ => ⟨I1.kIn, ?_⟩) he hpl
  exact run_make M F hr hb hd hx I1 r q
end

/-! ### keywords -/
section
variable {X : Cx} {CX : CXT} {k : Nat} {f C : Addr} {fd : FuncData} {ps ks : List Str} {sp : Sp} {E : XK} {x m : Str} {p pos apos kpos : Pos} {e o : Expr} {es : List Expr} {kws : List Keyword} {te ta : TE} {t tk : TA} {nm : Option Str}

variable {g : List Value → List Value → List Value} {gV : List V → List V → List V}
end

/-! ### a def's body keeps its promise -/
/-- names: the parameters first -/
structure FnScope (N P : List Str) (sc : Scope) : Prop where
  kind : sc.kind = .function
  co : sc.isCoroutine = false
  gen : sc.isGenerator = false
  nd : N.Nodup
  pre : N.take P.length = P
  par : ∀ x ∈ P, sc.names.lookup x = some .local ∨ sc.names.lookup x = some .cell
  nofree : ∀ y ∈ sc.names, y.2 ≠ .free

theorem bindL_out {kindOf : Str → Option NameKind} {x : Str} : ∀ {binds : List (Str × Value)} {m : Str → Option Value}, (∀ v, (x, v) ∉ binds) → bindL kindOf binds m x = m x
  | [], _, _ => rfl
  | (n, v) :: r, m, h => by
    unfold bindL
    rw [bindL_out fun w hw => h w (List.mem_cons_of_mem _ hw)]
    split
    · have : x ≠ n := by rintro rfl; exact h v List.mem_cons_self
      simp [this]
    · rfl
theorem bindC_out {kindOf : Str → Option NameKind} {x : Str} : ∀ {binds : List (Str × Value)} {m : Str → Option Value}, (∀ v, (x, v) ∉ binds) → bindC kindOf binds m x = m x
  | [], _, _ => rfl
  | (n, v) :: r, m, h => by
    unfold bindC
    rw [bindC_out fun w hw => h w (List.mem_cons_of_mem _ hw)]
    split
    · rfl
    · have : x ≠ n := by rintro rfl; exact h v List.mem_cons_self
      simp [this]
theorem bindL_get {kindOf : Str → Option NameKind} {x : Str} {v : Value} : ∀ {P : List Str} {vs : List Value} {i : Nat} {m : Str → Option Value}, P.Nodup → P[i]? = some x → vs[i]? = some v → kindOf x = some .local →
    bindL kindOf (P.zip vs) m x = some v
  | [], _, _, _, _, h, _, _ => by simp at h
  | _ :: _, [], _, _, _, _, h, _ => by simp at h
  | p :: P, w :: vs, 0, m, nd, h1, h2, hk => by
    simp at h1 h2; subst h1; subst h2
    show bindL kindOf ((p, w) :: P.zip vs) m p = _
    unfold bindL
    rw [bindL_out fun v hv => (List.nodup_cons.mp nd).1 (List.of_mem_zip hv).1, if_pos hk]
    simp
  | p :: P, w :: vs, i + 1, m, nd, h1, h2, hk => by
    show bindL kindOf ((p, w) :: P.zip vs) m x = _
    unfold bindL
    exact bindL_get (i := i) (List.nodup_cons.mp nd).2 (by simpa using h1) (by simpa using h2) hk
theorem bindC_get {kindOf : Str → Option NameKind} {x : Str} {v : Value} : ∀ {P : List Str} {vs : List Value} {i : Nat} {m : Str → Option Value}, P.Nodup → P[i]? = some x → vs[i]? = some v → kindOf x ≠ some .local →
    bindC kindOf (P.zip vs) m x = some v
  | [], _, _, _, _, h, _, _ => by simp at h
  | _ :: _, [], _, _, _, _, h, _ => by simp at h
  | p :: P, w :: vs, 0, m, nd, h1, h2, hk => by
    simp at h1 h2; subst h1; subst h2
    show bindC kindOf ((p, w) :: P.zip vs) m p = _
    unfold bindC
    rw [bindC_out fun v hv => (List.nodup_cons.mp nd).1 (List.of_mem_zip hv).1, if_neg hk]
    simp
  | p :: P, w :: vs, i + 1, m, nd, h1, h2, hk => by
    show bindC kindOf ((p, w) :: P.zip vs) m x = _
    unfold bindC
    exact bindC_get (i := i) (List.nodup_cons.mp nd).2 (by simpa using h1) (by simpa using h2) hk

/-- the names' values at the entry -/
def start (N : List Str) (vs : List V) : St := vs.map some ++ List.replicate (N.length - vs.length) none

/-- the context of a def's body, at its entry; an exception leaves the frame, then lies as CX says -/
def cxOf (CX : CXT) (P : Program) (w : World) (K : PySem.W.Frag) (mg : Str → Option Value) (base : Heap) (N : List Str) (qual : Str) (scope : Scope) (f : Addr) (cd : Value) (A : Around) (outer : List Env) (s : Shared) (H : Hp) (E : XK) : Cx where
  prog := P
  w := w
  K := K
  mg := mg
  base := base
  A := A.deeper (envOfC qual scope s.heap.objs.size f cd)
  N := N
  s₀ := s
  H₀ := H
  env := envOfC qual scope s.heap.objs.size f cd
  outer := outer
  stack := envOfC qual scope s.heap.objs.size f cd :: outer
  ex := []
  calm := true
  fn := fun _ => true
  pn := []
  xe := fun e s' => wpAny (model P w) (A.deeper (envOfC qual scope s.heap.objs.size f cd)) (leaving (envOfC qual scope s.heap.objs.size f cd) e) (fun _ s'' => CX outer H s E e s'') (fun e' s'' => CX outer H s E e' s'') s'

theorem cell_has {sc : Scope} {n : Nat} {x : Str} (h : sc.names.lookup x = some .cell) : ∃ c, (cellsFrom n sc.names []).lookup x = some c := by
  have q := PySem.W.cellsFrom_some sc.names n [] (.inl h)
  exact Option.isSome_iff_exists.mp q

theorem inv_start {CX : CXT} {P : Program} {w : World} {K : PySem.W.Frag} {mg : Str → Option Value} {base : Heap} {N ps : List Str} {qual : Str} {scope : Scope} {f : Addr} {cd : Value} {A : Around} {outer : List Env} {s s1 : Shared} {H : Hp} {E : XK} {us : List Value} {vs : List V}
    (S : FnScope N ps scope) (hd : A.handled = none) (e0 : Env0 P w K mg base A outer s H) (hl : vs.length = ps.length) (r : Vals vs us)
    (x : InCallC s s.heap.objs.size (bindL (envOfC qual scope s.heap.objs.size f cd).kindOf (ps.zip us) fun _ => none) (cellsFrom (s.heap.objs.size + 1) scope.names []) (bindC (envOfC qual scope s.heap.objs.size f cd).kindOf (ps.zip us) fun _ => none) s1) :
    Inv (cxOf CX P w K mg base N qual scope f cd A outer s H E) [] (start N vs) H s1 := by
  have hpl : ps.length ≤ N.length := by have := congrArg List.length S.pre; rw [List.length_take] at this; omega
  obtain ⟨h1, tk, rfl, hk⟩ := x.done
  have noA : ∀ b : Addr, b ∉ (cxOf CX P w K mg base N qual scope f cd A outer s H E).ex := fun b z => absurd (show b ∈ ([] : List Addr) from z) (by simp)
  refine ⟨⟨e0.mod, S.kind, rfl, rfl, Nat.le_refl _, fun y z c h1 h2 => ?_, fun y hy => ?_, fun y c _ h => ?_, fun _ => hd, Around.frames_deeper e0.frames, .inr ⟨rfl, rfl⟩, fun b z => absurd z (noA b), e0.bs, e0.bsz, fun b _ _ => noA b, fun b z => absurd z (noA b), e0.funs, e0.frf⟩,
    rfl, e0.bare, Un.kept hk, ⟨_, x.toInCall.ns, fun i y v h1 h2 h3 => ?_⟩, fun y c h => ⟨_, x.cell y c h⟩, e0.hok.fresh (Nat.le_refl _), fun y c h => ?_, fun p hp => absurd (show p ∈ ([] : List (Addr × Obj)) from hp) (by simp), e0.hok.kept hk, ?_⟩
  · exact name_of_addr x.apart (PySem.mem_of_lookup h1) (PySem.mem_of_lookup h2)
  · have hy : scope.names.lookup y = some .cell ∨ scope.names.lookup y = some .free := hy
    rcases hy with hy | hy
    · exact cell_has hy
    · exact absurd rfl (S.nofree _ (PySem.mem_of_lookup hy))
  · exact Nat.le_of_lt (x.above y c (PySem.mem_of_lookup h))
  · have hi : i < vs.length := by
      unfold start at h2
      by_cases hi : i < vs.length
      · exact hi
      · rw [List.getElem?_append_right (by simpa using hi)] at h2
        rw [List.getElem?_replicate] at h2
        split at h2 <;> cases h2
    have ha : vs[i]? = some v := by
      unfold start at h2
      rw [List.getElem?_append_left (by simpa using hi), List.getElem?_map] at h2
      cases e : vs[i]? with
      | none => rw [e] at h2; cases h2
      | some a => rw [e] at h2; cases h2; rfl
    obtain ⟨u, hu, rv⟩ := r.get ha
    have hp : ps[i]? = some y := by
      rw [← S.pre, List.getElem?_take_of_lt (by omega)]; exact h1
    have ndP : ps.Nodup := by rw [← S.pre]; exact S.nd.sublist (List.take_sublist _ _)
    refine ⟨u, rv, ?_⟩
    rcases S.par y (List.mem_of_getElem? hp) with k | k
    · exact .inl ⟨k, bindL_get ndP hp hu k⟩
    · obtain ⟨c, e⟩ := cell_has (n := s.heap.objs.size + 1) k
      refine .inr ⟨.inl k, c, e, ?_⟩
      have q := x.cell y c e
      rw [bindC_get ndP hp hu (by show scope.names.lookup y ≠ _; rw [k]; decide)] at q
      exact q
  · exact e0.hok.fresh (Nat.le_of_lt (x.above y c (PySem.mem_of_lookup h)))
  · unfold start
    show _ = N.length
    rw [List.length_append, List.length_map, List.length_replicate]
    omega

/-- THE RULE: a def (or a method) of the text, by its body. The body's reading t is chosen for each entry; it is run at the parameters' values -/
theorem fn_of {CX : CXT} {P : Program} {w : World} {K : PySem.W.Frag} {mg : Str → Option Value} {base : Heap} {k : Nat} {f : Addr} {name qual : Str} {params : Arguments} {body : List Stmt} {scope : Scope} {dV kV doc pm cdv ct oc : Value} {an od : Option Addr}
    {osl : Array (Option Value)} {N ps : List Str} {sp : Sp} (lk : K.lookup f = some ⟨oc, od, .func (PySem.W.fnOf name qual params body scope dV kV doc pm an cdv ct), osl⟩) (hcd : PySem.W.codeIn K cdv qual = true) (S : FnScope N ps scope)
    (len : ∀ vs H Q E, sp vs H Q E → vs.length = ps.length)
    (hbody : ∀ (A : Around) (outer : List Env) (s : Shared) (H : Hp) (vs : List V) (Q : VK) (E : XK), Room k (A.deeper (envOfC qual scope s.heap.objs.size f cdv)) → sp vs H Q E →
      ∃ t, PSs (cxOf CX P w K mg base N qual scope f cdv A outer s H E) body t ∧ t { nx := fun _ H' => Q .non H', rt := Q } (start N vs) H) :
    FnOk P w K mg base CX (k + 1) f (PySem.W.fnOf name qual params body scope dV kV doc pm an cdv ct) ps sp := by
  refine ⟨len, fun A outer s H args us vs Q E hr e0 hb r hsp => ?_⟩
  have hl := len _ _ _ _ hsp
  have KX : K.In s.heap := e0.mod.kin.keeps fun b o e => (e0.bs b o e).1
  have lim : s.heap.NoLimit := e0.mod.nolimit.keeps fun b o e => (e0.bs b o e).1
  have hkind : ∀ y ∈ ps.zip us, scope.names.lookup y.1 = some .local ∨ (scope.names.lookup y.1 = some .cell ∧ ((cellsFrom (s.heap.objs.size + 1) scope.names []).lookup y.1).isSome = true) := fun ⟨n, v⟩ hy => by
    rcases S.par n (List.of_mem_zip hy).1 with q | q
    · exact .inl q
    · exact .inr ⟨q, PySem.W.cellsFrom_some _ _ _ (.inl q)⟩
  refine codeAny_call_function hr.depth (KX _ _ lk) rfl S.co S.gen rfl (PySem.W.codeRec_of KX hcd) (hb _ _ _ _ ?_)
  refine wpAny_newFunctionEnv_cells S.kind hkind fun env he s1 x => ?_
  subst he
  refine ⟨lim.keeps x.toInCall.keep, codeAny_func ?_⟩
  obtain ⟨t, ht, hq⟩ := hbody A outer s H vs Q E (hr.deeper _) hsp
  have I : Inv (cxOf CX P w K mg base N qual scope f cdv A outer s H E) [] (start N vs) H s1 := inv_start S hr.hd e0 hl r x
  refine wpAny_mono (ht [] s1 (start N vs) H _ I hq) (fun fl s' hs => ?_) fun e s' hs => hs
  have fin : ∀ {σ' : St} {H' : Hp} {v : V} {u : Value}, Inv (cxOf CX P w K mg base N qual scope f cdv A outer s H E) [] σ' H' s' → RelV v u → Q v H' → CE outer P w H s Q u s' :=
    fun {σ' H' v u} J rv q => ⟨v, H', J.os, J.bare, J.base, J.hok, rv, q⟩
  cases fl with
  | ret u =>
    obtain ⟨v, σ', H', J, rv, q⟩ := hs
    exact fin J rv q
  | next =>
    obtain ⟨σ', H', J, q⟩ := hs
    exact fin (v := V.non) (u := Value.none) J rfl q
  | brk =>
    obtain ⟨_, _, _, q⟩ := hs
    exact False.elim q
  | cont =>
    obtain ⟨_, _, _, q⟩ := hs
    exact False.elim q
end L2

namespace L2
open PySem PySem.Spec PyProof.Rows
section
variable {X : Cx} {x : Str} {p pos : Pos} {e : Expr} {es : List Expr} {t : TA} {id T : String} {r : List V → Hp → VK → Prop}

def tCB (r : List V → Hp → VK → Prop) (t : TA) : TE := fun σ H Q => t σ H fun vs H1 => r vs H1 Q
/-- f(e, ..), f a built-in function -/
theorem pe_callB (hc : CallR X (.builtin id) r) (hg : Gl X x) (hm : X.mg x = none) (hv : bootBuiltins x = some (.builtin id)) (ha : PA X (e :: es) t) (hn : x ≠ "__name__" := by decide) (hdb : (x == ("__debug__" : Str)) = false := by decide)
    (he : starEach (e :: es) X.env = (false, eval e X.env) :: starEach es X.env := by rfl) (hpl : (backTo pos (starEach es X.env)).any (·.1) = false := by rfl) : PE X (.Call (.Name x p) (e :: es) [] pos) (tCB r t) := by
  intro pins s σ H Q I h
  refine wpAny_Call_Name_kw (ld_blt I hg hm hv ?_ hn hdb)
  exact PyProof.Rows.callWith_builtin1 (thn (ha pos pins s σ H _ I h) fun us s1 ⟨vs, H1, I1, r1, q1⟩ => hc pins s1 σ H1 vs us Q I1 r1 q1) he hpl
/-- T(e, ..), T a built-in type -/
theorem pe_callTy (hc : CallR X (.type T) r) (hg : Gl X x) (hm : X.mg x = none) (hv : bootBuiltins x = some (.type T)) (ha : PA X (e :: es) t) (hn : x ≠ "__name__" := by decide) (hdb : (x == ("__debug__" : Str)) = false := by decide)
    (he : starEach (e :: es) X.env = (false, eval e X.env) :: starEach es X.env := by rfl) (hpl : (backTo pos (starEach es X.env)).any (·.1) = false := by rfl) : PE X (.Call (.Name x p) (e :: es) [] pos) (tCB r t) := by
  intro pins s σ H Q I h
  refine wpAny_Call_Name_kw (ld_blt I hg hm hv ?_ hn hdb)
  exact PyProof.Rows.callWith_type1 (thn (ha pos pins s σ H _ I h) fun us s1 ⟨vs, H1, I1, r1, q1⟩ => hc pins s1 σ H1 vs us Q I1 r1 q1) he hpl
end
end L2

namespace HT
open PySem PyProof.Rows

section
open PySem.SeqAt
open PySem.AutoSeq1 (wpAny_loadPart')
open PySem.MeetsSeq PySem.MeetsSeq2 PySem.MeetsSeq3

end

section
variable {prog : Program} {w : World} {A : Around} {E : Value → Shared → Prop} {s : Shared}

/-! ### t[a:b], not the whole -/
/-- a slice's bound as a place among n (d where it is left out) -/
def sIx (n d : Nat) : Option Int → Nat
  | none => d
  | some v => if v < 0 then (v + (n : Int)).toNat else min v.toNat n

end
end HT

namespace L2
open PySem PySem.Spec PyProof.Rows

/-! ### the parts of a slice -/
abbrev TO := St → Hp → (Option Int → Hp → Prop) → Prop
/-- a slice's part (left out, or an int) -/
def PO (X : Cx) (e : Option Expr) (t : TO) : Prop :=
  ∀ (pins : List (Addr × Obj)) (s : Shared) (σ : St) (H : Hp) (Q : Option Int → Hp → Prop), Inv X pins σ H s → t σ H Q →
    wpAny (model X.prog X.w) X.A (evalPart e X.env) (fun u s' => ∃ o H', Inv X pins σ H' s' ∧ IsPart u o ∧ Q o H') X.xe s
def tNoPart : TO := fun _ H Q => Q none H
def tPart (t : TE) : TO := fun σ H Q => t σ H fun x H1 => ∃ i, x = .int i ∧ Q (some i) H1

section
variable {X : Cx} {e : Expr} {te : TE} {lo hi : Option Expr} {tl th : TO} {pos p2 : Pos}

theorem po_none : PO X none tNoPart := by
  intro pins s σ H Q I h
  rw [evalPart_none]
  exact wpAny_pure ⟨none, H, I, .none, h⟩
theorem po_some (h : PE X e te) : PO X (some e) (tPart te) := by
  intro pins s σ H Q I hw
  rw [evalPart_some]
  refine thn (h pins s σ H _ I hw) fun u s1 ⟨x, H1, I1, r1, q1⟩ => ?_
  obtain ⟨i, rfl, q⟩ := q1
  obtain ⟨t, rfl⟩ := r1
  exact ⟨some i, H1, I1, .int i t, q⟩

/-- what a slice of a value is, by values: the slice object stands at sl -/
def SlR (X : Cx) (r : V → Option Int → Option Int → Hp → VK → Prop) : Prop :=
  ∀ (pins : List (Addr × Obj)) (s : Shared) (σ : St) (H : Hp) (x : V) (v vl vu : Value) (lo hi : Option Int) (sl : Addr) (Q : VK), Inv X pins σ H s → RelV x v → s.heap.IsSliceOf sl vl vu .none → IsPart vl lo → IsPart vu hi → r x lo hi H Q →
    ∃ T id, typeLookup (.type T) "__getitem__" = pure (some (.builtin id)) ∧ s.TypeIs v T ∧ wpAny (model X.prog X.w) X.A (getItem v (.ref sl)) (EP X pins σ Q) X.xe s
def tSl (r : V → Option Int → Option Int → Hp → VK → Prop) (te : TE) (tl th : TO) : TE := fun σ H Q => te σ H fun x H1 => tl σ H1 fun l H2 => th σ H2 fun u H3 => r x l u H3 Q
/-- a[lo:hi], any a -/
theorem pe_slice {r : V → Option Int → Option Int → Hp → VK → Prop} (hr : SlR X r) (he : PE X e te) (hl : PO X lo tl) (hu : PO X hi th) : PE X (.Subscript e (.Slice lo hi none p2) pos) (tSl r te tl th) := by
  intro pins s σ H Q I h
  refine Subscript_ (thn (he pins s σ H _ I h) fun v s1 ⟨x, H1, I1, r1, q1⟩ => ?_)
  refine wpAny_Slice (thn (hl pins s1 σ H1 _ I1 q1) fun vl s2 ⟨l, H2, I2, pl, q2⟩ => thn (hu pins s2 σ H2 _ I2 q2) fun vu s3 ⟨u, H3, I3, pu, q3⟩ => ?_)
  rw [evalPart_none]
  refine wpAny_pure ?_
  have I4 : Inv X pins σ H3 { s3 with heap := s3.heap.push { cls := .type "slice", data := .fields #[vl, vu, .none] } } := I3.kept (t' := s3.toks) fun b ob q => Heap.get?_push_of_some _ q
  obtain ⟨T, id, hT, ht, hg⟩ := hr pins { s3 with heap := s3.heap.push { cls := .type "slice", data := .fields #[vl, vu, .none] } } σ H3 x v vl vu l u s3.heap.objs.size Q I4 r1 (Heap.IsSliceOf.new ..) pl pu q3
  show wpAny (model X.prog X.w) X.A (subscriptTail e (.Slice lo hi none p2) v (.ref s3.heap.objs.size)) (EP X pins σ Q) X.xe { s3 with heap := s3.heap.push { cls := .type "slice", data := .fields #[vl, vu, .none] } }
  exact tail_any (ops := [.ref s3.heap.objs.size, v]) ht hT hg (by with_unfolding_all rfl)

/-- the items of xs[lo:hi] -/
def cutV (xs : List V) (lo hi : Option Int) : List V := (xs.drop (HT.sIx xs.length 0 lo)).take (HT.sIx xs.length xs.length hi - HT.sIx xs.length 0 lo)
theorem cutV_length (xs : List V) (lo hi : Option Int) : (cutV xs lo hi).length ≤ xs.length := by
  unfold cutV
  rw [List.length_take, List.length_drop]
  omega

/-! ### t < u, t + u -/
end
end L2

namespace L2
open PySem PySem.Spec PyProof.Rows

/-! ### places -/
/-- the place that an index of any sign means -/
def ixN (n : Nat) (i : Int) : Option Nat := if 0 ≤ i then (if i < n then some i.toNat else none) else if -(n : Int) ≤ i then some (i + n).toNat else none
def atI {α : Type} (xs : List α) (i : Int) : Option α := (ixN xs.length i).bind fun j => xs[j]?
theorem ixN_seq {n : Nat} {i : Int} {j : Nat} (h : ixN n i = some j) : seqIndex? i n = some j ∧ j < n ∧ -(n : Int) ≤ i ∧ i < n := by
  unfold ixN at h
  by_cases h0 : 0 ≤ i
  · rw [if_pos h0] at h
    by_cases h1 : i < n
    · rw [if_pos h1] at h
      have e : i.toNat = j := Option.some.inj h
      exact ⟨by rw [seqIndex_of h0 h1, e], by omega, by omega, h1⟩
    · rw [if_neg h1] at h; cases h
  · rw [if_neg h0] at h
    by_cases h1 : -(n : Int) ≤ i
    · rw [if_pos h1] at h
      have e : (i + n).toNat = j := Option.some.inj h
      exact ⟨by rw [seqIndex_neg (by omega) h1, e], by omega, h1, by omega⟩
    · rw [if_neg h1] at h; cases h
theorem atI_get {α : Type} {xs : List α} {i : Int} {v : α} (h : atI xs i = some v) : ∃ j, seqIndex? i xs.length = some j ∧ xs[j]? = some v ∧ j < xs.length ∧ -(xs.length : Int) ≤ i ∧ i < xs.length := by
  unfold atI at h
  cases e : ixN xs.length i with
  | none => rw [e] at h; cases h
  | some j =>
    rw [e] at h
    obtain ⟨h1, h2, h3, h4⟩ := ixN_seq e
    exact ⟨j, h1, h, h2, h3, h4⟩
theorem atI_nat {α : Type} {xs : List α} {j : Nat} {v : α} (h : xs[j]? = some v) : atI xs (j : Int) = some v := by
  have hj : j < xs.length := (List.getElem?_eq_some_iff.mp h).1
  have e : ixN xs.length (j : Int) = some j := by
    unfold ixN
    rw [if_pos (by omega), if_pos (by omega)]; simp
  unfold atI; rw [e]; exact h

/-! ### what may be subscripted -/
/-- what stands as an index of a plain subscript -/
def PlainIx (b : Expr) : Prop := ∀ o i, subscripted b false o i = operate [o, i] (getItem o i)
/-- a subscript by values -/
def IxR (X : Cx) (r : R2) : Prop :=
  ∀ (value slice : Expr) (pins : List (Addr × Obj)) (s : Shared) (σ : St) (H : Hp) (x y : V) (v u : Value) (Q : VK), Inv X pins σ H s → RelV x v → RelV y u → r x y H Q →
    subscripted slice false v u = operate [v, u] (getItem v u) → wpAny (model X.prog X.w) X.A (subscriptTail value slice v u) (EP X pins σ Q) X.xe s
/-- a call of a builtin's method by values: the receiver, the arguments -/
def MtR (X : Cx) (id : String) (r : V → List V → Hp → VK → Prop) : Prop :=
  ∀ (pins : List (Addr × Obj)) (s : Shared) (σ : St) (H : Hp) (x : V) (xs : List V) (v : Value) (us : List Value) (Q : VK), Inv X pins σ H s → RelV x v → Vals xs us → r x xs H Q →
    wpAny (model X.prog X.w) X.A (call (.builtin id) (v :: us)) (EP X pins σ Q) X.xe s
section
variable {X : Cx} {a b : Expr} {ta tb : TE} {pos : Pos}
/-- a[b] -/
theorem pe_ix {r : R2} (hr : IxR X r) (ha : PE X a ta) (hb : PE X b tb) (hs : PlainIx b) : PE X (.Subscript a b pos) (tOp r ta tb) := by
  intro pins s σ H Q I h
  exact Subscript_ (binT ha hb I h fun v u s2 x y H2 I2 rx ry q => hr a b pins s2 σ H2 x y v u Q I2 rx ry q (hs _ _))

def rIxL (K : PySem.W.Frag) : R2 := fun x y H Q => ∃ p xs i v, x = .ref p ∧ y = .int i ∧ SqL K H p xs ∧ atI xs i = some v ∧ Q v H
def rIxT (K : PySem.W.Frag) : R2 := fun x y H Q => ∃ p xs i v, x = .ref p ∧ y = .int i ∧ SqT K H p xs ∧ atI xs i = some v ∧ Q v H
theorem ix_list : IxR X (rIxL X.K) := by
  intro value slice pins s σ H x y v u Q I rx ry h hs
  obtain ⟨p, xs, i, z, rfl, rfl, hq, he, q⟩ := h
  cases rx
  obtain ⟨t, rfl⟩ := ry
  obtain ⟨its, r, pl, hz⟩ := I.list hq
  obtain ⟨j, h1, h2, h3, h4, h5⟩ := atI_get he
  obtain ⟨w, ew, rw'⟩ := r.get h2
  have hl := r.length
  have hn := line63
  have fin : EP X pins σ Q w s := ⟨z, H, I, rw', q⟩
  by_cases h0 : 0 ≤ i
  · have hj : i.toNat = j := by
      rw [seqIndex_of h0 h5] at h1
      exact Option.some.inj h1
    exact item_listR pl.isList h0 (by omega) (by rw [hj]; simpa using ew) fin hs
  · have hj : (i + (its.toArray.size : Int)).toNat = j := by
      rw [seqIndex_neg (by omega) h4] at h1
      rw [List.size_toArray, ← hl]
      exact Option.some.inj h1
    exact subscriptTail_builtinR (x := w) pl.isList.typeIs slot_list_getitem.lookup
      (wpAny_getItem_list_neg (Q := fun r s' => r = w ∧ EP X pins σ Q r s') pl.isList (by omega) (by rw [List.size_toArray] <;> omega) (by omega) (by rw [hj]; simpa using ew) ⟨rfl, fin⟩) hs
theorem ix_tup : IxR X (rIxT X.K) := by
  intro value slice pins s σ H x y v u Q I rx ry h hs
  obtain ⟨p, xs, i, z, rfl, rfl, hq, he, q⟩ := h
  cases rx
  obtain ⟨t, rfl⟩ := ry
  obtain ⟨its, r, pl, hz⟩ := I.tuple hq
  obtain ⟨j, h1, h2, h3, h4, h5⟩ := atI_get he
  obtain ⟨w, ew, rw'⟩ := r.get h2
  have hl := r.length
  have hn := line63
  have fin : EP X pins σ Q w s := ⟨z, H, I, rw', q⟩
  exact subscriptTail_builtinR (x := w) pl.typeIs slot_tuple_getitem.lookup
    (getItem_tuple (j := j) (Q := fun r s' => r = w ∧ EP X pins σ Q r s') pl (by omega) (by omega) (by rw [List.size_toArray, ← hl]; exact h1) (by simpa using ew) ⟨rfl, fin⟩) hs

/-! ### xs[i] = v, any sign -/

/-! ### slices -/
theorem slice_bounds (lo hi : Option Int) (n : Nat) : (sliceBounds lo hi none n).1 = ((HT.sIx n 0 lo : Nat) : Int) ∧ (sliceBounds lo hi none n).2.1 = ((HT.sIx n n hi : Nat) : Int) ∧ (sliceBounds lo hi none n).2.2 = 1 := by
  refine ⟨?_, ?_, rfl⟩
  · cases lo with
    | none => simp [sliceBounds, HT.sIx]
    | some i =>
      simp only [sliceBounds, HT.sIx, Option.getD_none, show (1 : Int) > 0 by decide, if_true]
      by_cases h : i < 0
      · simp only [h, if_true] <;> omega
      · simp only [h, if_false] <;> omega
  · cases hi with
    | none => simp [sliceBounds, HT.sIx]
    | some i =>
      simp only [sliceBounds, HT.sIx, Option.getD_none, show (1 : Int) > 0 by decide, if_true]
      by_cases h : i < 0
      · simp only [h, if_true] <;> omega
      · simp only [h, if_false] <;> omega
theorem slicePick_cut (its : List Value) (lo hi : Option Int) : slicePick its.toArray lo hi none = ((its.drop (HT.sIx its.length 0 lo)).take (HT.sIx its.length its.length hi - HT.sIx its.length 0 lo)).toArray := by
  obtain ⟨h1, h2, h3⟩ := slice_bounds lo hi its.toArray.size
  unfold slicePick
  rw [h1, h2, h3]
  simp only [sliceRange_one, pick_run, List.size_toArray] <;> rfl
/-- xs[lo:hi] of a list: a new list -/
def rSlL (K : PySem.W.Frag) : V → Option Int → Option Int → Hp → VK → Prop := fun x lo hi H Q => ∃ a xs, x = .ref a ∧ SqL K H a xs ∧ ∀ p, H p = none → Q (.ref p) (upd H p (.lst (cutV xs lo hi)))
theorem sl_list : SlR X (rSlL X.K) := by
  intro pins s σ H x v vl vu lo hi sl Q I rx hs pl pu h
  obtain ⟨a, xs, rfl, hx, q⟩ := h
  cases rx
  obtain ⟨its, r, ht, hz⟩ := I.list hx
  have hlen := r.length
  refine ⟨"list", _, slot_list_getitem.lookup, ht.isList.typeIs, ?_⟩
  refine wpAny_getItem_list_slice ht.isList hs pl pu .none (by simp) ?_ (by rw [List.size_toArray] <;> omega)
  rw [slicePick_cut, ← hlen]
  refine ⟨.ref s.heap.objs.size, _, I.laid (t' := s.toks) (o := .lst (cutV xs lo hi)) (fun b ob q => Heap.get?_push_of_some _ q) (Nat.le_refl _) ?_, rfl, q _ (I.hok.fresh (Nat.le_refl _))⟩
  exact ⟨Nat.le_trans (cutV_length xs lo hi) hz, _, 0, (r.drop (HT.sIx xs.length 0 lo)).take (HT.sIx xs.length xs.length hi - HT.sIx xs.length 0 lo), Heap.get?_push_size _ rfl⟩

/-! ### in, not in: flat items -/
def flatV : V → Bool
  | .non => true
  | .bl _ => true
  | .int _ => true
  | .str _ => true
  | _ => false
/-- == of flat values -/
def eqV : V → V → Bool
  | .non, .non => true
  | .bl a, .bl b => a == b
  | .bl a, .int b => (if a then 1 else 0) == b
  | .int a, .bl b => a == (if b then 1 else 0)
  | .int a, .int b => a == b
  | .str a, .str b => a == b
  | _, _ => false
theorem eqAt_V {A : Around} {s : Shared} {y x : V} {u v : Value} (ry : RelV y u) (rx : RelV x v) (fy : flatV y = true) (fx : flatV x = true) : SeqAt.EqAt A s u v (eqV y x) := by
  cases y with
  | non =>
    cases ry
    cases x with
    | non => cases rx; exact SeqAt.EqAt.same _
    | bl b => cases rx; exact SeqAt.EqAt.none_bool b
    | int b => obtain ⟨t, rfl⟩ := rx; exact SeqAt.EqAt.none_int b t
    | str b => obtain ⟨t, rfl⟩ := rx; exact SeqAt.EqAt.none_str b t
    | _ => exact absurd (show false = true from fx) Bool.false_ne_true
  | bl a =>
    cases ry
    cases x with
    | non => cases rx; exact SeqAt.EqAt.bool_none a
    | bl b => cases rx; exact SeqAt.EqAt.bool_bool a b
    | int b => obtain ⟨t, rfl⟩ := rx; exact SeqAt.EqAt.bool_int a b t
    | str b => obtain ⟨t, rfl⟩ := rx; exact SeqAt.EqAt.bool_str a b t
    | _ => exact absurd (show false = true from fx) Bool.false_ne_true
  | int a =>
    obtain ⟨t', rfl⟩ := ry
    cases x with
    | non => cases rx; exact SeqAt.EqAt.int_none a t'
    | bl b => cases rx; exact SeqAt.EqAt.int_bool a t' b
    | int b => obtain ⟨t, rfl⟩ := rx; exact SeqAt.EqAt.int_int a t' b t
    | str b => obtain ⟨t, rfl⟩ := rx; exact SeqAt.EqAt.int_str a t' b t
    | _ => exact absurd (show false = true from fx) Bool.false_ne_true
  | str a =>
    obtain ⟨t', rfl⟩ := ry
    cases x with
    | non => cases rx; exact SeqAt.EqAt.str_none a t'
    | bl b => cases rx; exact SeqAt.EqAt.str_bool a t' b
    | int b => obtain ⟨t, rfl⟩ := rx; exact SeqAt.EqAt.str_int a t' b t
    | str b => obtain ⟨t, rfl⟩ := rx; exact SeqAt.EqAt.str_str a t' b t
    | _ => exact absurd (show false = true from fx) Bool.false_ne_true
  | _ => exact absurd (show false = true from fy) Bool.false_ne_true
/-- the items' answers, read off the values (a value's own answer does not lean on its token) -/
def eqU (x : V) (u : Value) : Bool := match u with
  | .none => eqV .non x
  | .bool b => eqV (.bl b) x
  | .int i _ => eqV (.int i) x
  | .str z _ => eqV (.str z) x
  | _ => false
theorem eqU_of {x y : V} {u : Value} (r : RelV y u) (f : flatV y = true) : eqU x u = eqV y x := by
  cases y with
  | non => cases r; rfl
  | bl b => cases r; rfl
  | int i => obtain ⟨t, rfl⟩ := r; rfl
  | str z => obtain ⟨t, rfl⟩ := r; rfl
  | _ => exact absurd (show false = true from f) Bool.false_ne_true
theorem any_eqU {x : V} : ∀ {xs : List V} {us : List Value}, Vals xs us → xs.all flatV = true → us.any (eqU x) = xs.any fun y => eqV y x
  | _, _, .nil, _ => rfl
  | y :: xs, u :: us, .cons r t, f => by
    rw [List.all_cons, Bool.and_eq_true] at f
    rw [List.any_cons, List.any_cons, eqU_of r f.1, any_eqU t f.2]
theorem mem_eqAt {A : Around} {s : Shared} {x : V} {v : Value} (rx : RelV x v) (fx : flatV x = true) : ∀ {xs : List V} {us : List Value}, Vals xs us → xs.all flatV = true → ∀ u ∈ us, SeqAt.EqAt A s u v (eqU x u)
  | _, _, .nil, _ => fun u hu => by cases hu
  | y :: xs, u :: us, .cons r t, f => fun u' hu => by
    rw [List.all_cons, Bool.and_eq_true] at f
    rcases List.mem_cons.mp hu with rfl | hu
    · rw [eqU_of r f.1]; exact eqAt_V r rx f.1 fx
    · exact mem_eqAt rx fx t f.2 u' hu
def inV (x : V) (xs : List V) : Bool := xs.any fun y => eqV y x
/-- x in a list or tuple of flat items -/
def rIn (K : PySem.W.Frag) (neg : Bool) : R2 := fun x y H Q => ∃ p xs, y = .ref p ∧ (SqL K H p xs ∨ SqT K H p xs) ∧ flatV x = true ∧ xs.all flatV = true ∧ Q (.bl (if neg then !inV x xs else inV x xs)) H
theorem op_in_seq : OpR X (compareOp .In) (rIn X.K false) := by
  intro pins s σ H x y v u Q I rx ry h
  obtain ⟨p, xs, rfl, hq, fx, fs, q⟩ := h
  cases ry
  rcases hq with hq | hq
  · obtain ⟨its, r, pl, hz⟩ := I.list hq
    refine SeqAt.in_listAt (eqU x) pl.isList (fun w hw => mem_eqAt rx fx r fs w (by simpa using hw)) ⟨.bl _, H, I, rfl, ?_⟩
    rw [show its.toArray.any (eqU x) = its.any (eqU x) by simp, any_eqU r fs]
    exact q
  · obtain ⟨its, r, pl, hz⟩ := I.tuple hq
    refine SeqAt.in_tupleAt (eqU x) pl (fun w hw => mem_eqAt rx fx r fs w (by simpa using hw)) ⟨.bl _, H, I, rfl, ?_⟩
    rw [show its.toArray.any (eqU x) = its.any (eqU x) by simp, any_eqU r fs]
    exact q

/-! ### len, list(x), tuple(x) of any list or tuple that is read -/
theorem call_len_seq : CallR X (.builtin "len") (fun xs H Q => ∃ p ys, xs = [.ref p] ∧ (SqL X.K H p ys ∨ SqT X.K H p ys) ∧ Q (.int ys.length) H) := by
  intro pins s σ H xs us Q I r h
  obtain ⟨p, ys, rfl, hq, q⟩ := h
  obtain ⟨u, rfl, rx⟩ := vals1 r
  cases rx
  have hn := line63
  rcases hq with hq | hq
  · obtain ⟨its, r', pl, hz⟩ := I.list hq
    have hlen := r'.length
    exact Calls.call_len_list pl.isList (by simp only [List.size_toArray] <;> omega) ⟨.int ys.length, H, I.tok _, ⟨s.toks + 1, by rw [List.size_toArray, hlen]⟩, q⟩
  · obtain ⟨its, r', pl, hz⟩ := I.tuple hq
    have hlen := r'.length
    exact len_tuple pl (by simp only [List.size_toArray] <;> omega) ⟨.int ys.length, H, I.tok _, ⟨s.toks + 1, by rw [List.size_toArray, hlen]⟩, q⟩
theorem call_list_of : CallR X (.type "list") (fun xs H Q => ∃ p ys, xs = [.ref p] ∧ (SqL X.K H p ys ∨ SqT X.K H p ys) ∧ ∀ l, H l = none → Q (.ref l) (upd H l (.lst ys))) := by
  intro pins s σ H xs us Q I r h
  obtain ⟨p, ys, rfl, hq, q⟩ := h
  obtain ⟨u, rfl, rx⟩ := vals1 r
  cases rx
  have fin : ∀ (its : List Value), Vals ys its → ys.length ≤ sizeLine → ∀ (h' : Heap) (c' : Nat), (∀ b o', s.heap.get? b = some o' → h'.get? b = some o') →
      h'.get? s.heap.objs.size = some { cls := .type "list", dict := none, data := .seq its.toArray c', slots := #[] } → EP X pins σ Q (.ref s.heap.objs.size) { s with heap := h' } := fun its r' hz h' c' kp e =>
    ⟨.ref s.heap.objs.size, _, I.laid (t' := s.toks) kp (Nat.le_refl _) (show ObjOk X.prog X.w _ h' _ (.lst ys) from ⟨hz, its, c', r', e⟩), rfl, q _ (I.hok.fresh (Nat.le_refl _))⟩
  rcases hq with hq | hq
  · obtain ⟨its, r', pl, hz⟩ := I.list hq
    have hlen := r'.length
    obtain ⟨o, ho, hc, n, hd⟩ := pl.isList
    exact call_list_seq p (.inl rfl) ho hc hd (fun h' c' kp e => fin its r' hz h' c' kp e) (by simp only [List.size_toArray] <;> omega)
  · obtain ⟨its, r', pl, hz⟩ := I.tuple hq
    have hlen := r'.length
    obtain ⟨o, ho, hc, n, hd⟩ := pl
    exact call_list_seq p (.inr rfl) ho hc hd (fun h' c' kp e => fin its r' hz h' c' kp e) (by simp only [List.size_toArray] <;> omega)
theorem call_tuple_of : CallR X (.type "tuple") (fun xs H Q => ∃ p ys, xs = [.ref p] ∧ ((SqL X.K H p ys ∧ ∀ l, H l = none → Q (.ref l) (upd H l (.tup ys))) ∨ (SqT X.K H p ys ∧ Q (.ref p) H))) := by
  intro pins s σ H xs us Q I r h
  obtain ⟨p, ys, rfl, h⟩ := h
  obtain ⟨u, rfl, rx⟩ := vals1 r
  cases rx
  rcases h with ⟨hq, q⟩ | ⟨hq, q⟩
  · obtain ⟨its, r', pl, hz⟩ := I.list hq
    have hlen := r'.length
    refine call_tuple_list pl.isList (fun h' kp => ?_) (by simp only [List.size_toArray] <;> omega)
    have I1 : Inv X pins σ H { s with heap := h' } := I.kept (t' := s.toks) kp
    have I2 : Inv X pins σ (upd H h'.objs.size (.tup ys)) { s with heap := h'.push { cls := .type "tuple", data := .seq its.toArray } } :=
      I1.laid (t' := s.toks) (fun b o e => Heap.get?_push_of_some _ e) (Nat.le_refl _) (show ObjOk X.prog X.w _ _ _ (.tup ys) from ⟨hz, its, r', IsTup.new _ _⟩)
    exact ⟨.ref h'.objs.size, _, I2, rfl, q _ (I1.hok.fresh (Nat.le_refl _))⟩
  · obtain ⟨its, r', pl, hz⟩ := I.tuple hq
    exact call_tuple_same pl ⟨.ref p, H, I, rfl, q⟩

/-! ### the call of a builtin's method: o.m(..) -/
/-- the value is of that builtin type -/
def tyV (K : PySem.W.Frag) (T : String) (x : V) (H : Hp) : Prop := match x with
  | .str _ => T = "str"
  | .int _ => T = "int"
  | .ref p => (T = "list" ∧ ∃ xs, SqL K H p xs) ∨ (T = "tuple" ∧ ∃ o, K.lookup p = some o ∧ o.cls = .type "tuple" ∧ o.dict = none) ∨
      (T = "dict" ∧ ((∃ kvs, H p = some (.dK kvs)) ∨ ∃ kvs, H p = some (.dT kvs))) ∨ (T = "set" ∧ ∃ S n, H p = some (.set S n))
  | _ => False
theorem tyV_is {pins : List (Addr × Obj)} {σ : St} {H : Hp} {s : Shared} {T : String} {x : V} {v : Value} (I : Inv X pins σ H s) (r : RelV x v) (ty : tyV X.K T x H) :
    s.TypeIs v T ∧ ∀ a, v = .ref a → ∃ ob, s.heap.get? a = some ob ∧ ob.dict = none := by
  cases x with
  | str z =>
    obtain ⟨t, rfl⟩ := r
    cases (show T = "str" from ty)
    exact ⟨typeIs_str s z t, fun _ e => nomatch e⟩
  | int i =>
    obtain ⟨t, rfl⟩ := r
    cases (show T = "int" from ty)
    exact ⟨typeIs_int s i t, fun _ e => nomatch e⟩
  | ref p =>
    cases r
    rcases ty with ⟨rfl, xs, hq⟩ | ⟨rfl, o, hk, hc, hd⟩ | ⟨rfl, hk⟩ | ⟨rfl, S, n, hk⟩
    · obtain ⟨its, _, pl, _⟩ := I.list hq
      refine ⟨pl.isList.typeIs, fun a e => ?_⟩
      cases e
      obtain ⟨o, n, e, c, hd, _⟩ := pl
      exact ⟨o, e, hd⟩
    · refine ⟨⟨o, I.kIn p o hk, hc⟩, fun a e => ?_⟩
      cases e
      exact ⟨o, I.kIn _ o hk, hd⟩
    · have z : ∃ o, s.heap.get? p = some o ∧ o.ExactDict := by
        rcases hk with ⟨kvs, hk⟩ | ⟨kvs, hk⟩
        · obtain ⟨_, _, _, _, o, _, _, e, ex, _⟩ := I.hok p _ hk
          exact ⟨o, e, ex⟩
        · obtain ⟨_, _, _, _, o, _, _, e, ex, _⟩ := I.hok p _ hk
          exact ⟨o, e, ex⟩
      obtain ⟨o, e, ex⟩ := z
      refine ⟨⟨o, e, ex.1⟩, fun a e2 => ?_⟩
      cases e2
      exact ⟨o, e, ex.2.1⟩
    · obtain ⟨o, _, _, _, e, ex, _⟩ := I.hok p _ hk
      refine ⟨⟨o, e, ex.1⟩, fun a e2 => ?_⟩
      cases e2
      exact ⟨o, e, ex.2.1⟩
  | _ => exact False.elim ty
def tBM0 (K : PySem.W.Frag) (T : String) (r : V → List V → Hp → VK → Prop) (to : TE) : TE := fun σ H Q => to σ H fun x H1 => tyV K T x H1 ∧ r x [] H1 Q
def tBM (K : PySem.W.Frag) (T : String) (r : V → List V → Hp → VK → Prop) (to : TE) (t : TA) : TE := fun σ H Q => to σ H fun x H1 => tyV K T x H1 ∧ t σ H1 fun xs H2 => r x xs H2 Q
variable {o e : Expr} {es : List Expr} {to : TE} {t : TA} {name : Str} {apos cpos : Pos} {T id : String} {r : V → List V → Hp → VK → Prop}
theorem pe_bm0 (pa : PlainAttrs T) (slot : Slot T name id) (hty : typeOf (.builtin id) = pure (.type "method_descriptor")) (hm : MtR X id r) (ho : PE X o to)
    (hbase : attributeBase o name X.env (eval o X.env) = eval o X.env := by rfl) (hline : (apos.endLine == cpos.line) = true := by rfl) : PE X (.Call (.Attribute o name apos) [] [] cpos) (tBM0 X.K T r to) := by
  intro pins s σ H Q I h
  refine wpAny_Call_method0_late hbase hline (thn (ho pins s σ H _ I h) fun v s1 ⟨x, H1, I1, r1, ty, q1⟩ => ?_)
  obtain ⟨h1, h2⟩ := tyV_is I1 r1 ty
  exact ⟨T, id, pa, slot, hty, h1, h2, Calls.callWith_builtin rfl (PySem.evalArgs_none (hm pins s1 σ H1 x [] v [] Q I1 r1 .nil q1))⟩
theorem pe_bm (pa : PlainAttrs T) (slot : Slot T name id) (hty : typeOf (.builtin id) = pure (.type "method_descriptor")) (hm : MtR X id r) (ho : PE X o to) (ha : PA X (e :: es) t)
    (hbase : attributeBase o name X.env (eval o X.env) = eval o X.env := by rfl)
    (hfew : ((backTo cpos (starEach (e :: es) X.env)).all (fun x => !x.1) && (backToKw cpos (keywordEach [] X.env)).all (fun x => x.1.isSome)
      && decide ((e :: es).length + ([] : List Keyword).length + (if ([] : List Keyword).isEmpty then 0 else 1) < 30)) = true := by rfl)
    (hline : (apos.endLine == cpos.line) = true := by rfl) (hs : starEach (e :: es) X.env = (false, eval e X.env) :: starEach es X.env := by rfl) (hplain : (backTo cpos (starEach es X.env)).any (·.1) = false := by rfl) :
    PE X (.Call (.Attribute o name apos) (e :: es) [] cpos) (tBM X.K T r to t) := by
  intro pins s σ H Q I h
  refine wpAny_Call_method_late hbase hfew hline rfl (thn (ho pins s σ H _ I h) fun v s1 ⟨x, H1, I1, r1, ty, q1⟩ => ?_)
  obtain ⟨h1, h2⟩ := tyV_is I1 r1 ty
  refine ⟨T, id, pa, slot, hty, h1, h2, ?_⟩
  have hA := ha cpos pins s1 σ H1 _ I1 q1
  rw [hs] at hA ⊢
  refine Calls.callWith_builtin (by show (false || (backTo cpos (starEach es X.env)).any (·.1)) = false; rw [hplain] <;> rfl) (Calls.evalArgs_plain ?_)
  exact thn hA fun us s2 ⟨vs, H2, I2, r2, q2⟩ => hm pins s2 σ H2 x vs v us Q I2 r1 r2 q2
/- xs.append(e), list.index on a module's tuple .. are MtR facts of 06m -/
end
end L2

namespace L2
open PySem PySem.Spec PyProof.Rows

def MtM (X : Cx) (id : String) (r : V → List V → Hp → VK → Prop) : Prop :=
  ∀ (pins : List (Addr × Obj)) (s : Shared) (σ : St) (H : Hp) (x : V) (xs : List V) (v : Value) (us : List Value) (Q : VK), Inv X pins σ H s → RelV x v → Vals xs us → r x xs H Q →
    wpAny (model X.prog X.w) X.A (call (.builtin id) (v :: us)) (EP X pins σ Q) X.xe s

/-! ### lists of values -/
theorem Vals.one : ∀ {x : V} {us : List Value}, Vals [x] us → ∃ u, us = [u] ∧ RelV x u
  | _, _, .cons r .nil => ⟨_, rfl, r⟩
theorem Vals.zero : ∀ {us : List Value}, Vals [] us → us = []
  | _, .nil => rfl
theorem Vals.dropLast {xs : List V} {us : List Value} (h : Vals xs us) : Vals xs.dropLast us.dropLast := by
  induction h with
  | nil => exact .nil
  | cons r t ih =>
    cases t with
    | nil => exact .nil
    | cons q t' => exact .cons r ih
theorem erase_last {α : Type} (l : List α) : l.eraseIdx (l.length - 1) = l.dropLast := by
  induction l with
  | nil => rfl
  | cons a r ih =>
    cases r with
    | nil => rfl
    | cons b r =>
      have e : (a :: b :: r).length - 1 = ((b :: r).length - 1) + 1 := by
        have h1 : (a :: b :: r).length = r.length + 2 := rfl
        have h2 : (b :: r).length = r.length + 1 := rfl
        omega
      rw [e, List.eraseIdx_cons_succ, ih]
      all_goals rfl

section
variable {X : Cx} {pins : List (Addr × Obj)} {σ : St} {H : Hp} {s : Shared} {l b : Addr} {xs ys zs : List V}

/-! ### the two steps: a tracked list is rewritten, a new list is laid -/
theorem Inv.lset {its its' : List Value} {n : Nat} {f : Array Value → Array Value} {t' : Nat} (I : Inv X pins σ H s) (hH : H l = some (.lst xs))
    (e : s.heap.get? l = some { cls := .type "list", data := .seq its.toArray n }) (hf : f its.toArray = its'.toArray) (hv : Vals ys its') (hz : ys.length ≤ sizeLine) :
    Inv X pins σ (upd H l (.lst ys)) { s with heap := s.heap.update l (Obj.mapSeq f), toks := t' } := by
  have q := PySem.IsL.update e f
  rw [hf] at q
  refine I.write (x := l) (e := l) (by rw [hH]; exact trivial) (.inl rfl) (fun b' u hb hu => (Heap.get?_update_other s.heap (Obj.mapSeq f) (Ne.symm hb)).trans hu) ⟨_, q⟩ ?_
  exact ⟨hz, its', _, hv, q⟩
theorem Inv.lnew {its : List Value} {t' : Nat} (I : Inv X pins σ H s) (hv : Vals ys its) (hz : ys.length ≤ sizeLine) :
    Inv X pins σ (upd H s.heap.objs.size (.lst ys)) { s with heap := s.heap.push { cls := .type "list", data := .seq its.toArray }, toks := t' } :=
  I.laid (fun _ _ q => Heap.get?_push_of_some _ q) (Nat.le_refl _) ⟨hz, its, 0, hv, Heap.get?_push_size _ rfl⟩
theorem Inv.fresh (I : Inv X pins σ H s) : H s.heap.objs.size = none := I.hok.fresh (Nat.le_refl _)
theorem Inv.lstM (I : Inv X pins σ H s) (hH : H l = some (.lst xs)) : xs.length ≤ sizeLine ∧ ∃ (its : List Value) (n : Nat), Vals xs its ∧ xs.length = its.length ∧ s.heap.get? l = some { cls := .type "list", data := .seq its.toArray n } := by
  obtain ⟨z, its, n, r, e⟩ := I.hok l _ hH
  exact ⟨z, its, n, r, r.length, e⟩

end

section
variable {X : Cx}

/-! ### methods -/
def rAppend : V → List V → Hp → VK → Prop := fun x vs H Q => ∃ l xs y, x = .ref l ∧ vs = [y] ∧ H l = some (.lst xs) ∧ xs.length < sizeLine ∧ Q .non (upd H l (.lst (xs ++ [y])))
theorem mt_append : MtM X "list.append" rAppend := by
  intro pins s σ H x vs v us Q I rx rv h
  obtain ⟨l, xs, y, rfl, rfl, hH, hz, q⟩ := h
  cases rx
  obtain ⟨u, rfl, ru⟩ := rv.one
  obtain ⟨z, its, n, r, hl, e⟩ := I.lstM hH
  refine call_meets F.slot_list_append ⟨_, e, rfl⟩ F.entry_list_append (F.args_list_append_2 _ _) (PySem.list_append l its.toArray n u (by rw [List.size_toArray]; omega)) ⟨e, ?_⟩
  refine ⟨.non, _, I.lset (its' := its ++ [u]) hH e (by simp) (r.append (.cons ru .nil)) ?_, rfl, q⟩
  rw [List.length_append, List.length_singleton]
  omega

def rPop : V → List V → Hp → VK → Prop := fun x vs H Q => ∃ l xs y, x = .ref l ∧ vs = [] ∧ H l = some (.lst xs) ∧ xs[xs.length - 1]? = some y ∧ Q y (upd H l (.lst xs.dropLast))
theorem mt_pop : MtM X "list.pop" rPop := by
  intro pins s σ H x vs v us Q I rx rv h
  obtain ⟨l, xs, y, rfl, rfl, hH, hy, q⟩ := h
  cases rx
  have hus := rv.zero
  subst hus
  obtain ⟨z, its, n, r, hl, e⟩ := I.lstM hH
  obtain ⟨u, hu, ru⟩ := r.get hy
  have hy' : its.toArray[its.toArray.size - 1]? = some u := by
    show its.toArray[its.length - 1]? = some u
    rw [← Array.getElem?_toList, ← hl]
    exact hu
  refine call_meets F.slot_list_pop ⟨_, e, rfl⟩ F.entry_list_pop (F.args_list_pop_1 _) (MeetsSeq.list_pop_last l its.toArray n u hy' (by rw [List.size_toArray]; omega)) ⟨e, ?_⟩
  refine ⟨y, _, I.lset (its' := its.dropLast) hH e ?_ r.dropLast ?_, ru, q⟩
  · show its.toArray.eraseIdxIfInBounds (its.toArray.size - 1) = its.dropLast.toArray
    rw [List.size_toArray, List.eraseIdxIfInBounds_toArray, erase_last]
  · rw [List.length_dropLast]
    omega

/-! ### list + list, list += list, list * int -/
def rCat : R2 := fun x y H Q => ∃ l b xs zs, x = .ref l ∧ y = .ref b ∧ H l = some (.lst xs) ∧ H b = some (.lst zs) ∧ xs.length + zs.length ≤ sizeLine ∧ ∀ p, H p = none → Q (.ref p) (upd H p (.lst (xs ++ zs)))
theorem op_cat : OpR X (binaryOp .Add) rCat := by
  intro pins s σ H x y v u Q I rx ry h
  obtain ⟨l, b, xs, zs, rfl, rfl, hH, hB, hz, q⟩ := h
  cases rx
  cases ry
  obtain ⟨z, its, n, r, hl, e⟩ := I.lstM hH
  obtain ⟨z2, its2, n2, r2, hl2, e2⟩ := I.lstM hB
  refine PySem.P.add_list e e2 ?_ (by rw [List.size_toArray, List.size_toArray]; omega)
  have ea : its.toArray ++ its2.toArray = (its ++ its2).toArray := by simp
  rw [ea]
  exact ⟨.ref _, _, I.lnew (t' := s.toks) (r.append r2) (by rw [List.length_append]; omega), rfl, q _ I.fresh⟩

/-! ### del xs[i] -/
end

/-! ### xs[a:b] = ys -/
section
variable {prog : Program} {w : World} {A : Around} {E : Value → Shared → Prop} {s : Shared}
end

section
variable {X : Cx}
end
end L2

namespace Att
open PySem PySem.W PySem.Calls PyProof.Rows

/-! ### the script -/
theorem ints_of_wellAll {P : Params} {h : Heap} : ∀ (ns : List Int) (vs : List Value), WellAll P h vs (ns.map WData.int) → IntsAre vs ns := by
  intro ns
  induction ns with
  | nil =>
    intro vs w
    rw [List.map_nil] at w
    cases w
    exact .nil
  | cons n ns ih =>
    intro vs w
    rw [List.map_cons] at w
    cases w with
    | cons a b =>
      cases a
      exact .cons _ _ (ih _ b)

theorem script_of {l : OpenLaw} {n : Nat} (hn : l.most = some n) {P : Params} {h : Heap} {args : List WData} {vals : List Value}
    (hpre : l.row.toRowW.claim.pre args = true) (hwl : WellAll P h vals args) :
    ∃ a vs ns, vals = [Value.ref a] ∧ args = [WData.list (ns.map WData.int)] ∧ h.get? a = some { cls := .type "list", data := .seq vs.toArray } ∧ IntsAre vs ns ∧ ns.length ≤ n := by
  have hsh : WShape.hasAll [] args [.list .int] = true := (pre_splitW hpre).1
  have hc : l.pre.holds [] { args := args } = true := (pre_splitW hpre).2
  obtain ⟨d, r, rfl, h1, h2⟩ := hasAllW_cons hsh
  obtain rfl := hasAllW_nil h2
  obtain ⟨xs, rfl, h3⟩ := hasW_list h1
  obtain ⟨ns, rfl⟩ := items_int h3
  have hlen : ns.length ≤ n := by
    unfold OpenLaw.pre at hc
    have h4 : (WTm.not (.lt (.lit (.int (n : Int))) (.len (.arg 0)))).holds [] { args := [.list (ns.map .int)] } = true := by
      have h4 := (holds_andW hc).1
      rw [hn] at h4
      exact h4
    have h5 := condW_of h4 (w_not (w_lt w_lit (w_len_list (w_arg rfl))))
    rw [List.length_map] at h5
    refine Nat.le_of_not_lt fun q => ?_
    have q' : (n : Int) < ((ns.length : Nat) : Int) := by omega
    first
      | (rw [decide_eq_true q'] at h5; exact absurd h5 (by decide))
      | (simp at h5; omega)
  cases hwl with
  | cons w1 w2 =>
    cases w2
    cases w1 with
    | list ho hall => exact ⟨_, _, ns, rfl, rfl, ho, ints_of_wellAll ns _ hall, hlen⟩

theorem post_true (l : OpenLaw) (args : List WData) : l.row.toRowW.claim.post args (.bool true) args = true :=
  postW_of (r := l.row.toRowW) (X := (true == true))
    (show WShape.has [] (.bool true) .bool = true by first | rfl | decide | simp [WShape.has, WShape.arms, WShape.armsAll])
    (show (WTm.eq .res (.lit (.bool true))).value [] { args := args, res := some (.bool true), after := args } = some (.bool (true == true)) from w_eq_bool (w_res rfl) w_lit) rfl

/-! ### the attachment: holds_open's last premise (the goal 'hc' behind k_head) from a wpAny of the law's body -/

/-- the same from a codeAny of the CALL (for a layer whose function contracts speak of calls) -/
theorem attach_call {l : OpenLaw} {n : Nat} {q : Program} {loose : List Str} {XP : (Str → Option Value) → Heap → Prop} {YP : World → Heap → Prop} {d : DefRec}
    (hn : l.most = some n) (hdf : d.params.defaults = [])
    (call : ∀ (w : World) (s₀ s₁ : Shared) (mg mb : Str → Option Value) (fa : Addr) (o : Obj) (pm cd doc : Value) (a : Addr) (vs : List Value) (ns : List Int),
      Ground q loose [] XP w s₀ mg mb s₁.heap → YP w s₁.heap →
      s₁.heap.get? fa = some o → o.data = .func (docDef d.name d.params d.body d.scope pm cd doc) → s₁.heap.CodeRec cd d.name → mg d.name = some (.ref fa) →
      s₁.heap.get? a = some { cls := .type "list", data := .seq vs.toArray } → IntsAre vs ns → ns.length ≤ n → s₁.gens = #[] →
      codeAny (model l.prog w) callerA (.call (.ref fa) ⟨[.ref a], []⟩) (fun r s' => r = .ok (.ret (.bool true)) ∧ OldK s₁.heap s'.heap ∧ s'.os = s₁.os ∧ AllBare s'.gens) s₁) :
    WalkO q loose XP YP l.row.toRowW d [] (fun f vs => PySem.call f vs) := by
  intro w s₀ s₁ mg mb G Y fa o pm cd doc dV kV ho hd hcd hD hmg hg args vals as hpre hlay hrd hwl hlo
  obtain rfl : dV = .none := Dflts.none hD hdf
  obtain rfl : kV = .none := Dflts.noKw hD
  obtain ⟨a, vs, ns, rfl, rfl, hobj, hints, hlen⟩ := script_of hn hpre hwl
  refine enter_call (codeAny_mono (call w s₀ s₁ mg mb fa o pm cd doc a vs ns G Y ho (fd_plain hd) hcd hmg hobj hints hlen hg) fun r s' hq => ?_)
  obtain ⟨rfl, h2, h3, h4⟩ := hq
  exact ⟨.inl ⟨.bool true, .bool true, [], rfl, fun _ => rfl, .bool true, post_true l _, fun _ => ⟨List.Pairwise.nil, fun _ hm => (nomatch hm)⟩⟩, h2, h3, h4⟩

/-! ### rules over ANY heap (no ledger) from facts about the written part K: the library's own take a ledger (News) for what they write -/
section
variable {prog : Program} {w : World} {A : Around} {E : Value → Shared → Prop} {s : Shared} {K : Frag}

/-! the whole heap as the ledger: makes every rule that writes through a ledger a rule over any heap -/

end
end Att

namespace L2
open PySem PySem.Spec PyProof.Rows

theorem vals_ints : ∀ {vs : List Value} {ns : List Int}, IntsAre vs ns → Vals (ns.map V.int) vs
  | _, _, .nil => .nil
  | _, _, .cons n t h => .cons ⟨t, rfl⟩ (vals_ints h)

/-- nothing is tracked but the script, known to the object (or it is an object of the module) -/
def Only (H : Hp) : Prop := ∀ b, H b = none ∨ ∃ o xs, H b = some (.frz o (.lst xs))

/-- THE HEAD: the law's promise, at the heap behind the top. F, the promise of the law's def, may use that base is part of the heap (so K.In base, base.Ns mainGlobals mg stand in Mod) -/
theorem law_call {P : Program} {w : World} {K : PySem.W.Frag} {mg mb : Str → Option Value} {CX : CXT} {k : Nat} {fa a : Addr} {fd : FuncData} {x : Str} {sp : Sp} {s₁ : Shared} {vs : List Value} {ns : List Int}
    (KX : K.In s₁.heap) (hns : s₁.heap.Ns mainGlobals mg) (hb : s₁.heap.Ns builtinsNs mb) (hbb : ∀ x : Str, x ≠ "__name__" → mb x = bootBuiltins x) (hlim : s₁.heap.NoLimit) (hg : s₁.gens = #[])
    (ha : s₁.heap.get? a = some { cls := .type "list", data := .seq vs.toArray }) (hi : IntsAre vs ns) (hl : ns.length ≤ sizeLine) (hr : Room k callerA)
    (F : ∀ base : Heap, K.In base → base.Ns mainGlobals mg → FnOk P w K mg base CX k fa fd [x] sp) (hbind : ∀ (s : Shared) (u : Value), BindsTo s fd ⟨[u], []⟩ [(x, u)])
    (hsp : ∀ H : Hp, Only H → SqL K H a (ns.map V.int) → sp [.ref a] H (fun v _ => v = .bl true) fun _ _ _ => False)
    (hCX : ∀ H e s', CX [] H s₁ (fun _ _ _ => False) e s' → False) :
    codeAny (model P w) callerA (.call (.ref fa) ⟨[.ref a], []⟩) (fun r s' => r = .ok (.ret (.bool true)) ∧ OldK s₁.heap s'.heap ∧ s'.os = s₁.os ∧ AllBare s'.gens) s₁ := by
  have rv := vals_ints hi
  have lenV := hi.length
  -- from an abstract heap in which nothing but the script may be tracked
  have core : ∀ H : Hp, Only H → SqL K H a (ns.map V.int) → HOk P w H s₁.heap → (∀ b, H b ≠ none → b = a) → (H a ≠ none → K.lookup a = none) →
      codeAny (model P w) callerA (.call (.ref fa) ⟨[.ref a], []⟩) (fun r s' => r = .ok (.ret (.bool true)) ∧ OldK s₁.heap s'.heap ∧ s'.os = s₁.os ∧ AllBare s'.gens) s₁ := by
    intro H hO hS hok hA hK
    have base_of : ∀ {b : Addr} {o : Obj}, s₁.heap.get? b = some o → H b = none → (hidT s₁.heap H).get? b = some o := fun e n => hidT_get e n
    have noA : ∀ {b : Addr} {o : Obj} {es : Array DictEntry} {ep : Nat}, s₁.heap.get? b = some o → o.data = .dict es ep → H b = none := fun {b o es ep} e d => by
      cases q : H b with
      | none => rfl
      | some u =>
        have e' : b = a := hA b (by rw [q]; simp)
        subst e'
        rw [ha] at e; cases e
        have d' : Data.seq vs.toArray _ = Data.dict es ep := d
        cases d'
    have nsK : ∀ {b : Addr} {m : Str → Option Value}, s₁.heap.Ns b m → (hidT s₁.heap H).Ns b m := fun {b m} ⟨o, es, ep, e, d, r⟩ => ⟨o, es, ep, base_of e (noA e d), d, r⟩
    have hKb : K.In (hidT s₁.heap H) := fun b o e => base_of (KX b o e) (by
      cases q : H b with
      | none => rfl
      | some u =>
        have e' : b = a := hA b (by rw [q]; simp)
        subst e'
        rw [hK (by rw [q]; simp)] at e; cases e)
    have hM : Mod K mg (hidT s₁.heap H) := ⟨hKb, nsK hns, ⟨mb, nsK hb, hbb⟩, let ⟨mc, h1, h2⟩ := hlim; ⟨mc, nsK h1, h2⟩⟩
    have e0 : Env0 P w K mg (hidT s₁.heap H) callerA [] s₁ H := ⟨rfl, hM, fun b o e => of_hidT e, Nat.le_of_eq (hidT_size _ _), trivial, fun b hb => absurd (show b ∈ ([] : List Addr) from hb) (by simp), hok, .of_eq hg⟩
    refine codeAny_mono ((F _ hKb (nsK hns)).run callerA [] s₁ H ⟨[.ref a], []⟩ [.ref a] [.ref a] _ _ hr e0 (hbind s₁ (.ref a)) (.cons rfl .nil) (hsp H hO hS)) fun r s' h => ?_
    cases r with
    | error e => exact (hCX H e s' h).elim
    | ok fl =>
      cases fl with
      | next => exact False.elim h
      | brk => exact False.elim h
      | cont => exact False.elim h
      | ret u =>
        obtain ⟨v, H', os, bare, un, hok', r', q⟩ := h
        have q' : v = .bl true := q
        subst q'
        obtain rfl : u = Value.bool true := r'
        refine ⟨rfl, OldK.of_keep fun b o e => ?_, os, bare⟩
        cases q : H b with
        | none => exact un.keep b o e q (by intro z; exact absurd (show b ∈ ([] : List Addr) from z) (by simp)) (by simp)
        | some u =>
          rcases hO b with z | ⟨ob, xs, z⟩
          · rw [q] at z; cases z
          · have z2 := un.frzs b ob _ z
            obtain ⟨e1, _⟩ := hok b _ z
            obtain ⟨e2, _⟩ := hok' b _ z2
            rw [e] at e1; cases e1
            exact e2
  cases hk : K.lookup a with
  | some o =>
    -- the script is one of the module's own objects
    have e := KX a o hk
    rw [ha] at e
    cases e
    refine core (fun _ => none) (fun _ => .inl rfl) (.inr ⟨_, vs.toArray, _, hk, rfl, rfl, rfl, by rw [List.size_toArray, lenV]; exact hl, by simpa using rv⟩) (fun b u z => by have z' : (none : Option HO) = some u := z; cases z') (fun b z => absurd rfl z) fun z => absurd rfl z
  | none =>
    refine core (fun b => if b = a then some (.frz { cls := .type "list", data := .seq vs.toArray } (.lst (ns.map V.int))) else none) (fun b => ?_) (.inl (.inr ⟨{ cls := .type "list", data := .seq vs.toArray }, if_pos rfl⟩)) (fun b u z => ?_) (fun b z => ?_) fun _ => hk
    · by_cases hb : b = a
      · exact .inr ⟨_, _, if_pos hb⟩
      · exact .inl (if_neg hb)
    · by_cases hb : b = a
      · have z' := (if_pos hb).symm.trans z
        cases z'
        subst hb
        exact ⟨ha, by rw [List.length_map]; exact hl, vs, _, rv, ha⟩
      · have z' := (if_neg hb).symm.trans z
        cases z'
    · by_cases hb : b = a
      · exact hb
      · exact absurd (if_neg hb) z
end L2

namespace L2
open PySem PySem.Spec PyProof.Rows

/-- the goal that k_head leaves (case hc), from the law's promise. F gives the function object fd (K's own) once, then the promise over every base -/
theorem walk_of {l : PySem.W.OpenLaw} {n k : Nat} {q : Program} {loose : List Str} {XP : (Str → Option Value) → Heap → Prop} {YP : World → Heap → Prop} {d : DefRec} {K : Params → PySem.W.Frag} {CX : World → CXT} {sp : World → Sp} {x : Str}
    (hn : l.most = some n) (hn2 : n ≤ sizeLine) (hdf : d.params.defaults = []) (hr : Room k callerA)
    (hY : ∀ (w : World) (h : Heap), YP w h → (K w.params).In h)
    (F : ∀ (w : World) (mg : Str → Option Value) (fa : Addr) (h : Heap), (K w.params).In h → h.Ns mainGlobals mg → mg d.name = some (.ref fa) →
      ∃ fd : FuncData, (∀ (s : Shared) (u : Value), BindsTo s fd ⟨[u], []⟩ [(x, u)]) ∧
        ∀ base : Heap, (K w.params).In base → base.Ns mainGlobals mg → FnOk l.prog w (K w.params) mg base (CX w) k fa fd [x] (sp w))
    (hsp : ∀ (w : World) (H : Hp) (a : Addr) (ns : List Int), ns.length ≤ n → Only H → SqL (K w.params) H a (ns.map V.int) → sp w [.ref a] H (fun v _ => v = .bl true) fun _ _ _ => False)
    (hCX : ∀ (w : World) (H : Hp) (s : Shared) (e : Value) (s' : Shared), CX w [] H s (fun _ _ _ => False) e s' → False) :
    PySem.W.WalkO q loose XP YP l.row.toRowW d [] (fun f vs => PySem.call f vs) := by
  refine Att.attach_call hn hdf fun w s₀ s₁ mg mb fa o pm cd doc a vs ns G Y ho hd hcd hmg hobj hints hlen hg => ?_
  have KX := hY w _ Y
  obtain ⟨fd, hb, hF⟩ := F w mg fa _ KX G.T.g hmg
  exact law_call KX G.T.g G.T.b G.T.builtins G.T.nolimit hg hobj hints (Nat.le_trans hlen hn2) hr hF hb (fun H hO hS => hsp w H a ns hlen hO hS) fun H e s' => hCX w H s₁ e s'
end L2

/- THE LAST THEOREM (shape; LID, My.* are yours):
   My.Adr: a structure of the addresses that your layer names (classes, functions); My.Txt K t: a structure (Prop) of the equations over K;
   My.txt_mk : {K} {implicit addresses ..} (e1 : nsIn K mainGlobals "law" = some (some (.ref f))) (e2 : K.lookup f = some ⟨oc, od, .func (fnOf "law" "law" params body scope dV kV doc pm an cdv ct), sl⟩) (e3 : codeIn K cdv "law" = true) .. : ∃ t, My.Txt K t

set_option maxRecDepth 100000 in
set_option maxHeartbeats 0 in
theorem PySem.Challenge.cw_LID_holds : PySem.Challenge.rw_LID.Holds := by
  w_on; o_law; k_head; (case hw => w_witness2)
  k_fill
  refine L2.walk_of (l := PySem.Challenge.rw_LID) (n := 63) (k := 40) (x := "script") (CX := fun w => ..) (sp := fun _ => My.sp_law) rfl (by decide) rfl ⟨rfl, by decide, by decide⟩ (fun w h Y => PySem.W.kIn_of Y) ?F ?S ?C
  case F =>
    intro w mg fa h KX G hmg
    have T : ∃ t, My.Txt (L2.KOf KX) t := by
      dsimp only [L2.KOf]                          -- K must stand as «<heap const> w.params» for k_is
      refine' My.txt_mk ?e1 ?e2 ?e3 ..
      (case e1 => PySem.W.k_is)                    -- in the order: a name -> its address -> its object -> its parts
      (case e2 => PySem.W.k_is)
      ..
    obtain ⟨t, T⟩ := T
    have e0 := hmg.symm.trans (PySem.W.mg_of KX G T.law)
    cases e0                                       -- fa is the law's own address
    exact ⟨_, fun s u => .of_eq rfl, fun base kb nb => My.law_fn T kb nb⟩     -- if «.of_eq rfl» comes too early: refine' ⟨_, ?b, fun base kb nb => My.law_fn T kb nb⟩; exact fun s u => .of_eq rfl
  case S => exact fun w H a ns hl hO hS => ..
  case C => exact ..
(the tactic k_is has no namespace: write k_is) -/

/-! SHORT WORDS over the layer: a def of the text, its body, what a loop and a test want. -/
namespace L2
open PySem PySem.Spec PyProof.Rows

/-! ### the text by places -/
/-- the j-th statement of a class's body -/
def inClass (s : Stmt) (j : Nat) : Stmt := match s with
  | .ClassDef _ _ _ body _ _ _ _ _ _ _ => body.getD j (.Pass ⟨0, 0, 0, 0⟩)
  | _ => .Pass ⟨0, 0, 0, 0⟩
def defArgs (s : Stmt) : Arguments := match s with
  | .FunctionDef _ a _ _ _ _ _ _ _ _ => a
  | _ => { posonlyargs := [], args := [], vararg := none, kwonlyargs := [], kw_defaults := [], kwarg := none, defaults := [] }
def defBody (s : Stmt) : List Stmt := match s with
  | .FunctionDef _ _ b _ _ _ _ _ _ _ => b
  | _ => []
def defScope (s : Stmt) : Scope := match s with
  | .FunctionDef _ _ _ _ _ _ sc _ _ _ => sc
  | _ => { kind := .function, names := [], isGenerator := false, isCoroutine := false }

/-! ### no exception leaves a def -/
abbrev CX0 : CXT := fun _ _ _ _ _ _ => False
abbrev E0 : XK := fun _ _ _ => False
theorem pass0 {X : Cx} : Passes CX0 X E0 := fun _ _ _ _ _ _ _ h => h.elim

/-! ### a def (or method) of the text as it stands behind the top -/
structure Fun (K : PySem.W.Frag) (x qual : Str) (st : Stmt) (f : Addr) (fd : FuncData) : Prop where
  ex : ∃ (oc : Value) (od : Option Addr) (kV doc pm : Value) (an : Option Addr) (cdv ct : Value) (osl : Array (Option Value)),
    fd = PySem.W.fnOf x qual (defArgs st) (defBody st) (defScope st) .none kV doc pm an cdv ct ∧ K.lookup f = some ⟨oc, od, .func fd, osl⟩ ∧ PySem.W.codeIn K cdv qual = true
  kp : PySem.W.keepIn K (.ref f) = true
section
variable {P : Program} {w : World} {K : PySem.W.Frag} {mg : Str → Option Value} {base : Heap}
/-- THE RULE for a def: its body as a term of rules, and the reading of that term -/
theorem Fun.ok {x qual : Str} {st : Stmt} {f : Addr} {fd : FuncData} {N ps : List Str} {k : Nat} {sp : Sp} (F : Fun K x qual st f fd) (S : FnScope N ps (defScope st)) (len : ∀ vs H Q E, sp vs H Q E → vs.length = ps.length)
    (hbody : ∀ (cdv : Value) (A : Around) (outer : List Env) (s : Shared) (H : Hp) (vs : List V) (Q : VK) (E : XK), Room k (A.deeper (envOfC qual (defScope st) s.heap.objs.size f cdv)) → sp vs H Q E →
      ∃ t, PSs (cxOf CX0 P w K mg base N qual (defScope st) f cdv A outer s H E).nox (defBody st) t ∧ t { nx := fun _ H' => Q .non H', rt := Q } (start N vs) H) : FnOk P w K mg base CX0 (k + 1) f fd ps sp := by
  obtain ⟨oc, od, kV, doc, pm, an, cdv, ct, osl, rfl, lk, hcd⟩ := F.ex
  refine fn_of lk hcd S len fun A outer s H vs Q E hr hsp => ?_
  obtain ⟨t, h, q⟩ := hbody cdv A outer s H vs Q E hr hsp
  exact ⟨t, h.nox, q⟩
/-- how its arguments bind (no defaults): h is «fun _ _ _ _ _ _ us hl => match us, hl with | [_, _], _ => rfl», one _ a parameter -/
theorem Fun.binds {x qual : Str} {st : Stmt} {f : Addr} {fd : FuncData} {ps : List Str} (F : Fun K x qual st f fd)
    (h : ∀ (kV doc pm : Value) (an : Option Addr) (cdv ct : Value) (us : List Value), us.length = ps.length → bindArgs (PySem.W.fnOf x qual (defArgs st) (defBody st) (defScope st) .none kV doc pm an cdv ct) ⟨us, []⟩ = pure (ps.zip us)) : Binds K fd ps [] := by
  obtain ⟨oc, od, kV, doc, pm, an, cdv, ct, osl, rfl, lk, hcd⟩ := F.ex
  exact .all (h kV doc pm an cdv ct)
theorem fun_mk {x qual : Str} {st : Stmt} {f : Addr} {oc : Value} {od an : Option Addr} {osl : Array (Option Value)} {kV doc pm cdv ct : Value} (l : K.lookup f = some ⟨oc, od, .func (PySem.W.fnOf x qual (defArgs st) (defBody st) (defScope st) .none kV doc pm an cdv ct), osl⟩)
    (c : PySem.W.codeIn K cdv qual = true) (k : PySem.W.keepIn K (.ref f) = true) : Fun K x qual st f (PySem.W.fnOf x qual (defArgs st) (defBody st) (defScope st) .none kV doc pm an cdv ct) := ⟨⟨oc, od, kV, doc, pm, an, cdv, ct, osl, rfl, l, c⟩, k⟩
end
theorem hu_of {A : Around} {k : Nat} (hr : Room k A) : A.units + 1 < cLine := Nat.lt_of_le_of_lt (Nat.add_le_add_left (by decide : 1 ≤ 64) _) hr.units

/-! ### expressions in short: the name that stands in the i-th slot -/
section
variable {X : Cx}
theorem pv (i : Nat) {x : Str} {pos : Pos} (hN : X.N[i]? = some x := by rfl) (hv : Vis X.env.scope x := by first | exact Or.inl rfl | exact Or.inr (Or.inl rfl) | exact Or.inr (Or.inr rfl)) (hd : (x == ("__debug__" : Str)) = false := by decide)
    (hcd : (x == ("__classdict__" : Str)) = false := by decide) : PE X (.Name x pos) (tVar i) := pe_var hN hv hd hcd
end

/-! ### tests -/
theorem iteF {A B : Prop} (h : B) : if false = true then A else B := by
  rw [if_neg Bool.false_ne_true]
  exact h
theorem iteT {A B : Prop} (h : A) : if true = true then A else B := by
  rw [if_pos rfl]
  exact h
theorem ite2 {c A B : Prop} [Decidable c] (h1 : c → A) (h2 : ¬ c → B) : if c then A else B := by
  by_cases h : c
  · rw [if_pos h]
    exact h1 h
  · rw [if_neg h]
    exact h2 h

/-! ### heaps -/
/-- all that was tracked is as it was -/
def Same (H H' : Hp) : Prop := ∀ b o, H b = some o → H' b = some o
theorem Same.refl (H : Hp) : Same H H := fun _ _ h => h
theorem Same.trans {H H1 H2 : Hp} (a : Same H H1) (b : Same H1 H2) : Same H H2 := fun c o h => b c o (a c o h)
theorem Same.free {H H' : Hp} (e : Same H H') {l : Addr} (h : H' l = Option.none) : H l = Option.none := by
  cases q : H l with
  | none => rfl
  | some o =>
    rw [e l o q] at h
    cases h
theorem Same.seq {K : PySem.W.Frag} {H H' : Hp} {a : Addr} {xs : List V} (e : Same H H') (h : SqL K H a xs) : SqL K H' a xs := by
  rcases h with (h | ⟨o, h⟩) | h
  · exact .inl (.inl (e _ _ h))
  · exact .inl (.inr ⟨o, e _ _ h⟩)
  · exact .inr h

end L2

namespace L2
open PySem PySem.Spec PyProof.Rows

/-! ### a list comprehension of one clause, any target, at most one test -/
section
variable {prog : Program} {w : World} {A : Around} {R : Result → Shared → Prop} {s : Shared}
theorem compLoop_gen {elt target iter : Expr} {ifs : List Expr} {scope : Scope} {pos : Pos} {it acc : Value} {env : Env} (I : Nat → Shared → Prop)
    (turn : ∀ n s, I n s → wpAny (model prog w) A (pyNext it) (fun r s₁ => match r with
      | none => R (.ok .next) s₁
      | some v => wpAny (model prog w) A (letOwnedTupleGo target it v) (fun _ s₁' => wpAny (model prog w) A (assign target env v) (fun _ s₂ =>
          wpAny (model prog w) A (forIn ifs true fun c r => if r = true then do let ok ← isTrue c env (eval c env); pure (ForInStep.yield ok) else pure (ForInStep.yield r)) (fun ok s₃ =>
            if ok = true then wpAny (model prog w) A (eval elt env) (fun x s₄ =>
              wpAny (model prog w) A (call (.builtin "list.append") [acc, x]) (fun _ s₅ => ∃ m, m < n ∧ I m s₅) (fun _ _ => False) s₄) (fun _ _ => False) s₃
            else ∃ m, m < n ∧ I m s₃) (fun _ _ => False) s₂) (fun _ _ => False) s₁') (fun _ _ => False) s₁) (fun _ _ => False) s)
    (n : Nat) (h : I n s) :
    codeAny (model prog w) A (.compLoop (.ListComp elt [⟨target, iter, ifs, 0⟩] scope pos) 0 it acc env) R s := by
  have nv : ∀ {α : Type} {t : Sem α} {Q : α → Shared → Prop} {E' : Value → Shared → Prop} {s' : Shared}, wpAny (model prog w) A t Q (fun _ _ => False) s' → wpAny (model prog w) A t Q E' s' :=
    fun h => wpAny_mono h (fun _ _ q => q) fun _ _ z => z.elim
  refine codeAny_loop rfl I (fun n s hI => ?_) n h
  show wpAny _ A ((compTurn (.ListComp elt [⟨target, iter, ifs, 0⟩] scope pos) 0 it acc env).onRaise (fun x => do noteFrame x env; theTreesLotGoes x)) _ _ s
  refine wpAny_noted (nv ?_)
  rw [compTurn_list]
  refine wpAny_bind (wpAny_standAt (wpAny_bind (thn (turn n s hI) (fun r s₁ h₁ => ?_))))
  cases r with
  | none => exact wpAny_pure h₁
  | some v =>
    refine wpAny_bind (thn h₁ (fun _ s₁' h₁' => ?_))
    refine wpAny_bind (thn h₁' (fun _ s₂ h₂ => wpAny_bind (thn h₂ (fun ok s₃ h₃ => ?_))))
    cases ok with
    | false => exact wpAny_pure ⟨rfl, h₃⟩
    | true =>
      exact wpAny_bind (wpAny_bind (thn h₃ (fun x s₄ h₄ => wpAny_bind (thn h₄ (fun _ s₅ h₅ => wpAny_pure (wpAny_pure ⟨rfl, h₅⟩))))))
end

/-- the context of a comprehension's block: N' its names (its own first, then those of the def that it names, at the places js) -/
def cxC (X : Cx) (N' : List Str) (scope : Scope) (cl : List (Str × Addr)) (s3 : Shared) (H3 : Hp) (ex : List Addr) : Cx where
  prog := X.prog
  w := X.w
  K := X.K
  mg := X.mg
  base := X.base
  A := X.A
  N := N'
  s₀ := s3
  H₀ := H3
  env := compEnvC scope cl s3.heap.objs.size X.env
  outer := X.stack
  stack := X.stack
  ex := ex
  fn := fun _ => false
  calm := X.calm
  pn := []
  xe := fun _ _ => False

/-- what stands for the block's names at its beginning -/
def capσ (n : Nat) (js : List Nat) (σ : St) : St := List.replicate n none ++ js.map fun j => (σ[j]?).join

/-- the block's names: n of its own, then captured ones -/
structure Caps (X : Cx) (scope : Scope) (cl : List (Str × Addr)) (N' : List Str) (n : Nat) (js : List Nat) : Prop where
  clos : closureFor scope X.env = pure cl
  kind : scope.kind = .function
  nocell : ∀ y ∈ scope.names, y.2 ≠ .cell
  names : ∀ y ∈ scope.names, y.2 = .local → scope.names.lookup y.1 = some .local
  len : N'.length = n + js.length
  sub : ∀ x c, cl.lookup x = some c → X.env.cells.lookup x = some c
  has : ∀ x, scope.names.lookup x = some .free → ∃ c, cl.lookup x = some c
  cap : ∀ k j, js[k]? = some j → ∃ x, N'[n + k]? = some x ∧ X.N[j]? = some x ∧ scope.names.lookup x = some .free ∧ (X.env.kindOf x = some .cell ∨ X.env.kindOf x = some .free)

theorem lookup_relabel {env : Env} : ∀ {names : List (Str × NameKind)} {x : Str} {k : NameKind}, (∀ y ∈ names, y.2 ≠ .cell) →
    (names.map fun (n, k) => if (k == NameKind.free && env.scope.kind == .function && env.kindOf n == some .cell) then (n, NameKind.cell) else (n, k)).lookup x = some k → k = .cell ∨ k = .free → names.lookup x = some .free
  | [], _, _, _, h, _ => by simp at h
  | (n, k') :: r, x, k, hc, h, hk => by
    have ih := @lookup_relabel env r x k (fun y hy => hc y (List.mem_cons_of_mem _ hy))
    have h' : List.lookup x ((if (k' == NameKind.free && env.scope.kind == .function && env.kindOf n == some .cell) = true then (n, NameKind.cell) else (n, k')) :: (r.map fun (n, k) => if (k == NameKind.free && env.scope.kind == .function && env.kindOf n == some .cell) then (n, NameKind.cell) else (n, k))) = some k := h
    have hn : k' ≠ .cell := hc (n, k') List.mem_cons_self
    by_cases hcond : (k' == NameKind.free && env.scope.kind == .function && env.kindOf n == some .cell) = true
    · rw [if_pos hcond] at h'
      have hf : k' = .free := by
        simp only [Bool.and_eq_true, beq_iff_eq] at hcond
        exact hcond.1.1
      subst hf
      cases hx : x == n with
      | true => simp [List.lookup_cons, hx]
      | false =>
        simp only [List.lookup_cons, hx] at h' ⊢
        exact ih h' hk
    · rw [if_neg hcond] at h'
      cases hx : x == n with
      | true =>
        simp only [List.lookup_cons, hx, Option.some.injEq] at h' ⊢
        subst h'
        rcases hk with z | z
        · exact absurd z hn
        · exact z
      | false =>
        simp only [List.lookup_cons, hx] at h' ⊢
        exact ih h' hk

section
variable {X : Cx} {pins : List (Addr × Obj)} {σ : St} {H : Hp} {s : Shared}
theorem Caps.inner {scope : Scope} {cl : List (Str × Addr)} {N' : List Str} {n : Nat} {js : List Nat} (c : Caps X scope cl N' n js) {x : Str} (h : (compEnvC scope cl 0 X.env).kindOf x = some .cell ∨ (compEnvC scope cl 0 X.env).kindOf x = some .free) :
    scope.names.lookup x = some .free := by
  rcases h with h | h
  · exact lookup_relabel c.nocell h (.inl rfl)
  · exact lookup_relabel c.nocell h (.inr rfl)

theorem lookup_relabel_free {env : Env} : ∀ {names : List (Str × NameKind)} {x : Str}, names.lookup x = some .free →
    (names.map fun (n, k) => if (k == NameKind.free && env.scope.kind == .function && env.kindOf n == some .cell) then (n, NameKind.cell) else (n, k)).lookup x = some .cell ∨
    (names.map fun (n, k) => if (k == NameKind.free && env.scope.kind == .function && env.kindOf n == some .cell) then (n, NameKind.cell) else (n, k)).lookup x = some .free
  | [], _, h => by simp at h
  | (n, k) :: r, x, h => by
    have ih := @lookup_relabel_free env r x
    show List.lookup x ((if (k == NameKind.free && env.scope.kind == .function && env.kindOf n == some .cell) = true then (n, NameKind.cell) else (n, k)) :: _) = _ ∨ List.lookup x ((if (k == NameKind.free && env.scope.kind == .function && env.kindOf n == some .cell) = true then (n, NameKind.cell) else (n, k)) :: _) = _
    cases hx : x == n with
    | true =>
      simp only [List.lookup_cons, hx, Option.some.injEq] at h
      subst h
      split <;> simp [List.lookup_cons, hx]
    | false =>
      simp only [List.lookup_cons, hx] at h
      split <;> (simp only [List.lookup_cons, hx]; exact ih h)

/-- at the block's entry -/
theorem inv_comp {scope : Scope} {cl : List (Str × Addr)} {N' : List Str} {n : Nat} {js : List Nat} {fp : List Addr} {h₁ : Heap} {tk : Nat} (c : Caps X scope cl N' n js) (I : Inv X pins σ H s)
    (f : ∀ b ∈ fp, FpOk X pins H b) (fo : ∀ b ∈ fp, b < s.heap.objs.size) (hns : ∃ m, h₁.Ns s.heap.objs.size m) (hk : ∀ b o, s.heap.get? b = some o → h₁.get? b = some o) :
    Inv (cxC X N' scope cl s H fp) [] (capσ n js σ) H { s with heap := h₁, toks := tk } := by
  obtain ⟨m, hns⟩ := hns
  refine ⟨⟨I.ok.mod, c.kind, I.ok.glob, I.ok.blt, Nat.le_refl _, fun x y a h1 h2 => I.ok.inj x y a (c.sub x a h1) (c.sub y a h2), fun x hx => c.has x (c.inner hx), fun x a h => (nomatch h), I.ok.hd, I.ok.frames, .inl rfl,
    fun b hb => ⟨Nat.ne_of_lt (fo b hb), fun x a h => (f b hb).2.2.2.2.1 x a (c.sub x a h)⟩, I.bs, Nat.le_trans I.ok.bsz I.sz, fun b o e hb => ?_, fun b hb z => ?_, I.stack, I.stkFree⟩,
    rfl, I.bare, Un.kept hk, ⟨m, hns, fun i x v h1 h2 h3 => ?_⟩, fun x a h => ?_, I.hok.fresh (Nat.le_refl _), fun x a h => I.freeC x a (c.sub x a h), fun p hp => absurd (show p ∈ ([] : List (Addr × Obj)) from hp) (by simp), I.hok.kept hk, ?_⟩
  · rcases (f b hb).2.2.2.1 with z | z
    · exact I.ok.noex b o e z
    · exact absurd (Nat.lt_of_lt_of_le (Heap.lt_size e) (Nat.le_trans I.ok.bsz z)) (Nat.lt_irrefl _)
  · rcases List.mem_cons.mp (I.stkSub b z) with q | q
    · exact (f b hb).2.1 q
    · exact (f b hb).2.2.1 q
  · -- a captured name
    unfold capσ at h2
    by_cases hi : i < n
    · rw [List.getElem?_append_left (by simpa using hi), List.getElem?_replicate] at h2
      rw [if_pos hi] at h2
      cases h2
    · rw [List.getElem?_append_right (by simpa using hi), List.length_replicate, List.getElem?_map] at h2
      cases e : js[i - n]? with
      | none => rw [e] at h2; cases h2
      | some j =>
        rw [e] at h2
        have h2' : (σ[j]?).join = some v := Option.some.inj h2
        have hj : σ[j]? = some (some v) := by
          cases q : σ[j]? with
          | none => rw [q] at h2'; cases h2'
          | some o => rw [q] at h2'; exact congrArg some h2'
        obtain ⟨y, e1, e2, e3, e4⟩ := c.cap (i - n) j e
        have hin : n + (i - n) = i := by omega
        rw [hin] at e1
        have h1' : N'[i]? = some x := h1
        rw [e1] at h1'
        cases h1'
        obtain ⟨m0, hn0, hl0⟩ := I.loc
        have vis : Vis X.env.scope x := by
          rcases e4 with z | z
          · exact .inr (.inl z)
          · exact .inr (.inr z)
        obtain ⟨u, r, l⟩ := hl0 j x v e2 hj vis
        refine ⟨u, r, .inr ⟨?_, ?_⟩⟩
        · exact lookup_relabel_free (env := X.env) e3
        · rcases l with ⟨k, _⟩ | ⟨_, a, ea, ha⟩
          · rcases e4 with z | z
            · rw [z] at k; cases k
            · rw [z] at k; cases k
          · obtain ⟨a', ea'⟩ := c.has x e3
            have := c.sub x a' ea'
            rw [ea] at this
            cases this
            refine ⟨a, ea', ?_⟩
            obtain ⟨o, ho, hd⟩ := ha
            exact ⟨o, hk _ _ ho, hd⟩
  · obtain ⟨v, o, ho, hd⟩ := I.cell x a (c.sub x a h)
    exact ⟨v, o, hk _ _ ho, hd⟩
  · show (capσ n js σ).length = N'.length
    unfold capσ
    rw [List.length_append, List.length_replicate, List.length_map, c.len]

/-- behind the block: the def's state again -/
theorem comp_out {scope : Scope} {cl : List (Str × Addr)} {N' : List Str} {fp : List Addr} {σ' : St} {H' : Hp} {s' : Shared} (I : Inv X pins σ H s) (f : ∀ b ∈ fp, FpOk X pins H b)
    (J : Inv (cxC X N' scope cl s H fp) [] σ' H' s') : Inv X pins σ H' s' :=
  I.call' (ch := fp) J.os J.base J.hok J.bare fun b hb => ⟨(f b hb).2.2.2.1, (f b hb).2.1, (f b hb).2.2.2.2.1, (f b hb).2.2.2.2.2⟩
/-- the block's own namespace changes, or goes -/
theorem comp_gone {σ' : St} {H' : Hp} {s' : Shared} {h' : Heap} (I : Inv X pins σ H s) (J : Inv X pins σ' H' s') (hC : H' s.heap.objs.size = none) (hs : Heap.SameBut s.heap.objs.size s'.heap h') : Inv X pins σ' H' { s' with heap := h' } := by
  refine J.turned (t' := s'.toks) (fun b o hb e => (hs.2 b hb).trans e) hC (Nat.ne_of_gt I.lt) (.inr I.sz) (fun x c e z => ?_) fun p hp z => ?_
  · obtain ⟨v, q⟩ := I.cell x c e
    exact absurd q.lt (by rw [z]; exact Nat.lt_irrefl _)
  · exact absurd (Heap.lt_size (I.pin p hp).1) (by rw [z]; exact Nat.lt_irrefl _)
end

/-- the tests of a clause -/
def PTS (X : Cx) (ifs : List Expr) (tt : TT) : Prop :=
  ∀ (pins : List (Addr × Obj)) (s : Shared) (σ : St) (H : Hp) (Q : Bool → Hp → Prop), Inv X pins σ H s → tt σ H Q →
    wpAny (model X.prog X.w) X.A (forIn ifs true fun c r => if r = true then do let ok ← isTrue c X.env (eval c X.env); pure (ForInStep.yield ok) else pure (ForInStep.yield r)) (TP X pins σ Q) X.xe s
def tYes : TT := fun _ H Q => Q true H
theorem pts_nil {X : Cx} : PTS X [] tYes := fun _ _ _ H _ I h => wpAny_tests_nil ⟨H, I, h⟩
theorem pts_one {X : Cx} {c : Expr} {tt : TT} (h : PT X c tt) : PTS X [c] tt := fun pins s σ H Q I q => wpAny_tests_one (h pins s σ H Q I q)

def tComp (κ : St → St) (wi : TI) (g : TG) (tt : TT) (te : TE) : TE := fun σ H Q => wi σ H fun J H1 => ∀ D, H1 D = none → ∃ W : Nat → Nat → St → Hp → Prop, (∃ m, W 0 m (κ σ) (upd H1 D (.lst []))) ∧ ∀ i m σ' H', W i m σ' H' →
  (J.stop i H' ∧ Q (.ref D) H') ∨ (J.go i H' ∧ ∃ (Ay : V → St → Hp → Prop) (An : St → Hp → Prop), (∀ y σ3 H5, Ay y σ3 H5 → ∃ ys, H5 D = some (.lst ys) ∧ ys.length < sizeLine ∧ ∃ m', m' < m ∧ W (i + 1) m' σ3 (upd H5 D (.lst (ys ++ [y])))) ∧ (∀ σ3 H4, An σ3 H4 → ∃ m', m' < m ∧ W (i + 1) m' σ3 H4) ∧
    ∀ x H2, J.yld i H' x H2 → g x σ' H2 fun σ3 H3 => tt σ3 H3 fun ok H4 => if ok = true then te σ3 H4 (fun y H5 => Ay y σ3 H5) else An σ3 H4)

section
variable {X : Cx} {pins : List (Addr × Obj)} {σ : St} {H : Hp} {s : Shared}
theorem comp_run {scope : Scope} {cl : List (Str × Addr)} {N' : List Str} {n : Nat} {js : List Nat} {tg iter elt : Expr} {ifs : List Expr} {pos : Pos} {g : TG} {tt : TT} {te : TE} {E : Value → Shared → Prop}
    {RR : Value → Addr → Result → Shared → Prop} {it : Addr} {fp : List Addr} {tn : Nat → Heap → Prop} {J : It} {W : Addr → Nat → Nat → St → Hp → Prop} {Fi : Addr → Hp → Prop}
    (c : Caps X scope cl N' n js) (hc : X.calm = true)
    (hin : ∀ s3 H3 fp, PG (cxC X N' scope cl s3 H3 fp) tg g ∧ PTS (cxC X N' scope cl s3 H3 fp) ifs tt ∧ PE (cxC X N' scope cl s3 H3 fp) elt te)
    (I : Inv X pins σ H s) (T : Turn X.prog X.w X.K tg J fp it tn) (st : tn 0 s.heap) (f : ∀ b ∈ fp, FpOk X pins H b)
    (w0 : ∀ D, H D = none → ∃ m, W D 0 m (capσ n js σ) (upd H D (.lst [])))
    (turn : ∀ D, H D = none → ∀ i m σ' H', W D i m σ' H' → (J.stop i H' ∧ Fi D H') ∨ (J.go i H' ∧ ∃ (Ay : V → St → Hp → Prop) (An : St → Hp → Prop), (∀ y σ3 H5, Ay y σ3 H5 → ∃ ys, H5 D = some (.lst ys) ∧ ys.length < sizeLine ∧ ∃ m', m' < m ∧ W D (i + 1) m' σ3 (upd H5 D (.lst (ys ++ [y])))) ∧ (∀ σ3 H4, An σ3 H4 → ∃ m', m' < m ∧ W D (i + 1) m' σ3 H4) ∧
      ∀ x H2, J.yld i H' x H2 → g x σ' H2 fun σ3 H3 => tt σ3 H3 fun ok H4 => if ok = true then te σ3 H4 (fun y H5 => Ay y σ3 H5) else An σ3 H4))
    (hR : ∀ (D : Addr) (s3 : Shared) (H3 H' : Hp) (s' : Shared), Inv X pins σ H3 s3 → Inv X pins σ H' s' → (∃ m, s'.heap.Ns s3.heap.objs.size m) → H' s3.heap.objs.size = none → Fi D H' → RR (.ref D) s3.heap.objs.size (.ok .next) s') :
    wpAny (model X.prog X.w) X.A (newList []) (fun acc s₃ => wpAny (model X.prog X.w) X.A (newFunctionEnv scope X.env.globals cl [] X.env.qual none .none (some X.env)) (fun cenv s₄ =>
      codeAny (model X.prog X.w) X.A (.compStart (.ListComp elt [⟨tg, iter, ifs, 0⟩] scope pos) 0 (.ref it) acc { cenv with scope := relabel scope X.env }) (RR acc cenv.locals) s₄) E s₃) E s := by
  have hD : H s.heap.objs.size = none := I.fresh
  have I3 := I.lnew (ys := []) (its := []) (t' := s.toks) .nil (Nat.zero_le _)
  refine wpAny_newObj_type ?_
  have f3 : ∀ b ∈ fp, FpOk X pins (upd H s.heap.objs.size (.lst [])) b := fun b hb => by
    obtain ⟨o, e, _⟩ := T.obj _ _ st b hb
    exact ⟨by rw [upd_ne (Nat.ne_of_lt (Heap.lt_size e))]; exact (f b hb).1, (f b hb).2⟩
  generalize hs3 : ({ s with heap := s.heap.push { cls := .type "list", data := .seq ([] : List Value).toArray }, toks := s.toks } : Shared) = s3 at I3
  have hh3 : s.heap.push { cls := .type "list", data := .seq ([] : List Value).toArray } = s3.heap := by rw [← hs3]
  have k3 : ∀ b o, s.heap.get? b = some o → s3.heap.get? b = some o := fun b o e => by rw [← hh3]; exact Heap.get?_push_of_some _ e
  have fo : ∀ b ∈ fp, b < s3.heap.objs.size := fun b hb => by
    obtain ⟨o, e, _⟩ := T.obj _ _ st b hb
    exact Heap.lt_size (k3 b o e)
  refine wpAny_newFunctionEnv c.nocell (by intro y hy; simp at hy) (fun h₁ hns₁ hsb₁ => ?_) c.kind
  have k4 : ∀ b o, s3.heap.get? b = some o → h₁.get? b = some o := fun b o e => hsb₁.extBut b o (Nat.ne_of_lt (Heap.lt_size e)) (Heap.get?_push_of_some _ e)
  have I4 := inv_comp (h₁ := h₁) (tk := s3.toks + ([] : List (Str × Value)).length) c I3 f3 fo ⟨_, hns₁⟩ k4
  have st4 : tn 0 h₁ := T.keep _ _ _ st fun b _ o e => k4 b o (k3 b o e)
  have stat : ∀ {H' : Hp}, (∀ b ∈ fp, H' b = none) → ∀ b ∈ fp, FpOk (cxC X N' scope cl s3 (upd H s.heap.objs.size (.lst [])) fp) [] H' b := fun hn b hb =>
    ⟨hn b hb, Nat.ne_of_lt (fo b hb), I4.ok.exfs b hb, .inl hb, fun x a h => (f b hb).2.2.2.2.1 x a (c.sub x a h), fun p hp => absurd (show p ∈ ([] : List (Addr × Obj)) from hp) (by simp)⟩
  obtain ⟨hg, htt, hel⟩ := hin s3 (upd H s.heap.objs.size (.lst [])) fp
  have tr := turn _ hD
  have loop : codeAny (model X.prog X.w) X.A (.compLoop (.ListComp elt [⟨tg, iter, ifs, 0⟩] scope pos) 0 (.ref it) (.ref s.heap.objs.size) (compEnvC scope cl s3.heap.objs.size X.env))
      (RR (.ref s.heap.objs.size) s3.heap.objs.size) { s3 with heap := h₁, toks := s3.toks + ([] : List (Str × Value)).length } := by
    obtain ⟨m0, w0⟩ := w0 _ hD
    refine compLoop_gen (fun m s' => ∃ i σ' H', Inv (cxC X N' scope cl s3 (upd H s.heap.objs.size (.lst [])) fp) [] σ' H' s' ∧ tn i s'.heap ∧ (∀ b ∈ fp, H' b = none) ∧ W s.heap.objs.size i m σ' H') ?_ m0 ⟨0, _, _, I4, st4, fun b hb => (f3 b hb).1, w0⟩
    rintro m s5 ⟨i, σ5, H5, I5, st5, fr5, w5⟩
    rcases tr i m σ5 H5 w5 with ⟨stop, qF⟩ | ⟨go, Ay, An, hAy, hAn, step⟩
    · refine thn (T.done (cxC X N' scope cl s3 (upd H s.heap.objs.size (.lst [])) fp) rfl rfl rfl hc i [] s5 σ5 H5 (fun _ _ => False) I5 (stat fr5) st5 stop) fun r s6 ⟨hr, I6⟩ => ?_
      subst hr
      obtain ⟨m6, hn6, _⟩ := I6.loc
      exact hR _ s3 _ H5 s6 I3 (comp_out I3 f3 I6) ⟨m6, hn6⟩ I6.free qF
    · refine thn (T.item (cxC X N' scope cl s3 (upd H s.heap.objs.size (.lst [])) fp) rfl rfl rfl hc i [] s5 σ5 H5 (fun _ _ => False) I5 (stat fr5) st5 go) fun r s6 ⟨u, hr, h6⟩ => ?_
      subst hr
      refine thn h6 fun _ s7 ⟨x, H7, I7, r7, y7, st7, fr7⟩ => ?_
      have I7' := I7.pinned (stat fr7) (T.obj _ _ st7)
      refine thn (hg _ s7 σ5 H7 x u _ I7' r7 (step x H7 y7)) fun _ s8 ⟨σ8, H8, I8, q8⟩ => ?_
      refine thn (htt _ s8 σ8 H8 _ I8 q8) fun ok s9 ⟨H9, I9, q9⟩ => ?_
      have back : ∀ {H' : Hp} {s' : Shared}, Inv (cxC X N' scope cl s3 (upd H s.heap.objs.size (.lst [])) fp) ([] ++ pinsAt fp s7.heap) σ8 H' s' → (∃ m', m' < m ∧ W s.heap.objs.size (i + 1) m' σ8 H') →
          ∃ m', m' < m ∧ ∃ i σ' H', Inv (cxC X N' scope cl s3 (upd H s.heap.objs.size (.lst [])) fp) [] σ' H' s' ∧ tn i s'.heap ∧ (∀ b ∈ fp, H' b = none) ∧ W s.heap.objs.size i m' σ' H' := fun {H' s'} J' w' => by
        obtain ⟨m', hm, w'⟩ := w'
        refine ⟨m', hm, i + 1, σ8, H', J'.unpinned, T.keep _ _ _ st7 fun b hb o e => (J'.pin (b, o) (List.mem_append_right _ (List.mem_append_right _ (mem_pinsAt hb e)))).1, fun b hb => ?_, w'⟩
        obtain ⟨o, e, d⟩ := T.obj _ _ st7 b hb
        exact (J'.pin (b, o) (List.mem_append_right _ (List.mem_append_right _ (mem_pinsAt hb e)))).2.1
      cases ok with
      | false =>
        rw [if_neg (by decide)] at q9 ⊢
        exact back I9 (hAn _ _ q9)
      | true =>
        rw [if_pos rfl] at q9 ⊢
        refine thn (hel _ s9 σ8 H9 _ I9 q9) fun yv s10 ⟨y, H10, I10, r10, qA⟩ => ?_
        obtain ⟨ys, e10, z10, q10⟩ := hAy _ _ _ qA
        obtain ⟨z, its, nn, r, hl, e⟩ := I10.lstM e10
        refine call_meets F.slot_list_append ⟨_, e, rfl⟩ F.entry_list_append (F.args_list_append_2 _ _) (PySem.list_append _ its.toArray nn yv (by rw [List.size_toArray]; omega)) ⟨e, ?_⟩
        refine back (I10.lset (its' := its ++ [yv]) e10 e (by simp) (r.append (.cons r10 .nil)) ?_) q10
        rw [List.length_append, List.length_singleton]
        omega
  exact codeAny_compStart_list loop (T.self _ 0 _ _ _ st4 loop)

/-- [elt for tg in iter], [elt for tg in iter if test] -/
theorem pe_comp {scope : Scope} {cl : List (Str × Addr)} {N' : List Str} {n : Nat} {js : List Nat} {tg iter elt : Expr} {ifs : List Expr} {pos : Pos} {wi : TI} {g : TG} {tt : TT} {te : TE}
    (c : Caps X scope cl N' n js) (hc : X.calm = true) (hi : PI X tg iter wi)
    (hin : ∀ s3 H3 fp, PG (cxC X N' scope cl s3 H3 fp) tg g ∧ PTS (cxC X N' scope cl s3 H3 fp) ifs tt ∧ PE (cxC X N' scope cl s3 H3 fp) elt te)
    (hs : ∀ x, foldedSetIterable iter X.env x = pure x := by intro _; rfl) : PE X (.ListComp elt [⟨tg, iter, ifs, 0⟩] scope pos) (tComp (capσ n js) wi g tt te) := by
  intro pins s σ H Q I h
  rw [eval_ListComp]
  refine wpAny_comprehension_free (use := none) rfl hs c.clos c.kind c.names (thn (hi pins s σ H _ I h) fun v s1 h1 => thn h1 fun itv s2 h2 => ?_)
  obtain ⟨it, fp, tn, J, H2, e, I2, T, st2, f2, h2⟩ := h2
  subst e
  have h2' : ∃ W : Addr → Nat → Nat → St → Hp → Prop, (∀ D, H2 D = none → ∃ m, W D 0 m (capσ n js σ) (upd H2 D (.lst []))) ∧ ∀ D, H2 D = none → ∀ i m σ' H', W D i m σ' H' →
      (J.stop i H' ∧ Q (.ref D) H') ∨ (J.go i H' ∧ ∃ (Ay : V → St → Hp → Prop) (An : St → Hp → Prop), (∀ y σ3 H5, Ay y σ3 H5 → ∃ ys, H5 D = some (.lst ys) ∧ ys.length < sizeLine ∧ ∃ m', m' < m ∧ W D (i + 1) m' σ3 (upd H5 D (.lst (ys ++ [y])))) ∧ (∀ σ3 H4, An σ3 H4 → ∃ m', m' < m ∧ W D (i + 1) m' σ3 H4) ∧
        ∀ x H2, J.yld i H' x H2 → g x σ' H2 fun σ3 H3 => tt σ3 H3 fun ok H4 => if ok = true then te σ3 H4 (fun y H5 => Ay y σ3 H5) else An σ3 H4) := by
    refine ⟨fun D => if hD : H2 D = none then (h2 D hD).choose else fun _ _ _ _ => False, fun D hD => ?_, fun D hD => ?_⟩
    · simp only [hD, dite_true]
      exact (h2 D hD).choose_spec.1
    · simp only [hD, dite_true]
      exact (h2 D hD).choose_spec.2
  obtain ⟨W, w0, turn⟩ := h2'
  refine comp_run (RR := fun acc C => compPost (model X.prog X.w) X.A X.xe none (EP X pins σ Q) acc C) (Fi := fun D H' => Q (.ref D) H') (W := W) c hc hin I2 T st2 f2 w0 turn ?_
  intro D s3 H3 H' s' I3 I' ⟨m, hn⟩ hC q
  exact ⟨m, hn, fun h' hs' => ⟨.ref D, H', comp_gone I3 I' hC hs', rfl, q⟩⟩
/-- y = [elt for tg in iter] on one line, y a plain local: the stores exchanged -/
theorem ps_comp {scope : Scope} {cl : List (Str × Addr)} {N' : List Str} {n : Nat} {js : List Nat} {tg iter elt : Expr} {ifs : List Expr} {pos spos py : Pos} {wi : TI} {g : TG} {tt : TT} {te : TE} {i0 : Nat} {y : Str}
    (hN : X.N.Nodup) (hi' : X.N[i0]? = some y) (hx : X.env.scope.names.lookup y = some .local)
    (hsw : swapsWith (.ListComp elt [⟨tg, iter, ifs, 0⟩] scope pos) (some (.Name y py)) spos.line X.env = pure true)
    (c : Caps X scope cl N' n js) (hc : X.calm = true) (hi : PI X tg iter wi)
    (hin : ∀ s3 H3 fp, PG (cxC X N' scope cl s3 H3 fp) tg g ∧ PTS (cxC X N' scope cl s3 H3 fp) ifs tt ∧ PE (cxC X N' scope cl s3 H3 fp) elt te)
    (hs : ∀ x, foldedSetIterable iter X.env x = pure x := by intro _; rfl) : PS X (.Assign [.Name y py] (.ListComp elt [⟨tg, iter, ifs, 0⟩] scope pos) spos) (tAsg (tComp (capσ n js) wi g tt te) (gName i0)) := by
  intro pins s σ H D0 I h
  rw [exec_Assign_Name_used _ _ _ _ hsw]
  refine wpAny_bind (wpAny_standAt (wpAny_bind ?_))
  show wpAny _ X.A (do let _ ← comprehension (.ListComp elt [⟨tg, iter, ifs, 0⟩] scope pos) scope X.env _ (newList []) false (eval iter X.env) (some (assign (.Name y py) X.env))) _ _ s
  refine wpAny_bind (thn (wpAny_comprehension_free (use := some (assign (.Name y py) X.env)) (Q := fun _ s' => SP X pins D0 .next s') rfl hs c.clos c.kind c.names (thn (hi pins s σ H _ I h) fun v s1 h1 => thn h1 fun itv s2 h2 => ?_))
    fun _ s' hq => wpAny_pure (wpAny_pure hq))
  obtain ⟨it, fp, tn, J, H2, e, I2, T, st2, f2, h2⟩ := h2
  subst e
  have h2' : ∃ W : Addr → Nat → Nat → St → Hp → Prop, (∀ D, H2 D = none → ∃ m, W D 0 m (capσ n js σ) (upd H2 D (.lst []))) ∧ ∀ D, H2 D = none → ∀ i m σ' H', W D i m σ' H' →
      (J.stop i H' ∧ D0.nx (σ.set i0 (some (.ref D))) H') ∨ (J.go i H' ∧ ∃ (Ay : V → St → Hp → Prop) (An : St → Hp → Prop), (∀ y σ3 H5, Ay y σ3 H5 → ∃ ys, H5 D = some (.lst ys) ∧ ys.length < sizeLine ∧ ∃ m', m' < m ∧ W D (i + 1) m' σ3 (upd H5 D (.lst (ys ++ [y])))) ∧ (∀ σ3 H4, An σ3 H4 → ∃ m', m' < m ∧ W D (i + 1) m' σ3 H4) ∧
        ∀ x H2, J.yld i H' x H2 → g x σ' H2 fun σ3 H3 => tt σ3 H3 fun ok H4 => if ok = true then te σ3 H4 (fun y H5 => Ay y σ3 H5) else An σ3 H4) := by
    refine ⟨fun D => if hD : H2 D = none then (h2 D hD).choose else fun _ _ _ _ => False, fun D hD => ?_, fun D hD => ?_⟩
    · simp only [hD, dite_true]
      exact (h2 D hD).choose_spec.1
    · simp only [hD, dite_true]
      exact (h2 D hD).choose_spec.2
  obtain ⟨W, w0, turn⟩ := h2'
  refine comp_run (RR := fun acc C => compPost (model X.prog X.w) X.A X.xe (some (assign (.Name y py) X.env)) (fun _ s' => SP X pins D0 .next s') acc C) (Fi := fun D H' => D0.nx (σ.set i0 (some (.ref D))) H') (W := W) c hc hin I2 T st2 f2 w0 turn ?_
  intro D s3 H3 H' s' I3 I' ⟨m, hn⟩ hC q
  show wpAny _ _ (assign (.Name y py) X.env (.ref D)) _ _ s'
  refine wpAny_assign_Name (store_ok2 (v := .ref D) I' hN hi' (.inl hx) rfl (fun s'' I'' ⟨a, hs'', ha⟩ => ?_) (.inr hx))
  have hne : s3.heap.objs.size ≠ a := by
    rcases ha with z | z
    · rw [z]; exact Nat.ne_of_gt I3.lt
    · intro q
      obtain ⟨v, w⟩ := I3.cell y a z
      exact absurd w.lt (by rw [← q]; exact Nat.lt_irrefl _)
  exact ⟨m, hn.sameBut hs'' hne, fun h' hs' => ⟨_, H', comp_gone I3 I'' hC hs', q⟩⟩
end
end L2

namespace L2
open PySem PySem.Spec PyProof.Rows

/-! ### zip of two lists, unpacked into a tuple of targets -/

/-- many records of ours have turned, and a tuple has been laid -/
theorem Inv.turnedT {X : Cx} {pins : List (Addr × Obj)} {σ : St} {H : Hp} {s : Shared} {h' : Heap} {t' : Nat} {fp : List Addr} {T : Addr} {xs : List V} {its : List Value} (I : Inv X pins σ H s) (f : ∀ b ∈ fp, FpOk X pins H b)
    (k : ∀ b o, b ∉ fp → s.heap.get? b = some o → h'.get? b = some o) (kt : ∀ b ∈ fp, ∃ o, h'.get? b = some o) (hT : s.heap.objs.size ≤ T) (hx : xs.length ≤ sizeLine) (hv : Vals xs its) (ht : IsTup h' T its.toArray) :
    Inv X pins σ (upd H T (.tup xs)) { s with heap := h', toks := t' } := by
  have hn : H T = none := I.hok.fresh hT
  have nL : X.env.locals ∉ fp := fun z => (f _ z).2.1 rfl
  refine I.step (g' := s.gens) (d' := s.drawn) (ch := fp) (fun b hb => ⟨(f b hb).2.2.2.1, (f b hb).2.1, (f b hb).2.2.2.2.1, (f b hb).2.2.2.2.2⟩) (fun b o _ _ hc e _ => k b o hc e) (fun b o _ _ hc e _ => ⟨o.slots, k b o hc e⟩)
    (fun b o _ e n => by rw [upd_ne (Nat.ne_of_lt (Nat.lt_of_lt_of_le (Heap.lt_size e) hT))]; exact n) (fun b o hc e => ⟨o, k b o hc e⟩)
    (fun b ys e => by rw [upd_ne (ne_of_none e hn)]; exact e) (fun b o u e => by rw [upd_ne (ne_of_none e hn)]; exact e) (fun b ps e => ⟨#[], by rw [upd_ne (ne_of_none e hn), e]; simp⟩) (fun m hm => ?_) (fun b u e => ?_) I.bare
  · obtain ⟨o, es, ep, ho, r⟩ := hm
    exact ⟨o, es, ep, k _ o nL ho, r⟩
  · by_cases hb : b = T
    · subst hb
      rw [upd_same] at e
      cases e
      exact ⟨hx, its, hv, ht⟩
    · rw [upd_ne hb] at e
      have nf : ∀ c v, H c = some v → c ∉ fp := fun c v q z => by rw [(f c z).1] at q; cases q
      refine (I.hok b u e).stay (fun c v hc q => k c v ?_ q) (fun c q => by rw [upd_ne (ne_of_none q hn)]; exact q) fun c ys q => by rw [upd_ne (ne_of_none q hn)]; exact q
      rcases hc with z | z
      · rw [z]; exact nf b u e
      · exact nf c _ z
theorem Inv.turnedM {X : Cx} {pins : List (Addr × Obj)} {σ : St} {H : Hp} {s : Shared} {h' : Heap} {t' : Nat} {fp : List Addr} (I : Inv X pins σ H s) (f : ∀ b ∈ fp, FpOk X pins H b)
    (k : ∀ b o, b ∉ fp → s.heap.get? b = some o → h'.get? b = some o) : Inv X pins σ H { s with heap := h', toks := t' } := by
  have nL : X.env.locals ∉ fp := fun z => (f _ z).2.1 rfl
  refine I.step (g' := s.gens) (d' := s.drawn) (ch := fp) (fun b hb => ⟨(f b hb).2.2.2.1, (f b hb).2.1, (f b hb).2.2.2.2.1, (f b hb).2.2.2.2.2⟩) (fun b o _ _ hc e _ => k b o hc e) (fun b o _ _ hc e _ => ⟨o.slots, k b o hc e⟩)
    (fun b o _ e n => n) (fun b o hc e => ⟨o, k b o hc e⟩) (fun b ys e => e) (fun b o u e => e) (fun b ps e => ⟨#[], by rw [e]; simp⟩) (fun m hm => ?_) (fun b u e => ?_) I.bare
  · obtain ⟨o, es, ep, ho, r⟩ := hm
    exact ⟨o, es, ep, k _ o nL ho, r⟩
  · have nf : ∀ c v, H c = some v → c ∉ fp := fun c v q z => by rw [(f c z).1] at q; cases q
    refine (I.hok b u e).stay (fun c v hc q => k c v ?_ q) (fun c q => q) fun c ys q => q
    rcases hc with z | z
    · rw [z]; exact nf b u e
    · exact nf c _ z

/-! ### a comprehension over a list that stays, the reading -/
theorem comp_list {K : PySem.W.Frag} {a D : Addr} {xs : List V} {g : TG} {tt : TT} {te : TE} {σ0 : St} {H1 : Hp} {Q : Hp → Prop} (Pv : Nat → List V → St → Hp → Prop) (hx : xs.length ≤ sizeLine) (hD : H1 D = none) (h0 : Pv 0 [] σ0 (upd H1 D (.lst [])))
    (hl : ∀ i ys σ H, i ≤ xs.length → Pv i ys σ H → SqL K H a xs ∧ H D = some (.lst ys) ∧ ys.length ≤ i)
    (hs : ∀ i x ys σ H, xs[i]? = some x → Pv i ys σ H → g x σ H fun σ3 H3 => tt σ3 H3 fun ok H4 => if ok = true then te σ3 H4 fun y H5 => H5 D = some (.lst ys) ∧ Pv (i + 1) (ys ++ [y]) σ3 (upd H5 D (.lst (ys ++ [y]))) else Pv (i + 1) ys σ3 H4)
    (hd : ∀ ys σ H, Pv xs.length ys σ H → Q H) :
    ∃ W : Nat → Nat → St → Hp → Prop, (∃ m, W 0 m σ0 (upd H1 D (.lst []))) ∧ ∀ i m σ' H', W i m σ' H' →
      ((Itl K a).stop i H' ∧ Q H') ∨ ((Itl K a).go i H' ∧ ∃ (Ay : V → St → Hp → Prop) (An : St → Hp → Prop), (∀ y σ3 H5, Ay y σ3 H5 → ∃ ys, H5 D = some (.lst ys) ∧ ys.length < sizeLine ∧ ∃ m', m' < m ∧ W (i + 1) m' σ3 (upd H5 D (.lst (ys ++ [y])))) ∧
        (∀ σ3 H4, An σ3 H4 → ∃ m', m' < m ∧ W (i + 1) m' σ3 H4) ∧
        ∀ x H2, (Itl K a).yld i H' x H2 → g x σ' H2 fun σ3 H3 => tt σ3 H3 fun ok H4 => if ok = true then te σ3 H4 (fun y H5 => Ay y σ3 H5) else An σ3 H4) := by
  refine ⟨fun i m σ H => m = xs.length - i ∧ i ≤ xs.length ∧ ∃ ys, Pv i ys σ H, ⟨xs.length, by simp, Nat.zero_le _, [], h0⟩, ?_⟩
  rintro i m σ H ⟨rfl, hi, ys, p⟩
  obtain ⟨q, hy, hyl⟩ := hl i ys σ H hi p
  by_cases hlt : i < xs.length
  · refine .inr ⟨⟨xs, xs[i], q, by simp [hlt]⟩, fun y σ3 H5 => H5 D = some (.lst ys) ∧ Pv (i + 1) (ys ++ [y]) σ3 (upd H5 D (.lst (ys ++ [y]))), fun σ3 H4 => Pv (i + 1) ys σ3 H4,
      fun y σ3 H5 ⟨e, p'⟩ => ⟨ys, e, by omega, xs.length - (i + 1), by omega, rfl, hlt, _, p'⟩, fun σ3 H4 p' => ⟨xs.length - (i + 1), by omega, rfl, hlt, _, p'⟩, fun x H' y => ?_⟩
    obtain ⟨e, y⟩ := y
    subst e
    exact hs i x ys σ H' (y xs q) p
  · have : i = xs.length := by omega
    subst this
    exact .inl ⟨⟨xs, q, Nat.le_refl _⟩, hd ys σ H p⟩
end L2

namespace L2
open PySem PySem.Spec PyProof.Rows
/-- isinstance(x, T), T a built-in type -/
theorem call_isinst {X : Cx} : CallR X (.builtin "isinstance") (fun xs H Q => ∃ x n t b, xs = [x, .ty n] ∧ TyOf X.K H x t ∧ PySem.W.kitOne X.K t (.type n) = some b ∧ Q (.bl b) H) := by
  intro pins s σ H xs us Q I r h
  obtain ⟨x, n, t, b, rfl, ty, e, q⟩ := h
  obtain ⟨u, w', rfl, r1, r2⟩ := vals2 r
  cases r2
  exact isinst_ok I r1 ty e fun tk => ⟨.bl b, H, I.tok _, rfl, q⟩
/-- a def of the text, by its name -/
structure FnB (P : Program) (w : World) (K : PySem.W.Frag) (mg : Str → Option Value) (base : Heap) (k : Nat) (x : Str) (ps : List Str) (sp : Sp) : Prop where
  ex : ∃ f fd, FnOk P w K mg base CX0 k f fd ps sp ∧ mg x = some (.ref f) ∧ PySem.W.keepIn K (.ref f) = true ∧ Binds K fd ps []
section
variable {X : Cx} {k : Nat} {ps : List Str} {sp : Sp} {x : Str} {p pos : Pos} {e : Expr} {es : List Expr} {t : TA}
theorem pe_fn (F : FnB X.prog X.w X.K X.mg X.base k x ps sp) (hr : Room k X.A) (hg : Gl X x) (ha : PA X (e :: es) t) (hdb : (x == ("__debug__" : Str)) = false := by decide)
    (he : starEach (e :: es) X.env = (false, eval e X.env) :: starEach es X.env := by rfl) (hpl : (backTo pos (starEach es X.env)).any (·.1) = false := by rfl) : PE X (.Call (.Name x p) (e :: es) [] pos) (tCall sp [] E0 t) := by
  obtain ⟨f, fd, F, hm, hk, hb⟩ := F.ex
  exact pe_call F hr hg hm hk hb .nil pass0 ha hdb he hpl
end
theorem boot_isi : bootBuiltins "isinstance" = some (.builtin "isinstance") := by decide +kernel
theorem kit_int_int (K : PySem.W.Frag) : PySem.W.kitOne K (.type "int") (.type "int") = some true := by rfl
theorem kit_int_bool (K : PySem.W.Frag) : PySem.W.kitOne K (.type "int") (.type "bool") = some false := by rfl
theorem Caps.nil {X : Cx} {scope : Scope} {N' : List Str} {n : Nat} (k : scope.kind = .function) (hc : ∀ y ∈ scope.names, y.2 ≠ .cell) (hf : ∀ y ∈ scope.names, y.2 ≠ .free) (hn : ∀ y ∈ scope.names, y.2 = .local → scope.names.lookup y.1 = some .local) (hl : N'.length = n) :
    Caps X scope [] N' n [] :=
  ⟨closureFor_none hf, k, hc, hn, by simpa using hl, fun x c h => (nomatch h), fun x h => absurd rfl (hf _ (PySem.mem_of_lookup h)), fun k j h => (by simp at h)⟩
end L2

namespace L2
open PySem PySem.Spec PyProof.Rows
theorem ints_of_vals : ∀ {ns : List Int} {us : List Value}, Vals (ns.map V.int) us → IntsAre us ns
  | [], _, .nil => .nil
  | n :: ns, _, .cons r t => by
    obtain ⟨t', rfl⟩ := r
    exact .cons n t' (ints_of_vals t)
theorem Same.upd {H H1 : Hp} {p : Addr} {o : HO} (e : Same H H1) (h : H1 p = none) : Same H (upd H1 p o) := fun b u q => by
  rw [upd_ne (ne_of_none (e b u q) h)]
  exact e b u q
theorem atI_all {xs : List Int} {i : Int} {P : Int → Prop} (h : ∀ x ∈ xs, P x) (h0 : 0 ≤ i) (h1 : i < xs.length) : ∃ c, atI (xs.map V.int) i = some (V.int c) ∧ P c := by
  have hk : i.toNat < xs.length := by omega
  have e : (xs.map V.int)[i.toNat]? = some (V.int xs[i.toNat]) := by simp [hk]
  have := atI_nat e
  rw [show ((i.toNat : Nat) : Int) = i by omega] at this
  exact ⟨_, this, h _ (List.getElem_mem hk)⟩
theorem atI_map {ns : List Int} {k : Int} (h0 : 0 ≤ k) (h1 : k < ns.length) : ∃ c, atI (ns.map V.int) k = some (V.int c) := by
  obtain ⟨c, h, _⟩ := atI_all (P := fun _ => True) (xs := ns) (fun _ _ => trivial) h0 h1
  exact ⟨c, h⟩
end L2

namespace L2
open PySem PySem.Spec PyProof.Rows
/-! ### texts -/
section
variable {X : Cx}
end
section
variable {X : Cx}
end
/-! ### the signs of a text -/
end L2

namespace L2
open PySem PySem.Spec PyProof.Rows

/-! ### lists of pairs as tables -/
section
variable {κ : Type} [DecidableEq κ]
def valV (kvs : List (κ × V)) (k : κ) : Option V := (kvs.find? fun kv => decide (kv.1 = k)).map (·.2)
/-- in its place, or at the end -/
def putK (kvs : List (κ × V)) (k : κ) (v : V) : List (κ × V) :=
  if (kvs.any fun kv => decide (kv.1 = k)) = true then kvs.map (fun kv => if kv.1 = k then (kv.1, v) else kv) else kvs ++ [(k, v)]

theorem valV_pos {p : κ × V} {r : List (κ × V)} {k : κ} (e : p.1 = k) : valV (p :: r) k = some p.2 := by simp [valV, List.find?_cons, e]
theorem valV_neg {p : κ × V} {r : List (κ × V)} {k : κ} (e : ¬ p.1 = k) : valV (p :: r) k = valV r k := by simp [valV, List.find?_cons, e]
theorem valV_any (k : κ) : ∀ kvs : List (κ × V), (kvs.any fun kv => decide (kv.1 = k)) = (valV kvs k).isSome
  | [] => rfl
  | p :: r => by
    rw [List.any_cons]
    by_cases e : p.1 = k
    · simp only [valV_pos e, decide_eq_true e, Bool.true_or, Option.isSome_some]
    · rw [valV_neg e, decide_eq_false e, Bool.false_or]; exact valV_any k r
theorem valV_map (k j : κ) (y : V) : ∀ kvs : List (κ × V), valV (kvs.map fun kv => if kv.1 = k then (kv.1, y) else kv) j = (valV kvs j).map fun x => if j = k then y else x
  | [] => rfl
  | p :: r => by
    have ih := valV_map k j y r
    rw [List.map_cons]
    by_cases h : p.1 = k
    · rw [if_pos h]
      by_cases e : p.1 = j
      · rw [valV_pos (p := (p.1, y)) e, valV_pos e, Option.map_some, if_pos (e.symm.trans h)]
      · rw [valV_neg (p := (p.1, y)) e, valV_neg e, ih]
    · rw [if_neg h]
      by_cases e : p.1 = j
      · rw [valV_pos (p := p) e, valV_pos e, Option.map_some, if_neg (fun z => h (e.trans z))]
      · rw [valV_neg (p := p) e, valV_neg e, ih]
theorem valV_snoc (k j : κ) (y : V) : ∀ kvs : List (κ × V), valV kvs k = none → valV (kvs ++ [(k, y)]) j = if j = k then some y else valV kvs j
  | [], _ => by
    by_cases e : k = j
    · rw [if_pos e.symm]; exact valV_pos (p := (k, y)) e
    · rw [if_neg (fun z => e z.symm)]; exact valV_neg (p := (k, y)) e
  | p :: r, hn => by
    rw [List.cons_append]
    have hk : ¬ p.1 = k := fun z => by rw [valV_pos z] at hn; cases hn
    rw [valV_neg hk] at hn
    have ih := valV_snoc k j y r hn
    by_cases e : p.1 = j
    · rw [valV_pos e, valV_pos e, if_neg (fun z => hk (e.trans z))]
    · rw [valV_neg e, valV_neg e, ih]
theorem valV_put (kvs : List (κ × V)) (k j : κ) (y : V) : valV (putK kvs k y) j = if j = k then some y else valV kvs j := by
  unfold putK
  by_cases a : (kvs.any fun kv => decide (kv.1 = k)) = true
  · rw [if_pos a, valV_map]
    rw [valV_any] at a
    by_cases e : j = k
    · obtain ⟨x, hx⟩ := Option.isSome_iff_exists.mp a
      rw [if_pos e, e, hx, Option.map_some, if_pos rfl]
    · rw [if_neg e]
      cases valV kvs j with
      | none => rfl
      | some x => rw [Option.map_some, if_neg e]
  · rw [if_neg a]
    refine valV_snoc k j y kvs ?_
    rw [valV_any] at a
    cases q : valV kvs k with
    | none => rfl
    | some x => rw [q] at a; exact (a rfl).elim
theorem length_putK (kvs : List (κ × V)) (k : κ) (v : V) : (putK kvs k v).length ≤ kvs.length + 1 := by
  unfold putK
  split
  · rw [List.length_map]; omega
  · rw [List.length_append, List.length_cons, List.length_nil]; omega

theorem RelO.isSome_eq {o : Option V} {u : Option Value} (r : RelO o u) : o.isSome = u.isSome := by
  cases o with
  | none => cases u with
    | none => rfl
    | some _ => exact (show False from r).elim
  | some _ => cases u with
    | none => exact (show False from r).elim
    | some _ => rfl
theorem RelO.getD {o : Option V} {u : Option Value} {d : V} {d' : Value} (r : RelO o u) (rd : RelV d d') : RelV (o.getD d) (u.getD d') := by
  cases o with
  | none => cases u with
    | none => exact rd
    | some _ => exact (show False from r).elim
  | some _ => cases u with
    | none => exact (show False from r).elim
    | some _ => exact r

/-- raw tables of the same keys -/
theorem KV.val {kvs : List (κ × V)} {vs : List (κ × Value)} (r : KV kvs vs) (k : κ) : RelO (valV kvs k) (valueAt vs k) := by
  unfold KV at r
  induction r with
  | nil => exact True.intro
  | @cons p q ps qs h t ih =>
    obtain ⟨h1, h2⟩ := h
    by_cases e : p.1 = k
    · have e' : q.1 = k := h1.symm.trans e
      have b : valueAt (q :: qs) k = some q.2 := by simp [valueAt, List.find?_cons, e']
      rw [valV_pos e, b]; exact h2
    · have e' : ¬ q.1 = k := fun z => e (h1.trans z)
      have b : valueAt (q :: qs) k = valueAt qs k := by simp [valueAt, List.find?_cons, e']
      rw [valV_neg e, b]; exact ih
theorem KV.any {kvs : List (κ × V)} {vs : List (κ × Value)} (r : KV kvs vs) (k : κ) : (kvs.any fun kv => decide (kv.1 = k)) = vs.any fun kv => decide (kv.1 = k) := by
  unfold KV at r
  induction r with
  | nil => rfl
  | cons h t ih => rw [List.any_cons, List.any_cons, ih, h.1]
theorem KV.repl {kvs : List (κ × V)} {vs : List (κ × Value)} (r : KV kvs vs) (k : κ) {y : V} {u : Value} (ry : RelV y u) :
    KV (kvs.map fun kv => if kv.1 = k then (kv.1, y) else kv) (vs.map fun kv => if kv.1 = k then (kv.1, u) else kv) := by
  unfold KV at r ⊢
  induction r with
  | nil => exact .nil
  | @cons p q ps qs h t ih =>
    rw [List.map_cons, List.map_cons]
    refine .cons ?_ ih
    obtain ⟨h1, h2⟩ := h
    by_cases e : p.1 = k
    · rw [if_pos e, if_pos (h1.symm.trans e)]; exact ⟨h1, ry⟩
    · rw [if_neg e, if_neg (fun z => e (h1.trans z))]; exact ⟨h1, h2⟩
theorem KV.put {kvs : List (κ × V)} {vs : List (κ × Value)} (r : KV kvs vs) (k : κ) {y : V} {u : Value} (ry : RelV y u) : KV (putK kvs k y) (stored vs k u) := by
  unfold putK stored
  rw [r.any k]
  by_cases e : (vs.any fun kv => decide (kv.1 = k)) = true
  · rw [if_pos e, if_pos e]; exact r.repl k ry
  · rw [if_neg e, if_neg e]; exact Paired.snoc r ⟨rfl, ry⟩
theorem KV.length {kvs : List (κ × V)} {vs : List (κ × Value)} (r : KV kvs vs) : kvs.length = vs.length := Paired.length r
end

/-! ### a tracked dict, its keys ints and texts or tuples of these -/
theorem kV_is {P : Program} {w : World} {k : Key} {u : Value} (r : RelV (kV k) u) : (mixKind P w).is k u = true := by
  cases k with
  | inl i => obtain ⟨t, e⟩ := (show ∃ t, u = Value.int i t from r); subst e; exact mixKind_int P w i t
  | inr x => obtain ⟨t, e⟩ := (show ∃ t, u = Value.str x t from r); subst e; exact mixKind_str P w x t
theorem items_are {P : Program} {w : World} : ∀ {ks : List Key} {us : List Value}, Vals (ks.map kV) us → ItemsAre (mixKind P w) ks us
  | [], _, r => by rw [List.map_nil] at r; cases r; exact .nil
  | k :: ks, _, r => by
    rw [List.map_cons] at r
    cases r with
    | cons h t => exact .cons (kV_is h) (items_are t)

/-- raw entries of a dict with tuple keys -/
abbrev KT (H : Hp) : List (List Key × V) → List (List Key × Addr × Value) → Prop := Paired fun p q => p.1 = q.1 ∧ H q.2.1 = some (.tup (p.1.map kV)) ∧ RelV p.2 q.2.2
theorem KT.val {H : Hp} {kvs : List (List Key × V)} {xs : List (List Key × Addr × Value)} (r : KT H kvs xs) (k : List Key) : RelO (valV kvs k) ((atKey xs k).map (·.2)) := by
  induction r with
  | nil => exact True.intro
  | @cons p q ps qs h t ih =>
    obtain ⟨h1, _, h2⟩ := h
    by_cases e : p.1 = k
    · have e' : q.1 = k := h1.symm.trans e
      have b : atKey (q :: qs) k = some q.2 := by simp [atKey, List.find?_cons, e']
      rw [valV_pos e, b]; exact h2
    · have e' : ¬ q.1 = k := fun z => e (h1.trans z)
      have b : atKey (q :: qs) k = atKey qs k := by simp [atKey, List.find?_cons, e']
      rw [valV_neg e, b]; exact ih
theorem KT.repl {H : Hp} {kvs : List (List Key × V)} {xs : List (List Key × Addr × Value)} (r : KT H kvs xs) (k : List Key) {y : V} {u : Value} (ry : RelV y u) :
    KT H (kvs.map fun kv => if kv.1 = k then (kv.1, y) else kv) (xs.map (putAt k u)) := by
  induction r with
  | nil => exact .nil
  | @cons p q ps qs h t ih =>
    rw [List.map_cons, List.map_cons]
    refine .cons ?_ ih
    obtain ⟨h1, h2, h3⟩ := h
    unfold putAt
    by_cases e : p.1 = k
    · rw [if_pos e, if_pos (h1.symm.trans e)]; exact ⟨h1, h2, ry⟩
    · rw [if_neg e, if_neg (fun z => e (h1.trans z))]; exact ⟨h1, h2, h3⟩
theorem KT.put {H : Hp} {kvs : List (List Key × V)} {xs : List (List Key × Addr × Value)} (r : KT H kvs xs) (k : List Key) {b : Addr} {y : V} {u : Value} (hb : H b = some (.tup (k.map kV))) (ry : RelV y u) :
    KT H (putK kvs k y) (storedH xs k b u) := by
  have e : (kvs.any fun kv => decide (kv.1 = k)) = (atKey xs k).isSome := by
    rw [valV_any, (r.val k).isSome_eq, Option.isSome_map]
  unfold putK storedH
  rw [e]
  by_cases q : (atKey xs k).isSome = true
  · rw [if_pos q, if_pos q]; exact r.repl k ry
  · rw [if_neg q, if_neg q]; exact Paired.snoc r ⟨rfl, hb, ry⟩
theorem KT.keeps {H H' : Hp} {kvs : List (List Key × V)} {xs : List (List Key × Addr × Value)} (r : KT H kvs xs) (ht : ∀ b ys, H b = some (.tup ys) → H' b = some (.tup ys)) : KT H' kvs xs :=
  Paired.mapP r fun _ _ z => ⟨z.1, ht _ _ z.2.1, z.2.2⟩

section
variable {P : Program} {w : World} {H : Hp} {h : Heap} {a : Addr}
theorem rd_of {u : HO} (ok : HOk P w H h) (e : Rd H a u) : ObjOk P w H h a u := e.ok ok
theorem dk_rd {kvs : List (Key × V)} (ok : HOk P w H h) (e : Rd H a (.dK kvs)) : kvs.length ≤ sizeLine ∧ (a == sysModules) = false ∧ ∃ vs, KV kvs vs ∧ h.DictOf (mixKind P w) a vs :=
  show ObjOk P w H h a (.dK kvs) from rd_of ok e
theorem dk_of {kvs : List (Key × V)} (ok : HOk P w H h) (e : H a = some (.dK kvs)) : kvs.length ≤ sizeLine ∧ (a == sysModules) = false ∧ ∃ vs, KV kvs vs ∧ h.DictOf (mixKind P w) a vs := dk_rd ok (.inl e)
/-- a tracked tuple of ints and texts is a key -/
theorem key_of {ks : List Key} (ok : HOk P w H h) (e : H a = some (.tup (ks.map kV))) : (tupleKind (mixKind P w)).is h ks a := by
  obtain ⟨_, its, r, o, h1, h2, n, h3⟩ := (show ObjOk P w H h a (.tup (ks.map kV)) from ok a _ e)
  exact ⟨o, its.toArray, n, h1, h2, h3, by simpa using items_are r⟩
theorem dt_rd {kvs : List (List Key × V)} (ok : HOk P w H h) (e : Rd H a (.dT kvs)) : kvs.length ≤ sizeLine ∧ (a == sysModules) = false ∧
    ∃ xs, KT H kvs xs ∧ h.DictOfH (tupleKind (mixKind P w)) a xs := by
  obtain ⟨z, y, xs, r, o, es, ep, h1, h2, h3, h4, h5⟩ := (show ObjOk P w H h a (.dT kvs) from rd_of ok e)
  refine ⟨z, y, xs, r, o, es, ep, h1, h2, h3, h4, fun x hx => ?_, h5⟩
  have all : ∀ {l : List (List Key × V)} {m : List (List Key × Addr × Value)}, KT H l m → ∀ x ∈ m, (tupleKind (mixKind P w)).is h x.1 x.2.1 := by
    intro l m q
    induction q with
    | nil => intro x hx; exact nomatch hx
    | @cons p q ps qs hq t ih =>
      intro x hx
      rcases List.mem_cons.mp hx with e | hx
      · subst e
        exact key_of ok (by rw [← hq.1]; exact hq.2.1)
      · exact ih x hx
  exact all r x hx
theorem dt_of {kvs : List (List Key × V)} (ok : HOk P w H h) (e : H a = some (.dT kvs)) : kvs.length ≤ sizeLine ∧ (a == sysModules) = false ∧
    ∃ xs, KT H kvs xs ∧ h.DictOfH (tupleKind (mixKind P w)) a xs := dt_rd ok (.inl e)
end

/-- what the dict at a holds at the key y -/
def DGet (H : Hp) (a : Addr) (y : V) (r : Option V) : Prop :=
  (∃ kvs k, Rd H a (.dK kvs) ∧ y = kV k ∧ r = valV kvs k) ∨ ∃ kvs k b, Rd H a (.dT kvs) ∧ y = .ref b ∧ H b = some (.tup (k.map kV)) ∧ r = valV kvs k
/-- the heap behind a[y] = v -/
def DPut (H : Hp) (a : Addr) (y v : V) (H' : Hp) : Prop :=
  (∃ kvs k, H a = some (.dK kvs) ∧ y = kV k ∧ kvs.length < sizeLine ∧ H' = upd H a (.dK (putK kvs k v))) ∨
  ∃ kvs k b, H a = some (.dT kvs) ∧ y = .ref b ∧ H b = some (.tup (k.map kV)) ∧ kvs.length < sizeLine ∧ H' = upd H a (.dT (putK kvs k v))
theorem DGet.k {H : Hp} {a : Addr} {kvs : List (Key × V)} {k : Key} (e : H a = some (.dK kvs)) : DGet H a (kV k) (valV kvs k) := .inl ⟨kvs, k, .inl e, rfl, rfl⟩
theorem DPut.k {H : Hp} {a : Addr} {kvs : List (Key × V)} {k : Key} {v : V} (e : H a = some (.dK kvs)) (hl : kvs.length < sizeLine) : DPut H a (kV k) v (upd H a (.dK (putK kvs k v))) := .inl ⟨kvs, k, e, rfl, hl, rfl⟩

section
variable {X : Cx} {pins : List (Addr × Obj)} {σ : St} {H : Hp} {s : Shared} {a : Addr} {y v : V} {u r : Value} {o : Option V} {A : Around} {E : Value → Shared → Prop}

theorem Inv.big (I : Inv X pins σ H s) : sysModules < s.heap.objs.size := by
  have h : mainGlobals < s.heap.objs.size := (I.mod.glob.keeps I.bk).lt
  exact Nat.lt_trans (by decide) h

/-- d[y], there -/
theorem d_getItem {Q : Value → Shared → Prop} (hu : A.units + 1 < cLine) (I : Inv X pins σ H s) (g : DGet H a y (some v)) (ry : RelV y u) (h : ∀ w' s', Inv X pins σ H s' → RelV v w' → Q w' s') :
    wpAny (model X.prog X.w) A (getItem (.ref a) u) Q E s := by
  rcases g with ⟨kvs, k, e, ey, l⟩ | ⟨kvs, k, b, e, ey, eb, l⟩
  · subst ey
    obtain ⟨z, hd, vs, rel, dd⟩ := dk_rd I.hok e
    obtain ⟨w', hw, rw'⟩ := RelO.some_of (v := v) (o := valueAt vs k) (by rw [l]; exact rel.val k)
    exact wpAny_getItem_of (kV_is ry) dd.mapOf hw (h w' _ (I.tok _) rw')
  · subst ey
    cases (show u = Value.ref b from ry)
    obtain ⟨z, hd, xs, rel, dd⟩ := dt_rd I.hok e
    obtain ⟨w', hw, rw'⟩ := RelO.some_of (v := v) (o := (atKey xs k).map (·.2)) (by rw [l]; exact rel.val k)
    obtain ⟨p, hp, hp2⟩ := Option.map_eq_some_iff.mp hw
    refine wpAny_getItem_heap (tupleKind_room_in1 hu) (key_of I.hok eb) dd hp ?_
    rw [hp2]
    exact h w' _ (I.tok _) rw'
/-- a dict's object is replaced -/
theorem d_write {h' : Heap} {t' : Nat} {ob : HO} (I : Inv X pins σ H s) (mu : Mut (H a)) (hs : Heap.SameBut a s.heap h') (he : ∃ q, h'.get? a = some q) (new : ObjOk X.prog X.w (upd H a ob) h' a ob) :
    Inv X pins σ (upd H a ob) { s with heap := h', toks := t' } :=
  I.write (x := a) (e := a) mu (.inl rfl) (fun b q hb z => (hs.2 b hb).trans z) he new
theorem dk_new {P : Program} {w : World} {H' : Hp} {h' : Heap} {kvs : List (Key × V)} {vs : List (Key × Value)} (z : kvs.length ≤ sizeLine) (hd : (a == sysModules) = false) (rel : KV kvs vs) (dd : h'.DictOf (mixKind P w) a vs) :
    ObjOk P w H' h' a (.dK kvs) := ⟨z, hd, vs, rel, dd⟩
/-- d[y] = v -/
theorem d_setItem {H' : Hp} {Q : Unit → Shared → Prop} (hu : A.units + 1 < cLine) (I : Inv X pins σ H s) (g : DPut H a y v H') (ry : RelV y u) (rv : RelV v r) (h : ∀ s', Inv X pins σ H' s' → Q () s') :
    wpAny (model X.prog X.w) A (setItem (.ref a) u r) Q E s := by
  rcases g with ⟨kvs, k, e, ey, l, eH⟩ | ⟨kvs, k, b, e, ey, eb, l, eH⟩
  · subst ey eH
    obtain ⟨z, hd, vs, rel, dd⟩ := dk_of I.hok e
    have hz : vs.length ≤ sizeLine := by rw [← rel.length]; exact z
    have hl : (putK kvs k v).length ≤ sizeLine := by have := length_putK kvs k v; omega
    refine wpAny_setItem_pairs (hsz := hz) (kV_is ry) dd fun h' dd' hs => h _ ?_
    have he : ∃ q, h'.get? a = some q := let ⟨q, _, _, hq, _⟩ := dd'; ⟨q, hq⟩
    exact d_write I (by rw [e]; exact True.intro) hs he (dk_new hl hd (rel.put k rv) dd')
  · subst ey eH
    cases (show u = Value.ref b from ry)
    obtain ⟨z, hd, xs, rel, dd⟩ := dt_of I.hok e
    have hz : xs.length ≤ sizeLine := by rw [← Paired.length rel]; exact z
    have hl : (putK kvs k v).length ≤ sizeLine := by have := length_putK kvs k v; omega
    refine wpAny_setItem_heap (hsz := hz) (tupleKind_room_in1 hu) (key_of I.hok eb) dd fun h' dd' hs => h _ ?_
    obtain ⟨q, es, ep, hq, h2, h3, h4, _, h5⟩ := dd'
    refine d_write I (by rw [e]; exact True.intro) hs ⟨q, hq⟩ ⟨hl, hd, _, (rel.put k eb rv).keeps fun c ys ec => ?_, q, es, ep, hq, h2, h3, h4, h5⟩
    rw [upd_ne (ne_of ec e (fun z => nomatch z))]
    exact ec
end

section
variable {X : Cx} {pins : List (Addr × Obj)} {σ : St} {H : Hp} {s : Shared} {a : Addr} {kvs : List (Key × V)} {k : Key} {u : Value} {A : Around} {E : Value → Shared → Prop}
end

/-! ### readings and rules -/
/-- the element of a subscription, not a slice -/
def NoSl (i : Expr) : Prop := ∀ ov iv, subscripted i false ov iv = operate [ov, iv] (getItem ov iv)
theorem subD_of {prog : Program} {w : World} {A : Around} {E : Value → Shared → Prop} {s : Shared} {env : Env} {value slice : Expr} {pos : Pos} {T id : String} {Q : Value → Shared → Prop}
    (hl : typeLookup (.type T) "__getitem__" = pure (some (.builtin id))) (hs : NoSl slice)
    (h : wpAny (model prog w) A (eval value env) (fun o s₁ => wpAny (model prog w) A (eval slice env) (fun i s₂ => s₂.TypeIs o T ∧ wpAny (model prog w) A (getItem o i) Q E s₂) E s₁) E s) :
    wpAny (model prog w) A (eval (.Subscript value slice pos) env) Q E s := by
  refine Subscript_ (wpAny_mono h (fun o s₁ h₁ => wpAny_mono h₁ (fun i s₂ h₂ => ?_) fun _ _ x => x) fun _ _ x => x)
  obtain ⟨hT, h₂⟩ := h₂
  unfold subscriptTail
  refine wpAny_bind ?_
  rw [getitemInPython_of_ne hT.not_modules]
  refine wpAny_bind (wpAny_specialOf hT hl ?_)
  have fin : wpAny (model prog w) A (subscripted slice false o i) (fun r s₃ => wpAny (model prog w) A (letTemporaryGo value o r >>= fun _ => pure r) Q E s₃) E s₂ := by
    rw [hs o i]
    exact wpAny_operating (wpAny_mono h₂ (fun r s₃ h₃ => wpAny_bind (wpAny_letTemporaryGo (wpAny_pure h₃))) fun _ _ x => x)
  first
    | exact wpAny_pure (wpAny_bind fin)
    | exact wpAny_bind (wpAny_pure (wpAny_bind fin))
    | exact wpAny_bind fin

theorem dict_typeIs {X : Cx} {pins : List (Addr × Obj)} {σ : St} {H : Hp} {s : Shared} {a : Addr} {y : V} {o : Option V} (I : Inv X pins σ H s) (g : DGet H a y o) : s.TypeIs (.ref a) "dict" := by
  rcases g with ⟨kvs, k, e, _, _⟩ | ⟨kvs, k, b, e, _, _, _⟩
  · obtain ⟨_, _, vs, _, dd⟩ := dk_rd I.hok e
    exact dd.typeIs
  · obtain ⟨_, _, xs, _, dd⟩ := dt_rd I.hok e
    exact dd.typeIs

/-- d[y] -/
def tDGet (td ty : TE) : TE := fun σ H Q => td σ H fun x H1 => ty σ H1 fun y H2 => ∃ a v, x = .ref a ∧ DGet H2 a y (some v) ∧ Q v H2
/-- d[y] = v -/
def sDPut (td ty tv : TE) : TS := fun D σ H => tv σ H fun v H1 => td σ H1 fun x H2 => ty σ H2 fun y H3 => ∃ a H4, x = .ref a ∧ DPut H3 a y v H4 ∧ D.nx σ H4

section
variable {X : Cx} {o i e value : Expr} {pos pos' tpos : Pos} {td ty tv : TE}
theorem pe_dget (hu : X.A.units + 1 < cLine) (ho : PE X o td) (hi : PE X i ty) (hs : NoSl i) : PE X (.Subscript o i pos) (tDGet td ty) := by
  intro pins s σ H Q I h
  refine subD_of PySem.F.slot_dict_getitem.lookup hs (thn (ho pins s σ H _ I h) fun u s1 ⟨x, H1, I1, rx, q1⟩ => thn (hi pins s1 σ H1 _ I1 q1) fun iv s2 ⟨y, H2, I2, ry, a, v, ex, g, q2⟩ => ?_)
  subst ex
  obtain rfl : u = Value.ref a := rx
  exact ⟨dict_typeIs I2 g, d_getItem hu I2 g ry fun w' s3 I3 rw' => ⟨v, H2, I3, rw', q2⟩⟩
theorem ps_dput (hu : X.A.units + 1 < cLine) (ho : PE X o td) (hi : PE X i ty) (hv : PE X value tv) (hs : swapsWith value (some (.Subscript o i pos')) pos.line X.env = pure false) :
    PS X (.Assign [.Subscript o i pos'] value pos) (sDPut td ty tv) := by
  intro pins s σ H D I h
  refine wpAny_Assign_Subscript (thn (hv pins s σ H _ I h) fun r s1 ⟨v, H1, I1, rv, q1⟩ => thn (ho pins s1 σ H1 _ I1 q1) fun u s2 ⟨x, H2, I2, rx, q2⟩ => thn (hi pins s2 σ H2 _ I2 q2) fun iv s3 ⟨y, H3, I3, ry, a, H4, ex, g, q3⟩ => ?_) hs
  subst ex
  obtain rfl : u = Value.ref a := rx
  exact d_setItem hu I3 g ry rv fun s4 I4 => ⟨σ, H4, I4, q3⟩
end

/-! ### displays -/
theorem dk_empty {P : Program} {w : World} {H : Hp} (h : Heap) (hb : sysModules < h.objs.size) : ObjOk P w H (h.push { cls := .type "dict", data := .dict #[] }) h.objs.size (.dK []) :=
  ⟨Nat.zero_le _, beq_eq_false_iff_ne.mpr (Ne.symm (Nat.ne_of_lt hb)), [], .nil, Heap.DictOf.new h⟩
/-- {}, to be a dict of the kind that is wanted -/
def tDNewK : TE := fun _ H Q => ∀ p, H p = none → Q (.ref p) (upd H p (.dK []))
section
variable {X : Cx} {pos : Pos}
theorem pe_dnewK : PE X (.Dict [] [] pos) tDNewK := fun pins s σ H Q I h =>
  wpAny_Dict_empty ⟨.ref s.heap.objs.size, _, I.laid (a := s.heap.objs.size) (o := .dK []) (t' := s.toks) (fun _ _ q => Heap.get?_push_of_some _ q) (Nat.le_refl _) (dk_empty s.heap I.big), rfl, h _ (I.hok.fresh (Nat.le_refl _))⟩
end

/-- the pairs of a display, from the left -/
def tPairs : List (TE × TE) → St → Hp → (List (V × V) → Hp → Prop) → Prop
  | [], _, H, Q => Q [] H
  | (tk, tv) :: r, σ, H, Q => tk σ H fun x H1 => tv σ H1 fun y H2 => tPairs r σ H2 fun ps H3 => Q ((x, y) :: ps) H3
abbrev VV : List (V × V) → List (Value × Value) → Prop := Paired fun p q => RelV p.1 q.1 ∧ RelV p.2 q.2
def PPs (X : Cx) (pos : Pos) (keys : List (Option Expr)) (values : List Expr) (trs : List (TE × TE)) : Prop :=
  ∀ (pins : List (Addr × Obj)) (s : Shared) (σ : St) (H : Hp) (Q : List (V × V) → Hp → Prop), Inv X pins σ H s → tPairs trs σ H Q →
    wpAny (model X.prog X.w) X.A (evalPairs (pairTrees keys values X.env pos)) (fun vs s' => ∃ ps H', Inv X pins σ H' s' ∧ VV ps vs ∧ Q ps H') X.xe s
theorem pps_nil {X : Cx} {pos : Pos} : PPs X pos [] [] [] := fun pins s σ H Q I h => pairTrees_nil_walk ⟨[], H, I, .nil, h⟩
theorem pps_cons {X : Cx} {pos : Pos} {k v : Expr} {ks : List (Option Expr)} {vs : List Expr} {tk tv : TE} {trs : List (TE × TE)} (hk : PE X k tk) (hv : PE X v tv) (hr : PPs X pos ks vs trs) :
    PPs X pos (some k :: ks) (v :: vs) ((tk, tv) :: trs) := fun pins s σ H Q I h =>
  pairTrees_cons_walk (thn (hk pins s σ H _ I h) fun u s1 ⟨x, H1, I1, rx, q1⟩ => thn (hv pins s1 σ H1 _ I1 q1) fun w2 s2 ⟨y, H2, I2, ry, q2⟩ =>
    thn (hr pins s2 σ H2 _ I2 q2) fun ws s3 ⟨ps, H3, I3, rel, q3⟩ => ⟨(x, y) :: ps, H3, I3, .cons ⟨rx, ry⟩ rel, q3⟩)

def mergeK (kvs more : List (Key × V)) : List (Key × V) := more.foldl (fun acc kv => putK acc kv.1 kv.2) kvs
theorem KV.merge : ∀ {more : List (Key × V)} {rs : List (Key × Value)} {kvs : List (Key × V)} {vs : List (Key × Value)}, KV more rs → KV kvs vs → KV (mergeK kvs more) (merged vs rs) := by
  intro more rs kvs vs r
  unfold KV at r
  induction r generalizing kvs vs with
  | nil => intro q; exact q
  | @cons p q ps qs h t ih =>
    intro r0
    have e : KV (putK kvs p.1 p.2) (stored vs q.1 q.2) := by
      have := r0.put p.1 h.2
      rw [← h.1]; exact this
    exact ih e
theorem length_mergeK : ∀ (more kvs : List (Key × V)), (mergeK kvs more).length ≤ kvs.length + more.length
  | [], kvs => by show kvs.length ≤ kvs.length + 0; omega
  | p :: r, kvs => by
    have h1 := length_mergeK r (putK kvs p.1 p.2)
    have h2 := length_putK kvs p.1 p.2
    show (mergeK (putK kvs p.1 p.2) r).length ≤ _
    rw [List.length_cons]; omega
theorem carries_of {P : Program} {w : World} : ∀ {kvs : List (Key × V)} {ws : List (Value × Value)}, VV (kvs.map fun kv => (kV kv.1, kv.2)) ws → ∃ rs, Carries (mixKind P w) ws rs ∧ KV kvs rs
  | [], _, r => by rw [List.map_nil] at r; cases r; exact ⟨[], True.intro, .nil⟩
  | p :: kvs, _, r => by
    rw [List.map_cons] at r
    cases r with
    | @cons a b as bs h t =>
      obtain ⟨rs, c, q⟩ := carries_of (P := P) (w := w) t
      obtain ⟨b1, b2⟩ := b
      exact ⟨(p.1, b2) :: rs, ⟨kV_is h.1, rfl, c⟩, .cons ⟨rfl, h.2⟩ q⟩
/-- {k: v, ..} with keys ints and texts; the new dict stands empty while the pairs are made -/
def tDisp (trs : List (TE × TE)) : TE := fun σ H Q => ∀ p, H p = none → tPairs trs σ (upd H p (.dK [])) fun ps H2 => H2 p = some (.dK []) ∧ ∃ kvs : List (Key × V), ps = kvs.map (fun kv => (kV kv.1, kv.2)) ∧ kvs.length ≤ 15 ∧ Q (.ref p) (upd H2 p (.dK (mergeK [] kvs)))
theorem pe_disp {X : Cx} {pos : Pos} {keys : List (Option Expr)} {values : List Expr} {trs : List (TE × TE)} (h : PPs X pos keys values trs) (hall : keys.all (·.isSome) = true) (hl : keys.length = values.length) (h0 : keys ≠ [])
    (h15 : keys.length ≤ 15) : PE X (.Dict keys values pos) (tDisp trs) := by
  intro pins s σ H Q I q
  have hn := I.hok.fresh (Nat.le_refl s.heap.objs.size)
  have I1 := I.laid (a := s.heap.objs.size) (o := .dK []) (h' := s.heap.push { cls := .type "dict", data := .dict #[] }) (t' := s.toks) (fun _ _ q => Heap.get?_push_of_some _ q) (Nat.le_refl _) (dk_empty s.heap I.big)
  refine wpAny_Dict_walk (knd := mixKind X.prog X.w) hall hl h0 h15 (thn (h pins _ σ _ _ I1 (q _ hn)) fun ws s2 ⟨ps, H2, I2, rel, e, kvs, ep, lk, q2⟩ => ?_)
  subst ep
  obtain ⟨rs, c, rk⟩ := carries_of (P := X.prog) (w := X.w) rel
  obtain ⟨z, hd, vs0, r0, dd⟩ := dk_of I2.hok e
  cases r0
  refine ⟨rs, c, dd, fun h' dd' hs => ⟨.ref s.heap.objs.size, _, ?_, rfl, q2⟩⟩
  have hz : (mergeK [] kvs).length ≤ sizeLine := by
    have h1 := length_mergeK kvs []
    rw [List.length_nil] at h1
    rw [sizeLine_eq]; omega
  have he : ∃ q, h'.get? s.heap.objs.size = some q := let ⟨q, _, _, hq, _⟩ := dd'; ⟨q, hq⟩
  exact d_write I2 (by rw [e]; exact True.intro) hs he (dk_new hz hd (rk.merge .nil) dd')

/-! ### methods -/
structure M2 (X : Cx) (o : Expr) (m : Str) (apos : Pos) (e f : Expr) (cpos : Pos) : Prop where
  base : attributeBase o m X.env (eval o X.env) = eval o X.env
  few : ((backTo cpos (starEach [e, f] X.env)).all (fun x => !x.1) && (backToKw cpos (keywordEach [] X.env)).all (fun x => x.1.isSome)
    && decide (([e, f] : List Expr).length + ([] : List Keyword).length + (if ([] : List Keyword).isEmpty then 0 else 1) < 30)) = true
  line : (apos.endLine == cpos.line) = true
  trees : backTo cpos (starEach [e, f] X.env) = [(false, eval e X.env), (false, eval f X.env)]

/-- a is a dict, whatever its keys -/
def IsD (H : Hp) (a : Addr) : Prop := (∃ kvs, Rd H a (.dK kvs)) ∨ ∃ kvs, Rd H a (.dT kvs)
theorem isD_at {X : Cx} {pins : List (Addr × Obj)} {σ : St} {H : Hp} {s : Shared} {a : Addr} (I : Inv X pins σ H s) (d : IsD H a) :
    s.TypeIs (.ref a) "dict" ∧ (∀ b, Value.ref a = .ref b → ∃ ob, s.heap.get? b = some ob ∧ ob.dict = none) ∧ (a == sysModules) = false := by
  rcases d with ⟨kvs, e⟩ | ⟨kvs, e⟩
  · obtain ⟨_, hd, vs, _, dd⟩ := dk_rd I.hok e
    refine ⟨dd.typeIs, fun b q => ?_, hd⟩
    cases q
    obtain ⟨ob, _, _, h1, h2, _⟩ := dd
    exact ⟨ob, h1, h2.2.1⟩
  · obtain ⟨_, hd, xs, _, dd⟩ := dt_rd I.hok e
    refine ⟨dd.typeIs, fun b q => ?_, hd⟩
    cases q
    obtain ⟨ob, _, _, h1, h2, _⟩ := dd
    exact ⟨ob, h1, h2.2.1⟩

section
variable {X : Cx} {pins : List (Addr × Obj)} {σ : St} {H : Hp} {s : Shared} {a : Addr} {y d : V} {u r : Value} {o : Option V} {A : Around} {E : Value → Shared → Prop}
/-- d.get(y, x) -/
theorem d_get2 {Q : Value → Shared → Prop} (hu : A.units + 1 < cLine) (I : Inv X pins σ H s) (g : DGet H a y o) (ry : RelV y u) (rd : RelV d r) (h : ∀ w' s', Inv X pins σ H s' → RelV (o.getD d) w' → Q w' s') :
    wpAny (model X.prog X.w) A (call (.builtin "dict.get") [.ref a, u, r]) Q E s := by
  rcases g with ⟨kvs, k, e, ey, l⟩ | ⟨kvs, k, b, e, ey, eb, l⟩
  · subst ey
    obtain ⟨z, hd, vs, rel, dd⟩ := dk_rd I.hok e
    refine call_meetsIn PySem.F.slot_dict_get dd.typeIs PySem.F.entry_dict_get (PySem.F.args_dict_get_3 _ _ _) (meets_dict_get_default (mixKind X.prog X.w) a (kV_is ry) hd r) ⟨_, dd.mapOf, h _ _ (I.tok _) ?_⟩
    rw [l]
    exact (rel.val k).getD rd
  · subst ey
    cases (show u = Value.ref b from ry)
    obtain ⟨z, hd, xs, rel, dd⟩ := dt_rd I.hok e
    refine call_meetsIn PySem.F.slot_dict_get dd.typeIs PySem.F.entry_dict_get (PySem.F.args_dict_get_3 _ _ _) (meetsH_dict_get_default (tupleKind (mixKind X.prog X.w)) a b hd r) ⟨tupleKind_room_in1 hu, k, xs, key_of I.hok eb, dd, h _ _ (I.tok _) ?_⟩
    rw [l]
    exact (rel.val k).getD rd
end

def tDGet2 (td ty tx : TE) : TE := fun σ H Q => td σ H fun x H1 => ∃ a, x = .ref a ∧ IsD H1 a ∧ ty σ H1 fun y H2 => tx σ H2 fun z H3 => ∃ o, DGet H3 a y o ∧ Q (o.getD z) H3
section
variable {X : Cx} {o e f : Expr} {apos cpos : Pos} {td ty tx : TE}
theorem pe_dget2 (hu : X.A.units + 1 < cLine) (ho : PE X o td) (he : PE X e ty) (hf : PE X f tx) (m : M2 X o "get" apos e f cpos) : PE X (.Call (.Attribute o "get" apos) [e, f] [] cpos) (tDGet2 td ty tx) := by
  intro pins s σ H Q I h
  refine wpAny_Call_method m.base m.few m.line PySem.F.plainAttrs_dict PySem.F.slot_dict_get PySem.F.type_dict_get (thn (ho pins s σ H _ I h) fun u s1 ⟨x, H1, I1, rx, a, ex, d, q1⟩ => ?_)
  subst ex
  obtain rfl : u = Value.ref a := rx
  obtain ⟨t1, t2, _⟩ := isD_at I1 d
  refine ⟨t1, t2, ?_⟩
  rw [m.trees]
  refine Calls.callWith_builtin rfl (Calls.evalArgs_plain (Calls.spliced_cons (thn (he pins s1 σ H1 _ I1 q1) fun iv s2 ⟨y, H2, I2, ry, q2⟩ =>
    Calls.spliced_cons (thn (hf pins s2 σ H2 _ I2 q2) fun fv s3 ⟨z, H3, I3, rz, ov, g, q3⟩ => Calls.spliced_nil ?_))))
  exact d_get2 hu I3 g ry rz fun w' s4 I4 rw' => ⟨_, H3, I4, rw', q3⟩
end

/-! ### dict(d): a copy -/
section
variable {X : Cx} {pins : List (Addr × Obj)} {σ : St} {H : Hp} {s : Shared} {a : Addr} {kvs : List (Key × V)} {A : Around} {E : Value → Shared → Prop}
end

section
variable {X : Cx} {pins : List (Addr × Obj)} {σ : St} {H : Hp} {s : Shared} {a : Addr} {y : V} {u : Value} {A : Around} {E : Value → Shared → Prop}
end
end L2
namespace L2
open PySem PySem.Spec PyProof.Rows
section
variable {X : Cx}
end

section
variable {κ : Type} [DecidableEq κ]
end
end L2

namespace L2
open PySem PySem.Spec PyProof.Rows
/-- a block that names variables of the def: cl its cells, js their places -/
theorem Caps.of {X : Cx} {scope : Scope} {cl : List (Str × Addr)} {N' : List Str} {n : Nat} {js : List Nat} (clos : closureFor scope X.env = pure cl) (k : scope.kind = .function) (hc : ∀ y ∈ scope.names, y.2 ≠ .cell)
    (hn : ∀ y ∈ scope.names, y.2 = .local → scope.names.lookup y.1 = some .local) (hl : N'.length = n + js.length) (hsub : ∀ p ∈ cl, X.env.cells.lookup p.1 = some p.2) (fr : List Str) (hfr : cl.map (·.1) = fr) (hhas : ∀ y ∈ scope.names, y.2 = .free → y.1 ∈ fr)
    (hcap : ∀ q ∈ js.zip (N'.drop n), X.N[q.1]? = some q.2 ∧ scope.names.lookup q.2 = some .free ∧ (X.env.kindOf q.2 = some .cell ∨ X.env.kindOf q.2 = some .free)) : Caps X scope cl N' n js := by
  refine ⟨clos, k, hc, hn, hl, fun x c h => hsub (x, c) (PySem.mem_of_lookup h), fun x h => ?_, fun i j h => ?_⟩
  · have hm : x ∈ cl.map (·.1) := by rw [hfr]; exact hhas (x, .free) (PySem.mem_of_lookup h) rfl
    cases e : cl.lookup x with
    | some c => exact ⟨c, rfl⟩
    | none =>
      rw [List.lookup_eq_none_iff] at e
      obtain ⟨p, hp, e2⟩ := List.mem_map.mp hm
      have := e p hp
      simp [e2] at this
  · have hi : i < js.length := (List.getElem?_eq_some_iff.mp h).1
    have hi2 : i < (N'.drop n).length := by rw [List.length_drop]; omega
    have e1 : (N'.drop n)[i]? = some (N'.drop n)[i] := List.getElem?_eq_getElem hi2
    have hz : (j, (N'.drop n)[i]) ∈ js.zip (N'.drop n) := by
      refine List.mem_of_getElem? (i := i) ?_
      rw [List.getElem?_zip_eq_some]
      exact ⟨h, e1⟩
    obtain ⟨h1, h2, h3⟩ := hcap _ hz
    refine ⟨(N'.drop n)[i], ?_, h1, h2, h3⟩
    rw [← e1, List.getElem?_drop]
/-! ### a comprehension over a range, the reading -/
theorem comp_range {lo : Int} {n : Nat} {D : Addr} {g : TG} {tt : TT} {te : TE} {σ0 : St} {H1 : Hp} {Q : Hp → Prop} (Pv : Nat → List V → St → Hp → Prop) (hx : n ≤ sizeLine) (h0 : Pv 0 [] σ0 (upd H1 D (.lst [])))
    (hl : ∀ i ys σ H, i ≤ n → Pv i ys σ H → H D = some (.lst ys) ∧ ys.length ≤ i)
    (hs : ∀ i ys σ H, i < n → Pv i ys σ H → g (.int (lo + i)) σ H fun σ3 H3 => tt σ3 H3 fun ok H4 => if ok = true then te σ3 H4 fun y H5 => H5 D = some (.lst ys) ∧ Pv (i + 1) (ys ++ [y]) σ3 (upd H5 D (.lst (ys ++ [y]))) else Pv (i + 1) ys σ3 H4)
    (hd : ∀ ys σ H, Pv n ys σ H → Q H) :
    ∃ W : Nat → Nat → St → Hp → Prop, (∃ m, W 0 m σ0 (upd H1 D (.lst []))) ∧ ∀ i m σ' H', W i m σ' H' →
      ((Itr lo n).stop i H' ∧ Q H') ∨ ((Itr lo n).go i H' ∧ ∃ (Ay : V → St → Hp → Prop) (An : St → Hp → Prop), (∀ y σ3 H5, Ay y σ3 H5 → ∃ ys, H5 D = some (.lst ys) ∧ ys.length < sizeLine ∧ ∃ m', m' < m ∧ W (i + 1) m' σ3 (upd H5 D (.lst (ys ++ [y])))) ∧
        (∀ σ3 H4, An σ3 H4 → ∃ m', m' < m ∧ W (i + 1) m' σ3 H4) ∧
        ∀ x H2, (Itr lo n).yld i H' x H2 → g x σ' H2 fun σ3 H3 => tt σ3 H3 fun ok H4 => if ok = true then te σ3 H4 (fun y H5 => Ay y σ3 H5) else An σ3 H4) := by
  refine ⟨fun i m σ H => m = n - i ∧ i ≤ n ∧ ∃ ys, Pv i ys σ H, ⟨n, by simp, Nat.zero_le _, [], h0⟩, ?_⟩
  rintro i m σ H ⟨rfl, hi, ys, p⟩
  obtain ⟨hy, hyl⟩ := hl i ys σ H hi p
  by_cases hlt : i < n
  · refine .inr ⟨hlt, fun y σ3 H5 => H5 D = some (.lst ys) ∧ Pv (i + 1) (ys ++ [y]) σ3 (upd H5 D (.lst (ys ++ [y]))), fun σ3 H4 => Pv (i + 1) ys σ3 H4,
      fun y σ3 H5 ⟨e, p'⟩ => ⟨ys, e, by omega, n - (i + 1), by omega, rfl, hlt, _, p'⟩, fun σ3 H4 p' => ⟨n - (i + 1), by omega, rfl, hlt, _, p'⟩, fun x H' y => ?_⟩
    obtain ⟨rfl, rfl⟩ := y
    exact hs i ys σ H' hlt p
  · have : i = n := by omega
    subst this
    exact .inl ⟨Nat.le_refl _, hd ys σ H p⟩
/-! a comprehension over a tuple -/
theorem comp_tup {K : PySem.W.Frag} {a D : Addr} {xs : List V} {g : TG} {tt : TT} {te : TE} {σ0 : St} {H1 : Hp} {Q : Hp → Prop} (Pv : Nat → List V → St → Hp → Prop) (hx : xs.length ≤ sizeLine) (h0 : Pv 0 [] σ0 (upd H1 D (.lst [])))
    (hl : ∀ i ys σ H, i ≤ xs.length → Pv i ys σ H → SqT K H a xs ∧ H D = some (.lst ys) ∧ ys.length ≤ i)
    (hs : ∀ i x ys σ H, xs[i]? = some x → Pv i ys σ H → g x σ H fun σ3 H3 => tt σ3 H3 fun ok H4 => if ok = true then te σ3 H4 fun y H5 => H5 D = some (.lst ys) ∧ Pv (i + 1) (ys ++ [y]) σ3 (upd H5 D (.lst (ys ++ [y]))) else Pv (i + 1) ys σ3 H4)
    (hd : ∀ ys σ H, Pv xs.length ys σ H → Q H) :
    ∃ W : Nat → Nat → St → Hp → Prop, (∃ m, W 0 m σ0 (upd H1 D (.lst []))) ∧ ∀ i m σ' H', W i m σ' H' →
      ((Itt K a).stop i H' ∧ Q H') ∨ ((Itt K a).go i H' ∧ ∃ (Ay : V → St → Hp → Prop) (An : St → Hp → Prop), (∀ y σ3 H5, Ay y σ3 H5 → ∃ ys, H5 D = some (.lst ys) ∧ ys.length < sizeLine ∧ ∃ m', m' < m ∧ W (i + 1) m' σ3 (upd H5 D (.lst (ys ++ [y])))) ∧
        (∀ σ3 H4, An σ3 H4 → ∃ m', m' < m ∧ W (i + 1) m' σ3 H4) ∧
        ∀ x H2, (Itt K a).yld i H' x H2 → g x σ' H2 fun σ3 H3 => tt σ3 H3 fun ok H4 => if ok = true then te σ3 H4 (fun y H5 => Ay y σ3 H5) else An σ3 H4) := by
  refine ⟨fun i m σ H => m = xs.length - i ∧ i ≤ xs.length ∧ ∃ ys, Pv i ys σ H, ⟨xs.length, by simp, Nat.zero_le _, [], h0⟩, ?_⟩
  rintro i m σ H ⟨rfl, hi, ys, p⟩
  obtain ⟨q, hy, hyl⟩ := hl i ys σ H hi p
  by_cases hlt : i < xs.length
  · refine .inr ⟨⟨xs, xs[i], q, by simp [hlt]⟩, fun y σ3 H5 => H5 D = some (.lst ys) ∧ Pv (i + 1) (ys ++ [y]) σ3 (upd H5 D (.lst (ys ++ [y]))), fun σ3 H4 => Pv (i + 1) ys σ3 H4,
      fun y σ3 H5 ⟨e, p'⟩ => ⟨ys, e, by omega, xs.length - (i + 1), by omega, rfl, hlt, _, p'⟩, fun σ3 H4 p' => ⟨xs.length - (i + 1), by omega, rfl, hlt, _, p'⟩, fun x H' y => ?_⟩
    obtain ⟨e, y⟩ := y
    subst e
    exact hs i x ys σ H' (y xs q) p
  · have : i = xs.length := by omega
    subst this
    exact .inl ⟨⟨xs, q, Nat.le_refl _⟩, hd ys σ H p⟩
end L2

namespace L2
open PySem PySem.Spec PyProof.Rows
/-! ### lists of written texts -/
theorem star_const {c : Const} {k : Nat} {p : Pos} {es : List Expr} {env : Env} : starEach (.Constant c k p :: es) env = (false, eval (.Constant c k p) env) :: starEach es env := rfl
def strsOf : List Expr → Option (List Str)
  | [] => some []
  | .Constant (.str x) _ _ :: es => (strsOf es).map (x :: ·)
  | _ => none
def tStrs (xs : List Str) : TA := fun _ H Q => Q (xs.map V.str) H
theorem pa_strs {X : Cx} : ∀ {es : List Expr} {xs : List Str}, strsOf es = some xs → PA X es (tStrs xs)
  | [], xs, h => by
    simp [strsOf] at h; subst h
    exact pa_nil
  | e :: es, xs, h => by
    unfold strsOf at h
    split at h
    · contradiction
    · rename_i x k p es' heq
      cases heq
      cases hs : strsOf es with
      | none => rw [hs] at h; simp at h
      | some ys =>
        rw [hs] at h
        simp at h
        subst h
        exact pa_cons pe_str (pa_strs hs) star_const
    · contradiction
theorem pe_lst_strs {X : Cx} {es : List Expr} {xs : List Str} {pos : Pos} (h : strsOf es = some xs) : PE X (.List es pos) (tLst (tStrs xs)) := pe_lst (pa_strs h)
end L2

set_option autoImplicit true
set_option relaxedAutoImplicit true
namespace L2
open PySem PySem.Spec PyProof.Rows
structure QE (X : Cx) (e : Expr) (t : TE) : Prop where
  go : PE X e t
structure QT (X : Cx) (e : Expr) (t : TT) : Prop where
  go : PT X e t
structure QW (X : Cx) (e : Expr) (t : TT) : Prop where
  go : PW X e t
structure QA (X : Cx) (es : List Expr) (t : TA) : Prop where
  go : PA X es t
structure QS (X : Cx) (s : Stmt) (t : TS) : Prop where
  go : PS X s t
structure QSs (X : Cx) (ss : List Stmt) (t : TS) : Prop where
  go : PSs X ss t
structure QG (X : Cx) (e : Expr) (t : TG) : Prop where
  go : PG X e t
structure QGs (X : Cx) (es : List Expr) (t : TGs) : Prop where
  go : PGs X es t
structure QI (X : Cx) (tg iter : Expr) (t : TI) : Prop where
  go : PI X tg iter t
structure QTS (X : Cx) (es : List Expr) (t : TT) : Prop where
  go : PTS X es t
structure QO (X : Cx) (e : Option Expr) (t : TO) : Prop where
  go : PO X e t
structure QPs (X : Cx) (pos : Pos) (ks : List (Option Expr)) (vs : List Expr) (t : List (TE × TE)) : Prop where
  go : PPs X pos ks vs t
section
variable {X : Cx}
theorem qa_cons (ha : QE X e te) (hr : QA X es t) (hs : starEach (e :: es) X.env = (false, eval e X.env) :: starEach es X.env := by rfl) : QA X (e :: es) (tCons te t) := ⟨pa_cons ha.go hr.go hs⟩
theorem qa_nil  : QA X [] tNil := ⟨pa_nil ⟩
theorem qe_int {i j pos} : QE X (.Constant (.int i) j pos) (tC (.int i)) := ⟨pe_int ⟩
theorem qe_op {op : Operator} {r : R2} (ho : OpR X (binaryOp op) r) (ha : QE X a ta) (hb : QE X b tb) : QE X (.BinOp a op b pos) (tOp r ta tb) := ⟨pe_op ho ha.go hb.go⟩
theorem qss_one (h1 : QS X st_ t) : QSs X [st_] t := ⟨pss_one h1.go⟩
theorem qss_cons (h1 : QS X st_ t) (h2 : QSs X rest_ u) : QSs X (st_ :: rest_) (tSeq t u) := ⟨pss_cons h1.go h2.go⟩
theorem qs_ret (he : QE X e te) : QS X (.Return (some e) pos) (tRet te) := ⟨ps_ret he.go⟩
theorem qe_fn (F : FnB X.prog X.w X.K X.mg X.base k x ps sp) (hr : Room k X.A) (hg : Gl X x) (ha : QA X (e :: es) t) (hdb : (x == ("__debug__" : Str)) = false := by decide) (he : starEach (e :: es) X.env = (false, eval e X.env) :: starEach es X.env := by rfl) (hpl : (backTo pos (starEach es X.env)).any (·.1) = false := by rfl) : QE X (.Call (.Name x p) (e :: es) [] pos) (tCall sp [] E0 t) := ⟨pe_fn F hr hg ha.go hdb he hpl⟩
theorem qt_cmpR {op : CmpOp} {r : R2} (ho : OpR X (compareOp op) r) (ha : QE X a ta) (hb : QE X b tb) (hm : behindInMarks op b = false) : QT X (.Compare a [op] [b] pos) (tTest (tOp r ta tb)) := ⟨pt_cmpR ho ha.go hb.go hm⟩
theorem qs_if {c : Expr} {a b : List Stmt} {tc : TT} (hc : QT X c tc) (ha : QSs X a t) (hb : QSs X b u) : QS X (.If c a b pos) (tIfS tc t u) := ⟨ps_if hc.go ha.go hb.go⟩
theorem qss_nil  : QSs X [] tNext := ⟨pss_nil ⟩
theorem qe_str {x j pos} : QE X (.Constant (.str x) j pos) (tC (.str x)) := ⟨pe_str ⟩
theorem qs_set {i : Nat} {x : Str} {e : Expr} {te : TE} {pos' : Pos} (hN : X.N.Nodup) (hi_ : X.N[i]? = some x) (hx : Loc X.env.scope x) (he : QE X e te) (hs : swapsWith e (some (.Name x pos')) pos.line X.env = pure false := by rfl) (hf : X.fn x = true ∨ X.env.scope.names.lookup x = some .local := by first | exact .inl rfl | exact .inr rfl | assumption) : QS X (.Assign [.Name x pos'] e pos) (tAsg te (gName i)) := ⟨ps_set hN hi_ hx he.go hs hf⟩
theorem qe_callB (hc : CallR X (.builtin id_) r) (hg : Gl X x) (hm : X.mg x = none) (hv : bootBuiltins x = some (.builtin id_)) (ha : QA X (e :: es) t) (hn : x ≠ "__name__" := by decide) (hdb : (x == ("__debug__" : Str)) = false := by decide) (he : starEach (e :: es) X.env = (false, eval e X.env) :: starEach es X.env := by rfl) (hpl : (backTo pos (starEach es X.env)).any (·.1) = false := by rfl) : QE X (.Call (.Name x p) (e :: es) [] pos) (tCB r t) := ⟨pe_callB hc hg hm hv ha.go hn hdb he hpl⟩
theorem qe_cmpR {op : CmpOp} {r : R2} (ho : OpR X (compareOp op) r) (ha : QE X a ta) (hb : QE X b tb) (hm : behindInMarks op b = false) : QE X (.Compare a [op] [b] pos) (tOp r ta tb) := ⟨pe_cmpR ho ha.go hb.go hm⟩
theorem qe_lst (h : QA X es t) : QE X (.List es pos) (tLst t) := ⟨pe_lst h.go⟩
theorem qg_name {i : Nat} {x : Str} (hN : X.N.Nodup) (hi_ : X.N[i]? = some x) (hx : Loc X.env.scope x) (hf : X.fn x = true ∨ X.env.scope.names.lookup x = some .local := by first | exact .inl rfl | exact .inr rfl | assumption) : QG X (.Name x pos) (gName i) := ⟨pg_name hN hi_ hx hf⟩
theorem qe_ix {r : R2} (hr : IxR X r) (ha : QE X a ta) (hb : QE X b tb) (hs : PlainIx b) : QE X (.Subscript a b pos) (tOp r ta tb) := ⟨pe_ix hr ha.go hb.go hs⟩
theorem qt_val {e : Expr} {t : TE} (h : QE X e t) (he : ∀ whole, isTrue e X.env whole = (do let v ← whole; standAt e.pos; holding [v] (truthy v)) := by intro _; rfl) : QT X e (tB t) := ⟨pt_val h.go he⟩
theorem qe_bl {b j pos} : QE X (.Constant (.bool b) j pos) (tC (.bl b)) := ⟨pe_bl ⟩
theorem qt_not (ha : QT X a tA) : QT X (.UnaryOp .Not a pos) (tNot tA) := ⟨pt_not ha.go⟩
theorem qe_bltn {x : Str} {v : V} {u : Value} {pos : Pos} (hg : Gl X x) (hm : X.mg x = none) (hv : bootBuiltins x = some u) (r : RelV v u) (hn : x ≠ "__name__" := by decide) (hd : (x == ("__debug__" : Str)) = false := by decide) : QE X (.Name x pos) (tC v) := ⟨pe_bltn hg hm hv r hn hd⟩
theorem qw_or (ha : QT X a tA) (hb : QW X (.BoolOp .Or (b :: rest_) pos) tB') : QW X (.BoolOp .Or (a :: b :: rest_) pos) (tOr tA tB') := ⟨pw_or ha.go hb.go⟩
theorem qs_for {iter : Expr} {body : List Stmt} {wi : TI} {g : TG} {tb : TS} {pos : Pos} (hp : PassesOwn (model X.prog X.w) X.A X.env X.xe) (hc : X.calm = true) (hi_ : QI X tg iter wi) (hg : QG X tg g) (hb : QSs X body tb) (hs : ∀ x, foldedSetIterable iter X.env x = pure x := by intro _; rfl) : QS X (.For tg iter body [] pos) (tFor wi g tb) := ⟨ps_for hp hc hi_.go hg.go hb.go hs⟩
theorem qo_some (h : QE X e te) : QO X (some e) (tPart te) := ⟨po_some h.go⟩
theorem qe_un {op : UnaryOp} {r : V → Hp → VK → Prop} (ho : UnR X (unaryOp op) r) (ha : QE X a ta) : QE X (.UnaryOp op a pos) (tUn r ta) := ⟨pe_un ho ha.go⟩
theorem qw_or1 (ha : QT X a tA) : QW X (.BoolOp .Or [a] pos) tA := ⟨pw_or1 ha.go⟩
theorem qe_slice {r : V → Option Int → Option Int → Hp → VK → Prop} (hr : SlR X r) (he : QE X e te) (hl : QO X lo_ tl) (hu : QO X hi_ th) : QE X (.Subscript e (.Slice lo_ hi_ none p2) pos) (tSl r te tl th) := ⟨pe_slice hr he.go hl.go hu.go⟩
theorem qe_callTy (hc : CallR X (.type T) r) (hg : Gl X x) (hm : X.mg x = none) (hv : bootBuiltins x = some (.type T)) (ha : QA X (e :: es) t) (hn : x ≠ "__name__" := by decide) (hdb : (x == ("__debug__" : Str)) = false := by decide) (he : starEach (e :: es) X.env = (false, eval e X.env) :: starEach es X.env := by rfl) (hpl : (backTo pos (starEach es X.env)).any (·.1) = false := by rfl) : QE X (.Call (.Name x p) (e :: es) [] pos) (tCB r t) := ⟨pe_callTy hc hg hm hv ha.go hn hdb he hpl⟩
theorem qe_bm (pa : PlainAttrs T) (slot_ : Slot T name_ id_) (hty : typeOf (.builtin id_) = pure (.type "method_descriptor")) (hm : MtR X id_ r) (ho : QE X o to_) (ha : QA X (e :: es) t) (hbase : attributeBase o name_ X.env (eval o X.env) = eval o X.env := by rfl) (hfew : ((backTo cpos (starEach (e :: es) X.env)).all (fun x => !x.1) && (backToKw cpos (keywordEach [] X.env)).all (fun x => x.1.isSome) && decide ((e :: es).length + ([] : List Keyword).length + (if ([] : List Keyword).isEmpty then 0 else 1) < 30)) = true := by rfl) (hline : (apos.endLine == cpos.line) = true := by rfl) (hs : starEach (e :: es) X.env = (false, eval e X.env) :: starEach es X.env := by rfl) (hplain : (backTo cpos (starEach es X.env)).any (·.1) = false := by rfl) : QE X (.Call (.Attribute o name_ apos) (e :: es) [] cpos) (tBM X.K T r to_ t) := ⟨pe_bm pa slot_ hty hm ho.go ha.go hbase hfew hline hs hplain⟩
theorem qgs_cons {e : Expr} {es : List Expr} {t : TG} {u : TGs} (h1 : QG X e t) (h2 : QGs X es u) (hs : (assignEach (e :: es) X.env).map (·.2) = assign e X.env :: (assignEach es X.env).map (·.2) := by rfl) : QGs X (e :: es) (gCons t u) := ⟨pgs_cons h1.go h2.go hs⟩
theorem qe_tup {x1} (h : QA X es t) : QE X (.Tuple es x1 pos) (tTup t) := ⟨pe_tup h.go⟩
theorem qo_none  : QO X none tNoPart := ⟨po_none ⟩
theorem qi_range1 {a : Expr} {ta : TA} {p pos : Pos} (hg : Gl X "range") (hm : X.mg "range" = none) (ha : QA X [a] ta) (hs : starEach [a] X.env = [(false, eval a X.env)] := by rfl) : QI X tg (.Call (.Name "range" p) [a] [] pos) (iRng1 ta) := ⟨pi_range1 hg hm ha.go hs⟩
theorem qi_list {l : Expr} {tl : TE} (hl : QE X l tl) : QI X tg l (iList X.K tl) := ⟨pi_list hl.go⟩
theorem qs_expr (he : QE X e te) (hs : swapsWith e none pos.line X.env = pure false := by rfl) : QS X (.Expr e pos) (tDrop te) := ⟨ps_expr he.go hs⟩
theorem qe_non {j pos} : QE X (.Constant .none j pos) (tC .non) := ⟨pe_non ⟩
theorem qts_nil  : QTS X [] tYes := ⟨pts_nil ⟩
theorem qgs_nil  : QGs X [] gNil := ⟨pgs_nil ⟩
theorem qg_tup {es : List Expr} {k : Nat} {t : TGs} {n : Nat} (hc : X.calm = true) (h : QGs X es t) (hn : (assignEach es X.env).length = n := by rfl) (hst : (assignEach es X.env).findIdx? (·.1) = none := by rfl) : QG X (.Tuple es k pos) (gTup X.K n t) := ⟨pg_tup hc h.go hn hst⟩
theorem qe_ifExp {c : Expr} (hc : QT X c tA) (ha : QE X a ta) (hb : QE X b tb) : QE X (.IfExp c a b pos) (tIf tA ta tb) := ⟨pe_ifExp hc.go ha.go hb.go⟩
theorem qe_bm0 (pa : PlainAttrs T) (slot_ : Slot T name_ id_) (hty : typeOf (.builtin id_) = pure (.type "method_descriptor")) (hm : MtR X id_ r) (ho : QE X o to_) (hbase : attributeBase o name_ X.env (eval o X.env) = eval o X.env := by rfl) (hline : (apos.endLine == cpos.line) = true := by rfl) : QE X (.Call (.Attribute o name_ apos) [] [] cpos) (tBM0 X.K T r to_) := ⟨pe_bm0 pa slot_ hty hm ho.go hbase hline⟩
theorem qw_and1 (ha : QT X a tA) : QW X (.BoolOp .And [a] pos) tA := ⟨pw_and1 ha.go⟩
theorem qw_and (ha : QT X a tA) (hb : QW X (.BoolOp .And (b :: rest_) pos) tB') : QW X (.BoolOp .And (a :: b :: rest_) pos) (tAnd tA tB') := ⟨pw_and ha.go hb.go⟩
theorem qi_tup {l : Expr} {tl : TE} (hl : QE X l tl) : QI X tg l (iTup X.K tl) := ⟨pi_tup hl.go⟩
theorem qe_dget (hu : X.A.units + 1 < cLine) (ho : QE X o td) (hi_ : QE X i ty) (hs : NoSl i) : QE X (.Subscript o i pos) (tDGet td ty) := ⟨pe_dget hu ho.go hi_.go hs⟩
theorem qts_one {c : Expr} {tt : TT} (h : QT X c tt) : QTS X [c] tt := ⟨pts_one h.go⟩
theorem qps_nil {pos : Pos} : QPs X pos [] [] [] := ⟨pps_nil ⟩
theorem qps_cons {pos : Pos} {k v : Expr} {ks : List (Option Expr)} {vs : List Expr} {tk tv : TE} {trs : List (TE × TE)} (hk : QE X k tk) (hv : QE X v tv) (hr : QPs X pos ks vs trs) : QPs X pos (some k :: ks) (v :: vs) ((tk, tv) :: trs) := ⟨pps_cons hk.go hv.go hr.go⟩
theorem qe_disp {pos : Pos} {keys : List (Option Expr)} {values : List Expr} {trs : List (TE × TE)} (h : QPs X pos keys values trs) (hall : keys.all (·.isSome) = true) (hl : keys.length = values.length) (h0 : keys ≠ []) (h15 : keys.length ≤ 15) : QE X (.Dict keys values pos) (tDisp trs) := ⟨pe_disp h.go hall hl h0 h15⟩
theorem qs_asg {tg e : Expr} {te : TE} {g : TG} (he : QE X e te) (hg : QG X tg g) (hs : swapsWithSole [tg] e pos.line X.env = pure false := by rfl) (hw : swappedStores [tg] e X.env = pure none := by rfl) (h1 : (assignEach [tg] X.env).map (·.2) = [assign tg X.env] := by rfl) : QS X (.Assign [tg] e pos) (tAsg te g) := ⟨ps_asg he.go hg.go hs hw h1⟩
theorem qe_lst_strs {es : List Expr} {xs : List Str} {pos : Pos} (h : strsOf es = some xs) : QE X (.List es pos) (tLst (tStrs xs)) := ⟨pe_lst_strs h⟩
theorem qv (i : Nat) {x : Str} {pos : Pos} (hN : X.N[i]? = some x := by rfl) (hv : Vis X.env.scope x := by first | exact Or.inl rfl | exact Or.inr (Or.inl rfl) | exact Or.inr (Or.inr rfl)) (hd : (x == ("__debug__" : Str)) = false := by decide) (hcd : (x == ("__classdict__" : Str)) = false := by decide) : QE X (.Name x pos) (tVar i) := ⟨pv i hN hv hd hcd⟩
theorem QW.pt {e : Expr} {t : TT} (h : QW X e t) : QT X e t := ⟨h.go.pt⟩
theorem qe_comp {scope : Scope} {cl : List (Str × Addr)} {N' : List Str} {n : Nat} {js : List Nat} {tg iter elt : Expr} {ifs : List Expr} {pos : Pos} {wi : TI} {g : TG} {tt : TT} {te : TE} (c : Caps X scope cl N' n js) (hc : X.calm = true) (hi : QI X tg iter wi) (hin : ∀ s3 H3 fp, QG (cxC X N' scope cl s3 H3 fp) tg g ∧ QTS (cxC X N' scope cl s3 H3 fp) ifs tt ∧ QE (cxC X N' scope cl s3 H3 fp) elt te) (hs : ∀ x, foldedSetIterable iter X.env x = pure x := by intro _; rfl) : QE X (.ListComp elt [⟨tg, iter, ifs, 0⟩] scope pos) (tComp (capσ n js) wi g tt te) := ⟨pe_comp c hc hi.go (fun s3 H3 fp => ⟨(hin s3 H3 fp).1.go, (hin s3 H3 fp).2.1.go, (hin s3 H3 fp).2.2.go⟩) hs⟩
theorem qs_comp {scope : Scope} {cl : List (Str × Addr)} {N' : List Str} {n : Nat} {js : List Nat} {tg iter elt : Expr} {ifs : List Expr} {pos spos py : Pos} {wi : TI} {g : TG} {tt : TT} {te : TE} {i0 : Nat} {y : Str} (hN : X.N.Nodup) (hi' : X.N[i0]? = some y) (hx : X.env.scope.names.lookup y = some .local) (hsw : swapsWith (.ListComp elt [⟨tg, iter, ifs, 0⟩] scope pos) (some (.Name y py)) spos.line X.env = pure true) (c : Caps X scope cl N' n js) (hc : X.calm = true) (hi : QI X tg iter wi) (hin : ∀ s3 H3 fp, QG (cxC X N' scope cl s3 H3 fp) tg g ∧ QTS (cxC X N' scope cl s3 H3 fp) ifs tt ∧ QE (cxC X N' scope cl s3 H3 fp) elt te) (hs : ∀ x, foldedSetIterable iter X.env x = pure x := by intro _; rfl) : QS X (.Assign [.Name y py] (.ListComp elt [⟨tg, iter, ifs, 0⟩] scope pos) spos) (tAsg (tComp (capσ n js) wi g tt te) (gName i0)) := ⟨ps_comp hN hi' hx hsw c hc hi.go (fun s3 H3 fp => ⟨(hin s3 H3 fp).1.go, (hin s3 H3 fp).2.1.go, (hin s3 H3 fp).2.2.go⟩) hs⟩
end
theorem Fun.okQ {P : Program} {w : World} {K : PySem.W.Frag} {mg : Str → Option Value} {base : Heap} {x qual : Str} {st_ : Stmt} {f : Addr} {fd : FuncData} {N ps : List Str} {k : Nat} {sp : Sp} (F : Fun K x qual st_ f fd) (S : FnScope N ps (defScope st_)) (len : ∀ vs H Q E, sp vs H Q E → vs.length = ps.length) (hbody : ∀ (cdv : Value) (A : Around) (outer : List Env) (s : Shared) (H : Hp) (vs : List V) (Q : VK) (E : XK), Room k (A.deeper (envOfC qual (defScope st_) s.heap.objs.size f cdv)) → sp vs H Q E → ∃ t, QSs (cxOf CX0 P w K mg base N qual (defScope st_) f cdv A outer s H E).nox (defBody st_) t ∧ t { nx := fun _ H' => Q .non H', rt := Q } (start N vs) H) : FnOk P w K mg base CX0 (k + 1) f fd ps sp := F.ok S len fun cdv A outer s H vs Q E hr hsp => let ⟨t, h, q⟩ := hbody cdv A outer s H vs Q E hr hsp; ⟨t, h.go, q⟩
end L2

namespace L2
open PySem PySem.Spec PyProof.Rows
/-! ### a heap without some of its objects -/
/-! ### what is tracked is there -/

/-! ### an exception's record -/
section
variable {M : Model} {A : Around} {E : Value → Shared → Prop} {s : Shared} {env : Env} {outer : List Env} {L e : Addr} {cls : Value}
end
end L2

namespace L2
open PySem PySem.Spec PyProof.Rows
/-! ### exceptions that leave a def -/
/-! ### raise C(..), C an own exception class without an __init__ -/
/-! ### defs that raise -/
section
variable {P : Program} {w : World} {K : PySem.W.Frag} {mg : Str → Option Value} {base : Heap}
end
section
variable {X : Cx}
end
end L2

namespace L2
open PySem PySem.Spec PyProof.Rows
/-! ### defs that are called while an exception is handled -/
section
variable {P : Program} {w : World} {K : PySem.W.Frag} {mg : Str → Option Value} {base : Heap}
end

/-! ### try: f(..) except C as n: .. -/
end L2

namespace L2
open PySem PySem.Spec PyProof.Rows
section
variable {X : Cx} {pins : List (Addr × Obj)} {σ : St} {H H' : Hp} {s s' : Shared} {i : Nat} {n : Str} {C : Addr} {cx : Str} {cp hpos : Pos} {b₀ : Stmt} {suite : List Stmt} {ts : TS} {D : Ends}
end
end L2

namespace L2
open PySem PySem.Spec PyProof.Rows PySem.W
/-! ### isinstance of an exception of an own class -/
section
variable {prog : Program} {w : World} {A : Around} {E : Value → Shared → Prop} {h : Heap} {g : Array GenState} {d : Drawn} {t : Nat} {os : OsState} {a C : Addr} {o : Obj} {K : PySem.W.Frag}
end
end L2

namespace L2
open PySem PySem.Spec PyProof.Rows
end L2

namespace L2
open PySem PySem.Spec PyProof.Rows
/-! ### lists of texts compared; a text so many times -/
end L2

namespace L2
open PySem PySem.Spec PyProof.Rows
/-! ### t[::2], t[1::2] of a tuple -/
section
variable {prog : Program} {w : World} {A : Around} {E : Value → Shared → Prop} {s : Shared}
end
section
variable {X : Cx}
end
/-! ### all([..]) of bools -/
end L2

namespace L2
open PySem PySem.Spec PyProof.Rows
/-! ### {k: v for x in xs} -/
section
variable {prog : Program} {w : World} {A : Around} {R : Result → Shared → Prop} {s : Shared}
end
section
variable {X : Cx} {pins : List (Addr × Obj)} {σ : St} {H : Hp} {s : Shared}

end
end L2

namespace L2
open PySem PySem.Spec PyProof.Rows
/-! ### a list (true) or a tuple (false), and its walk -/
def SI (b : Bool) (h : Heap) (it l : Addr) (i : Nat) : Prop := if b = true then h.IsListIter it l i else h.IsTupleIter it l i
def SQ (b : Bool) (h : Heap) (l : Addr) (xs : Array Value) : Prop := if b = true then h.IsList l xs else h.IsTuple l xs
theorem SI.at {b : Bool} {h h' : Heap} {it l : Addr} {i : Nat} (x : SI b h it l i) (e : ∀ o, h.get? it = some o → h'.get? it = some o) : SI b h' it l i := by
  cases b
  · exact Heap.IsTupleIter.at (show h.IsTupleIter it l i from x) e
  · exact Heap.IsListIter.at (show h.IsListIter it l i from x) e
theorem SI.obj {b : Bool} {h : Heap} {it l : Addr} {i : Nat} (x : SI b h it l i) : ∃ o, h.get? it = some o ∧ ∀ v, o.data ≠ .cell v := by
  cases b
  · obtain ⟨o, e, _, d⟩ := (show h.IsTupleIter it l i from x)
    exact ⟨o, e, fun v z => by rw [d] at z; cases z⟩
  · obtain ⟨o, e, _, d⟩ := (show h.IsListIter it l i from x)
    exact ⟨o, e, fun v z => by rw [d] at z; cases z⟩
section
variable {prog : Program} {w : World} {A : Around} {E : Value → Shared → Prop} {s : Shared}
theorem nextOf_tup_item {it l : Addr} {i : Nat} {xs : Array Value} {x : Value} {Q : Value → Shared → Prop} (u : s.heap.IsTupleIter it l i) (q : s.heap.IsTuple l xs) (z : xs[i]? = some x)
    (k : ∀ h', h'.IsTupleIter it l (i + 1) → Heap.SameBut it s.heap h' → Q x { s with heap := h' }) : wpAny (model prog w) A (Builtin.SmallTypes.nextOf (.ref it)) Q E s := by
  obtain ⟨o, e, c, d⟩ := id u
  obtain ⟨o2, e2, _, n2, d2⟩ := q
  delta Builtin.SmallTypes.nextOf
  refine wpAny_bind (wpAny_callSpecial?_slot (name := Str.ofString "__next__") u.typeIs PySem.F.slot_tuple_iterator_next (wpAny_call_entry PySem.F.slot_tuple_iterator_next u.typeIs PySem.F.entry_tuple_iterator_next ?_ (PySem.F.args_tuple_iterator_next_1 _)))
  show wpAny _ _ (field (.ref it) 0 >>= fun _ => _) _ _ s
  refine wpAny_bind (wpAny_field e d (x := .ref l) rfl ?_)
  show wpAny _ _ (if (Value.ref l == Value.none) = true then _ else (field (.ref it) 1 >>= fun _ => _)) _ _ s
  rw [if_neg (show ¬ ((Value.ref l == Value.none) = true) from fun z => Bool.false_ne_true z)]
  refine wpAny_bind (wpAny_field e d (x := .int i 0) rfl ?_)
  show wpAny _ _ (seqItems? (.ref l) >>= fun _ => _) _ _ s
  refine wpAny_bind (wpAny_seqItems e2 d2 ?_)
  simp only [z, Int.toNat_natCast]
  refine wpAny_bind (wpAny_setField e d (by simp) (wpAny_pure ⟨x, rfl, wpAny_pure (k _ ⟨_, Heap.get?_update_self _ e (Obj.isFreed_of_fields (Obj.data_mapFields d _)), (Obj.cls_mapFields ..).trans c, ?_⟩ (Heap.SameBut.update ..))⟩))
  rw [Obj.data_mapFields d]
  simp [rawInt]
theorem nextOf_tup_end {it l : Addr} {i : Nat} {xs : Array Value} {Q : Value → Shared → Prop} (hh : A.handled = none) (u : s.heap.IsTupleIter it l i) (q : s.heap.IsTuple l xs) (z : xs[i]? = none)
    (k : ∀ h' e, Heap.ExtBut it s.heap h' → (∃ o, h'.get? e = some o ∧ o.cls = .type "StopIteration") → E (.ref e) { s with heap := h' }) : wpAny (model prog w) A (Builtin.SmallTypes.nextOf (.ref it)) Q E s := by
  obtain ⟨o, e, c, d⟩ := id u
  obtain ⟨o2, e2, _, n2, d2⟩ := q
  delta Builtin.SmallTypes.nextOf
  refine wpAny_bind (wpAny_callSpecial?_slot (name := Str.ofString "__next__") u.typeIs PySem.F.slot_tuple_iterator_next (wpAny_call_entry PySem.F.slot_tuple_iterator_next u.typeIs PySem.F.entry_tuple_iterator_next ?_ (PySem.F.args_tuple_iterator_next_1 _)))
  show wpAny _ _ (field (.ref it) 0 >>= fun _ => _) _ _ s
  refine wpAny_bind (wpAny_field e d (x := .ref l) rfl ?_)
  show wpAny _ _ (if (Value.ref l == Value.none) = true then _ else (field (.ref it) 1 >>= fun _ => _)) _ _ s
  rw [if_neg (show ¬ ((Value.ref l == Value.none) = true) from fun z => Bool.false_ne_true z)]
  refine wpAny_bind (wpAny_field e d (x := .int i 0) rfl ?_)
  show wpAny _ _ (seqItems? (.ref l) >>= fun _ => _) _ _ s
  refine wpAny_bind (wpAny_seqItems e2 d2 ?_)
  simp only [z, Int.toNat_natCast]
  refine wpAny_bind (wpAny_rule (wpAny_bind (wpAny_setField e d (by simp) ?_)))
  show wpAny _ _ (newExc (.type "StopIteration") [] >>= fun _ => _) _ _ _
  refine wpAny_bind ?_
  simp only [newTuple, newExc]
  refine wpAny_bind (wpAny_newObj_type (wpAny_bind (m := firstArgMember _ _) (wpAny_of_eq (a := Value.none) (by first | rfl | (simp only [firstArgMember]; rfl)) (wpAny_newObj_type ?_ (by size_fits)))) (by size_fits))
  simp only [raiseNew]
  refine wpAny_bind (wpAny_handled ?_)
  rw [show A.in1.handled = none from hh]
  exact wpAny_bind (wpAny_pure (wpAny_throw (k _ _ (((Heap.SameBut.update ..).extBut.push _).push _) ⟨_, Heap.get?_push_size _ rfl, rfl⟩)))
theorem nextOf_item {b : Bool} {it l : Addr} {i : Nat} {xs : Array Value} {x : Value} {Q : Value → Shared → Prop} (u : SI b s.heap it l i) (q : SQ b s.heap l xs) (z : xs[i]? = some x)
    (k : ∀ h', SI b h' it l (i + 1) → Heap.SameBut it s.heap h' → Q x { s with heap := h' }) : wpAny (model prog w) A (Builtin.SmallTypes.nextOf (.ref it)) Q E s := by
  cases b
  · exact nextOf_tup_item u q z k
  · exact wpAny_nextOf_list_item u q z k
theorem nextOf_end {b : Bool} {it l : Addr} {i : Nat} {xs : Array Value} {Q : Value → Shared → Prop} (hh : A.handled = none) (u : SI b s.heap it l i) (q : SQ b s.heap l xs) (z : xs[i]? = none)
    (k : ∀ h' e, Heap.ExtBut it s.heap h' → (∃ o, h'.get? e = some o ∧ o.cls = .type "StopIteration") → E (.ref e) { s with heap := h' }) : wpAny (model prog w) A (Builtin.SmallTypes.nextOf (.ref it)) Q E s := by
  cases b
  · exact nextOf_tup_end hh u q z k
  · exact wpAny_nextOf_list_end hh u q z k
/-! ### enumerate -/
theorem enum_item {b : Bool} {e it l : Addr} {i : Nat} {xs : Array Value} {x old : Value} {Q : Option Value → Shared → Prop} (he : IsEnum s.heap e it i old) (u : SI b s.heap it l i) (q : SQ b s.heap l xs) (z : xs[i]? = some x) (ne : e ≠ it)
    (k : ∀ h', IsEnumOut h' e it ((i : Int) + 1) x s.heap.objs.size → SI b h' it l (i + 1) → h'.get? s.heap.objs.size = some { cls := .type "tuple", data := .seq #[.int i s.toks, x] } → h'.objs.size = s.heap.objs.size + 1 →
      (∀ c o, c ≠ e → c ≠ it → s.heap.get? c = some o → h'.get? c = some o) → Q (some (.ref s.heap.objs.size)) { s with heap := h', toks := s.toks + 1 }) : wpAny (model prog w) A (pyNext (.ref e)) Q E s := by
  have ty : s.TypeIs (.ref e) "enumerate" := ⟨_, he, rfl⟩
  unfold pyNext
  refine wpAny_bind (wpAny_attempt (wpAny_callSpecial?_slot (name := Str.ofString "__next__") ty F.slot_enumerate_next (wpAny_call_entry F.slot_enumerate_next ty F.entry_enumerate_next ?_ (F.args_enumerate_next_1 _))))
  obtain ⟨hp, g, d, tk, os⟩ := s
  show wpAny _ _ (field (.ref e) 2 >>= fun _ => _) _ _ _
  refine wpAny_bind (wpAny_field he rfl (x := .ref it) rfl (wpAny_bind (nextOf_item u q z fun h1 u1 s1 => ?_)))
  replace s1 : Heap.SameBut it hp h1 := s1
  have e1 : IsEnum h1 e it i old := (s1.2 e ne).trans he
  show wpAny _ _ (field (.ref e) 3 >>= fun _ => _) _ _ ⟨h1, g, d, tk, os⟩
  refine wpAny_bind (wpAny_field e1 rfl (x := rawInt i) rfl ?_)
  show wpAny _ _ (field (.ref e) 4 >>= fun _ => _) _ _ ⟨h1, g, d, tk, os⟩
  refine wpAny_bind (wpAny_field e1 rfl (x := .none) rfl ?_)
  show wpAny _ _ (mkInt i >>= fun _ => _) _ _ ⟨h1, g, d, tk, os⟩
  refine wpAny_bind (wpAny_mkInt (?_))
  show wpAny _ _ (setField (.ref e) 3 (rawInt ((i : Int) + 1)) >>= fun _ => _) _ _ ⟨h1, g, d, tk + 1, os⟩
  refine wpAny_bind (wpAny_setField_rec e1 (by simp) fun h2 e2 s2 => ?_)
  replace s2 : Heap.SameBut e h1 h2 := s2
  replace e2 : IsEnum h2 e it ((i : Int) + 1) old := e2
  show wpAny _ _ (setField (.ref e) 4 .none >>= fun _ => _) _ _ ⟨h2, g, d, tk + 1, os⟩
  refine wpAny_bind (wpAny_setField_rec e2 (by simp) fun h3 e3 s3 => ?_)
  replace s3 : Heap.SameBut e h2 h3 := s3
  replace e3 : IsEnum h3 e it ((i : Int) + 1) old := e3
  show wpAny _ _ (newTuple [.int i tk, x] >>= fun _ => _) _ _ ⟨h3, g, d, tk + 1, os⟩
  refine wpAny_bind (wpAny_newTuple (?_))
  have e4 : IsEnum (h3.push { cls := .type "tuple", data := .seq #[.int i tk, x] }) e it ((i : Int) + 1) old := Heap.get?_push_of_some _ e3
  generalize p4 : h3.push { cls := .type "tuple", data := .seq #[.int i tk, x] } = h4 at e4
  have sz : h3.objs.size = hp.objs.size := by rw [s3.1, s2.1, s1.1]
  have le : e < hp.objs.size := Heap.lt_size he
  have t4 : h4.get? hp.objs.size = some { cls := .type "tuple", data := .seq #[.int i tk, x] } := by rw [← p4, ← sz]; exact Heap.get?_push_size _ rfl
  have z4 : h4.objs.size = hp.objs.size + 1 := by rw [← p4, Heap.size_push, sz]
  have k4 : ∀ c o, c ≠ e → c ≠ it → hp.get? c = some o → h4.get? c = some o := fun c o c1 c2 y => by
    rw [← p4]; exact Heap.get?_push_of_some _ (s3.extBut c o c1 (s2.extBut c o c1 (s1.extBut c o c2 y)))
  have u4 : SI b h4 it l (i + 1) := u1.at fun o y => by
    rw [← p4]; exact Heap.get?_push_of_some _ (s3.extBut _ _ (Ne.symm ne) (s2.extBut _ _ (Ne.symm ne) y))
  show wpAny _ _ (Builtin.SmallTypes.ownedTupleIsFree (.ref e) >>= fun _ => _) _ _ ⟨h4, g, d, tk + 1, os⟩
  rw [sz]
  clear p4 e3 s3 e2 s2 e1 s1 u1 sz h3 h2 h1
  refine wpAny_bind ?_
  delta Builtin.SmallTypes.ownedTupleIsFree
  refine wpAny_bind (wpAny_field e4 rfl (x := .none) rfl (wpAny_pure ?_))
  simp only [if_true]
  refine wpAny_bind (wpAny_rule (wpAny_bind (wpAny_field e4 rfl (x := old) rfl (wpAny_bind (wpAny_setField_rec e4 (by simp) fun h5 e5 s5 => ?_)))))
  replace s5 : Heap.SameBut e h4 h5 := s5
  replace e5 : IsEnum h5 e it ((i : Int) + 1) x := e5
  show wpAny _ _ (Builtin.SmallTypes.ownedTupleHandOut (.ref e) (.ref hp.objs.size) >>= fun _ => _) _ _ ⟨h5, g, d, tk + 1, os⟩
  refine wpAny_bind ?_
  delta Builtin.SmallTypes.ownedTupleHandOut
  refine wpAny_bind (wpAny_setField_rec e5 (by simp) fun h6 e6 s6 => ?_)
  replace s6 : Heap.SameBut e h5 h6 := s6
  replace e6 : IsEnumOut h6 e it ((i : Int) + 1) x hp.objs.size := e6
  refine wpAny_setField_rec e6 (by simp) fun h7 e7 s7 => ?_
  replace s7 : Heap.SameBut e h6 h7 := s7
  replace e7 : IsEnumOut h7 e it ((i : Int) + 1) x hp.objs.size := e7
  have up : ∀ c o, c ≠ e → h4.get? c = some o → h7.get? c = some o := fun c o c1 y => s7.extBut c o c1 (s6.extBut c o c1 (s5.extBut c o c1 y))
  exact wpAny_bind (wpAny_letGo (wpAny_pure ⟨_, rfl, wpAny_pure (k h7 e7 (u4.at fun o y => up _ _ (Ne.symm ne) y) (up _ _ (Nat.ne_of_gt le) t4) (by rw [s7.1, s6.1, s5.1, z4]) fun c o c1 c2 y => up c o c1 (k4 c o c1 c2 y))⟩))
theorem enum_end {b : Bool} {e it l : Addr} {i : Nat} {xs : Array Value} {old : Value} {Q : Option Value → Shared → Prop} (hh : A.handled = none) (he : IsEnum s.heap e it i old) (u : SI b s.heap it l i) (q : SQ b s.heap l xs) (z : xs[i]? = none)
    (k : ∀ h', Heap.ExtBut it s.heap h' → Q none { s with heap := h' }) : wpAny (model prog w) A (pyNext (.ref e)) Q E s := by
  have ty : s.TypeIs (.ref e) "enumerate" := ⟨_, he, rfl⟩
  unfold pyNext
  refine wpAny_bind (wpAny_attempt (wpAny_callSpecial?_slot (name := Str.ofString "__next__") ty F.slot_enumerate_next (wpAny_call_entry F.slot_enumerate_next ty F.entry_enumerate_next ?_ (F.args_enumerate_next_1 _))))
  show wpAny _ _ (field (.ref e) 2 >>= fun _ => _) _ _ _
  refine wpAny_bind (wpAny_field he rfl (x := .ref it) rfl (wpAny_bind (nextOf_end hh u q z fun h' x y1 ⟨o, y2, y3⟩ => wpAny_bind (wpAny_isInstance (T := "StopIteration") (b := true) ⟨o, y2, y3⟩ isSubtype_stop (wpAny_pure (k _ y1))))))
end
theorem meets_enum_tup (l : Addr) (xs : Array Value) (o : Obj) :
    Meets (Builtin.«enumerate.__new__» ⟨[.type "enumerate", .ref l], []⟩) (fun _ R s => s.heap.get? l = some o ∧ s.heap.IsTuple l xs ∧
      R (.ok (.ret (.ref (s.heap.push { cls := .type "tuple_iterator", data := .fields #[.ref l, .int 0 0] }).objs.size)))
        { s with heap := (s.heap.push { cls := .type "tuple_iterator", data := .fields #[.ref l, .int 0 0] }).push { cls := .type "enumerate", data := .fields #[.none, .bool false, .ref s.heap.objs.size, rawInt 0, .none, .none] } }) :=
  .of_wp fun prog w A R s h => by
    obtain ⟨hp, g, d, tk, os⟩ := s
    obtain ⟨hl, q, h⟩ := h
    have sub := sub_enumerate
    have hL : Heap.IsTuple (Shared.heap ⟨hp, g, d, tk, os⟩) l xs := q
    wp_walk using AutoSeq1.wpAny_loadPart' hl
    refine wpAny_stack_any fun st => wpAny_pure ?_
    split
    · rename_i c _ _ _ _ _
      cases (c == Value.type "enumerate")
      · wp_walk using AutoSeq1.wpAny_loadPart' hl, PySem.wpAny_pyIter_tuple hL
        exact ⟨_, rfl, h⟩
      · wp_walk using AutoSeq1.wpAny_loadPart' hl, PySem.wpAny_pyIter_tuple hL
        exact ⟨_, rfl, h⟩
    · wp_walk using AutoSeq1.wpAny_loadPart' hl, PySem.wpAny_pyIter_tuple hL
      exact ⟨_, rfl, h⟩
end L2

namespace L2
open PySem PySem.Spec PyProof.Rows
theorem meets_enum_list (l : Addr) (xs : Array Value) (o : Obj) :
    Meets (Builtin.«enumerate.__new__» ⟨[.type "enumerate", .ref l], []⟩) (fun _ R s => s.heap.get? l = some o ∧ s.heap.IsList l xs ∧
      R (.ok (.ret (.ref (s.heap.push { cls := .type "list_iterator", data := .fields #[.ref l, .int 0 0] }).objs.size)))
        { s with heap := (s.heap.push { cls := .type "list_iterator", data := .fields #[.ref l, .int 0 0] }).push { cls := .type "enumerate", data := .fields #[.none, .bool false, .ref s.heap.objs.size, rawInt 0, .none, .none] } }) :=
  .of_wp fun prog w A R s h => by
    obtain ⟨hp, g, d, tk, os⟩ := s
    obtain ⟨hl, q, h⟩ := h
    have sub := sub_enumerate
    have hL : Heap.IsList (Shared.heap ⟨hp, g, d, tk, os⟩) l xs := q
    wp_walk using AutoSeq1.wpAny_loadPart' hl
    refine wpAny_stack_any fun st => wpAny_pure ?_
    split
    · rename_i c _ _ _ _ _
      cases (c == Value.type "enumerate")
      · wp_walk using AutoSeq1.wpAny_loadPart' hl, wpAny_pyIter_list hL
        exact ⟨_, rfl, h⟩
      · wp_walk using AutoSeq1.wpAny_loadPart' hl, wpAny_pyIter_list hL
        exact ⟨_, rfl, h⟩
    · wp_walk using AutoSeq1.wpAny_loadPart' hl, wpAny_pyIter_list hL
      exact ⟨_, rfl, h⟩
section
variable {prog : Program} {w : World} {A : Around} {E : Value → Shared → Prop} {s : Shared}
theorem call_enum {b : Bool} {l : Addr} {xs : Array Value} {Q : Value → Shared → Prop} (q : SQ b s.heap l xs)
    (k : ∀ h', IsEnum h' (s.heap.objs.size + 1) s.heap.objs.size 0 .none → SI b h' s.heap.objs.size l 0 → h'.objs.size = s.heap.objs.size + 2 → (∀ c o, s.heap.get? c = some o → h'.get? c = some o) → Q (.ref (s.heap.objs.size + 1)) { s with heap := h' }) :
    wpAny (model prog w) A (call (.type "enumerate") [.ref l]) Q E s := by
  have key : ∀ (n : String) (h1 : Heap), h1 = s.heap.push { cls := .type n, data := .fields #[.ref l, .int 0 0] } → SI b h1 s.heap.objs.size l 0 →
      (∃ o', (h1.push { cls := .type "enumerate", data := .fields #[.none, .bool false, .ref s.heap.objs.size, rawInt 0, .none, .none] }).get? h1.objs.size = some o' ∧ o'.cls = .type "enumerate") ∧
      Q (.ref h1.objs.size) { s with heap := h1.push { cls := .type "enumerate", data := .fields #[.none, .bool false, .ref s.heap.objs.size, rawInt 0, .none, .none] } } := fun n h1 e u => by
    have z : h1.objs.size = s.heap.objs.size + 1 := by rw [e]; exact Heap.size_push ..
    have he := Heap.get?_push_size h1 (o := { cls := .type "enumerate", data := .fields #[.none, .bool false, .ref s.heap.objs.size, rawInt 0, .none, .none] }) rfl
    refine ⟨⟨_, he, rfl⟩, ?_⟩
    rw [z] at he ⊢
    exact k _ he (u.at fun o y => Heap.get?_push_of_some _ y) (by rw [Heap.size_push, z]) fun c o y => Heap.get?_push_of_some _ (by rw [e]; exact Heap.get?_push_of_some _ y)
  cases b
  · obtain ⟨o, e, _⟩ := (show s.heap.IsTuple l xs from q)
    exact callType_new F.called_enumerate (by decide) (F.typeCall_enumerate_1 _) (F.newCall_enumerate_1 _) (fun obj => F.args_object_init_2 obj _) F.entry_enumerate_new (meets_enum_tup l xs o) ⟨e, q, key "tuple_iterator" _ rfl ⟨_, Heap.get?_push_size _ rfl, rfl, rfl⟩⟩
  · obtain ⟨o, e, _⟩ := (show s.heap.IsList l xs from q)
    exact callType_new F.called_enumerate (by decide) (F.typeCall_enumerate_1 _) (F.newCall_enumerate_1 _) (fun obj => F.args_object_init_2 obj _) F.entry_enumerate_new (meets_enum_list l xs o) ⟨e, q, key "list_iterator" _ rfl ⟨_, Heap.get?_push_size _ rfl, rfl, rfl⟩⟩
end
/-- a list (true) or a tuple (false) of the heap or of the module's -/
def SqB (b : Bool) (K : PySem.W.Frag) (H : Hp) (a : Addr) (xs : List V) : Prop := if b = true then SqL K H a xs else SqT K H a xs
section
variable {X : Cx} {pins : List (Addr × Obj)} {σ : St} {H : Hp} {s : Shared}
theorem Inv.sq {b : Bool} {a : Addr} {xs : List V} (I : Inv X pins σ H s) (h : SqB b X.K H a xs) : ∃ its : List Value, Vals xs its ∧ SQ b s.heap a its.toArray ∧ xs.length ≤ sizeLine := by
  cases b
  · exact I.tuple h
  · obtain ⟨its, r, p, z⟩ := I.list h
    exact ⟨its, r, p.isList, z⟩
theorem Inv.sq_inj {b : Bool} {a : Addr} {xs ys : List V} (I : Inv X pins σ H s) (h : SqB b X.K H a xs) (h' : SqB b X.K H a ys) : xs = ys := by
  cases b
  · exact I.tuple_inj h h'
  · exact I.list_inj h h'
end
/-- the numbers from 0 on, each with a thing of the list or tuple -/
def Ite (b : Bool) (K : PySem.W.Frag) (a : Addr) : It :=
  ⟨fun i H => ∃ xs x, SqB b K H a xs ∧ xs[i]? = some x,
   fun i H v H' => ∃ p x, H p = none ∧ v = .ref p ∧ H' = upd H p (.tup [.int i, x]) ∧ ∀ xs, SqB b K H a xs → xs[i]? = some x,
   fun i H => ∃ xs, SqB b K H a xs ∧ xs.length ≤ i⟩
def eTn (b : Bool) (e it a : Addr) (i : Nat) (h : Heap) : Prop := (∃ old, IsEnum h e it i old) ∧ SI b h it a i
theorem turn_enum {P : Program} {w : World} {K : PySem.W.Frag} {b : Bool} {elts : List Expr} {kk} {pos : Pos} {a e it : Addr} (ne : e ≠ it) :
    Turn P w K (.Tuple elts kk pos) (Ite b K a) [it, e] e (eTn b e it a) where
  mem := by simp
  obj := fun i h st c hc => by
    obtain ⟨⟨old, he⟩, u⟩ := st
    simp only [List.mem_cons, List.not_mem_nil, or_false] at hc
    rcases hc with rfl | rfl
    · exact u.obj
    · exact ⟨_, he, fun v z => (nomatch z)⟩
  keep := fun i h h' st k => by
    obtain ⟨⟨old, he⟩, u⟩ := st
    exact ⟨⟨old, k _ (by simp) _ he⟩, u.at fun o y => k _ (by simp) o y⟩
  item := by
    intro X hP hw hK hc i pins s σ H E I hf st hg
    subst hP hw hK
    obtain ⟨xs, x, hq, hx⟩ := hg
    obtain ⟨⟨old, he⟩, u⟩ := st
    obtain ⟨its, rv, p, z⟩ := I.sq hq
    obtain ⟨v, hv, ru⟩ := rv.get hx
    refine enum_item he u p (x := v) (by simpa using hv) ne fun h' o1 u1 t1 z1 k1 => ?_
    refine ⟨_, rfl, wpAny_letOwnedTupleGo_enum (s := { s with heap := h', toks := s.toks + 1 }) o1 fun h'' e2 sb => ?_⟩
    have lte : @LT.lt Nat _ e s.heap.objs.size := Heap.lt_size he
    have lti : @LT.lt Nat _ it s.heap.objs.size := by obtain ⟨o, y, _⟩ := u.obj; exact Heap.lt_size y
    have up : ∀ c o, c ≠ e → h'.get? c = some o → h''.get? c = some o := fun c o hce y => (sb.2 c hce).trans y
    have kk : ∀ c o, c ∉ [it, e] → s.heap.get? c = some o → h''.get? c = some o := fun c o hc y => by
      simp only [List.mem_cons, List.not_mem_nil, or_false, not_or] at hc
      exact up c o hc.2 (k1 c o hc.2 hc.1 y)
    have st'' : eTn b e it a (i + 1) h'' := ⟨⟨_, by simpa using e2⟩, u1.at fun o y => up _ o (Ne.symm ne) y⟩
    have kt : ∀ c ∈ [it, e], ∃ o, h''.get? c = some o := fun c hc => by
      obtain ⟨⟨old', he'⟩, u'⟩ := st''
      simp only [List.mem_cons, List.not_mem_nil, or_false] at hc
      rcases hc with rfl | rfl
      · obtain ⟨o, y, _⟩ := u'.obj; exact ⟨o, y⟩
      · exact ⟨_, he'⟩
    have I1 : Inv X pins σ (upd H s.heap.objs.size (.tup [.int i, x])) { s with heap := h'', toks := s.toks + 1 } :=
      I.turnedT (t' := s.toks + 1) (its := [.int i s.toks, v]) hf kk kt (Nat.le_refl _) (by show 2 ≤ sizeLine; decide) (.cons ⟨_, rfl⟩ (.cons ru .nil)) ⟨_, up _ _ (Nat.ne_of_gt lte) t1, rfl, _, rfl⟩
    refine ⟨.ref s.heap.objs.size, _, I1, rfl, ⟨_, x, I.fresh, rfl, rfl, fun ys' h => by rw [I.sq_inj h hq]; exact hx⟩, st'', fun c hc => ?_⟩
    rw [upd_ne ?_]
    · exact (hf c hc).1
    · simp only [List.mem_cons, List.not_mem_nil, or_false] at hc
      rcases hc with rfl | rfl
      · exact Nat.ne_of_lt lti
      · exact Nat.ne_of_lt lte
  done := by
    intro X hP hw hK hc i pins s σ H E I hf st hg
    subst hP hw hK
    obtain ⟨xs, hq, hl⟩ := hg
    obtain ⟨⟨old, he⟩, u⟩ := st
    obtain ⟨its, rv, p, z⟩ := I.sq hq
    have e1 := rv.length
    refine enum_end (I.ok.hd hc) he u p (by simp; omega) fun h' k1 => ⟨rfl, I.turnedM (t' := s.toks) hf fun c o hc y => ?_⟩
    simp only [List.mem_cons, List.not_mem_nil, or_false, not_or] at hc
    exact k1 c o hc.1 y
  self := fun _ _ _ _ _ st h => by
    obtain ⟨⟨old, he⟩, u⟩ := st
    exact wpAny_pyIter_enum he h
def iEnum (b : Bool) (K : PySem.W.Frag) (ta : TA) : TI := fun σ H R => ta σ H fun vs H1 => ∃ a, vs = [.ref a] ∧ (∃ xs, SqB b K H1 a xs) ∧ R (Ite b K a) H1
theorem boot_enum : bootBuiltins "enumerate" = some (.type "enumerate") := by decide +kernel
theorem pi_enum {X : Cx} {b : Bool} {a : Expr} {ta : TA} {p pos tpos : Pos} {elts : List Expr} {kk} (hg : Gl X "enumerate") (hm : X.mg "enumerate" = none) (ha : PA X [a] ta) (hs : starEach [a] X.env = [(false, eval a X.env)] := by rfl) :
    PI X (.Tuple elts kk tpos) (.Call (.Name "enumerate" p) [a] [] pos) (iEnum b X.K ta) := by
  intro pins s σ H R I h
  refine Call_ (ld_blt I hg hm boot_enum (PyProof.Rows.callWith_type1 (thn (ha pos pins s σ H _ I h) fun us s1 ⟨vs, H1, I1, r1, q1⟩ => ?_) hs rfl))
  obtain ⟨l, e, ⟨xs, hq⟩, q⟩ := q1
  subst e
  cases r1 with
  | cons r rr =>
    cases rr
    cases r
    obtain ⟨its, rv, p1, z⟩ := I1.sq hq
    refine call_enum p1 fun h' he u sz k1 => ?_
    refine wpAny_pyIter_enum (s := { s1 with heap := h' }) he ?_
    refine ⟨s1.heap.objs.size + 1, [s1.heap.objs.size, s1.heap.objs.size + 1], eTn b _ _ l, Ite b X.K l, H1, rfl, I1.kept (t' := s1.toks) k1, turn_enum (Nat.succ_ne_self _), ⟨⟨_, he⟩, u⟩, fun c hc => ?_, q⟩
    have hle : s1.heap.objs.size ≤ c := by
      simp only [List.mem_cons, List.not_mem_nil, or_false] at hc
      rcases hc with rfl | rfl <;> omega
    exact I1.fpOk hle (I1.hok.fresh hle)
theorem qi_enum {X : Cx} {b : Bool} {a : Expr} {ta : TA} {p pos tpos : Pos} {elts : List Expr} {kk} (hg : Gl X "enumerate") (hm : X.mg "enumerate" = none) (ha : QA X [a] ta) (hs : starEach [a] X.env = [(false, eval a X.env)] := by rfl) :
    QI X (.Tuple elts kk tpos) (.Call (.Name "enumerate" p) [a] [] pos) (iEnum b X.K ta) := ⟨pi_enum hg hm ha.go hs⟩
theorem for_enum {K : PySem.W.Frag} {b : Bool} {a : Addr} {xs : List V} {g : TG} {tb : TS} {D : Ends} {σ : St} {H : Hp} (Pv : Nat → St → Hp → Prop) (h0 : Pv 0 σ H) (hl : ∀ i σ H, i ≤ xs.length → Pv i σ H → SqB b K H a xs)
    (hs : ∀ i x σ H p, xs[i]? = some x → Pv i σ H → H p = none → g (.ref p) σ (upd H p (.tup [.int i, x])) fun σ2 H2 => tb { D with nx := Pv (i + 1), ct := Pv (i + 1), bk := D.nx } σ2 H2) (hd : ∀ σ H, Pv xs.length σ H → D.nx σ H) :
    ∃ W : Nat → Nat → St → Hp → Prop, (∃ m, W 0 m σ H) ∧ ∀ i m σ H, W i m σ H →
      ((Ite b K a).stop i H ∧ D.nx σ H) ∨ ((Ite b K a).go i H ∧ ∃ N : St → Hp → Prop, (∀ σ' H', N σ' H' → ∃ m', m' < m ∧ W (i + 1) m' σ' H') ∧ ∀ x H', (Ite b K a).yld i H x H' → g x σ H' fun σ2 H2 => tb { D with nx := N, ct := N, bk := D.nx } σ2 H2) := by
  refine ⟨fun i m σ H => m = xs.length - i ∧ i ≤ xs.length ∧ Pv i σ H, ⟨xs.length, by simp, Nat.zero_le _, h0⟩, ?_⟩
  rintro i m σ H ⟨rfl, hi, p⟩
  have q := hl i σ H hi p
  by_cases hlt : i < xs.length
  · refine .inr ⟨⟨xs, xs[i], q, by simp [hlt]⟩, Pv (i + 1), fun σ' H' p' => ⟨xs.length - (i + 1), by omega, rfl, hlt, p'⟩, fun x H' y => ?_⟩
    obtain ⟨t, x', ht, rfl, rfl, e1⟩ := y
    exact hs i x' σ H t (e1 xs q) p ht
  · have : i = xs.length := by omega
    subst this
    exact .inl ⟨⟨xs, q, Nat.le_refl _⟩, hd σ H p⟩
end L2

namespace L2
open PySem PySem.Spec PyProof.Rows
/-! ### zip of two lists or tuples -/
section
variable {prog : Program} {w : World} {A : Around} {E : Value → Shared → Prop} {s : Shared}
end
end L2

namespace L2
open PySem PySem.Spec PyProof.Rows
section
variable {prog : Program} {w : World} {A : Around} {E : Value → Shared → Prop} {s : Shared}
end
end L2

namespace L2
open PySem PySem.Spec PyProof.Rows
/-! ### dict(x) -/
theorem mroD : mroOf (.type "dict") = pure [.type "dict", .type "object"] := by rw [mroOf_type]; kernel_rfl
theorem newD : typeLookup (.type "dict") "__new__" = pure (some (.builtin "dict.__new__")) := by rw [typeLookup_type, builtinLookup_eq_fast]; kernel_rfl
theorem calledD : TypeCalled "dict" "dict.__new__" "dict.__init__" :=
  ⟨by decide +kernel, by decide +kernel, ⟨_, _, mroD⟩, madeBy_type mroD newD (by decide +kernel), by decide +kernel, by rw [isSubtype_type]; kernel_rfl, PySem.F.slot_dict_init⟩
theorem typeCallD (a : Value) : checkTypeCall "dict" ⟨[a], []⟩ = pure () := by kernel_rfl
theorem newCallD (a : Value) : checkBuiltinCall "dict.__new__" ⟨[.type "dict", a], []⟩ = pure () := by kernel_rfl
theorem entryD : entryFor table "dict.__new__" = some Builtin.«dict.__new__» := entryFor_of_tree (by kernel_rfl)
theorem subD : isSubtype (.type "dict") (.type "dict") = pure true := by rw [isSubtype_type]; kernel_rfl
theorem meets_newD (a : Value) : Meets (Builtin.«dict.__new__» ⟨[.type "dict", a], []⟩) (fun _ R s => R (.ok (.ret (.ref s.heap.objs.size))) { s with heap := s.heap.push { cls := .type "dict", data := .dict #[] } }) :=
  .of_wp fun prog w A R s h => by
    obtain ⟨hp, g, d, tk, os⟩ := s
    have s1 := subD
    have s2 := mroD
    wp_walk
    exact ⟨_, rfl, h⟩
end L2

namespace L2
open PySem PySem.Spec PyProof.Rows
/-- a type's call: its __init__ may speak of the model -/
theorem callType_in {prog : Program} {w : World} {A : Around} {E : Value → Shared → Prop} {s : Shared} {T newId initId : String} {Bn Bi : Builtin} {args : List Value} {S : PySem.Spec} {Q Q₁ : Value → Shared → Prop} (ft : TypeCalled T newId initId)
    (c1 : checkTypeCall T ⟨args, []⟩ = pure ()) (c2 : checkBuiltinCall newId ⟨.type T :: args, []⟩ = pure ()) (n1 : entryFor table newId = some Bn) (n2 : entryFor table initId = some Bi) (g : Meets (Bn ⟨.type T :: args, []⟩) S) (h : S A.in1 (wants Q₁ E) s)
    (nx : ∀ obj s₁, Q₁ obj s₁ → s₁.TypeIs obj T ∧ argsOk initId ⟨obj :: args, []⟩ ∧ ∃ Si, MeetsIn prog w (Bi ⟨obj :: args, []⟩) Si ∧ Si A.in1 (wants (fun r s₂ => r = .none ∧ Q obj s₂) E) s₁) :
    wpAny (model prog w) A (call (.type T) args) Q E s := by
  obtain ⟨c, tl, m1⟩ := ft.mro
  have m2 := ft.made
  have m3 := ft.sub
  refine wpAny_call (codeAny_of_tree (?_))
  show wpAny _ _ (callAny (.type T) ⟨args, []⟩) _ _ _
  refine wpAny_pure ⟨Code.quiet_builtin _ (by decide +kernel), codeAny_builtin F.entry_type_call (?_)⟩
  rw [Around.under_plain (weight_type_call_type T args []) (units_type_call_type T args [])]
  have m4 := ft.notType
  have m5 := ft.canCreate
  repeat (any_goals (first | assumption | wp_step))
  refine codeAny_mono (codeAny_call_builtin ft.plain n1 (wpAny_of_eq c2 (g prog w A.in1 _ s h))) fun r s1 y => ?_
  cases r with
  | error e => exact y
  | ok fl =>
    cases fl with
    | ret obj =>
      obtain ⟨hT, ok, Si, gi, z⟩ := nx _ _ y
      have m6 := ft.init.lookup
      have m7 := ft.init.bind obj
      repeat (any_goals (first | assumption | wp_step))
      refine codeAny_mono (codeAny_call_builtin ft.init.plain n2 (ft.init.check _ _ _ _ _ _ _ _ hT ok (gi A.in1 _ s1 z))) fun r2 s2 y2 => ?_
      cases r2 with
      | error e => exact y2
      | ok fl2 =>
        cases fl2 with
        | ret r =>
          obtain ⟨rfl, q⟩ := y2
          repeat (any_goals (first | assumption | wp_step))
        | _ => exact y2.elim
    | _ => exact y.elim
/-- dict(x): the empty dict, filled -/
theorem call_dict1 {prog : Program} {w : World} {A : Around} {E : Value → Shared → Prop} {s : Shared} {x : Value} {Q : Value → Shared → Prop} {Si : PySem.Spec} (g : MeetsIn prog w (Builtin.«dict.__init__» ⟨[.ref s.heap.objs.size, x], []⟩) Si)
    (h : Si A.in1 (wants (fun r s2 => r = .none ∧ Q (.ref s.heap.objs.size) s2) E) { s with heap := s.heap.push { cls := .type "dict", data := .dict #[] } }) : wpAny (model prog w) A (call (.type "dict") [x]) Q E s := by
  refine callType_in (Q₁ := fun obj s1 => obj = .ref s.heap.objs.size ∧ s1 = { s with heap := s.heap.push { cls := .type "dict", data := .dict #[] } }) calledD (typeCallD x) (newCallD x) entryD PySem.F.entry_dict_init (meets_newD x) ⟨rfl, rfl⟩ fun obj s1 y => ?_
  obtain ⟨rfl, rfl⟩ := y
  exact ⟨⟨_, Heap.get?_push_size _ rfl, rfl⟩, PySem.F.args_dict_init_2 _ _, Si, g, h⟩
/-- dict(d) -/
theorem meets_initD {prog : Program} {w : World} {κ : Type} [DecidableEq κ] (knd : KeyKind prog w κ) (d o : Addr) (ne : d ≠ o) (hS : (o == sysModules) = false) :
    MeetsIn prog w (Builtin.«dict.__init__» ⟨[.ref d, .ref o], []⟩) (fun _ R s => ∃ kvs more, s.heap.DictOf knd d kvs ∧ s.heap.DictOf knd o more ∧ kvs.length + more.length ≤ sizeLine ∧
      ∀ h', h'.DictOf knd d (merged kvs more) → Heap.SameBut d s.heap h' → R (.ok (.ret .none)) { s with heap := h' }) :=
  .of_wp fun A R s ⟨kvs, more, hd, ho, hz, k⟩ => by
    delta Builtin.«dict.__init__»
    refine wpAny_bind ?_
    delta Builtin.Dict.selfAndRest
    refine wpAny_bind (wpAny_notOrdered_dict hd.typeIs (?_))
    show wpAny _ _ (pure (d, [Value.ref o])) _ _ s
    refine wpAny_pure ?_
    show wpAny _ _ (Builtin.Dict.updateFrom "dict.__init__" d (.ref o) [] .none) _ _ s
    delta Builtin.Dict.updateFrom
    refine wpAny_bind (wpAny_typeOf ho.typeIs (?_))
    rw [if_neg (by decide)]
    refine wpAny_bind ?_
    delta Builtin.Dict.merge
    refine wpAny_bind ?_
    delta Builtin.Dict.readDirectly
    refine wpAny_bind (wpAny_isInstance ho.typeIs isSubtype_dict_dict (?_))
    simp only [Bool.not_true, if_false, Bool.false_eq_true]
    refine wpAny_bind (wpAny_specialOf ho.typeIs PySem.F.slot_dict_iter.lookup (wpAny_pure (?_)))
    simp only [if_true, beq_self_eq_true]
    refine wpAny_bind (wpAny_pure (wpAny_mergeDict (hsz := hz) ne hS hd ho fun h' hd' ho' hs' => ?_))
    show wpAny _ _ (Builtin.Dict.addKeywords d [] >>= fun _ => _) _ _ _
    exact wpAny_bind (wpAny_pure (wpAny_pure ⟨.none, rfl, k h' hd' hs'⟩))
end L2

namespace L2
open PySem PySem.Spec PyProof.Rows
/-! ### a zip whose last tuple is still there -/
section
variable {prog : Program} {w : World} {A : Around} {E : Value → Shared → Prop} {s : Shared}
end
/-! ### dict(zip(a, b)) -/
end L2

namespace L2
open PySem PySem.Spec PyProof.Rows
section
variable {prog : Program} {w : World} {A : Around} {κ : Type} [DecidableEq κ] {knd : KeyKind prog w κ} {R : Result → Shared → Prop}
end
end L2

namespace L2
open PySem PySem.Spec PyProof.Rows
/-- dict(d), d a dict: a new one of the same pairs -/
theorem call_dictD {X : Cx} : CallR X (.type "dict") (fun xs H Q => ∃ (a : Addr) (kvs : List (Key × V)), xs = [.ref a] ∧ Rd H a (.dK kvs) ∧ ∀ d, H d = none → Q (.ref d) (upd H d (.dK kvs))) := by
  intro pins s σ H xs us Q I r h
  obtain ⟨a, kvs, rfl, ha, q⟩ := h
  obtain ⟨u, rfl, ru⟩ := vals1 r
  cases ru
  obtain ⟨z, hS, vs, rel, dd⟩ := dk_rd I.hok ha
  have lta : @LT.lt Nat _ a s.heap.objs.size := by obtain ⟨o, es, ep, e, _⟩ := id dd; exact Heap.lt_size e
  have big : (s.heap.objs.size == sysModules) = false := beq_eq_false_iff_ne.mpr (Ne.symm (Nat.ne_of_lt I.big))
  have ddp : (s.heap.push { cls := .type "dict", data := .dict #[] }).DictOf (mixKind X.prog X.w) a vs := by
    obtain ⟨o, es, ep, ho, r⟩ := dd
    exact ⟨o, es, ep, Heap.get?_push_of_some _ ho, r⟩
  have ndv : (vs.map (·.1)).Nodup := by
    obtain ⟨_, _, _, _, _, _, _, _, hn⟩ := ddp
    exact hn
  refine call_dict1 (meets_initD (mixKind X.prog X.w) s.heap.objs.size a (Nat.ne_of_gt lta) hS) ⟨[], vs, Heap.DictOf.new _, ddp, by have := rel.length; simp; omega, fun h' d' sb => ⟨rfl, ?_⟩⟩
  rw [merged_nil_of_nodup vs ndv] at d'
  refine ⟨.ref s.heap.objs.size, _, I.laid (a := s.heap.objs.size) (o := .dK kvs) (t' := s.toks) (fun b o e => ?_) (Nat.le_refl _) (dk_new z big rel d'), rfl, q _ (I.hok.fresh (Nat.le_refl _))⟩
  exact (sb.2 b (Nat.ne_of_lt (Heap.lt_size e))).trans (Heap.get?_push_of_some _ e)
end L2

namespace L2
open PySem PySem.Spec PyProof.Rows
/-! ### tables of the module: dicts of texts -/
section
variable {X : Cx} {x : Str} {a : Addr} {kvs : List (Str × V)} {i : Expr} {ty : TE} {p pos : Pos}
end
/-! ### a def of a family, called by a local name -/
/-! ### things: numbers, texts, tuples of things -/
/-! ### displays of things -/
section
variable {X : Cx}
end
end L2
namespace L2
open PySem PySem.Spec PyProof.Rows
section
variable {X : Cx} {i o : Expr} {ty td : TE} {pos : Pos}
end
/-! ### a comprehension over the signs of a text -/
end L2
namespace L2
open PySem PySem.Spec PyProof.Rows
section
variable {X : Cx} {i o value e : Expr} {ty td tv ta : TE} {pos pos' p : Pos} {f : Str}
theorem qe_dnewK : QE X (.Dict [] [] pos) tDNewK := ⟨pe_dnewK⟩
theorem qs_dput (hu : X.A.units + 1 < cLine) (ho : QE X o td) (hi : QE X i ty) (hv : QE X value tv) (hs : swapsWith value (some (.Subscript o i pos')) pos.line X.env = pure false) : QS X (.Assign [.Subscript o i pos'] value pos) (sDPut td ty tv) := ⟨ps_dput hu ho.go hi.go hv.go hs⟩
theorem qe_fld (he : QE X e ta) (hb : attributeBase e f X.env (eval e X.env) = eval e X.env) : QE X (.Attribute e f pos) (tFld X.K ta f) := ⟨pe_fld he.go hb⟩
theorem qs_fld (ha : QE X o ta) (hv : QE X value tv) (hs : swapsWith value (some (.Attribute o f pos')) pos.line X.env = pure false) : QS X (.Assign [.Attribute o f pos'] value pos) (sFld X.K ta tv f) := ⟨ps_fld ha.go hv.go hs⟩
theorem qe_make {CX : CXT} {k : Nat} {x : Str} {C g : Addr} {fd : FuncData} {ps : List Str} {sp : Sp} {dvs : List V} {ds : List Value} {E : XK} {es : List Expr} {t : TA} (M : Mk X.K C g) (F : FnOk X.prog X.w X.K X.mg X.base CX k g fd ps sp) (hr : Room (k + 1) X.A) (hg : Gl X x) (hm : X.mg x = some (.ref C)) (hb : Binds X.K fd ps ds) (hd : Vals dvs ds) (hx : Passes CX X E)
    (ha : QA X (e :: es) t) (hdb : (x == ("__debug__" : Str)) = false := by decide) (he : starEach (e :: es) X.env = (false, eval e X.env) :: starEach es X.env := by rfl) (hpl : (backTo pos (starEach es X.env)).any (·.1) = false := by rfl) : QE X (.Call (.Name x p) (e :: es) [] pos) (tMake C sp dvs E t) := ⟨pe_make M F hr hg hm hb hd hx ha.go hdb he hpl⟩
end
end L2
namespace L2
open PySem PySem.Spec PyProof.Rows
/-! ### the same, the defs told apart by a text -/
end L2

namespace L2
open PySem PySem.Spec PyProof.Rows
/-! ### methods, d.get(k, x) -/
theorem qe_meth {X : Cx} {C f : Addr} {m : Str} {CX : CXT} {k : Nat} {fd : FuncData} {ps : List Str} {sp : Sp} {ds : List Value} {dvs : List V} {E : XK} {o e : Expr} {es : List Expr} {ta : TE} {t : TA} {apos pos : Pos} {pl : Sem Bool} (he : QE X o ta) (c : Cls X.K C) (hm : Meth X.K C m f) (F : FnOk X.prog X.w X.K X.mg X.base CX k f fd ps sp) (hr : Room k X.A) (hb : Binds X.K fd ps ds) (hd : Vals dvs ds) (hx : Passes CX X E) (ha : QA X (e :: es) t)
    (hst : starEach (e :: es) X.env = (false, eval e X.env) :: starEach es X.env := by rfl) (hpl : (backTo pos (starEach es X.env)).any (·.1) = false := by rfl)
    (ht : eval (.Call (.Attribute o m apos) (e :: es) [] pos) X.env = (do
      let ov ← eval o X.env
      standAt apos.atName
      let (f, first) ← holding [ov] (getMethod ov m pl)
      callWith pos f first (backTo pos (starEach (e :: es) X.env)) (backToKw pos (keywordEach [] X.env))) := by rfl) :
    QE X (.Call (.Attribute o m apos) (e :: es) [] pos) (tMeth C m sp dvs E ta t) := ⟨pe_meth he.go c hm F hr hb hd hx ha.go hst hpl ht⟩
theorem qe_dget2 {X : Cx} {o e f : Expr} {apos cpos : Pos} {td ty tx : TE} (hu : X.A.units + 1 < cLine) (ho : QE X o td) (he : QE X e ty) (hf : QE X f tx) (m : M2 X o "get" apos e f cpos) : QE X (.Call (.Attribute o "get" apos) [e, f] [] cpos) (tDGet2 td ty tx) := ⟨pe_dget2 hu ho.go he.go hf.go m⟩
/-- e.f within a comprehension: the reading speaks of K alone -/
theorem qe_fldK {X : Cx} (K : PySem.W.Frag) {e : Expr} {f : Str} {pos : Pos} {ta : TE} (he : QE X e ta) (hb : attributeBase e f X.env (eval e X.env) = eval e X.env) (hK : X.K = K := by rfl) : QE X (.Attribute e f pos) (tFld K ta f) := by
  subst hK
  exact qe_fld he hb
/-! ### max of a list of ints -/
theorem call_maxL {X : Cx} (hc : X.calm = true) : CallR X (.builtin "max") (fun xs H Q => ∃ (a : Addr) (ns : List Int), xs = [.ref a] ∧ SqL X.K H a (ns.map V.int) ∧ 0 < ns.length ∧ ∀ M, M ∈ ns → (∀ n ∈ ns, n ≤ M) → Q (.int M) H) := by
  intro pins s σ H xs us Q I r h
  obtain ⟨a, ns, rfl, ha, hne, q⟩ := h
  obtain ⟨u, rfl, ru⟩ := vals1 r
  cases ru
  obtain ⟨its, rv, pl, _⟩ := I.list ha
  have hi : IntsAre its ns := ints_of_vals rv
  obtain ⟨ys, e⟩ := hi.allInts.items
  have hns : ns = ys.toList.map (·.1) := by
    rw [← hi.numsOf, ← nums_intItems, ← e]
  have hsz : 0 < ys.size := by
    have h3 := hne; rw [hns, List.length_map, Array.length_toList] at h3; exact h3
  have hl := pl.isList
  rw [e] at hl
  refine max_intList (I.ok.hd hc) hl hsz fun v h' tk hv hk => ?_
  obtain ⟨t, rfl⟩ := intItems_at hv
  obtain ⟨h1, h2⟩ := argBest_gt (numAt ys) (ys.size - 1)
  refine ⟨.int _, H, I.kept hk, ⟨t, rfl⟩, q _ ?_ fun b hb => ?_⟩
  · rw [hns, numAt_eq]; exact getD_mem (by rw [List.length_map, Array.length_toList]; omega)
  · rw [hns] at hb
    obtain ⟨j, hj, rfl⟩ := mem_getD hb
    rw [List.length_map, Array.length_toList] at hj
    rw [← numAt_eq]; exact h2 j (by omega)
/-! ### None or a pair of a text and an int, held against such a pair -/
theorem pair_reads {X : Cx} {pins : List (Addr × Obj)} {σ : St} {H : Hp} {s : Shared} {a : Addr} {z : Str} {i : Int} (I : Inv X pins σ H s) (h : SqT X.K H a [.str z, .int i]) : Reads s.heap (.ref a) (.tuple [.str z, .int i]) [] := by
  obtain ⟨its, r, ht, _⟩ := I.tuple h
  cases r with
  | cons r1 r2 =>
    cases r2 with
    | cons r3 r4 =>
      cases r4
      obtain ⟨t1, rfl⟩ := r1
      obtain ⟨t2, rfl⟩ := r3
      exact reads_newDataT ht (.cons (.str z t1) (.cons (.int i t2) .nil))
theorem pair_shaped {z : Str} {i : Int} (h : PyData.strOk z = true) : SeqAt.shaped (.tuple [.str z, .int i]) = true := by
  simp [SeqAt.shaped, PyData.canLay0, PyData.canLayAll0, PyData.depth, PyData.depthAll, h]
theorem pair_same (z z' : Str) (i j : Int) : PySem.Spec.same (.tuple [.str z, .int i]) (.tuple [.str z', .int j]) = decide (z = z' ∧ i = j) := by
  have e1 : (z == z') = decide (z = z') := rfl
  have e2 : (i == j) = decide (i = j) := rfl
  simp [PySem.Spec.same, PySem.Spec.sameAll, e1, e2]
def rEqP (K : PySem.W.Frag) : R2 := fun x y H Q => ∃ b z' j, y = .ref b ∧ SqT K H b [.str z', .int j] ∧ PyData.strOk z' = true ∧ ((x = .non ∧ Q (.bl false) H) ∨ ∃ a z i, x = .ref a ∧ SqT K H a [.str z, .int i] ∧ PyData.strOk z = true ∧ Q (.bl (decide (z = z' ∧ i = j))) H)
theorem op_eqP {X : Cx} (hu : X.A.units + 64 < cLine) : OpR X (compareOp .Eq) (rEqP X.K) := by
  intro pins s σ H x y v u Q I rx ry h
  obtain ⟨b, z', j, rfl, hb, o2, h⟩ := h
  cases ry
  rcases h with ⟨rfl, q⟩ | ⟨a, z, i, rfl, ha, o1, q⟩
  · cases rx
    refine eq_dataH .none (pair_reads I hb) rfl (pair_shaped o2) hu ?_
    exact ⟨.bl false, H, I, rfl, q⟩
  · cases rx
    refine eq_dataH_same (pair_reads I ha) (pair_reads I hb) (pair_shaped o1) (pair_shaped o2) hu (by simp [SeqAt.noMix, SeqAt.noMixAll]) ?_
    rw [pair_same]
    exact ⟨.bl _, H, I, rfl, q⟩
/-! ### two dicts alike, held against one another -/
theorem hits_same {A : Around} {s : Shared} {all : List (Key × V)} {us : List (Key × Value)} (r' : KV all us) : ∀ {kvs : List (Key × V)} {vs : List (Key × Value)}, KV kvs vs → (∀ p ∈ kvs, valV all p.1 = some p.2) → (∀ p ∈ kvs, ∃ i, p.2 = V.int i) → PySem.W.KeqHits A s us vs true := by
  intro kvs vs r
  unfold KV at r
  induction r with
  | nil => intro _ _; exact .nil
  | @cons p q ps qs h t ih =>
    intro sub nums
    have e1 := sub p (List.mem_cons_self ..)
    obtain ⟨i, e2⟩ := nums p (List.mem_cons_self ..)
    have ih' := ih (fun p hp => sub p (List.mem_cons_of_mem _ hp)) (fun p hp => nums p (List.mem_cons_of_mem _ hp))
    obtain ⟨k, v⟩ := p
    obtain ⟨k', u⟩ := q
    obtain ⟨h1, h2⟩ := h
    dsimp only at e1 e2 h1 h2
    subst e2
    subst h1
    obtain ⟨t1, rfl⟩ := h2
    have rv := r'.val k
    rw [e1] at rv
    cases hv : valueAt us k with
    | none => rw [hv] at rv; exact rv.elim
    | some y =>
      rw [hv] at rv
      obtain ⟨t2, rfl⟩ := (show RelV (.int i) y from rv)
      have := PySem.W.KeqHits.hit (A := A) (s := s) (r := qs) hv (SeqAt.EqAt.int_int i t1 i t2) ih'
      simpa using this
theorem op_neD {X : Cx} (hu : X.A.units < cLine) : OpR X (compareOp .NotEq) (fun x y H Q => ∃ (a b : Addr) (kvs : List (Key × V)), x = .ref a ∧ y = .ref b ∧ Rd H a (.dK kvs) ∧ Rd H b (.dK kvs) ∧ (∀ p ∈ kvs, valV kvs p.1 = some p.2) ∧ (∀ p ∈ kvs, ∃ i, p.2 = V.int i) ∧ Q (.bl false) H) := by
  intro pins s σ H x y v u Q I rx ry h
  obtain ⟨a, b, kvs, rfl, rfl, ha, hb, sub, nums, q⟩ := h
  cases rx
  cases ry
  obtain ⟨_, la, vs, r1, d1⟩ := dk_rd I.hok ha
  obtain ⟨_, lb, us, r2, d2⟩ := dk_rd I.hok hb
  refine PySem.W.keq_ne la lb d1 d2 hu (fun _ => hits_same r2 r1 sub nums) ?_
  rw [← r1.length, ← r2.length]
  simp only [beq_self_eq_true, Bool.and_self, Bool.not_true]
  exact ⟨.bl false, H, I, rfl, q⟩
end L2

namespace K68
open PySem PySem.Spec PyProof.Rows L2
def top (i : Nat) : Stmt := PySem.Challenge.pw_passpapers_k68_ticks.main.body.getD i (.Pass ⟨0, 0, 0, 0⟩)
abbrev sSlotPlace : Stmt := top 1
abbrev sPlacesRead : Stmt := top 2
abbrev sPlaceWritten : Stmt := top 3
abbrev sTicksOf : Stmt := top 6
abbrev sLawCell : Stmt := top 8
abbrev sLawDraws : Stmt := top 9
abbrev sLawTold : Stmt := top 10
abbrev sLawRow : Stmt := top 11
abbrev sLawRead : Stmt := top 12
abbrev sLawWritten : Stmt := top 13
abbrev sLawDue : Stmt := top 14
abbrev sLaw : Stmt := top 15
abbrev sClockInit : Stmt := inClass (top 5) 0
abbrev sClockDelayOf : Stmt := inClass (top 5) 1
abbrev sClockBeginning : Stmt := inClass (top 5) 2
abbrev sClockBegin : Stmt := inClass (top 5) 3
structure Txt0 (K : PySem.W.Frag) (mg : Str → Option Value) : Prop where
  n_len : mg "len" = none
  n_isinstance : mg "isinstance" = none
  n_int : mg "int" = none
  n_bool : mg "bool" = none
  n_list : mg "list" = none
  n_tuple : mg "tuple" = none
  n_dict : mg "dict" = none
  n_max : mg "max" = none
  n_min : mg "min" = none
  n_range : mg "range" = none
  n_enumerate : mg "enumerate" = none
/-! ### rows -/
structure RowD where
  op : Str
  told : V
  tgt : Option Int
  srcs : List Int
def tV : Option Int → V
  | none => .non
  | some i => .int i
def slotV : V → Int
  | .int s => s
  | _ => 0
def IsRow (H : Hp) (v : V) (r : RowD) : Prop := ∃ a b, v = .ref a ∧ H a = some (.tup [.str r.op, r.told, tV r.tgt, .ref b]) ∧ H b = some (.tup (r.srcs.map V.int))
theorem IsRow.mono {H H' : Hp} {v : V} {r : RowD} (h : IsRow H v r) (s : ∀ b xs, H b = some (.tup xs) → H' b = some (.tup xs)) : IsRow H' v r := by
  obtain ⟨a, b, e, h1, h2⟩ := h
  exact ⟨a, b, e, s _ _ h1, s _ _ h2⟩
structure RowOk (r : RowD) : Prop where
  ld : r.op = "load" ∨ r.op = "save" → ∃ s : Int, r.told = .int s ∧ 0 ≤ s
  tg : ∀ t, r.tgt = some t → 0 ≤ t
  sr : ∀ s ∈ r.srcs, 0 ≤ s
  ln : r.srcs.length ≤ 3
/-- the places that a row reads, that it writes: a register, or -1 - slot -/
def rd (r : RowD) : List Int := if r.op = "load" then [-1 - slotV r.told] else if r.op = "call" then r.srcs.map (fun s => -1 - s) else r.srcs
def wr (r : RowD) : Option Int := if r.op = "save" then some (-1 - slotV r.told) else r.tgt
theorem updN {H H1 : Hp} {d : Addr} {o : HO} (s : Same H H1) (h : H d = none) : Same H (upd H1 d o) := fun b u q => by rw [upd_ne (ne_of_none q h)]; exact s b u q
theorem take_snoc {α : Type} {l : List α} {i : Nat} {x : α} (h : l[i]? = some x) : l.take (i + 1) = l.take i ++ [x] := by
  rw [List.take_succ, h]; rfl
def spSlot : Sp := fun vs H Q _ => ∃ s : Int, vs = [.int s] ∧ Q (.int (-1 - s)) H
def spRead (K : PySem.W.Frag) : Sp := fun vs H Q _ => ∃ v r, vs = [v] ∧ IsRow H v r ∧ RowOk r ∧ ∀ l H', Same H H' → H l = none → H' l = some (.lst ((rd r).map V.int)) → Q (.ref l) H'
def spWrit : Sp := fun vs H Q _ => ∃ v r, vs = [v] ∧ IsRow H v r ∧ RowOk r ∧ Q (tV (wr r)) H
section
variable {P : Program} {w : World} {K : PySem.W.Frag} {mg : Str → Option Value} {base : Heap}
theorem sc_slot_place : FnScope ["slot"] ["slot"] (defScope sSlotPlace) := ⟨rfl, rfl, rfl, by decide +kernel, rfl, by decide +kernel, by decide +kernel⟩
theorem ok_slot_place {f : Addr} {fd : FuncData} (F : Fun K "slot_place" "slot_place" sSlotPlace f fd) (T : Txt0 K mg) : FnOk P w K mg base CX0 1 f fd ["slot"] spSlot := by
  refine F.okQ sc_slot_place (fun vs H Q E h => ?_) (fun cdv A outer s H vs Q E hr h => ?_)
  · obtain ⟨s, rfl, _⟩ := h
    rfl
  · obtain ⟨s, rfl, k⟩ := h
    have nd := sc_slot_place.nd
    refine ⟨_, (qss_one (qs_ret (qe_op op_sub (qe_un un_neg qe_int) (qv 0)))), ?_⟩
    exact ⟨_, rfl, _, rfl, _, _, rfl, rfl, k⟩
theorem sc_places_read : FnScope ["row", "op", "told", "target", "sources"] ["row"] (defScope sPlacesRead) := ⟨rfl, rfl, rfl, by decide +kernel, rfl, by decide +kernel, by decide +kernel⟩
set_option maxHeartbeats 4000000 in
theorem ok_places_read {f : Addr} {fd : FuncData} (F : Fun K "places_read" "places_read" sPlacesRead f fd) (T : Txt0 K mg) (F_slot_place : FnB P w K mg base 1 "slot_place" ["slot"] spSlot) : FnOk P w K mg base CX0 2 f fd ["row"] (spRead K) := by
  refine F.okQ sc_places_read (fun vs H Q E h => ?_) (fun cdv A outer s H vs Q E hr h => ?_)
  · obtain ⟨v, r, rfl, _⟩ := h
    rfl
  · obtain ⟨v, r, rfl, ⟨a, b, rfl, h1, h2⟩, ok, k⟩ := h
    have nd := sc_places_read.nd
    refine ⟨_, (qss_cons (qs_asg (qv 0) (qg_tup rfl (qgs_cons (qg_name (i := 1) nd rfl (Or.inl rfl)) (qgs_cons (qg_name (i := 2) nd rfl (Or.inl rfl)) (qgs_cons (qg_name (i := 3) nd rfl (Or.inl rfl)) (qgs_cons (qg_name (i := 4) nd rfl (Or.inl rfl)) qgs_nil))))))
      (qss_cons (qs_if (qt_cmpR op_eq (qv 1) qe_str (nomark _)) (qss_one (qs_ret (qe_lst (qa_cons (qe_fn F_slot_place (hr.mono (by first | decide | omega)) rfl (qa_cons (qv 2) qa_nil)) qa_nil)))) qss_nil)
      (qss_cons (qs_if (qt_cmpR op_eq (qv 1) qe_str (nomark _)) (qss_one (qs_ret (qe_comp (N' := ["slot"]) (n := 1) (Caps.nil rfl (by decide) (by decide) (by decide) rfl) rfl (qi_tup (qv 4)) (fun _ _ _ => ⟨(qg_name (i := 0) (show List.Nodup (["slot"] : List Str) from by decide +kernel) rfl (Or.inl rfl)), qts_nil, (qe_fn F_slot_place (hr.mono (by first | decide | omega)) rfl (qa_cons (qv 0) qa_nil))⟩)))) qss_nil)
      (qss_one (qs_ret (qe_callTy call_list_of rfl T.n_list boot_list (qa_cons (qv 4) qa_nil))))))), ?_⟩
    refine ⟨_, rfl, a, _, rfl, .inl (.inl h1), rfl, _, _, rfl, _, _, rfl, _, _, rfl, _, _, rfl, rfl, ?_⟩
    refine ⟨_, rfl, rfl, _, rfl, ite2 (fun h => ?_) (fun h => ?_)⟩
    · have e : r.op = "load" := V.str.inj (of_decide_eq_true h)
      obtain ⟨s0, e2, _⟩ := ok.ld (.inl e)
      have erd : rd r = [-1 - s0] := by unfold rd; rw [if_pos e, e2]; rfl
      refine ⟨_, rfl, s0, by rw [e2]; rfl, (by show 1 ≤ sizeLine; decide), fun p hp => k p _ ((Same.refl H).upd hp) hp (by rw [upd_same, erd]; rfl)⟩
    · have ne : ¬ r.op = "load" := fun q => h (decide_eq_true (congrArg V.str q))
      refine ⟨_, rfl, rfl, _, rfl, ite2 (fun h' => ?_) (fun h' => ?_)⟩
      · have e : r.op = "call" := V.str.inj (of_decide_eq_true h')
        have erd : rd r = r.srcs.map (fun s => -1 - s) := by unfold rd; rw [if_neg ne, if_pos e]
        refine ⟨_, rfl, b, rfl, ⟨_, .inl (.inl h2)⟩, fun D hD => ?_⟩
        have hz : (r.srcs.map V.int).length ≤ sizeLine := by rw [List.length_map]; exact Nat.le_trans ok.ln (by decide)
        refine comp_tup (xs := r.srcs.map V.int) (fun i ys σ H' => (∃ o, σ = [o]) ∧ Same H H' ∧ H' D = some (.lst ys) ∧ ys = ((r.srcs.take i).map (fun s => -1 - s)).map V.int) hz ⟨⟨_, rfl⟩, (Same.refl H).upd hD, upd_same, by simp⟩
          (fun i ys σ H' hi ⟨_, sm, hd, e⟩ => ⟨.inl (.inl (sm _ _ h2)), hd, by rw [e]; simp; omega⟩) ?_ ?_
        · rintro i x ys σ H' hx ⟨⟨o, rfl⟩, sm, hd, rfl⟩
          obtain ⟨s0, e0, rfl⟩ : ∃ s0, r.srcs[i]? = some s0 ∧ V.int s0 = x := by simpa using hx
          exact ⟨_, rfl, s0, rfl, hd, ⟨_, rfl⟩, (updN sm hD), upd_same, by rw [take_snoc e0]; simp⟩
        · rintro ys σ H' ⟨_, sm, hd, e1⟩
          exact k D H' sm hD (by rw [hd, e1, erd]; simp)
      · have ne' : ¬ r.op = "call" := fun q => h' (decide_eq_true (congrArg V.str q))
        have erd : rd r = r.srcs := by unfold rd; rw [if_neg ne, if_neg ne']
        exact ⟨_, rfl, b, _, rfl, .inr (.inl (.inl h2)), fun p hp => k p _ ((Same.refl H).upd hp) hp (by rw [upd_same, erd])⟩
theorem sc_place_written : FnScope ["row", "op", "told", "target", "sources"] ["row"] (defScope sPlaceWritten) := ⟨rfl, rfl, rfl, by decide +kernel, rfl, by decide +kernel, by decide +kernel⟩
set_option maxHeartbeats 4000000 in
theorem ok_place_written {f : Addr} {fd : FuncData} (F : Fun K "place_written" "place_written" sPlaceWritten f fd) (T : Txt0 K mg) (F_slot_place : FnB P w K mg base 1 "slot_place" ["slot"] spSlot) : FnOk P w K mg base CX0 2 f fd ["row"] spWrit := by
  refine F.okQ sc_place_written (fun vs H Q E h => ?_) (fun cdv A outer s H vs Q E hr h => ?_)
  · obtain ⟨v, r, rfl, _⟩ := h
    rfl
  · obtain ⟨v, r, rfl, ⟨a, b, rfl, h1, h2⟩, ok, k⟩ := h
    have nd := sc_place_written.nd
    refine ⟨_, (qss_cons (qs_asg (qv 0) (qg_tup rfl (qgs_cons (qg_name (i := 1) nd rfl (Or.inl rfl)) (qgs_cons (qg_name (i := 2) nd rfl (Or.inl rfl)) (qgs_cons (qg_name (i := 3) nd rfl (Or.inl rfl)) (qgs_cons (qg_name (i := 4) nd rfl (Or.inl rfl)) qgs_nil))))))
      (qss_one (qs_ret (qe_ifExp (qt_cmpR op_eq (qv 1) qe_str (nomark _)) (qe_fn F_slot_place (hr.mono (by first | decide | omega)) rfl (qa_cons (qv 2) qa_nil)) (qv 3))))), ?_⟩
    refine ⟨_, rfl, a, _, rfl, .inl (.inl h1), rfl, _, _, rfl, _, _, rfl, _, _, rfl, _, _, rfl, rfl, ?_⟩
    refine ⟨_, rfl, rfl, _, rfl, ite2 (fun h => ?_) (fun h => ?_)⟩
    · have e : r.op = "save" := V.str.inj (of_decide_eq_true h)
      obtain ⟨s0, e2, _⟩ := ok.ld (.inr e)
      have ewr : wr r = some (-1 - s0) := by unfold wr; rw [if_pos e, e2]; rfl
      refine ⟨_, rfl, s0, by rw [e2]; rfl, ?_⟩
      rw [ewr] at k
      exact k
    · have ne : ¬ r.op = "save" := fun q => h (decide_eq_true (congrArg V.str q))
      have ewr : wr r = r.tgt := by unfold wr; rw [if_neg ne]
      rw [ewr] at k
      exact ⟨_, rfl, k⟩
end
end K68

namespace K68
open PySem PySem.Spec PyProof.Rows L2
def mx2 (i j : Int) : Int := if j > i then j else i
def mxL (x : Int) (l : List Int) : Int := l.foldl mx2 x
theorem mx2_ge (i j : Int) : i ≤ mx2 i j ∧ j ≤ mx2 i j ∧ (mx2 i j = i ∨ mx2 i j = j) := by
  unfold mx2
  by_cases h : j > i
  · rw [if_pos h]; exact ⟨by omega, by omega, .inr rfl⟩
  · rw [if_neg h]; exact ⟨by omega, by omega, .inl rfl⟩
theorem mxL_is : ∀ (l : List Int) (x M : Int), M ∈ x :: l → (∀ n ∈ x :: l, n ≤ M) → M = mxL x l
  | [], x, M, hm, _ => by simpa [mxL] using hm
  | y :: l, x, M, hm, hl => by
    obtain ⟨g1, g2, g3⟩ := mx2_ge x y
    refine mxL_is l (mx2 x y) M ?_ (fun n hn => ?_)
    · rcases List.mem_cons.mp hm with rfl | hm
      · have hy := hl y (by simp)
        have : mx2 M y = M := by rcases g3 with g | g <;> omega
        rw [this]; simp
      · rcases List.mem_cons.mp hm with rfl | hm
        · have hx := hl x (by simp)
          have : mx2 x M = M := by rcases g3 with g | g <;> omega
          rw [this]; simp
        · exact List.mem_cons_of_mem _ hm
    · rcases List.mem_cons.mp hn with rfl | hn
      · rcases g3 with g | g
        · rw [g]; exact hl x (by simp)
        · rw [g]; exact hl y (by simp)
      · exact hl n (by simp [hn])
def dly (ds : List (Key × V)) (op : Str) : Int := match valV ds (Sum.inr op) with
  | some (.int i) => i
  | _ => 1
def getI (rdy : List (Key × V)) (p : Int) : Int := match valV rdy (Sum.inl p) with
  | some (.int i) => i
  | _ => 0
def NumD (ds : List (Key × V)) : Prop := ∀ k v, valV ds k = some v → ∃ i, v = .int i
theorem dly_get {ds : List (Key × V)} (h : NumD ds) (op : Str) : (valV ds (Sum.inr op)).getD (.int 1) = .int (dly ds op) := by
  unfold dly
  cases e : valV ds (Sum.inr op) with
  | none => rfl
  | some v =>
    obtain ⟨i, rfl⟩ := h _ _ e
    rfl
theorem getI_get {ds : List (Key × V)} (h : NumD ds) (p : Int) : (valV ds (Sum.inl p)).getD (.int 0) = .int (getI ds p) := by
  unfold getI
  cases e : valV ds (Sum.inl p) with
  | none => rfl
  | some v =>
    obtain ⟨i, rfl⟩ := h _ _ e
    rfl
theorem NumD.put {ds : List (Key × V)} (h : NumD ds) (k : Key) (i : Int) : NumD (putK ds k (.int i)) := by
  intro j v e
  rw [valV_put] at e
  by_cases q : j = k
  · rw [if_pos q] at e
    exact ⟨i, (Option.some.inj e).symm⟩
  · rw [if_neg q] at e
    exact h j v e
theorem putF_le (f : Str) (v : V) : ∀ fs : List (Str × V), (putF f v fs).length ≤ fs.length + 1
  | [] => by simp [putF]
  | (g, x) :: r => by
    unfold putF
    by_cases h : g = f
    · rw [if_pos h]; simp
    · rw [if_neg h]
      have := putF_le f v r
      simp only [List.length_cons]
      omega
theorem putF_lt {f : Str} {v : V} {fs : List (Str × V)} {n : Nat} (h : fs.length < n) (hn : n < 1000) : (putF f v fs).length < n + 1 := by
  have := putF_le f v fs
  omega
def fsOf (dd rr : Addr) (b m : Int) : List (Str × V) := [("delays", .ref dd), ("ready", .ref rr), ("begun", .int b), ("greatest", .int m)]
theorem fs_len (dd rr : Addr) (b m : Int) : (fsOf dd rr b m).length < 1000 := by show 4 < 1000; decide
theorem put_begun (dd rr : Addr) (b m b' : Int) : putF "begun" (.int b') (fsOf dd rr b m) = fsOf dd rr b' m := by rfl
theorem put_great (dd rr : Addr) (b m m' : Int) : putF "greatest" (.int m') (fsOf dd rr b m) = fsOf dd rr b m' := by rfl
structure Ck (C : Addr) (H : Hp) (o dd rr : Addr) (ds rdy : List (Key × V)) (b m : Int) : Prop where
  ob : ∃ dx, H o = some (.ins C dx (fsOf dd rr b m))
  dl : H dd = some (.dK ds)
  rd : H rr = some (.dK rdy)
  ne : rr ≠ dd
/-- the class Clock -/
structure TxC (K : PySem.W.Frag) (C fD fG fB : Addr) (dD dG dB : FuncData) : Prop where
  cl : Cls K C
  n1 : NoAttr K C "delays"
  n2 : NoAttr K C "ready"
  n3 : NoAttr K C "begun"
  n4 : NoAttr K C "greatest"
  m_delay_of : Meth K C "delay_of" fD
  m_beginning : Meth K C "beginning" fG
  m_begin : Meth K C "begin" fB
  b_delay_of : Binds K dD ["self", "row"] []
  b_beginning : Binds K dG ["self", "row"] []
  b_begin : Binds K dB ["self", "row"] []
def spInit (C : Addr) : Sp := fun vs H Q _ => ∃ x dx dd ds, vs = [.ref x, .ref dd] ∧ H x = some (.ins C dx []) ∧ H dd = some (.dK ds) ∧ ∀ rr H', H rr = none → (∀ b o, H b = some o → b ≠ x → H' b = some o) → Ck C H' x dd rr ds [] (-1) 0 → Q .non H'
def spDelay (C : Addr) : Sp := fun vs H Q _ => ∃ o v dd rr ds rdy b m r, vs = [.ref o, v] ∧ Ck C H o dd rr ds rdy b m ∧ NumD ds ∧ IsRow H v r ∧ Q (.int (dly ds r.op)) H
def bgn (rdy : List (Key × V)) (b : Int) (r : RowD) : Int := mxL (b + 1) ((rd r).map (getI rdy))
def spBeg (C : Addr) : Sp := fun vs H Q _ => ∃ o v dd rr ds rdy b m r, vs = [.ref o, v] ∧ Ck C H o dd rr ds rdy b m ∧ NumD rdy ∧ IsRow H v r ∧ RowOk r ∧ ∀ H', Same H H' → Q (.int (bgn rdy b r)) H'
def rdy1 (ds rdy : List (Key × V)) (b : Int) (r : RowD) : List (Key × V) := match wr r with
  | none => rdy
  | some p => putK rdy (Sum.inl p) (.int (bgn rdy b r + dly ds r.op))
def m1 (ds rdy : List (Key × V)) (b m : Int) (r : RowD) : Int := match wr r with
  | none => mx2 m (bgn rdy b r)
  | some _ => mx2 (mx2 m (bgn rdy b r)) (bgn rdy b r + dly ds r.op)
def spBegin (C : Addr) : Sp := fun vs H Q _ => ∃ o v dd rr ds rdy b m r, vs = [.ref o, v] ∧ Ck C H o dd rr ds rdy b m ∧ NumD ds ∧ NumD rdy ∧ rdy.length ≤ 1000 ∧ IsRow H v r ∧ RowOk r ∧
  ∀ H', (∀ c u, H c = some u → c ≠ o → c ≠ rr → H' c = some u) → Ck C H' o dd rr ds (rdy1 ds rdy b r) (bgn rdy b r) (m1 ds rdy b m r) → Q .non H'
section
variable {P : Program} {w : World} {K : PySem.W.Frag} {mg : Str → Option Value} {base : Heap} {C fD fG fB : Addr} {dD dG dB : FuncData}
theorem sc_Clock_init : FnScope ["self", "delays"] ["self", "delays"] (defScope sClockInit) := ⟨rfl, rfl, rfl, by decide +kernel, rfl, by decide +kernel, by decide +kernel⟩
set_option maxHeartbeats 4000000 in
theorem ok_Clock_init {f : Addr} {fd : FuncData} (F : Fun K "__init__" "Clock.__init__" sClockInit f fd) (TC : TxC K C fD fG fB dD dG dB) : FnOk P w K mg base CX0 1 f fd ["self", "delays"] (spInit C) := by
  refine F.okQ sc_Clock_init (fun vs H Q E h => ?_) (fun cdv A outer s H vs Q E hr h => ?_)
  · obtain ⟨x, dx, dd, ds, rfl, _⟩ := h
    rfl
  · obtain ⟨x, dx, dd, ds, rfl, hx, hd, k⟩ := h
    have nd := sc_Clock_init.nd
    have hdx : dd ≠ x := ne_of hd hx (by simp)
    refine ⟨_, (qss_cons (qs_fld (qv 0) (qv 1) rfl)
      (qss_cons (qs_fld (qv 0) qe_dnewK rfl)
      (qss_cons (qs_fld (qv 0) (qe_un un_neg qe_int) rfl)
      (qss_one (qs_fld (qv 0) qe_int rfl))))), ?_⟩
    refine ⟨_, rfl, _, rfl, x, C, dx, [], rfl, hx, TC.cl, TC.n1, by decide, ?_⟩
    intro rr hrr
    have hrx : rr ≠ x := fun z => by rw [z, upd_same] at hrr; cases hrr
    have hrn : H rr = none := by rw [upd_ne hrx] at hrr; exact hrr
    have hrd : rr ≠ dd := fun z => by rw [z, hd] at hrn; cases hrn
    refine ⟨_, rfl, x, C, dx, _, rfl, (by rw [upd_ne hrx.symm, upd_same]), TC.cl, TC.n2, Nat.lt_of_lt_of_le (putF_lt (n := 1) (by decide) (by decide)) (by decide), ?_⟩
    refine ⟨_, rfl, _, rfl, x, C, dx, _, rfl, upd_same, TC.cl, TC.n3, Nat.lt_of_lt_of_le (putF_lt (n := 2) (putF_lt (n := 1) (by decide) (by decide)) (by decide)) (by decide), ?_⟩
    refine ⟨_, rfl, x, C, dx, _, rfl, upd_same, TC.cl, TC.n4, Nat.lt_of_lt_of_le (putF_lt (n := 3) (putF_lt (n := 2) (putF_lt (n := 1) (by decide) (by decide)) (by decide)) (by decide)) (by decide), ?_⟩
    refine k rr _ hrn (fun b o e hb => ?_) ⟨⟨dx, upd_same⟩, ?_, ?_, hrd⟩
    · have hbr : b ≠ rr := fun z => by rw [z, hrn] at e; cases e
      rw [upd_ne hb, upd_ne hb, upd_ne hb, upd_ne hbr, upd_ne hb]; exact e
    · rw [upd_ne hdx, upd_ne hdx, upd_ne hdx, upd_ne hrd.symm, upd_ne hdx]; exact hd
    · rw [upd_ne hrx, upd_ne hrx, upd_ne hrx]; exact upd_same
theorem sc_Clock_delay_of : FnScope ["self", "row"] ["self", "row"] (defScope sClockDelayOf) := ⟨rfl, rfl, rfl, by decide +kernel, rfl, by decide +kernel, by decide +kernel⟩
theorem ok_Clock_delay_of {f : Addr} {fd : FuncData} (F : Fun K "delay_of" "Clock.delay_of" sClockDelayOf f fd) (TC : TxC K C fD fG fB dD dG dB) : FnOk P w K mg base CX0 1 f fd ["self", "row"] (spDelay C) := by
  refine F.okQ sc_Clock_delay_of (fun vs H Q E h => ?_) (fun cdv A outer s H vs Q E hr h => ?_)
  · obtain ⟨o, v, dd, rr, ds, rdy, b, m, r, rfl, _⟩ := h
    rfl
  · obtain ⟨o, v, dd, rr, ds, rdy, b, m, r, rfl, ⟨⟨dx, h1⟩, h2, h3, h4⟩, nd', ⟨ra, rb, rfl, hra, hrb⟩, k⟩ := h
    have nd := sc_Clock_delay_of.nd
    refine ⟨_, (qss_one (qs_ret (qe_dget2 (hu_of hr) (qe_fld (qv 0) rfl) (qe_ix ix_tup (qv 1) qe_int (fun _ _ => rfl)) qe_int ⟨rfl, rfl, rfl, rfl⟩))), ?_⟩
    refine ⟨_, rfl, o, C, dx, _, _, rfl, h1, TC.cl, TC.n1, rfl, dd, rfl, .inl ⟨ds, .inl h2⟩, _, rfl, ra, _, 0, _, rfl, rfl, .inl (.inl hra), rfl, _, DGet.k (k := Sum.inr r.op) h2, ?_⟩
    rw [dly_get nd']
    exact k
theorem sc_Clock_beginning : FnScope ["self", "row"] ["self", "row"] (defScope sClockBeginning) := ⟨rfl, rfl, rfl, by decide +kernel, rfl, by decide +kernel, by decide +kernel⟩
set_option maxHeartbeats 4000000 in
theorem ok_Clock_beginning {f : Addr} {fd : FuncData} (F : Fun K "beginning" "Clock.beginning" sClockBeginning f fd) (T : Txt0 K mg) (TC : TxC K C fD fG fB dD dG dB) (F_places_read : FnB P w K mg base 2 "places_read" ["row"] (spRead K)) : FnOk P w K mg base CX0 3 f fd ["self", "row"] (spBeg C) := by
  refine F.okQ sc_Clock_beginning (fun vs H Q E h => ?_) (fun cdv A outer s H vs Q E hr h => ?_)
  · obtain ⟨o, v, dd, rr, ds, rdy, b, m, r, rfl, _⟩ := h
    rfl
  · obtain ⟨o, v, dd, rr, ds, rdy, b, m, r, rfl, ck, nr, ir, ok, k⟩ := h
    have nd := sc_Clock_beginning.nd
    have ck0 := ck
    obtain ⟨⟨dx, h1⟩, h2, h3, h4⟩ := ck
    refine ⟨_, (qss_one (qs_ret (qe_callB (call_maxL rfl) rfl T.n_max boot_max (qa_cons (qe_op op_cat (qe_lst (qa_cons (qe_op op_add (qe_fld (qv 0) rfl) qe_int) qa_nil)) (qe_comp (N' := ["place", "self"]) (n := 1) (js := [0]) (Caps.of rfl rfl (by decide) (by decide) rfl (List.forall_mem_cons.mpr ⟨rfl, (List.forall_mem_nil _)⟩) ["self"] rfl (by decide +kernel) (List.forall_mem_cons.mpr ⟨⟨rfl, rfl, Or.inl rfl⟩, (List.forall_mem_nil _)⟩)) rfl (qi_list (qe_fn F_places_read (hr.mono (by first | decide | omega)) rfl (qa_cons (qv 1) qa_nil))) (fun _ _ _ => ⟨(qg_name (i := 0) (show List.Nodup (["place", "self"] : List Str) from by decide +kernel) rfl (Or.inl rfl)), qts_nil, (qe_dget2 (by exact hu_of hr) (qe_fldK K (qv 1) rfl) (qv 0) qe_int ⟨rfl, rfl, rfl, rfl⟩)⟩))) qa_nil)))), ?_⟩
    refine ⟨_, rfl, o, C, dx, _, _, rfl, h1, TC.cl, TC.n3, rfl, _, _, rfl, rfl, (by show 1 ≤ sizeLine; decide), fun p hp => ?_⟩
    have s1 := (Same.refl H).upd (o := .lst [V.int (b + 1)]) hp
    have g1 := upd_same (H := H) (a := p) (o := .lst [V.int (b + 1)])
    generalize upd H p (.lst [V.int (b + 1)]) = H1 at *
    refine ⟨_, rfl, v, r, rfl, ir.mono (fun _ _ z => s1 _ _ z), ok, fun l H2 s2 hl g2 => ?_⟩
    have hln : (rd r).length ≤ 3 := by
      unfold rd
      split
      · simp
      · split
        · rw [List.length_map]; exact ok.ln
        · exact ok.ln
    have hz : ((rd r).map V.int).length ≤ sizeLine := by rw [List.length_map]; exact Nat.le_trans hln (by decide)
    have s12 := s1.trans s2
    refine ⟨l, rfl, ⟨_, SqL.of g2⟩, fun D hD => ?_⟩
    refine comp_list (xs := (rd r).map V.int) (fun i ys σ H' => (∃ q, σ = [q, some (.ref o)]) ∧ Same H2 H' ∧ H' D = some (.lst ys) ∧ ys = (((rd r).take i).map (getI rdy)).map V.int) hz hD ⟨⟨_, rfl⟩, (Same.refl H2).upd hD, upd_same, by simp⟩
      (fun i ys σ H' hi ⟨_, sm, hd, e⟩ => ⟨sm.seq (SqL.of g2), hd, by rw [e]; simp; omega⟩) ?_ ?_
    · rintro i x ys σ H' hx ⟨⟨q, rfl⟩, sm, hd, rfl⟩
      obtain ⟨p0, e0, rfl⟩ : ∃ p0, (rd r)[i]? = some p0 ∧ V.int p0 = x := by simpa using hx
      have sH := s12.trans sm
      refine ⟨_, rfl, o, C, dx, _, _, rfl, sH _ _ h1, TC.cl, TC.n2, rfl, rr, rfl, .inl ⟨rdy, .inl (sH _ _ h3)⟩, _, rfl, _, DGet.k (k := Sum.inl p0) (sH _ _ h3), ?_⟩
      rw [getI_get nr]
      exact ⟨hd, ⟨_, rfl⟩, (updN sm hD), upd_same, by rw [take_snoc e0]; simp⟩
    · rintro ys σ H' ⟨_, sm, hd, e1⟩
      rw [List.take_of_length_le (by simp)] at e1
      refine ⟨p, D, _, _, rfl, rfl, sm _ _ (s2 _ _ g1), hd, ?_, fun p2 hp2 => ⟨p2, (b + 1) :: (rd r).map (getI rdy), rfl, ?_, by simp, fun M hM hle => ?_⟩⟩
      · rw [e1]
        simp
        exact Nat.le_trans (Nat.add_le_add_left hln 1) (by decide)
      · refine SqL.of ?_
        rw [upd_same, e1]
        rfl
      · rw [mxL_is _ _ _ hM hle]
        exact k _ ((s12.trans sm).upd hp2)
theorem sc_Clock_begin : FnScope ["self", "row", "place"] ["self", "row"] (defScope sClockBegin) := ⟨rfl, rfl, rfl, by decide +kernel, rfl, by decide +kernel, by decide +kernel⟩
set_option maxHeartbeats 4000000 in
theorem ok_Clock_begin {f : Addr} {fd : FuncData} (F : Fun K "begin" "Clock.begin" sClockBegin f fd) (T : Txt0 K mg) (TC : TxC K C fD fG fB dD dG dB) (F_place_written : FnB P w K mg base 2 "place_written" ["row"] spWrit) (FM_delay_of : FnOk P w K mg base CX0 1 fD dD ["self", "row"] (spDelay C)) (FM_beginning : FnOk P w K mg base CX0 3 fG dG ["self", "row"] (spBeg C)) : FnOk P w K mg base CX0 4 f fd ["self", "row"] (spBegin C) := by
  refine F.okQ sc_Clock_begin (fun vs H Q E h => ?_) (fun cdv A outer s H vs Q E hr h => ?_)
  · obtain ⟨o, v, dd, rr, ds, rdy, b, m, r, rfl, _⟩ := h
    rfl
  · obtain ⟨o, v, dd, rr, ds, rdy, b, m, r, rfl, ck, nds, nr, hlen, ir, ok, k⟩ := h
    have nd := sc_Clock_begin.nd
    have ck0 := ck
    obtain ⟨⟨dx, h1⟩, h2, h3, h4⟩ := ck
    refine ⟨_, (qss_cons (qs_fld (qv 0) (qe_meth (qv 0) TC.cl TC.m_beginning FM_beginning (hr.mono (by first | decide | omega)) TC.b_beginning .nil pass0 (qa_cons (qv 1) qa_nil)) rfl)
      (qss_cons (qs_fld (qv 0) (qe_callB (call_max2 rfl) rfl T.n_max boot_max (qa_cons (qe_fld (qv 0) rfl) (qa_cons (qe_fld (qv 0) rfl) qa_nil))) rfl)
      (qss_cons (qs_set (i := 2) nd rfl (Or.inl rfl) (qe_fn F_place_written (hr.mono (by first | decide | omega)) rfl (qa_cons (qv 1) qa_nil)))
      (qss_one (qs_if (qt_cmpR op_notN (qv 2) qe_non (nomark _)) (qss_cons (qs_dput (hu_of hr) (qe_fld (qv 0) rfl) (qv 2) (qe_op op_add (qe_fld (qv 0) rfl) (qe_meth (qv 0) TC.cl TC.m_delay_of FM_delay_of (hr.mono (by first | decide | omega)) TC.b_delay_of .nil pass0 (qa_cons (qv 1) qa_nil))) rfl)
      (qss_one (qs_fld (qv 0) (qe_callB (call_max2 rfl) rfl T.n_max boot_max (qa_cons (qe_fld (qv 0) rfl) (qa_cons (qe_dget (hu_of hr) (qe_fld (qv 0) rfl) (qv 2) (fun _ _ => rfl)) qa_nil))) rfl))) qss_nil))))), ?_⟩
    refine ⟨_, rfl, o, dx, _, rfl, h1, rfl, _, rfl, o, v, dd, rr, ds, rdy, b, m, r, rfl, ck0, nr, ir, ok, fun H1 s1 => ?_⟩
    have hob := s1 _ _ h1
    refine ⟨_, rfl, o, C, dx, _, rfl, hob, TC.cl, TC.n3, fs_len _ _ _ _, ?_⟩
    rw [put_begun]
    refine ⟨_, rfl, o, C, dx, _, _, rfl, upd_same, TC.cl, TC.n4, rfl, _, rfl, o, C, dx, _, _, rfl, upd_same, TC.cl, TC.n3, rfl, m, bgn rdy b r, rfl, _, rfl, o, C, dx, _, rfl, upd_same, TC.cl, TC.n4, fs_len _ _ _ _, ?_⟩
    rw [put_great, upd_upd]
    have ho2 := upd_same (H := H1) (a := o) (o := .ins C dx (fsOf dd rr (bgn rdy b r) (mx2 m (bgn rdy b r))))
    have kp2 : ∀ c u, H c = some u → c ≠ o → upd H1 o (.ins C dx (fsOf dd rr (bgn rdy b r) (mx2 m (bgn rdy b r)))) c = some u := fun c u e n => by rw [upd_ne n]; exact s1 _ _ e
    have nrr : rr ≠ o := ne_of h3 h1 (by simp)
    have ndd : dd ≠ o := ne_of h2 h1 (by simp)
    change tSeq _ _ _ _ (upd H1 o (.ins C dx (fsOf dd rr (bgn rdy b r) (mx2 m (bgn rdy b r))))) 
    generalize upd H1 o (.ins C dx (fsOf dd rr (bgn rdy b r) (mx2 m (bgn rdy b r)))) = H2 at *
    have ir2 : IsRow H2 v r := ir.mono fun c xs e => kp2 _ _ e (ne_of e h1 (by simp))
    have hd2 := kp2 _ _ h2 ndd
    have hr2 := kp2 _ _ h3 nrr
    have ck2 : Ck C H2 o dd rr ds rdy (bgn rdy b r) (mx2 m (bgn rdy b r)) := ⟨⟨dx, ho2⟩, hd2, hr2, h4⟩
    refine ⟨_, rfl, v, r, rfl, ir2, ok, ?_⟩
    cases hw : wr r with
    | none =>
      refine ⟨_, rfl, rfl, _, rfl, iteF ?_⟩
      refine k H2 (fun c u e n1 n2 => kp2 c u e n1) ?_
      unfold rdy1 m1
      rw [hw]
      exact ck2
    | some p =>
      refine ⟨_, rfl, rfl, _, rfl, iteT ?_⟩
      refine ⟨_, rfl, o, C, dx, _, _, rfl, ho2, TC.cl, TC.n3, rfl, _, rfl, o, dx, _, rfl, ho2, rfl, _, rfl, o, v, dd, rr, ds, rdy, _, _, r, rfl, ck2, nds, ir2, _, _, rfl, rfl, _, rfl, o, C, dx, _, _, rfl, ho2, TC.cl, TC.n2, rfl, _, rfl, rr, _, rfl, DPut.k (k := Sum.inl p) hr2 (Nat.lt_of_le_of_lt hlen (by decide)), ?_⟩
      have ho3 : upd H2 rr (.dK (putK rdy (Sum.inl p) (.int (bgn rdy b r + dly ds r.op)))) o = some (.ins C dx (fsOf dd rr (bgn rdy b r) (mx2 m (bgn rdy b r)))) := by rw [upd_ne nrr.symm]; exact ho2
      have hr3 := upd_same (H := H2) (a := rr) (o := .dK (putK rdy (Sum.inl p) (.int (bgn rdy b r + dly ds r.op))))
      have hd3 : upd H2 rr (.dK (putK rdy (Sum.inl p) (.int (bgn rdy b r + dly ds r.op)))) dd = some (.dK ds) := by rw [upd_ne h4.symm]; exact hd2
      have kp3 : ∀ c u, H c = some u → c ≠ o → c ≠ rr → upd H2 rr (.dK (putK rdy (Sum.inl p) (.int (bgn rdy b r + dly ds r.op)))) c = some u := fun c u e n1 n2 => by rw [upd_ne n2]; exact kp2 c u e n1
      generalize upd H2 rr (.dK (putK rdy (Sum.inl p) (.int (bgn rdy b r + dly ds r.op)))) = H3 at *
      have hv : valV (putK rdy (Sum.inl p) (.int (bgn rdy b r + dly ds r.op))) (Sum.inl p : Key) = some (.int (bgn rdy b r + dly ds r.op)) := by rw [valV_put, if_pos rfl]
      have hg := DGet.k (k := Sum.inl p) hr3
      rw [hv] at hg
      refine ⟨_, rfl, o, C, dx, _, _, rfl, ho3, TC.cl, TC.n4, rfl, _, rfl, o, C, dx, _, _, rfl, ho3, TC.cl, TC.n2, rfl, _, rfl, rr, _, rfl, hg, _, _, rfl, _, rfl, o, C, dx, _, rfl, ho3, TC.cl, TC.n4, fs_len _ _ _ _, ?_⟩
      rw [put_great]
      refine k _ (fun c u e n1 n2 => by rw [upd_ne n1]; exact kp3 c u e n1 n2) ?_
      unfold rdy1 m1
      rw [hw]
      exact ⟨⟨dx, upd_same⟩, by rw [upd_ne ndd]; exact hd3, by rw [upd_ne nrr]; exact hr3, h4⟩
end
end K68

namespace K68
open PySem PySem.Spec PyProof.Rows L2
structure Sx where
  rdy : List (Key × V)
  b : Int
  m : Int
def sx0 : Sx := ⟨[], -1, 0⟩
def stepX (ds : List (Key × V)) (s : Sx) (r : RowD) : Sx := ⟨rdy1 ds s.rdy s.b r, bgn s.rdy s.b r, m1 ds s.rdy s.b s.m r⟩
def runX (ds : List (Key × V)) (rows : List RowD) : Sx := rows.foldl (stepX ds) sx0
def ticks (ds : List (Key × V)) (rows : List RowD) : Int := (runX ds rows).m
def IsRows (H : Hp) (us : List V) (rows : List RowD) : Prop := us.length = rows.length ∧ ∀ (i : Nat) (v : V), us[i]? = some v → ∃ r, rows[i]? = some r ∧ IsRow H v r
theorem IsRows.mono {H H' : Hp} {us : List V} {rows : List RowD} (h : IsRows H us rows) (s : ∀ b xs, H b = some (.tup xs) → H' b = some (.tup xs)) : IsRows H' us rows :=
  ⟨h.1, fun i v e => by obtain ⟨r, e1, e2⟩ := h.2 i v e; exact ⟨r, e1, e2.mono s⟩⟩
theorem runX_snoc (ds : List (Key × V)) {rows : List RowD} {i : Nat} {r : RowD} (h : rows[i]? = some r) : runX ds (rows.take (i + 1)) = stepX ds (runX ds (rows.take i)) r := by
  rw [take_snoc h]
  unfold runX
  rw [List.foldl_append]
  rfl
theorem rdy1_num {ds rdy : List (Key × V)} {b : Int} {r : RowD} (h : NumD rdy) : NumD (rdy1 ds rdy b r) := by
  unfold rdy1
  cases wr r with
  | none => exact h
  | some p => exact h.put _ _
theorem rdy1_len {ds rdy : List (Key × V)} {b : Int} {r : RowD} : (rdy1 ds rdy b r).length ≤ rdy.length + 1 := by
  unfold rdy1
  cases wr r with
  | none => exact Nat.le_succ _
  | some p => exact length_putK _ _ _
theorem runX_num (ds : List (Key × V)) (rows : List RowD) : ∀ i, NumD (runX ds (rows.take i)).rdy ∧ (runX ds (rows.take i)).rdy.length ≤ i
  | 0 => ⟨fun k v e => by simp [runX, sx0, valV] at e, by simp [runX, sx0]⟩
  | i + 1 => by
    obtain ⟨h1, h2⟩ := runX_num ds rows i
    cases e : rows[i]? with
    | none =>
      have : rows.take (i + 1) = rows.take i := by rw [List.take_succ, e]; simp
      rw [this]
      exact ⟨h1, by omega⟩
    | some r =>
      rw [runX_snoc ds e]
      refine ⟨rdy1_num h1, ?_⟩
      have := rdy1_len (ds := ds) (rdy := (runX ds (rows.take i)).rdy) (b := (runX ds (rows.take i)).b) (r := r)
      show (rdy1 _ _ _ _).length ≤ i + 1
      omega
def spTicks : Sp := fun vs H Q _ => ∃ a dd us rows ds, vs = [.ref a, .ref dd] ∧ H a = some (.tup us) ∧ IsRows H us rows ∧ (∀ r ∈ rows, RowOk r) ∧ rows.length ≤ 100 ∧ H dd = some (.dK ds) ∧ NumD ds ∧ ∀ H', Same H H' → Q (.int (ticks ds rows)) H'
structure TxM (K : PySem.W.Frag) (mg : Str → Option Value) (C fI : Addr) (dI : FuncData) : Prop where
  g_Clock : mg "Clock" = some (.ref C)
  b_Clock : Binds K dI ["self", "delays"] []
  mak : Mk K C fI
section
variable {P : Program} {w : World} {K : PySem.W.Frag} {mg : Str → Option Value} {base : Heap} {C fI fD fG fB : Addr} {dI dD dG dB : FuncData}
theorem sc_ticks_of : FnScope ["rows", "delays", "clock", "row"] ["rows", "delays"] (defScope sTicksOf) := ⟨rfl, rfl, rfl, by decide +kernel, rfl, by decide +kernel, by decide +kernel⟩
set_option maxHeartbeats 4000000 in
theorem ok_ticks_of {f : Addr} {fd : FuncData} (F : Fun K "ticks_of" "ticks_of" sTicksOf f fd) (T : Txt0 K mg) (TC : TxC K C fD fG fB dD dG dB) (TM : TxM K mg C fI dI) (FI_Clock : FnOk P w K mg base CX0 1 fI dI ["self", "delays"] (spInit C)) (FM_begin : FnOk P w K mg base CX0 4 fB dB ["self", "row"] (spBegin C)) : FnOk P w K mg base CX0 5 f fd ["rows", "delays"] spTicks := by
  have MK_Clock := TM.mak
  refine F.okQ sc_ticks_of (fun vs H Q E h => ?_) (fun cdv A outer s H vs Q E hr h => ?_)
  · obtain ⟨a, dd, us, rows, ds, rfl, _⟩ := h
    rfl
  · obtain ⟨a, dd, us, rows, ds, rfl, ha, irs, oks, hlen, hd, nds, k⟩ := h
    have nd := sc_ticks_of.nd
    refine ⟨_, (qss_cons (qs_set (i := 2) nd rfl (Or.inl rfl) (qe_make MK_Clock FI_Clock (hr.mono (by first | decide | omega)) rfl TM.g_Clock TM.b_Clock .nil pass0 (qa_cons (qv 1) qa_nil)))
      (qss_cons (qs_for PassesOwn.never rfl (qi_tup (qv 0)) (qg_name (i := 3) nd rfl (Or.inl rfl)) (qss_one (qs_expr (qe_meth (qv 2) TC.cl TC.m_begin FM_begin (hr.mono (by first | decide | omega)) TC.b_begin .nil pass0 (qa_cons (qv 3) qa_nil)))))
      (qss_one (qs_ret (qe_fld (qv 2) rfl))))), ?_⟩
    refine ⟨_, rfl, fun x dx hx hdx ndx => ⟨x, dx, dd, ds, rfl, upd_same, ?_, fun rr H1 hrr kp ck => ⟨rfl, ?_⟩⟩⟩
    · rw [upd_ne (ne_of_none hd hx), upd_ne (ne_of_none hd hdx)]; exact hd
    have hrx : rr ≠ x := fun z => by rw [z, upd_same] at hrr; cases hrr
    have hrdx : rr ≠ dx := fun z => by rw [upd_ne hrx, z, upd_same] at hrr; cases hrr
    have hrn : H rr = none := by rw [upd_ne hrx, upd_ne hrdx] at hrr; exact hrr
    have s1 : Same H H1 := fun c u e => kp c u (by rw [upd_ne (ne_of_none e hx), upd_ne (ne_of_none e hdx)]; exact e) (ne_of_none e hx)
    refine ⟨_, rfl, a, rfl, ⟨_, .inl (.inl (s1 _ _ ha))⟩, ?_⟩
    refine for_tup (xs := us) (fun i σ H' => (∃ o3, σ = [some (.ref a), some (.ref dd), some (.ref x), o3]) ∧ Same H H' ∧ Ck C H' x dd rr ds (runX ds (rows.take i)).rdy (runX ds (rows.take i)).b (runX ds (rows.take i)).m) ⟨⟨_, rfl⟩, s1, ck⟩ (fun i σ H' _ ⟨_, sm, _⟩ => .inl (.inl (sm _ _ ha))) ?_ ?_
    · rintro i v σ H' hv ⟨⟨o3, rfl⟩, sm, ck'⟩
      obtain ⟨r, er, ir⟩ := irs.2 i v hv
      obtain ⟨n1, n2⟩ := runX_num ds rows i
      have hi : i < rows.length := by rw [← irs.1]; exact (List.getElem?_eq_some_iff.mp hv).1
      obtain ⟨dx', hob⟩ := ck'.ob
      refine ⟨_, rfl, x, dx', _, rfl, hob, rfl, _, rfl, x, v, dd, rr, ds, _, _, _, r, rfl, ck', nds, n1, by omega, ir.mono (fun _ _ z => sm _ _ z), oks r (List.mem_of_getElem? er), fun H2 kp2 ck2 => ?_⟩
      refine ⟨⟨_, rfl⟩, fun c u e => kp2 c u (sm _ _ e) (ne_of_none e hx) (ne_of_none e hrn), ?_⟩
      rw [runX_snoc ds er]
      exact ck2
    · rintro σ H' ⟨⟨o3, rfl⟩, sm, ck'⟩
      obtain ⟨dx', hob⟩ := ck'.ob
      have e : rows.take us.length = rows := List.take_of_length_le (by rw [irs.1]; exact Nat.le_refl _)
      rw [e] at hob
      exact ⟨_, rfl, x, C, dx', _, _, rfl, hob, TC.cl, TC.n4, rfl, k H' sm⟩
end
end K68

namespace K68
open PySem PySem.Spec PyProof.Rows L2
def spCell (K : PySem.W.Frag) : Sp := fun vs H Q _ => ∃ (a : Addr) (ns : List Int) (k : Int), vs = [.ref a, .int k] ∧ SqL K H a (ns.map V.int) ∧ 0 ≤ k ∧ k < 1000000 ∧ ∀ c : Int, Q (.int c) H
def spDraws (K : PySem.W.Frag) : Sp := fun vs H Q _ => ∃ (a : Addr) (ns : List Int) (at' many : Int), vs = [.ref a, .int at', .int many] ∧ SqL K H a (ns.map V.int) ∧ 0 ≤ at' ∧ at' ≤ 1000 ∧ 0 ≤ many ∧ many ≤ 1000 ∧
  ∀ (l : Addr) (zs : List Int) (H' : Hp), H l = none → Same H H' → H' l = some (.lst (zs.map V.int)) → zs.length = many.toNat → Q (.ref l) H'
theorem snoc_at {α : Type} {ys : List α} {y u : α} {j : Nat} (h : (ys ++ [y])[j]? = some u) : ys[j]? = some u ∨ (j = ys.length ∧ u = y) := by
  rcases Nat.lt_trichotomy j ys.length with q | q | q
  · rw [List.getElem?_append_left q] at h; exact .inl h
  · subst q; rw [List.getElem?_append_right (Nat.le_refl _)] at h; simp at h; exact .inr ⟨rfl, h.symm⟩
  · rw [List.getElem?_append_right (by omega), List.getElem?_eq_none (by simp; omega)] at h; cases h
theorem pickV (vs : List V) (c : Int) (n : Int) (hn : n = vs.length) (h : 0 < vs.length) : ∃ v, atI vs (c % n) = some v ∧ v ∈ vs := by
  subst hn
  have h0 : 0 ≤ c % (vs.length : Int) := Int.emod_nonneg _ (by omega)
  have h1 : c % (vs.length : Int) < vs.length := Int.emod_lt_of_pos _ (by omega)
  obtain ⟨j, hj⟩ := Int.eq_ofNat_of_zero_le h0
  have lt : j < vs.length := by omega
  refine ⟨vs[j], ?_, List.getElem_mem lt⟩
  rw [hj]
  exact atI_nat (List.getElem?_eq_getElem lt)
def spTold : Sp := fun vs H Q _ => ∃ (x : Str) (d : Int), vs = [.str x, .int d] ∧ ∀ v H', Same H H' → Q v H'
/-- a place as the law writes it -/
def plV (p : Int) : Str × Int := if 0 ≤ p then ("few", p) else ("slot", -1 - p)
def IsPl (H : Hp) (v : V) (p : Int) : Prop := ∃ a, v = .ref a ∧ H a = some (.tup [.str (plV p).1, .int (plV p).2])
theorem IsPl.mono {H H' : Hp} {v : V} {p : Int} (h : IsPl H v p) (s : ∀ b xs, H b = some (.tup xs) → H' b = some (.tup xs)) : IsPl H' v p := by
  obtain ⟨a, e, h⟩ := h
  exact ⟨a, e, s _ _ h⟩
theorem plV_few {p : Int} (h : 0 ≤ p) : plV p = (Str.ofString "few", p) := if_pos h
theorem plV_slot {s : Int} (h : 0 ≤ s) : plV (-1 - s) = (Str.ofString "slot", s) := by
  unfold plV
  rw [if_neg (by omega)]
  exact Prod.ext rfl (by show -1 - (-1 - s) = s; omega)
theorem plV_inj {p q : Int} (h : (plV p).1 = (plV q).1 ∧ (plV p).2 = (plV q).2) : p = q := by
  unfold plV at h
  by_cases hp : 0 ≤ p <;> by_cases hq : 0 ≤ q
  · rw [if_pos hp, if_pos hq] at h; exact h.2
  · rw [if_pos hp, if_neg hq] at h; exact absurd h.1 (show ¬ ("few" : Str) = "slot" by decide)
  · rw [if_neg hp, if_pos hq] at h; exact absurd h.1 (show ¬ ("slot" : Str) = "few" by decide)
  · rw [if_neg hp, if_neg hq] at h; have := h.2; dsimp only at this; omega
theorem plV_ok (p : Int) : PyData.strOk (plV p).1 = true := by
  unfold plV
  split
  · show PyData.strOk "few" = true; decide +kernel
  · show PyData.strOk "slot" = true; decide +kernel
def spRd (K : PySem.W.Frag) : Sp := fun vs H Q _ => ∃ v r, vs = [v] ∧ IsRow H v r ∧ RowOk r ∧ ∀ l us H', Same H H' → H l = none → H' l = some (.lst us) → us.length = (rd r).length → (∀ (i : Nat) (u : V), us[i]? = some u → ∃ p, (rd r)[i]? = some p ∧ IsPl H' u p) → Q (.ref l) H'
def spWr : Sp := fun vs H Q _ => ∃ v r, vs = [v] ∧ IsRow H v r ∧ RowOk r ∧ (wr r = none → Q .non H) ∧ ∀ p, wr r = some p → ∀ u H', Same H H' → IsPl H' u p → Q u H'
section
variable {P : Program} {w : World} {K : PySem.W.Frag} {mg : Str → Option Value} {base : Heap}
theorem sc__law_cell : FnScope ["_law_script", "_law_k", "_law_spare"] ["_law_script", "_law_k"] (defScope sLawCell) := ⟨rfl, rfl, rfl, by decide +kernel, rfl, by decide +kernel, by decide +kernel⟩
theorem ok_law_cell {f : Addr} {fd : FuncData} (F : Fun K "_law_cell" "_law_cell" sLawCell f fd) (T : Txt0 K mg) : FnOk P w K mg base CX0 1 f fd ["_law_script", "_law_k"] (spCell K) := by
  refine F.okQ sc__law_cell (fun vs H Q E h => ?_) (fun cdv A outer s H vs Q E hr h => ?_)
  · obtain ⟨a, ns, k, rfl, _⟩ := h
    rfl
  · obtain ⟨a, ns, k, rfl, hS, h0, h1, kq⟩ := h
    have nd := sc__law_cell.nd
    refine ⟨_, (qss_cons (qs_if (qt_cmpR op_lt (qv 1) (qe_callB call_len_seq rfl T.n_len PySem.boot_len (qa_cons (qv 0) qa_nil)) (nomark _)) (qss_one (qs_ret (qe_ix ix_list (qv 0) (qv 1) (fun _ _ => rfl)))) qss_nil)
      (qss_cons (qs_set (i := 2) nd rfl (Or.inl rfl) (qe_op op_add qe_int (qe_op op_mul (qe_op op_mul qe_int (qv 1)) (qv 1))))
      (qss_cons (qs_if (qt_cmpR op_gt (qe_callB call_len_seq rfl T.n_len PySem.boot_len (qa_cons (qv 0) qa_nil)) qe_int (nomark _)) (qss_one (qs_set (i := 2) nd rfl (Or.inl rfl) (qe_op op_add (qv 2) (qe_op op_mul (qe_op op_mod (qe_ix ix_list (qv 0) qe_int (fun _ _ => rfl)) qe_int) (qe_op op_add (qe_op op_mul qe_int (qv 1)) qe_int))))) qss_nil)
      (qss_one (qs_ret (qv 2)))))), ?_⟩
    refine ⟨_, rfl, _, rfl, a, _, rfl, .inl hS, _, _, rfl, rfl, _, rfl, ?_⟩
    refine ite2 (fun h => ?_) (fun h => ?_)
    · have hk := of_decide_eq_true h
      rw [List.length_map] at hk
      obtain ⟨c, hc⟩ := atI_map h0 hk
      exact ⟨_, rfl, _, rfl, a, _, _, _, rfl, rfl, hS, hc, kq c⟩
    · refine ⟨_, rfl, _, _, rfl, rfl, .inl ⟨by decide, by decide⟩, _, rfl, _, _, rfl, rfl, .inr ⟨by omega, by omega⟩, _, _, rfl, rfl, ?_⟩
      refine ⟨_, rfl, a, _, rfl, .inl hS, _, _, rfl, rfl, _, rfl, ?_⟩
      refine ite2 (fun h => ?_) (fun h => ?_)
      · have hk := of_decide_eq_true h
        rw [List.length_map] at hk
        obtain ⟨c, hc⟩ := atI_map (Int.le_refl 0) hk
        exact ⟨_, rfl, _, rfl, a, _, _, _, rfl, rfl, hS, hc, _, _, rfl, rfl, (by show (0 : Int) < 99991; decide), _, rfl, _, _, rfl, rfl, .inl ⟨by decide, by decide⟩, _, _, rfl, rfl, _, _, rfl, rfl, .inl ⟨by omega, by omega⟩, _, _, rfl, rfl, _, rfl, kq _⟩
      · exact ⟨_, rfl, kq _⟩
theorem sc__law_draws : FnScope ["_law_script", "_law_at", "_law_many", "_law_digits", "_law_left", "_law_k", "_law_mixed", "_law_draw"] ["_law_script", "_law_at", "_law_many"] (defScope sLawDraws) := ⟨rfl, rfl, rfl, by decide +kernel, rfl, by decide +kernel, by decide +kernel⟩
set_option maxHeartbeats 4000000 in
theorem ok_law_draws {f : Addr} {fd : FuncData} (F : Fun K "_law_draws" "_law_draws" sLawDraws f fd) (T : Txt0 K mg) (F__law_cell : FnB P w K mg base 1 "_law_cell" ["_law_script", "_law_k"] (spCell K)) : FnOk P w K mg base CX0 2 f fd ["_law_script", "_law_at", "_law_many"] (spDraws K) := by
  refine F.okQ sc__law_draws (fun vs H Q E h => ?_) (fun cdv A outer s H vs Q E hr h => ?_)
  · obtain ⟨a, ns, at', many, rfl, _⟩ := h
    rfl
  · obtain ⟨a, ns, at', many, rfl, hS, ha0, ha1, hm0, hm1, k⟩ := h
    have nd := sc__law_draws.nd
    have hsl : (2000000 : Nat) ≤ sizeLine := by rw [sizeLine_eq]; omega
    refine ⟨_, (qss_cons (qs_set (i := 3) nd rfl (Or.inl rfl) (qe_lst qa_nil))
      (qss_cons (qs_set (i := 4) nd rfl (Or.inl rfl) (qe_callB (call_max2 rfl) rfl T.n_max boot_max (qa_cons qe_int (qa_cons (qe_fn F__law_cell (hr.mono (by first | decide | omega)) rfl (qa_cons (qv 0) (qa_cons (qv 1) qa_nil))) qa_nil))))
      (qss_cons (qs_for PassesOwn.never rfl (qi_range1 rfl T.n_range (qa_cons (qv 2) qa_nil)) (qg_name (i := 5) nd rfl (Or.inl rfl)) (qss_cons (qs_expr (qe_bm PySem.F.plainAttrs_list PySem.F.slot_list_append PySem.F.type_list_append mt_append (qv 3) (qa_cons (qe_op op_mod (qv 4) qe_int) qa_nil)))
      (qss_one (qs_set (i := 4) nd rfl (Or.inl rfl) (qe_op op_fdiv (qv 4) qe_int)))))
      (qss_cons (qs_if (qt_cmpR op_gt (qv 4) qe_int (nomark _)) (qss_one (qs_ret (qv 3))) qss_nil)
      (qss_cons (qs_set (i := 6) nd rfl (Or.inl rfl) (qe_lst qa_nil))
      (qss_cons (qs_set (i := 7) nd rfl (Or.inl rfl) (qe_op op_mod (qe_op op_mul (qe_op op_mod (qe_fn F__law_cell (hr.mono (by first | decide | omega)) rfl (qa_cons (qv 0) (qa_cons (qv 1) qa_nil))) qe_int) qe_int) qe_int))
      (qss_cons (qs_for PassesOwn.never rfl (qi_range1 rfl T.n_range (qa_cons (qv 2) qa_nil)) (qg_name (i := 5) nd rfl (Or.inl rfl)) (qss_cons (qs_set (i := 7) nd rfl (Or.inl rfl) (qe_op op_mod (qe_op op_add (qe_op op_add (qe_op op_mul (qv 7) qe_int) (qe_fn F__law_cell (hr.mono (by first | decide | omega)) rfl (qa_cons (qv 0) (qa_cons (qe_op op_add (qe_op op_add (qv 1) qe_int) (qe_op op_mod (qv 5) qe_int)) qa_nil)))) (qe_op op_mul (qv 5) (qv 5))) qe_int))
      (qss_one (qs_expr (qe_bm PySem.F.plainAttrs_list PySem.F.slot_list_append PySem.F.type_list_append mt_append (qv 6) (qa_cons (qe_op op_fdiv (qe_op op_mod (qe_op op_add (qe_op op_mul (qv 7) qe_int) (qe_op op_mul qe_int (qv 5))) qe_int) qe_int) qa_nil))))))
      (qss_one (qs_ret (qv 6)))))))))), ?_⟩
    refine ⟨(by show 0 ≤ sizeLine; omega), fun d hd => ?_⟩
    have s0 := (Same.refl H).upd (o := .lst []) hd
    refine ⟨_, rfl, _, rfl, a, ns, at', rfl, s0.seq hS, ha0, by omega, fun c => ⟨_, _, rfl, ?_⟩⟩
    refine ⟨_, rfl, many, rfl, by omega, by omega, for_range (n := many.toNat) (fun i σ H' => ∃ (left : Int) (o5 : Option V) (zs : List Int), σ = [some (.ref a), some (.int at'), some (.int many), some (.ref d), some (.int left), o5, none, none] ∧ H' d = some (.lst (zs.map V.int)) ∧ zs.length = i ∧ Same H H')
      ⟨_, _, [], rfl, upd_same, rfl, s0⟩ ?_ ?_⟩
    · rintro i σ H' hi ⟨left, o5, zs, rfl, hd', hz, sm⟩
      refine ⟨_, rfl, .inl ⟨rfl, _, SqL.of hd'⟩, _, rfl, _, _, rfl, rfl, (by show (0 : Int) < 100000; decide), d, _, _, rfl, rfl, hd', (by rw [List.length_map]; omega), ?_⟩
      exact ⟨_, rfl, _, _, rfl, rfl, ⟨by decide, by decide⟩, _, _, zs ++ [left % 100000], rfl, by rw [upd_same]; simp, by simp [hz], updN sm hd⟩
    · rintro σ H' ⟨left, o5, zs, rfl, hd', hz, sm⟩
      refine ⟨_, rfl, _, _, rfl, rfl, _, rfl, ite2 (fun h => ⟨_, rfl, k d zs H' hd sm hd' hz⟩) (fun h => ?_)⟩
      refine ⟨(by show 0 ≤ sizeLine; omega), fun m hm => ?_⟩
      have hm' : H m = none := sm.free hm
      have s1 := sm.upd (o := .lst []) hm
      refine ⟨_, rfl, _, rfl, a, ns, at', rfl, s1.seq hS, ha0, by omega, fun c2 => ⟨_, _, rfl, rfl, (by show (0 : Int) < 2147483647; decide), _, _, rfl, rfl, .inr ⟨by decide, by decide⟩, _, _, rfl, rfl, (by show (0 : Int) < 2147483647; decide), ?_⟩⟩
      refine ⟨_, rfl, many, rfl, by omega, by omega, for_range (n := many.toNat) (fun i σ H' => ∃ (left : Int) (o5 : Option V) (draw : Int) (zs : List Int), σ = [some (.ref a), some (.int at'), some (.int many), some (.ref d), some (.int left), o5, some (.ref m), some (.int draw)] ∧ H' m = some (.lst (zs.map V.int)) ∧ zs.length = i ∧ Same H H')
        ⟨_, _, _, [], rfl, upd_same, rfl, s1⟩ ?_ ?_⟩
      · rintro i σ H' hi ⟨left, o5, draw, zs, rfl, hd', hz, sm⟩
        refine ⟨_, rfl, _, _, rfl, rfl, .inr ⟨by decide, by decide⟩, _, rfl, _, rfl, _, _, rfl, rfl, _, rfl, _, _, rfl, rfl, (by show (0 : Int) < 30; decide), _, _, rfl, rfl, a, ns, _, rfl, sm.seq hS, by omega, by omega, fun c3 => ⟨_, _, rfl, rfl, _, rfl, _, rfl, _, _, rfl, rfl, .inl ⟨by omega, by omega⟩, _, _, rfl, rfl, _, _, rfl, rfl, (by show (0 : Int) < 2147483629; decide), ?_⟩⟩
        refine ⟨_, rfl, .inl ⟨rfl, _, SqL.of hd'⟩, _, rfl, _, _, rfl, rfl, .inr ⟨by decide, by decide⟩, _, rfl, _, _, rfl, rfl, .inl ⟨by decide, by decide⟩, _, _, rfl, rfl, _, _, rfl, rfl, (by show (0 : Int) < 2147483647; decide), _, _, rfl, rfl, ⟨by decide, by decide⟩, m, _, _, rfl, rfl, hd', (by rw [List.length_map]; omega), ?_⟩
        exact ⟨_, _, _, zs ++ [_], rfl, (by rw [upd_same, List.map_append]; rfl), by simp [hz], updN sm hm'⟩
      · rintro σ H' ⟨left, o5, draw, zs, rfl, hd', hz, sm⟩
        exact ⟨_, rfl, k m zs H' hm' sm hd' hz⟩
theorem sc__law_told : FnScope ["_law_op", "_law_draw"] ["_law_op", "_law_draw"] (defScope sLawTold) := ⟨rfl, rfl, rfl, by decide +kernel, rfl, by decide +kernel, by decide +kernel⟩
set_option maxHeartbeats 4000000 in
theorem ok_law_told {f : Addr} {fd : FuncData} (F : Fun K "_law_told" "_law_told" sLawTold f fd) (T : Txt0 K mg) : FnOk P w K mg base CX0 1 f fd ["_law_op", "_law_draw"] spTold := by
  refine F.okQ sc__law_told (fun vs H Q E h => ?_) (fun cdv A outer s H vs Q E hr h => ?_)
  · obtain ⟨x, d, rfl, _⟩ := h
    rfl
  · obtain ⟨x, d, rfl, k⟩ := h
    have nd := sc__law_told.nd
    refine ⟨_, (qss_cons (qs_if (qt_cmpR op_eq (qv 0) qe_str (nomark _)) (qss_one (qs_ret (qe_ix ix_list (qe_lst (qa_cons qe_int (qa_cons qe_int (qa_cons qe_int (qa_cons qe_int (qa_cons (qe_un un_neg qe_int) (qa_cons qe_int (qa_cons qe_int (qa_cons (qe_un un_neg qe_int) (qa_cons qe_int (qa_cons (qe_op op_sub (qe_op op_mod (qv 1) qe_int) qe_int) qa_nil))))))))))) (qe_op op_mod (qe_op op_fdiv (qv 1) qe_int) qe_int) (fun _ _ => rfl)))) qss_nil)
      (qss_cons (qs_if (qt_cmpR op_eq (qv 0) qe_str (nomark _)) (qss_one (qs_ret (qe_op op_add qe_int (qe_op op_mod (qv 1) qe_int)))) qss_nil)
      (qss_cons (qs_if (qt_cmpR op_in_seq (qv 0) (qe_lst (qa_cons qe_str (qa_cons qe_str qa_nil))) (by with_unfolding_all rfl)) (qss_one (qs_ret (qe_op op_mod (qv 1) qe_int))) qss_nil)
      (qss_one (qs_ret qe_non))))), ?_⟩
    refine ⟨_, rfl, rfl, _, rfl, ite2 (fun h => ?_) (fun h => ?_)⟩
    · refine ⟨_, rfl, _, rfl, _, rfl, _, _, rfl, rfl, (show (0 : Int) < 65536 by decide), _, _, rfl, rfl, (by show 10 ≤ sizeLine; decide), fun p hp => ?_⟩
      obtain ⟨v, ev, _⟩ := pickV [.int 0, .int 1, .int 2, .int 3, .int (-1), .int 16, .int 17, .int (-32768), .int 32767, .int (d % 65536 - 32768)] (d / 16) 10 rfl (by show 0 < 10; decide)
      exact ⟨_, rfl, _, _, rfl, rfl, ⟨by decide, by decide⟩, _, _, rfl, rfl, (show (0 : Int) < 10 by decide), p, _, _, v, rfl, rfl, SqL.of upd_same, ev, k v _ ((Same.refl H).upd hp)⟩
    · refine ⟨_, rfl, rfl, _, rfl, ite2 (fun h => ?_) (fun h => ?_)⟩
      · exact ⟨_, rfl, _, _, rfl, rfl, (show (0 : Int) < 4 by decide), _, _, rfl, rfl, k _ _ (Same.refl H)⟩
      · refine ⟨_, rfl, (by show 2 ≤ sizeLine; decide), fun p hp => ⟨p, _, rfl, .inl (SqL.of upd_same), rfl, rfl, _, rfl, ite2 (fun h => ?_) (fun h => ?_)⟩⟩
        · exact ⟨_, rfl, _, _, rfl, rfl, (show (0 : Int) < 4 by decide), k _ _ ((Same.refl H).upd hp)⟩
        · exact k _ _ ((Same.refl H).upd hp)
theorem sc__law_read : FnScope ["_law_row_here"] ["_law_row_here"] (defScope sLawRead) := ⟨rfl, rfl, rfl, by decide +kernel, rfl, by decide +kernel, by decide +kernel⟩
set_option maxHeartbeats 4000000 in
theorem ok_law_read {f : Addr} {fd : FuncData} (F : Fun K "_law_read" "_law_read" sLawRead f fd) (T : Txt0 K mg) : FnOk P w K mg base CX0 1 f fd ["_law_row_here"] (spRd K) := by
  refine F.okQ sc__law_read (fun vs H Q E h => ?_) (fun cdv A outer s H vs Q E hr h => ?_)
  · obtain ⟨v, r, rfl, _⟩ := h
    rfl
  · obtain ⟨v, r, rfl, ⟨a, b, rfl, h1, h2⟩, ok, k⟩ := h
    have nd := sc__law_read.nd
    have hz : (r.srcs.map V.int).length ≤ sizeLine := by rw [List.length_map]; exact Nat.le_trans ok.ln (by decide)
    refine ⟨_, (qss_cons (qs_if (qt_cmpR op_eq (qe_ix ix_tup (qv 0) qe_int (fun _ _ => rfl)) qe_str (nomark _)) (qss_one (qs_ret (qe_comp (N' := ["_law_slot"]) (n := 1) (Caps.nil rfl (by decide) (by decide) (by decide) rfl) rfl (qi_tup (qe_ix ix_tup (qv 0) qe_int (fun _ _ => rfl))) (fun _ _ _ => ⟨(qg_name (i := 0) (show List.Nodup (["_law_slot"] : List Str) from by decide +kernel) rfl (Or.inl rfl)), qts_nil, (qe_tup (qa_cons qe_str (qa_cons (qv 0) qa_nil)))⟩)))) qss_nil)
      (qss_cons (qs_if (qt_cmpR op_eq (qe_ix ix_tup (qv 0) qe_int (fun _ _ => rfl)) qe_str (nomark _)) (qss_one (qs_ret (qe_lst (qa_cons (qe_tup (qa_cons qe_str (qa_cons (qe_ix ix_tup (qv 0) qe_int (fun _ _ => rfl)) qa_nil))) qa_nil)))) qss_nil)
      (qss_one (qs_ret (qe_comp (N' := ["_law_one"]) (n := 1) (Caps.nil rfl (by decide) (by decide) (by decide) rfl) rfl (qi_tup (qe_ix ix_tup (qv 0) qe_int (fun _ _ => rfl))) (fun _ _ _ => ⟨(qg_name (i := 0) (show List.Nodup (["_law_one"] : List Str) from by decide +kernel) rfl (Or.inl rfl)), qts_nil, (qe_tup (qa_cons qe_str (qa_cons (qv 0) qa_nil)))⟩)))))), ?_⟩
    refine ⟨_, rfl, a, _, 0, _, rfl, rfl, .inl (.inl h1), rfl, rfl, _, rfl, ite2 (fun h => ?_) (fun h => ?_)⟩
    · have e : r.op = "call" := V.str.inj (of_decide_eq_true h)
      have erd : rd r = r.srcs.map (fun s => -1 - s) := by unfold rd; rw [if_neg (by rw [e]; decide), if_pos e]
      refine ⟨_, rfl, a, _, 3, _, rfl, rfl, .inl (.inl h1), rfl, b, rfl, ⟨_, .inl (.inl h2)⟩, fun D hD => ?_⟩
      refine comp_tup (xs := r.srcs.map V.int) (fun i ys σ H' => (∃ o, σ = [o]) ∧ Same H H' ∧ H' D = some (.lst ys) ∧ ys.length = i ∧ ∀ (j : Nat) (u : V), ys[j]? = some u → ∃ p, (rd r)[j]? = some p ∧ IsPl H' u p) hz ⟨⟨_, rfl⟩, (Same.refl H).upd hD, upd_same, rfl, fun j u z => by simp at z⟩
        (fun i ys σ H' hi ⟨_, sm, hd, e, _⟩ => ⟨.inl (.inl (sm _ _ h2)), hd, Nat.le_of_eq e⟩) ?_ ?_
      · rintro i x ys σ H' hx ⟨⟨o, rfl⟩, sm, hd, el, all⟩
        obtain ⟨s0, e0, rfl⟩ : ∃ s0, r.srcs[i]? = some s0 ∧ V.int s0 = x := by simpa using hx
        have hs0 : 0 ≤ s0 := ok.sr s0 (List.mem_of_getElem? e0)
        refine ⟨_, rfl, (by show 2 ≤ sizeLine; decide), fun q hq => ?_⟩
        have hqD : q ≠ D := fun z => by rw [z, hd] at hq; cases hq
        refine ⟨by rw [upd_ne hqD.symm]; exact hd, ⟨_, rfl⟩, updN (sm.upd hq) hD, upd_same, by simp [el], fun j u hu => ?_⟩
        have tp : ∀ c xs, H' c = some (.tup xs) → upd (upd H' q (.tup [V.str "slot", V.int s0])) D (.lst (ys ++ [V.ref q])) c = some (.tup xs) := fun c xs e => by
          rw [upd_ne (ne_of e hd (by simp)), upd_ne (ne_of_none e hq)]; exact e
        rcases snoc_at hu with hu | ⟨ej, eu⟩
        · obtain ⟨p, e1, e2⟩ := all j u hu
          exact ⟨p, e1, e2.mono tp⟩
        · refine ⟨-1 - s0, by rw [ej, el, erd]; simp [e0], q, eu, ?_⟩
          rw [upd_ne hqD, upd_same, plV_slot hs0]
      · rintro ys σ H' ⟨_, sm, hd, el, all⟩
        exact k D ys H' sm hD hd (by rw [el, erd]; simp) all
    · have ne : ¬ r.op = "call" := fun q => h (decide_eq_true (congrArg V.str q))
      refine ⟨_, rfl, a, _, 0, _, rfl, rfl, .inl (.inl h1), rfl, rfl, _, rfl, ite2 (fun h' => ?_) (fun h' => ?_)⟩
      · have e : r.op = "load" := V.str.inj (of_decide_eq_true h')
        obtain ⟨s0, e2, hs0⟩ := ok.ld (.inl e)
        have erd : rd r = [-1 - s0] := by unfold rd; rw [if_pos e, e2]; rfl
        refine ⟨_, rfl, a, _, 1, _, rfl, rfl, .inl (.inl h1), rfl, (by show 2 ≤ sizeLine; decide), fun q hq => ⟨(by show 1 ≤ sizeLine; decide), fun p hp => ?_⟩⟩
        have hqp : q ≠ p := fun z => by rw [← z, upd_same] at hp; cases hp
        have hpn : H p = none := by rw [upd_ne hqp.symm] at hp; exact hp
        refine k p _ _ (((Same.refl H).upd hq).upd hp) hpn upd_same (by rw [erd]; rfl) (fun j u hu => ?_)
        cases j with
        | zero =>
          refine ⟨-1 - s0, by rw [erd]; rfl, q, (Option.some.inj hu).symm, ?_⟩
          rw [upd_ne hqp, upd_same, plV_slot hs0, e2]
        | succ j => simp at hu
      · have ne' : ¬ r.op = "load" := fun q => h' (decide_eq_true (congrArg V.str q))
        have erd : rd r = r.srcs := by unfold rd; rw [if_neg ne', if_neg ne]
        refine ⟨_, rfl, a, _, 3, _, rfl, rfl, .inl (.inl h1), rfl, b, rfl, ⟨_, .inl (.inl h2)⟩, fun D hD => ?_⟩
        refine comp_tup (xs := r.srcs.map V.int) (fun i ys σ H' => (∃ o, σ = [o]) ∧ Same H H' ∧ H' D = some (.lst ys) ∧ ys.length = i ∧ ∀ (j : Nat) (u : V), ys[j]? = some u → ∃ p, (rd r)[j]? = some p ∧ IsPl H' u p) hz ⟨⟨_, rfl⟩, (Same.refl H).upd hD, upd_same, rfl, fun j u z => by simp at z⟩
          (fun i ys σ H' hi ⟨_, sm, hd, e, _⟩ => ⟨.inl (.inl (sm _ _ h2)), hd, Nat.le_of_eq e⟩) ?_ ?_
        · rintro i x ys σ H' hx ⟨⟨o, rfl⟩, sm, hd, el, all⟩
          obtain ⟨s0, e0, rfl⟩ : ∃ s0, r.srcs[i]? = some s0 ∧ V.int s0 = x := by simpa using hx
          have hs0 : 0 ≤ s0 := ok.sr s0 (List.mem_of_getElem? e0)
          refine ⟨_, rfl, (by show 2 ≤ sizeLine; decide), fun q hq => ?_⟩
          have hqD : q ≠ D := fun z => by rw [z, hd] at hq; cases hq
          refine ⟨by rw [upd_ne hqD.symm]; exact hd, ⟨_, rfl⟩, updN (sm.upd hq) hD, upd_same, by simp [el], fun j u hu => ?_⟩
          have tp : ∀ c xs, H' c = some (.tup xs) → upd (upd H' q (.tup [V.str "few", V.int s0])) D (.lst (ys ++ [V.ref q])) c = some (.tup xs) := fun c xs e => by
            rw [upd_ne (ne_of e hd (by simp)), upd_ne (ne_of_none e hq)]; exact e
          rcases snoc_at hu with hu | ⟨ej, eu⟩
          · obtain ⟨p, e1, e2⟩ := all j u hu
            exact ⟨p, e1, e2.mono tp⟩
          · refine ⟨s0, by rw [ej, el, erd]; exact e0, q, eu, ?_⟩
            rw [upd_ne hqD, upd_same, plV_few hs0]
        · rintro ys σ H' ⟨_, sm, hd, el, all⟩
          exact k D ys H' sm hD hd (by rw [el, erd]; simp) all
theorem sc__law_written : FnScope ["_law_row_here"] ["_law_row_here"] (defScope sLawWritten) := ⟨rfl, rfl, rfl, by decide +kernel, rfl, by decide +kernel, by decide +kernel⟩
set_option maxHeartbeats 4000000 in
theorem ok_law_written {f : Addr} {fd : FuncData} (F : Fun K "_law_written" "_law_written" sLawWritten f fd) (T : Txt0 K mg) : FnOk P w K mg base CX0 1 f fd ["_law_row_here"] spWr := by
  refine F.okQ sc__law_written (fun vs H Q E h => ?_) (fun cdv A outer s H vs Q E hr h => ?_)
  · obtain ⟨v, r, rfl, _⟩ := h
    rfl
  · obtain ⟨v, r, rfl, ⟨a, b, rfl, h1, h2⟩, ok, k0, k1⟩ := h
    have nd := sc__law_written.nd
    refine ⟨_, (qss_cons (qs_if (qt_cmpR op_eq (qe_ix ix_tup (qv 0) qe_int (fun _ _ => rfl)) qe_str (nomark _)) (qss_one (qs_ret (qe_tup (qa_cons qe_str (qa_cons (qe_ix ix_tup (qv 0) qe_int (fun _ _ => rfl)) qa_nil))))) qss_nil)
      (qss_cons (qs_if (qt_cmpR op_isN (qe_ix ix_tup (qv 0) qe_int (fun _ _ => rfl)) qe_non (nomark _)) (qss_one (qs_ret qe_non)) qss_nil)
      (qss_one (qs_ret (qe_tup (qa_cons qe_str (qa_cons (qe_ix ix_tup (qv 0) qe_int (fun _ _ => rfl)) qa_nil))))))), ?_⟩
    refine ⟨_, rfl, a, _, 0, _, rfl, rfl, .inl (.inl h1), rfl, rfl, _, rfl, ite2 (fun h => ?_) (fun h => ?_)⟩
    · have e : r.op = "save" := V.str.inj (of_decide_eq_true h)
      obtain ⟨s0, e2, hs0⟩ := ok.ld (.inr e)
      have ewr : wr r = some (-1 - s0) := by unfold wr; rw [if_pos e, e2]; rfl
      refine ⟨_, rfl, a, _, 1, _, rfl, rfl, .inl (.inl h1), rfl, (by show 2 ≤ sizeLine; decide), fun q hq => k1 _ ewr _ _ ((Same.refl H).upd hq) ⟨q, rfl, ?_⟩⟩
      rw [upd_same, plV_slot hs0, e2]
    · have ne : ¬ r.op = "save" := fun q => h (decide_eq_true (congrArg V.str q))
      have ewr : wr r = r.tgt := by unfold wr; rw [if_neg ne]
      refine ⟨_, rfl, a, _, 2, _, rfl, rfl, .inl (.inl h1), rfl, rfl, _, rfl, ?_⟩
      cases ht : r.tgt with
      | none => exact iteT (k0 (ewr.trans ht))
      | some t =>
        refine iteF ?_
        refine ⟨_, rfl, a, _, 2, _, rfl, rfl, .inl (.inl h1), rfl, (by show 2 ≤ sizeLine; decide), fun q hq => k1 _ (ewr.trans ht) _ _ ((Same.refl H).upd hq) ⟨q, rfl, ?_⟩⟩
        rw [upd_same, plV_few (ok.tg t ht), ht]
        rfl
end
end K68

namespace K68
open PySem PySem.Spec PyProof.Rows L2
def ops1 : List Str := ["num", "num", "copy", "not", "+", "-", "*", "<", "=", "and", "or", "/", "rest", "new", "get"]
def ops2 : List Str := ["set", "list", "long", "at", "store", "out", "out", "tick", "load", "save", "move", "call"]
def ops3 : List Str := ["new", "list", "get", "set"]
def ops4 : List Str := ["load", "save", "call"]
theorem cut_ints (ns : List Int) (lo hi : Option Int) : ∃ ms : List Int, cutV (ns.map V.int) lo hi = ms.map V.int ∧ ms.length ≤ ns.length ∧ ∀ m ∈ ms, m ∈ ns := by
  refine ⟨(ns.drop (HT.sIx (ns.map V.int).length 0 lo)).take (HT.sIx (ns.map V.int).length (ns.map V.int).length hi - HT.sIx (ns.map V.int).length 0 lo), ?_, ?_, fun m hm => List.mem_of_mem_drop (List.mem_of_mem_take hm)⟩
  · unfold cutV
    rw [List.map_take, List.map_drop]
  · rw [List.length_take, List.length_drop]
    omega
theorem pop_last (zs : List Int) (d : Int) : ((zs ++ [d]).map V.int)[((zs ++ [d]).map V.int).length - 1]? = some (.int d) := by simp
theorem pop_rest (zs : List Int) (d : Int) : ((zs ++ [d]).map V.int).dropLast = zs.map V.int := by simp
theorem join {t u : TS} {D : Ends} {σ : L2.St} {H : Hp} (J : L2.St → Hp → Prop) (h1 : ∀ σ' H', J σ' H' → u D σ' H') (h2 : (∀ σ' H', J σ' H' → u D σ' H') → tSeq t u D σ H) : tSeq t u D σ H := h2 h1
def manyD : List (Key × V) := [(Sum.inr "num", .int 0), (Sum.inr "new", .int 0), (Sum.inr "tick", .int 0), (Sum.inr "copy", .int 1), (Sum.inr "not", .int 1), (Sum.inr "get", .int 1), (Sum.inr "list", .int 1), (Sum.inr "long", .int 1), (Sum.inr "out", .int 1), (Sum.inr "store", .int 3)]
theorem merge_num : ∀ (more kvs : List (Key × V)), NumD kvs → (∀ p ∈ more, ∃ i, p.2 = V.int i) → NumD (mergeK kvs more)
  | [], _, h, _ => h
  | (k, v) :: r, kvs, h, hm => by
    obtain ⟨i, e⟩ := hm (k, v) (List.mem_cons_self ..)
    dsimp only at e
    subst e
    exact merge_num r (putK kvs k (.int i)) (h.put k i) (fun p hp => hm p (List.mem_cons_of_mem _ hp))
theorem num_nil : NumD [] := fun k v e => by simp [valV] at e
theorem many_num (op : Str) : ∃ i, (valV (mergeK [] manyD) (Sum.inr op)).getD (V.int 2) = .int i := by
  have h : NumD (mergeK [] manyD) := merge_num manyD [] num_nil fun p hp => by
    simp only [manyD, List.mem_cons, List.not_mem_nil, or_false] at hp
    rcases hp with rfl | rfl | rfl | rfl | rfl | rfl | rfl | rfl | rfl | rfl <;> exact ⟨_, rfl⟩
  cases e : valV (mergeK [] manyD) (Sum.inr op) with
  | none => exact ⟨2, rfl⟩
  | some v =>
    obtain ⟨i, rfl⟩ := h _ _ e
    exact ⟨i, rfl⟩
def KeepB (dl : Addr) (H H' : Hp) : Prop := ∀ c u, H c = some u → c ≠ dl → H' c = some u
theorem KeepB.trans {dl : Addr} {H H1 H2 : Hp} (a : KeepB dl H H1) (b : Same H1 H2) : KeepB dl H H2 := fun c u e n => b _ _ (a c u e n)
theorem KeepB.upd {dl : Addr} {H H1 : Hp} {o : HO} (a : KeepB dl H H1) : KeepB dl H (upd H1 dl o) := fun c u e n => by rw [upd_ne n]; exact a c u e n
def spRow : Sp := fun vs H Q _ => ∃ dl sh rm zs more draw few slots n, vs = [.ref dl, .ref sh, .ref rm] ∧ H dl = some (.lst ((zs ++ [more] ++ [draw]).map V.int)) ∧ H sh = some (.tup [.int few, .int slots]) ∧ H rm = some (.dK [(Sum.inr "g", .int n)]) ∧ 0 < few ∧ 0 ≤ slots ∧ 0 ≤ n ∧ n ≤ 2 ∧
  ∀ v r H', KeepB dl H H' → H' dl = some (.lst (zs.map V.int)) → IsRow H' v r → RowOk r → Q v H'
section
variable {P : Program} {w : World} {K : PySem.W.Frag} {mg : Str → Option Value} {base : Heap}
theorem sc__law_row : FnScope ["_law_draws_here", "_law_shape", "_law_rooms", "_law_draw", "_law_few", "_law_slots", "_law_ops", "_law_op", "_law_target", "_law_sources", "_law_more", "_law_many"] ["_law_draws_here", "_law_shape", "_law_rooms"] (defScope sLawRow) := ⟨rfl, rfl, rfl, by decide +kernel, rfl, by decide +kernel, by decide +kernel⟩
set_option maxHeartbeats 8000000 in
theorem ok_law_row {f : Addr} {fd : FuncData} (F : Fun K "_law_row" "_law_row" sLawRow f fd) (T : Txt0 K mg) (F__law_told : FnB P w K mg base 1 "_law_told" ["_law_op", "_law_draw"] spTold) : FnOk P w K mg base CX0 2 f fd ["_law_draws_here", "_law_shape", "_law_rooms"] spRow := by
  refine F.okQ sc__law_row (fun vs H Q E h => ?_) (fun cdv A outer s H vs Q E hr h => ?_)
  · obtain ⟨dl, sh, rm, zs, more, draw, few, slots, n, rfl, _⟩ := h
    rfl
  · obtain ⟨dl, sh, rm, zs, more, draw, few, slots, n, rfl, hdl, hsh, hrm, hfew, hslots, hn0, hn2, k⟩ := h
    have nd := sc__law_row.nd
    have hsl : (2000000 : Nat) ≤ sizeLine := by rw [sizeLine_eq]; omega
    have nsh : sh ≠ dl := ne_of hsh hdl (by simp)
    have nrm : rm ≠ dl := ne_of hrm hdl (by simp)
    refine ⟨_, (qss_cons (qs_set (i := 3) nd rfl (Or.inl rfl) (qe_bm0 PySem.F.plainAttrs_list PySem.F.slot_list_pop PySem.F.type_list_pop mt_pop (qv 0)))
      (qss_cons (qs_asg (qv 1) (qg_tup rfl (qgs_cons (qg_name (i := 4) nd rfl (Or.inl rfl)) (qgs_cons (qg_name (i := 5) nd rfl (Or.inr rfl)) qgs_nil))))
      (qss_cons (qs_set (i := 6) nd rfl (Or.inl rfl) (qe_lst_strs (xs := ops1) rfl))
      (qss_cons (qs_set (i := 6) nd rfl (Or.inl rfl) (qe_op op_cat (qv 6) (qe_lst_strs (xs := ops2) rfl)))
      (qss_cons (qs_set (i := 6) nd rfl (Or.inl rfl) (qe_op op_cat (qv 6) (qe_lst_strs (xs := ops3) rfl)))
      (qss_cons (qs_set (i := 7) nd rfl (Or.inl rfl) (qe_ix ix_list (qv 6) (qe_op op_mod (qv 3) qe_int) (fun _ _ => rfl)))
      (qss_cons (qs_set (i := 8) nd rfl (Or.inl rfl) (qe_op op_mod (qe_op op_fdiv (qv 3) qe_int) (qv 4)))
      (qss_cons (qs_set (i := 9) nd rfl (Or.inl rfl) (qe_lst (qa_cons (qe_op op_mod (qe_op op_fdiv (qv 3) qe_int) (qv 4)) (qa_cons (qe_op op_mod (qe_op op_fdiv (qv 3) qe_int) (qv 4)) (qa_cons (qe_op op_mod (qe_op op_fdiv (qv 3) qe_int) (qv 4)) qa_nil)))))
      (qss_cons (qs_set (i := 10) nd rfl (Or.inr rfl) (qe_bm0 PySem.F.plainAttrs_list PySem.F.slot_list_pop PySem.F.type_list_pop mt_pop (qv 0)))
      (qss_cons (qs_if (QW.pt (qw_and (qt_cmpR op_eq (qv 7) qe_str (nomark _)) (qw_and1 (qt_cmpR op_gt (qv 5) qe_int (nomark _))))) (qss_one (qs_ret (qe_tup (qa_cons qe_str (qa_cons (qe_op op_mod (qv 10) (qv 5)) (qa_cons (qv 8) (qa_cons (qe_tup qa_nil) qa_nil))))))) qss_nil)
      (qss_cons (qs_if (QW.pt (qw_and (qt_cmpR op_eq (qv 7) qe_str (nomark _)) (qw_and1 (qt_cmpR op_gt (qv 5) qe_int (nomark _))))) (qss_one (qs_ret (qe_tup (qa_cons qe_str (qa_cons (qe_op op_mod (qv 10) (qv 5)) (qa_cons qe_non (qa_cons (qe_tup (qa_cons (qe_ix ix_list (qv 9) qe_int (fun _ _ => rfl)) qa_nil)) qa_nil))))))) qss_nil)
      (qss_cons (qs_if (qt_cmpR op_eq (qv 7) qe_str (nomark _)) (qss_one (qs_ret (qe_tup (qa_cons qe_str (qa_cons qe_non (qa_cons (qv 8) (qa_cons (qe_tup (qa_cons (qe_ix ix_list (qv 9) qe_int (fun _ _ => rfl)) qa_nil)) qa_nil))))))) qss_nil)
      (qss_cons (qs_if (QW.pt (qw_and (qt_cmpR op_eq (qv 8) (qe_op op_sub (qv 4) qe_int) (nomark _)) (qw_and1 (qt_cmpR op_eq (qe_op op_mod (qv 10) qe_int) qe_int (nomark _))))) (qss_one (qs_set (i := 8) nd rfl (Or.inl rfl) qe_non)) qss_nil)
      (qss_cons (qs_if (QW.pt (qw_and (qt_cmpR op_eq (qv 7) qe_str (nomark _)) (qw_and1 (QW.pt (qw_or (qt_cmpR op_gt (qv 5) qe_int (nomark _)) (qw_or1 (qt_cmpR op_eq (qe_dget (hu_of hr) (qv 2) qe_str (fun _ _ => rfl)) qe_int (nomark _)))))))) (qss_one (qs_ret (qe_tup (qa_cons qe_str (qa_cons qe_str (qa_cons (qv 8) (qa_cons (qe_callTy call_tuple_of rfl T.n_tuple boot_tuple (qa_cons (qe_comp (N' := ["_law_k", "_law_slots", "_law_more"]) (n := 1) (js := [5, 10]) (Caps.of rfl rfl (by decide) (by decide) rfl (List.forall_mem_cons.mpr ⟨rfl, (List.forall_mem_cons.mpr ⟨rfl, (List.forall_mem_nil _)⟩)⟩) ["_law_slots", "_law_more"] rfl (by decide +kernel) (List.forall_mem_cons.mpr ⟨⟨rfl, rfl, Or.inl rfl⟩, (List.forall_mem_cons.mpr ⟨⟨rfl, rfl, Or.inl rfl⟩, (List.forall_mem_nil _)⟩)⟩)) rfl (qi_range1 rfl T.n_range (qa_cons (qe_dget (hu_of hr) (qv 2) qe_str (fun _ _ => rfl)) qa_nil)) (fun _ _ _ => ⟨(qg_name (i := 0) (show List.Nodup (["_law_k", "_law_slots", "_law_more"] : List Str) from by decide +kernel) rfl (Or.inl rfl)), qts_nil, (qe_op op_mod (qe_op op_add (qv 2) (qv 0)) (qv 1))⟩)) qa_nil)) qa_nil))))))) qss_nil)
      (qss_cons (qs_if (qt_cmpR op_in_seq (qv 7) (qe_lst_strs (xs := ops4) rfl) (by with_unfolding_all rfl)) (qss_one (qs_set (i := 7) nd rfl (Or.inl rfl) qe_str)) qss_nil)
      (qss_cons (qs_set (i := 11) nd rfl (Or.inl rfl) (qe_disp (qps_cons qe_str qe_int (qps_cons qe_str qe_int (qps_cons qe_str qe_int (qps_cons qe_str qe_int (qps_cons qe_str qe_int (qps_cons qe_str qe_int (qps_cons qe_str qe_int (qps_cons qe_str qe_int (qps_cons qe_str qe_int (qps_cons qe_str qe_int qps_nil)))))))))) rfl rfl (by simp) (by decide)))
      (qss_one (qs_ret (qe_tup (qa_cons (qv 7) (qa_cons (qe_fn F__law_told (hr.mono (by first | decide | omega)) rfl (qa_cons (qv 7) (qa_cons (qv 10) qa_nil))) (qa_cons (qv 8) (qa_cons (qe_callTy call_tuple_of rfl T.n_tuple boot_tuple (qa_cons (qe_slice sl_list (qv 9) qo_none (qo_some (qe_dget2 (hu_of hr) (qv 11) (qv 7) qe_int ⟨rfl, rfl, rfl, rfl⟩))) qa_nil)) qa_nil))))))))))))))))))))))), ?_⟩
    refine ⟨_, rfl, .inl ⟨rfl, _, SqL.of hdl⟩, dl, _, _, rfl, rfl, hdl, pop_last _ _, ?_⟩
    rw [pop_rest]
    have k0 : KeepB dl H (upd H dl (.lst ((zs ++ [more]).map V.int))) := KeepB.upd fun c u e n => e
    have g0 := upd_same (H := H) (a := dl) (o := .lst ((zs ++ [more]).map V.int))
    generalize upd H dl (.lst ((zs ++ [more]).map V.int)) = H0 at *
    refine ⟨_, rfl, sh, _, rfl, .inl (.inl (k0 _ _ hsh nsh)), rfl, _, _, rfl, _, _, rfl, rfl, ?_⟩
    refine ⟨(by show 15 ≤ sizeLine; decide), fun p1 f1 => ?_⟩
    have s1 := (Same.refl H0).upd (o := .lst (ops1.map V.str)) f1
    have g1 := upd_same (H := H0) (a := p1) (o := .lst (ops1.map V.str))
    generalize upd H0 p1 (.lst (ops1.map V.str)) = H1 at *
    refine ⟨_, rfl, (by show 12 ≤ sizeLine; decide), fun p2 f2 => ⟨p1, p2, _, _, rfl, rfl, ((Same.refl H1).upd f2) _ _ g1, upd_same, (by show 27 ≤ sizeLine; decide), fun p3 f3 => ?_⟩⟩
    have s3 := (s1.upd (o := .lst (ops2.map V.str)) f2).upd (o := .lst (ops1.map V.str ++ ops2.map V.str)) f3
    have g3 := upd_same (H := upd H1 p2 (.lst (ops2.map V.str))) (a := p3) (o := .lst (ops1.map V.str ++ ops2.map V.str))
    generalize upd (upd H1 p2 (.lst (ops2.map V.str))) p3 (.lst (ops1.map V.str ++ ops2.map V.str)) = H3 at *
    refine ⟨_, rfl, (by show 4 ≤ sizeLine; decide), fun p4 f4 => ⟨p3, p4, _, _, rfl, rfl, ((Same.refl H3).upd f4) _ _ g3, upd_same, (by show 31 ≤ sizeLine; decide), fun p5 f5 => ?_⟩⟩
    have s5 := (s3.upd (o := .lst (ops3.map V.str)) f4).upd (o := .lst (ops1.map V.str ++ ops2.map V.str ++ ops3.map V.str)) f5
    have g5 := upd_same (H := upd H3 p4 (.lst (ops3.map V.str))) (a := p5) (o := .lst (ops1.map V.str ++ ops2.map V.str ++ ops3.map V.str))
    generalize upd (upd H3 p4 (.lst (ops3.map V.str))) p5 (.lst (ops1.map V.str ++ ops2.map V.str ++ ops3.map V.str)) = H5 at *
    obtain ⟨vo, eo, mo⟩ := pickV (ops1.map V.str ++ ops2.map V.str ++ ops3.map V.str) draw 31 rfl (by show 0 < 31; decide)
    obtain ⟨op, rfl⟩ : ∃ op, vo = .str op := by
      rw [← List.map_append, ← List.map_append] at mo
      obtain ⟨op, _, e⟩ := List.mem_map.mp mo
      exact ⟨op, e.symm⟩
    clear mo
    refine ⟨_, rfl, _, rfl, _, _, rfl, rfl, (show (0 : Int) < 31 by decide), p5, _, _, _, rfl, rfl, SqL.of g5, eo, ?_⟩
    refine ⟨_, rfl, _, _, rfl, rfl, ⟨by decide, by decide⟩, _, rfl, _, _, rfl, rfl, hfew, ?_⟩
    refine ⟨_, rfl, _, _, rfl, rfl, ⟨by decide, by decide⟩, _, rfl, _, _, rfl, rfl, hfew, _, rfl, _, _, rfl, rfl, ⟨by decide, by decide⟩, _, rfl, _, _, rfl, rfl, hfew, _, rfl, _, _, rfl, rfl, ⟨by decide, by decide⟩, _, rfl, _, _, rfl, rfl, hfew, (by show 3 ≤ sizeLine; decide), fun ps fs => ?_⟩
    dsimp only
    have htg : 0 ≤ draw / 31 % few := Int.emod_nonneg _ (by omega)
    have hs1 : 0 ≤ draw / 248 % few := Int.emod_nonneg _ (by omega)
    have hs2 : 0 ≤ draw / 1984 % few := Int.emod_nonneg _ (by omega)
    have hs3 : 0 ≤ draw / 15872 % few := Int.emod_nonneg _ (by omega)
    generalize draw / 31 % few = tg at *
    generalize draw / 248 % few = c1 at *
    generalize draw / 1984 % few = c2 at *
    generalize draw / 15872 % few = c3 at *
    have s6 := s5.upd (o := .lst [V.int c1, V.int c2, V.int c3]) fs
    have g6 := upd_same (H := H5) (a := ps) (o := .lst [V.int c1, V.int c2, V.int c3])
    generalize upd H5 ps (.lst [V.int c1, V.int c2, V.int c3]) = H6 at *
    have d6 := s6 _ _ g0
    have nps : ps ≠ dl := fun z => by
      rw [z] at fs
      rw [s5 _ _ g0] at fs
      cases fs
    refine ⟨_, rfl, .inl ⟨rfl, _, SqL.of d6⟩, dl, _, _, rfl, rfl, d6, pop_last _ _, ?_⟩
    rw [pop_rest]
    have k7 : KeepB dl H (upd H6 dl (.lst (zs.map V.int))) := KeepB.upd (k0.trans s6)
    have d7 := upd_same (H := H6) (a := dl) (o := .lst (zs.map V.int))
    have g7 : upd H6 dl (.lst (zs.map V.int)) ps = some (.lst [V.int c1, V.int c2, V.int c3]) := by rw [upd_ne nps]; exact g6
    generalize upd H6 dl (.lst (zs.map V.int)) = H7 at *
    have ret : ∀ v r H', Same H7 H' → IsRow H' v r → RowOk r → Q v H' := fun v r H' s' ir ok => k v r H' (k7.trans s') (s' _ _ d7) ir ok
    clear k eo g5 s5 s3 s1 s6 g6 d6 fs k0 g0
    have m7 := k7 _ _ hrm nrm
    clear hdl hsh hrm
    have hmod : ∀ x : Int, 0 < slots → 0 ≤ x % slots := fun x h => Int.emod_nonneg _ (by omega)
    -- load
    dsimp only [gName]
    refine join (t := tIfS _ _ _) (fun σ' H' => σ' = [some (.ref dl), some (.ref sh), some (.ref rm), some (.int draw), some (.int few), some (.int slots), some (.ref p5), some (.str op), some (.int tg), some (.ref ps), some (.int more), none] ∧ H7 = H') ?_ (fun go => ?_)
    case refine_2 =>
      refine ⟨_, rfl, rfl, _, rfl, ite2 (fun h => ⟨_, rfl, _, _, rfl, rfl, _, rfl, ite2 (fun h2 => ?_) (fun h2 => go _ _ ⟨rfl, rfl⟩)⟩) (fun h => iteF (go _ _ ⟨rfl, rfl⟩))⟩
      have hp := of_decide_eq_true h2
      refine ⟨_, rfl, _, rfl, _, _, rfl, rfl, hp, _, rfl, (by show 0 ≤ sizeLine; decide), fun q0 f0 => ⟨(by show 4 ≤ sizeLine; decide), fun q fq => ?_⟩⟩
      have ne : q0 ≠ q := fun z => by rw [← z, upd_same] at fq; cases fq
      exact ret _ ⟨"load", .int (more % slots), some tg, []⟩ _ (((Same.refl H7).upd f0).upd fq) ⟨q, q0, rfl, upd_same, by rw [upd_ne ne]; exact upd_same⟩ ⟨fun _ => ⟨_, rfl, hmod _ hp⟩, fun t e => by cases e; exact htg, fun x hx => by simp at hx, by show 0 ≤ 3; decide⟩
    rintro _ _ ⟨rfl, rfl⟩
    -- save
    refine join (t := tIfS _ _ _) (fun σ' H' => σ' = [some (.ref dl), some (.ref sh), some (.ref rm), some (.int draw), some (.int few), some (.int slots), some (.ref p5), some (.str op), some (.int tg), some (.ref ps), some (.int more), none] ∧ H7 = H') ?_ (fun go => ?_)
    case refine_2 =>
      refine ⟨_, rfl, rfl, _, rfl, ite2 (fun h => ⟨_, rfl, _, _, rfl, rfl, _, rfl, ite2 (fun h2 => ?_) (fun h2 => go _ _ ⟨rfl, rfl⟩)⟩) (fun h => iteF (go _ _ ⟨rfl, rfl⟩))⟩
      have hp := of_decide_eq_true h2
      refine ⟨_, rfl, _, rfl, _, _, rfl, rfl, hp, _, rfl, ps, _, 0, _, rfl, rfl, SqL.of g7, rfl, (by show 1 ≤ sizeLine; decide), fun q0 f0 => ⟨(by show 4 ≤ sizeLine; decide), fun q fq => ?_⟩⟩
      have ne : q0 ≠ q := fun z => by rw [← z, upd_same] at fq; cases fq
      exact ret _ ⟨"save", .int (more % slots), none, [c1]⟩ _ (((Same.refl H7).upd f0).upd fq) ⟨q, q0, rfl, upd_same, by rw [upd_ne ne]; exact upd_same⟩ ⟨fun _ => ⟨_, rfl, hmod _ hp⟩, (fun t e => nomatch e), (fun x hx => by simp at hx; rw [hx]; exact hs1), by show 1 ≤ 3; decide⟩
    rintro _ _ ⟨rfl, rfl⟩
    -- move
    refine join (t := tIfS _ _ _) (fun σ' H' => σ' = [some (.ref dl), some (.ref sh), some (.ref rm), some (.int draw), some (.int few), some (.int slots), some (.ref p5), some (.str op), some (.int tg), some (.ref ps), some (.int more), none] ∧ H7 = H') ?_ (fun go => ?_)
    case refine_2 =>
      refine ⟨_, rfl, rfl, _, rfl, ite2 (fun h => ?_) (fun h => go _ _ ⟨rfl, rfl⟩)⟩
      refine ⟨_, rfl, _, rfl, ps, _, 0, _, rfl, rfl, SqL.of g7, rfl, (by show 1 ≤ sizeLine; decide), fun q0 f0 => ⟨(by show 4 ≤ sizeLine; decide), fun q fq => ?_⟩⟩
      have ne : q0 ≠ q := fun z => by rw [← z, upd_same] at fq; cases fq
      exact ret _ ⟨"move", .non, some tg, [c1]⟩ _ (((Same.refl H7).upd f0).upd fq) ⟨q, q0, rfl, upd_same, by rw [upd_ne ne]; exact upd_same⟩ ⟨fun h => absurd h (show ¬ (("move" : Str) = "load" ∨ ("move" : Str) = "save") by decide), fun t e => by cases e; exact htg, fun x hx => by simp at hx; rw [hx]; exact hs1, by show 1 ≤ 3; decide⟩
    rintro _ _ ⟨rfl, rfl⟩
    -- no target
    refine join (t := tIfS _ _ _) (fun σ' H' => ∃ t0 : Option Int, (∀ t, t0 = some t → 0 ≤ t) ∧ σ' = [some (.ref dl), some (.ref sh), some (.ref rm), some (.int draw), some (.int few), some (.int slots), some (.ref p5), some (.str op), some (tV t0), some (.ref ps), some (.int more), none] ∧ H7 = H') ?_ (fun go => ?_)
    case refine_2 =>
      have stay := go _ _ ⟨some tg, (fun t e => by cases e; exact htg), rfl, rfl⟩
      refine ⟨_, rfl, _, rfl, _, _, rfl, rfl, rfl, _, rfl, ite2 (fun h => ⟨_, rfl, _, _, rfl, rfl, (show (0 : Int) < 3 by decide), rfl, _, rfl, ite2 (fun h2 => ?_) (fun h2 => stay)⟩) (fun h => iteF stay)⟩
      exact go _ _ ⟨none, (fun t e => nomatch e), rfl, rfl⟩
    rintro _ _ ⟨t0, ht0, rfl, rfl⟩
    -- call
    refine join (t := tIfS _ _ _) (fun σ' H' => σ' = [some (.ref dl), some (.ref sh), some (.ref rm), some (.int draw), some (.int few), some (.int slots), some (.ref p5), some (.str op), some (tV t0), some (.ref ps), some (.int more), none] ∧ H7 = H') ?_ (fun go => ?_)
    case refine_2 =>
      have hg : DGet H7 rm (.str "g") (some (.int n)) := DGet.k (k := Sum.inr "g") m7
      refine ⟨_, rfl, rfl, _, rfl, ite2 (fun h => ⟨_, rfl, _, _, rfl, rfl, _, rfl, ite2 (fun h2 => iteT ?_) (fun h2 => ⟨_, rfl, rm, _, rfl, hg, rfl, _, rfl, ite2 (fun h3 => ?_) (fun h3 => go _ _ ⟨rfl, rfl⟩)⟩)⟩) (fun h => iteF (go _ _ ⟨rfl, rfl⟩))⟩
      all_goals
        have hc : 0 < slots ∨ n = 0 := by first | exact .inl (of_decide_eq_true h2) | exact .inr (V.int.inj (of_decide_eq_true h3))
        refine ⟨_, rfl, _, rfl, rm, _, rfl, hg, n, rfl, by omega, by omega, fun D hD => ?_⟩
        refine comp_range (n := n.toNat) (fun i ys σ H' => (∃ o, σ = [o, some (.int slots), some (.int more)]) ∧ Same H7 H' ∧ H' D = some (.lst ys) ∧ ∃ ms : List Int, ys = ms.map V.int ∧ ms.length = i ∧ ∀ m ∈ ms, 0 ≤ m) (by omega) ⟨⟨_, rfl⟩, (Same.refl H7).upd hD, upd_same, [], rfl, rfl, by simp⟩
          (fun i ys σ H' hi ⟨_, sm, hd, ms, e, el, _⟩ => ⟨hd, by rw [e]; simp; omega⟩) ?_ ?_
        · rintro i ys σ H' hi ⟨⟨o, rfl⟩, sm, hd, ms, rfl, el, pos⟩
          have hs : 0 < slots := by
            rcases hc with h | h
            · exact h
            · rw [h] at hi; exact absurd hi (by simp)
          refine ⟨_, rfl, _, rfl, _, _, rfl, rfl, _, rfl, _, _, rfl, rfl, hs, hd, ⟨_, rfl⟩, updN sm hD, upd_same, ms ++ [(more + (0 + (i : Int))) % slots], by simp, by simp [el], fun m hm => ?_⟩
          rcases List.mem_append.mp hm with z | z
          · exact pos m z
          · simp at z; rw [z]; exact Int.emod_nonneg _ (by omega)
        · rintro ys σ H' ⟨_, sm, hd, ms, rfl, el, pos⟩
          refine ⟨D, _, rfl, .inl ⟨SqL.of hd, fun t ft => ⟨(by show 4 ≤ sizeLine; decide), fun q fq => ?_⟩⟩⟩
          have ne : t ≠ q := fun z => by rw [← z, upd_same] at fq; cases fq
          exact ret _ ⟨"call", .str "g", t0, ms⟩ _ ((sm.upd ft).upd fq) ⟨q, t, rfl, upd_same, by rw [upd_ne ne]; exact upd_same⟩ ⟨fun h => absurd h (show ¬ (("call" : Str) = "load" ∨ ("call" : Str) = "save") by decide), ht0, pos, by show ms.length ≤ 3; omega⟩
    rintro _ _ ⟨rfl, rfl⟩
    -- num
    refine join (t := tIfS _ _ _) (fun σ' H' => ∃ op', (op' ≠ ("load" : Str) ∧ op' ≠ ("save" : Str)) ∧ σ' = [some (.ref dl), some (.ref sh), some (.ref rm), some (.int draw), some (.int few), some (.int slots), some (.ref p5), some (.str op'), some (tV t0), some (.ref ps), some (.int more), none] ∧ Same H7 H') ?_ (fun go => ?_)
    case refine_2 =>
      refine ⟨_, rfl, (by show 3 ≤ sizeLine; decide), fun p fp => ⟨p, _, rfl, .inl (SqL.of upd_same), rfl, rfl, _, rfl, ite2 (fun h => ?_) (fun h => ?_)⟩⟩
      · exact go _ _ ⟨"num", ⟨by decide, by decide⟩, rfl, (Same.refl H7).upd fp⟩
      · exact go _ _ ⟨op, ⟨fun e => h (by rw [e]; rfl), fun e => h (by rw [e]; rfl)⟩, rfl, (Same.refl H7).upd fp⟩
    rintro _ H8 ⟨op', ⟨no1, no2⟩, rfl, s8⟩
    intro md fm
    refine ⟨upd_same, manyD, rfl, (by show 10 ≤ 15; decide), ?_⟩
    have s9 : Same H7 (upd (upd H8 md (.dK [])) md (.dK (mergeK [] manyD))) := by rw [upd_upd]; exact s8.upd fm
    have g9 := upd_same (H := upd H8 md (.dK [])) (a := md) (o := .dK (mergeK [] manyD))
    generalize upd (upd H8 md (.dK [])) md (.dK (mergeK [] manyD)) = H9 at *
    refine ⟨_, rfl, _, rfl, _, rfl, op', more, rfl, fun tv HA sA => ?_⟩
    refine ⟨_, rfl, _, rfl, _, rfl, md, rfl, .inl ⟨_, .inl (sA _ _ g9)⟩, _, rfl, _, DGet.k (k := Sum.inr op') (sA _ _ g9), ?_⟩
    obtain ⟨i, ei⟩ := many_num op'
    refine ⟨i, ei, ps, _, rfl, SqL.of (sA _ _ (s9 _ _ g7)), fun p fp => ?_⟩
    obtain ⟨ms, em, el, sub⟩ := cut_ints [c1, c2, c3] none (some i)
    refine ⟨p, ms.map V.int, rfl, .inl ⟨SqL.of (by rw [upd_same]; exact congrArg _ (congrArg _ em)), fun t ft => ⟨(by show 4 ≤ sizeLine; decide), fun q fq => ?_⟩⟩⟩
    have ne : t ≠ q := fun z => by rw [← z, upd_same] at fq; cases fq
    refine ret _ ⟨op', tv, t0, ms⟩ _ ((((s9.trans sA).upd fp).upd ft).upd fq) ⟨q, t, rfl, upd_same, by rw [upd_ne ne]; exact upd_same⟩ ⟨fun h => ?_, ht0, fun x hx => ?_, el⟩
    · rcases h with h | h
      · exact absurd h no1
      · exact absurd h no2
    · have := sub x hx
      simp at this
      rcases this with rfl | rfl | rfl
      · exact hs1
      · exact hs2
      · exact hs3
end
end K68

namespace K68
open PySem PySem.Spec PyProof.Rows L2
def wq (rows : List RowD) (j : Nat) : Option Int := (rows[j]?).bind wr
def opAt (rows : List RowD) (j : Nat) : Str := match rows[j]? with
  | some r => r.op
  | none => ""
def ws (rows : List RowD) (i : Nat) (p : Int) : List Nat := (List.range i).filter fun j => decide (wq rows j = some p)
def tAt (ds : List (Key × V)) (rows : List RowD) (bs : List Int) (j : Nat) : Int := bs.getD j 0 + dly ds (opAt rows j)
def lastT (ds : List (Key × V)) (rows : List RowD) (bs : List Int) (i : Nat) (p : Int) : Option Int := (ws rows i p).getLast?.map (tAt ds rows bs)
structure InvD (ds : List (Key × V)) (rows : List RowD) (bs : List Int) (i : Nat) : Prop where
  len : bs.length = i
  lb : (runX ds (rows.take i)).b = if i = 0 then -1 else bs.getD (i - 1) 0
  pos : -1 ≤ (runX ds (rows.take i)).b
  rdy : ∀ p, valV (runX ds (rows.take i)).rdy (Sum.inl p) = (lastT ds rows bs i p).map V.int
theorem mxL_ge : ∀ (l : List Int) (x : Int), x ≤ mxL x l
  | [], x => Int.le_refl x
  | y :: l, x => Int.le_trans (mx2_ge x y).1 (mxL_ge l (mx2 x y))
theorem ws_succ (rows : List RowD) (i : Nat) (p : Int) : ws rows (i + 1) p = ws rows i p ++ (if wq rows i = some p then [i] else []) := by
  unfold ws
  rw [List.range_succ, List.filter_append]
  congr 1
  by_cases h : wq rows i = some p
  · rw [if_pos h]; simp [h]
  · rw [if_neg h]; simp [h]
theorem ws_lt {rows : List RowD} {i : Nat} {p : Int} {j : Nat} (h : j ∈ ws rows i p) : j < i := by
  unfold ws at h
  exact List.mem_range.mp (List.mem_filter.mp h).1
theorem tAt_snoc {ds : List (Key × V)} {rows : List RowD} {bs : List Int} {x : Int} {j : Nat} (h : j < bs.length) : tAt ds rows (bs ++ [x]) j = tAt ds rows bs j := by
  unfold tAt
  rw [List.getD_eq_getElem?_getD, List.getD_eq_getElem?_getD, List.getElem?_append_left h]
theorem lastT_snoc {ds : List (Key × V)} {rows : List RowD} {bs : List Int} {x : Int} {i : Nat} {p : Int} (h : bs.length = i) : (ws rows i p).getLast?.map (tAt ds rows (bs ++ [x])) = lastT ds rows bs i p := by
  unfold lastT
  cases e : (ws rows i p).getLast? with
  | none => rfl
  | some j =>
    have hj : j < i := ws_lt (List.mem_of_getLast? e)
    show some _ = some _
    rw [tAt_snoc (by omega)]
theorem InvD.zero (ds : List (Key × V)) (rows : List RowD) : InvD ds rows [] 0 := ⟨rfl, rfl, by show (-1 : Int) ≤ -1; decide, fun p => rfl⟩
theorem InvD.step {ds : List (Key × V)} {rows : List RowD} {bs : List Int} {i : Nat} {r : RowD} (h : InvD ds rows bs i) (e : rows[i]? = some r) : InvD ds rows (bs ++ [bgn (runX ds (rows.take i)).rdy (runX ds (rows.take i)).b r]) (i + 1) := by
  have hge := mxL_ge ((rd r).map (getI (runX ds (rows.take i)).rdy)) ((runX ds (rows.take i)).b + 1)
  refine ⟨by simp [h.len], ?_, ?_, fun p => ?_⟩
  · rw [runX_snoc ds e, if_neg (by omega)]
    show bgn _ _ r = _
    rw [List.getD_eq_getElem?_getD, Nat.add_sub_cancel, List.getElem?_append_right (by rw [h.len]; exact Nat.le_refl _), h.len]
    simp
  · rw [runX_snoc ds e]
    show -1 ≤ bgn _ _ r
    have := h.pos
    unfold bgn
    omega
  · rw [runX_snoc ds e]
    show valV (rdy1 ds _ _ r) _ = _
    have hwq : wq rows i = wr r := by unfold wq; rw [e]; rfl
    unfold lastT
    rw [ws_succ, hwq]
    unfold rdy1
    cases hw : wr r with
    | none =>
      rw [if_neg (by simp), List.append_nil, lastT_snoc h.len]
      exact h.rdy p
    | some q =>
      dsimp only
      rw [valV_put]
      by_cases hq : q = p
      · subst hq
        rw [if_pos rfl, if_pos rfl]
        simp only [List.getLast?_append, List.getLast?_singleton, Option.or_some, Option.map_some]
        have : tAt ds rows (bs ++ [bgn (runX ds (rows.take i)).rdy (runX ds (rows.take i)).b r]) i = bgn (runX ds (rows.take i)).rdy (runX ds (rows.take i)).b r + dly ds r.op := by
          unfold tAt opAt
          rw [List.getD_eq_getElem?_getD, List.getElem?_append_right (by rw [h.len]; exact Nat.le_refl _), h.len, e]
          simp
        rw [← this]
        rfl
      · rw [if_neg (fun z => hq (Sum.inl.inj z).symm), if_neg (fun z => hq (Option.some.inj z)), List.append_nil, lastT_snoc h.len]
        exact h.rdy p
/-- one place: what the law does comes to what the clock does -/
theorem place_step {ds : List (Key × V)} {rows : List RowD} {bs : List Int} {i : Nat} (h : InvD ds rows bs i) (p b0 : Int) (hb : 0 ≤ b0) : (match lastT ds rows bs i p with | none => b0 | some t => mx2 b0 t) = mx2 b0 (getI (runX ds (rows.take i)).rdy p) := by
  have e := h.rdy p
  unfold getI
  rw [e]
  cases lastT ds rows bs i p with
  | none =>
    show b0 = mx2 b0 0
    unfold mx2
    rw [if_neg (by omega)]
  | some t => rfl
theorem cut_last (xs : List V) : cutV xs (some (-1)) none = xs.getLast?.toList := by
  rcases List.eq_nil_or_concat xs with rfl | ⟨ys, y, rfl⟩
  · rfl
  · have e1 : HT.sIx (ys.concat y).length 0 (some (-1)) = ys.length := by
      unfold HT.sIx
      dsimp only
      rw [if_pos (by decide), List.length_concat]
      omega
    have e2 : HT.sIx (ys.concat y).length (ys.concat y).length none = ys.length + 1 := by
      show (ys.concat y).length = _
      rw [List.length_concat]
    unfold cutV
    rw [e1, e2, List.concat_eq_append]
    simp
end K68

namespace K68
open PySem PySem.Spec PyProof.Rows L2
def spDue : Sp := spTicks
theorem seq_c {v : V} {i : Nat} {u : TS} {D : Ends} {σ : L2.St} {H : Hp} (h : u D (σ.set i (some v)) H) : tSeq (tAsg (tC v) (gName i)) u D σ H := h
theorem get_neg {bs : List Int} (h : 0 < bs.length) : atI (bs.map V.int) (-1) = some (.int (bs.getD (bs.length - 1) 0)) := by
  unfold atI ixN
  rw [if_neg (by decide), List.length_map, if_pos (by omega)]
  have e : ((-1 : Int) + (bs.length : Int)).toNat = bs.length - 1 := by omega
  show (bs.map V.int)[((-1 : Int) + (bs.length : Int)).toNat]? = _
  rw [e, List.getElem?_map, List.getD_eq_getElem?_getD, List.getElem?_eq_getElem (by omega)]
  rfl
def acc (X : Sx) (r : RowD) (t : Nat) : Int := mxL (X.b + 1) (((rd r).take t).map (getI X.rdy))
theorem acc_succ {X : Sx} {r : RowD} {t : Nat} {p : Int} (h : (rd r)[t]? = some p) : acc X r (t + 1) = mx2 (acc X r t) (getI X.rdy p) := by
  unfold acc
  rw [take_snoc h, List.map_append]
  unfold mxL
  rw [List.foldl_append]
  rfl
theorem acc_pos {X : Sx} {r : RowD} {t : Nat} (h : -1 ≤ X.b) : 0 ≤ acc X r t := by
  have := mxL_ge (((rd r).take t).map (getI X.rdy)) (X.b + 1)
  unfold acc
  omega
theorem acc_all {X : Sx} {r : RowD} : acc X r (rd r).length = bgn X.rdy X.b r := by
  unfold acc bgn
  rw [List.take_of_length_le (Nat.le_refl _)]
theorem at_us {us : List V} {j : Nat} {v : V} (h : us[j]? = some v) : atI us ((j : Nat) : Int) = some v := atI_nat h
theorem ws_last {rows : List RowD} {i : Nat} {p : Int} : ((ws rows i p).map fun n => V.int ((n : Nat) : Int)).getLast?.toList = match (ws rows i p).getLast? with | none => [] | some j => [V.int ((j : Nat) : Int)] := by
  rw [List.getLast?_map]
  cases (ws rows i p).getLast? <;> rfl
section
variable {P : Program} {w : World} {K : PySem.W.Frag} {mg : Str → Option Value} {base : Heap}
theorem sc__law_due : FnScope ["_law_rows", "_law_delays", "_law_begins", "_law_most", "_law_k", "_law_row_here", "_law_begin", "_law_place", "_law_writers", "_law_j"] ["_law_rows", "_law_delays"] (defScope sLawDue) := ⟨rfl, rfl, rfl, by decide +kernel, rfl, by decide +kernel, by decide +kernel⟩
set_option maxHeartbeats 8000000 in
theorem ok_law_due {f : Addr} {fd : FuncData} (F : Fun K "_law_due" "_law_due" sLawDue f fd) (T : Txt0 K mg) (F__law_read : FnB P w K mg base 1 "_law_read" ["_law_row_here"] (spRd K)) (F__law_written : FnB P w K mg base 1 "_law_written" ["_law_row_here"] spWr) : FnOk P w K mg base CX0 2 f fd ["_law_rows", "_law_delays"] spDue := by
  refine F.okQ sc__law_due (fun vs H Q E h => ?_) (fun cdv A outer s H vs Q E hr h => ?_)
  · obtain ⟨a, dd, us, rows, ds, rfl, _⟩ := h
    rfl
  · obtain ⟨a, dd, us, rows, ds, rfl, ha, irs, oks, hlen, hd, nds, k⟩ := h
    have nd := sc__law_due.nd
    have hsl : (2000000 : Nat) ≤ sizeLine := by rw [sizeLine_eq]; omega
    refine ⟨_, (qss_cons (qs_set (i := 2) nd rfl (Or.inl rfl) (qe_lst qa_nil))
      (qss_cons (qs_set (i := 3) nd rfl (Or.inl rfl) qe_int)
      (qss_cons (qs_for PassesOwn.never rfl (qi_enum (b := false) rfl T.n_enumerate (qa_cons (qv 0) qa_nil)) (qg_tup rfl (qgs_cons (qg_name (i := 4) nd rfl (Or.inl rfl)) (qgs_cons (qg_name (i := 5) nd rfl (Or.inl rfl)) qgs_nil))) (qss_cons (qs_set (i := 6) nd rfl (Or.inl rfl) qe_int)
      (qss_cons (qs_if (qt_cmpR op_gt (qv 4) qe_int (nomark _)) (qss_one (qs_set (i := 6) nd rfl (Or.inl rfl) (qe_op op_add (qe_ix ix_list (qv 2) (qe_un un_neg qe_int) (fun _ _ => rfl)) qe_int))) qss_nil)
      (qss_cons (qs_for PassesOwn.never rfl (qi_list (qe_fn F__law_read (hr.mono (by first | decide | omega)) rfl (qa_cons (qv 5) qa_nil))) (qg_name (i := 7) nd rfl (Or.inr rfl)) (qss_cons (qs_comp (i0 := 8) nd rfl rfl rfl (N' := ["_law_j", "_law_rows", "_law_place"]) (n := 1) (js := [0, 7]) (Caps.of rfl rfl (by decide) (by decide) rfl (List.forall_mem_cons.mpr ⟨rfl, (List.forall_mem_cons.mpr ⟨rfl, (List.forall_mem_nil _)⟩)⟩) ["_law_rows", "_law_place"] rfl (by decide +kernel) (List.forall_mem_cons.mpr ⟨⟨rfl, rfl, Or.inl rfl⟩, (List.forall_mem_cons.mpr ⟨⟨rfl, rfl, Or.inl rfl⟩, (List.forall_mem_nil _)⟩)⟩)) rfl (qi_range1 rfl T.n_range (qa_cons (qv 4) qa_nil)) (fun _ _ _ => ⟨(qg_name (i := 0) (show List.Nodup (["_law_j", "_law_rows", "_law_place"] : List Str) from by decide +kernel) rfl (Or.inl rfl)), (qts_one (qt_cmpR (show OpR _ (compareOp .Eq) (rEqP K) from op_eqP hr.units) (qe_fn F__law_written (hr.mono (by first | decide | omega)) rfl (qa_cons (qe_ix (show IxR _ (rIxT K) from ix_tup) (qv 1) (qv 0) (fun _ _ => rfl)) qa_nil)) (qv 2) (nomark _))), (qv 0)⟩))
      (qss_one (qs_for PassesOwn.never rfl (qi_list (qe_slice sl_list (qv 8) (qo_some (qe_un un_neg qe_int)) qo_none)) (qg_name (i := 9) nd rfl (Or.inl rfl)) (qss_one (qs_set (i := 6) nd rfl (Or.inl rfl) (qe_callB (call_max2 rfl) rfl T.n_max boot_max (qa_cons (qv 6) (qa_cons (qe_op op_add (qe_ix ix_list (qv 2) (qv 9) (fun _ _ => rfl)) (qe_dget2 (hu_of hr) (qv 1) (qe_ix ix_tup (qe_ix ix_tup (qv 0) (qv 9) (fun _ _ => rfl)) qe_int (fun _ _ => rfl)) qe_int ⟨rfl, rfl, rfl, rfl⟩)) qa_nil)))))))))
      (qss_cons (qs_expr (qe_bm PySem.F.plainAttrs_list PySem.F.slot_list_append PySem.F.type_list_append mt_append (qv 2) (qa_cons (qv 6) qa_nil)))
      (qss_cons (qs_set (i := 3) nd rfl (Or.inl rfl) (qe_callB (call_max2 rfl) rfl T.n_max boot_max (qa_cons (qv 3) (qa_cons (qv 6) qa_nil))))
      (qss_one (qs_if (qt_cmpR op_notN (qe_fn F__law_written (hr.mono (by first | decide | omega)) rfl (qa_cons (qv 5) qa_nil)) qe_non (nomark _)) (qss_one (qs_set (i := 3) nd rfl (Or.inl rfl) (qe_callB (call_max2 rfl) rfl T.n_max boot_max (qa_cons (qv 3) (qa_cons (qe_op op_add (qv 6) (qe_dget2 (hu_of hr) (qv 1) (qe_ix ix_tup (qv 5) qe_int (fun _ _ => rfl)) qe_int ⟨rfl, rfl, rfl, rfl⟩)) qa_nil))))) qss_nil))))))))
      (qss_one (qs_ret (qv 3)))))), ?_⟩
    refine ⟨(by show 0 ≤ sizeLine; omega), fun bl hbl => ?_⟩
    refine ⟨_, rfl, a, rfl, ⟨_, .inl (.inl (((Same.refl H).upd hbl) _ _ ha))⟩, ?_⟩
    refine for_enum (xs := us) (fun i σ H' => ∃ bs o4 o5 o6 o7 o8 o9, σ = [some (.ref a), some (.ref dd), some (.ref bl), some (.int (runX ds (rows.take i)).m), o4, o5, o6, o7, o8, o9] ∧ Same H H' ∧ H' bl = some (.lst (bs.map V.int)) ∧ InvD ds rows bs i) ⟨[], _, _, _, _, _, _, rfl, (Same.refl H).upd hbl, upd_same, InvD.zero ds rows⟩ ?_ ?_ ?_
    · rintro i σ H' hi ⟨bs, o4, o5, o6, o7, o8, o9, rfl, sm, _, _⟩
      exact .inl (.inl (sm _ _ ha))
    · rintro i v σ H' p hv ⟨bs, o4, o5, o6, o7, o8, o9, rfl, sm, hb, inv⟩ hp
      obtain ⟨r, er, ir0⟩ := irs.2 i v hv
      have ok := oks r (List.mem_of_getElem? er)
      have hi : i < rows.length := by rw [← irs.1]; exact (List.getElem?_eq_some_iff.mp hv).1
      have hb1 : upd H' p (.tup [.int i, v]) bl = some (.lst (bs.map V.int)) := by rw [upd_ne (ne_of_none hb hp)]; exact hb
      have sm1 : Same H (upd H' p (.tup [.int i, v])) := sm.upd hp
      refine ⟨p, _, rfl, SqT.of upd_same, rfl, _, _, rfl, _, _, rfl, rfl, ?_⟩
      generalize upd H' p (.tup [.int i, v]) = H1 at *
      -- where it begins at the earliest
      dsimp only [gName]
      refine seq_c ?_
      refine join (t := tIfS _ _ _) (fun σ' H2 => σ' = [some (.ref a), some (.ref dd), some (.ref bl), some (.int (runX ds (rows.take i)).m), some (.int i), some v, some (.int ((runX ds (rows.take i)).b + 1)), o7, o8, o9] ∧ H1 = H2) ?_ (fun go => ?_)
      case refine_2 =>
        have hlb := inv.lb
        refine ⟨_, rfl, _, _, rfl, rfl, _, rfl, ite2 (fun h => ?_) (fun h => ?_)⟩
        · have hi0 : (0 : Int) < (i : Int) := of_decide_eq_true h
          have hb0 : 0 < bs.length := by rw [inv.len]; omega
          refine ⟨_, rfl, _, rfl, bl, _, _, _, rfl, rfl, SqL.of hb1, get_neg hb0, _, _, rfl, rfl, ?_⟩
          rw [if_neg (by omega)] at hlb
          refine go _ _ ⟨?_, rfl⟩
          rw [hlb, inv.len]
          rfl
        · have hi0 : i = 0 := by
            have : ¬ (0 : Int) < (i : Int) := fun z => h (decide_eq_true z)
            omega
          rw [if_pos hi0] at hlb
          refine go _ _ ⟨?_, rfl⟩
          rw [hlb]
          rfl
      rintro _ _ ⟨rfl, rfl⟩
      have ir1 : IsRow H1 v r := ir0.mono fun _ _ z => sm1 _ _ z
      -- the places that it reads
      refine join (t := tFor _ _ _) (fun σ' H2 => ∃ o7 o8 o9, σ' = [some (.ref a), some (.ref dd), some (.ref bl), some (.int (runX ds (rows.take i)).m), some (.int i), some v, some (.int (bgn (runX ds (rows.take i)).rdy (runX ds (rows.take i)).b r)), o7, o8, o9] ∧ Same H1 H2) ?_ (fun go => ?_)
      case refine_2 =>
        refine ⟨_, rfl, v, r, rfl, ir1, ok, fun l ps H2 s2 hl g2 len2 all2 => ⟨l, rfl, ⟨_, SqL.of g2⟩, ?_⟩⟩
        refine for_list (xs := ps) (fun t σ H3 => ∃ o7 o8 o9, σ = [some (.ref a), some (.ref dd), some (.ref bl), some (.int (runX ds (rows.take i)).m), some (.int i), some v, some (.int (acc (runX ds (rows.take i)) r t)), o7, o8, o9] ∧ Same H2 H3) ⟨_, _, _, rfl, Same.refl H2⟩ (fun t σ H3 _ ⟨_, _, _, _, s3⟩ => s3.seq (SqL.of g2)) ?_ ?_
        · rintro t u σ H3 hu ⟨o7, o8, o9, rfl, s3⟩
          obtain ⟨p0, ep, ipl0⟩ := all2 t u hu
          have ipl := ipl0.mono fun _ _ z => s3 _ _ z
          have sH3 := (sm1.trans s2).trans s3
          have hb3 := s3 _ _ (s2 _ _ hb1)
          have hpos : 0 ≤ acc (runX ds (rows.take i)) r t := acc_pos inv.pos
          obtain ⟨ua, rfl, hua⟩ := ipl
          refine ⟨_, rfl, ((i : Nat) : Int), rfl, by omega, by omega, fun D hD => ?_⟩
          refine comp_range (n := (((i : Nat) : Int)).toNat) (fun j ys σ H4 => (∃ o, σ = [o, some (.ref a), some (.ref ua)]) ∧ Same H3 H4 ∧ H4 D = some (.lst ys) ∧ ys = (ws rows j p0).map fun n => V.int ((n : Nat) : Int)) (by omega) ⟨⟨_, rfl⟩, (Same.refl H3).upd hD, upd_same, rfl⟩
            (fun j ys σ H4 hj ⟨_, s4, hd4, e⟩ => ⟨hd4, by rw [e, List.length_map]; exact Nat.le_trans (List.length_filter_le _ _) (by simp)⟩) ?_ ?_
          · rintro j ys σ H4 hj ⟨⟨o, rfl⟩, s4, hd4, rfl⟩
            have hji : j < i := by omega
            have hjr : j < rows.length := by omega
            have hju : j < us.length := by rw [irs.1]; exact hjr
            obtain ⟨rj, erj, irj⟩ := irs.2 j us[j] (List.getElem?_eq_getElem hju)
            have okj := oks rj (List.mem_of_getElem? erj)
            have sH4 := sH3.trans s4
            have hwq : wq rows j = wr rj := by unfold wq; rw [erj]; rfl
            refine ⟨_, rfl, _, rfl, a, us, _, us[j], rfl, rfl, .inl (.inl (sH4 _ _ ha)), ?_, us[j], rj, rfl, irj.mono (fun _ _ z => sH4 _ _ z), okj, fun hw => ?_, fun q hw u' H5 s5 ipl' => ?_⟩
            · rw [Int.zero_add]; exact at_us (List.getElem?_eq_getElem hju)
            · refine ⟨_, rfl, ua, _, _, rfl, .inl (.inl (s4 _ _ hua)), plV_ok p0, .inl ⟨rfl, _, rfl, iteF ⟨⟨_, rfl⟩, s4, hd4, ?_⟩⟩⟩
              rw [ws_succ, if_neg (by rw [hwq, hw]; simp), List.append_nil]
            · obtain ⟨ua', rfl, hua'⟩ := ipl'
              refine ⟨_, rfl, ua, _, _, rfl, .inl (.inl (s5 _ _ (s4 _ _ hua))), plV_ok p0, .inr ⟨ua', _, _, rfl, .inl (.inl hua'), plV_ok q, _, rfl, ite2 (fun h => ?_) (fun h => ?_)⟩⟩
              · have hqp : q = p0 := plV_inj (of_decide_eq_true h)
                refine ⟨_, rfl, s5 _ _ hd4, ⟨_, rfl⟩, updN (s4.trans s5) hD, upd_same, ?_⟩
                rw [ws_succ, if_pos (by rw [hwq, hw, hqp]), List.map_append]
                simp
              · have hqp : ¬ q = p0 := fun z => h (decide_eq_true (by rw [z]; exact ⟨rfl, rfl⟩))
                refine ⟨⟨_, rfl⟩, s4.trans s5, s5 _ _ hd4, ?_⟩
                rw [ws_succ, if_neg (by rw [hwq, hw]; exact fun z => hqp (Option.some.inj z)), List.append_nil]
          · rintro ys σ H4 ⟨_, s4, hd4, rfl⟩
            rw [Int.toNat_natCast] at hd4
            have hb4 := s4 _ _ hb3
            refine ⟨_, rfl, _, rfl, _, rfl, D, _, rfl, SqL.of hd4, fun q hq => ⟨q, rfl, ⟨_, SqL.of upd_same⟩, ?_⟩⟩
            have hq5 : upd H4 q (.lst (cutV ((ws rows i p0).map fun n => V.int ((n : Nat) : Int)) (some (-1)) none)) q = some (.lst (cutV ((ws rows i p0).map fun n => V.int ((n : Nat) : Int)) (some (-1)) none)) := upd_same
            have s5 : Same H3 (upd H4 q (.lst (cutV ((ws rows i p0).map fun n => V.int ((n : Nat) : Int)) (some (-1)) none))) := s4.upd hq
            have step := place_step inv p0 _ hpos
            rw [← acc_succ ep] at step
            unfold lastT at step
            generalize upd H4 q (.lst (cutV ((ws rows i p0).map fun n => V.int ((n : Nat) : Int)) (some (-1)) none)) = H5 at *
            rw [cut_last, ws_last] at hq5
            cases hlast : (ws rows i p0).getLast? with
            | none =>
              rw [hlast] at hq5 step
              refine for_list (xs := []) (fun _ σ H6 => σ = [some (.ref a), some (.ref dd), some (.ref bl), some (.int (runX ds (rows.take i)).m), some (.int i), some v, some (.int (acc (runX ds (rows.take i)) r t)), some (.ref ua), some (.ref D), o9] ∧ H5 = H6) ⟨rfl, rfl⟩ (fun _ σ H6 _ ⟨_, e⟩ => e ▸ SqL.of hq5) (fun _ x σ H6 hx _ => by simp at hx) ?_
              rintro _ _ ⟨rfl, rfl⟩
              refine ⟨some (.ref ua), some (.ref D), o9, ?_, s3.trans s5⟩
              rw [← step]
              rfl
            | some jl =>
              rw [hlast] at hq5 step
              have hjl : jl < i := ws_lt (List.mem_of_getLast? hlast)
              have hju : jl < us.length := by rw [irs.1]; omega
              obtain ⟨rj, erj, rja, rjb, erja, hrja, hrjb⟩ := irs.2 jl us[jl] (List.getElem?_eq_getElem hju)
              have sH5 := sH3.trans s5
              have hbj : atI (bs.map V.int) ((jl : Nat) : Int) = some (.int (bs.getD jl 0)) := by
                refine at_us ?_
                rw [List.getElem?_map, List.getD_eq_getElem?_getD, List.getElem?_eq_getElem (by rw [inv.len]; exact hjl)]
                rfl
              refine for_list (xs := [V.int ((jl : Nat) : Int)]) (fun n σ H6 => (∃ o9, σ = [some (.ref a), some (.ref dd), some (.ref bl), some (.int (runX ds (rows.take i)).m), some (.int i), some v, some (.int (if n = 0 then acc (runX ds (rows.take i)) r t else acc (runX ds (rows.take i)) r (t + 1))), some (.ref ua), some (.ref D), o9]) ∧ H5 = H6) ⟨⟨_, rfl⟩, rfl⟩ (fun _ σ H6 _ ⟨_, e⟩ => e ▸ SqL.of hq5) ?_ ?_
              · rintro n x σ H6 hx ⟨⟨o9, rfl⟩, rfl⟩
                have hn : n = 0 := by
                  cases n with
                  | zero => rfl
                  | succ n => simp at hx
                subst hn
                cases (Option.some.inj hx)
                refine ⟨_, rfl, _, rfl, _, rfl, bl, _, _, _, rfl, rfl, SqL.of (s5 _ _ hb3), hbj, _, rfl, dd, rfl, .inl ⟨ds, .inl (sH5 _ _ hd)⟩, _, rfl, _, rfl, a, us, _, us[jl], rfl, rfl, .inl (.inl (sH5 _ _ ha)), at_us (List.getElem?_eq_getElem hju), rja, _, 0, _, erja, rfl, .inl (.inl (sH5 _ _ hrja)), rfl, _, DGet.k (k := Sum.inr rj.op) (sH5 _ _ hd), _, _, rfl, dly_get nds _, _, _, rfl, ⟨some (.int ((jl : Nat) : Int)), ?_⟩, rfl⟩
                have hop : opAt rows jl = rj.op := by unfold opAt; rw [erj]
                have e2 : acc (runX ds (rows.take i)) r (t + 1) = mx2 (acc (runX ds (rows.take i)) r t) (bs.getD jl 0 + dly ds rj.op) := by
                  rw [← step]
                  show mx2 _ (tAt ds rows bs jl) = _
                  unfold tAt
                  rw [hop]
                rw [e2]
                rfl
              · rintro _ _ ⟨⟨o9, rfl⟩, rfl⟩
                exact ⟨_, _, _, rfl, s3.trans s5⟩
        · rintro σ H3 ⟨o7, o8, o9, rfl, s3⟩
          rw [len2, acc_all]
          exact go _ _ ⟨_, _, _, rfl, s2.trans s3⟩
      rintro _ H2 ⟨o7, o8, o9, rfl, s2⟩
      have hb2 := s2 _ _ hb1
      have sm2 := sm1.trans s2
      have hi100 : bs.length ≤ 100 := by rw [inv.len]; omega
      refine ⟨_, rfl, .inl ⟨rfl, _, SqL.of hb2⟩, _, rfl, bl, _, _, rfl, rfl, hb2, (by rw [List.length_map]; omega), ?_⟩
      have hb3 : upd H2 bl (.lst (bs.map V.int ++ [V.int (bgn (runX ds (rows.take i)).rdy (runX ds (rows.take i)).b r)])) bl = some (.lst ((bs ++ [bgn (runX ds (rows.take i)).rdy (runX ds (rows.take i)).b r]).map V.int)) := by rw [upd_same, List.map_append]; rfl
      have sm3 : Same H (upd H2 bl (.lst (bs.map V.int ++ [V.int (bgn (runX ds (rows.take i)).rdy (runX ds (rows.take i)).b r)]))) := updN sm2 hbl
      generalize upd H2 bl (.lst (bs.map V.int ++ [V.int (bgn (runX ds (rows.take i)).rdy (runX ds (rows.take i)).b r)])) = H3 at *
      have inv' := inv.step er
      have hrun := runX_snoc ds er
      refine ⟨_, rfl, _, rfl, _, _, rfl, ?_⟩
      refine ⟨_, rfl, v, r, rfl, ir0.mono fun _ _ z => sm3 _ _ z, ok, fun hw => ?_, fun q hw u H4 s4 ipl => ?_⟩
      · refine ⟨rfl, _, rfl, iteF ?_⟩
        have hm : (runX ds (rows.take (i + 1))).m = mx2 (runX ds (rows.take i)).m (bgn (runX ds (rows.take i)).rdy (runX ds (rows.take i)).b r) := by
          rw [hrun]
          show m1 ds _ _ _ r = _
          unfold m1
          rw [hw]
        refine ⟨_, some (.int i), some v, some (.int (bgn (runX ds (rows.take i)).rdy (runX ds (rows.take i)).b r)), o7, o8, o9, ?_, sm3, hb3, inv'⟩
        rw [hm]
        rfl
      · obtain ⟨ua, rfl, _⟩ := ipl
        obtain ⟨ra, rb, rfl, hra, hrb⟩ := ir0
        have sm4 := sm3.trans s4
        refine ⟨rfl, _, rfl, iteT ?_⟩
        refine ⟨_, rfl, _, rfl, _, rfl, dd, rfl, .inl ⟨ds, .inl (sm4 _ _ hd)⟩, _, rfl, ra, _, 0, _, rfl, rfl, .inl (.inl (sm4 _ _ hra)), rfl, _, DGet.k (k := Sum.inr r.op) (sm4 _ _ hd), _, _, rfl, dly_get nds _, _, _, rfl, ?_⟩
        have hm : (runX ds (rows.take (i + 1))).m = mx2 (mx2 (runX ds (rows.take i)).m (bgn (runX ds (rows.take i)).rdy (runX ds (rows.take i)).b r)) (bgn (runX ds (rows.take i)).rdy (runX ds (rows.take i)).b r + dly ds r.op) := by
          rw [hrun]
          show m1 ds _ _ _ r = _
          unfold m1
          rw [hw]
        refine ⟨_, some (.int i), some (.ref ra), some (.int (bgn (runX ds (rows.take i)).rdy (runX ds (rows.take i)).b r)), o7, o8, o9, ?_, sm4, s4 _ _ hb3, inv'⟩
        rw [hm]
        rfl
    · rintro σ H' ⟨bs, o4, o5, o6, o7, o8, o9, rfl, sm, _, _⟩
      have e : rows.take us.length = rows := List.take_of_length_le (by rw [irs.1]; exact Nat.le_refl _)
      rw [e]
      exact ⟨_, rfl, k H' sm⟩
end
end K68

namespace K68
open PySem PySem.Spec PyProof.Rows L2
def opsA : List Str := ["num", "copy", "+", "*", "/", "get", "set", "list", "at", "store", "out", "load", "save", "move"]
def opsB : List Str := ["call", "new"]
def opsC : List Str := ["-", "<", "=", "and", "or", "rest", "not", "long", "tick"]
def spLaw (K : PySem.W.Frag) : Sp := fun vs H Q _ => ∃ (a : Addr) (ns : List Int), vs = [.ref a] ∧ SqL K H a (ns.map V.int) ∧ ns.length ≤ 63 ∧ ∀ H', Q (.bl true) H'
theorem unsnoc {zs : List Int} {n : Nat} (h : zs.length = n + 1) : ∃ ys z, zs = ys ++ [z] ∧ ys.length = n := by
  rcases List.eq_nil_or_concat zs with rfl | ⟨ys, z, rfl⟩
  · simp at h
  · refine ⟨ys, z, List.concat_eq_append .., ?_⟩
    rw [List.length_concat] at h
    omega
theorem _root_.L2.Same.tups' {H H' : Hp} (s : Same H H') : ∀ b xs, H b = some (.tup xs) → H' b = some (.tup xs) := fun b xs h => s b _ h
/-- a dict whose keys are unlike and whose values are ints -/
structure GoodD (ds : List (Key × V)) : Prop where
  sub : ∀ p ∈ ds, valV ds p.1 = some p.2
  nums : ∀ p ∈ ds, ∃ i, p.2 = V.int i
theorem GoodD.nil : GoodD [] := ⟨fun p h => (nomatch h), fun p h => (nomatch h)⟩
theorem GoodD.num {ds : List (Key × V)} (h : GoodD ds) : NumD ds := by
  intro k v e
  unfold valV at e
  cases hf : ds.find? fun kv => decide (kv.1 = k) with
  | none => rw [hf] at e; cases e
  | some p =>
    rw [hf] at e
    obtain ⟨i, hi⟩ := h.nums p (List.mem_of_find?_eq_some hf)
    exact ⟨i, by rw [← Option.some.inj e]; exact hi⟩
theorem GoodD.put {ds : List (Key × V)} (h : GoodD ds) (k : Key) (i : Int) : GoodD (putK ds k (.int i)) := by
  have key : ∀ p ∈ putK ds k (.int i), (p.1 = k ∧ p.2 = .int i) ∨ (p.1 ≠ k ∧ p ∈ ds) := by
    intro p hp
    unfold putK at hp
    by_cases ha : (ds.any fun kv => decide (kv.1 = k)) = true
    · rw [if_pos ha] at hp
      obtain ⟨q, hq, rfl⟩ := List.mem_map.mp hp
      by_cases e : q.1 = k
      · rw [if_pos e]; exact .inl ⟨e, rfl⟩
      · rw [if_neg e]; exact .inr ⟨e, hq⟩
    · rw [if_neg ha] at hp
      rcases List.mem_append.mp hp with z | z
      · refine .inr ⟨fun e => ha (List.any_eq_true.mpr ⟨p, z, decide_eq_true e⟩), z⟩
      · simp at z
        subst z
        exact .inl ⟨rfl, rfl⟩
  refine ⟨fun p hp => ?_, fun p hp => ?_⟩
  · rw [valV_put]
    rcases key p hp with ⟨e1, e2⟩ | ⟨e1, e2⟩
    · rw [if_pos e1, e2]
    · rw [if_neg e1]; exact h.sub p e2
  · rcases key p hp with ⟨e1, e2⟩ | ⟨e1, e2⟩
    · exact ⟨i, e2⟩
    · exact h.nums p e2
theorem ticks_nil (ds : List (Key × V)) : ticks ds [] = 0 := rfl
section
variable {P : Program} {w : World} {K : PySem.W.Frag} {mg : Str → Option Value} {base : Heap}
theorem sc_law : FnScope ["_law_script", "_law_draws_here", "_law_shape", "_law_rows", "_law_ops", "_law_delays", "_law_op", "_law_draw", "_law_nines", "_law_told_here", "_law_handed", "_law_found"] ["_law_script"] (defScope sLaw) := ⟨rfl, rfl, rfl, by decide +kernel, rfl, by decide +kernel, by decide +kernel⟩
set_option maxHeartbeats 8000000 in
theorem ok_law {f : Addr} {fd : FuncData} (F : Fun K "law" "law" sLaw f fd) (T : Txt0 K mg) (F__law_draws : FnB P w K mg base 2 "_law_draws" ["_law_script", "_law_at", "_law_many"] (spDraws K)) (F__law_row : FnB P w K mg base 2 "_law_row" ["_law_draws_here", "_law_shape", "_law_rooms"] spRow) (F_ticks_of : FnB P w K mg base 5 "ticks_of" ["rows", "delays"] spTicks) (F__law_due : FnB P w K mg base 2 "_law_due" ["_law_rows", "_law_delays"] spDue) : FnOk P w K mg base CX0 6 f fd ["_law_script"] (spLaw K) := by
  refine F.okQ sc_law (fun vs H Q E h => ?_) (fun cdv A outer s H vs Q E hr h => ?_)
  · obtain ⟨a, ns, rfl, _⟩ := h
    rfl
  · obtain ⟨a, ns, rfl, hS, hlen, k⟩ := h
    have nd := sc_law.nd
    have hsl : (2000000 : Nat) ≤ sizeLine := by rw [sizeLine_eq]; omega
    refine ⟨_, (qss_cons (qs_set (i := 1) nd rfl (Or.inr rfl) (qe_fn F__law_draws (hr.mono (by first | decide | omega)) rfl (qa_cons (qv 0) (qa_cons qe_int (qa_cons qe_int qa_nil)))))
      (qss_cons (qs_set (i := 2) nd rfl (Or.inr rfl) (qe_tup (qa_cons (qe_op op_add qe_int (qe_op op_mod (qe_bm0 PySem.F.plainAttrs_list PySem.F.slot_list_pop PySem.F.type_list_pop mt_pop (qv 1)) qe_int)) (qa_cons (qe_op op_mod (qe_bm0 PySem.F.plainAttrs_list PySem.F.slot_list_pop PySem.F.type_list_pop mt_pop (qv 1)) qe_int) qa_nil))))
      (qss_cons (qs_set (i := 3) nd rfl (Or.inl rfl) (qe_callTy call_tuple_of rfl T.n_tuple boot_tuple (qa_cons (qe_comp (N' := ["_law_k", "_law_draws_here", "_law_shape"]) (n := 1) (js := [1, 2]) (Caps.of rfl rfl (by decide) (by decide) rfl (List.forall_mem_cons.mpr ⟨rfl, (List.forall_mem_cons.mpr ⟨rfl, (List.forall_mem_nil _)⟩)⟩) ["_law_shape", "_law_draws_here"] rfl (by decide +kernel) (List.forall_mem_cons.mpr ⟨⟨rfl, rfl, Or.inl rfl⟩, (List.forall_mem_cons.mpr ⟨⟨rfl, rfl, Or.inl rfl⟩, (List.forall_mem_nil _)⟩)⟩)) rfl (qi_range1 rfl T.n_range (qa_cons (qe_op op_mod (qe_bm0 PySem.F.plainAttrs_list PySem.F.slot_list_pop PySem.F.type_list_pop mt_pop (qv 1)) qe_int) qa_nil)) (fun _ _ _ => ⟨(qg_name (i := 0) (show List.Nodup (["_law_k", "_law_draws_here", "_law_shape"] : List Str) from by decide +kernel) rfl (Or.inl rfl)), qts_nil, (qe_fn F__law_row (hr.mono (by first | decide | omega)) rfl (qa_cons (qv 1) (qa_cons (qv 2) (qa_cons (qe_disp (qps_cons qe_str (qe_callB (call_min2 rfl) rfl T.n_min boot_min (qa_cons qe_int (qa_cons (qe_ix (show IxR _ (rIxT K) from ix_tup) (qv 2) qe_int (fun _ _ => rfl)) qa_nil))) qps_nil) rfl rfl (by simp) (by decide)) qa_nil))))⟩)) qa_nil)))
      (qss_cons (qs_set (i := 4) nd rfl (Or.inl rfl) (qe_lst_strs (xs := opsA) rfl))
      (qss_cons (qs_set (i := 4) nd rfl (Or.inl rfl) (qe_op op_cat (qv 4) (qe_lst_strs (xs := opsB) rfl)))
      (qss_cons (qs_set (i := 5) nd rfl (Or.inl rfl) qe_dnewK)
      (qss_cons (qs_for PassesOwn.never rfl (qi_list (qv 4)) (qg_name (i := 6) nd rfl (Or.inl rfl)) (qss_cons (qs_set (i := 7) nd rfl (Or.inl rfl) (qe_bm0 PySem.F.plainAttrs_list PySem.F.slot_list_pop PySem.F.type_list_pop mt_pop (qv 1)))
      (qss_one (qs_if (qt_cmpR op_gt (qe_op op_mod (qv 7) qe_int) qe_int (nomark _)) (qss_one (qs_dput (hu_of hr) (qv 5) (qv 6) (qe_op op_add qe_int (qe_op op_mod (qe_op op_fdiv (qv 7) qe_int) qe_int)) rfl)) qss_nil))))
      (qss_cons (qs_set (i := 8) nd rfl (Or.inl rfl) qe_dnewK)
      (qss_cons (qs_for PassesOwn.never rfl (qi_list (qe_op op_cat (qv 4) (qe_lst_strs (xs := opsC) rfl))) (qg_name (i := 6) nd rfl (Or.inl rfl)) (qss_one (qs_dput (hu_of hr) (qv 8) (qv 6) qe_int rfl)))
      (qss_cons (qs_for PassesOwn.never rfl (qi_list (qe_lst (qa_cons (qv 5) (qa_cons qe_dnewK (qa_cons (qv 8) (qa_cons (qv 5) qa_nil)))))) (qg_name (i := 9) nd rfl (Or.inl rfl)) (qss_cons (qs_set (i := 10) nd rfl (Or.inl rfl) (qe_callTy call_dictD rfl T.n_dict boot_dict (qa_cons (qv 9) qa_nil)))
      (qss_cons (qs_set (i := 11) nd rfl (Or.inl rfl) (qe_fn F_ticks_of (hr.mono (by first | decide | omega)) rfl (qa_cons (qv 3) (qa_cons (qv 10) qa_nil))))
      (qss_one (qs_if (QW.pt (qw_or (qt_not (qt_val (qe_callB call_isinst rfl T.n_isinstance boot_isi (qa_cons (qv 11) (qa_cons (qe_bltn (v := .ty "int") rfl T.n_int boot_int rfl) qa_nil))))) (qw_or (qt_val (qe_callB call_isinst rfl T.n_isinstance boot_isi (qa_cons (qv 11) (qa_cons (qe_bltn (v := .ty "bool") rfl T.n_bool boot_bool rfl) qa_nil)))) (qw_or (qt_cmpR op_ne (qv 11) (qe_fn F__law_due (hr.mono (by first | decide | omega)) rfl (qa_cons (qv 3) (qa_cons (qv 9) qa_nil))) (nomark _)) (qw_or1 (qt_cmpR (op_neD hr.units0) (qv 10) (qv 9) (nomark _))))))) (qss_one (qs_ret qe_bl)) qss_nil)))))
      (qss_one (qs_ret (qe_cmpR op_eq (qe_fn F_ticks_of (hr.mono (by first | decide | omega)) rfl (qa_cons (qe_tup qa_nil) (qa_cons (qv 5) qa_nil))) qe_int (nomark _)))))))))))))), ?_⟩
    refine ⟨_, rfl, a, ns, 0, 60, rfl, hS, by decide, by decide, by decide, by decide, fun dl zs H1 hdl s1 g1 lz => ?_⟩
    obtain ⟨zs1, z1, rfl, lz1⟩ := unsnoc (n := 59) lz
    obtain ⟨zs2, z2, rfl, lz2⟩ := unsnoc (n := 58) lz1
    obtain ⟨zs, z3, rfl, lz3⟩ := unsnoc (n := 57) lz2
    clear lz lz1 lz2
    refine ⟨_, rfl, .inl ⟨rfl, _, SqL.of g1⟩, dl, _, _, rfl, rfl, g1, pop_last _ _, ?_⟩
    rw [pop_rest]
    refine ⟨_, _, rfl, rfl, (show (0 : Int) < 6 by decide), _, _, rfl, rfl, ?_⟩
    refine ⟨_, rfl, .inl ⟨rfl, _, SqL.of upd_same⟩, dl, _, _, rfl, rfl, upd_same, pop_last _ _, ?_⟩
    rw [pop_rest, upd_upd]
    refine ⟨_, _, rfl, rfl, (show (0 : Int) < 6 by decide), (by show 2 ≤ sizeLine; omega), fun sh hsh => ?_⟩
    dsimp only
    have hfew : 0 < 3 + z1 % 6 := by omega
    have hslots : 0 ≤ z2 % 6 := by omega
    generalize 3 + z1 % 6 = few at *
    generalize z2 % 6 = slots at *
    have g2 : upd (upd H1 dl (.lst ((zs ++ [z3]).map V.int))) sh (.tup [V.int few, V.int slots]) dl = some (.lst ((zs ++ [z3]).map V.int)) := by
      rw [upd_ne (fun z => by rw [← z, upd_same] at hsh; cases hsh)]; exact upd_same
    have h2 := upd_same (H := upd H1 dl (.lst ((zs ++ [z3]).map V.int))) (a := sh) (o := .tup [V.int few, V.int slots])
    generalize upd (upd H1 dl (.lst ((zs ++ [z3]).map V.int))) sh (.tup [V.int few, V.int slots]) = H2 at *
    clear hsh g1 s1 hdl
    -- the rows
    refine ⟨_, rfl, .inl ⟨rfl, _, SqL.of g2⟩, dl, _, _, rfl, rfl, g2, pop_last _ _, ?_⟩
    rw [pop_rest]
    have nsh : sh ≠ dl := ne_of h2 g2 (by simp)
    have g3 := upd_same (H := H2) (a := dl) (o := .lst (zs.map V.int))
    have h3 : upd H2 dl (.lst (zs.map V.int)) sh = some (.tup [V.int few, V.int slots]) := by rw [upd_ne nsh]; exact h2
    generalize upd H2 dl (.lst (zs.map V.int)) = H3 at *
    clear g2 h2
    refine ⟨_, _, rfl, rfl, (show (0 : Int) < 13 by decide), z3 % 13, rfl, by omega, by omega, fun D hD => ?_⟩
    have hDdl : D ≠ dl := fun z => by rw [z, g3] at hD; cases hD
    refine comp_range (n := (z3 % 13).toNat) (fun i ys σ H' => (∃ o, σ = [o, some (.ref dl), some (.ref sh)]) ∧ KeepB dl H3 H' ∧ H' D = some (.lst ys) ∧ ∃ ws rows, H' dl = some (.lst (ws.map V.int)) ∧ ws.length + 2 * i = 57 ∧ IsRows H' ys rows ∧ rows.length = i ∧ ∀ r ∈ rows, RowOk r) (by omega)
      ⟨⟨_, rfl⟩, fun c u e n => ((Same.refl H3).upd hD) _ _ e, upd_same, zs, [], ((Same.refl H3).upd hD) _ _ g3, by omega, ⟨rfl, fun i v e => by simp at e⟩, rfl, fun r hr => (nomatch hr)⟩
      (fun i ys σ H' hi ⟨_, _, hd, ws, rows, _, _, ir, el, _⟩ => ⟨hd, by rw [ir.1, el]; exact Nat.le_refl _⟩) ?_ ?_
    · rintro i ys σ H' hi ⟨⟨o, rfl⟩, kp, hd, ws, rows, gw, lw, irs, el, oks⟩
      obtain ⟨ws1, w1, rfl, lw1⟩ := unsnoc (n := 56 - 2 * i) (show ws.length = 56 - 2 * i + 1 by omega)
      obtain ⟨ws2, w2, rfl, lw2⟩ := unsnoc (n := 55 - 2 * i) (show ws1.length = 55 - 2 * i + 1 by omega)
      refine ⟨_, rfl, _, rfl, fun rm hrm => ?_⟩
      have hsh := kp _ _ h3 nsh
      have nrm1 : rm ≠ dl := fun z => by rw [z, gw] at hrm; cases hrm
      have nrm2 : rm ≠ D := fun z => by rw [z, hd] at hrm; cases hrm
      have nrm3 : rm ≠ sh := fun z => by rw [z, hsh] at hrm; cases hrm
      refine ⟨_, rfl, sh, _, 1, _, rfl, rfl, .inl (.inl (by rw [upd_ne nrm3.symm]; exact hsh)), rfl, 2, slots, rfl, upd_same, [(Sum.inr "g", .int (if slots < 2 then slots else 2))], rfl, (by show 1 ≤ 15; decide), ?_⟩
      rw [upd_upd]
      have e5 : mergeK [] [((Sum.inr "g" : Key), V.int (if slots < 2 then slots else 2))] = ([((Sum.inr "g" : Key), V.int (if slots < 2 then slots else 2))] : List (Key × V)) := rfl
      rw [e5]
      have hn : 0 ≤ (if slots < 2 then slots else 2) ∧ (if slots < 2 then slots else 2) ≤ 2 := by
        split <;> omega
      generalize (if slots < 2 then slots else 2) = n at *
      have q1 : upd H' rm (.dK [(Sum.inr "g", V.int n)]) dl = some (.lst ((ws2 ++ [w2] ++ [w1]).map V.int)) := by rw [upd_ne nrm1.symm]; exact gw
      have q2 : upd H' rm (.dK [(Sum.inr "g", V.int n)]) sh = some (.tup [V.int few, V.int slots]) := by rw [upd_ne nrm3.symm]; exact hsh
      have q3 := upd_same (H := H') (a := rm) (o := .dK [(Sum.inr "g", V.int n)])
      have q4 : Same H' (upd H' rm (.dK [(Sum.inr "g", V.int n)])) := (Same.refl H').upd hrm
      generalize upd H' rm (.dK [(Sum.inr "g", V.int n)]) = H5 at *
      refine ⟨dl, sh, rm, ws2, w2, w1, few, slots, n, rfl, q1, q2, q3, hfew, hslots, hn.1, hn.2, fun v r H6 kp6 g6 ir6 ok6 => ?_⟩
      have hd6 := kp6 _ _ (q4 _ _ hd) hDdl
      have tup6 : ∀ c xs, H' c = some (.tup xs) → upd H6 D (.lst (ys ++ [v])) c = some (.tup xs) := fun c xs e => by
        rw [upd_ne (ne_of e hd (by simp))]
        exact kp6 _ _ (q4 _ _ e) (ne_of e gw (by simp))
      have tup7 : ∀ c xs, H6 c = some (.tup xs) → upd H6 D (.lst (ys ++ [v])) c = some (.tup xs) := fun c xs e => by
        rw [upd_ne (ne_of e hd6 (by simp))]; exact e
      refine ⟨hd6, ⟨_, rfl⟩, fun c u e n => ?_, upd_same, ws2, rows ++ [r], by rw [upd_ne hDdl.symm]; exact g6, by omega, ⟨by simp [irs.1], fun j u hu => ?_⟩, by simp [el], fun r' hr' => ?_⟩
      · rw [upd_ne (ne_of_none e hD)]
        exact kp6 _ _ (q4 _ _ (kp _ _ e n)) n
      · rcases snoc_at hu with hu | ⟨ej, eu⟩
        · obtain ⟨r0, e1, e2⟩ := irs.2 j u hu
          refine ⟨r0, ?_, e2.mono tup6⟩
          rw [List.getElem?_append_left (List.getElem?_eq_some_iff.mp e1).1]
          exact e1
        · subst eu
          refine ⟨r, ?_, ir6.mono tup7⟩
          rw [ej, irs.1]
          simp
      · rcases List.mem_append.mp hr' with z | z
        · exact oks r' z
        · simp at z
          rw [z]
          exact ok6
    · rintro ys σ H4 ⟨_, kp, hd, ws, rows, gw, lw, irs, el, oks⟩
      have hrl : rows.length ≤ 12 := by omega
      refine ⟨D, ys, rfl, .inl ⟨SqL.of hd, fun rt hrt => ?_⟩⟩
      have s5 : Same H4 (upd H4 rt (.tup ys)) := (Same.refl H4).upd hrt
      have g5 := upd_same (H := H4) (a := rt) (o := .tup ys)
      have irs5 := irs.mono s5.tups'
      have gw5 := s5 _ _ gw
      generalize upd H4 rt (.tup ys) = H5 at *
      clear hd kp gw irs g3 h3 s5
      -- the ops
      refine ⟨(by show 14 ≤ sizeLine; omega), fun p1 f1 => ?_⟩
      have s6 := (Same.refl H5).upd (o := .lst (opsA.map V.str)) f1
      have g6 := upd_same (H := H5) (a := p1) (o := .lst (opsA.map V.str))
      generalize upd H5 p1 (.lst (opsA.map V.str)) = H6 at *
      refine ⟨_, rfl, (by show 2 ≤ sizeLine; omega), fun p2 f2 => ⟨p1, p2, _, _, rfl, rfl, ((Same.refl H6).upd f2) _ _ g6, upd_same, (by show 16 ≤ sizeLine; omega), fun p3 f3 => ?_⟩⟩
      have s7 := (s6.upd (o := .lst (opsB.map V.str)) f2).upd (o := .lst (opsA.map V.str ++ opsB.map V.str)) f3
      have g7 := upd_same (H := upd H6 p2 (.lst (opsB.map V.str))) (a := p3) (o := .lst (opsA.map V.str ++ opsB.map V.str))
      generalize upd (upd H6 p2 (.lst (opsB.map V.str))) p3 (.lst (opsA.map V.str ++ opsB.map V.str)) = H7 at *
      intro dd hdd
      have s8 := s7.upd (o := .dK []) hdd
      have g8 := ((Same.refl H7).upd (o := .dK []) hdd) _ _ g7
      have d8 := upd_same (H := H7) (a := dd) (o := .dK [])
      generalize upd H7 dd (.dK []) = H8 at *
      have rt8 := s8 _ _ g5
      have irs8 := irs5.mono s8.tups'
      have gw8 := s8 _ _ gw5
      clear s6 s7 s8 g6 g7 g5 irs5 gw5 f1 f2 f3 hdd
      have ndd : dd ≠ dl := ne_of d8 gw8 (by simp)
      have np3 : p3 ≠ dl := fun z => by
        rw [z, gw8] at g8
        have := congrArg (fun o => match o with | some (HO.lst (V.int _ :: _)) => true | _ => false) g8
        obtain ⟨ws1, w1, rfl, _⟩ := unsnoc (n := ws.length - 1) (show ws.length = ws.length - 1 + 1 by omega)
        cases ws1 <;> simp [opsA] at this
      -- the delays
      dsimp only [gName]
      refine join (t := tFor _ _ _) (fun σ' H' => ∃ o6 o7 ds, σ' = [some (.ref a), some (.ref dl), some (.ref sh), some (.ref rt), some (.ref p3), some (.ref dd), o6, o7, none, none, none, none] ∧ H' rt = some (.tup ys) ∧ IsRows H' ys rows ∧ H' p3 = some (.lst (opsA.map V.str ++ opsB.map V.str)) ∧ H' dd = some (.dK ds) ∧ GoodD ds) ?_ (fun go => ?_)
      case refine_2 =>
        refine ⟨_, rfl, p3, rfl, ⟨_, SqL.of g8⟩, ?_⟩
        refine for_list (xs := opsA.map V.str ++ opsB.map V.str) (fun i σ H' => (∃ o6 o7, σ = [some (.ref a), some (.ref dl), some (.ref sh), some (.ref rt), some (.ref p3), some (.ref dd), o6, o7, none, none, none, none]) ∧ (∀ c u, H8 c = some u → c ≠ dl → c ≠ dd → H' c = some u) ∧ ∃ ws ds, H' dl = some (.lst (ws.map V.int)) ∧ 33 ≤ ws.length + i ∧ H' dd = some (.dK ds) ∧ GoodD ds ∧ ds.length ≤ i)
          ⟨⟨_, _, rfl⟩, fun c u e _ _ => e, ws, [], gw8, by omega, d8, GoodD.nil, by simp⟩ (fun i σ H' _ ⟨_, kp, _⟩ => SqL.of (kp _ _ g8 np3 (ne_of g8 d8 (by simp)))) ?_ ?_
        · rintro i x σ H' hx ⟨⟨o6, o7, rfl⟩, kp, ws, ds, gw, lw', gd, good, ld⟩
          have hi16 : i < 16 := (List.getElem?_eq_some_iff.mp hx).1
          obtain ⟨op, rfl⟩ : ∃ op, x = .str op := by
            have := List.mem_of_getElem? hx
            rw [← List.map_append] at this
            obtain ⟨op, _, e⟩ := List.mem_map.mp this
            exact ⟨op, e.symm⟩
          obtain ⟨ws1, w1, rfl, lw1⟩ := unsnoc (n := ws.length - 1) (show ws.length = ws.length - 1 + 1 by omega)
          refine ⟨_, rfl, .inl ⟨rfl, _, SqL.of gw⟩, dl, _, _, rfl, rfl, gw, pop_last _ _, ?_⟩
          rw [pop_rest]
          have kp1 : ∀ c u, H8 c = some u → c ≠ dl → c ≠ dd → upd H' dl (.lst (ws1.map V.int)) c = some u := fun c u e n1 n2 => by rw [upd_ne n1]; exact kp c u e n1 n2
          have gw1 := upd_same (H := H') (a := dl) (o := .lst (ws1.map V.int))
          have gd1 : upd H' dl (.lst (ws1.map V.int)) dd = some (.dK ds) := by rw [upd_ne ndd]; exact gd
          have lw1' : 33 ≤ ws1.length + (i + 1) := by simp at lw'; omega
          generalize upd H' dl (.lst (ws1.map V.int)) = H9 at *
          refine ⟨_, rfl, _, _, rfl, rfl, (show (0 : Int) < 3 by decide), _, _, rfl, rfl, _, rfl, ite2 (fun h => ?_) (fun h => ?_)⟩
          · refine ⟨_, rfl, _, _, rfl, rfl, ⟨by decide, by decide⟩, _, _, rfl, rfl, (show (0 : Int) < 9 by decide), _, _, rfl, rfl, _, rfl, _, rfl, dd, _, rfl, DPut.k (k := Sum.inr op) gd1 (by omega), ⟨_, _, rfl⟩, fun c u e n1 n2 => by rw [upd_ne n2]; exact kp1 c u e n1 n2, ws1, _, by rw [upd_ne ndd.symm]; exact gw1, lw1', upd_same, good.put _ _, ?_⟩
            exact Nat.le_trans (length_putK _ _ _) (by omega)
          · exact ⟨⟨_, _, rfl⟩, kp1, ws1, ds, gw1, lw1', gd1, good, by omega⟩
        · rintro σ H' ⟨⟨o6, o7, rfl⟩, kp, ws, ds, gw, lw', gd, good, ld⟩
          have tp : ∀ c xs, H8 c = some (.tup xs) → H' c = some (.tup xs) := fun c xs e => kp _ _ e (ne_of e gw8 (by simp)) (ne_of e d8 (by simp))
          exact go _ _ ⟨o6, o7, ds, rfl, tp _ _ rt8, irs8.mono tp, kp _ _ g8 np3 (ne_of g8 d8 (by simp)), gd, good⟩
      rintro _ H9 ⟨o6, o7, ds, rfl, rt9, irs9, g9, d9, good⟩
      -- nines
      intro nn hnn
      have s10 := (Same.refl H9).upd (o := .dK []) hnn
      have n10 := upd_same (H := H9) (a := nn) (o := .dK [])
      generalize upd H9 nn (.dK []) = H10 at *
      have g10 := s10 _ _ g9
      have d10 := s10 _ _ d9
      have rt10 := s10 _ _ rt9
      have irs10 := irs9.mono s10.tups'
      have nnd : dd ≠ nn := fun z => by rw [← z, d9] at hnn; cases hnn
      dsimp only [gName]
      refine join (t := tFor _ _ _) (fun σ' H' => ∃ o6 es, σ' = [some (.ref a), some (.ref dl), some (.ref sh), some (.ref rt), some (.ref p3), some (.ref dd), o6, o7, some (.ref nn), none, none, none] ∧ H' rt = some (.tup ys) ∧ IsRows H' ys rows ∧ H' dd = some (.dK ds) ∧ H' nn = some (.dK es) ∧ GoodD es) ?_ (fun go => ?_)
      case refine_2 =>
        refine ⟨_, rfl, (by show 9 ≤ sizeLine; omega), fun p4 f4 => ⟨p3, p4, _, _, rfl, rfl, ((Same.refl H10).upd f4) _ _ g10, upd_same, (by show 25 ≤ sizeLine; omega), fun p5 f5 => ⟨p5, rfl, ⟨_, SqL.of upd_same⟩, ?_⟩⟩⟩
        have s11 := ((Same.refl H10).upd (o := .lst (opsC.map V.str)) f4).upd (o := .lst (opsA.map V.str ++ opsB.map V.str ++ opsC.map V.str)) f5
        have g11 := upd_same (H := upd H10 p4 (.lst (opsC.map V.str))) (a := p5) (o := .lst (opsA.map V.str ++ opsB.map V.str ++ opsC.map V.str))
        generalize upd (upd H10 p4 (.lst (opsC.map V.str))) p5 (.lst (opsA.map V.str ++ opsB.map V.str ++ opsC.map V.str)) = H11 at *
        have n11 := s11 _ _ n10
        refine for_list (xs := opsA.map V.str ++ opsB.map V.str ++ opsC.map V.str) (fun i σ H' => (∃ o6, σ = [some (.ref a), some (.ref dl), some (.ref sh), some (.ref rt), some (.ref p3), some (.ref dd), o6, o7, some (.ref nn), none, none, none]) ∧ (∀ c u, H11 c = some u → c ≠ nn → H' c = some u) ∧ ∃ es, H' nn = some (.dK es) ∧ GoodD es ∧ es.length ≤ i)
          ⟨⟨_, rfl⟩, fun c u e _ => e, [], n11, GoodD.nil, by simp⟩ (fun i σ H' _ ⟨_, kp, _⟩ => SqL.of (kp _ _ g11 (ne_of g11 n11 (by simp)))) ?_ ?_
        · rintro i x σ H' hx ⟨⟨o6, rfl⟩, kp, es, ge, goodE, le⟩
          have hi25 : i < 25 := (List.getElem?_eq_some_iff.mp hx).1
          obtain ⟨op, rfl⟩ : ∃ op, x = .str op := by
            have := List.mem_of_getElem? hx
            rw [← List.map_append, ← List.map_append] at this
            obtain ⟨op, _, e⟩ := List.mem_map.mp this
            exact ⟨op, e.symm⟩
          refine ⟨_, rfl, _, rfl, nn, _, rfl, DPut.k (k := Sum.inr op) ge (by omega), ⟨_, rfl⟩, fun c u e n => by rw [upd_ne n]; exact kp c u e n, _, upd_same, goodE.put _ _, ?_⟩
          exact Nat.le_trans (length_putK _ _ _) (by omega)
        · rintro σ H' ⟨⟨o6, rfl⟩, kp, es, ge, goodE, le⟩
          have tp : ∀ c xs, H10 c = some (.tup xs) → H' c = some (.tup xs) := fun c xs e => kp _ _ (s11 _ _ e) (ne_of e n10 (by simp))
          exact go _ _ ⟨o6, es, rfl, tp _ _ rt10, irs10.mono tp, kp _ _ (s11 _ _ d10) nnd, ge, goodE⟩
      rintro _ H12 ⟨o6, es, rfl, rt12, irs12, d12, n12, goodE⟩
      clear irs10 rt10 d10 g10 n10 s10 irs9 rt9 d9 g9 irs8 rt8 d8 g8 gw8
      refine join (t := tFor _ _ _) (fun σ' H' => ∃ o6 o7 o9 o10 o11, σ' = [some (.ref a), some (.ref dl), some (.ref sh), some (.ref rt), some (.ref p3), some (.ref dd), o6, o7, some (.ref nn), o9, o10, o11] ∧ Same H12 H') ?_ (fun go => ?_)
      case refine_2 =>
        refine ⟨_, rfl, fun e0 he0 => ⟨_, rfl, _, rfl, (by show 4 ≤ sizeLine; omega), fun q hq => ⟨q, rfl, ⟨_, SqL.of upd_same⟩, ?_⟩⟩⟩
        have s13 := ((Same.refl H12).upd (o := .dK []) he0).upd (o := .lst [V.ref dd, V.ref e0, V.ref nn, V.ref dd]) hq
        have e13 := ((Same.refl _).upd (o := .lst [V.ref dd, V.ref e0, V.ref nn, V.ref dd]) hq) _ _ (upd_same (H := H12) (a := e0) (o := .dK []))
        have q13 := upd_same (H := upd H12 e0 (.dK [])) (a := q) (o := .lst [V.ref dd, V.ref e0, V.ref nn, V.ref dd])
        generalize upd (upd H12 e0 (.dK [])) q (.lst [V.ref dd, V.ref e0, V.ref nn, V.ref dd]) = H13 at *
        refine for_list (xs := [V.ref dd, V.ref e0, V.ref nn, V.ref dd]) (fun i σ H' => (∃ o6 o7 o9 o10 o11, σ = [some (.ref a), some (.ref dl), some (.ref sh), some (.ref rt), some (.ref p3), some (.ref dd), o6, o7, some (.ref nn), o9, o10, o11]) ∧ Same H13 H') ⟨⟨_, _, _, _, _, rfl⟩, Same.refl H13⟩ (fun i σ H' _ ⟨_, sm⟩ => sm.seq (SqL.of q13)) ?_ ?_
        · rintro i x σ H' hx ⟨⟨o6, o7, o9, o10, o11, rfl⟩, sm⟩
          obtain ⟨t, ds', rfl, ht, good'⟩ : ∃ t ds', x = .ref t ∧ H13 t = some (.dK ds') ∧ GoodD ds' := by
            have := List.mem_of_getElem? hx
            simp only [List.mem_cons, List.not_mem_nil, or_false] at this
            rcases this with rfl | rfl | rfl | rfl
            · exact ⟨_, _, rfl, s13 _ _ d12, good⟩
            · exact ⟨_, _, rfl, e13, GoodD.nil⟩
            · exact ⟨_, _, rfl, s13 _ _ n12, goodE⟩
            · exact ⟨_, _, rfl, s13 _ _ d12, good⟩
          have ht' := sm _ _ ht
          have sA := s13.trans sm
          refine ⟨_, rfl, t, ds', rfl, .inl ht', fun hh fh => ?_⟩
          have sB := (Same.refl H').upd (o := .dK ds') fh
          have gh := upd_same (H := H') (a := hh) (o := .dK ds')
          generalize upd H' hh (.dK ds') = H14 at *
          have sC := sA.trans sB
          refine ⟨_, rfl, _, rfl, rt, hh, ys, rows, ds', rfl, sC _ _ rt12, irs12.mono sC.tups', oks, by omega, gh, good'.num, fun H15 s15 => ?_⟩
          have sD := sC.trans s15
          refine ⟨_, rfl, _, _, _, _, rfl, .int _, kit_int_int _, _, rfl, iteF ?_⟩
          refine ⟨_, rfl, _, _, _, _, rfl, .int _, kit_int_bool _, _, rfl, iteF ?_⟩
          refine ⟨_, rfl, _, rfl, _, rfl, rt, t, ys, rows, ds', rfl, sD _ _ rt12, irs12.mono sD.tups', oks, by omega, s15 _ _ (sB _ _ ht'), good'.num, fun H16 s16 => ⟨rfl, _, rfl, ?_⟩⟩
          rw [decide_eq_true rfl]
          refine iteF ?_
          refine ⟨_, rfl, _, rfl, hh, t, ds', rfl, rfl, .inl (s16 _ _ (s15 _ _ gh)), .inl (s16 _ _ (s15 _ _ (sB _ _ ht'))), good'.sub, good'.nums, _, rfl, iteF ?_⟩
          exact ⟨⟨_, _, _, _, _, rfl⟩, ((sm.trans sB).trans s15).trans s16⟩
        · rintro σ H' ⟨⟨o6, o7, o9, o10, o11, rfl⟩, sm⟩
          exact go _ _ ⟨_, _, _, _, _, rfl, s13.trans sm⟩
      rintro _ H14 ⟨o6, o7, o9, o10, o11, rfl, s14⟩
      refine ⟨(by show 0 ≤ sizeLine; omega), fun q0 h0 => ⟨_, rfl, q0, dd, [], [], ds, rfl, upd_same, ⟨rfl, fun i v e => by simp at e⟩, fun r hr => (nomatch hr), by decide, ((Same.refl H14).upd h0) _ _ (s14 _ _ d12), good.num, fun H15 s15 => ⟨rfl, ?_⟩⟩⟩
      rw [ticks_nil, decide_eq_true rfl]
      exact k H15
end
end K68

namespace K68
open PySem PySem.Spec PyProof.Rows L2
set_option maxHeartbeats 4000000 in
theorem all_mk {l : PySem.W.OpenLaw} {w : World} {K : PySem.W.Frag} {h : Heap} {mg : Str → Option Value} {fa C f0 f1 f2 f3 f4 f5 f6 f7 f8 f9 f10 f11 fI fD fG fB : Addr} (X : K.In h) (G : h.Ns mainGlobals mg) (hfa : mg "law" = some (.ref fa))
    {od0 an0 od1 an1 od2 an2 od3 an3 od4 an4 od5 an5 od6 an6 od7 an7 od8 an8 od9 an9 od10 an10 od11 an11 odI anI odD anD odG anG odB anB : Option Addr} {sl0 sl1 sl2 sl3 sl4 sl5 sl6 sl7 sl8 sl9 sl10 sl11 slI slD slG slB : Array (Option Value)} {oc0 kV0 dc0 pm0 cd0 ct0 oc1 kV1 dc1 pm1 cd1 ct1 oc2 kV2 dc2 pm2 cd2 ct2 oc3 kV3 dc3 pm3 cd3 ct3 oc4 kV4 dc4 pm4 cd4 ct4 oc5 kV5 dc5 pm5 cd5 ct5 oc6 kV6 dc6 pm6 cd6 ct6 oc7 kV7 dc7 pm7 cd7 ct7 oc8 kV8 dc8 pm8 cd8 ct8 oc9 kV9 dc9 pm9 cd9 ct9 oc10 kV10 dc10 pm10 cd10 ct10 oc11 kV11 dc11 pm11 cd11 ct11 ocI kVI dcI pmI cdI ctI ocD kVD dcD pmD cdD ctD ocG kVG dcG pmG cdG ctG ocB kVB dcB pmB cdB ctB : Value}
    (a0 : PySem.W.nsIn K mainGlobals "slot_place" = some (some (.ref f0))) (l0 : K.lookup f0 = some ⟨oc0, od0, .func (PySem.W.fnOf "slot_place" "slot_place" (defArgs sSlotPlace) (defBody sSlotPlace) (defScope sSlotPlace) .none kV0 dc0 pm0 an0 cd0 ct0), sl0⟩) (c0 : PySem.W.codeIn K cd0 "slot_place" = true) (k0 : PySem.W.keepIn K (.ref f0) = true)
    (a1 : PySem.W.nsIn K mainGlobals "places_read" = some (some (.ref f1))) (l1 : K.lookup f1 = some ⟨oc1, od1, .func (PySem.W.fnOf "places_read" "places_read" (defArgs sPlacesRead) (defBody sPlacesRead) (defScope sPlacesRead) .none kV1 dc1 pm1 an1 cd1 ct1), sl1⟩) (c1 : PySem.W.codeIn K cd1 "places_read" = true) (k1 : PySem.W.keepIn K (.ref f1) = true)
    (a2 : PySem.W.nsIn K mainGlobals "place_written" = some (some (.ref f2))) (l2 : K.lookup f2 = some ⟨oc2, od2, .func (PySem.W.fnOf "place_written" "place_written" (defArgs sPlaceWritten) (defBody sPlaceWritten) (defScope sPlaceWritten) .none kV2 dc2 pm2 an2 cd2 ct2), sl2⟩) (c2 : PySem.W.codeIn K cd2 "place_written" = true) (k2 : PySem.W.keepIn K (.ref f2) = true)
    (a3 : PySem.W.nsIn K mainGlobals "ticks_of" = some (some (.ref f3))) (l3 : K.lookup f3 = some ⟨oc3, od3, .func (PySem.W.fnOf "ticks_of" "ticks_of" (defArgs sTicksOf) (defBody sTicksOf) (defScope sTicksOf) .none kV3 dc3 pm3 an3 cd3 ct3), sl3⟩) (c3 : PySem.W.codeIn K cd3 "ticks_of" = true) (k3 : PySem.W.keepIn K (.ref f3) = true)
    (a4 : PySem.W.nsIn K mainGlobals "_law_cell" = some (some (.ref f4))) (l4 : K.lookup f4 = some ⟨oc4, od4, .func (PySem.W.fnOf "_law_cell" "_law_cell" (defArgs sLawCell) (defBody sLawCell) (defScope sLawCell) .none kV4 dc4 pm4 an4 cd4 ct4), sl4⟩) (c4 : PySem.W.codeIn K cd4 "_law_cell" = true) (k4 : PySem.W.keepIn K (.ref f4) = true)
    (a5 : PySem.W.nsIn K mainGlobals "_law_draws" = some (some (.ref f5))) (l5 : K.lookup f5 = some ⟨oc5, od5, .func (PySem.W.fnOf "_law_draws" "_law_draws" (defArgs sLawDraws) (defBody sLawDraws) (defScope sLawDraws) .none kV5 dc5 pm5 an5 cd5 ct5), sl5⟩) (c5 : PySem.W.codeIn K cd5 "_law_draws" = true) (k5 : PySem.W.keepIn K (.ref f5) = true)
    (a6 : PySem.W.nsIn K mainGlobals "_law_told" = some (some (.ref f6))) (l6 : K.lookup f6 = some ⟨oc6, od6, .func (PySem.W.fnOf "_law_told" "_law_told" (defArgs sLawTold) (defBody sLawTold) (defScope sLawTold) .none kV6 dc6 pm6 an6 cd6 ct6), sl6⟩) (c6 : PySem.W.codeIn K cd6 "_law_told" = true) (k6 : PySem.W.keepIn K (.ref f6) = true)
    (a7 : PySem.W.nsIn K mainGlobals "_law_row" = some (some (.ref f7))) (l7 : K.lookup f7 = some ⟨oc7, od7, .func (PySem.W.fnOf "_law_row" "_law_row" (defArgs sLawRow) (defBody sLawRow) (defScope sLawRow) .none kV7 dc7 pm7 an7 cd7 ct7), sl7⟩) (c7 : PySem.W.codeIn K cd7 "_law_row" = true) (k7 : PySem.W.keepIn K (.ref f7) = true)
    (a8 : PySem.W.nsIn K mainGlobals "_law_read" = some (some (.ref f8))) (l8 : K.lookup f8 = some ⟨oc8, od8, .func (PySem.W.fnOf "_law_read" "_law_read" (defArgs sLawRead) (defBody sLawRead) (defScope sLawRead) .none kV8 dc8 pm8 an8 cd8 ct8), sl8⟩) (c8 : PySem.W.codeIn K cd8 "_law_read" = true) (k8 : PySem.W.keepIn K (.ref f8) = true)
    (a9 : PySem.W.nsIn K mainGlobals "_law_written" = some (some (.ref f9))) (l9 : K.lookup f9 = some ⟨oc9, od9, .func (PySem.W.fnOf "_law_written" "_law_written" (defArgs sLawWritten) (defBody sLawWritten) (defScope sLawWritten) .none kV9 dc9 pm9 an9 cd9 ct9), sl9⟩) (c9 : PySem.W.codeIn K cd9 "_law_written" = true) (k9 : PySem.W.keepIn K (.ref f9) = true)
    (a10 : PySem.W.nsIn K mainGlobals "_law_due" = some (some (.ref f10))) (l10 : K.lookup f10 = some ⟨oc10, od10, .func (PySem.W.fnOf "_law_due" "_law_due" (defArgs sLawDue) (defBody sLawDue) (defScope sLawDue) .none kV10 dc10 pm10 an10 cd10 ct10), sl10⟩) (c10 : PySem.W.codeIn K cd10 "_law_due" = true) (k10 : PySem.W.keepIn K (.ref f10) = true)
    (a11 : PySem.W.nsIn K mainGlobals "law" = some (some (.ref f11))) (l11 : K.lookup f11 = some ⟨oc11, od11, .func (PySem.W.fnOf "law" "law" (defArgs sLaw) (defBody sLaw) (defScope sLaw) .none kV11 dc11 pm11 an11 cd11 ct11), sl11⟩) (c11 : PySem.W.codeIn K cd11 "law" = true) (k11 : PySem.W.keepIn K (.ref f11) = true)
    (z0 : PySem.W.nsIn K mainGlobals "len" = some none)
    (z1 : PySem.W.nsIn K mainGlobals "isinstance" = some none)
    (z2 : PySem.W.nsIn K mainGlobals "int" = some none)
    (z3 : PySem.W.nsIn K mainGlobals "bool" = some none)
    (z4 : PySem.W.nsIn K mainGlobals "list" = some none)
    (z5 : PySem.W.nsIn K mainGlobals "tuple" = some none)
    (z6 : PySem.W.nsIn K mainGlobals "dict" = some none)
    (z7 : PySem.W.nsIn K mainGlobals "max" = some none)
    (z8 : PySem.W.nsIn K mainGlobals "min" = some none)
    (z9 : PySem.W.nsIn K mainGlobals "range" = some none)
    (z10 : PySem.W.nsIn K mainGlobals "enumerate" = some none)
    (nC : PySem.W.nsIn K mainGlobals "Clock" = some (some (.ref C)))
    (ypg : PySem.W.plainGet K C Str.empty = true)
    (yhd : PySem.W.hasDictIn K C = true)
    (ypo : PySem.W.plainOver K C = true)
    (ysa : PySem.W.findIn K (.ref C) "__setattr__" = some (some (.builtin "object.__setattr__")))
    (yn0 : PySem.W.findIn K (.ref C) "delays" = some none)
    (yn1 : PySem.W.findIn K (.ref C) "ready" = some none)
    (yn2 : PySem.W.findIn K (.ref C) "begun" = some none)
    (yn3 : PySem.W.findIn K (.ref C) "greatest" = some none)
    (ymk : PySem.W.makesIn K C = true)
    (ykp : PySem.W.keepIn K (.ref C) = true)
    (aI : PySem.W.findIn K (.ref C) "__init__" = some (some (.ref fI)))
    (hI : PySem.W.isFn K (.ref fI) = true)
    (lI : K.lookup fI = some ⟨ocI, odI, .func (PySem.W.fnOf "__init__" "Clock.__init__" (defArgs sClockInit) (defBody sClockInit) (defScope sClockInit) .none kVI dcI pmI anI cdI ctI), slI⟩)
    (cI : PySem.W.codeIn K cdI "Clock.__init__" = true)
    (kI : PySem.W.keepIn K (.ref fI) = true)
    (aD : PySem.W.findIn K (.ref C) "delay_of" = some (some (.ref fD)))
    (hD : PySem.W.isFn K (.ref fD) = true)
    (lD : K.lookup fD = some ⟨ocD, odD, .func (PySem.W.fnOf "delay_of" "Clock.delay_of" (defArgs sClockDelayOf) (defBody sClockDelayOf) (defScope sClockDelayOf) .none kVD dcD pmD anD cdD ctD), slD⟩)
    (cD : PySem.W.codeIn K cdD "Clock.delay_of" = true)
    (kD : PySem.W.keepIn K (.ref fD) = true)
    (aG : PySem.W.findIn K (.ref C) "beginning" = some (some (.ref fG)))
    (hG : PySem.W.isFn K (.ref fG) = true)
    (lG : K.lookup fG = some ⟨ocG, odG, .func (PySem.W.fnOf "beginning" "Clock.beginning" (defArgs sClockBeginning) (defBody sClockBeginning) (defScope sClockBeginning) .none kVG dcG pmG anG cdG ctG), slG⟩)
    (cG : PySem.W.codeIn K cdG "Clock.beginning" = true)
    (kG : PySem.W.keepIn K (.ref fG) = true)
    (aB : PySem.W.findIn K (.ref C) "begin" = some (some (.ref fB)))
    (hB : PySem.W.isFn K (.ref fB) = true)
    (lB : K.lookup fB = some ⟨ocB, odB, .func (PySem.W.fnOf "begin" "Clock.begin" (defArgs sClockBegin) (defBody sClockBegin) (defScope sClockBegin) .none kVB dcB pmB anB cdB ctB), slB⟩)
    (cB : PySem.W.codeIn K cdB "Clock.begin" = true)
    (kB : PySem.W.keepIn K (.ref fB) = true)
    : ∃ fd : FuncData, (∀ (s : Shared) (v : Value), BindsTo s fd ⟨[v], []⟩ [("_law_script", v)]) ∧ ∀ base : Heap, K.In base → base.Ns mainGlobals mg → FnOk l.prog w K mg base CX0 6 fa fd ["_law_script"] (spLaw K) := by
  have e := hfa.symm.trans (PySem.W.mg_of X G a11)
  cases e
  have T : Txt0 K mg := ⟨PySem.W.mg_none_of X G z0, PySem.W.mg_none_of X G z1, PySem.W.mg_none_of X G z2, PySem.W.mg_none_of X G z3, PySem.W.mg_none_of X G z4, PySem.W.mg_none_of X G z5, PySem.W.mg_none_of X G z6, PySem.W.mg_none_of X G z7, PySem.W.mg_none_of X G z8, PySem.W.mg_none_of X G z9, PySem.W.mg_none_of X G z10⟩
  have F0 := fun_mk (st := sSlotPlace) l0 c0 k0
  have b0 := F0.binds (ps := ["slot"]) fun _ _ _ _ _ _ us hl => match us, hl with | [_], _ => rfl
  have F1 := fun_mk (st := sPlacesRead) l1 c1 k1
  have b1 := F1.binds (ps := ["row"]) fun _ _ _ _ _ _ us hl => match us, hl with | [_], _ => rfl
  have F2 := fun_mk (st := sPlaceWritten) l2 c2 k2
  have b2 := F2.binds (ps := ["row"]) fun _ _ _ _ _ _ us hl => match us, hl with | [_], _ => rfl
  have F3 := fun_mk (st := sTicksOf) l3 c3 k3
  have b3 := F3.binds (ps := ["rows", "delays"]) fun _ _ _ _ _ _ us hl => match us, hl with | [_, _], _ => rfl
  have F4 := fun_mk (st := sLawCell) l4 c4 k4
  have b4 := F4.binds (ps := ["_law_script", "_law_k"]) fun _ _ _ _ _ _ us hl => match us, hl with | [_, _], _ => rfl
  have F5 := fun_mk (st := sLawDraws) l5 c5 k5
  have b5 := F5.binds (ps := ["_law_script", "_law_at", "_law_many"]) fun _ _ _ _ _ _ us hl => match us, hl with | [_, _, _], _ => rfl
  have F6 := fun_mk (st := sLawTold) l6 c6 k6
  have b6 := F6.binds (ps := ["_law_op", "_law_draw"]) fun _ _ _ _ _ _ us hl => match us, hl with | [_, _], _ => rfl
  have F7 := fun_mk (st := sLawRow) l7 c7 k7
  have b7 := F7.binds (ps := ["_law_draws_here", "_law_shape", "_law_rooms"]) fun _ _ _ _ _ _ us hl => match us, hl with | [_, _, _], _ => rfl
  have F8 := fun_mk (st := sLawRead) l8 c8 k8
  have b8 := F8.binds (ps := ["_law_row_here"]) fun _ _ _ _ _ _ us hl => match us, hl with | [_], _ => rfl
  have F9 := fun_mk (st := sLawWritten) l9 c9 k9
  have b9 := F9.binds (ps := ["_law_row_here"]) fun _ _ _ _ _ _ us hl => match us, hl with | [_], _ => rfl
  have F10 := fun_mk (st := sLawDue) l10 c10 k10
  have b10 := F10.binds (ps := ["_law_rows", "_law_delays"]) fun _ _ _ _ _ _ us hl => match us, hl with | [_, _], _ => rfl
  have F11 := fun_mk (st := sLaw) l11 c11 k11
  have FI := fun_mk (st := sClockInit) lI cI kI
  have bI := FI.binds (ps := ["self", "delays"]) fun _ _ _ _ _ _ us hl => match us, hl with | [_, _], _ => rfl
  have FD := fun_mk (st := sClockDelayOf) lD cD kD
  have bD := FD.binds (ps := ["self", "row"]) fun _ _ _ _ _ _ us hl => match us, hl with | [_, _], _ => rfl
  have FG := fun_mk (st := sClockBeginning) lG cG kG
  have bG := FG.binds (ps := ["self", "row"]) fun _ _ _ _ _ _ us hl => match us, hl with | [_, _], _ => rfl
  have FB := fun_mk (st := sClockBegin) lB cB kB
  have bB := FB.binds (ps := ["self", "row"]) fun _ _ _ _ _ _ us hl => match us, hl with | [_, _], _ => rfl
  have TC : TxC K C fD fG fB _ _ _ := ⟨⟨ypg, yhd, ypo, ysa⟩, yn0, yn1, yn2, yn3, ⟨aD, hD, kD⟩, ⟨aG, hG, kG⟩, ⟨aB, hB, kB⟩, bD, bG, bB⟩
  have TM : TxM K mg C fI _ := ⟨PySem.W.mg_of X G nC, bI, ⟨ymk, aI, hI, ykp⟩⟩
  refine ⟨PySem.W.fnOf "law" "law" (defArgs sLaw) (defBody sLaw) (defScope sLaw) .none kV11 dc11 pm11 an11 cd11 ct11, fun s v => .of_eq rfl, fun base _ _ => ?_⟩
  have Bslot_place : FnB l.prog w K mg base 1 "slot_place" ["slot"] (spSlot) := ⟨_, _, ok_slot_place F0 T, PySem.W.mg_of X G a0, k0, b0⟩
  have Bplaces_read : FnB l.prog w K mg base 2 "places_read" ["row"] (spRead K) := ⟨_, _, ok_places_read F1 T Bslot_place, PySem.W.mg_of X G a1, k1, b1⟩
  have Bplace_written : FnB l.prog w K mg base 2 "place_written" ["row"] (spWrit) := ⟨_, _, ok_place_written F2 T Bslot_place, PySem.W.mg_of X G a2, k2, b2⟩
  have FI_Clock := ok_Clock_init (P := l.prog) (w := w) (mg := mg) (base := base) FI TC
  have FM_delay_of := ok_Clock_delay_of (P := l.prog) (w := w) (mg := mg) (base := base) FD TC
  have FM_beginning := ok_Clock_beginning (P := l.prog) (w := w) (mg := mg) (base := base) FG T TC Bplaces_read
  have FM_begin := ok_Clock_begin (P := l.prog) (w := w) (mg := mg) (base := base) FB T TC Bplace_written FM_delay_of FM_beginning
  have Bticks_of : FnB l.prog w K mg base 5 "ticks_of" ["rows", "delays"] (spTicks) := ⟨_, _, ok_ticks_of F3 T TC TM FI_Clock FM_begin, PySem.W.mg_of X G a3, k3, b3⟩
  have B_law_cell : FnB l.prog w K mg base 1 "_law_cell" ["_law_script", "_law_k"] (spCell K) := ⟨_, _, ok_law_cell F4 T, PySem.W.mg_of X G a4, k4, b4⟩
  have B_law_draws : FnB l.prog w K mg base 2 "_law_draws" ["_law_script", "_law_at", "_law_many"] (spDraws K) := ⟨_, _, ok_law_draws F5 T B_law_cell, PySem.W.mg_of X G a5, k5, b5⟩
  have B_law_told : FnB l.prog w K mg base 1 "_law_told" ["_law_op", "_law_draw"] (spTold) := ⟨_, _, ok_law_told F6 T, PySem.W.mg_of X G a6, k6, b6⟩
  have B_law_row : FnB l.prog w K mg base 2 "_law_row" ["_law_draws_here", "_law_shape", "_law_rooms"] (spRow) := ⟨_, _, ok_law_row F7 T B_law_told, PySem.W.mg_of X G a7, k7, b7⟩
  have B_law_read : FnB l.prog w K mg base 1 "_law_read" ["_law_row_here"] (spRd K) := ⟨_, _, ok_law_read F8 T, PySem.W.mg_of X G a8, k8, b8⟩
  have B_law_written : FnB l.prog w K mg base 1 "_law_written" ["_law_row_here"] (spWr) := ⟨_, _, ok_law_written F9 T, PySem.W.mg_of X G a9, k9, b9⟩
  have B_law_due : FnB l.prog w K mg base 2 "_law_due" ["_law_rows", "_law_delays"] (spDue) := ⟨_, _, ok_law_due F10 T B_law_read B_law_written, PySem.W.mg_of X G a10, k10, b10⟩
  exact ok_law F11 T B_law_draws B_law_row Bticks_of B_law_due
theorem walk {l : PySem.W.OpenLaw} {q : Program} {loose : List Str} {XP : (Str → Option Value) → Heap → Prop} {YP : World → Heap → Prop} {d : DefRec} {K : Params → PySem.W.Frag} (hn : l.most = some 63) (hdf : d.params.defaults = [])
    (hY : ∀ (w : World) (h : Heap), YP w h → (K w.params).In h)
    (F : ∀ (w : World) (mg : Str → Option Value) (fa : Addr) (h : Heap), (K w.params).In h → h.Ns mainGlobals mg → mg d.name = some (.ref fa) →
      ∃ fd : FuncData, (∀ (s : Shared) (u : Value), BindsTo s fd ⟨[u], []⟩ [("_law_script", u)]) ∧ ∀ base : Heap, (K w.params).In base → base.Ns mainGlobals mg → FnOk l.prog w (K w.params) mg base CX0 6 fa fd ["_law_script"] (spLaw (K w.params))) :
    PySem.W.WalkO q loose XP YP l.row.toRowW d [] (fun f vs => PySem.call f vs) :=
  L2.walk_of (n := 63) (k := 6) (x := "_law_script") (CX := fun _ => CX0) (sp := fun w => spLaw (K w.params)) hn (by decide) hdf ⟨rfl, by decide, by decide⟩ hY F (fun _ _ a ns hl _ hS => ⟨a, ns, rfl, hS, hl, fun _ => rfl⟩) fun _ _ _ _ _ z => z
end K68

open PySem PySem.W PyProof.Rows
set_option maxRecDepth 100000 in
set_option maxHeartbeats 0 in
theorem PySem.Challenge.cw_passpapers_k68_ticks_holds : PySem.Challenge.rw_passpapers_k68_ticks.Holds := by
  w_on; o_law; k_head; (case hw => w_witness2)
  k_fill
  refine K68.walk (l := PySem.Challenge.rw_passpapers_k68_ticks) rfl rfl (fun w h Y => PySem.W.kIn_of Y) ?F
  case F =>
    intro w mg fa h KX G hmg
    refine' K68.all_mk KX G hmg ?a0 ?l0 ?c0 ?k0 ?a1 ?l1 ?c1 ?k1 ?a2 ?l2 ?c2 ?k2 ?a3 ?l3 ?c3 ?k3 ?a4 ?l4 ?c4 ?k4 ?a5 ?l5 ?c5 ?k5 ?a6 ?l6 ?c6 ?k6 ?a7 ?l7 ?c7 ?k7 ?a8 ?l8 ?c8 ?k8 ?a9 ?l9 ?c9 ?k9 ?a10 ?l10 ?c10 ?k10 ?a11 ?l11 ?c11 ?k11 ?z0 ?z1 ?z2 ?z3 ?z4 ?z5 ?z6 ?z7 ?z8 ?z9 ?z10 ?nC ?ypg ?yhd ?ypo ?ysa ?yn0 ?yn1 ?yn2 ?yn3 ?ymk ?ykp ?aI ?hI ?lI ?cI ?kI ?aD ?hD ?lD ?cD ?kD ?aG ?hG ?lG ?cG ?kG ?aB ?hB ?lB ?cB ?kB
    (case a0 => k_is)
    (case l0 => k_is)
    (case c0 => k_is)
    (case k0 => k_is)
    (case a1 => k_is)
    (case l1 => k_is)
    (case c1 => k_is)
    (case k1 => k_is)
    (case a2 => k_is)
    (case l2 => k_is)
    (case c2 => k_is)
    (case k2 => k_is)
    (case a3 => k_is)
    (case l3 => k_is)
    (case c3 => k_is)
    (case k3 => k_is)
    (case a4 => k_is)
    (case l4 => k_is)
    (case c4 => k_is)
    (case k4 => k_is)
    (case a5 => k_is)
    (case l5 => k_is)
    (case c5 => k_is)
    (case k5 => k_is)
    (case a6 => k_is)
    (case l6 => k_is)
    (case c6 => k_is)
    (case k6 => k_is)
    (case a7 => k_is)
    (case l7 => k_is)
    (case c7 => k_is)
    (case k7 => k_is)
    (case a8 => k_is)
    (case l8 => k_is)
    (case c8 => k_is)
    (case k8 => k_is)
    (case a9 => k_is)
    (case l9 => k_is)
    (case c9 => k_is)
    (case k9 => k_is)
    (case a10 => k_is)
    (case l10 => k_is)
    (case c10 => k_is)
    (case k10 => k_is)
    (case a11 => k_is)
    (case l11 => k_is)
    (case c11 => k_is)
    (case k11 => k_is)
    (case z0 => k_is)
    (case z1 => k_is)
    (case z2 => k_is)
    (case z3 => k_is)
    (case z4 => k_is)
    (case z5 => k_is)
    (case z6 => k_is)
    (case z7 => k_is)
    (case z8 => k_is)
    (case z9 => k_is)
    (case z10 => k_is)
    (case nC => k_is)
    (case ypg => k_is)
    (case yhd => k_is)
    (case ypo => k_is)
    (case ysa => k_is)
    (case yn0 => k_is)
    (case yn1 => k_is)
    (case yn2 => k_is)
    (case yn3 => k_is)
    (case ymk => k_is)
    (case ykp => k_is)
    (case aI => k_is)
    (case hI => k_is)
    (case lI => k_is)
    (case cI => k_is)
    (case kI => k_is)
    (case aD => k_is)
    (case hD => k_is)
    (case lD => k_is)
    (case cD => k_is)
    (case kD => k_is)
    (case aG => k_is)
    (case hG => k_is)
    (case lG => k_is)
    (case cG => k_is)
    (case kG => k_is)
    (case aB => k_is)
    (case hB => k_is)
    (case lB => k_is)
    (case cB => k_is)
    (case kB => k_is)

