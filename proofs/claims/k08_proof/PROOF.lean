import PyProof.Rows.All
import Wide.All
import OpenK.AllK
import Wide.FinOn
import Lean
import PyProof.EqAt
import PyProof.EqKinds
import PyProof.TupleCall
import KE.KTryMore
import OpenK.KOwn
import PyProof.ExcArgsOwn
import PyProof.RulesAs
import KE.KEqSeq
import PyProof.ConsumeWalk
import PyProof.WalksMore
import PyProof.DictCompW
import PyProof.WalksEnum
import PyProof.AttrMissHeap
import PyProof.MeetsIn
import PyProof.DictUpdate
import PySem.Challenge.RW_passpapers_k08_heads_and_ends
set_option Elab.async false
set_option linter.all false
set_option maxRecDepth 100000
/-! THE HAND LAYER, for ints, bools, texts, own classes, LISTS and tuples (index, slices, in, append, pop ..), calls, loops. Paste it whole ahead of your own text; what your proof does not reach may be deleted. -/
namespace L2
open PySem PySem.Spec PyProof.Rows

/-- a key: an int or a str -/
abbrev Key := Sum Int Str
def keyIs : Key → Value → Bool
  | .inl k, v => Value.isInt k v
  | .inr x, v => Value.isStrOf x v
def keyH (w : World) : Key → Int
  | .inl k => hashInt k
  | .inr x => hashStr w x
theorem keyIs_shape : ∀ {k : Key} {v : Value}, keyIs k v = true → (∃ i t, k = Sum.inl i ∧ v = Value.int i t) ∨ (∃ x t, k = Sum.inr x ∧ v = Value.str x t)
  | .inl i, v, h => by
    obtain ⟨t, e⟩ := Value.isInt_shape (k := i) (v := v) h
    exact .inl ⟨i, t, rfl, e⟩
  | .inr x, v, h => by
    obtain ⟨t, e⟩ := Value.isStrOf_shape (x := x) (v := v) h
    exact .inr ⟨x, t, rfl, e⟩
theorem keyIs_int (i : Int) (t : Tok) : keyIs (.inl i) (.int i t) = true := by simp [keyIs, Value.isInt]
theorem keyIs_str (x : Str) (t : Tok) : keyIs (.inr x) (.str x t) = true := by simp [keyIs, Value.isStrOf]
theorem key_ll (a b : Int) : decide ((Sum.inl a : Key) = Sum.inl b) = (a == b) := by
  by_cases e : a = b
  · subst e; simp
  · have h : ¬ (Sum.inl a : Key) = Sum.inl b := fun q => e (Sum.inl.inj q)
    rw [decide_eq_false h]
    exact (beq_eq_false_iff_ne.mpr e).symm
theorem key_rr (a b : Str) : decide ((Sum.inr a : Key) = Sum.inr b) = decide (a = b) := by
  by_cases e : a = b
  · subst e; simp
  · have h : ¬ (Sum.inr a : Key) = Sum.inr b := fun q => e (Sum.inr.inj q)
    rw [decide_eq_false h, decide_eq_false e]
theorem key_lr (a : Int) (b : Str) : decide ((Sum.inl a : Key) = Sum.inr b) = false := decide_eq_false (fun q => nomatch q)
theorem key_rl (a : Str) (b : Int) : decide ((Sum.inr a : Key) = Sum.inl b) = false := decide_eq_false (fun q => nomatch q)

def mixKind (prog : Program) (w : World) : PySem.KeyKind prog w Key where
  is := keyIs
  hash := keyH w
  inj := fun v a b ha hb => by
    rcases keyIs_shape ha with ⟨i, t, rfl, rfl⟩ | ⟨x, t, rfl, rfl⟩
    · rcases keyIs_shape hb with ⟨j, u, rfl, e⟩ | ⟨y, u, rfl, e⟩
      · injection e with e1 _; rw [e1]
      · exact nomatch e
    · rcases keyIs_shape hb with ⟨j, u, rfl, e⟩ | ⟨y, u, rfl, e⟩
      · exact nomatch e
      · injection e with e1 _; rw [e1]
  byValue := fun k v h => by
    rcases keyIs_shape h with ⟨i, t, rfl, rfl⟩ | ⟨x, t, rfl, rfl⟩ <;> rfl
  pyHash := fun hv h => by
    rcases keyIs_shape hv with ⟨i, t, rfl, rfl⟩ | ⟨x, t, rfl, rfl⟩
    · exact wpAny_pyHash_int h
    · exact wpAny_pyHash_str h
  eqBool := fun hu hv h => by
    rcases keyIs_shape hu with ⟨i, t, rfl, rfl⟩ | ⟨x, t, rfl, rfl⟩
    · rcases keyIs_shape hv with ⟨j, u, rfl, rfl⟩ | ⟨y, u, rfl, rfl⟩
      · rw [key_ll] at h; exact wpAny_eqBool_int h
      · rw [key_lr] at h; exact SeqAt.EqAt.int_str i t y u _ _ _ _ h
    · rcases keyIs_shape hv with ⟨j, u, rfl, rfl⟩ | ⟨y, u, rfl, rfl⟩
      · rw [key_rl] at h; exact SeqAt.EqAt.str_int x t j u _ _ _ _ h
      · rw [key_rr] at h; exact wpAny_eqBool_str h
  «strs» := fun k x t v h => by
    rcases keyIs_shape h with ⟨i, u, rfl, e⟩ | ⟨y, u, rfl, e⟩
    · exact nomatch e
    · injection e with e1 _
      subst e1
      cases v <;> rfl

theorem mixKind_int (prog : Program) (w : World) (i : Int) (t : Tok) : (mixKind prog w).is (.inl i) (.int i t) = true := keyIs_int i t
theorem mixKind_str (prog : Program) (w : World) (x : Str) (t : Tok) : (mixKind prog w).is (.inr x) (.str x t) = true := keyIs_str x t
end L2

namespace L2
open PySem PySem.Spec PyProof.Rows

/-- a value, without the heap -/
inductive V where
  | non | bl (b : Bool) | int (i : Int) | str (x : Str) | byt (b : Array UInt8) | flt (b : UInt64) | ref (a : Addr) | ty (n : String)
  deriving DecidableEq

def RelV : V → Value → Prop
  | .non, u => u = Value.none
  | .bl b, u => u = Value.bool b
  | .int i, u => ∃ t, u = Value.int i t
  | .str x, u => ∃ t, u = Value.str x t
  | .byt b, u => ∃ t, u = Value.bytes b t
  | .flt b, u => ∃ t, u = Value.float b t
  | .ref a, u => u = Value.ref a
  | .ty n, u => u = Value.type n

abbrev Vals : List V → List Value → Prop := Paired RelV
theorem Vals.length {xs : List V} {us : List Value} (r : Vals xs us) : xs.length = us.length := Paired.length r
theorem Vals.get : ∀ {xs : List V} {us : List Value} {i : Nat} {x : V}, Vals xs us → xs[i]? = some x → ∃ u, us[i]? = some u ∧ RelV x u
  | _, _, _, _, .nil, e => by simp at e
  | _, _, 0, _, .cons r _, e => by simp at e; subst e; exact ⟨_, rfl, r⟩
  | _, _, i + 1, x, .cons _ t, e => by
    obtain ⟨u, h1, h2⟩ := Vals.get (i := i) (x := x) t (by simpa using e)
    exact ⟨u, by simpa using h1, h2⟩
theorem Vals.append : ∀ {xs ys : List V} {us ws : List Value}, Vals xs us → Vals ys ws → Vals (xs ++ ys) (us ++ ws)
  | _, _, _, _, .nil, s => s
  | _, _, _, _, .cons r t, s => .cons r (Vals.append t s)
theorem Vals.take : ∀ {xs : List V} {us : List Value} (n : Nat), Vals xs us → Vals (xs.take n) (us.take n)
  | _, _, 0, _ => .nil
  | _, _, _ + 1, .nil => .nil
  | _, _, n + 1, .cons r t => .cons r (Vals.take n t)
theorem Vals.drop : ∀ {xs : List V} {us : List Value} (n : Nat), Vals xs us → Vals (xs.drop n) (us.drop n)
  | _, _, 0, r => r
  | _, _, _ + 1, .nil => .nil
  | _, _, n + 1, .cons _ t => Vals.drop n t
theorem Vals.none_of : ∀ {xs : List V} {us : List Value} {i : Nat}, Vals xs us → xs[i]? = none → us[i]? = none := fun {xs us i} r e => by
  have h1 := r.length
  have h2 : xs.length ≤ i := List.getElem?_eq_none_iff.mp e
  exact List.getElem?_eq_none_iff.mpr (by omega)

def RelO : Option V → Option Value → Prop
  | some v, some u => RelV v u
  | none, none => True
  | _, _ => False
def KV {κ : Type} : List (κ × V) → List (κ × Value) → Prop := Paired fun (p : κ × V) (q : κ × Value) => p.1 = q.1 ∧ RelV p.2 q.2

/-- a key of a dict (00_mix): an int or a text -/
def kV : Key → V
  | .inl i => .int i
  | .inr x => .str x

/-- what stands at a tracked address -/
inductive HO where
  /-- a list -/
  | lst (xs : List V)
  /-- a tuple (never changes) -/
  | tup (xs : List V)
  /-- a dict whose keys are ints and texts; one whose keys are tuples of ints and texts (the empty one is both) -/
  | dK (kvs : List (Key × V)) | dT (kvs : List (List Key × V))
  /-- a set of ints: its members, its size -/
  | set (S : Int → Bool) (n : Nat)
  /-- an instance of the class at C, its dict at dx, its attributes -/
  | ins (C dx : Addr) (fs : List (Str × V))
  /-- the dict of the instance at x -/
  | own (x : Addr)
  /-- the dict of an exception -/
  | xd (fs : List (Str × V))
  /-- a bound method, f of x -/
  | met (f x : Addr)
  /-- a range object lo, lo + 1, .. below hi -/
  | rng (lo hi : Int)
  /-- a thing that is known to the object (the script; a dict while a loop walks it): read, never written while it is so -/
  | frz (o : Obj) (u : HO)
  /-- a code object's table -/
  | tbl (ps : Array Value)
  /-- any other thing, by what is true of its one object (a def of one's own: SetO a S n := HO.ext fun h => ..) -/
  | ext (φ : Heap → Prop)

abbrev Hp := Addr → Option HO
def upd (H : Hp) (a : Addr) (o : HO) : Hp := fun b => if b = a then some o else H b
theorem upd_same {H : Hp} {a : Addr} {o : HO} : upd H a o a = some o := by unfold upd; rw [if_pos rfl]
theorem upd_ne {H : Hp} {a b : Addr} {o : HO} (h : b ≠ a) : upd H a o b = H b := by unfold upd; rw [if_neg h]
theorem upd_upd {H : Hp} {a : Addr} {o u : HO} : upd (upd H a o) a u = upd H a u := by
  funext b; unfold upd; split <;> rfl
/-- two objects of different content stand apart -/
theorem ne_of {H : Hp} {a b : Addr} {o u : HO} (h : H a = some o) (h' : H b = some u) (d : o ≠ u) : a ≠ b := by
  intro e; subst e; rw [h] at h'; exact d (Option.some.inj h')
theorem ne_of_none {H : Hp} {a b : Addr} {o : HO} (h : H a = some o) (h' : H b = none) : a ≠ b := by
  intro e; subst e; rw [h] at h'; cases h'

section
variable (P : Program) (w : World)
def ObjOk (H : Hp) (h : Heap) (a : Addr) : HO → Prop
  | .lst xs => xs.length ≤ sizeLine ∧ ∃ (its : List Value) (n : Nat), Vals xs its ∧ h.get? a = some { cls := .type "list", data := .seq its.toArray n }
  | .tup xs => xs.length ≤ sizeLine ∧ ∃ its : List Value, Vals xs its ∧ IsTup h a its.toArray
  | .dK kvs => kvs.length ≤ sizeLine ∧ (a == sysModules) = false ∧ ∃ vs, KV kvs vs ∧ h.DictOf (mixKind P w) a vs
  | .dT kvs => kvs.length ≤ sizeLine ∧ (a == sysModules) = false ∧ ∃ xs : List (List Key × Addr × Value),
      Paired (fun (p : List Key × V) (q : List Key × Addr × Value) => p.1 = q.1 ∧ H q.2.1 = some (.tup (p.1.map kV)) ∧ RelV p.2 q.2.2) kvs xs ∧
      ∃ o es ep, h.get? a = some o ∧ o.ExactDict ∧ o.data = .dict es ep ∧ es.toList = xs.map (entryOfKey (tupleKind (mixKind P w))) ∧ (xs.map (·.1)).Nodup
  | .set S n => h.SetOf (intKind P w) a S n
  | .ins C dx fs => H dx = some (.own a) ∧ fs.length ≤ 1000 ∧ dx ≠ a ∧ h.get? a = some (PySem.W.instObj C dx) ∧
      ∃ mA, h.Ns1 dx mA ∧ (∀ f, RelO (fs.lookup f) (mA f)) ∧ PySem.Within mA (fs.map (·.1))
  | .own _ => ∃ o, h.get? a = some o
  | .xd fs => ∃ mA, h.Ns1 a mA ∧ ∀ f, RelO (fs.lookup f) (mA f)
  | .rng lo hi => ∃ t u v, h.get? a = some { cls := .type "range", data := .fields #[.int lo t, .int hi u, .int 1 v] }
  | .frz o u => h.get? a = some o ∧ ObjOk H h a u
  | .tbl ps => h.get? a = some { cls := .none, data := .fields ps }
  | .met f x => h.get? a = some (PySem.W.methodObj (.ref f) (.ref x))
  | .ext φ => φ h ∧ (∃ o, h.get? a = some o) ∧ ∀ h1 h2 : Heap, φ h1 → (∀ o, h1.get? a = some o → h2.get? a = some o) → φ h2
/-- the abstract heap is held -/
def HOk (H : Hp) (h : Heap) : Prop := ∀ a o, H a = some o → ObjOk P w H h a o
end

section
variable {P : Program} {w : World} {H H' : Hp} {h h' : Heap} {a : Addr} {o : HO}
theorem ObjOk.lt (x : ObjOk P w H h a o) : a < h.objs.size := by
  cases o with
  | lst xs => obtain ⟨_, _, _, _, e⟩ := x; exact Heap.lt_size e
  | tup xs => obtain ⟨_, _, _, p⟩ := x; exact p.lt
  | dK kvs => obtain ⟨_, _, _, _, o, _, _, e, _⟩ := x; exact Heap.lt_size e
  | dT kvs => obtain ⟨_, _, _, _, o, _, _, e, _⟩ := x; exact Heap.lt_size e
  | set S n => obtain ⟨o, _, _, _, e, _⟩ := x; exact Heap.lt_size e
  | ins C dx fs => obtain ⟨_, _, _, e, _⟩ := x; exact Heap.lt_size e
  | own y => obtain ⟨_, e⟩ := x; exact Heap.lt_size e
  | xd fs => obtain ⟨_, ⟨_, _, _, e, _⟩, _⟩ := x; exact Heap.lt_size e
  | rng lo hi => obtain ⟨_, _, _, e⟩ := x; exact Heap.lt_size e
  | frz ob u => obtain ⟨e, _⟩ := x; exact Heap.lt_size e
  | tbl ps => exact Heap.lt_size (show h.get? a = some _ from x)
  | met f y => exact Heap.lt_size (show h.get? a = some _ from x)
  | ext φ => obtain ⟨_, ⟨_, e⟩, _⟩ := x; exact Heap.lt_size e
theorem Paired.mapP {α β : Type} {F G : α → β → Prop} : ∀ {l₁ : List α} {l₂ : List β}, Paired F l₁ l₂ → (∀ a b, F a b → G a b) → Paired G l₁ l₂
  | _, _, .nil, _ => .nil
  | _, _, .cons r t, f => .cons (f _ _ r) (Paired.mapP t f)
/-- what an object's description leans on: its own object, its own dict, the tuples -/
theorem ObjOk.stay (x : ObjOk P w H h a o) (k : ∀ b u, (b = a ∨ H b = some (.own a)) → h.get? b = some u → h'.get? b = some u)
    (ho : ∀ b, H b = some (.own a) → H' b = some (.own a)) (ht : ∀ b xs, H b = some (.tup xs) → H' b = some (.tup xs)) : ObjOk P w H' h' a o := by
  induction o with
  | lst xs => obtain ⟨z, its, n, r, e⟩ := x; exact ⟨z, its, n, r, k _ _ (.inl rfl) e⟩
  | tup xs => obtain ⟨z, its, r, ob, e, c⟩ := x; exact ⟨z, its, r, ob, k _ _ (.inl rfl) e, c⟩
  | dK kvs => obtain ⟨z, y, vs, r, ob, es, ep, e, c⟩ := x; exact ⟨z, y, vs, r, ob, es, ep, k _ _ (.inl rfl) e, c⟩
  | dT kvs =>
    obtain ⟨z, y, xs, r, ob, es, ep, e, c⟩ := x
    exact ⟨z, y, xs, Paired.mapP r fun p q z => ⟨z.1, ht _ _ z.2.1, z.2.2⟩, ob, es, ep, k _ _ (.inl rfl) e, c⟩
  | set S n => obtain ⟨ob, es, ep, t, e, c⟩ := x; exact ⟨ob, es, ep, t, k _ _ (.inl rfl) e, c⟩
  | ins C dx fs =>
    obtain ⟨d, z, ne, e, mA, ⟨od, es, ep, e2, c⟩, r⟩ := x
    exact ⟨ho _ d, z, ne, k _ _ (.inl rfl) e, mA, ⟨od, es, ep, k _ _ (.inr d) e2, c⟩, r⟩
  | own y => obtain ⟨ob, e⟩ := x; exact ⟨ob, k _ _ (.inl rfl) e⟩
  | xd fs => obtain ⟨mA, ⟨od, es, ep, e, c⟩, r⟩ := x; exact ⟨mA, ⟨od, es, ep, k _ _ (.inl rfl) e, c⟩, r⟩
  | rng lo hi => obtain ⟨t, u, v, e⟩ := x; exact ⟨t, u, v, k _ _ (.inl rfl) e⟩
  | frz ob u ih => obtain ⟨e, q⟩ := x; exact ⟨k _ _ (.inl rfl) e, ih q⟩
  | tbl ps =>
    have e : h.get? a = some { cls := .none, data := .fields ps } := x
    show h'.get? a = some { cls := .none, data := .fields ps }
    exact k a _ (.inl rfl) e
  | met f y =>
    have e : h.get? a = some (PySem.W.methodObj (.ref f) (.ref y)) := x
    show h'.get? a = some (PySem.W.methodObj (.ref f) (.ref y))
    exact k a _ (.inl rfl) e
  | ext φ => obtain ⟨p, ⟨o, e⟩, st⟩ := x; exact ⟨st _ _ p fun o q => k _ _ (.inl rfl) q, ⟨o, k _ _ (.inl rfl) e⟩, st⟩
theorem HOk.lt (x : HOk P w H h) (e : H a = some o) : a < h.objs.size := (x a o e).lt
theorem HOk.fresh (x : HOk P w H h) (e : h.objs.size ≤ a) : H a = none := by
  cases q : H a with
  | none => rfl
  | some u => exact absurd (Nat.lt_of_lt_of_le (x.lt q) e) (Nat.lt_irrefl _)
/-- every object of the heap is kept -/
theorem HOk.kept (x : HOk P w H h) (k : ∀ b u, h.get? b = some u → h'.get? b = some u) : HOk P w H h' := fun a o e =>
  (x a o e).stay (fun b u _ q => k b u q) (fun _ q => q) fun _ _ q => q
/-- a new object is laid and tracked -/
theorem HOk.laid (x : HOk P w H h) (k : ∀ b u, h.get? b = some u → h'.get? b = some u) (hp : h.objs.size ≤ a) (new : ObjOk P w (upd H a o) h' a o) : HOk P w (upd H a o) h' := fun b u e => by
  have hn := x.fresh hp
  by_cases hb : b = a
  · subst hb; rw [upd_same] at e; cases e; exact new
  · rw [upd_ne hb] at e
    exact (x b u e).stay (fun c v _ q => k c v q) (fun c q => by rw [upd_ne (ne_of_none q hn)]; exact q) fun c xs q => by rw [upd_ne (ne_of_none q hn)]; exact q
end

/-- what may be read as u: it is u, or a known u -/
def Rd (H : Hp) (a : Addr) (u : HO) : Prop := H a = some u ∨ ∃ o, H a = some (.frz o u)
theorem Rd.ok {P : Program} {w : World} {H : Hp} {h : Heap} {a : Addr} {u : HO} (r : Rd H a u) (x : HOk P w H h) : ObjOk P w H h a u := by
  rcases r with r | ⟨o, r⟩
  · exact x a u r
  · obtain ⟨_, q⟩ := x a _ r
    exact q
/-- what may be written -/
def Mut : Option HO → Prop
  | some (.lst _) => True
  | some (.dK _) => True
  | some (.dT _) => True
  | some (.set _ _) => True
  | some (.ins _ _ _) => True
  | some (.ext _) => True
  | _ => False
section
variable {P : Program} {w : World} {H : Hp} {h h' : Heap} {x e : Addr} {o' : HO}
/-- the object at e is changed: x itself, or the dict of the instance x -/
theorem HOk.write (ok : HOk P w H h) (mu : Mut (H x)) (he : e = x ∨ H e = some (.own x)) (k : ∀ b u, b ≠ e → h.get? b = some u → h'.get? b = some u) (heo : ∃ u, h'.get? e = some u)
    (new : ObjOk P w (upd H x o') h' x o') : HOk P w (upd H x o') h' := fun b u q => by
  have nown : ∀ c y, H c = some (.own y) → c ≠ x := fun c y r z => by subst z; rw [r] at mu; exact mu
  have ntup : ∀ c xs, H c = some (.tup xs) → c ≠ x := fun c xs r z => by subst z; rw [r] at mu; exact mu
  by_cases hb : b = x
  · subst hb; rw [upd_same] at q; cases q; exact new
  · rw [upd_ne hb] at q
    by_cases hbe : b = e
    · have q' : H b = some (.own x) := by
        rcases he with z | z
        · exact absurd (hbe.trans z) hb
        · rw [hbe]; exact z
      rw [q] at q'; cases q'
      obtain ⟨v, hv⟩ := heo
      exact ⟨v, by rw [hbe]; exact hv⟩
    · refine (ok b u q).stay (fun c v hc r => k c v ?_ r) (fun c r => by rw [upd_ne (nown c b r)]; exact r) fun c xs r => by rw [upd_ne (ntup c xs r)]; exact r
      rcases hc with rfl | hc
      · exact hbe
      · rintro rfl
        rcases he with z | z
        · exact nown c b hc z
        · rw [hc] at z; cases z; exact hb rfl
end

/-! ### kept unless tracked; of the frames at fs (the callers') the slots may change (an exception that passes writes there); of the records at ex (iterators) nothing is said -/
structure Un (fs ex : List Addr) (H H' : Hp) (h h' : Heap) : Prop where
  keep : ∀ b o, h.get? b = some o → H b = none → b ∉ fs → b ∉ ex → h'.get? b = some o
  slot : ∀ b o, h.get? b = some o → H b = none → b ∈ fs → b ∉ ex → ∃ sl, h'.get? b = some { o with slots := sl }
  free : ∀ b o, h.get? b = some o → H b = none → b ∉ ex → H' b = none
  there : ∀ b o, h.get? b = some o → b ∉ ex → ∃ o', h'.get? b = some o'
  tups : ∀ b xs, H b = some (.tup xs) → H' b = some (.tup xs)
  frzs : ∀ b o u, H b = some (.frz o u) → H' b = some (.frz o u)
  tbls : ∀ b ps, H b = some (.tbl ps) → ∃ more, H' b = some (.tbl (ps ++ more))
section
variable {fs fs' ex ex' : List Addr} {H H1 H2 : Hp} {h h1 h2 h' : Heap} {a x e : Addr} {o : HO}
theorem Un.any (u : Un fs ex H H1 h h1) {b : Addr} {ob : Obj} (q : h.get? b = some ob) (n : H b = none) (hx : b ∉ ex) : ∃ sl, h1.get? b = some { ob with slots := sl } := by
  by_cases hb : b ∈ fs
  · exact u.slot b ob q n hb hx
  · exact ⟨ob.slots, u.keep b ob q n hb hx⟩
theorem Un.kept (k : ∀ b u, h.get? b = some u → h'.get? b = some u) : Un fs ex H H h h' :=
  ⟨fun b ob q _ _ _ => k b ob q, fun b ob q _ _ _ => ⟨ob.slots, k b ob q⟩, fun _ _ _ n _ => n, fun b ob q _ => ⟨ob, k b ob q⟩, fun _ _ q => q, fun _ _ _ q => q, fun _ ps q => ⟨#[], by rw [q]; simp⟩⟩
theorem Un.refl : Un fs ex H H h h := Un.kept fun _ _ q => q
theorem Un.laid (k : ∀ b u, h.get? b = some u → h'.get? b = some u) (hp : h.objs.size ≤ a) (hn : H a = none) : Un fs ex H (upd H a o) h h' where
  keep := fun b u q _ _ _ => k b u q
  slot := fun b u q _ _ _ => ⟨u.slots, k b u q⟩
  free := fun b u q n _ => by rw [upd_ne (Nat.ne_of_lt (Nat.lt_of_lt_of_le (Heap.lt_size q) hp))]; exact n
  there := fun b u q _ => ⟨u, k b u q⟩
  tups := fun b xs q => by rw [upd_ne (ne_of_none q hn)]; exact q
  frzs := fun b u xs q => by rw [upd_ne (ne_of_none q hn)]; exact q
  tbls := fun b ps q => ⟨#[], by rw [upd_ne (ne_of_none q hn), q]; simp⟩
theorem Un.write (mu : Mut (H x)) (he : e = x ∨ H e = some (.own x)) (k : ∀ b u, b ≠ e → h.get? b = some u → h'.get? b = some u) (heo : ∃ u, h'.get? e = some u) : Un fs ex H (upd H x o) h h' := by
  have hx : ∀ b, H b = none → b ≠ x := fun b n z => by subst z; rw [n] at mu; exact mu
  have hb : ∀ b, H b = none → b ≠ e := fun b n z => by
    subst z
    rcases he with r | r
    · exact hx b n r
    · rw [n] at r; cases r
  have hm : ∀ b u, H b = some u → ¬ Mut (some u) → b ≠ x := fun b u q nm z => by subst z; rw [q] at mu; exact nm mu
  refine ⟨fun b u q n _ _ => k b u (hb b n) q, fun b u q n _ _ => ⟨u.slots, k b u (hb b n) q⟩, fun b u q n _ => by rw [upd_ne (hx b n)]; exact n, fun b u q _ => ?_,
    fun b xs q => by rw [upd_ne (hm b _ q fun z => z)]; exact q, fun b u xs q => by rw [upd_ne (hm b _ q fun z => z)]; exact q, fun b ps q => ⟨#[], by rw [upd_ne (hm b _ q fun z => z), q]; simp⟩⟩
  by_cases hbe : b = e
  · subst hbe; exact heo
  · exact ⟨u, k b u hbe q⟩
end

/-! ### the heap without what is tracked -/
def trk (h : Heap) (H : Hp) : List Addr := (List.range h.objs.size).filter fun a => (H a).isSome
def hidT (h : Heap) (H : Hp) : Heap := PySem.W.hideAll h (trk h H)
theorem hidT_size (h : Heap) (H : Hp) : (hidT h H).objs.size = h.objs.size := PySem.W.hideAll_size _ _
theorem hidT_get {h : Heap} {H : Hp} {b : Addr} {o : Obj} (e : h.get? b = some o) (n : H b = none) : (hidT h H).get? b = some o :=
  PySem.W.hideAll_get _ e fun hm => by
    have q : (H b).isSome = true := (List.mem_filter.mp hm).2
    rw [n] at q; simp at q
theorem of_hidT {h : Heap} {H : Hp} {b : Addr} {o : Obj} (e : (hidT h H).get? b = some o) : h.get? b = some o ∧ H b = none := by
  have e' : h.get? b = some o := PySem.W.of_hideAll (trk h H) e
  refine ⟨e', ?_⟩
  cases q : H b with
  | none => rfl
  | some x =>
    have hm : b ∈ trk h H := List.mem_filter.mpr ⟨List.mem_range.mpr (Heap.lt_size e'), by simp [q]⟩
    have z : (hidT h H).get? b = none := PySem.W.hideAll_none (trk h H) hm
    rw [z] at e; cases e

/-! ### OpenK's ledger, filled with every new object but one -/
end L2

namespace L2
open PySem PySem.Spec PyProof.Rows

/-- the module's facts, over the base: the heap at the law's entry without what is tracked there -/
structure Mod (K : PySem.W.Frag) (mg : Str → Option Value) (base : Heap) : Prop where
  kin : K.In base
  glob : base.Ns mainGlobals mg
  blt : ∃ mb, base.Ns builtinsNs mb ∧ ∀ x : Str, x ≠ "__name__" → mb x = bootBuiltins x
  nolimit : base.NoLimit

/-- the context: a def's body (or a comprehension's block) running. base: fixed through the whole law; s₀, H₀: the entry; outer: the frames whose slots others may change (a def's callers); stack: all frames that run;
   ex: iterators that were made ahead of the entry and are walked here (a comprehension's); fn: the names whose cells were made at the entry (a def: all; a comprehension's block: its own); calm: not within an except suite; pn: pins that every state bears; xe: what is wanted of an exception that leaves the code -/
structure Cx where
  prog : Program
  w : World
  K : PySem.W.Frag
  mg : Str → Option Value
  base : Heap
  A : Around
  N : List Str
  s₀ : Shared
  H₀ : Hp
  env : Env
  outer : List Env
  stack : List Env
  ex : List Addr
  fn : Str → Bool
  calm : Bool
  pn : List (Addr × Obj)
  xe : Value → Shared → Prop
/-- the callers' frames -/
def frs (l : List Env) : List Addr := l.filterMap (·.frame)
abbrev Cx.fs (X : Cx) : List Addr := frs X.outer

def Vis (sc : Scope) (x : Str) : Prop := sc.names.lookup x = some .local ∨ sc.names.lookup x = some .cell ∨ sc.names.lookup x = some .free
def Loc (sc : Scope) (x : Str) : Prop := sc.names.lookup x = some .local ∨ sc.names.lookup x = some .cell
def Look (env : Env) (h : Heap) (m : Str → Option Value) (x : Str) (u : Value) : Prop :=
  (env.kindOf x = some .local ∧ m x = some u) ∨ ((env.kindOf x = some .cell ∨ env.kindOf x = some .free) ∧ ∃ c, env.cells.lookup x = some c ∧ h.IsCell c (some u))

structure Cx.Ok (X : Cx) : Prop where
  mod : Mod X.K X.mg X.base
  kind : X.env.scope.kind = .function
  glob : X.env.globals = mainGlobals
  blt : X.env.builtins = builtinsNs
  above : X.s₀.heap.objs.size ≤ X.env.locals
  inj : ∀ x y c, X.env.cells.lookup x = some c → X.env.cells.lookup y = some c → x = y
  has : ∀ x, (X.env.kindOf x = some .cell ∨ X.env.kindOf x = some .free) → ∃ c, X.env.cells.lookup x = some c
  cab : ∀ x c, X.fn x = true → X.env.cells.lookup x = some c → X.s₀.heap.objs.size ≤ c
  hd : X.calm = true → X.A.handled = none
  frames : X.A.frames = some X.stack
  stk : X.stack = X.outer ∨ (X.stack = X.env :: X.outer ∧ X.env.frame = some X.env.locals)
  exf : ∀ b ∈ X.ex, b ≠ X.env.locals ∧ ∀ x c, X.env.cells.lookup x = some c → c ≠ b
  bs : ∀ b o, X.base.get? b = some o → X.s₀.heap.get? b = some o ∧ X.H₀ b = none
  bsz : X.base.objs.size ≤ X.s₀.heap.objs.size
  noex : ∀ b o, X.base.get? b = some o → b ∉ X.ex
  exfs : ∀ b ∈ X.ex, b ∉ X.fs
  funs : X.s₀.heap.FunFrames X.base X.outer
  frf : ∀ b ∈ X.fs, X.H₀ b = none

structure Inv (X : Cx) (pins : List (Addr × Obj)) (σ : List (Option V)) (H : Hp) (s : Shared) : Prop where
  ok : X.Ok
  os : s.os = X.s₀.os
  bare : AllBare s.gens
  base : Un X.fs X.ex X.H₀ H X.s₀.heap s.heap
  loc : ∃ m, s.heap.Ns X.env.locals m ∧ ∀ (i : Nat) (x : Str) (v : V), X.N[i]? = some x → σ[i]? = some (some v) → Vis X.env.scope x → ∃ u, RelV v u ∧ Look X.env s.heap m x u
  cell : ∀ x c, X.env.cells.lookup x = some c → ∃ v, s.heap.IsCell c v
  free : H X.env.locals = none
  freeC : ∀ x c, X.env.cells.lookup x = some c → H c = none
  pin : ∀ p ∈ X.pn ++ pins, s.heap.get? p.1 = some p.2 ∧ H p.1 = none ∧ p.1 ≠ X.env.locals ∧ p.1 ∉ X.fs ∧ ∀ v, p.2.data ≠ .cell v
  hok : HOk X.prog X.w H s.heap
  len : σ.length = X.N.length

section
variable {X : Cx} {pins : List (Addr × Obj)} {σ : List (Option V)} {H H' : Hp} {s : Shared} {h' : Heap}

theorem Cx.Ok.nofr (ok : X.Ok) {b : Addr} {o : Obj} (e : X.base.get? b = some o) : b ∉ X.fs := fun hb => by
  have := (ok.funs.mem hb).1
  rw [e] at this; cases this
theorem Inv.bs (I : Inv X pins σ H s) : ∀ b o, X.base.get? b = some o → s.heap.get? b = some o ∧ H b = none := fun b o e =>
  ⟨I.base.keep b o (I.ok.bs b o e).1 (I.ok.bs b o e).2 (I.ok.nofr e) (I.ok.noex b o e), I.base.free b o (I.ok.bs b o e).1 (I.ok.bs b o e).2 (I.ok.noex b o e)⟩
theorem Inv.bk (I : Inv X pins σ H s) : ∀ b o, X.base.get? b = some o → s.heap.get? b = some o := fun b o e => (I.bs b o e).1
theorem Inv.mod (I : Inv X pins σ H s) : Mod X.K X.mg X.base := I.ok.mod
theorem Inv.kIn (I : Inv X pins σ H s) : X.K.In s.heap := I.ok.mod.kin.keeps I.bk
theorem Inv.lt (I : Inv X pins σ H s) : X.env.locals < s.heap.objs.size := let ⟨_, hn, _⟩ := I.loc; hn.lt
theorem Inv.sz (I : Inv X pins σ H s) : X.s₀.heap.objs.size ≤ s.heap.objs.size := Nat.le_trans I.ok.above (Nat.le_of_lt I.lt)
theorem Inv.nofs (I : Inv X pins σ H s) {a : Addr} (h : s.heap.objs.size ≤ a) : a ∉ X.fs := fun hb => by
  obtain ⟨_, o, ho, _⟩ := I.ok.funs.mem hb
  exact absurd (Nat.lt_of_lt_of_le (Heap.lt_size ho) (Nat.le_trans I.sz h)) (Nat.lt_irrefl _)
theorem Inv.cne (I : Inv X pins σ H s) : ∀ x c, X.env.cells.lookup x = some c → c ≠ X.env.locals := fun x c e z => by
  obtain ⟨v, o, ho, hd⟩ := I.cell x c e
  obtain ⟨m, ⟨o', es, ep, ho', hd', _⟩, _⟩ := I.loc
  rw [z, ho'] at ho; cases ho; rw [hd'] at hd; cases hd
theorem Inv.funs (I : Inv X pins σ H s) : s.heap.FunFrames X.base X.outer := by
  have all : ∀ (l : List Env), (∀ b ∈ frs l, b ∈ X.fs) → X.s₀.heap.FunFrames X.base l → s.heap.FunFrames X.base l := by
    intro l
    induction l with
    | nil => intro _ _; trivial
    | cons env r ih =>
      intro hs hl
      obtain ⟨hk, ⟨L, o, hf, hn, ho, hd⟩, hr⟩ := hl
      have hL : L ∈ X.fs := hs L (by unfold frs; rw [List.filterMap_cons, hf]; exact List.mem_cons_self)
      obtain ⟨sl, e⟩ := I.base.slot L o ho (I.ok.frf L hL) hL fun z => I.ok.exfs L z hL
      exact ⟨hk, ⟨L, _, hf, hn, e, hd⟩, ih (fun b hb => hs b (by unfold frs; rw [List.filterMap_cons, hf]; exact List.mem_cons_of_mem _ hb)) hr⟩
  exact all X.outer (fun _ hb => hb) I.ok.funs

/-- the frames that run, for a call -/
theorem Inv.stack (I : Inv X pins σ H s) : s.heap.FunFrames X.base X.stack := by
  rcases I.ok.stk with e | ⟨e, hf⟩
  · rw [e]; exact I.funs
  · rw [e]
    obtain ⟨m, hn, _⟩ := I.loc
    refine .cons (by rw [I.ok.kind]; decide) hf hn ?_ I.funs
    exact Heap.get?_none_of_le (Nat.le_trans I.ok.bsz I.ok.above)
theorem Inv.stkSub (I : Inv X pins σ H s) : ∀ b ∈ frs X.stack, b ∈ X.env.locals :: X.fs := fun b hb => by
  rcases I.ok.stk with e | ⟨e, hf⟩
  · rw [e] at hb; exact List.mem_cons_of_mem _ hb
  · rw [e] at hb
    unfold frs at hb
    rw [List.filterMap_cons, hf] at hb
    exact hb
theorem Inv.stkFree (I : Inv X pins σ H s) : ∀ b ∈ frs X.stack, H b = none := fun b hb => by
  rcases List.mem_cons.mp (I.stkSub b hb) with e | hb
  · rw [e]; exact I.free
  · obtain ⟨_, o, ho, _⟩ := I.ok.funs.mem hb
    exact I.base.free b o ho (I.ok.frf b hb) fun z => I.ok.exfs b z hb

/-- THE STEP: the untracked objects but the frame and the records at ch are kept (the callers' frames up to slots), the frame's map is kept, the new abstract heap is held -/
theorem Inv.step {g' : Array GenState} {t' : Nat} {d' : Drawn} {ch : List Addr} (I : Inv X pins σ H s)
    (hch : ∀ b ∈ ch, (b ∈ X.ex ∨ X.s₀.heap.objs.size ≤ b) ∧ b ≠ X.env.locals ∧ (∀ x c, X.env.cells.lookup x = some c → c ≠ b) ∧ ∀ p ∈ X.pn ++ pins, p.1 ≠ b)
    (keep : ∀ b o, b ≠ X.env.locals → b ∉ X.fs → b ∉ ch → s.heap.get? b = some o → H b = none → h'.get? b = some o)
    (slot : ∀ b o, b ≠ X.env.locals → b ∈ X.fs → b ∉ ch → s.heap.get? b = some o → H b = none → ∃ sl, h'.get? b = some { o with slots := sl }) (free : ∀ b o, b ∉ ch → s.heap.get? b = some o → H b = none → H' b = none)
    (there : ∀ b o, b ∉ ch → s.heap.get? b = some o → ∃ o', h'.get? b = some o')
    (tups : ∀ b xs, H b = some (.tup xs) → H' b = some (.tup xs)) (frzs : ∀ b o u, H b = some (.frz o u) → H' b = some (.frz o u)) (tbls : ∀ b ps, H b = some (.tbl ps) → ∃ more, H' b = some (.tbl (ps ++ more)))
    (ns : ∀ m, s.heap.Ns X.env.locals m → h'.Ns X.env.locals m) (hok : HOk X.prog X.w H' h') (hg : AllBare g') :
    Inv X pins σ H' { s with heap := h', gens := g', drawn := d', toks := t' } := by
  have neL : ∀ b o, X.s₀.heap.get? b = some o → b ≠ X.env.locals := fun b o e => Nat.ne_of_lt (Nat.lt_of_lt_of_le (Heap.lt_size e) I.ok.above)
  have neC : ∀ b o, X.s₀.heap.get? b = some o → b ∉ X.ex → b ∉ ch := fun b o e hx hb => by
    rcases (hch b hb).1 with z | z
    · exact hx z
    · exact absurd (Nat.lt_of_lt_of_le (Heap.lt_size e) z) (Nat.lt_irrefl _)
  have cellK : ∀ x c, X.env.cells.lookup x = some c → ∀ v, s.heap.IsCell c v → h'.IsCell c v := fun x c e v ⟨o, ho, hd⟩ => by
    have nch : c ∉ ch := fun z => (hch c z).2.2.1 x c e rfl
    by_cases hc : c ∈ X.fs
    · obtain ⟨sl, q⟩ := slot c o (I.cne x c e) hc nch ho (I.freeC x c e)
      exact ⟨_, q, hd⟩
    · exact ⟨o, keep c o (I.cne x c e) hc nch ho (I.freeC x c e), hd⟩
  refine ⟨I.ok, I.os, hg, ⟨fun b o e n hb hx => ?_, fun b o e n hb hx => ?_, fun b o e n hx => ?_, fun b o e hx => ?_, fun b xs e => tups b xs (I.base.tups b xs e), fun b o xs e => frzs b o xs (I.base.frzs b o xs e), fun b ps e => ?_⟩, ?_, fun x c e => ?_, ?_, fun x c e => ?_, fun p hp => ?_, hok, I.len⟩
  · exact keep b o (neL b o e) hb (neC b o e hx) (I.base.keep b o e n hb hx) (I.base.free b o e n hx)
  · obtain ⟨sl, e1⟩ := I.base.slot b o e n hb hx
    obtain ⟨sl', e2⟩ := slot b _ (neL b o e) hb (neC b o e hx) e1 (I.base.free b o e n hx)
    exact ⟨sl', e2⟩
  · obtain ⟨o', e1⟩ := I.base.there b o e hx
    exact free b o' (neC b o e hx) e1 (I.base.free b o e n hx)
  · obtain ⟨o', e1⟩ := I.base.there b o e hx
    exact there b o' (neC b o e hx) e1
  · obtain ⟨m1, e1⟩ := I.base.tbls b ps e
    obtain ⟨m2, e2⟩ := tbls b _ e1
    exact ⟨m1 ++ m2, by rw [e2, Array.append_assoc]⟩
  · obtain ⟨m, hn, hl⟩ := I.loc
    refine ⟨m, ns m hn, fun i x v e1 e2 e3 => ?_⟩
    obtain ⟨u, r, l⟩ := hl i x v e1 e2 e3
    refine ⟨u, r, ?_⟩
    rcases l with l | ⟨k, c, e, z⟩
    · exact .inl l
    · exact .inr ⟨k, c, e, cellK x c e _ z⟩
  · obtain ⟨v, z⟩ := I.cell x c e
    exact ⟨v, cellK x c e v z⟩
  · obtain ⟨m, ⟨o, _, _, ho, _⟩, _⟩ := I.loc
    exact free _ o (fun z => (hch _ z).2.1 rfl) ho I.free
  · obtain ⟨v, o, ho, hd⟩ := I.cell x c e
    exact free c o (fun z => (hch c z).2.2.1 x c e rfl) ho (I.freeC x c e)
  · obtain ⟨e, n, ne, nf, d⟩ := I.pin p hp
    have nch : p.1 ∉ ch := fun z => (hch p.1 z).2.2.2 p hp rfl
    exact ⟨keep p.1 p.2 ne nf nch e n, free p.1 p.2 nch e n, ne, nf, d⟩
/-- .. where the frame's own object is kept too -/
theorem Inv.un {t' : Nat} (I : Inv X pins σ H s) (u : Un X.fs [] H H' s.heap h') (hok : HOk X.prog X.w H' h') : Inv X pins σ H' { s with heap := h', toks := t' } := by
  obtain ⟨m, ⟨o, es, ep, ho, r⟩, _⟩ := id I.loc
  obtain ⟨sl, hL⟩ := u.any ho I.free (by simp)
  exact I.step (g' := s.gens) (d' := s.drawn) (ch := []) (fun _ z => nomatch z) (fun b o _ hb _ e n => u.keep b o e n hb (by simp)) (fun b o _ hb _ e n => u.slot b o e n hb (by simp)) (fun b o _ e n => u.free b o e n (by simp)) (fun b o _ e => u.there b o e (by simp)) u.tups u.frzs u.tbls (fun m' hm => by
    obtain ⟨o', es', ep', ho', r'⟩ := hm
    rw [ho] at ho'; cases ho'
    exact ⟨_, es', ep', hL, r'⟩) hok I.bare
/-- behind a call (or a comprehension's block): the slots of this frame may have changed too, the records at ch may have turned -/
theorem Inv.call {g' : Array GenState} {t' : Nat} {d' : Drawn} {ch : List Addr} (I : Inv X pins σ H s) (u : Un (frs X.stack) ch H H' s.heap h') (hok : HOk X.prog X.w H' h') (hg : AllBare g')
    (hch : ∀ b ∈ ch, (b ∈ X.ex ∨ X.s₀.heap.objs.size ≤ b) ∧ b ≠ X.env.locals ∧ (∀ x c, X.env.cells.lookup x = some c → c ≠ b) ∧ ∀ p ∈ X.pn ++ pins, p.1 ≠ b) :
    Inv X pins σ H' { s with heap := h', gens := g', drawn := d', toks := t' } := by
  obtain ⟨m, ⟨o, es, ep, ho, r⟩, _⟩ := id I.loc
  obtain ⟨sl, hL⟩ := u.any ho I.free fun z => (hch _ z).2.1 rfl
  exact I.step (ch := ch) hch (fun b o hL hb hc e n => u.keep b o e n (fun z => (List.mem_cons.mp (I.stkSub b z)).elim hL hb) hc) (fun b o _ _ hc e n => u.any e n hc) (fun b o hc e n => u.free b o e n hc) (fun b o hc e => u.there b o e hc) u.tups u.frzs u.tbls (fun m' hm => by
    obtain ⟨o', es', ep', ho', r'⟩ := hm
    rw [ho] at ho'; cases ho'
    exact ⟨_, es', ep', hL, r'⟩) hok hg
/-- an untracked record of ours (an iterator) has turned -/
theorem Inv.turned {t' : Nat} {it : Addr} (I : Inv X pins σ H s) (k : ∀ b o, b ≠ it → s.heap.get? b = some o → h'.get? b = some o) (hn : H it = none) (hL : it ≠ X.env.locals)
    (h1 : it ∈ X.ex ∨ X.s₀.heap.objs.size ≤ it) (h2 : ∀ x c, X.env.cells.lookup x = some c → c ≠ it) (h3 : ∀ p ∈ X.pn ++ pins, p.1 ≠ it) : Inv X pins σ H { s with heap := h', toks := t' } := by
  have nit : ∀ b u, H b = some u → b ≠ it := fun b u e z => by rw [z, hn] at e; cases e
  refine I.step (g' := s.gens) (d' := s.drawn) (ch := [it]) (fun b hb => ?_) (fun b o _ _ hc e _ => k b o (fun z => hc (by simp [z])) e) (fun b o _ _ hc e _ => ⟨o.slots, k b o (fun z => hc (by simp [z])) e⟩) (fun _ _ _ _ n => n)
    (fun b o hc e => ⟨o, k b o (fun z => hc (by simp [z])) e⟩) (fun _ _ e => e) (fun _ _ _ e => e) (fun b ps e => ⟨#[], by rw [e]; simp⟩) (fun m hm => ?_) (fun b u e => ?_) I.bare
  · have e : b = it := by simpa using hb
    subst e
    exact ⟨h1, hL, h2, h3⟩
  · obtain ⟨o, es, ep, ho, r⟩ := hm
    exact ⟨o, es, ep, k _ o (Ne.symm hL) ho, r⟩
  · refine (I.hok b u e).stay (fun c v hc q => k c v ?_ q) (fun _ q => q) fun _ _ q => q
    rcases hc with z | z
    · rw [z]; exact nit b u e
    · exact nit c _ z
theorem Inv.tok (I : Inv X pins σ H s) (t : Nat) : Inv X pins σ H { s with toks := t } := I.un (h' := s.heap) (t' := t) Un.refl I.hok
/-- all objects kept -/
theorem Inv.kept {t' : Nat} (I : Inv X pins σ H s) (k : ∀ b u, s.heap.get? b = some u → h'.get? b = some u) : Inv X pins σ H { s with heap := h', toks := t' } := I.un (Un.kept k) (I.hok.kept k)
/-- a new object laid and tracked -/
theorem Inv.laid {a : Addr} {o : HO} {t' : Nat} (I : Inv X pins σ H s) (k : ∀ b u, s.heap.get? b = some u → h'.get? b = some u) (hp : s.heap.objs.size ≤ a) (new : ObjOk X.prog X.w (upd H a o) h' a o) :
    Inv X pins σ (upd H a o) { s with heap := h', toks := t' } := I.un (Un.laid k hp (I.hok.fresh hp)) (I.hok.laid k hp new)
/-- an object written -/
theorem Inv.write {x e : Addr} {o : HO} {t' : Nat} (I : Inv X pins σ H s) (mu : Mut (H x)) (he : e = x ∨ H e = some (.own x)) (k : ∀ b u, b ≠ e → s.heap.get? b = some u → h'.get? b = some u) (heo : ∃ u, h'.get? e = some u)
    (new : ObjOk X.prog X.w (upd H x o) h' x o) : Inv X pins σ (upd H x o) { s with heap := h', toks := t' } := I.un (Un.write mu he k heo) (I.hok.write mu he k heo new)
theorem Inv.pins_of {pins' : List (Addr × Obj)} (I : Inv X pins σ H s) (h : ∀ p ∈ pins', s.heap.get? p.1 = some p.2 ∧ H p.1 = none ∧ p.1 ≠ X.env.locals ∧ p.1 ∉ X.fs ∧ ∀ v, p.2.data ≠ .cell v) : Inv X pins' σ H s :=
  ⟨I.ok, I.os, I.bare, I.base, I.loc, I.cell, I.free, I.freeC, fun p hp => (List.mem_append.mp hp).elim (fun z => I.pin p (List.mem_append_left _ z)) (h p), I.hok, I.len⟩

theorem nodup_ix {N : List Str} (hN : N.Nodup) {i j : Nat} {x : Str} (a : N[i]? = some x) (b : N[j]? = some x) : i = j := by
  obtain ⟨h1, e1⟩ := List.getElem?_eq_some_iff.mp a
  obtain ⟨h2, e2⟩ := List.getElem?_eq_some_iff.mp b
  exact (List.getElem_inj hN).mp (e1.trans e2.symm)

/-- a name is stored; what changed -/
theorem store_ok2 {M : Model} {A : Around} {E : Value → Shared → Prop} {i : Nat} {x : Str} {v : V} {u : Value} {Q : Unit → Shared → Prop} (I : Inv X pins σ H s) (hN : X.N.Nodup) (hi : X.N[i]? = some x) (hx : Loc X.env.scope x) (r : RelV v u)
    (h : ∀ s', Inv X pins (σ.set i (some v)) H s' → (∃ a, Heap.SameBut a s.heap s'.heap ∧ (a = X.env.locals ∨ X.env.cells.lookup x = some a)) → Q () s') (hf : X.fn x = true ∨ X.env.scope.names.lookup x = some .local := by first | exact .inl rfl | exact .inr rfl | assumption) : wpAny M A (storeName X.env x u) Q E s := by
  obtain ⟨m, hn, hl⟩ := id I.loc
  have hcls : (X.env.scope.kind == .class || (X.env.scope.kind == .module && X.env.locals != X.env.globals)) = false := by rw [I.ok.kind]; rfl
  have hiσ : i < σ.length := by rw [I.len]; exact (List.getElem?_eq_some_iff.mp hi).1
  have cne := I.cne
  have tracked : ∀ {a : Addr} {h' : Heap}, (∃ o, s.heap.get? a = some o ∧ H a = none) → Heap.SameBut a s.heap h' → HOk X.prog X.w H h' := fun {a h'} ha hs b ob e => by
    obtain ⟨_, _, hfree⟩ := ha
    refine (I.hok b ob e).stay (fun c w' hc q => (hs.2 c ?_).trans q) (fun _ q => q) fun _ _ q => q
    rintro rfl
    rcases hc with rfl | hc
    · rw [hfree] at e; cases e
    · rw [hfree] at hc; cases hc
  rcases hx with hk | hk
  · refine wpAny_storeName_local hk hn (fun h' hn' hs => ?_) hcls
    obtain ⟨oL, _, _, hoL, _⟩ := id hn
    refine h _ ⟨I.ok, I.os, I.bare, ⟨fun b o e n hb hx => ?_, fun b o e n hb hx => ?_, I.base.free, fun b o e hx => ?_, I.base.tups, I.base.frzs, I.base.tbls⟩, ⟨_, hn', fun j y v' e1 e2 e3 => ?_⟩, fun y c e => ?_, I.free, I.freeC, fun p hp => ?_, tracked ⟨oL, hoL, I.free⟩ hs, by simpa using I.len⟩ ⟨_, hs, .inl rfl⟩
    · exact (hs.2 b (Nat.ne_of_lt (Nat.lt_of_lt_of_le (Heap.lt_size e) I.ok.above))).trans (I.base.keep b o e n hb hx)
    · obtain ⟨sl, e1⟩ := I.base.slot b o e n hb hx
      exact ⟨sl, (hs.2 b (Nat.ne_of_lt (Nat.lt_of_lt_of_le (Heap.lt_size e) I.ok.above))).trans e1⟩
    · obtain ⟨o', e1⟩ := I.base.there b o e hx
      exact ⟨o', (hs.2 b (Nat.ne_of_lt (Nat.lt_of_lt_of_le (Heap.lt_size e) I.ok.above))).trans e1⟩
    · by_cases hj : j = i
      · subst hj
        rw [hi] at e1; cases e1
        rw [List.getElem?_set_self hiσ] at e2
        cases e2
        exact ⟨u, r, .inl ⟨hk, by simp⟩⟩
      · rw [List.getElem?_set_ne (Ne.symm hj)] at e2
        obtain ⟨u', r', q⟩ := hl j y v' e1 e2 e3
        refine ⟨u', r', ?_⟩
        rcases q with ⟨k, e⟩ | ⟨k, c, e, z⟩
        · refine .inl ⟨k, ?_⟩
          have : y ≠ x := fun e => hj (nodup_ix hN e1 (e ▸ hi))
          simp [this, e]
        · exact .inr ⟨k, c, e, z.sameBut hs (cne y c e)⟩
    · obtain ⟨w', z⟩ := I.cell y c e
      exact ⟨w', z.sameBut hs (cne y c e)⟩
    · obtain ⟨e, n, ne, nf, d⟩ := I.pin p hp
      exact ⟨(hs.2 p.1 ne).trans e, n, ne, nf, d⟩
  · have hfn : X.fn x = true := by
      rcases hf with z | z
      · exact z
      · rw [z] at hk; cases hk
    obtain ⟨c, hc⟩ := I.ok.has x (.inl hk)
    obtain ⟨w', z⟩ := I.cell x c hc
    refine wpAny_storeName_cell I.ok.kind hk hc z (fun h' hc' hs => ?_)
    obtain ⟨oc, hoc, hocd⟩ := id z
    refine h { s with heap := h' } ⟨I.ok, I.os, I.bare, ⟨fun b o e n hb hx => ?_, fun b o e n hb hx => ?_, I.base.free, fun b o e hx => ?_, I.base.tups, I.base.frzs, I.base.tbls⟩, ⟨m, hn.sameBut hs (Ne.symm (cne x c hc)), fun j y v' e1 e2 e3 => ?_⟩, fun y c' e => ?_, I.free, I.freeC, fun p hp => ?_, tracked ⟨oc, hoc, I.freeC x c hc⟩ hs, by simpa using I.len⟩ ⟨c, hs, .inr hc⟩
    · exact (hs.2 b (Nat.ne_of_lt (Nat.lt_of_lt_of_le (Heap.lt_size e) (I.ok.cab x c hfn hc)))).trans (I.base.keep b o e n hb hx)
    · obtain ⟨sl, e1⟩ := I.base.slot b o e n hb hx
      exact ⟨sl, (hs.2 b (Nat.ne_of_lt (Nat.lt_of_lt_of_le (Heap.lt_size e) (I.ok.cab x c hfn hc)))).trans e1⟩
    · obtain ⟨o', e1⟩ := I.base.there b o e hx
      exact ⟨o', (hs.2 b (Nat.ne_of_lt (Nat.lt_of_lt_of_le (Heap.lt_size e) (I.ok.cab x c hfn hc)))).trans e1⟩
    · by_cases hj : j = i
      · subst hj
        rw [hi] at e1; cases e1
        rw [List.getElem?_set_self hiσ] at e2
        cases e2
        exact ⟨u, r, .inr ⟨.inl hk, c, hc, hc'⟩⟩
      · rw [List.getElem?_set_ne (Ne.symm hj)] at e2
        obtain ⟨u', r', q⟩ := hl j y v' e1 e2 e3
        refine ⟨u', r', ?_⟩
        rcases q with q | ⟨k, c', e, z'⟩
        · exact .inl q
        · refine .inr ⟨k, c', e, z'.sameBut hs ?_⟩
          rintro rfl
          exact hj (nodup_ix hN e1 (I.ok.inj _ _ _ e hc ▸ hi))
    · by_cases hcc : c' = c
      · subst hcc; exact ⟨_, hc'⟩
      · obtain ⟨w2, z2⟩ := I.cell y c' e
        exact ⟨w2, z2.sameBut hs hcc⟩
    · obtain ⟨e, n, ne, nf, d⟩ := I.pin p hp
      refine ⟨(hs.2 p.1 ?_).trans e, n, ne, nf, d⟩
      intro q
      rw [q, hoc] at e
      have q' : oc = p.2 := Option.some.inj e
      exact d w' (by rw [← q']; exact hocd)
theorem store_ok {M : Model} {A : Around} {E : Value → Shared → Prop} {i : Nat} {x : Str} {v : V} {u : Value} {Q : Unit → Shared → Prop} (I : Inv X pins σ H s) (hN : X.N.Nodup) (hi : X.N[i]? = some x) (hx : Loc X.env.scope x) (r : RelV v u)
    (h : ∀ s', Inv X pins (σ.set i (some v)) H s' → Q () s') (hf : X.fn x = true ∨ X.env.scope.names.lookup x = some .local := by first | exact .inl rfl | exact .inr rfl | assumption) : wpAny M A (storeName X.env x u) Q E s :=
  store_ok2 I hN hi hx r (fun s' I' _ => h s' I') hf
/-- behind a call or a block, the state as it is -/
theorem Inv.call' {s' : Shared} {ch : List Addr} (I : Inv X pins σ H s) (ho : s'.os = s.os) (u : Un (frs X.stack) ch H H' s.heap s'.heap) (hok : HOk X.prog X.w H' s'.heap) (hg : AllBare s'.gens)
    (hch : ∀ b ∈ ch, (b ∈ X.ex ∨ X.s₀.heap.objs.size ≤ b) ∧ b ≠ X.env.locals ∧ (∀ x c, X.env.cells.lookup x = some c → c ≠ b) ∧ ∀ p ∈ X.pn ++ pins, p.1 ≠ b) : Inv X pins σ H' s' := by
  obtain ⟨h', g', d', t', o'⟩ := s'
  have e : o' = s.os := ho
  subst e
  exact I.call (g' := g') (t' := t') (d' := d') u hok hg hch
end

/-! ### the judgements -/
/-- an exception: its class, its own dict's address (where it has one), the abstract heap behind it -/
abbrev XK := Value → Option Addr → Hp → Prop
abbrev St := List (Option V)
abbrev VK := V → Hp → Prop
/-- an expression's reading; a test's; an argument list's -/
abbrev TE := St → Hp → VK → Prop
abbrev TT := St → Hp → (Bool → Hp → Prop) → Prop
abbrev TA := St → Hp → (List V → Hp → Prop) → Prop
/-- what is wanted behind a statement -/
structure Ends where
  nx : St → Hp → Prop
  rt : VK
  bk : St → Hp → Prop := fun _ _ => False
  ct : St → Hp → Prop := fun _ _ => False
abbrev TS := Ends → St → Hp → Prop

def EP (X : Cx) (pins : List (Addr × Obj)) (σ : St) (Q : VK) (u : Value) (s' : Shared) : Prop := ∃ v H', Inv X pins σ H' s' ∧ RelV v u ∧ Q v H'
def TP (X : Cx) (pins : List (Addr × Obj)) (σ : St) (Q : Bool → Hp → Prop) (b : Bool) (s' : Shared) : Prop := ∃ H', Inv X pins σ H' s' ∧ Q b H'
def AP (X : Cx) (pins : List (Addr × Obj)) (σ : St) (Q : List V → Hp → Prop) (us : List Value) (s' : Shared) : Prop := ∃ vs H', Inv X pins σ H' s' ∧ Vals vs us ∧ Q vs H'
def SP (X : Cx) (pins : List (Addr × Obj)) (D : Ends) (f : Flow) (s' : Shared) : Prop :=
  match f with
  | .next => ∃ σ' H', Inv X pins σ' H' s' ∧ D.nx σ' H'
  | .brk => ∃ σ' H', Inv X pins σ' H' s' ∧ D.bk σ' H'
  | .cont => ∃ σ' H', Inv X pins σ' H' s' ∧ D.ct σ' H'
  | .ret u => ∃ v σ' H', Inv X pins σ' H' s' ∧ RelV v u ∧ D.rt v H'

def PE (X : Cx) (e : Expr) (t : TE) : Prop :=
  ∀ (pins : List (Addr × Obj)) (s : Shared) (σ : St) (H : Hp) (Q : VK), Inv X pins σ H s → t σ H Q → wpAny (model X.prog X.w) X.A (eval e X.env) (EP X pins σ Q) X.xe s
def PT (X : Cx) (e : Expr) (t : TT) : Prop :=
  ∀ (pins : List (Addr × Obj)) (s : Shared) (σ : St) (H : Hp) (Q : Bool → Hp → Prop), Inv X pins σ H s → t σ H Q → wpAny (model X.prog X.w) X.A (isTrue e X.env (eval e X.env)) (TP X pins σ Q) X.xe s
/-- a test whatever its 'whole' is (and, or) -/
def PW (X : Cx) (e : Expr) (t : TT) : Prop :=
  ∀ (whole : Sem Value) (pins : List (Addr × Obj)) (s : Shared) (σ : St) (H : Hp) (Q : Bool → Hp → Prop), Inv X pins σ H s → t σ H Q → wpAny (model X.prog X.w) X.A (isTrue e X.env whole) (TP X pins σ Q) X.xe s
theorem PW.pt {X : Cx} {e : Expr} {t : TT} (h : PW X e t) : PT X e t := h _
/-- an argument list (no star), from the left -/
def PA (X : Cx) (es : List Expr) (t : TA) : Prop :=
  ∀ (pos : Pos) (pins : List (Addr × Obj)) (s : Shared) (σ : St) (H : Hp) (Q : List V → Hp → Prop), Inv X pins σ H s → t σ H Q → wpAny (model X.prog X.w) X.A (spliced (backTo pos (starEach es X.env))) (AP X pins σ Q) X.xe s
def PS (X : Cx) (st : Stmt) (t : TS) : Prop :=
  ∀ (pins : List (Addr × Obj)) (s : Shared) (σ : St) (H : Hp) (D : Ends), Inv X pins σ H s → t D σ H → wpAny (model X.prog X.w) X.A (exec st X.env) (SP X pins D) X.xe s
def PSs (X : Cx) (st : List Stmt) (t : TS) : Prop :=
  ∀ (pins : List (Addr × Obj)) (s : Shared) (σ : St) (H : Hp) (D : Ends), Inv X pins σ H s → t D σ H → wpAny (model X.prog X.w) X.A (execs st X.env) (SP X pins D) X.xe s
/-- weaken the end -/
theorem thn {α : Type} {t : Sem α} {Q Q' : α → Shared → Prop} {M : Model} {A : Around} {E : Value → Shared → Prop} {s : Shared} (h : wpAny M A t Q E s) (hQ : ∀ a s, Q a s → Q' a s) : wpAny M A t Q' E s := wpAny_mono h hQ fun _ _ x => x
end L2

namespace L2
open PySem PySem.Spec PyProof.Rows
section
variable {X : Cx}

/-! ### names and constants -/
def tVar (i : Nat) : TE := fun σ H Q => ∃ v, σ[i]? = some (some v) ∧ Q v H
def tC (v : V) : TE := fun _ H Q => Q v H
theorem pe_var {i : Nat} {x : Str} {pos : Pos} (hN : X.N[i]? = some x) (hv : Vis X.env.scope x) (hd : (x == ("__debug__" : Str)) = false := by decide) (hcd : (x == ("__classdict__" : Str)) = false := by decide) : PE X (.Name x pos) (tVar i) := by
  intro pins s σ H Q I h
  obtain ⟨v, e, h⟩ := h
  obtain ⟨m, hn, hl⟩ := I.loc
  obtain ⟨u, r, l⟩ := hl i x v hN e hv
  have fin : EP X pins σ Q u s := ⟨v, H, I, r, h⟩
  rcases l with ⟨hk, hm⟩ | ⟨hk, c, hc, hcell⟩
  · exact wpAny_Name (wpAny_loadName_local I.ok.kind hk hn hm fin) hd
  · rcases hk with hk | hk
    · exact wpAny_Name (wpAny_loadName_cell I.ok.kind hk hc hcell fin) hd
    · exact wpAny_Name (wpAny_loadName_free I.ok.kind hk hc hcell fin hcd) hd
theorem pe_int {i j pos} : PE X (.Constant (.int i) j pos) (tC (.int i)) := fun _ _ _ H _ I h => wpAny_Constant_int ⟨.int i, H, I.tok _, ⟨_, rfl⟩, h⟩
theorem pe_bl {b j pos} : PE X (.Constant (.bool b) j pos) (tC (.bl b)) := fun _ _ _ H _ I h => Constant_bool ⟨.bl b, H, I, rfl, h⟩
theorem pe_non {j pos} : PE X (.Constant .none j pos) (tC .non) := fun _ _ _ H _ I h => Constant_none ⟨.non, H, I, rfl, h⟩
theorem pe_str {x j pos} : PE X (.Constant (.str x) j pos) (tC (.str x)) := fun _ _ _ H _ I h => Calls.Constant_str ⟨.str x, H, I.tok _, ⟨_, rfl⟩, h⟩

/-- a global name of the def -/
def Gl (X : Cx) (x : Str) : Prop := X.env.kindOf x = some .globalImplicit
theorem ld_glob {E : Value → Shared → Prop} {pins : List (Addr × Obj)} {s : Shared} {σ : St} {H : Hp} {x : Str} {u : Value} {pos : Pos} {Q : Value → Shared → Prop} (I : Inv X pins σ H s) (hg : Gl X x) (hm : X.mg x = some u) (h : Q u s)
    (hd : (x == ("__debug__" : Str)) = false := by decide) : wpAny (model X.prog X.w) X.A (eval (.Name x pos) X.env) Q E s :=
  Calls.Name_function_global I.ok.kind hg (Calls.loadGlobal_global (by rw [I.ok.glob]; exact I.mod.glob.keeps I.bk) hm h) hd
theorem ld_blt {E : Value → Shared → Prop} {pins : List (Addr × Obj)} {s : Shared} {σ : St} {H : Hp} {x : Str} {u : Value} {pos : Pos} {Q : Value → Shared → Prop} (I : Inv X pins σ H s) (hg : Gl X x) (hm : X.mg x = none) (hv : bootBuiltins x = some u) (h : Q u s)
    (hn : x ≠ "__name__" := by decide) (hd : (x == ("__debug__" : Str)) = false := by decide) : wpAny (model X.prog X.w) X.A (eval (.Name x pos) X.env) Q E s := by
  obtain ⟨mb, h1, h2⟩ := I.mod.blt
  exact Calls.Name_function_global I.ok.kind hg (Calls.loadGlobal_builtin (by rw [I.ok.glob]; exact I.mod.glob.keeps I.bk) hm (by rw [I.ok.blt]; exact h1.keeps I.bk) ((h2 x hn).trans hv) h) hd
/-- a module's constant, a class, a function, as a value -/
theorem pe_glob {x : Str} {v : V} {u : Value} {pos : Pos} (hg : Gl X x) (hm : X.mg x = some u) (r : RelV v u) (hd : (x == ("__debug__" : Str)) = false := by decide) : PE X (.Name x pos) (tC v) :=
  fun _ _ _ H _ I h => ld_glob I hg hm ⟨v, H, I, r, h⟩ hd
theorem pe_bltn {x : Str} {v : V} {u : Value} {pos : Pos} (hg : Gl X x) (hm : X.mg x = none) (hv : bootBuiltins x = some u) (r : RelV v u) (hn : x ≠ "__name__" := by decide) (hd : (x == ("__debug__" : Str)) = false := by decide) : PE X (.Name x pos) (tC v) :=
  fun _ _ _ H _ I h => ld_blt I hg hm hv ⟨v, H, I, r, h⟩ hn hd

/-! ### arithmetic -/
variable {a b : Expr} {ta tb : TE} {pos : Pos}

/-! ### comparisons -/
def PC (X : Cx) (op : CmpOp) (a b : Expr) (t : TE) : Prop :=
  ∀ (pins : List (Addr × Obj)) (s : Shared) (σ : St) (H : Hp) (Q : VK), Inv X pins σ H s → t σ H Q →
    wpAny (model X.prog X.w) X.A (eval a X.env) (fun v s₁ => wpAny (model X.prog X.w) X.A (eval b X.env) (fun u s₂ => wpAny (model X.prog X.w) X.A (compareOp op v u) (EP X pins σ Q) X.xe s₂) X.xe s₁) X.xe s
/-- a comparison as a value, as a test -/
def tB (t : TE) : TT := fun σ H Q => t σ H fun x H1 => ∃ c, x = .bl c ∧ Q c H1
theorem pe_cmp {op : CmpOp} {t : TE} (h : PC X op a b t) (h1 : behindInMarks op b = false := by first | exact nobehind _ (by decide) (by decide) | rfl) : PE X (.Compare a [op] [b] pos) t := fun pins s σ H Q I hw => wpAny_Compare1 (h pins s σ H Q I hw) h1
theorem pt_cmp {op : CmpOp} {t : TE} (h : PC X op a b t) (h1 : behindInMarks op b = false := by first | exact nobehind _ (by decide) (by decide) | rfl) : PT X (.Compare a [op] [b] pos) (tB t) := by
  intro pins s σ H Q I hw
  refine wpAny_isTrue_Compare1 (thn (h pins s σ H _ I hw) fun v s1 h1 => thn h1 fun u s2 h2 => thn h2 fun c s3 ⟨x, H1, I1, r1, q1⟩ => ?_) h1
  obtain ⟨d, rfl, q⟩ := q1
  cases r1
  exact wpAny_truthy_bool ⟨H1, I1, q⟩
/-- an expression whose value is a bool, as a test -/
theorem pt_val {e : Expr} {t : TE} (h : PE X e t) (he : ∀ whole, isTrue e X.env whole = (do let v ← whole; standAt e.pos; holding [v] (truthy v)) := by intro _; rfl) : PT X e (tB t) := by
  intro pins s σ H Q I hw
  refine isTrue_plain (thn (h pins s σ H _ I hw) fun v s1 ⟨x, H1, I1, r1, q1⟩ => ?_) (he _)
  obtain ⟨d, rfl, q⟩ := q1
  cases r1
  exact wpAny_truthy_bool ⟨H1, I1, q⟩

/-! ### and, or, not -/
variable {tA tB' : TT} {rest : List Expr}
def tOr (t u : TT) : TT := fun σ H Q => t σ H fun c H1 => if c = true then Q true H1 else u σ H1 Q
def tNot (t : TT) : TT := fun σ H Q => t σ H fun c H1 => Q (!c) H1
theorem pw_or1 (ha : PT X a tA) : PW X (.BoolOp .Or [a] pos) tA := by
  intro wh pins s σ H Q I h
  refine isTrue_or (thn (ha pins s σ H Q I h) fun c s1 e => ?_)
  cases c with
  | false => exact isTrue_or_nil e
  | true => exact e
theorem pw_or (ha : PT X a tA) (hb : PW X (.BoolOp .Or (b :: rest) pos) tB') : PW X (.BoolOp .Or (a :: b :: rest) pos) (tOr tA tB') := by
  intro wh pins s σ H Q I h
  refine isTrue_or (thn (ha pins s σ H _ I h) fun c s1 ⟨H1, I1, q1⟩ => ?_)
  cases c with
  | true => exact ⟨H1, I1, q1⟩
  | false => exact hb wh pins s1 σ H1 Q I1 q1
theorem pt_not (ha : PT X a tA) : PT X (.UnaryOp .Not a pos) (tNot tA) := by
  intro pins s σ H Q I h
  exact isTrue_not (ha pins s σ H (fun c H1 => Q (!c) H1) I h)
/-- .. as values (bools) -/
def tAndV (ta tb : TE) : TE := fun σ H Q => ta σ H fun x H1 => ∃ c, x = .bl c ∧ if c = true then tb σ H1 Q else Q (.bl false) H1
def tOrV (ta tb : TE) : TE := fun σ H Q => ta σ H fun x H1 => ∃ c, x = .bl c ∧ if c = true then Q (.bl true) H1 else tb σ H1 Q
def tNotV (ta : TE) : TE := fun σ H Q => ta σ H fun x H1 => ∃ c, x = .bl c ∧ Q (.bl (!c)) H1
theorem pe_one {op} {t : TE} (h : PE X a t) : PE X (.BoolOp op [a] pos) t := fun pins s σ H Q I hw => BoolOp_one (h pins s σ H Q I hw)
theorem pe_and (ha : PE X a ta) (hb : PE X (.BoolOp .And (b :: rest) pos) tb) : PE X (.BoolOp .And (a :: b :: rest) pos) (tAndV ta tb) := by
  intro pins s σ H Q I h
  refine BoolOp_and (thn (ha pins s σ H _ I h) fun v s1 ⟨x, H1, I1, r1, q1⟩ => ?_)
  obtain ⟨c, rfl, q1⟩ := q1
  cases r1
  refine wpAny_truthy_bool ?_
  cases c with
  | true => exact hb pins s1 σ H1 Q I1 q1
  | false => exact ⟨.bl false, H1, I1, rfl, q1⟩
theorem pe_or (ha : PE X a ta) (hb : PE X (.BoolOp .Or (b :: rest) pos) tb) : PE X (.BoolOp .Or (a :: b :: rest) pos) (tOrV ta tb) := by
  intro pins s σ H Q I h
  refine BoolOp_or (thn (ha pins s σ H _ I h) fun v s1 ⟨x, H1, I1, r1, q1⟩ => ?_)
  obtain ⟨c, rfl, q1⟩ := q1
  cases r1
  refine wpAny_truthy_bool ?_
  cases c with
  | false => exact hb pins s1 σ H1 Q I1 q1
  | true => exact ⟨.bl true, H1, I1, rfl, q1⟩
theorem pe_not (ha : PE X a ta) : PE X (.UnaryOp .Not a pos) (tNotV ta) := by
  intro pins s σ H Q I h
  refine UnaryOp_ (thn (ha pins s σ H _ I h) fun v s1 ⟨x, H1, I1, r1, q1⟩ => ?_)
  obtain ⟨c, rfl, q1⟩ := q1
  cases r1
  exact not_of (wpAny_truthy_bool ⟨.bl (!c), H1, I1, rfl, q1⟩)
end
end L2

namespace L2
open PySem PySem.Spec PyProof.Rows

/-! ### a list, a tuple that is read: tracked, frozen, or an object of the module -/
def SqL (K : PySem.W.Frag) (H : Hp) (a : Addr) (xs : List V) : Prop :=
  Rd H a (.lst xs) ∨
    ∃ (o : Obj) (its : Array Value) (n : Nat), K.lookup a = some o ∧ o.cls = .type "list" ∧ o.dict = none ∧ o.data = .seq its n ∧ its.size ≤ sizeLine ∧ Vals xs its.toList
def SqT (K : PySem.W.Frag) (H : Hp) (a : Addr) (xs : List V) : Prop :=
  Rd H a (.tup xs) ∨
    ∃ (o : Obj) (its : Array Value) (n : Nat), K.lookup a = some o ∧ o.cls = .type "tuple" ∧ o.data = .seq its n ∧ its.size ≤ sizeLine ∧ Vals xs its.toList
def absV : Value → Option V
  | .none => some .non
  | .bool b => some (.bl b)
  | .int i _ => some (.int i)
  | .str x _ => some (.str x)
  | .bytes b _ => some (.byt b)
  | .float b _ => some (.flt b)
  | .ref a => some (.ref a)
  | .type n => some (.ty n)
  | _ => none
theorem RelV.abs {x : V} {u : Value} (r : RelV x u) : absV u = some x := by
  cases x with
  | non => cases r; rfl
  | bl _ => cases r; rfl
  | int _ => obtain ⟨t, rfl⟩ := r; rfl
  | str _ => obtain ⟨t, rfl⟩ := r; rfl
  | byt _ => obtain ⟨t, rfl⟩ := r; rfl
  | flt _ => obtain ⟨t, rfl⟩ := r; rfl
  | ref _ => cases r; rfl
  | ty _ => cases r; rfl
theorem RelV.inj {x y : V} {u : Value} (r : RelV x u) (q : RelV y u) : x = y := Option.some.inj (r.abs.symm.trans q.abs)
theorem Vals.inj : ∀ {xs ys : List V} {us : List Value}, Vals xs us → Vals ys us → xs = ys
  | _, _, _, .nil, .nil => rfl
  | _, _, _, .cons r t, .cons r' t' => by rw [r.inj r', Vals.inj t t']
section
variable {X : Cx} {pins : List (Addr × Obj)} {σ : St} {H : Hp} {s : Shared} {a : Addr} {xs ys : List V}
theorem SqL.of {K : PySem.W.Frag} (h : H a = some (.lst xs)) : SqL K H a xs := .inl (.inl h)
theorem SqT.of {K : PySem.W.Frag} (h : H a = some (.tup xs)) : SqT K H a xs := .inl (.inl h)
theorem Inv.list (I : Inv X pins σ H s) (h : SqL X.K H a xs) : ∃ its : List Value, Vals xs its ∧ PlainL s.heap a its.toArray ∧ xs.length ≤ sizeLine := by
  rcases h with h | ⟨o, its, n, hk, hc, hd, hs, hz, r⟩
  · obtain ⟨z, its, n, r, e⟩ := h.ok I.hok
    exact ⟨its, r, ⟨_, n, e, rfl, rfl, rfl⟩, z⟩
  · refine ⟨its.toList, r, ⟨o, n, I.kIn a o hk, hc, hd, by simpa using hs⟩, ?_⟩
    have e := r.length
    simp only [Array.length_toList] at e
    omega
theorem Inv.tuple (I : Inv X pins σ H s) (h : SqT X.K H a xs) : ∃ its : List Value, Vals xs its ∧ IsTup s.heap a its.toArray ∧ xs.length ≤ sizeLine := by
  rcases h with h | ⟨o, its, n, hk, hc, hs, hz, r⟩
  · obtain ⟨z, its, r, p⟩ := h.ok I.hok
    exact ⟨its, r, p, z⟩
  · refine ⟨its.toList, r, ⟨o, I.kIn a o hk, hc, n, by simpa using hs⟩, ?_⟩
    have e := r.length
    simp only [Array.length_toList] at e
    omega
theorem Inv.list_inj (I : Inv X pins σ H s) (h : SqL X.K H a xs) (h' : SqL X.K H a ys) : xs = ys := by
  obtain ⟨its, r, ⟨o, n, e, _, _, d⟩, _⟩ := I.list h
  obtain ⟨its', r', ⟨o', n', e', _, _, d'⟩, _⟩ := I.list h'
  rw [e] at e'; cases e'
  rw [d] at d'
  injection d' with d1 _
  have : its = its' := by simpa using congrArg Array.toList d1
  subst this
  exact r.inj r'
theorem Inv.tuple_inj (I : Inv X pins σ H s) (h : SqT X.K H a xs) (h' : SqT X.K H a ys) : xs = ys := by
  obtain ⟨its, r, ⟨o, e, _, n, d⟩, _⟩ := I.tuple h
  obtain ⟨its', r', ⟨o', e', _, n', d'⟩, _⟩ := I.tuple h'
  rw [e] at e'; cases e'
  rw [d] at d'
  injection d' with d1 _
  have : its = its' := by simpa using congrArg Array.toList d1
  subst this
  exact r.inj r'
end

/-! ### another wish about exceptions -/
abbrev Cx.wish (X : Cx) (E : Value → Shared → Prop) : Cx := { X with xe := E }
/-- no exception leaves -/
abbrev Cx.nox (X : Cx) : Cx := X.wish fun _ _ => False
theorem Cx.Ok.wish {X : Cx} (ok : X.Ok) (E : Value → Shared → Prop) : (X.wish E).Ok :=
  ⟨ok.mod, ok.kind, ok.glob, ok.blt, ok.above, ok.inj, ok.has, ok.cab, ok.hd, ok.frames, ok.stk, ok.exf, ok.bs, ok.bsz, ok.noex, ok.exfs, ok.funs, ok.frf⟩
theorem Cx.Ok.unwish {X : Cx} {E : Value → Shared → Prop} (ok : (X.wish E).Ok) : X.Ok :=
  ⟨ok.mod, ok.kind, ok.glob, ok.blt, ok.above, ok.inj, ok.has, ok.cab, ok.hd, ok.frames, ok.stk, ok.exf, ok.bs, ok.bsz, ok.noex, ok.exfs, ok.funs, ok.frf⟩
section
variable {X : Cx} {pins : List (Addr × Obj)} {σ : St} {H : Hp} {s : Shared} {E : Value → Shared → Prop}
theorem Inv.wish (I : Inv X pins σ H s) (E : Value → Shared → Prop) : Inv (X.wish E) pins σ H s := ⟨I.ok.wish E, I.os, I.bare, I.base, I.loc, I.cell, I.free, I.freeC, I.pin, I.hok, I.len⟩
theorem Inv.unwish (I : Inv (X.wish E) pins σ H s) : Inv X pins σ H s := ⟨I.ok.unwish, I.os, I.bare, I.base, I.loc, I.cell, I.free, I.freeC, I.pin, I.hok, I.len⟩
theorem SP.unwish {D : Ends} {f : Flow} {s' : Shared} (h : SP (X.wish E) pins D f s') : SP X pins D f s' := by
  cases f with
  | next => obtain ⟨σ', H', I, q⟩ := h; exact ⟨σ', H', I.unwish, q⟩
  | brk => obtain ⟨σ', H', I, q⟩ := h; exact ⟨σ', H', I.unwish, q⟩
  | cont => obtain ⟨σ', H', I, q⟩ := h; exact ⟨σ', H', I.unwish, q⟩
  | ret u => obtain ⟨v, σ', H', I, r, q⟩ := h; exact ⟨v, σ', H', I.unwish, r, q⟩
theorem PSs.nox {st : List Stmt} {t : TS} (h : PSs X.nox st t) : PSs X st t := fun pins s σ H D I hw =>
  wpAny_mono (h pins s σ H D (I.wish _) hw) (fun _ _ q => q.unwish) fun _ _ z => False.elim z
end

/-! ### blocks and small statements -/
section
variable {X : Cx} {st : Stmt} {rest : List Stmt} {t u : TS} {e : Expr} {te : TE} {pos : Pos}
def tNext : TS := fun D σ H => D.nx σ H
def tSeq (t u : TS) : TS := fun D σ H => t { D with nx := u D } σ H
theorem pss_nil : PSs X [] tNext := fun _ _ σ H _ I h => wpAny_execs_nil ⟨σ, H, I, h⟩
theorem pss_cons (h1 : PS X st t) (h2 : PSs X rest u) : PSs X (st :: rest) (tSeq t u) := by
  intro pins s σ H D I h
  refine wpAny_execs_cons (thn (h1 pins s σ H { D with nx := u D } I h) fun f s1 q => ?_)
  cases f with
  | next =>
    obtain ⟨σ', H', I', q⟩ := q
    exact h2 pins s1 σ' H' D I' q
  | ret v => exact q
  | brk => exact q
  | cont => exact q
theorem pss_one (h1 : PS X st t) : PSs X [st] t := by
  intro pins s σ H D I h
  refine wpAny_execs_cons (thn (h1 pins s σ H D I h) fun f s1 q => ?_)
  cases f with
  | next => exact wpAny_execs_nil q
  | ret v => exact q
  | brk => exact q
  | cont => exact q
/-- in a def's body nothing is shown -/
theorem Inv.quiet {pins : List (Addr × Obj)} {σ : St} {H : Hp} {s : Shared} (I : Inv X pins σ H s) : interactive X.env = false := by simp [interactive, I.ok.kind]
/-- an expression whose value is dropped -/
def tDrop (te : TE) : TS := fun D σ H => te σ H fun _ H1 => D.nx σ H1
theorem ps_expr (he : PE X e te) (hs : swapsWith e none pos.line X.env = pure false := by rfl) : PS X (.Expr e pos) (tDrop te) := by
  intro pins s σ H D I h
  exact wpAny_Expr_any (thn (he pins s σ H _ I h) fun v s1 ⟨x, H1, I1, r1, q1⟩ => ⟨σ, H1, I1, q1⟩) I.quiet hs
def tRet (te : TE) : TS := fun D σ H => te σ H D.rt
theorem ps_ret (he : PE X e te) : PS X (.Return (some e) pos) (tRet te) := by
  intro pins s σ H D I h
  exact wpAny_Return_some (thn (he pins s σ H _ I h) fun v s1 ⟨x, H1, I1, r1, q1⟩ => ⟨x, σ, H1, I1, r1, q1⟩)
def tIfS (c : TT) (t u : TS) : TS := fun D σ H => c σ H fun b H1 => if b = true then t D σ H1 else u D σ H1
theorem ps_if {c : Expr} {a b : List Stmt} {tc : TT} (hc : PT X c tc) (ha : PSs X a t) (hb : PSs X b u) : PS X (.If c a b pos) (tIfS tc t u) := by
  intro pins s σ H D I h
  refine wpAny_If (thn (hc pins s σ H _ I h) fun d s1 ⟨H1, I1, q1⟩ => ?_)
  cases d with
  | true => exact ha pins s1 σ H1 D I1 q1
  | false => exact hb pins s1 σ H1 D I1 q1
/-- code that the proof never comes to -/
def tNever : TS := fun _ _ _ => False
theorem ps_never : PS X st tNever := fun _ _ _ _ _ _ h => h.elim
end

/-! ### targets -/
abbrev TG := V → St → Hp → (St → Hp → Prop) → Prop
abbrev TGs := List V → St → Hp → (St → Hp → Prop) → Prop
def PG (X : Cx) (target : Expr) (t : TG) : Prop :=
  ∀ (pins : List (Addr × Obj)) (s : Shared) (σ : St) (H : Hp) (v : V) (u : Value) (Q : St → Hp → Prop), Inv X pins σ H s → RelV v u → t v σ H Q →
    wpAny (model X.prog X.w) X.A (assign target X.env u) (fun _ s' => ∃ σ' H', Inv X pins σ' H' s' ∧ Q σ' H') X.xe s
/-- several targets, one after another -/
def PGs (X : Cx) (ts : List Expr) (t : TGs) : Prop :=
  ∀ (pins : List (Addr × Obj)) (s : Shared) (σ : St) (H : Hp) (vs : List V) (us : List Value) (Q : St → Hp → Prop), Inv X pins σ H s → Vals vs us → t vs σ H Q →
    wpAny (model X.prog X.w) X.A (assignInOrder ((assignEach ts X.env).map (·.2)) us) (fun _ s' => ∃ σ' H', Inv X pins σ' H' s' ∧ Q σ' H') X.xe s
section
variable {X : Cx} {pos : Pos}
def gName (i : Nat) : TG := fun v σ H Q => Q (σ.set i (some v)) H
theorem pg_name {i : Nat} {x : Str} (hN : X.N.Nodup) (hi : X.N[i]? = some x) (hx : Loc X.env.scope x) (hf : X.fn x = true ∨ X.env.scope.names.lookup x = some .local := by first | exact .inl rfl | exact .inr rfl | assumption) : PG X (.Name x pos) (gName i) := by
  intro pins s σ H v u Q I r h
  exact wpAny_assign_Name (store_ok I hN hi hx r (fun s' I' => ⟨_, H, I', h⟩) hf)
def gNil : TGs := fun vs σ H Q => vs = [] ∧ Q σ H
def gCons (t : TG) (u : TGs) : TGs := fun vs σ H Q => ∃ v r, vs = v :: r ∧ t v σ H fun σ' H' => u r σ' H' Q
theorem pgs_nil : PGs X [] gNil := by
  intro pins s σ H vs us Q I r h
  obtain ⟨e, h⟩ := h
  subst e
  cases r
  exact assignInOrder_nil ⟨σ, H, I, h⟩
theorem pgs_cons {e : Expr} {es : List Expr} {t : TG} {u : TGs} (h1 : PG X e t) (h2 : PGs X es u)
    (hs : (assignEach (e :: es) X.env).map (·.2) = assign e X.env :: (assignEach es X.env).map (·.2) := by rfl) : PGs X (e :: es) (gCons t u) := by
  intro pins s σ H vs us Q I r h
  obtain ⟨v, vr, e1, h⟩ := h
  subst e1
  cases r with
  | cons r rr =>
    rw [hs]
    refine assignInOrder_cons (thn (h1 pins s σ H _ _ _ I r h) fun _ s1 ⟨σ1, H1, I1, q1⟩ => ?_)
    exact h2 pins s1 σ1 H1 _ _ Q I1 rr q1
/-- (a, b, ..) = a tuple of that length -/
def gTup (K : PySem.W.Frag) (n : Nat) (t : TGs) : TG := fun v σ H Q => ∃ a xs, v = .ref a ∧ SqT K H a xs ∧ xs.length = n ∧ t xs σ H Q
theorem pg_tup {es : List Expr} {k : Nat} {t : TGs} {n : Nat} (hc : X.calm = true) (h : PGs X es t)
    (hn : (assignEach es X.env).length = n := by rfl) (hst : (assignEach es X.env).findIdx? (·.1) = none := by rfl) : PG X (.Tuple es k pos) (gTup X.K n t) := by
  intro pins s σ H v u Q I r hw
  obtain ⟨a, xs, e1, hq, hl, hw⟩ := hw
  subst e1
  cases r
  obtain ⟨its, rv, ht, hz⟩ := I.tuple hq
  refine assign_Tuple_tuple (I.ok.hd hc) ht (by simp [hn, ← hl, rv.length]) hst fun h' hx => ?_
  have I1 : Inv X pins σ H { s with heap := h' } := I.kept (t' := s.toks) fun b o e => hx b o (Nat.ne_of_lt (Heap.lt_size e)) e
  exact h pins _ σ H xs _ Q I1 (by simpa using rv) hw
/-- target = value -/
def tAsg (te : TE) (g : TG) : TS := fun D σ H => te σ H fun x H1 => g x σ H1 D.nx
theorem ps_asg {tg e : Expr} {te : TE} {g : TG} (he : PE X e te) (hg : PG X tg g) (hs : swapsWithSole [tg] e pos.line X.env = pure false := by rfl) (hw : swappedStores [tg] e X.env = pure none := by rfl)
    (h1 : (assignEach [tg] X.env).map (·.2) = [assign tg X.env] := by rfl) : PS X (.Assign [tg] e pos) (tAsg te g) := by
  intro pins s σ H D I h
  refine wpAny_Assign_stores (thn (he pins s σ H _ I h) fun v s1 ⟨x, H1, I1, r1, q1⟩ => ?_) hs hw
  rw [h1]
  exact thn (hg pins s1 σ H1 x v _ I1 r1 q1) fun _ s2 q => q
/-- name = value -/
theorem ps_set {i : Nat} {x : Str} {e : Expr} {te : TE} {pos' : Pos} (hN : X.N.Nodup) (hi : X.N[i]? = some x) (hx : Loc X.env.scope x) (he : PE X e te) (hs : swapsWith e (some (.Name x pos')) pos.line X.env = pure false := by rfl) (hf : X.fn x = true ∨ X.env.scope.names.lookup x = some .local := by first | exact .inl rfl | exact .inr rfl | assumption) :
    PS X (.Assign [.Name x pos'] e pos) (tAsg te (gName i)) := by
  intro pins s σ H D I h
  refine wpAny_Assign_Name (thn (he pins s σ H _ I h) fun v s1 ⟨y, H1, I1, r1, q1⟩ => ?_) hs
  exact store_ok I1 hN hi hx r1 (fun s2 I2 => ⟨_, H1, I2, q1⟩) hf
end

/-! ### while -/
section
variable {X : Cx} {pos : Pos}
end

/-! ### what a loop or a comprehension walks -/
/-- at turn i: it yields x (the heap may grow), or it stops -/
structure It where
  go : Nat → Hp → Prop
  yld : Nat → Hp → V → Hp → Prop
  stop : Nat → Hp → Prop
/-- the iterator's own objects may turn: they are not the frame's, not pinned, younger than the entry (or a comprehension's own) -/
def FpOk (X : Cx) (pins : List (Addr × Obj)) (H : Hp) (b : Addr) : Prop :=
  H b = none ∧ b ≠ X.env.locals ∧ b ∉ X.fs ∧ (b ∈ X.ex ∨ X.s₀.heap.objs.size ≤ b) ∧ (∀ x c, X.env.cells.lookup x = some c → c ≠ b) ∧ ∀ p ∈ X.pn ++ pins, p.1 ≠ b
theorem Inv.fpOk {X : Cx} {pins : List (Addr × Obj)} {σ : St} {H H' : Hp} {s : Shared} {b : Addr} (I : Inv X pins σ H s) (hb : s.heap.objs.size ≤ b) (hn : H' b = none) : FpOk X pins H' b := by
  refine ⟨hn, Nat.ne_of_gt (Nat.lt_of_lt_of_le I.lt hb), I.nofs hb, .inr (Nat.le_trans I.sz hb), fun x c e z => ?_, fun p hp z => ?_⟩
  · obtain ⟨v, q⟩ := I.cell x c e
    exact absurd (Nat.lt_of_lt_of_le q.lt (by rw [z]; exact hb)) (Nat.lt_irrefl _)
  · exact absurd (Nat.lt_of_lt_of_le (Heap.lt_size (I.pin p hp).1) (by rw [z]; exact hb)) (Nat.lt_irrefl _)
structure Turn (P : Program) (w : World) (K : PySem.W.Frag) (tg : Expr) (J : It) (fp : List Addr) (it : Addr) (tn : Nat → Heap → Prop) : Prop where
  mem : it ∈ fp
  obj : ∀ i h, tn i h → ∀ b ∈ fp, ∃ o, h.get? b = some o ∧ ∀ v, o.data ≠ .cell v
  keep : ∀ i h h', tn i h → (∀ b ∈ fp, ∀ o, h.get? b = some o → h'.get? b = some o) → tn i h'
  item : ∀ (X : Cx), X.prog = P → X.w = w → X.K = K → X.calm = true → ∀ (i : Nat) (pins : List (Addr × Obj)) (s : Shared) (σ : St) (H : Hp) (E : Value → Shared → Prop), Inv X pins σ H s → (∀ b ∈ fp, FpOk X pins H b) → tn i s.heap → J.go i H →
    wpAny (model P w) X.A (pyNext (.ref it)) (fun r s1 => ∃ u, r = some u ∧
      wpAny (model P w) X.A (letOwnedTupleGo tg (.ref it) u) (fun _ s2 => ∃ x H', Inv X pins σ H' s2 ∧ RelV x u ∧ J.yld i H x H' ∧ tn (i + 1) s2.heap ∧ ∀ b ∈ fp, H' b = none) E s1) E s
  done : ∀ (X : Cx), X.prog = P → X.w = w → X.K = K → X.calm = true → ∀ (i : Nat) (pins : List (Addr × Obj)) (s : Shared) (σ : St) (H : Hp) (E : Value → Shared → Prop), Inv X pins σ H s → (∀ b ∈ fp, FpOk X pins H b) → tn i s.heap → J.stop i H →
    wpAny (model P w) X.A (pyNext (.ref it)) (fun r s1 => r = none ∧ Inv X pins σ H s1) E s
  self : ∀ (A : Around) (i : Nat) (s : Shared) (Q : Value → Shared → Prop) (E : Value → Shared → Prop), tn i s.heap → Q (.ref it) s → wpAny (model P w) A (pyIter (.ref it)) Q E s
abbrev TI := St → Hp → (It → Hp → Prop) → Prop
/-- an iterator has come -/
def PIE (X : Cx) (pins : List (Addr × Obj)) (σ : St) (tg : Expr) (R : It → Hp → Prop) (itv : Value) (s2 : Shared) : Prop :=
  ∃ (it : Addr) (fp : List Addr) (tn : Nat → Heap → Prop) (J : It) (H' : Hp), itv = .ref it ∧ Inv X pins σ H' s2 ∧ Turn X.prog X.w X.K tg J fp it tn ∧ tn 0 s2.heap ∧ (∀ b ∈ fp, FpOk X pins H' b) ∧ R J H'
def PI (X : Cx) (tg iter : Expr) (wi : TI) : Prop :=
  ∀ (pins : List (Addr × Obj)) (s : Shared) (σ : St) (H : Hp) (R : It → Hp → Prop), Inv X pins σ H s → wi σ H R →
    wpAny (model X.prog X.w) X.A (eval iter X.env) (fun v s1 => wpAny (model X.prog X.w) X.A (pyIter v) (PIE X pins σ tg R) X.xe s1) X.xe s

/-- the step ahead of the store is nothing for an iterator that keeps no tuple -/
theorem go_of {M : Model} {A : Around} {E : Value → Shared → Prop} {s : Shared} {tg : Expr} {it : Addr} {u : Value} {o : Obj} {n : String} {vs : Array Value} {Q : Unit → Shared → Prop} (ho : s.heap.get? it = some o) (hc : o.cls = .type n) (hd : o.data = .fields vs)
    (hn : ["enumerate", "zip", "dict_itemiterator", "dict_reverseitemiterator", "odict_iterator", "itertools.zip_longest", "itertools.pairwise"].contains n = false) (hQ : Q () s) : wpAny M A (letOwnedTupleGo tg (.ref it) u) Q E s := by
  unfold letOwnedTupleGo
  cases tg <;> first
    | exact wpAny_pure hQ
    | (cases u <;> first
        | exact wpAny_pure hQ
        | (refine wpAny_bind (wpAny_load ho ?_)
           rw [hc, hd]
           show wpAny M A (if (["enumerate", "zip", "dict_itemiterator", "dict_reverseitemiterator", "odict_iterator", "itertools.zip_longest", "itertools.pairwise"].contains n && vs[0]? == some (rawInt _)) = true then _ else _) Q E s
           rw [if_neg (by intro h; rw [hn, Bool.false_and] at h; cases h)]
           exact wpAny_pure hQ))

/-- the list at a, as it stands at each turn (a loop may append to it) -/
def Itl (K : PySem.W.Frag) (a : Addr) : It :=
  ⟨fun i H => ∃ xs x, SqL K H a xs ∧ xs[i]? = some x, fun i H x H' => H' = H ∧ ∀ xs, SqL K H a xs → xs[i]? = some x, fun i H => ∃ xs, SqL K H a xs ∧ xs.length ≤ i⟩
def Itt (K : PySem.W.Frag) (a : Addr) : It :=
  ⟨fun i H => ∃ xs x, SqT K H a xs ∧ xs[i]? = some x, fun i H x H' => H' = H ∧ ∀ xs, SqT K H a xs → xs[i]? = some x, fun i H => ∃ xs, SqT K H a xs ∧ xs.length ≤ i⟩
theorem turn_list {P : Program} {w : World} {K : PySem.W.Frag} {tg : Expr} (a it : Addr) : Turn P w K tg (Itl K a) [it] it (fun i h => h.IsListIter it a i) where
  mem := by simp
  obj := fun i h st b hb => by
    have e : b = it := by simpa using hb
    subst e
    obtain ⟨o, e, c, d⟩ := st
    exact ⟨o, e, fun v z => by rw [d] at z; cases z⟩
  keep := fun i h h' st k => st.at fun o e => k it (by simp) o e
  item := by
    intro X hP hw hK hc i pins s σ H E I hf st hg
    subst hP hw hK
    obtain ⟨xs, x, hq, hx⟩ := hg
    obtain ⟨its, rv, p, hz⟩ := I.list hq
    obtain ⟨u, hu, ru⟩ := rv.get hx
    obtain ⟨f0, f1, f2, f3, f4, f5⟩ := hf it (by simp)
    refine wpAny_pyNext_list_item st p.isList (x := u) (by simpa using hu) fun h' st' sb => ?_
    have I1 : Inv X pins σ H { s with heap := h' } := I.turned (t' := s.toks) (fun b o hb e => (sb.2 b hb).trans e) f0 f1 f3 f4 f5
    obtain ⟨o, e, c, d⟩ := id st'
    exact ⟨u, rfl, go_of (s := { s with heap := h' }) e c d (by decide) ⟨x, H, I1, ru, ⟨rfl, fun ys hy => by rw [I.list_inj hy hq]; exact hx⟩, st', fun b hb => (hf b hb).1⟩⟩
  done := by
    intro X hP hw hK hc i pins s σ H E I hf st hg
    subst hP hw hK
    obtain ⟨xs, hq, hx⟩ := hg
    obtain ⟨its, rv, p, hz⟩ := I.list hq
    obtain ⟨f0, f1, f2, f3, f4, f5⟩ := hf it (by simp)
    have hl := rv.length
    exact wpAny_pyNext_list_end (I.ok.hd hc) st p.isList (by simp; omega) fun h' eb => ⟨rfl, I.turned (t' := s.toks) (fun b o hb e => eb b o hb e) f0 f1 f3 f4 f5⟩
  self := fun _ _ _ _ _ st h => wpAny_pyIter_listiter st h
theorem turn_tuple {P : Program} {w : World} {K : PySem.W.Frag} {tg : Expr} (a it : Addr) : Turn P w K tg (Itt K a) [it] it (fun i h => h.IsTupleIter it a i) where
  mem := by simp
  obj := fun i h st b hb => by
    have e : b = it := by simpa using hb
    subst e
    obtain ⟨o, e, c, d⟩ := st
    exact ⟨o, e, fun v z => by rw [d] at z; cases z⟩
  keep := fun i h h' st k => st.at fun o e => k it (by simp) o e
  item := by
    intro X hP hw hK hc i pins s σ H E I hf st hg
    subst hP hw hK
    obtain ⟨xs, x, hq, hx⟩ := hg
    obtain ⟨its, rv, p, hz⟩ := I.tuple hq
    obtain ⟨u, hu, ru⟩ := rv.get hx
    obtain ⟨f0, f1, f2, f3, f4, f5⟩ := hf it (by simp)
    refine wpAny_pyNext_tuple_item st (show s.heap.IsTuple a its.toArray from p) (x := u) (by simpa using hu) fun h' st' sb => ?_
    have I1 : Inv X pins σ H { s with heap := h' } := I.turned (t' := s.toks) (fun b o hb e => (sb.2 b hb).trans e) f0 f1 f3 f4 f5
    obtain ⟨o, e, c, d⟩ := id st'
    exact ⟨u, rfl, go_of (s := { s with heap := h' }) e c d (by decide) ⟨x, H, I1, ru, ⟨rfl, fun ys hy => by rw [I.tuple_inj hy hq]; exact hx⟩, st', fun b hb => (hf b hb).1⟩⟩
  done := by
    intro X hP hw hK hc i pins s σ H E I hf st hg
    subst hP hw hK
    obtain ⟨xs, hq, hx⟩ := hg
    obtain ⟨its, rv, p, hz⟩ := I.tuple hq
    obtain ⟨f0, f1, f2, f3, f4, f5⟩ := hf it (by simp)
    have hl := rv.length
    exact wpAny_pyNext_tuple_end (I.ok.hd hc) st (show s.heap.IsTuple a its.toArray from p) (by simp; omega) fun h' eb => ⟨rfl, I.turned (t' := s.toks) (fun b o hb e => eb b o hb e) f0 f1 f3 f4 f5⟩
  self := fun _ _ _ _ _ st h => wpAny_pyIter_tupleiter st h
end L2

namespace L2
open PySem PySem.Spec PyProof.Rows
section
variable {X : Cx} {tg : Expr}
def iList (K : PySem.W.Frag) (tl : TE) : TI := fun σ H R => tl σ H fun x H1 => ∃ a, x = .ref a ∧ (∃ xs, SqL K H1 a xs) ∧ R (Itl K a) H1
def iTup (K : PySem.W.Frag) (tl : TE) : TI := fun σ H R => tl σ H fun x H1 => ∃ a, x = .ref a ∧ (∃ xs, SqT K H1 a xs) ∧ R (Itt K a) H1
theorem pi_list {l : Expr} {tl : TE} (hl : PE X l tl) : PI X tg l (iList X.K tl) := by
  intro pins s σ H R I h
  refine thn (hl pins s σ H _ I h) fun v s1 ⟨x, H1, I1, r1, q1⟩ => ?_
  obtain ⟨a, e, ⟨xs, hq⟩, q⟩ := q1
  subst e
  cases r1
  obtain ⟨its, rv, p, hz⟩ := I1.list hq
  refine wpAny_pyIter_list p.isList ?_
  refine ⟨s1.heap.objs.size, [s1.heap.objs.size], _, _, H1, rfl, I1.kept (t' := s1.toks) fun b o e => Heap.get?_push_of_some _ e, turn_list a _, ⟨_, Heap.get?_push_size _ rfl, rfl, rfl⟩, fun b hb => ?_, q⟩
  have e : b = s1.heap.objs.size := by simpa using hb
  subst e
  exact I1.fpOk (Nat.le_refl _) (I1.hok.fresh (Nat.le_refl _))
theorem pi_tup {l : Expr} {tl : TE} (hl : PE X l tl) : PI X tg l (iTup X.K tl) := by
  intro pins s σ H R I h
  refine thn (hl pins s σ H _ I h) fun v s1 ⟨x, H1, I1, r1, q1⟩ => ?_
  obtain ⟨a, e, ⟨xs, hq⟩, q⟩ := q1
  subst e
  cases r1
  obtain ⟨its, rv, p, hz⟩ := I1.tuple hq
  refine wpAny_pyIter_tuple (show s1.heap.IsTuple a its.toArray from p) ?_
  refine ⟨s1.heap.objs.size, [s1.heap.objs.size], _, _, H1, rfl, I1.kept (t' := s1.toks) fun b o e => Heap.get?_push_of_some _ e, turn_tuple a _, ⟨_, Heap.get?_push_size _ rfl, rfl, rfl⟩, fun b hb => ?_, q⟩
  have e : b = s1.heap.objs.size := by simpa using hb
  subst e
  exact I1.fpOk (Nat.le_refl _) (I1.hok.fresh (Nat.le_refl _))

/-! ### for -/
/-- W: the invariant by the turn and a measure; N: what the body is to reach -/
def tFor (wi : TI) (g : TG) (tb : TS) : TS := fun D σ H => wi σ H fun J H1 => ∃ W : Nat → Nat → St → Hp → Prop, (∃ m, W 0 m σ H1) ∧ ∀ i m σ H, W i m σ H →
  (J.stop i H ∧ D.nx σ H) ∨ (J.go i H ∧ ∃ N : St → Hp → Prop, (∀ σ' H', N σ' H' → ∃ m', m' < m ∧ W (i + 1) m' σ' H') ∧ ∀ x H', J.yld i H x H' → g x σ H' fun σ2 H2 => tb { D with nx := N, ct := N, bk := D.nx } σ2 H2)
/-- the records at fp as they stand -/
def pinsAt (fp : List Addr) (h : Heap) : List (Addr × Obj) := fp.filterMap fun b => (h.get? b).map fun o => (b, o)
theorem mem_pinsAt {fp : List Addr} {h : Heap} {b : Addr} {o : Obj} (hb : b ∈ fp) (e : h.get? b = some o) : (b, o) ∈ pinsAt fp h := List.mem_filterMap.mpr ⟨b, hb, by rw [e]; rfl⟩
theorem of_pinsAt {fp : List Addr} {h : Heap} {p : Addr × Obj} (hp : p ∈ pinsAt fp h) : p.1 ∈ fp ∧ h.get? p.1 = some p.2 := by
  obtain ⟨b, hb, e⟩ := List.mem_filterMap.mp hp
  cases q : h.get? b with
  | none => rw [q] at e; cases e
  | some o =>
    rw [q] at e
    have e' : (b, o) = p := Option.some.inj e
    subst e'
    exact ⟨hb, q⟩
theorem Inv.pinned {pins : List (Addr × Obj)} {σ : St} {H : Hp} {s : Shared} {fp : List Addr} (I : Inv X pins σ H s) (hf : ∀ b ∈ fp, FpOk X pins H b) (ho : ∀ b ∈ fp, ∃ o, s.heap.get? b = some o ∧ ∀ v, o.data ≠ .cell v) : Inv X (pins ++ pinsAt fp s.heap) σ H s :=
  I.pins_of fun p hp => (List.mem_append.mp hp).elim (fun z => I.pin p (List.mem_append_right _ z)) fun z => by
    obtain ⟨hb, e⟩ := of_pinsAt z
    obtain ⟨f0, f1, f2, _⟩ := hf p.1 hb
    obtain ⟨o, e', d⟩ := ho p.1 hb
    rw [e] at e'; cases e'
    exact ⟨e, f0, f1, f2, d⟩
theorem Inv.unpinned {pins pl : List (Addr × Obj)} {σ : St} {H : Hp} {s : Shared} (I : Inv X (pins ++ pl) σ H s) : Inv X pins σ H s := I.pins_of fun p hp => I.pin p (List.mem_append_right _ (List.mem_append_left _ hp))
theorem ps_for {iter : Expr} {body : List Stmt} {wi : TI} {g : TG} {tb : TS} {pos : Pos} (hp : PassesOwn (model X.prog X.w) X.A X.env X.xe) (hc : X.calm = true) (hi : PI X tg iter wi) (hg : PG X tg g) (hb : PSs X body tb)
    (hs : ∀ x, foldedSetIterable iter X.env x = pure x := by intro _; rfl) : PS X (.For tg iter body [] pos) (tFor wi g tb) := by
  intro pins s σ H D I h
  refine wpAny_For (thn (hi pins s σ H _ I h) fun v s1 h1 => thn h1 fun itv s2 h2 => ?_) hs
  obtain ⟨it, fp, tn, J, H2, e, I2, T, st2, f2, W, ⟨m0, w0⟩, turn⟩ := h2
  subst e
  -- what stays true of the iterator's objects through the loop
  have stat : ∀ {H' : Hp}, (∀ b ∈ fp, H' b = none) → ∀ b ∈ fp, FpOk X pins H' b := fun hn b hb => ⟨hn b hb, (f2 b hb).2⟩
  refine codeAny_forLoop_any (fun n s' => ∃ i σ' H', Inv X pins σ' H' s' ∧ tn i s'.heap ∧ (∀ b ∈ fp, H' b = none) ∧ W i n σ' H') ?_ m0 ⟨0, σ, H2, I2, st2, fun b hb => (f2 b hb).1, w0⟩
  rintro n s3 ⟨i, σ3, H3, I3, st3, fr3, w3⟩
  rcases turn i n σ3 H3 w3 with ⟨stop, qn⟩ | ⟨go, N, hN, step⟩
  · refine wpAny_passesOwn hp (thn (T.done X rfl rfl rfl hc i pins s3 σ3 H3 X.xe I3 (stat fr3) st3 stop) fun r s4 ⟨hr, I4⟩ => ?_)
    subst hr
    exact wpAny_execs_nil ⟨σ3, H3, I4, qn⟩
  · refine wpAny_passesOwn hp (thn (T.item X rfl rfl rfl hc i pins s3 σ3 H3 X.xe I3 (stat fr3) st3 go) fun r s4 ⟨u, hr, h4⟩ => ?_)
    subst hr
    refine wpAny_passesOwn hp (thn h4 fun _ s5 ⟨x, H5, I5, r5, y5, st5, fr5⟩ => ?_)
    have I5' := I5.pinned (stat fr5) (T.obj _ _ st5)
    refine wpAny_passesOwn hp (thn (hg _ s5 σ3 H5 x u _ I5' r5 (step x H5 y5)) fun _ s6 ⟨σ6, H6, I6, q6⟩ => ?_)
    refine wpAny_passesOwn hp (thn (hb _ s6 σ6 H6 _ I6 q6) fun f s7 q7 => ?_)
    have again : ∀ {σ7 : St} {H7 : Hp}, Inv X (pins ++ pinsAt fp s5.heap) σ7 H7 s7 → N σ7 H7 → ∃ m, m < n ∧ ∃ i σ' H', Inv X pins σ' H' s7 ∧ tn i s7.heap ∧ (∀ b ∈ fp, H' b = none) ∧ W i m σ' H' := fun {σ7 H7} I7 n7 => by
      obtain ⟨m', hm, w7⟩ := hN σ7 H7 n7
      refine ⟨m', hm, i + 1, σ7, H7, I7.unpinned, T.keep _ _ _ st5 fun b hb o e => (I7.pin (b, o) (List.mem_append_right _ (List.mem_append_right _ (mem_pinsAt hb e)))).1, fun b hb => ?_, w7⟩
      obtain ⟨o, e, d⟩ := T.obj _ _ st5 b hb
      exact (I7.pin (b, o) (List.mem_append_right _ (List.mem_append_right _ (mem_pinsAt hb e)))).2.1
    cases f with
    | next => obtain ⟨σ7, H7, I7, n7⟩ := q7; exact again I7 n7
    | cont => obtain ⟨σ7, H7, I7, n7⟩ := q7; exact again I7 n7
    | brk => obtain ⟨σ7, H7, I7, q7⟩ := q7; exact ⟨σ7, H7, I7.unpinned, q7⟩
    | ret v => obtain ⟨x7, σ7, H7, I7, r7, q7⟩ := q7; exact ⟨x7, σ7, H7, I7.unpinned, r7, q7⟩
end

/-! ### the forms one uses -/
/-- over a list that the body leaves as it is -/
theorem for_list {K : PySem.W.Frag} {a : Addr} {xs : List V} {g : TG} {tb : TS} {D : Ends} {σ : St} {H : Hp} (Pv : Nat → St → Hp → Prop) (h0 : Pv 0 σ H) (hl : ∀ i σ H, i ≤ xs.length → Pv i σ H → SqL K H a xs)
    (hs : ∀ i x σ H, xs[i]? = some x → Pv i σ H → g x σ H fun σ2 H2 => tb { D with nx := Pv (i + 1), ct := Pv (i + 1), bk := D.nx } σ2 H2) (hd : ∀ σ H, Pv xs.length σ H → D.nx σ H) :
    ∃ W : Nat → Nat → St → Hp → Prop, (∃ m, W 0 m σ H) ∧ ∀ i m σ H, W i m σ H →
      ((Itl K a).stop i H ∧ D.nx σ H) ∨ ((Itl K a).go i H ∧ ∃ N : St → Hp → Prop, (∀ σ' H', N σ' H' → ∃ m', m' < m ∧ W (i + 1) m' σ' H') ∧ ∀ x H', (Itl K a).yld i H x H' → g x σ H' fun σ2 H2 => tb { D with nx := N, ct := N, bk := D.nx } σ2 H2) := by
  refine ⟨fun i m σ H => m = xs.length - i ∧ i ≤ xs.length ∧ Pv i σ H, ⟨xs.length, by simp, Nat.zero_le _, h0⟩, ?_⟩
  rintro i m σ H ⟨rfl, hi, p⟩
  have q := hl i σ H hi p
  by_cases hlt : i < xs.length
  · refine .inr ⟨⟨xs, xs[i], q, by simp [hlt]⟩, Pv (i + 1), fun σ' H' p' => ⟨xs.length - (i + 1), by omega, rfl, hlt, p'⟩, fun x H' y => ?_⟩
    obtain ⟨e, y⟩ := y
    subst e
    exact hs i x σ _ (y xs q) p
  · have e : i = xs.length := by omega
    subst e
    exact .inl ⟨⟨xs, q, Nat.le_refl _⟩, hd σ H p⟩
theorem for_tup {K : PySem.W.Frag} {a : Addr} {xs : List V} {g : TG} {tb : TS} {D : Ends} {σ : St} {H : Hp} (Pv : Nat → St → Hp → Prop) (h0 : Pv 0 σ H) (hl : ∀ i σ H, i ≤ xs.length → Pv i σ H → SqT K H a xs)
    (hs : ∀ i x σ H, xs[i]? = some x → Pv i σ H → g x σ H fun σ2 H2 => tb { D with nx := Pv (i + 1), ct := Pv (i + 1), bk := D.nx } σ2 H2) (hd : ∀ σ H, Pv xs.length σ H → D.nx σ H) :
    ∃ W : Nat → Nat → St → Hp → Prop, (∃ m, W 0 m σ H) ∧ ∀ i m σ H, W i m σ H →
      ((Itt K a).stop i H ∧ D.nx σ H) ∨ ((Itt K a).go i H ∧ ∃ N : St → Hp → Prop, (∀ σ' H', N σ' H' → ∃ m', m' < m ∧ W (i + 1) m' σ' H') ∧ ∀ x H', (Itt K a).yld i H x H' → g x σ H' fun σ2 H2 => tb { D with nx := N, ct := N, bk := D.nx } σ2 H2) := by
  refine ⟨fun i m σ H => m = xs.length - i ∧ i ≤ xs.length ∧ Pv i σ H, ⟨xs.length, by simp, Nat.zero_le _, h0⟩, ?_⟩
  rintro i m σ H ⟨rfl, hi, p⟩
  have q := hl i σ H hi p
  by_cases hlt : i < xs.length
  · refine .inr ⟨⟨xs, xs[i], q, by simp [hlt]⟩, Pv (i + 1), fun σ' H' p' => ⟨xs.length - (i + 1), by omega, rfl, hlt, p'⟩, fun x H' y => ?_⟩
    obtain ⟨e, y⟩ := y
    subst e
    exact hs i x σ _ (y xs q) p
  · have e : i = xs.length := by omega
    subst e
    exact .inl ⟨⟨xs, q, Nat.le_refl _⟩, hd σ H p⟩
end L2

namespace L2
open PySem PySem.Spec PyProof.Rows

abbrev R2 := V → V → Hp → VK → Prop
/-- a two-place operation on values: f is binaryOp op, inplaceOp op or compareOp op -/
def OpR (X : Cx) (f : Value → Value → Sem Value) (r : R2) : Prop :=
  ∀ (pins : List (Addr × Obj)) (s : Shared) (σ : St) (H : Hp) (x y : V) (v u : Value) (Q : VK), Inv X pins σ H s → RelV x v → RelV y u → r x y H Q →
    wpAny (model X.prog X.w) X.A (f v u) (EP X pins σ Q) X.xe s
/-- a call of a value that is known (a builtin, a type) with values -/
def CallR (X : Cx) (f : Value) (r : List V → Hp → VK → Prop) : Prop :=
  ∀ (pins : List (Addr × Obj)) (s : Shared) (σ : St) (H : Hp) (xs : List V) (us : List Value) (Q : VK), Inv X pins σ H s → Vals xs us → r xs H Q →
    wpAny (model X.prog X.w) X.A (call f us) (EP X pins σ Q) X.xe s

def tOp (r : R2) (ta tb : TE) : TE := fun σ H Q => ta σ H fun x H1 => tb σ H1 fun y H2 => r x y H2 Q
/-- ints in, under C, and a value out -/
def rI (C : Int → Int → Prop) (g : Int → Int → V) : R2 := fun x y H Q => ∃ i j, x = .int i ∧ y = .int j ∧ C i j ∧ Q (g i j) H
def rI0 (g : Int → Int → V) : R2 := fun x y H Q => ∃ i j, x = .int i ∧ y = .int j ∧ Q (g i j) H

section
variable {X : Cx} {a b c : Expr} {ta tb tc : TE} {pos : Pos}

theorem binT (ha : PE X a ta) (hb : PE X b tb) {pins : List (Addr × Obj)} {s : Shared} {σ : St} {H : Hp} {R : V → V → Hp → Prop} (I : Inv X pins σ H s)
    (h : ta σ H fun x H1 => tb σ H1 fun y H2 => R x y H2) {Q : Value → Shared → Prop} {f : Value → Value → Sem Value}
    (hf : ∀ v u s2 x y H2, Inv X pins σ H2 s2 → RelV x v → RelV y u → R x y H2 → wpAny (model X.prog X.w) X.A (f v u) Q X.xe s2) :
    wpAny (model X.prog X.w) X.A (eval a X.env) (fun v s₁ => wpAny (model X.prog X.w) X.A (eval b X.env) (fun u s₂ => wpAny (model X.prog X.w) X.A (f v u) Q X.xe s₂) X.xe s₁) X.xe s := by
  refine thn (ha pins s σ H _ I h) fun v s1 ⟨x, H1, I1, r1, q1⟩ => ?_
  refine thn (hb pins s1 σ H1 _ I1 q1) fun u s2 ⟨y, H2, I2, r2, q2⟩ => ?_
  exact hf v u s2 x y H2 I2 r1 r2 q2

theorem pe_op {op : Operator} {r : R2} (ho : OpR X (binaryOp op) r) (ha : PE X a ta) (hb : PE X b tb) : PE X (.BinOp a op b pos) (tOp r ta tb) := by
  intro pins s σ H Q I h
  exact wpAny_BinOp (binT ha hb I h fun v u s2 x y H2 I2 rx ry q => ho pins s2 σ H2 x y v u Q I2 rx ry q)

/-! ### ints -/
theorem opI {f : Value → Value → Sem Value} {C : Int → Int → Prop} {g : Int → Int → Int}
    (rule : ∀ (i j : Int) (t u : Tok) (s : Shared) (Q : Value → Shared → Prop) (E : Value → Shared → Prop), C i j → Q (.int (g i j) s.toks) { s with toks := s.toks + 1 } → wpAny (model X.prog X.w) X.A (f (.int i t) (.int j u)) Q E s) :
    OpR X f (rI C fun i j => .int (g i j)) := by
  intro pins s σ H x y v u Q I rx ry h
  obtain ⟨i, j, rfl, rfl, hc, q⟩ := h
  obtain ⟨t, rfl⟩ := rx
  obtain ⟨t', rfl⟩ := ry
  exact rule i j t t' s _ _ hc ⟨.int (g i j), H, I.tok _, ⟨_, rfl⟩, q⟩
theorem opI0 {f : Value → Value → Sem Value} {g : Int → Int → Int}
    (rule : ∀ (i j : Int) (t u : Tok) (s : Shared) (Q : Value → Shared → Prop) (E : Value → Shared → Prop), Q (.int (g i j) s.toks) { s with toks := s.toks + 1 } → wpAny (model X.prog X.w) X.A (f (.int i t) (.int j u)) Q E s) :
    OpR X f (rI0 fun i j => .int (g i j)) := by
  intro pins s σ H x y v u Q I rx ry h
  obtain ⟨i, j, rfl, rfl, q⟩ := h
  obtain ⟨t, rfl⟩ := rx
  obtain ⟨t', rfl⟩ := ry
  exact rule i j t t' s _ _ ⟨.int (g i j), H, I.tok _, ⟨_, rfl⟩, q⟩
theorem opB0 {f : Value → Value → Sem Value} {g : Int → Int → Bool}
    (rule : ∀ (i j : Int) (t u : Tok) (s : Shared) (Q : Value → Shared → Prop) (E : Value → Shared → Prop), Q (.bool (g i j)) s → wpAny (model X.prog X.w) X.A (f (.int i t) (.int j u)) Q E s) :
    OpR X f (rI0 fun i j => .bl (g i j)) := by
  intro pins s σ H x y v u Q I rx ry h
  obtain ⟨i, j, rfl, rfl, q⟩ := h
  obtain ⟨t, rfl⟩ := rx
  obtain ⟨t', rfl⟩ := ry
  exact rule i j t t' s _ _ ⟨.bl (g i j), H, I, rfl, q⟩

def CDiv (i j : Int) : Prop := 0 < j ∧ j < 1073741824
def CMul (i j : Int) : Prop := (-(2 ^ 64) < i ∧ i < 2 ^ 64) ∨ (-(2 ^ 64) < j ∧ j < 2 ^ 64)
theorem CMul.ok {i j : Int} (h : CMul i j) : IntMulOk i j := by
  rcases h with ⟨h1, h2⟩ | ⟨h1, h2⟩
  · exact .of_left (intBits_le_64 h1 h2)
  · exact .of_right (intBits_le_64 h1 h2)

theorem op_add : OpR X (binaryOp .Add) (rI0 fun i j => .int (i + j)) := opI0 fun _ _ _ _ _ _ _ q => add_int q
theorem op_sub : OpR X (binaryOp .Sub) (rI0 fun i j => .int (i - j)) := opI0 fun _ _ _ _ _ _ _ q => sub_int q
theorem op_mul : OpR X (binaryOp .Mult) (rI CMul fun i j => .int (i * j)) := opI fun _ _ _ _ _ _ _ hc q => mul_int q hc.ok
/-- // by a positive divisor -/
theorem op_fdiv : OpR X (binaryOp .FloorDiv) (rI CDiv fun i j => .int (i / j)) := opI fun i j _ _ _ _ _ hc q => by
  have h1 : (0 : Int) < j := hc.1
  have h2 : j < 1073741824 := hc.2
  exact floordiv_int (by omega) (by rw [Int.fdiv_eq_ediv_of_nonneg i (by omega)]; exact q) (.inl (PyProof.noPylong_small (by omega)))
/-- % by a positive divisor of any size -/
theorem op_mod : OpR X (binaryOp .Mod) (rI (fun _ j => 0 < j) fun i j => .int (i % j)) := opI fun i j _ _ _ _ _ hc q => by
  have h1 : (0 : Int) < j := hc
  exact mod_int' (by omega) (by rw [Int.fmod_eq_emod_of_nonneg i (by omega)]; exact q)

/-! ### bools among ints: n += (a < b) -/
end

/-! ### comparisons -/
/-- the scalars that == tells apart as data does -/
def scal : V → V → Bool
  | .non, .non => true | .non, .int _ => true | .int _, .non => true | .non, .bl _ => true | .bl _, .non => true | .non, .str _ => true | .str _, .non => true
  | .int _, .int _ => true | .bl _, .bl _ => true | .str _, .str _ => true | .byt _, .byt _ => true
  | .int _, .str _ => true | .str _, .int _ => true | .bl _, .str _ => true | .str _, .bl _ => true
  | _, _ => false
def rEq : R2 := fun x y H Q => scal x y = true ∧ Q (.bl (decide (x = y))) H

theorem dec_int {i j : Int} : decide (V.int i = V.int j) = (i == j) := by
  rw [Bool.eq_iff_iff]
  simp
theorem dec_bl {i j : Bool} : decide (V.bl i = V.bl j) = (i == j) := by
  rw [Bool.eq_iff_iff]
  simp
theorem dec_str {i j : Str} : decide (V.str i = V.str j) = (i == j) := by
  rw [Bool.eq_iff_iff]
  simp
theorem dec_byt {i j : Array UInt8} : decide (V.byt i = V.byt j) = (i.toList == j.toList) := by
  rw [Bool.eq_iff_iff]
  cases i
  cases j
  simp

section
variable {X : Cx} {a b c : Expr} {ta tb tc : TE} {pos : Pos}
theorem fin_bl {pins : List (Addr × Obj)} {σ : St} {H : Hp} {s : Shared} {Q : VK} {k k' : Bool} (I : Inv X pins σ H s) (q : Q (.bl k) H) (e : k = k') : EP X pins σ Q (.bool k') s := by
  subst e
  exact ⟨.bl k, H, I, rfl, q⟩
theorem op_eq : OpR X (compareOp .Eq) rEq := by
  intro pins s σ H x y v u Q I rx ry h
  obtain ⟨hs, q⟩ := h
  cases x with
  | non =>
    cases rx
    cases y with
    | non => cases ry; exact PySem.EqNone.eq_none_none (fin_bl I q (by simp))
    | bl j => cases ry; exact PySem.EqNone.eq_none_bool (fin_bl I q (by simp))
    | int j => obtain ⟨t', rfl⟩ := ry; exact PySem.EqNone.eq_none_int (fin_bl I q (by simp))
    | str j => obtain ⟨t', rfl⟩ := ry; exact PySem.EqNone.eq_none_str (fin_bl I q (by simp))
    | _ => exact absurd (show false = true from hs) Bool.false_ne_true
  | bl i =>
    cases rx
    cases y with
    | non => cases ry; exact PySem.EqNone.eq_bool_none (fin_bl I q (by simp))
    | bl j => cases ry; exact eq_bool (fin_bl I q dec_bl)
    | str j => obtain ⟨t', rfl⟩ := ry; exact PySem.EqMixed.eq_bool_str (fin_bl I q (by simp))
    | _ => exact absurd (show false = true from hs) Bool.false_ne_true
  | int i =>
    obtain ⟨t, rfl⟩ := rx
    cases y with
    | non => cases ry; exact PySem.EqNone.eq_int_none (fin_bl I q (by simp))
    | int j => obtain ⟨t', rfl⟩ := ry; exact eq_int (fin_bl I q dec_int)
    | str j => obtain ⟨t', rfl⟩ := ry; exact PySem.EqMixed.eq_int_str (fin_bl I q (by simp))
    | _ => exact absurd (show false = true from hs) Bool.false_ne_true
  | str i =>
    obtain ⟨t, rfl⟩ := rx
    cases y with
    | non => cases ry; exact PySem.EqNone.eq_str_none (fin_bl I q (by simp))
    | bl j => cases ry; exact PySem.EqMixed.eq_str_bool (fin_bl I q (by simp))
    | int j => obtain ⟨t', rfl⟩ := ry; exact PySem.EqMixed.eq_str_int (fin_bl I q (by simp))
    | str j => obtain ⟨t', rfl⟩ := ry; exact eq_str (fin_bl I q dec_str)
    | _ => exact absurd (show false = true from hs) Bool.false_ne_true
  | byt i =>
    obtain ⟨t, rfl⟩ := rx
    cases y with
    | byt j => obtain ⟨t', rfl⟩ := ry; exact PySem.W.eq_bytes (fin_bl I q dec_byt)
    | _ => exact absurd (show false = true from hs) Bool.false_ne_true
  | _ => cases y <;> exact absurd (show false = true from hs) Bool.false_ne_true

theorem op_lt : OpR X (compareOp .Lt) (rI0 fun i j => .bl (decide (i < j))) := opB0 fun _ _ _ _ _ _ _ q => lt_int q
theorem op_le : OpR X (compareOp .LtE) (rI0 fun i j => .bl (decide (i ≤ j))) := opB0 fun _ _ _ _ _ _ _ q => le_int q
theorem op_gt : OpR X (compareOp .Gt) (rI0 fun i j => .bl (decide (j < i))) := opB0 fun _ _ _ _ _ _ _ q => gt_int q
theorem op_ge : OpR X (compareOp .GtE) (rI0 fun i j => .bl (decide (j ≤ i))) := opB0 fun _ _ _ _ _ _ _ q => ge_int q

/-- is None, is not None: the right side a value none -/
theorem op_isN : OpR X (compareOp .Is) (fun x y H Q => y = .non ∧ Q (.bl (decide (x = .non))) H) := by
  intro pins s σ H x y v u Q I rx ry h
  obtain ⟨rfl, q⟩ := h
  cases ry
  refine is_none_gen (fin_bl I q ?_)
  cases x <;> first
    | (cases rx; rfl)
    | (obtain ⟨t, rfl⟩ := rx; rfl)

theorem nomark (b : Expr) {op : CmpOp} (h : op ≠ .In := by decide) (h2 : op ≠ .NotIn := by decide) : behindInMarks op b = false := by
  have e1 : (op == CmpOp.In) = false := by cases op <;> first | rfl | exact absurd rfl h
  have e2 : (op == CmpOp.NotIn) = false := by cases op <;> first | rfl | exact absurd rfl h2
  cases b <;> simp [behindInMarks, e1, e2]
/-- a comparison as a value; hm: nomark b, or (for in, not in) by with_unfolding_all rfl -/
theorem pe_cmpR {op : CmpOp} {r : R2} (ho : OpR X (compareOp op) r) (ha : PE X a ta) (hb : PE X b tb) (hm : behindInMarks op b = false) : PE X (.Compare a [op] [b] pos) (tOp r ta tb) := by
  intro pins s σ H Q I h
  exact wpAny_Compare1 (binT ha hb I h fun v u s2 x y H2 I2 rx ry q => ho pins s2 σ H2 x y v u Q I2 rx ry q) hm
/-- a reading of a value as a test -/
def tTest (t : TE) : TT := fun σ H Q => t σ H fun x H' => ∃ k, x = .bl k ∧ Q k H'
theorem pt_cmpR {op : CmpOp} {r : R2} (ho : OpR X (compareOp op) r) (ha : PE X a ta) (hb : PE X b tb) (hm : behindInMarks op b = false) : PT X (.Compare a [op] [b] pos) (tTest (tOp r ta tb)) := by
  intro pins s σ H Q I h
  refine wpAny_isTrue_Compare1 (thn (ha pins s σ H _ I h) fun v s1 ⟨x, H1, I1, r1, q1⟩ => thn (hb pins s1 σ H1 _ I1 q1) fun u s2 ⟨y, H2, I2, r2, q2⟩ =>
    thn (ho pins s2 σ H2 x y v u _ I2 r1 r2 q2) fun c s3 ⟨z, H3, I3, r3, k, e, q3⟩ => ?_) hm
  subst e
  cases r3
  exact wpAny_truthy_bool ⟨H3, I3, q3⟩
/-- a op1 b op2 c -/
def tChain (r r' : R2) (ta tb tc : TE) : TE := fun σ H Q => ta σ H fun x H1 => tb σ H1 fun y H2 => r x y H2 fun z H3 => ∃ k, z = .bl k ∧
  (if k = true then tc σ H3 fun w' H4 => r' y w' H4 Q else Q (.bl false) H3)
theorem pe_chain {op op' : CmpOp} {r r' : R2} (ho : OpR X (compareOp op) r) (ho' : OpR X (compareOp op') r') (ha : PE X a ta) (hb : PE X b tb) (hc : PE X c tc)
    (hm : lastMarks [op, op'] [b, c] = false := by with_unfolding_all rfl) : PE X (.Compare a [op, op'] [b, c] pos) (tChain r r' ta tb tc) := by
  intro pins s σ H Q I h
  refine Compare_chain (thn (ha pins s σ H _ I h) fun v s1 ⟨x, H1, I1, r1, q1⟩ => chain_link (thn (hb pins s1 σ H1 _ I1 q1) fun u s2 ⟨y, H2, I2, r2, q2⟩ =>
    thn (ho pins s2 σ H2 x y v u _ I2 r1 r2 q2) fun d s3 ⟨z, H3, I3, r3, k, e, q3⟩ => ?_)) hm
  subst e
  cases r3
  refine wpAny_truthy_bool ?_
  cases k with
  | false => exact ite_ff ⟨.bl false, H3, I3, rfl, q3⟩
  | true => exact ite_tt (chain_last (thn (hc pins s3 σ H3 _ I3 q3) fun w' s4 ⟨z', H4, I4, r4, q4⟩ => ho' pins s4 σ H4 y z' u w' Q I4 r2 r4 q4))
theorem pt_chain {op op' : CmpOp} {r r' : R2} (ho : OpR X (compareOp op) r) (ho' : OpR X (compareOp op') r') (ha : PE X a ta) (hb : PE X b tb) (hc : PE X c tc)
    (hm : lastMarks [op, op'] [b, c] = false := by with_unfolding_all rfl) : PT X (.Compare a [op, op'] [b, c] pos) (tTest (tChain r r' ta tb tc)) := by
  intro pins s σ H Q I h
  refine isTrue_chain (thn (ha pins s σ H _ I h) fun v s1 ⟨x, H1, I1, r1, q1⟩ => test_link (thn (hb pins s1 σ H1 _ I1 q1) fun u s2 ⟨y, H2, I2, r2, q2⟩ =>
    thn (ho pins s2 σ H2 x y v u _ I2 r1 r2 q2) fun d s3 ⟨z, H3, I3, r3, k, e, q3⟩ => ?_)) hm
  subst e
  cases r3
  refine wpAny_truthy_bool ?_
  cases k with
  | false =>
    obtain ⟨k', e', q'⟩ := q3
    cases e'
    exact ite_ff ⟨H3, I3, q'⟩
  | true =>
    refine ite_tt (test_last (thn (hc pins s3 σ H3 _ I3 q3) fun w' s4 ⟨z', H4, I4, r4, q4⟩ => thn (ho' pins s4 σ H4 y z' u w' _ I4 r2 r4 q4) fun d' s5 ⟨z2, H5, I5, r5, k2, e2, q5⟩ => ?_))
    subst e2
    cases r5
    exact wpAny_truthy_bool ⟨H5, I5, q5⟩

/-! ### truth -/
theorem line63 : (sizeLine : Nat) < 2 ^ 63 := by rw [sizeLine_eq]; decide

/-! ### strs and bytes -/

/-! ### scalar builtins, by CallR -/
theorem vals1 {x : V} {us : List Value} (r : Vals [x] us) : ∃ u, us = [u] ∧ RelV x u := by
  cases r with
  | cons r1 r2 => cases r2; exact ⟨_, rfl, r1⟩
theorem vals2 {x y : V} {us : List Value} (r : Vals [x, y] us) : ∃ u w', us = [u, w'] ∧ RelV x u ∧ RelV y w' := by
  cases r with
  | cons r1 r2 =>
    cases r2 with
    | cons r3 r4 => cases r4; exact ⟨_, _, rfl, r1, r3⟩
theorem call_int1 : CallR X (.type "int") (fun xs H Q => (∃ i, xs = [.int i] ∧ Q (.int i) H) ∨ ∃ k, xs = [.bl k] ∧ Q (.int (if k then 1 else 0)) H) := by
  intro pins s σ H xs us Q I r h
  rcases h with ⟨i, rfl, q⟩ | ⟨k, rfl, q⟩
  · obtain ⟨u, rfl, t, rfl⟩ := vals1 r
    exact call_int_int ⟨.int i, H, I, ⟨_, rfl⟩, q⟩
  · obtain ⟨u, rfl, r1⟩ := vals1 r
    cases r1
    exact call_int_bool ⟨.int (if k then 1 else 0), H, I.tok _, ⟨_, rfl⟩, q⟩
end
end L2

namespace L2
open PySem PySem.Spec PyProof.Rows

/-! ### an instance, its attributes a map -/
structure ObjM (h : Heap) (x dx C : Addr) (mA : Str → Option Value) : Prop where
  obj : h.get? x = some (PySem.W.instObj C dx)
  ns : h.Ns1 dx mA
  ne : dx ≠ x

theorem lookIn_ns {h : Heap} {dx : Addr} {mA : Str → Option Value} (n : h.Ns1 dx mA) : ∃ od, h.get? dx = some od ∧ ∀ name, PySem.W.lookIn name od = some (mA name) := by
  obtain ⟨o, es, ep, ho, hd, hk, _, hm⟩ := n
  refine ⟨o, ho, fun name => ?_⟩
  have e := hm name
  unfold nsFind findBy at e
  rw [← Array.find?_toList] at e
  unfold PySem.W.lookIn
  rw [hd]
  dsimp only
  split
  · rename_i y q
    rw [q] at e
    exact congrArg some e
  · rename_i q
    rw [q] at e
    have a : es.toList.any (·.refKey) = false := by
      rw [List.any_eq_false]
      intro y hy
      obtain ⟨z, t, hkey⟩ := hk y (Array.mem_toList_iff.mp hy)
      simp [DictEntry.refKey, hkey]
    have a' : ¬ es.toList.any (·.refKey) = true := by rw [a]; exact Bool.false_ne_true
    rw [if_neg a']
    exact congrArg some e

theorem ObjM.look {h : Heap} {x dx C : Addr} {mA : Str → Option Value} (I : ObjM h x dx C mA) : ∃ od, PySem.W.InstAt h x (PySem.W.instObj C dx) C (some od) ∧ ∀ name, PySem.W.lookIn name od = some (mA name) :=
  let ⟨od, ho, hl⟩ := lookIn_ns I.ns
  ⟨od, ⟨I.obj, rfl, rfl, ho⟩, hl⟩

section
variable {prog : Program} {w : World} {A : Around} {E : Value → Shared → Prop} {s : Shared} {K : PySem.W.Frag} {x dx C f : Addr} {mA : Str → Option Value} {name : Str} {v : Value}

theorem get_map {expr : Bool} {Q : Value → Shared → Prop} (X : K.In s.heap) (I : ObjM s.heap x dx C mA) (hg : PySem.W.plainGet K C name = true) (hh : PySem.W.hasDictIn K C = true)
    (ha : PySem.W.findIn K (.ref C) name = some none) (hv : mA name = some v) (hv' : PySem.W.handedIn v = true) (h : Q v { s with toks := s.toks + 1 }) :
    wpAny (model prog w) A (getAttr (.ref x) name expr) Q E s := by
  obtain ⟨od, J, hl⟩ := I.look
  exact PySem.W.get_value X J (PySem.W.plainGet_of hg).1 (PySem.W.findObj_own hh ha rfl (by rw [hl, hv])) hv' h

theorem set_map {ns : List Str} {Q : Unit → Shared → Prop} (X : K.In s.heap) (I : ObjM s.heap x dx C mA)
    (hs : PySem.W.findIn K (.ref C) "__setattr__" = some (some (.builtin "object.__setattr__"))) (hp : PySem.W.plainOver K C = true) (ht : PySem.W.takerIn K C name = some none) (hh : PySem.W.hasDictIn K C = true)
    (hw : PySem.Within mA ns) (hsz : ns.length ≤ sizeLine)
    (h : ∀ h', ObjM h' x dx C (fun y => if y = name then some v else mA y) → Heap.SameBut dx s.heap h' → Q () { s with heap := h', toks := s.toks + 2 }) :
    wpAny (model prog w) A (setAttr (.ref x) name v) Q E s := by
  obtain ⟨od, J, hl⟩ := I.look
  refine PySem.W.set_plain X J hs (PySem.W.osa_open (s := { s with toks := s.toks + 1 }) (r := none) X J hp ht fun b => ?_)
  obtain ⟨cd, hc, hd'⟩ := PySem.W.any_some hh
  have hx : s.heap.get? x = some ⟨.ref C, some dx, .plain, #[]⟩ := I.obj
  refine wpAny_bind (wpAny_pure (wpAny_bind (wpAny_bind (wpAny_loadPart hx (wpAny_bind (PySem.W.Looks.here (s := { s with toks := s.toks + 1 }) (PySem.W.looks_clsIn X hc) ?_))))))
  rw [hd']
  refine wpAny_pure (a := some dx) (wpAny_bind (wpAny_pure (wpAny_bind ?_)))
  refine wpAny_nsSet1 (s := { s with toks := s.toks + 1 }) I.ns fun h' hn2 hs2 => ?_
  obtain ⟨oD, esD, epD, hoD, hdD, hcD⟩ := hn2.count (PySem.Within.cons name v hw)
  refine wpAny_bind (wpAny_lookBehind hoD (by rw [hdD]; exact pastItsLine_dict (Nat.le_trans hcD (by rw [List.length_cons]; omega))) ?_)
  exact wpAny_pure (h _ ⟨(hs2.2 _ (Ne.symm I.ne)).trans I.obj, hn2, I.ne⟩ hs2)

/-- C(..): the dict at the heap's end, the instance behind it; then its __init__ -/
theorem make_map {R : Result → Shared → Prop} {vs : List Value} {kw : List (Str × Value)} (X : K.In s.heap) (hm : PySem.W.makesIn K C = true)
    (hi : PySem.W.findIn K (.ref C) "__init__" = some (some (.ref f))) (hf : PySem.W.typeIn K (.ref f) = some (.type "function"))
    (h : codeAny (model prog w) (A.under (.builtin "type.__call__" ⟨.ref C :: vs, kw⟩)) (.call (.ref f) ⟨.ref (s.heap.objs.size + 1) :: vs, kw⟩) (PySem.W.InitBack (s.heap.objs.size + 1) R)
      { s with heap := (s.heap.push PySem.W.emptyDict).push (PySem.W.instObj C s.heap.objs.size) }) :
    codeAny (model prog w) A (.call (.ref C) ⟨vs, kw⟩) R s := by
  obtain ⟨hh, g, d, t, os⟩ := s
  exact PySem.W.make_core (PySem.W.makes_of X hm) (PySem.W.looks_findIn X hi) (fun self => PySem.W.bind_fn X self hf) (.inl rfl) h
end

/-! ### the attributes as a list of pairs -/
def putF (f : Str) (v : V) : List (Str × V) → List (Str × V)
  | [] => [(f, v)]
  | (g, x) :: r => if g = f then (g, v) :: r else (g, x) :: putF f v r
theorem lookup_putF (f g : Str) (v : V) : ∀ fs : List (Str × V), (putF f v fs).lookup g = if g = f then some v else fs.lookup g
  | [] => by
    show List.lookup g [(f, v)] = _
    by_cases h : g = f
    · have hb : (g == f) = true := beq_iff_eq.mpr h
      simp only [List.lookup, hb, if_pos h]
    · have hb : (g == f) = false := beq_eq_false_iff_ne.mpr h
      simp only [List.lookup, hb, if_neg h]
  | (k, x) :: r => by
    have ih := lookup_putF f g v r
    rw [show putF f v ((k, x) :: r) = (if k = f then (k, v) :: r else (k, x) :: putF f v r) from rfl]
    by_cases hk : k = f
    · rw [if_pos hk]
      by_cases h : g = k
      · have hb : (g == k) = true := beq_iff_eq.mpr h
        simp only [List.lookup, hb, if_pos (h.trans hk)]
      · have hb : (g == k) = false := beq_eq_false_iff_ne.mpr h
        simp only [List.lookup, hb, if_neg (fun e : g = f => h (e.trans hk.symm))]
    · rw [if_neg hk]
      by_cases h : g = k
      · have hb : (g == k) = true := beq_iff_eq.mpr h
        simp only [List.lookup, hb, if_neg (fun e : g = f => hk (h.symm.trans e))]
      · have hb : (g == k) = false := beq_eq_false_iff_ne.mpr h
        simp only [List.lookup, hb]
        exact ih
theorem keys_putF (f : Str) (v : V) : ∀ fs : List (Str × V), f ∈ (putF f v fs).map (·.1) ∧ ∀ g, g ∈ fs.map (·.1) → g ∈ (putF f v fs).map (·.1)
  | [] => ⟨by simp [putF], fun g h => by simp at h⟩
  | (k, x) :: r => by
    obtain ⟨i1, i2⟩ := keys_putF f v r
    rw [show putF f v ((k, x) :: r) = (if k = f then (k, v) :: r else (k, x) :: putF f v r) from rfl]
    by_cases hk : k = f
    · rw [if_pos hk]
      subst hk
      exact ⟨by simp, fun g h => by simpa using h⟩
    · rw [if_neg hk]
      refine ⟨?_, fun g h => ?_⟩
      · rw [List.map_cons]
        exact List.mem_cons_of_mem _ i1
      · rw [List.map_cons] at h ⊢
        rcases List.mem_cons.mp h with e | e
        · exact List.mem_cons.mpr (.inl e)
        · exact List.mem_cons_of_mem _ (i2 g e)
theorem length_putF (f : Str) (v : V) : ∀ fs : List (Str × V), (putF f v fs).length ≤ fs.length + 1
  | [] => by simp [putF]
  | (k, x) :: r => by
    have ih := length_putF f v r
    rw [show putF f v ((k, x) :: r) = (if k = f then (k, v) :: r else (k, x) :: putF f v r) from rfl]
    by_cases hk : k = f
    · rw [if_pos hk, List.length_cons, List.length_cons]; omega
    · rw [if_neg hk, List.length_cons, List.length_cons]; omega

theorem RelO.some_of {v : V} {o : Option Value} (r : RelO (some v) o) : ∃ u, o = some u ∧ RelV v u := by
  cases o with
  | none => exact (show False from r).elim
  | some u => exact ⟨u, rfl, r⟩
theorem handed_of {v : V} {u : Value} (r : RelV v u) : PySem.W.handedIn u = true := by
  cases v with
  | non => cases (show u = Value.none from r); rfl
  | bl b => cases (show u = Value.bool b from r); rfl
  | int i => obtain ⟨t, e⟩ := (show ∃ t, u = Value.int i t from r); cases e; rfl
  | str x => obtain ⟨t, e⟩ := (show ∃ t, u = Value.str x t from r); cases e; rfl
  | byt b => obtain ⟨t, e⟩ := (show ∃ t, u = Value.bytes b t from r); cases e; rfl
  | flt b => obtain ⟨t, e⟩ := (show ∃ t, u = Value.float b t from r); cases e; rfl
  | ref a => cases (show u = Value.ref a from r); rfl
  | ty n => cases (show u = Value.type n from r); rfl

section
variable {P : Program} {w : World} {H H' : Hp} {h h' : Heap} {a C dx : Addr} {fs fs' : List (Str × V)}
theorem ins_get (hok : HOk P w H h) (e : H a = some (.ins C dx fs)) : ∃ mA, ObjM h a dx C mA ∧ (∀ f, RelO (fs.lookup f) (mA f)) ∧ PySem.Within mA (fs.map (·.1)) ∧ fs.length ≤ 1000 ∧ H dx = some (.own a) := by
  obtain ⟨d, z, ne, ob, mA, n, r, q⟩ := (show ObjOk P w H h a (.ins C dx fs) from hok a _ e)
  exact ⟨mA, ⟨ob, n, ne⟩, r, q, z, d⟩
end

/-! ### what of the text a class must have -/
structure Cls (K : PySem.W.Frag) (C : Addr) : Prop where
  pg : PySem.W.plainGet K C Str.empty = true
  hd : PySem.W.hasDictIn K C = true
  po : PySem.W.plainOver K C = true
  sa : PySem.W.findIn K (.ref C) "__setattr__" = some (some (.builtin "object.__setattr__"))
theorem Cls.get {K : PySem.W.Frag} {C : Addr} (c : Cls K C) (f : Str) : PySem.W.plainGet K C f = true := c.pg
/-- no class of it has the name -/
def NoAttr (K : PySem.W.Frag) (C : Addr) (f : Str) : Prop := PySem.W.findIn K (.ref C) f = some none
theorem NoAttr.taker {K : PySem.W.Frag} {C : Addr} {f : Str} (n : NoAttr K C f) : PySem.W.takerIn K C f = some none := by
  unfold PySem.W.takerIn
  rw [show PySem.W.findIn K (.ref C) f = some none from n]
  rfl

section
variable {X : Cx} {pins : List (Addr × Obj)} {σ : St} {H : Hp} {s : Shared} {a C dx : Addr} {fs : List (Str × V)} {f : Str} {v : V} {A : Around} {E : Value → Shared → Prop}

theorem getattr_ok {b : Bool} {Q : Value → Shared → Prop} (I : Inv X pins σ H s) (e : H a = some (.ins C dx fs)) (c : Cls X.K C) (n : NoAttr X.K C f) (l : fs.lookup f = some v)
    (h : ∀ u s', Inv X pins σ H s' → RelV v u → Q u s') : wpAny (model X.prog X.w) A (getAttr (.ref a) f b) Q E s := by
  obtain ⟨mA, O, r, _, _, _⟩ := ins_get I.hok e
  obtain ⟨u, hu, ru⟩ := RelO.some_of (v := v) (o := mA f) (by rw [← l]; exact r f)
  exact get_map I.kIn O (c.get f) c.hd n hu (handed_of ru) (h u _ (I.tok _) ru)

theorem setattr_ok {y : V} {u : Value} {Q : Unit → Shared → Prop} (I : Inv X pins σ H s) (e : H a = some (.ins C dx fs)) (c : Cls X.K C) (n : NoAttr X.K C f) (hl : fs.length < 1000) (ry : RelV y u)
    (h : ∀ s', Inv X pins σ (upd H a (.ins C dx (putF f y fs))) s' → Q () s') : wpAny (model X.prog X.w) A (setAttr (.ref a) f u) Q E s := by
  obtain ⟨mA, O, r, wi, _, ho⟩ := ins_get I.hok e
  have hz : (fs.map (·.1)).length ≤ sizeLine := by rw [List.length_map, sizeLine_eq]; omega
  refine set_map I.kIn O c.sa c.po n.taker c.hd wi hz fun h' O' sb => h _ ?_
  have hd : ∃ o, h'.get? dx = some o := let ⟨o, _, _, e', _⟩ := O'.ns; ⟨o, e'⟩
  refine I.write (x := a) (e := dx) (by rw [e]; exact True.intro) (.inr ho) (fun b q hb z => (sb.2 b hb).trans z) hd ?_
  refine ⟨by rw [upd_ne O.ne]; exact ho, ?_, O.ne, O'.obj, _, O'.ns, fun g => ?_, fun g hg => ?_⟩
  · have := length_putF f y fs; omega
  · show RelO ((putF f y fs).lookup g) (if g = f then some u else mA g)
    rw [lookup_putF]
    by_cases q : g = f
    · rw [if_pos q, if_pos q]; exact ry
    · rw [if_neg q, if_neg q]; exact r g
  · by_cases q : g = f
    · rw [q]; exact (keys_putF f y fs).1
    · refine (keys_putF f y fs).2 g (wi g fun z => hg ?_)
      show (if g = f then some u else mA g) = none
      rw [if_neg q]; exact z

/-- a new instance, tracked, without attributes -/
theorem Inv.made (I : Inv X pins σ H s) : Inv X pins σ (upd (upd H s.heap.objs.size (.own (s.heap.objs.size + 1))) (s.heap.objs.size + 1) (.ins C s.heap.objs.size []))
    { s with heap := (s.heap.push PySem.W.emptyDict).push (PySem.W.instObj C s.heap.objs.size) } := by
  have e1 : (s.heap.push PySem.W.emptyDict).get? s.heap.objs.size = some PySem.W.emptyDict := Heap.get?_push_size s.heap rfl
  have e2 : ((s.heap.push PySem.W.emptyDict).push (PySem.W.instObj C s.heap.objs.size)).get? (s.heap.objs.size + 1) = some (PySem.W.instObj C s.heap.objs.size) := by
    have := Heap.get?_push_size (s.heap.push PySem.W.emptyDict) (o := PySem.W.instObj C s.heap.objs.size) rfl
    rwa [Heap.size_push] at this
  have e3 : (s.heap.push PySem.W.emptyDict).Ns s.heap.objs.size (fun _ => none) := ⟨PySem.W.emptyDict, #[], _, e1, rfl, (fun e he => absurd he (by simp)), fun _ => rfl⟩
  have I1 := I.laid (a := s.heap.objs.size) (o := .own (s.heap.objs.size + 1)) (h' := s.heap.push PySem.W.emptyDict) (t' := s.toks) (fun b u q => Heap.get?_push_of_some _ q) (Nat.le_refl _) ⟨_, e1⟩
  refine I1.laid (a := s.heap.objs.size + 1) (o := .ins C s.heap.objs.size []) (t' := s.toks) (fun b u q => Heap.get?_push_of_some _ q) (Nat.le_of_eq (Heap.size_push _ _)) ?_
  have ne : s.heap.objs.size ≠ s.heap.objs.size + 1 := Nat.ne_of_lt (Nat.lt_succ_self _)
  refine ⟨by rw [upd_ne ne, upd_same], Nat.zero_le _, ne, e2, fun _ => none, (Heap.Ns1.of_empty e3).at fun o q => Heap.get?_push_of_some _ q, fun _ => True.intro, fun y hy => absurd rfl hy⟩

/-- e.f where nothing but the object is asked: through attributeBase (super) and the last hold -/
theorem attr_of {prog : Program} {w : World} {env : Env} {e : Expr} {f : Str} {pos : Pos} {s : Shared} {Q : Value → Shared → Prop} (hb : attributeBase e f env (eval e env) = eval e env)
    (h : wpAny (model prog w) A (eval e env) (fun o s₁ => wpAny (model prog w) A (getAttr o f true) Q E s₁) E s) : wpAny (model prog w) A (eval (.Attribute e f pos) env) Q E s :=
  Attribute_any_ h (by rw [arm_eval_Attribute, hb])
end

/-! ### readings and rules -/
/-- e.f, an attribute of the instance -/
def tFld (K : PySem.W.Frag) (ta : TE) (f : Str) : TE := fun σ H Q => ta σ H fun x H1 => ∃ a C dx fs v, x = .ref a ∧ H1 a = some (.ins C dx fs) ∧ Cls K C ∧ NoAttr K C f ∧ fs.lookup f = some v ∧ Q v H1
/-- e.f = value -/
def sFld (K : PySem.W.Frag) (ta tv : TE) (f : Str) : TS := fun D σ H => tv σ H fun y H1 => ta σ H1 fun x H2 => ∃ a C dx fs, x = .ref a ∧ H2 a = some (.ins C dx fs) ∧ Cls K C ∧ NoAttr K C f ∧ fs.length < 1000 ∧
  D.nx σ (upd H2 a (.ins C dx (putF f y fs)))

section
variable {X : Cx} {o e value : Expr} {f : Str} {pos pos' tpos : Pos} {ta tv : TE}
theorem pe_fld (he : PE X e ta) (hb : attributeBase e f X.env (eval e X.env) = eval e X.env) : PE X (.Attribute e f pos) (tFld X.K ta f) := by
  intro pins s σ H Q I h
  refine attr_of hb (thn (he pins s σ H _ I h) fun u s1 ⟨x, H1, I1, rx, a, C, dx, fs, v, ex, ea, c, n, l, q⟩ => ?_)
  subst ex
  obtain rfl : u = Value.ref a := rx
  exact getattr_ok I1 ea c n l fun u' s2 I2 ru => ⟨v, H1, I2, ru, q⟩
theorem ps_fld (ha : PE X o ta) (hv : PE X value tv) (hs : swapsWith value (some (.Attribute o f pos')) pos.line X.env = pure false) : PS X (.Assign [.Attribute o f pos'] value pos) (sFld X.K ta tv f) := by
  intro pins s σ H D I h
  refine plainObj_wpAny_Assign_Attribute (thn (hv pins s σ H _ I h) fun u s1 ⟨y, H1, I1, ry, q⟩ => thn (ha pins s1 σ H1 _ I1 q) fun ov s2 ⟨x, H2, I2, rx, a, C, dx, fs, ex, ea, c, n, l, q2⟩ => ?_) hs
  subst ex
  obtain rfl : ov = Value.ref a := rx
  exact setattr_ok I2 ea c n l ry fun s3 I3 => ⟨σ, _, I3, q2⟩

end

/-! ### isinstance -/
section
variable {X : Cx} {pins : List (Addr × Obj)} {σ : St} {H : Hp} {s : Shared} {A : Around} {E : Value → Shared → Prop} {Q : Value → Shared → Prop} {c : Value} {b : Bool}
/-- the type of a value, as the fragment's deciders take it; for an instance its class -/
inductive TyOf (K : PySem.W.Frag) (H : Hp) : V → Value → Prop where
  | non : TyOf K H .non (.type "NoneType")
  | bl (x : Bool) : TyOf K H (.bl x) (.type "bool")
  | int (i : Int) : TyOf K H (.int i) (.type "int")
  | str (x : Str) : TyOf K H (.str x) (.type "str")
  | flt (x : UInt64) : TyOf K H (.flt x) (.type "float")
  | lst {a : Addr} {xs : List V} (e : H a = some (.lst xs)) : TyOf K H (.ref a) (.type "list")
  | frz {a : Addr} {o : Obj} {xs : List V} (e : H a = some (.frz o (.lst xs))) : TyOf K H (.ref a) (.type "list")
  | tup {a : Addr} {xs : List V} (e : H a = some (.tup xs)) : TyOf K H (.ref a) (.type "tuple")
  | dK {a : Addr} {kvs : List (Key × V)} (e : H a = some (.dK kvs)) : TyOf K H (.ref a) (.type "dict")
  | dT {a : Addr} {kvs : List (List Key × V)} (e : H a = some (.dT kvs)) : TyOf K H (.ref a) (.type "dict")
  | ins {a C dx : Addr} {fs : List (Str × V)} (e : H a = some (.ins C dx fs)) (cl : Cls K C) (ha : PySem.W.findIn K (.ref C) "__class__" = some (some (.builtin "object.__class__")))
      (hn : PySem.W.specialIn K (.builtin "object.__class__") "__get__" = some (some (.builtin "getset_descriptor.__get__"))) (htk : PySem.W.takesIn K (.builtin "object.__class__") = some true)
      (hm : PySem.W.mroIn K C (.type "object") = some true) : TyOf K H (.ref a) (.ref C)
/-- isinstance(x, c) for one class c, a built-in or an own one: kitOne's answer -/
theorem isinst_ok {x : V} {u t : Value} (I : Inv X pins σ H s) (rx : RelV x u) (ty : TyOf X.K H x t) (e : PySem.W.kitOne X.K t c = some b) (h : ∀ tk, Q (.bool b) { s with toks := tk }) :
    wpAny (model X.prog X.w) A (call (.builtin "isinstance") [u, c]) Q E s := by
  cases ty with
  | non => cases (show u = Value.none from rx); exact PySem.W.kia_one PySem.W.kitx_none I.kIn True.intro e (fun z => nomatch z) h
  | bl y => cases (show u = Value.bool y from rx); exact PySem.W.kia_one PySem.W.kitx_bool I.kIn True.intro e (fun z => nomatch z) h
  | int i => obtain ⟨t, q⟩ := (show ∃ t, u = Value.int i t from rx); cases q; exact PySem.W.kia_one PySem.W.kitx_int I.kIn True.intro e (fun z => nomatch z) h
  | str y => obtain ⟨t, q⟩ := (show ∃ t, u = Value.str y t from rx); cases q; exact PySem.W.kia_one PySem.W.kitx_str I.kIn True.intro e (fun z => nomatch z) h
  | flt y => obtain ⟨t, q⟩ := (show ∃ t, u = Value.float y t from rx); cases q; exact PySem.W.kia_one PySem.W.kitx_float I.kIn True.intro e (fun z => nomatch z) h
  | @lst a xs ea =>
    cases (show u = Value.ref a from rx)
    obtain ⟨_, _, n, _, h1⟩ := (show ObjOk X.prog X.w H s.heap a (.lst xs) from I.hok a _ ea)
    exact PySem.W.kia_one PySem.W.kitx_list I.kIn ⟨_, h1, rfl⟩ e (fun z => nomatch z) h
  | @frz a ob xs ea =>
    cases (show u = Value.ref a from rx)
    obtain ⟨_, _, _, n, _, h1⟩ := (show ObjOk X.prog X.w H s.heap a (.frz ob (.lst xs)) from I.hok a _ ea)
    exact PySem.W.kia_one PySem.W.kitx_list I.kIn ⟨_, h1, rfl⟩ e (fun z => nomatch z) h
  | @tup a xs ea =>
    cases (show u = Value.ref a from rx)
    obtain ⟨_, _, _, p⟩ := (show ObjOk X.prog X.w H s.heap a (.tup xs) from I.hok a _ ea)
    obtain ⟨o, h1, h2, _⟩ := p
    exact PySem.W.kia_one PySem.W.kitx_tuple I.kIn ⟨o, h1, h2⟩ e (fun z => nomatch z) h
  | @dK a kvs ea =>
    cases (show u = Value.ref a from rx)
    obtain ⟨_, _, vs, _, p⟩ := (show ObjOk X.prog X.w H s.heap a (.dK kvs) from I.hok a _ ea)
    obtain ⟨o, es, ep, h1, h2, _⟩ := p
    exact PySem.W.kia_one PySem.W.kitx_dict I.kIn ⟨o, h1, h2.1⟩ e (fun z => nomatch z) h
  | @dT a kvs ea =>
    cases (show u = Value.ref a from rx)
    obtain ⟨_, _, xs, _, o, es, ep, h1, h2, _⟩ := (show ObjOk X.prog X.w H s.heap a (.dT kvs) from I.hok a _ ea)
    exact PySem.W.kia_one PySem.W.kitx_dict I.kIn ⟨o, h1, h2.1⟩ e (fun z => nomatch z) h
  | @ins a C dx fs ea cl ha hn htk hm =>
    cases (show u = Value.ref a from rx)
    obtain ⟨mA, O, _⟩ := ins_get I.hok ea
    obtain ⟨od, J, _⟩ := O.look
    exact PySem.W.kia_one (PySem.W.kitx_own (cl.get _) cl.hd ha hn htk hm) I.kIn J e (fun z => nomatch z) h
end
end L2

namespace L2
open PySem PySem.Spec PyProof.Rows

/-! ### room -/
structure Room (k : Nat) (A : Around) : Prop where
  hd : A.handled = none
  dp : A.depth + 3 * k + 5 < recursionLimit
  un : A.units + 16 * k + 200 < cLine
theorem Room.mono {j k : Nat} {A : Around} (r : Room k A) (h : j ≤ k) : Room j A := ⟨r.hd, by have := r.dp; omega, by have := r.un; omega⟩
theorem Room.deeper {k : Nat} {A : Around} (r : Room (k + 1) A) (env : Env) : Room k (A.deeper env) :=
  ⟨r.hd, by have := r.dp; show A.depth + 1 + 3 * k + 5 < _; omega, by have := r.un; show A.units + 3 + 16 * k + 200 < _; omega⟩
theorem make_depth {A : Around} {C : Addr} {us : List Value} {kw : List (Str × Value)} : (A.under (.builtin "type.__call__" ⟨.ref C :: us, kw⟩)).depth = A.depth + 1 := by
  first | rfl | simp [Around.under, Code.weight, Code.isCreation, Code.isGuard, Code.isCaller, Code.frames, Code.isFrame, guardIds]
theorem make_units {A : Around} {C : Addr} {us : List Value} {kw : List (Str × Value)} : (A.under (.builtin "type.__call__" ⟨.ref C :: us, kw⟩)).units = A.units + 1 := by
  first | rfl | simp [Around.under, Code.cUnits, Code.frames, Code.isFrame]
theorem Room.make {k : Nat} {A : Around} (r : Room (k + 1) A) (C : Addr) (us : List Value) (kw : List (Str × Value)) : Room k (A.under (.builtin "type.__call__" ⟨.ref C :: us, kw⟩)) :=
  ⟨r.hd, by have := r.dp; rw [make_depth]; omega, by have := r.un; rw [make_units]; omega⟩
theorem Room.depth {k : Nat} {A : Around} (r : Room k A) : A.depth < recursionLimit := by have := r.dp; omega
theorem Room.units {k : Nat} {A : Around} (r : Room k A) : A.units + 64 < cLine := by have := r.un; omega

/-! ### argument lists and displays -/
def tNil : TA := fun _ H Q => Q [] H
def tCons (ta : TE) (tr : TA) : TA := fun σ H Q => ta σ H fun x H1 => tr σ H1 fun xs H2 => Q (x :: xs) H2
section
variable {X : Cx} {e : Expr} {es : List Expr} {te : TE} {t : TA} {pos : Pos}
theorem pa_nil : PA X [] tNil := fun _ _ _ _ H Q I h => Calls.spliced_nil ⟨[], H, I, .nil, h⟩
theorem pa_cons (ha : PE X e te) (hr : PA X es t) (hs : starEach (e :: es) X.env = (false, eval e X.env) :: starEach es X.env := by rfl) : PA X (e :: es) (tCons te t) := by
  intro pos pins s σ H Q I h
  rw [hs]
  show wpAny _ _ (spliced ((false, eval e X.env) :: backTo pos (starEach es X.env))) _ _ s
  refine Calls.spliced_cons (thn (ha pins s σ H _ I h) fun u s1 ⟨x, H1, I1, r1, q1⟩ => ?_)
  exact thn (hr pos pins s1 σ H1 _ I1 q1) fun us s2 ⟨xs, H2, I2, r2, q2⟩ => ⟨x :: xs, H2, I2, .cons r1 r2, q2⟩

/-- a tuple, a list of written items -/
def tTup (t : TA) : TE := fun σ H Q => t σ H fun xs H1 => xs.length ≤ sizeLine ∧ ∀ p, H1 p = none → Q (.ref p) (upd H1 p (.tup xs))
def tLst (t : TA) : TE := fun σ H Q => t σ H fun xs H1 => xs.length ≤ sizeLine ∧ ∀ p, H1 p = none → Q (.ref p) (upd H1 p (.lst xs))
theorem pe_tup {x1} (h : PA X es t) : PE X (.Tuple es x1 pos) (tTup t) := by
  intro pins s σ H Q I hq
  refine wpAny_Tuple_spliced (thn (h pos pins s σ H _ I hq) fun us s1 ⟨xs, H1, I1, r, z, q⟩ => ⟨by rw [← r.length]; exact z, ?_⟩)
  have hf : H1 s1.heap.objs.size = none := I1.hok.fresh (Nat.le_refl _)
  refine ⟨.ref s1.heap.objs.size, upd H1 s1.heap.objs.size (.tup xs), I1.laid (t' := s1.toks) (fun b u e => Heap.get?_push_of_some _ e) (Nat.le_refl _) ?_, rfl, q _ hf⟩
  exact ⟨z, us, r, ⟨_, Heap.get?_push_size _ rfl, rfl, _, rfl⟩⟩
theorem pe_lst (h : PA X es t) : PE X (.List es pos) (tLst t) := by
  intro pins s σ H Q I hq
  refine wpAny_List_spliced (thn (h pos pins s σ H _ I hq) fun us s1 ⟨xs, H1, I1, r, z, q⟩ => ⟨by rw [← r.length]; exact z, ?_⟩)
  have hf : H1 s1.heap.objs.size = none := I1.hok.fresh (Nat.le_refl _)
  refine ⟨.ref s1.heap.objs.size, upd H1 s1.heap.objs.size (.lst xs), I1.laid (t' := s1.toks) (fun b u e => Heap.get?_push_of_some _ e) (Nat.le_refl _) ?_, rfl, q _ hf⟩
  exact ⟨z, us, 0, r, Heap.get?_push_size _ rfl⟩
end

/-! ### what a def promises -/
/-- a def's promise: the bound arguments in the parameters' order, the heap, the wanted end, the wanted exception -/
abbrev Sp := List V → Hp → VK → XK → Prop
/-- how an exception lies behind a call (file 08 gives it): the callers' frames, abstract heap and state ahead of the call, the wish, the exception, the state -/
abbrev CXT := List Env → Hp → Shared → XK → Value → Shared → Prop

/-- the state at a call -/
structure Env0 (P : Program) (w : World) (K : PySem.W.Frag) (mg : Str → Option Value) (base : Heap) (A : Around) (outer : List Env) (s : Shared) (H : Hp) : Prop where
  frames : A.frames = some outer
  mod : Mod K mg base
  bs : ∀ b o, base.get? b = some o → s.heap.get? b = some o ∧ H b = none
  bsz : base.objs.size ≤ s.heap.objs.size
  funs : s.heap.FunFrames base outer
  frf : ∀ b ∈ frs outer, H b = none
  hok : HOk P w H s.heap
  bare : AllBare s.gens
/-- a call's end -/
def CE (outer : List Env) (P : Program) (w : World) (H : Hp) (s : Shared) (Q : VK) (u : Value) (s' : Shared) : Prop :=
  ∃ v H', s'.os = s.os ∧ AllBare s'.gens ∧ Un (frs outer) [] H H' s.heap s'.heap ∧ HOk P w H' s'.heap ∧ RelV v u ∧ Q v H'
def CR (CX : CXT) (outer : List Env) (P : Program) (w : World) (H : Hp) (s : Shared) (Q : VK) (E : XK) (r : Result) (s' : Shared) : Prop :=
  match r with
  | .ok (.ret u) => CE outer P w H s Q u s'
  | .ok _ => False
  | .error e => CX outer H s E e s'
structure FnOk (P : Program) (w : World) (K : PySem.W.Frag) (mg : Str → Option Value) (base : Heap) (CX : CXT) (k : Nat) (f : Addr) (fd : FuncData) (ps : List Str) (sp : Sp) : Prop where
  len : ∀ vs H Q E, sp vs H Q E → vs.length = ps.length
  run : ∀ (A : Around) (outer : List Env) (s : Shared) (H : Hp) (args : Args) (us : List Value) (vs : List V) (Q : VK) (E : XK), Room k A → Env0 P w K mg base A outer s H → BindsTo s fd args (ps.zip us) → Vals vs us → sp vs H Q E →
    codeAny (model P w) A (.call (.ref f) args) (CR CX outer P w H s Q E) s

theorem Env0.make {P : Program} {w : World} {K : PySem.W.Frag} {mg : Str → Option Value} {base : Heap} {A : Around} {outer : List Env} {s : Shared} {H : Hp} (e : Env0 P w K mg base A outer s H) (C : Addr) (us : List Value) (kw : List (Str × Value)) :
    Env0 P w K mg base (A.under (.builtin "type.__call__" ⟨.ref C :: us, kw⟩)) outer s H := ⟨by first | exact e.frames | (simpa [Around.under, Code.envs, Code.isFrame, pushEnvs] using e.frames), e.mod, e.bs, e.bsz, e.funs, e.frf, e.hok, e.bare⟩

section
variable {X : Cx} {pins : List (Addr × Obj)} {σ : St} {H : Hp} {s s' : Shared}
/-- from a body: what a callee wants -/
theorem Inv.env0 (I : Inv X pins σ H s) : Env0 X.prog X.w X.K X.mg X.base X.A X.stack s H :=
  ⟨I.ok.frames, I.ok.mod, I.bs, Nat.le_trans I.ok.bsz I.sz, I.stack, I.stkFree, I.hok, I.bare⟩
/-- behind a call -/
theorem Inv.after {Q : VK} {u : Value} (I : Inv X pins σ H s) (h : CE X.stack X.prog X.w H s Q u s') : EP X pins σ Q u s' := by
  obtain ⟨v, H', os, bare, un, hok, r, q⟩ := h
  obtain ⟨hh, g, d, t, os'⟩ := s'
  obtain rfl : os' = s.os := os
  exact ⟨v, H', I.call (h' := hh) (g' := g) (d' := d) (t' := t) (ch := []) un hok bare (fun b z => absurd z (by simp)), r, q⟩
end

/-! ### calls -/
/-- f(..): the written arguments, then the defaults dvs; E: what is wanted of an exception -/
def tCall (sp : Sp) (dvs : List V) (E : XK) (t : TA) : TE := fun σ H Q => t σ H fun vs H1 => sp (vs ++ dvs) H1 Q E
/-- C(..): a new instance and its dict, then __init__ -/
def tMake (C : Addr) (sp : Sp) (dvs : List V) (E : XK) (t : TA) : TE := fun σ H Q => t σ H fun vs H1 => ∀ x dx, H1 x = none → H1 dx = none → dx ≠ x →
  sp (.ref x :: (vs ++ dvs)) (upd (upd H1 dx (.own x)) x (.ins C dx [])) (fun v H2 => v = .non ∧ Q (.ref x) H2) E

/-- how the parameters are bound: us the positional arguments, kw the keywords' values by name, ds the defaults that fill up -/
def Binds (K : PySem.W.Frag) (fd : FuncData) (ps : List Str) (ds : List Value) : Prop :=
  ∀ (s : Shared) (us : List Value), K.In s.heap → (us ++ ds).length = ps.length → BindsTo s fd ⟨us, []⟩ (ps.zip (us ++ ds))
/-- every parameter is given -/
theorem Binds.all {K : PySem.W.Frag} {fd : FuncData} {ps : List Str} (h : ∀ us : List Value, us.length = ps.length → bindArgs fd ⟨us, []⟩ = pure (ps.zip us)) : Binds K fd ps [] := fun s us _ hl => by
  rw [List.append_nil] at hl ⊢
  exact .of_eq (h us hl)

/-- an exception of a callee reaches what this body wants of exceptions -/
def Passes (CX : CXT) (X : Cx) (E : XK) : Prop := ∀ (pins : List (Addr × Obj)) (σ : St) (H : Hp) (s : Shared) (e : Value) (s' : Shared), Inv X pins σ H s → CX X.stack H s E e s' → X.xe e s'

section
variable {X : Cx} {CX : CXT} {k : Nat} {f C : Addr} {fd : FuncData} {ps : List Str} {sp : Sp} {dvs : List V} {ds : List Value} {E : XK} {x m : Str} {p pos apos : Pos} {e o : Expr} {es : List Expr} {ta : TE} {t : TA}

/-- the callee runs -/
theorem run_fn {pins : List (Addr × Obj)} {σ : St} {H : Hp} {s : Shared} {Q : VK} {us : List Value} {vs : List V} (F : FnOk X.prog X.w X.K X.mg X.base CX k f fd ps sp) (hr : Room k X.A) (hb : Binds X.K fd ps ds) (hd : Vals dvs ds) (hx : Passes CX X E)
    (I : Inv X pins σ H s) (r : Vals vs us) (h : sp (vs ++ dvs) H Q E) : wpAny (model X.prog X.w) X.A (call (.ref f) us) (EP X pins σ Q) X.xe s := by
  have r2 : Vals (vs ++ dvs) (us ++ ds) := r.append hd
  have hl : (us ++ ds).length = ps.length := by rw [← r2.length]; exact F.len _ _ _ _ h
  refine wpAny_call (codeAny_mono (F.run X.A X.stack s H ⟨us, []⟩ (us ++ ds) (vs ++ dvs) Q E hr I.env0 (hb s us I.kIn hl) r2 h) fun r s' hq => ?_)
  cases r with
  | error e => exact hx pins σ H s e s' I hq
  | ok fl =>
    cases fl with
    | ret u => exact I.after hq
    | next => exact False.elim hq
    | brk => exact False.elim hq
    | cont => exact False.elim hq

theorem pe_call (F : FnOk X.prog X.w X.K X.mg X.base CX k f fd ps sp) (hr : Room k X.A) (hg : Gl X x) (hm : X.mg x = some (.ref f)) (hk : PySem.W.keepIn X.K (.ref f) = true) (hb : Binds X.K fd ps ds) (hd : Vals dvs ds) (hx : Passes CX X E)
    (ha : PA X (e :: es) t) (hdb : (x == ("__debug__" : Str)) = false := by decide) (he : starEach (e :: es) X.env = (false, eval e X.env) :: starEach es X.env := by rfl) (hpl : (backTo pos (starEach es X.env)).any (·.1) = false := by rfl) :
    PE X (.Call (.Name x p) (e :: es) [] pos) (tCall sp dvs E t) := by
  intro pins s σ H Q I h
  refine wpAny_Call_Name_kw (ld_glob I hg hm ?_ hdb)
  refine PySem.W.callWith_K (h₀ := X.base) I.ok.mod.kin hk (thn (ha pos pins s σ H _ I h) fun us s1 ⟨vs, H1, I1, r, q⟩ => ⟨I1.kIn, ?_⟩) he hpl
  exact run_fn F hr hb hd hx I1 r q

/-- what a class must have to be made -/
structure Mk (K : PySem.W.Frag) (C f : Addr) : Prop where
  makes : PySem.W.makesIn K C = true
  init : PySem.W.findIn K (.ref C) "__init__" = some (some (.ref f))
  fn : PySem.W.isFn K (.ref f) = true
  kp : PySem.W.keepIn K (.ref C) = true

theorem run_make {pins : List (Addr × Obj)} {σ : St} {H : Hp} {s : Shared} {Q : VK} {us : List Value} {vs : List V} (M : Mk X.K C f) (F : FnOk X.prog X.w X.K X.mg X.base CX k f fd ps sp) (hr : Room (k + 1) X.A) (hb : Binds X.K fd ps ds) (hd : Vals dvs ds)
    (hx : Passes CX X E) (I : Inv X pins σ H s) (r : Vals vs us)
    (h : ∀ x dx, H x = none → H dx = none → dx ≠ x → sp (.ref x :: (vs ++ dvs)) (upd (upd H dx (.own x)) x (.ins C dx [])) (fun v H2 => v = .non ∧ Q (.ref x) H2) E) :
    wpAny (model X.prog X.w) X.A (call (.ref C) us) (EP X pins σ Q) X.xe s := by
  have hq := h (s.heap.objs.size + 1) s.heap.objs.size (I.hok.fresh (Nat.le_succ _)) (I.hok.fresh (Nat.le_refl _)) (Nat.ne_of_lt (Nat.lt_succ_self _))
  have I2 := Inv.made (C := C) I
  have r2 : Vals (V.ref (s.heap.objs.size + 1) :: (vs ++ dvs)) (Value.ref (s.heap.objs.size + 1) :: (us ++ ds)) := .cons rfl (r.append hd)
  have hl : (Value.ref (s.heap.objs.size + 1) :: us ++ ds).length = ps.length := by
    have e := r2.length
    rw [F.len _ _ _ _ hq] at e
    exact e.symm
  refine wpAny_call (make_map (f := f) I.kIn M.makes M.init (beq_iff_eq.mp M.fn) (codeAny_mono (F.run _ X.stack _ _ ⟨Value.ref (s.heap.objs.size + 1) :: us, []⟩ (Value.ref (s.heap.objs.size + 1) :: (us ++ ds)) _ _ E (hr.make C us [])
    (I2.env0.make C us []) (hb _ (Value.ref (s.heap.objs.size + 1) :: us) I2.kIn hl) r2 hq) fun r s' hq' => ?_))
  cases r with
  | error e => exact hx pins σ _ _ e s' I2 hq'
  | ok fl =>
    cases fl with
    | ret u =>
      obtain ⟨v, H', I3, rv, ev, q3⟩ := I2.after hq'
      subst ev
      exact ⟨rv, ⟨V.ref (s.heap.objs.size + 1), H', I3, rfl, q3⟩⟩
    | next => exact False.elim hq'
    | brk => exact False.elim hq'
    | cont => exact False.elim hq'
theorem pe_make (M : Mk X.K C f) (F : FnOk X.prog X.w X.K X.mg X.base CX k f fd ps sp) (hr : Room (k + 1) X.A) (hg : Gl X x) (hm : X.mg x = some (.ref C)) (hb : Binds X.K fd ps ds) (hd : Vals dvs ds) (hx : Passes CX X E)
    (ha : PA X (e :: es) t) (hdb : (x == ("__debug__" : Str)) = false := by decide) (he : starEach (e :: es) X.env = (false, eval e X.env) :: starEach es X.env := by rfl) (hpl : (backTo pos (starEach es X.env)).any (·.1) = false := by rfl) :
    PE X (.Call (.Name x p) (e :: es) [] pos) (tMake C sp dvs E t) := by
  intro pins s σ H Q I h
  refine wpAny_Call_Name_kw (ld_glob I hg hm ?_ hdb)
  refine PySem.W.callWith_K (h₀ := X.base) I.ok.mod.kin M.kp (thn (ha pos pins s σ H _ I h) fun us s1 ⟨vs, H1, I1, r, q⟩ => ⟨I1.kIn, ?_⟩) he hpl
  exact run_make M F hr hb hd hx I1 r q
end

/-! ### keywords -/
section
variable {X : Cx} {CX : CXT} {k : Nat} {f C : Addr} {fd : FuncData} {ps ks : List Str} {sp : Sp} {E : XK} {x m : Str} {p pos apos kpos : Pos} {e o : Expr} {es : List Expr} {kws : List Keyword} {te ta : TE} {t tk : TA} {nm : Option Str}

variable {g : List Value → List Value → List Value} {gV : List V → List V → List V}
end

/-! ### a def's body keeps its promise -/
/-- names: the parameters first -/
structure FnScope (N P : List Str) (sc : Scope) : Prop where
  kind : sc.kind = .function
  co : sc.isCoroutine = false
  gen : sc.isGenerator = false
  nd : N.Nodup
  pre : N.take P.length = P
  par : ∀ x ∈ P, sc.names.lookup x = some .local ∨ sc.names.lookup x = some .cell
  nofree : ∀ y ∈ sc.names, y.2 ≠ .free

theorem bindL_out {kindOf : Str → Option NameKind} {x : Str} : ∀ {binds : List (Str × Value)} {m : Str → Option Value}, (∀ v, (x, v) ∉ binds) → bindL kindOf binds m x = m x
  | [], _, _ => rfl
  | (n, v) :: r, m, h => by
    unfold bindL
    rw [bindL_out fun w hw => h w (List.mem_cons_of_mem _ hw)]
    split
    · have : x ≠ n := by rintro rfl; exact h v List.mem_cons_self
      simp [this]
    · rfl
theorem bindC_out {kindOf : Str → Option NameKind} {x : Str} : ∀ {binds : List (Str × Value)} {m : Str → Option Value}, (∀ v, (x, v) ∉ binds) → bindC kindOf binds m x = m x
  | [], _, _ => rfl
  | (n, v) :: r, m, h => by
    unfold bindC
    rw [bindC_out fun w hw => h w (List.mem_cons_of_mem _ hw)]
    split
    · rfl
    · have : x ≠ n := by rintro rfl; exact h v List.mem_cons_self
      simp [this]
theorem bindL_get {kindOf : Str → Option NameKind} {x : Str} {v : Value} : ∀ {P : List Str} {vs : List Value} {i : Nat} {m : Str → Option Value}, P.Nodup → P[i]? = some x → vs[i]? = some v → kindOf x = some .local →
    bindL kindOf (P.zip vs) m x = some v
  | [], _, _, _, _, h, _, _ => by simp at h
  | _ :: _, [], _, _, _, _, h, _ => by simp at h
  | p :: P, w :: vs, 0, m, nd, h1, h2, hk => by
    simp at h1 h2; subst h1; subst h2
    show bindL kindOf ((p, w) :: P.zip vs) m p = _
    unfold bindL
    rw [bindL_out fun v hv => (List.nodup_cons.mp nd).1 (List.of_mem_zip hv).1, if_pos hk]
    simp
  | p :: P, w :: vs, i + 1, m, nd, h1, h2, hk => by
    show bindL kindOf ((p, w) :: P.zip vs) m x = _
    unfold bindL
    exact bindL_get (i := i) (List.nodup_cons.mp nd).2 (by simpa using h1) (by simpa using h2) hk
theorem bindC_get {kindOf : Str → Option NameKind} {x : Str} {v : Value} : ∀ {P : List Str} {vs : List Value} {i : Nat} {m : Str → Option Value}, P.Nodup → P[i]? = some x → vs[i]? = some v → kindOf x ≠ some .local →
    bindC kindOf (P.zip vs) m x = some v
  | [], _, _, _, _, h, _, _ => by simp at h
  | _ :: _, [], _, _, _, _, h, _ => by simp at h
  | p :: P, w :: vs, 0, m, nd, h1, h2, hk => by
    simp at h1 h2; subst h1; subst h2
    show bindC kindOf ((p, w) :: P.zip vs) m p = _
    unfold bindC
    rw [bindC_out fun v hv => (List.nodup_cons.mp nd).1 (List.of_mem_zip hv).1, if_neg hk]
    simp
  | p :: P, w :: vs, i + 1, m, nd, h1, h2, hk => by
    show bindC kindOf ((p, w) :: P.zip vs) m x = _
    unfold bindC
    exact bindC_get (i := i) (List.nodup_cons.mp nd).2 (by simpa using h1) (by simpa using h2) hk

/-- the names' values at the entry -/
def start (N : List Str) (vs : List V) : St := vs.map some ++ List.replicate (N.length - vs.length) none

/-- the context of a def's body, at its entry; an exception leaves the frame, then lies as CX says -/
def cxOf (CX : CXT) (P : Program) (w : World) (K : PySem.W.Frag) (mg : Str → Option Value) (base : Heap) (N : List Str) (qual : Str) (scope : Scope) (f : Addr) (cd : Value) (A : Around) (outer : List Env) (s : Shared) (H : Hp) (E : XK) : Cx where
  prog := P
  w := w
  K := K
  mg := mg
  base := base
  A := A.deeper (envOfC qual scope s.heap.objs.size f cd)
  N := N
  s₀ := s
  H₀ := H
  env := envOfC qual scope s.heap.objs.size f cd
  outer := outer
  stack := envOfC qual scope s.heap.objs.size f cd :: outer
  ex := []
  calm := true
  fn := fun _ => true
  pn := []
  xe := fun e s' => wpAny (model P w) (A.deeper (envOfC qual scope s.heap.objs.size f cd)) (leaving (envOfC qual scope s.heap.objs.size f cd) e) (fun _ s'' => CX outer H s E e s'') (fun e' s'' => CX outer H s E e' s'') s'

theorem cell_has {sc : Scope} {n : Nat} {x : Str} (h : sc.names.lookup x = some .cell) : ∃ c, (cellsFrom n sc.names []).lookup x = some c := by
  have q := PySem.W.cellsFrom_some sc.names n [] (.inl h)
  exact Option.isSome_iff_exists.mp q

theorem inv_start {CX : CXT} {P : Program} {w : World} {K : PySem.W.Frag} {mg : Str → Option Value} {base : Heap} {N ps : List Str} {qual : Str} {scope : Scope} {f : Addr} {cd : Value} {A : Around} {outer : List Env} {s s1 : Shared} {H : Hp} {E : XK} {us : List Value} {vs : List V}
    (S : FnScope N ps scope) (hd : A.handled = none) (e0 : Env0 P w K mg base A outer s H) (hl : vs.length = ps.length) (r : Vals vs us)
    (x : InCallC s s.heap.objs.size (bindL (envOfC qual scope s.heap.objs.size f cd).kindOf (ps.zip us) fun _ => none) (cellsFrom (s.heap.objs.size + 1) scope.names []) (bindC (envOfC qual scope s.heap.objs.size f cd).kindOf (ps.zip us) fun _ => none) s1) :
    Inv (cxOf CX P w K mg base N qual scope f cd A outer s H E) [] (start N vs) H s1 := by
  have hpl : ps.length ≤ N.length := by have := congrArg List.length S.pre; rw [List.length_take] at this; omega
  obtain ⟨h1, tk, rfl, hk⟩ := x.done
  have noA : ∀ b : Addr, b ∉ (cxOf CX P w K mg base N qual scope f cd A outer s H E).ex := fun b z => absurd (show b ∈ ([] : List Addr) from z) (by simp)
  refine ⟨⟨e0.mod, S.kind, rfl, rfl, Nat.le_refl _, fun y z c h1 h2 => ?_, fun y hy => ?_, fun y c _ h => ?_, fun _ => hd, Around.frames_deeper e0.frames, .inr ⟨rfl, rfl⟩, fun b z => absurd z (noA b), e0.bs, e0.bsz, fun b _ _ => noA b, fun b z => absurd z (noA b), e0.funs, e0.frf⟩,
    rfl, e0.bare, Un.kept hk, ⟨_, x.toInCall.ns, fun i y v h1 h2 h3 => ?_⟩, fun y c h => ⟨_, x.cell y c h⟩, e0.hok.fresh (Nat.le_refl _), fun y c h => ?_, fun p hp => absurd (show p ∈ ([] : List (Addr × Obj)) from hp) (by simp), e0.hok.kept hk, ?_⟩
  · exact name_of_addr x.apart (PySem.mem_of_lookup h1) (PySem.mem_of_lookup h2)
  · have hy : scope.names.lookup y = some .cell ∨ scope.names.lookup y = some .free := hy
    rcases hy with hy | hy
    · exact cell_has hy
    · exact absurd rfl (S.nofree _ (PySem.mem_of_lookup hy))
  · exact Nat.le_of_lt (x.above y c (PySem.mem_of_lookup h))
  · have hi : i < vs.length := by
      unfold start at h2
      by_cases hi : i < vs.length
      · exact hi
      · rw [List.getElem?_append_right (by simpa using hi)] at h2
        rw [List.getElem?_replicate] at h2
        split at h2 <;> cases h2
    have ha : vs[i]? = some v := by
      unfold start at h2
      rw [List.getElem?_append_left (by simpa using hi), List.getElem?_map] at h2
      cases e : vs[i]? with
      | none => rw [e] at h2; cases h2
      | some a => rw [e] at h2; cases h2; rfl
    obtain ⟨u, hu, rv⟩ := r.get ha
    have hp : ps[i]? = some y := by
      rw [← S.pre, List.getElem?_take_of_lt (by omega)]; exact h1
    have ndP : ps.Nodup := by rw [← S.pre]; exact S.nd.sublist (List.take_sublist _ _)
    refine ⟨u, rv, ?_⟩
    rcases S.par y (List.mem_of_getElem? hp) with k | k
    · exact .inl ⟨k, bindL_get ndP hp hu k⟩
    · obtain ⟨c, e⟩ := cell_has (n := s.heap.objs.size + 1) k
      refine .inr ⟨.inl k, c, e, ?_⟩
      have q := x.cell y c e
      rw [bindC_get ndP hp hu (by show scope.names.lookup y ≠ _; rw [k]; decide)] at q
      exact q
  · exact e0.hok.fresh (Nat.le_of_lt (x.above y c (PySem.mem_of_lookup h)))
  · unfold start
    show _ = N.length
    rw [List.length_append, List.length_map, List.length_replicate]
    omega

/-- THE RULE: a def (or a method) of the text, by its body. The body's reading t is chosen for each entry; it is run at the parameters' values -/
theorem fn_of {CX : CXT} {P : Program} {w : World} {K : PySem.W.Frag} {mg : Str → Option Value} {base : Heap} {k : Nat} {f : Addr} {name qual : Str} {params : Arguments} {body : List Stmt} {scope : Scope} {dV kV doc pm cdv ct oc : Value} {an od : Option Addr}
    {osl : Array (Option Value)} {N ps : List Str} {sp : Sp} (lk : K.lookup f = some ⟨oc, od, .func (PySem.W.fnOf name qual params body scope dV kV doc pm an cdv ct), osl⟩) (hcd : PySem.W.codeIn K cdv qual = true) (S : FnScope N ps scope)
    (len : ∀ vs H Q E, sp vs H Q E → vs.length = ps.length)
    (hbody : ∀ (A : Around) (outer : List Env) (s : Shared) (H : Hp) (vs : List V) (Q : VK) (E : XK), Room k (A.deeper (envOfC qual scope s.heap.objs.size f cdv)) → sp vs H Q E →
      ∃ t, PSs (cxOf CX P w K mg base N qual scope f cdv A outer s H E) body t ∧ t { nx := fun _ H' => Q .non H', rt := Q } (start N vs) H) :
    FnOk P w K mg base CX (k + 1) f (PySem.W.fnOf name qual params body scope dV kV doc pm an cdv ct) ps sp := by
  refine ⟨len, fun A outer s H args us vs Q E hr e0 hb r hsp => ?_⟩
  have hl := len _ _ _ _ hsp
  have KX : K.In s.heap := e0.mod.kin.keeps fun b o e => (e0.bs b o e).1
  have lim : s.heap.NoLimit := e0.mod.nolimit.keeps fun b o e => (e0.bs b o e).1
  have hkind : ∀ y ∈ ps.zip us, scope.names.lookup y.1 = some .local ∨ (scope.names.lookup y.1 = some .cell ∧ ((cellsFrom (s.heap.objs.size + 1) scope.names []).lookup y.1).isSome = true) := fun ⟨n, v⟩ hy => by
    rcases S.par n (List.of_mem_zip hy).1 with q | q
    · exact .inl q
    · exact .inr ⟨q, PySem.W.cellsFrom_some _ _ _ (.inl q)⟩
  refine codeAny_call_function hr.depth (KX _ _ lk) rfl S.co S.gen rfl (PySem.W.codeRec_of KX hcd) (hb _ _ _ _ ?_)
  refine wpAny_newFunctionEnv_cells S.kind hkind fun env he s1 x => ?_
  subst he
  refine ⟨lim.keeps x.toInCall.keep, codeAny_func ?_⟩
  obtain ⟨t, ht, hq⟩ := hbody A outer s H vs Q E (hr.deeper _) hsp
  have I : Inv (cxOf CX P w K mg base N qual scope f cdv A outer s H E) [] (start N vs) H s1 := inv_start S hr.hd e0 hl r x
  refine wpAny_mono (ht [] s1 (start N vs) H _ I hq) (fun fl s' hs => ?_) fun e s' hs => hs
  have fin : ∀ {σ' : St} {H' : Hp} {v : V} {u : Value}, Inv (cxOf CX P w K mg base N qual scope f cdv A outer s H E) [] σ' H' s' → RelV v u → Q v H' → CE outer P w H s Q u s' :=
    fun {σ' H' v u} J rv q => ⟨v, H', J.os, J.bare, J.base, J.hok, rv, q⟩
  cases fl with
  | ret u =>
    obtain ⟨v, σ', H', J, rv, q⟩ := hs
    exact fin J rv q
  | next =>
    obtain ⟨σ', H', J, q⟩ := hs
    exact fin (v := V.non) (u := Value.none) J rfl q
  | brk =>
    obtain ⟨_, _, _, q⟩ := hs
    exact False.elim q
  | cont =>
    obtain ⟨_, _, _, q⟩ := hs
    exact False.elim q
end L2

namespace L2
open PySem PySem.Spec PyProof.Rows
section
variable {X : Cx} {x : Str} {p pos : Pos} {e : Expr} {es : List Expr} {t : TA} {id T : String} {r : List V → Hp → VK → Prop}

def tCB (r : List V → Hp → VK → Prop) (t : TA) : TE := fun σ H Q => t σ H fun vs H1 => r vs H1 Q
/-- f(e, ..), f a built-in function -/
theorem pe_callB (hc : CallR X (.builtin id) r) (hg : Gl X x) (hm : X.mg x = none) (hv : bootBuiltins x = some (.builtin id)) (ha : PA X (e :: es) t) (hn : x ≠ "__name__" := by decide) (hdb : (x == ("__debug__" : Str)) = false := by decide)
    (he : starEach (e :: es) X.env = (false, eval e X.env) :: starEach es X.env := by rfl) (hpl : (backTo pos (starEach es X.env)).any (·.1) = false := by rfl) : PE X (.Call (.Name x p) (e :: es) [] pos) (tCB r t) := by
  intro pins s σ H Q I h
  refine wpAny_Call_Name_kw (ld_blt I hg hm hv ?_ hn hdb)
  exact PyProof.Rows.callWith_builtin1 (thn (ha pos pins s σ H _ I h) fun us s1 ⟨vs, H1, I1, r1, q1⟩ => hc pins s1 σ H1 vs us Q I1 r1 q1) he hpl
/-- T(e, ..), T a built-in type -/
theorem pe_callTy (hc : CallR X (.type T) r) (hg : Gl X x) (hm : X.mg x = none) (hv : bootBuiltins x = some (.type T)) (ha : PA X (e :: es) t) (hn : x ≠ "__name__" := by decide) (hdb : (x == ("__debug__" : Str)) = false := by decide)
    (he : starEach (e :: es) X.env = (false, eval e X.env) :: starEach es X.env := by rfl) (hpl : (backTo pos (starEach es X.env)).any (·.1) = false := by rfl) : PE X (.Call (.Name x p) (e :: es) [] pos) (tCB r t) := by
  intro pins s σ H Q I h
  refine wpAny_Call_Name_kw (ld_blt I hg hm hv ?_ hn hdb)
  exact PyProof.Rows.callWith_type1 (thn (ha pos pins s σ H _ I h) fun us s1 ⟨vs, H1, I1, r1, q1⟩ => hc pins s1 σ H1 vs us Q I1 r1 q1) he hpl
end
end L2

namespace HT
open PySem PyProof.Rows

section
open PySem.SeqAt
open PySem.AutoSeq1 (wpAny_loadPart')
open PySem.MeetsSeq PySem.MeetsSeq2 PySem.MeetsSeq3

end

section
variable {prog : Program} {w : World} {A : Around} {E : Value → Shared → Prop} {s : Shared}

/-- t + u, t not empty -/
theorem cat_tup {t b : Addr} {vs ws : List Value} {Q : Value → Shared → Prop} (ht : IsTup s.heap t vs.toArray) (hb : IsTup s.heap b ws.toArray) (hv : vs ≠ [])
    (h1 : ws = [] → Q (.ref t) s) (h2 : ws ≠ [] → Q (.ref s.heap.objs.size) { s with heap := s.heap.push { cls := .type "tuple", data := .seq (vs ++ ws).toArray } })
    (hsz : vs.length + ws.length ≤ sizeLine) : wpAny (model prog w) A (binaryOp .Add (.ref t) (.ref b)) Q E s := by
  obtain ⟨⟨cls, dd, data, sl⟩, ho, hc, n, hd⟩ := id ht
  obtain ⟨⟨cls2, dd2, data2, sl2⟩, ho2, hc2, n2, hd2⟩ := id hb
  simp only at hc hd hc2 hd2
  subst hc hd hc2 hd2
  have e : vs.toArray ++ ws.toArray = (vs ++ ws).toArray := by simp
  by_cases hw : ws = []
  · exact concat_meets ⟨_, ho, rfl⟩ ⟨_, ho2, rfl⟩ noFill_tuple_add seq_tuple_add PySem.F.slot_tuple_add PySem.F.entry_tuple_add (PySem.F.args_tuple_add_2 _ _)
      (tuple_addW1 t b vs.toArray ws.toArray n n2 dd dd2 sl sl2 (by simpa using hv) (by simp [hw])) ⟨ho, ho2, h1 hw⟩
  · refine concat_meets ⟨_, ho, rfl⟩ ⟨_, ho2, rfl⟩ noFill_tuple_add seq_tuple_add PySem.F.slot_tuple_add PySem.F.entry_tuple_add (PySem.F.args_tuple_add_2 _ _)
      (tuple_addW2 t b vs.toArray ws.toArray n n2 dd dd2 sl sl2 (by simpa using hv) (by simpa using hw) (by rw [List.size_toArray, List.size_toArray]; exact hsz)) ⟨ho, ho2, ?_⟩
    rw [e]
    exact h2 hw

/-! ### t[a:b], not the whole -/
/-- a slice's bound as a place among n (d where it is left out) -/
def sIx (n d : Nat) : Option Int → Nat
  | none => d
  | some v => if v < 0 then (v + (n : Int)).toNat else min v.toNat n
theorem sIx_none (n d : Nat) : sIx n d none = d := rfl
theorem sIx_nat (n d k : Nat) : sIx n d (some (k : Int)) = min k n := by
  show (if (k : Int) < 0 then ((k : Int) + (n : Int)).toNat else min (k : Int).toNat n) = min k n
  rw [if_neg (by omega), Int.toNat_natCast]
theorem sIx_le (n d : Nat) (hd : d ≤ n) (o : Option Int) : sIx n d o ≤ n := by
  cases o with
  | none => exact hd
  | some v =>
    show (if v < 0 then (v + (n : Int)).toNat else min v.toNat n) ≤ n
    by_cases hv : v < 0
    · rw [if_pos hv]; omega
    · rw [if_neg hv]; exact Nat.min_le_right _ _
theorem clip_eq (v : Int) (n d : Nat) : (if v < 0 then max (v + (n : Int)) 0 else min v (n : Int)) = ((sIx n d (some v) : Nat) : Int) := by
  show (if v < 0 then max (v + (n : Int)) 0 else min v (n : Int)) = (((if v < 0 then (v + (n : Int)).toNat else min v.toNat n) : Nat) : Int)
  by_cases hv : v < 0
  · simp only [if_pos hv]; omega
  · simp only [if_neg hv]; omega
theorem adjust_gen (lo hi : Option Int) (n : Nat) : Builtin.Slice.sliceAdjust lo hi 1 (n : Int) = (((sIx n 0 lo : Nat) : Int), ((sIx n n hi : Nat) : Int)) := by
  have h1 : ¬ ((1 : Int) < 0) := by omega
  unfold Builtin.Slice.sliceAdjust
  simp only [h1, if_false]
  refine Prod.ext ?_ ?_
  · cases lo with
    | none => rfl
    | some v => exact clip_eq v n 0
  · cases hi with
    | none => rfl
    | some v => exact clip_eq v n n
theorem places_gen (i j : Nat) : Builtin.Slice.slicePlaces (i : Int) (j : Int) 1 = j - i := by
  unfold Builtin.Slice.slicePlaces
  have h1 : (1 : Int) > 0 := by omega
  simp only [h1, if_true, Int.ediv_one]
  split <;> omega
theorem slicePart_ {v : Value} {o : Option Int} {Q : Option Int → Shared → Prop} (p : IsPart v o) (h : Q o s) : wpAny (model prog w) A (Builtin.Slice.slicePartIndex v) Q E s := by
  cases p with
  | none => exact slicePart_none h
  | int i t => exact slicePart_int h
theorem sliceApplied_gen {sl : Addr} {vl vu : Value} {lo hi : Option Int} {n : Nat} {Q : Int × Int × Nat → Shared → Prop} (hs : s.heap.IsSliceOf sl vl vu .none) (pl : IsPart vl lo) (pu : IsPart vu hi)
    (h : Q (((sIx n 0 lo : Nat) : Int), 1, sIx n n hi - sIx n 0 lo) s) : wpAny (model prog w) A (Builtin.Slice.sliceApplied (.ref sl) (pure (n : Int))) Q E s := by
  obtain ⟨os, hos, hcs, hds⟩ := id hs
  unfold Builtin.Slice.sliceApplied Builtin.Slice.sliceFields
  refine wpAny_bind (wpAny_bind (wpAny_field hos hds (x := vl) rfl (wpAny_bind (wpAny_field hos hds (x := vu) rfl (wpAny_bind (wpAny_field hos hds (x := .none) rfl (wpAny_pure ?_)))))))
  refine wpAny_bind (slicePart_none ?_)
  show wpAny _ _ (if ((1 : Int) == 0) = true then _ else _) _ _ s
  rw [if_neg (by decide)]
  refine wpAny_bind (slicePart_ pl (wpAny_bind (slicePart_ pu (wpAny_bind (wpAny_pure ?_)))))
  show wpAny _ _ (match Builtin.Slice.sliceAdjust lo hi 1 (n : Int) with | (lo, hi) => pure (lo, (1 : Int), Builtin.Slice.slicePlaces lo hi 1)) _ _ s
  rw [adjust_gen lo hi n]
  show wpAny _ _ (pure (((sIx n 0 lo : Nat) : Int), (1 : Int), Builtin.Slice.slicePlaces ((sIx n 0 lo : Nat) : Int) ((sIx n n hi : Nat) : Int) 1)) _ _ s
  rw [places_gen]
  exact wpAny_pure h
theorem pick_gen (xs : Array Value) (i k : Nat) : ((List.range k).filterMap fun (m : Nat) => xs[((i : Int) + (m : Int) * 1).toNat]?).toArray = ((xs.toList.drop i).take k).toArray := by
  have e : (fun (m : Nat) => xs[((i : Int) + (m : Int) * 1).toNat]?) = fun m => xs[i + m]? := by
    funext m
    have : ((i : Int) + (m : Int) * 1).toNat = i + m := by omega
    rw [this]
  rw [e]
  have := pick_run xs i k
  rw [List.filterMap_map] at this
  have e2 : ((fun x => xs[x]?) ∘ fun x => i + x) = fun m => xs[i + m]? := rfl
  rw [e2] at this
  rw [this]

theorem getItem_tuple_cut {t sl : Addr} {items : Array Value} {vl vu : Value} {lo hi : Option Int} {Q : Value → Shared → Prop} (ht : IsTup s.heap t items) (hs : s.heap.IsSliceOf sl vl vu .none) (pl : IsPart vl lo) (pu : IsPart vu hi)
    (hw : ¬ (sIx items.size 0 lo = 0 ∧ sIx items.size items.size hi = items.size))
    (h : Q (.ref s.heap.objs.size) { s with heap := s.heap.push { cls := .type "tuple", data := .seq ((items.toList.drop (sIx items.size 0 lo)).take (sIx items.size items.size hi - sIx items.size 0 lo)).toArray } })
    (hsz : items.size ≤ sizeLine) : wpAny (model prog w) A (getItem (.ref t) (.ref sl)) Q E s := by
  have htake : sizeOk (.seq ((items.toList.drop (sIx items.size 0 lo)).take (sIx items.size items.size hi - sIx items.size 0 lo)).toArray) := by
    show ((items.toList.drop (sIx items.size 0 lo)).take (sIx items.size items.size hi - sIx items.size 0 lo)).toArray.size ≤ sizeLine
    rw [List.size_toArray, List.length_take, List.length_drop, Array.length_toList]
    omega
  have hj : sIx items.size items.size hi ≤ items.size := sIx_le _ _ (Nat.le_refl _) hi
  obtain ⟨os, hos, hcs, hds⟩ := id hs
  have hTs : s.TypeIs (.ref sl) "slice" := ⟨os, hos, hcs⟩
  unfold getItem
  try with_reducible refine wpAny_holding ?_
  first | refine wpAny_bind (wpAny_pure ?_) | skip
  refine wpAny_bind (wpAny_sequenceKey ht.typeIs (by decide) ?_)
  refine wpAny_bind (wpAny_callSpecial?_slot (name := Str.ofString "__getitem__") ht.typeIs PyProof.Rows.slot_tuple_getitem
    (wpAny_call_entry PyProof.Rows.slot_tuple_getitem ht.typeIs entry_tuple_getitem ?_ (args_tuple_getitem _ _)))
  show wpAny _ _ (Builtin.Tuple.tupleItemsOf (.ref t) >>= _) _ _ s
  refine wpAny_bind (tupleItemsOf_ ht ?_)
  refine wpAny_bind (wpAny_typeOf hTs ?_)
  rw [if_pos (by decide)]
  refine wpAny_bind (sliceApplied_gen hs pl pu ?_)
  have hno : ¬ ((((sIx items.size 0 lo : Nat) : Int) == 0 && (1 : Int) == 1 && (sIx items.size items.size hi - sIx items.size 0 lo) == items.size) = true) := by
    intro q
    rw [Bool.and_eq_true, Bool.and_eq_true] at q
    have q1 : ((sIx items.size 0 lo : Nat) : Int) = 0 := eq_of_beq q.1.1
    have q2 : sIx items.size items.size hi - sIx items.size 0 lo = items.size := eq_of_beq q.2
    exact hw ⟨by omega, by omega⟩
  show wpAny _ _ (if (((sIx items.size 0 lo : Nat) : Int) == 0 && (1 : Int) == 1 && (sIx items.size items.size hi - sIx items.size 0 lo) == items.size) = true then _ else _) _ _ s
  rw [if_neg hno, pick_gen]
  first
    | exact wpAny_bind (m := Builtin.Tuple.tupleExact _) (wpAny_newObj_type (wpAny_pure ⟨_, rfl, wpAny_pure h⟩) htake)
    | exact wpAny_bind (m := Builtin.Tuple.tupleExact _) (wpAny_newObj_type (wpAny_bind (wpAny_pure (wpAny_pure ⟨_, rfl, wpAny_pure h⟩))) htake)
    | exact wpAny_bind (wpAny_bind (m := Builtin.Tuple.tupleExact _) (wpAny_newObj_type (wpAny_pure (wpAny_pure ⟨_, rfl, wpAny_pure h⟩)) htake))
    | exact wpAny_bind (wpAny_bind (m := Builtin.Tuple.tupleExact _) (wpAny_newObj_type (wpAny_pure ⟨_, rfl, wpAny_pure h⟩) htake))
end
end HT

namespace L2
open PySem PySem.Spec PyProof.Rows

/-! ### the parts of a slice -/
abbrev TO := St → Hp → (Option Int → Hp → Prop) → Prop
/-- a slice's part (left out, or an int) -/
def PO (X : Cx) (e : Option Expr) (t : TO) : Prop :=
  ∀ (pins : List (Addr × Obj)) (s : Shared) (σ : St) (H : Hp) (Q : Option Int → Hp → Prop), Inv X pins σ H s → t σ H Q →
    wpAny (model X.prog X.w) X.A (evalPart e X.env) (fun u s' => ∃ o H', Inv X pins σ H' s' ∧ IsPart u o ∧ Q o H') X.xe s
def tNoPart : TO := fun _ H Q => Q none H
def tPart (t : TE) : TO := fun σ H Q => t σ H fun x H1 => ∃ i, x = .int i ∧ Q (some i) H1

section
variable {X : Cx} {e : Expr} {te : TE} {lo hi : Option Expr} {tl th : TO} {pos p2 : Pos}

theorem po_none : PO X none tNoPart := by
  intro pins s σ H Q I h
  rw [evalPart_none]
  exact wpAny_pure ⟨none, H, I, .none, h⟩
theorem po_some (h : PE X e te) : PO X (some e) (tPart te) := by
  intro pins s σ H Q I hw
  rw [evalPart_some]
  refine thn (h pins s σ H _ I hw) fun u s1 ⟨x, H1, I1, r1, q1⟩ => ?_
  obtain ⟨i, rfl, q⟩ := q1
  obtain ⟨t, rfl⟩ := r1
  exact ⟨some i, H1, I1, .int i t, q⟩

/-- what a slice of a value is, by values: the slice object stands at sl -/
def SlR (X : Cx) (r : V → Option Int → Option Int → Hp → VK → Prop) : Prop :=
  ∀ (pins : List (Addr × Obj)) (s : Shared) (σ : St) (H : Hp) (x : V) (v vl vu : Value) (lo hi : Option Int) (sl : Addr) (Q : VK), Inv X pins σ H s → RelV x v → s.heap.IsSliceOf sl vl vu .none → IsPart vl lo → IsPart vu hi → r x lo hi H Q →
    ∃ T id, typeLookup (.type T) "__getitem__" = pure (some (.builtin id)) ∧ s.TypeIs v T ∧ wpAny (model X.prog X.w) X.A (getItem v (.ref sl)) (EP X pins σ Q) X.xe s
def tSl (r : V → Option Int → Option Int → Hp → VK → Prop) (te : TE) (tl th : TO) : TE := fun σ H Q => te σ H fun x H1 => tl σ H1 fun l H2 => th σ H2 fun u H3 => r x l u H3 Q
/-- a[lo:hi], any a -/
theorem pe_slice {r : V → Option Int → Option Int → Hp → VK → Prop} (hr : SlR X r) (he : PE X e te) (hl : PO X lo tl) (hu : PO X hi th) : PE X (.Subscript e (.Slice lo hi none p2) pos) (tSl r te tl th) := by
  intro pins s σ H Q I h
  refine Subscript_ (thn (he pins s σ H _ I h) fun v s1 ⟨x, H1, I1, r1, q1⟩ => ?_)
  refine wpAny_Slice (thn (hl pins s1 σ H1 _ I1 q1) fun vl s2 ⟨l, H2, I2, pl, q2⟩ => thn (hu pins s2 σ H2 _ I2 q2) fun vu s3 ⟨u, H3, I3, pu, q3⟩ => ?_)
  rw [evalPart_none]
  refine wpAny_pure ?_
  have I4 : Inv X pins σ H3 { s3 with heap := s3.heap.push { cls := .type "slice", data := .fields #[vl, vu, .none] } } := I3.kept (t' := s3.toks) fun b ob q => Heap.get?_push_of_some _ q
  obtain ⟨T, id, hT, ht, hg⟩ := hr pins { s3 with heap := s3.heap.push { cls := .type "slice", data := .fields #[vl, vu, .none] } } σ H3 x v vl vu l u s3.heap.objs.size Q I4 r1 (Heap.IsSliceOf.new ..) pl pu q3
  show wpAny (model X.prog X.w) X.A (subscriptTail e (.Slice lo hi none p2) v (.ref s3.heap.objs.size)) (EP X pins σ Q) X.xe { s3 with heap := s3.heap.push { cls := .type "slice", data := .fields #[vl, vu, .none] } }
  exact tail_any (ops := [.ref s3.heap.objs.size, v]) ht hT hg (by with_unfolding_all rfl)

/-- the items of xs[lo:hi] -/
def cutV (xs : List V) (lo hi : Option Int) : List V := (xs.drop (HT.sIx xs.length 0 lo)).take (HT.sIx xs.length xs.length hi - HT.sIx xs.length 0 lo)
theorem cutV_length (xs : List V) (lo hi : Option Int) : (cutV xs lo hi).length ≤ xs.length := by
  unfold cutV
  rw [List.length_take, List.length_drop]
  omega
/-- t[lo:hi], not the whole of it (the whole would be t itself) -/
def rSlT (K : PySem.W.Frag) : V → Option Int → Option Int → Hp → VK → Prop := fun x lo hi H Q => ∃ a xs, x = .ref a ∧ SqT K H a xs ∧
  ¬ (HT.sIx xs.length 0 lo = 0 ∧ HT.sIx xs.length xs.length hi = xs.length) ∧ ∀ p, H p = none → Q (.ref p) (upd H p (.tup (cutV xs lo hi)))
theorem sl_tup : SlR X (rSlT X.K) := by
  intro pins s σ H x v vl vu lo hi sl Q I rx hs pl pu h
  obtain ⟨a, xs, rfl, hx, hw, q⟩ := h
  cases rx
  obtain ⟨its, r, ht, hz⟩ := I.tuple hx
  have hlen : its.toArray.size = xs.length := by rw [List.size_toArray]; exact r.length.symm
  refine ⟨"tuple", _, PyProof.Rows.slot_tuple_getitem.lookup, ht.typeIs, ?_⟩
  refine HT.getItem_tuple_cut ht hs pl pu (by rw [hlen]; exact hw) ?_ (by rw [hlen]; exact hz)
  rw [hlen]
  refine ⟨.ref s.heap.objs.size, _, I.laid (t' := s.toks) (o := .tup (cutV xs lo hi)) (fun b ob q => Heap.get?_push_of_some _ q) (Nat.le_refl _) ?_, rfl, q _ (I.hok.fresh (Nat.le_refl _))⟩
  exact ⟨Nat.le_trans (cutV_length xs lo hi) hz, _, (r.drop (HT.sIx xs.length 0 lo)).take (HT.sIx xs.length xs.length hi - HT.sIx xs.length 0 lo), IsTup.new _ _⟩

/-! ### t < u, t + u -/
/-- t + u, t not empty: u empty gives t itself -/
def rCatT (K : PySem.W.Frag) : R2 := fun x y H Q => ∃ a b xs ys, x = .ref a ∧ y = .ref b ∧ SqT K H a xs ∧ SqT K H b ys ∧ xs ≠ [] ∧ xs.length + ys.length ≤ sizeLine ∧
  (ys = [] → Q (.ref a) H) ∧ (ys ≠ [] → ∀ p, H p = none → Q (.ref p) (upd H p (.tup (xs ++ ys))))
theorem Vals.nil_iff {xs : List V} {us : List Value} (r : Vals xs us) : us = [] ↔ xs = [] := by
  cases r with
  | nil => simp
  | cons _ _ => simp
theorem op_catT : OpR X (binaryOp .Add) (rCatT X.K) := by
  intro pins s σ H x y v u Q I rx ry h
  obtain ⟨a, b, xs, ys, rfl, rfl, ha, hb, hx, hz, q1, q2⟩ := h
  cases rx
  cases ry
  obtain ⟨its, r1, p1, _⟩ := I.tuple ha
  obtain ⟨its2, r2, p2, _⟩ := I.tuple hb
  refine HT.cat_tup p1 p2 (fun z => hx (r1.nil_iff.mp z)) (fun z => ⟨.ref a, H, I, rfl, q1 (r2.nil_iff.mp z)⟩) (fun z => ?_) (by rw [← r1.length, ← r2.length]; exact hz)
  refine ⟨.ref s.heap.objs.size, _, I.laid (t' := s.toks) (o := .tup (xs ++ ys)) (fun b ob q => Heap.get?_push_of_some _ q) (Nat.le_refl _) ?_, rfl, q2 (fun w => z (r2.nil_iff.mpr w)) _ (I.hok.fresh (Nat.le_refl _))⟩
  exact ⟨by rw [List.length_append]; exact hz, _, r1.append r2, IsTup.new _ _⟩
end
end L2

namespace L2
open PySem PySem.Spec PyProof.Rows

/-! ### places -/
/-- the place that an index of any sign means -/
def ixN (n : Nat) (i : Int) : Option Nat := if 0 ≤ i then (if i < n then some i.toNat else none) else if -(n : Int) ≤ i then some (i + n).toNat else none
def atI {α : Type} (xs : List α) (i : Int) : Option α := (ixN xs.length i).bind fun j => xs[j]?
theorem ixN_seq {n : Nat} {i : Int} {j : Nat} (h : ixN n i = some j) : seqIndex? i n = some j ∧ j < n ∧ -(n : Int) ≤ i ∧ i < n := by
  unfold ixN at h
  by_cases h0 : 0 ≤ i
  · rw [if_pos h0] at h
    by_cases h1 : i < n
    · rw [if_pos h1] at h
      have e : i.toNat = j := Option.some.inj h
      exact ⟨by rw [seqIndex_of h0 h1, e], by omega, by omega, h1⟩
    · rw [if_neg h1] at h; cases h
  · rw [if_neg h0] at h
    by_cases h1 : -(n : Int) ≤ i
    · rw [if_pos h1] at h
      have e : (i + n).toNat = j := Option.some.inj h
      exact ⟨by rw [seqIndex_neg (by omega) h1, e], by omega, h1, by omega⟩
    · rw [if_neg h1] at h; cases h
theorem atI_get {α : Type} {xs : List α} {i : Int} {v : α} (h : atI xs i = some v) : ∃ j, seqIndex? i xs.length = some j ∧ xs[j]? = some v ∧ j < xs.length ∧ -(xs.length : Int) ≤ i ∧ i < xs.length := by
  unfold atI at h
  cases e : ixN xs.length i with
  | none => rw [e] at h; cases h
  | some j =>
    rw [e] at h
    obtain ⟨h1, h2, h3, h4⟩ := ixN_seq e
    exact ⟨j, h1, h, h2, h3, h4⟩
theorem atI_nat {α : Type} {xs : List α} {j : Nat} {v : α} (h : xs[j]? = some v) : atI xs (j : Int) = some v := by
  have hj : j < xs.length := (List.getElem?_eq_some_iff.mp h).1
  have e : ixN xs.length (j : Int) = some j := by
    unfold ixN
    rw [if_pos (by omega), if_pos (by omega)]; simp
  unfold atI; rw [e]; exact h

/-! ### what may be subscripted -/
/-- what stands as an index of a plain subscript -/
def PlainIx (b : Expr) : Prop := ∀ o i, subscripted b false o i = operate [o, i] (getItem o i)
/-- a subscript by values -/
def IxR (X : Cx) (r : R2) : Prop :=
  ∀ (value slice : Expr) (pins : List (Addr × Obj)) (s : Shared) (σ : St) (H : Hp) (x y : V) (v u : Value) (Q : VK), Inv X pins σ H s → RelV x v → RelV y u → r x y H Q →
    subscripted slice false v u = operate [v, u] (getItem v u) → wpAny (model X.prog X.w) X.A (subscriptTail value slice v u) (EP X pins σ Q) X.xe s
/-- a call of a builtin's method by values: the receiver, the arguments -/
def MtR (X : Cx) (id : String) (r : V → List V → Hp → VK → Prop) : Prop :=
  ∀ (pins : List (Addr × Obj)) (s : Shared) (σ : St) (H : Hp) (x : V) (xs : List V) (v : Value) (us : List Value) (Q : VK), Inv X pins σ H s → RelV x v → Vals xs us → r x xs H Q →
    wpAny (model X.prog X.w) X.A (call (.builtin id) (v :: us)) (EP X pins σ Q) X.xe s
section
variable {X : Cx} {a b : Expr} {ta tb : TE} {pos : Pos}
/-- a[b] -/
theorem pe_ix {r : R2} (hr : IxR X r) (ha : PE X a ta) (hb : PE X b tb) (hs : PlainIx b) : PE X (.Subscript a b pos) (tOp r ta tb) := by
  intro pins s σ H Q I h
  exact Subscript_ (binT ha hb I h fun v u s2 x y H2 I2 rx ry q => hr a b pins s2 σ H2 x y v u Q I2 rx ry q (hs _ _))

def rIxL (K : PySem.W.Frag) : R2 := fun x y H Q => ∃ p xs i v, x = .ref p ∧ y = .int i ∧ SqL K H p xs ∧ atI xs i = some v ∧ Q v H
def rIxT (K : PySem.W.Frag) : R2 := fun x y H Q => ∃ p xs i v, x = .ref p ∧ y = .int i ∧ SqT K H p xs ∧ atI xs i = some v ∧ Q v H
theorem ix_list : IxR X (rIxL X.K) := by
  intro value slice pins s σ H x y v u Q I rx ry h hs
  obtain ⟨p, xs, i, z, rfl, rfl, hq, he, q⟩ := h
  cases rx
  obtain ⟨t, rfl⟩ := ry
  obtain ⟨its, r, pl, hz⟩ := I.list hq
  obtain ⟨j, h1, h2, h3, h4, h5⟩ := atI_get he
  obtain ⟨w, ew, rw'⟩ := r.get h2
  have hl := r.length
  have hn := line63
  have fin : EP X pins σ Q w s := ⟨z, H, I, rw', q⟩
  by_cases h0 : 0 ≤ i
  · have hj : i.toNat = j := by
      rw [seqIndex_of h0 h5] at h1
      exact Option.some.inj h1
    exact item_listR pl.isList h0 (by omega) (by rw [hj]; simpa using ew) fin hs
  · have hj : (i + (its.toArray.size : Int)).toNat = j := by
      rw [seqIndex_neg (by omega) h4] at h1
      rw [List.size_toArray, ← hl]
      exact Option.some.inj h1
    exact subscriptTail_builtinR (x := w) pl.isList.typeIs slot_list_getitem.lookup
      (wpAny_getItem_list_neg (Q := fun r s' => r = w ∧ EP X pins σ Q r s') pl.isList (by omega) (by rw [List.size_toArray] <;> omega) (by omega) (by rw [hj]; simpa using ew) ⟨rfl, fin⟩) hs
theorem ix_tup : IxR X (rIxT X.K) := by
  intro value slice pins s σ H x y v u Q I rx ry h hs
  obtain ⟨p, xs, i, z, rfl, rfl, hq, he, q⟩ := h
  cases rx
  obtain ⟨t, rfl⟩ := ry
  obtain ⟨its, r, pl, hz⟩ := I.tuple hq
  obtain ⟨j, h1, h2, h3, h4, h5⟩ := atI_get he
  obtain ⟨w, ew, rw'⟩ := r.get h2
  have hl := r.length
  have hn := line63
  have fin : EP X pins σ Q w s := ⟨z, H, I, rw', q⟩
  exact subscriptTail_builtinR (x := w) pl.typeIs slot_tuple_getitem.lookup
    (getItem_tuple (j := j) (Q := fun r s' => r = w ∧ EP X pins σ Q r s') pl (by omega) (by omega) (by rw [List.size_toArray, ← hl]; exact h1) (by simpa using ew) ⟨rfl, fin⟩) hs

/-! ### xs[i] = v, any sign -/

/-! ### slices -/
theorem slice_bounds (lo hi : Option Int) (n : Nat) : (sliceBounds lo hi none n).1 = ((HT.sIx n 0 lo : Nat) : Int) ∧ (sliceBounds lo hi none n).2.1 = ((HT.sIx n n hi : Nat) : Int) ∧ (sliceBounds lo hi none n).2.2 = 1 := by
  refine ⟨?_, ?_, rfl⟩
  · cases lo with
    | none => simp [sliceBounds, HT.sIx]
    | some i =>
      simp only [sliceBounds, HT.sIx, Option.getD_none, show (1 : Int) > 0 by decide, if_true]
      by_cases h : i < 0
      · simp only [h, if_true] <;> omega
      · simp only [h, if_false] <;> omega
  · cases hi with
    | none => simp [sliceBounds, HT.sIx]
    | some i =>
      simp only [sliceBounds, HT.sIx, Option.getD_none, show (1 : Int) > 0 by decide, if_true]
      by_cases h : i < 0
      · simp only [h, if_true] <;> omega
      · simp only [h, if_false] <;> omega
theorem slicePick_cut (its : List Value) (lo hi : Option Int) : slicePick its.toArray lo hi none = ((its.drop (HT.sIx its.length 0 lo)).take (HT.sIx its.length its.length hi - HT.sIx its.length 0 lo)).toArray := by
  obtain ⟨h1, h2, h3⟩ := slice_bounds lo hi its.toArray.size
  unfold slicePick
  rw [h1, h2, h3]
  simp only [sliceRange_one, pick_run, List.size_toArray] <;> rfl
/-- xs[lo:hi] of a list: a new list -/
def rSlL (K : PySem.W.Frag) : V → Option Int → Option Int → Hp → VK → Prop := fun x lo hi H Q => ∃ a xs, x = .ref a ∧ SqL K H a xs ∧ ∀ p, H p = none → Q (.ref p) (upd H p (.lst (cutV xs lo hi)))
theorem sl_list : SlR X (rSlL X.K) := by
  intro pins s σ H x v vl vu lo hi sl Q I rx hs pl pu h
  obtain ⟨a, xs, rfl, hx, q⟩ := h
  cases rx
  obtain ⟨its, r, ht, hz⟩ := I.list hx
  have hlen := r.length
  refine ⟨"list", _, slot_list_getitem.lookup, ht.isList.typeIs, ?_⟩
  refine wpAny_getItem_list_slice ht.isList hs pl pu .none (by simp) ?_ (by rw [List.size_toArray] <;> omega)
  rw [slicePick_cut, ← hlen]
  refine ⟨.ref s.heap.objs.size, _, I.laid (t' := s.toks) (o := .lst (cutV xs lo hi)) (fun b ob q => Heap.get?_push_of_some _ q) (Nat.le_refl _) ?_, rfl, q _ (I.hok.fresh (Nat.le_refl _))⟩
  exact ⟨Nat.le_trans (cutV_length xs lo hi) hz, _, 0, (r.drop (HT.sIx xs.length 0 lo)).take (HT.sIx xs.length xs.length hi - HT.sIx xs.length 0 lo), Heap.get?_push_size _ rfl⟩

/-! ### in, not in: flat items -/
def flatV : V → Bool
  | .non => true
  | .bl _ => true
  | .int _ => true
  | .str _ => true
  | _ => false
/-- == of flat values -/
def eqV : V → V → Bool
  | .non, .non => true
  | .bl a, .bl b => a == b
  | .bl a, .int b => (if a then 1 else 0) == b
  | .int a, .bl b => a == (if b then 1 else 0)
  | .int a, .int b => a == b
  | .str a, .str b => a == b
  | _, _ => false
theorem eqAt_V {A : Around} {s : Shared} {y x : V} {u v : Value} (ry : RelV y u) (rx : RelV x v) (fy : flatV y = true) (fx : flatV x = true) : SeqAt.EqAt A s u v (eqV y x) := by
  cases y with
  | non =>
    cases ry
    cases x with
    | non => cases rx; exact SeqAt.EqAt.same _
    | bl b => cases rx; exact SeqAt.EqAt.none_bool b
    | int b => obtain ⟨t, rfl⟩ := rx; exact SeqAt.EqAt.none_int b t
    | str b => obtain ⟨t, rfl⟩ := rx; exact SeqAt.EqAt.none_str b t
    | _ => exact absurd (show false = true from fx) Bool.false_ne_true
  | bl a =>
    cases ry
    cases x with
    | non => cases rx; exact SeqAt.EqAt.bool_none a
    | bl b => cases rx; exact SeqAt.EqAt.bool_bool a b
    | int b => obtain ⟨t, rfl⟩ := rx; exact SeqAt.EqAt.bool_int a b t
    | str b => obtain ⟨t, rfl⟩ := rx; exact SeqAt.EqAt.bool_str a b t
    | _ => exact absurd (show false = true from fx) Bool.false_ne_true
  | int a =>
    obtain ⟨t', rfl⟩ := ry
    cases x with
    | non => cases rx; exact SeqAt.EqAt.int_none a t'
    | bl b => cases rx; exact SeqAt.EqAt.int_bool a t' b
    | int b => obtain ⟨t, rfl⟩ := rx; exact SeqAt.EqAt.int_int a t' b t
    | str b => obtain ⟨t, rfl⟩ := rx; exact SeqAt.EqAt.int_str a t' b t
    | _ => exact absurd (show false = true from fx) Bool.false_ne_true
  | str a =>
    obtain ⟨t', rfl⟩ := ry
    cases x with
    | non => cases rx; exact SeqAt.EqAt.str_none a t'
    | bl b => cases rx; exact SeqAt.EqAt.str_bool a t' b
    | int b => obtain ⟨t, rfl⟩ := rx; exact SeqAt.EqAt.str_int a t' b t
    | str b => obtain ⟨t, rfl⟩ := rx; exact SeqAt.EqAt.str_str a t' b t
    | _ => exact absurd (show false = true from fx) Bool.false_ne_true
  | _ => exact absurd (show false = true from fy) Bool.false_ne_true
/-- the items' answers, read off the values (a value's own answer does not lean on its token) -/
def eqU (x : V) (u : Value) : Bool := match u with
  | .none => eqV .non x
  | .bool b => eqV (.bl b) x
  | .int i _ => eqV (.int i) x
  | .str z _ => eqV (.str z) x
  | _ => false
theorem eqU_of {x y : V} {u : Value} (r : RelV y u) (f : flatV y = true) : eqU x u = eqV y x := by
  cases y with
  | non => cases r; rfl
  | bl b => cases r; rfl
  | int i => obtain ⟨t, rfl⟩ := r; rfl
  | str z => obtain ⟨t, rfl⟩ := r; rfl
  | _ => exact absurd (show false = true from f) Bool.false_ne_true
theorem any_eqU {x : V} : ∀ {xs : List V} {us : List Value}, Vals xs us → xs.all flatV = true → us.any (eqU x) = xs.any fun y => eqV y x
  | _, _, .nil, _ => rfl
  | y :: xs, u :: us, .cons r t, f => by
    rw [List.all_cons, Bool.and_eq_true] at f
    rw [List.any_cons, List.any_cons, eqU_of r f.1, any_eqU t f.2]
theorem mem_eqAt {A : Around} {s : Shared} {x : V} {v : Value} (rx : RelV x v) (fx : flatV x = true) : ∀ {xs : List V} {us : List Value}, Vals xs us → xs.all flatV = true → ∀ u ∈ us, SeqAt.EqAt A s u v (eqU x u)
  | _, _, .nil, _ => fun u hu => by cases hu
  | y :: xs, u :: us, .cons r t, f => fun u' hu => by
    rw [List.all_cons, Bool.and_eq_true] at f
    rcases List.mem_cons.mp hu with rfl | hu
    · rw [eqU_of r f.1]; exact eqAt_V r rx f.1 fx
    · exact mem_eqAt rx fx t f.2 u' hu
def inV (x : V) (xs : List V) : Bool := xs.any fun y => eqV y x
/-- x in a list or tuple of flat items -/
def rIn (K : PySem.W.Frag) (neg : Bool) : R2 := fun x y H Q => ∃ p xs, y = .ref p ∧ (SqL K H p xs ∨ SqT K H p xs) ∧ flatV x = true ∧ xs.all flatV = true ∧ Q (.bl (if neg then !inV x xs else inV x xs)) H
theorem op_in_seq : OpR X (compareOp .In) (rIn X.K false) := by
  intro pins s σ H x y v u Q I rx ry h
  obtain ⟨p, xs, rfl, hq, fx, fs, q⟩ := h
  cases ry
  rcases hq with hq | hq
  · obtain ⟨its, r, pl, hz⟩ := I.list hq
    refine SeqAt.in_listAt (eqU x) pl.isList (fun w hw => mem_eqAt rx fx r fs w (by simpa using hw)) ⟨.bl _, H, I, rfl, ?_⟩
    rw [show its.toArray.any (eqU x) = its.any (eqU x) by simp, any_eqU r fs]
    exact q
  · obtain ⟨its, r, pl, hz⟩ := I.tuple hq
    refine SeqAt.in_tupleAt (eqU x) pl (fun w hw => mem_eqAt rx fx r fs w (by simpa using hw)) ⟨.bl _, H, I, rfl, ?_⟩
    rw [show its.toArray.any (eqU x) = its.any (eqU x) by simp, any_eqU r fs]
    exact q
theorem op_notIn_seq : OpR X (compareOp .NotIn) (rIn X.K true) := by
  intro pins s σ H x y v u Q I rx ry h
  obtain ⟨p, xs, rfl, hq, fx, fs, q⟩ := h
  cases ry
  rcases hq with hq | hq
  · obtain ⟨its, r, pl, hz⟩ := I.list hq
    refine SeqAt.notIn_listAt (eqU x) pl.isList (fun w hw => mem_eqAt rx fx r fs w (by simpa using hw)) ⟨.bl _, H, I, rfl, ?_⟩
    rw [show its.toArray.any (eqU x) = its.any (eqU x) by simp, any_eqU r fs]
    exact q
  · obtain ⟨its, r, pl, hz⟩ := I.tuple hq
    refine SeqAt.notIn_tupleAt (eqU x) pl (fun w hw => mem_eqAt rx fx r fs w (by simpa using hw)) ⟨.bl _, H, I, rfl, ?_⟩
    rw [show its.toArray.any (eqU x) = its.any (eqU x) by simp, any_eqU r fs]
    exact q

/-! ### len, list(x), tuple(x) of any list or tuple that is read -/
theorem call_len_seq : CallR X (.builtin "len") (fun xs H Q => ∃ p ys, xs = [.ref p] ∧ (SqL X.K H p ys ∨ SqT X.K H p ys) ∧ Q (.int ys.length) H) := by
  intro pins s σ H xs us Q I r h
  obtain ⟨p, ys, rfl, hq, q⟩ := h
  obtain ⟨u, rfl, rx⟩ := vals1 r
  cases rx
  have hn := line63
  rcases hq with hq | hq
  · obtain ⟨its, r', pl, hz⟩ := I.list hq
    have hlen := r'.length
    exact Calls.call_len_list pl.isList (by simp only [List.size_toArray] <;> omega) ⟨.int ys.length, H, I.tok _, ⟨s.toks + 1, by rw [List.size_toArray, hlen]⟩, q⟩
  · obtain ⟨its, r', pl, hz⟩ := I.tuple hq
    have hlen := r'.length
    exact len_tuple pl (by simp only [List.size_toArray] <;> omega) ⟨.int ys.length, H, I.tok _, ⟨s.toks + 1, by rw [List.size_toArray, hlen]⟩, q⟩
theorem call_len_str : CallR X (.builtin "len") (fun xs H Q => ∃ z, xs = [.str z] ∧ z.length ≤ sizeLine ∧ Q (.int z.length) H) := by
  intro pins s σ H xs us Q I r h
  obtain ⟨z, rfl, hz, q⟩ := h
  obtain ⟨u, rfl, t, rfl⟩ := vals1 r
  have hn := line63
  exact len_str (by omega) ⟨.int z.length, H, I.tok _, ⟨_, rfl⟩, q⟩

/-! ### the call of a builtin's method: o.m(..) -/
/-- the value is of that builtin type -/
def tyV (K : PySem.W.Frag) (T : String) (x : V) (H : Hp) : Prop := match x with
  | .str _ => T = "str"
  | .int _ => T = "int"
  | .ref p => (T = "list" ∧ ∃ xs, SqL K H p xs) ∨ (T = "tuple" ∧ ∃ o, K.lookup p = some o ∧ o.cls = .type "tuple" ∧ o.dict = none) ∨
      (T = "dict" ∧ ((∃ kvs, H p = some (.dK kvs)) ∨ ∃ kvs, H p = some (.dT kvs))) ∨ (T = "set" ∧ ∃ S n, H p = some (.set S n))
  | _ => False
theorem tyV_is {pins : List (Addr × Obj)} {σ : St} {H : Hp} {s : Shared} {T : String} {x : V} {v : Value} (I : Inv X pins σ H s) (r : RelV x v) (ty : tyV X.K T x H) :
    s.TypeIs v T ∧ ∀ a, v = .ref a → ∃ ob, s.heap.get? a = some ob ∧ ob.dict = none := by
  cases x with
  | str z =>
    obtain ⟨t, rfl⟩ := r
    cases (show T = "str" from ty)
    exact ⟨typeIs_str s z t, fun _ e => nomatch e⟩
  | int i =>
    obtain ⟨t, rfl⟩ := r
    cases (show T = "int" from ty)
    exact ⟨typeIs_int s i t, fun _ e => nomatch e⟩
  | ref p =>
    cases r
    rcases ty with ⟨rfl, xs, hq⟩ | ⟨rfl, o, hk, hc, hd⟩ | ⟨rfl, hk⟩ | ⟨rfl, S, n, hk⟩
    · obtain ⟨its, _, pl, _⟩ := I.list hq
      refine ⟨pl.isList.typeIs, fun a e => ?_⟩
      cases e
      obtain ⟨o, n, e, c, hd, _⟩ := pl
      exact ⟨o, e, hd⟩
    · refine ⟨⟨o, I.kIn p o hk, hc⟩, fun a e => ?_⟩
      cases e
      exact ⟨o, I.kIn _ o hk, hd⟩
    · have z : ∃ o, s.heap.get? p = some o ∧ o.ExactDict := by
        rcases hk with ⟨kvs, hk⟩ | ⟨kvs, hk⟩
        · obtain ⟨_, _, _, _, o, _, _, e, ex, _⟩ := I.hok p _ hk
          exact ⟨o, e, ex⟩
        · obtain ⟨_, _, _, _, o, _, _, e, ex, _⟩ := I.hok p _ hk
          exact ⟨o, e, ex⟩
      obtain ⟨o, e, ex⟩ := z
      refine ⟨⟨o, e, ex.1⟩, fun a e2 => ?_⟩
      cases e2
      exact ⟨o, e, ex.2.1⟩
    · obtain ⟨o, _, _, _, e, ex, _⟩ := I.hok p _ hk
      refine ⟨⟨o, e, ex.1⟩, fun a e2 => ?_⟩
      cases e2
      exact ⟨o, e, ex.2.1⟩
  | _ => exact False.elim ty
def tBM (K : PySem.W.Frag) (T : String) (r : V → List V → Hp → VK → Prop) (to : TE) (t : TA) : TE := fun σ H Q => to σ H fun x H1 => tyV K T x H1 ∧ t σ H1 fun xs H2 => r x xs H2 Q
variable {o e : Expr} {es : List Expr} {to : TE} {t : TA} {name : Str} {apos cpos : Pos} {T id : String} {r : V → List V → Hp → VK → Prop}
theorem pe_bm (pa : PlainAttrs T) (slot : Slot T name id) (hty : typeOf (.builtin id) = pure (.type "method_descriptor")) (hm : MtR X id r) (ho : PE X o to) (ha : PA X (e :: es) t)
    (hbase : attributeBase o name X.env (eval o X.env) = eval o X.env := by rfl)
    (hfew : ((backTo cpos (starEach (e :: es) X.env)).all (fun x => !x.1) && (backToKw cpos (keywordEach [] X.env)).all (fun x => x.1.isSome)
      && decide ((e :: es).length + ([] : List Keyword).length + (if ([] : List Keyword).isEmpty then 0 else 1) < 30)) = true := by rfl)
    (hline : (apos.endLine == cpos.line) = true := by rfl) (hs : starEach (e :: es) X.env = (false, eval e X.env) :: starEach es X.env := by rfl) (hplain : (backTo cpos (starEach es X.env)).any (·.1) = false := by rfl) :
    PE X (.Call (.Attribute o name apos) (e :: es) [] cpos) (tBM X.K T r to t) := by
  intro pins s σ H Q I h
  refine wpAny_Call_method_late hbase hfew hline rfl (thn (ho pins s σ H _ I h) fun v s1 ⟨x, H1, I1, r1, ty, q1⟩ => ?_)
  obtain ⟨h1, h2⟩ := tyV_is I1 r1 ty
  refine ⟨T, id, pa, slot, hty, h1, h2, ?_⟩
  have hA := ha cpos pins s1 σ H1 _ I1 q1
  rw [hs] at hA ⊢
  refine Calls.callWith_builtin (by show (false || (backTo cpos (starEach es X.env)).any (·.1)) = false; rw [hplain] <;> rfl) (Calls.evalArgs_plain ?_)
  exact thn hA fun us s2 ⟨vs, H2, I2, r2, q2⟩ => hm pins s2 σ H2 x vs v us Q I2 r1 r2 q2
/- xs.append(e), list.index on a module's tuple .. are MtR facts of 06m -/
end
end L2

namespace L2
open PySem PySem.Spec PyProof.Rows

def MtM (X : Cx) (id : String) (r : V → List V → Hp → VK → Prop) : Prop :=
  ∀ (pins : List (Addr × Obj)) (s : Shared) (σ : St) (H : Hp) (x : V) (xs : List V) (v : Value) (us : List Value) (Q : VK), Inv X pins σ H s → RelV x v → Vals xs us → r x xs H Q →
    wpAny (model X.prog X.w) X.A (call (.builtin id) (v :: us)) (EP X pins σ Q) X.xe s

/-! ### lists of values -/
theorem Vals.one : ∀ {x : V} {us : List Value}, Vals [x] us → ∃ u, us = [u] ∧ RelV x u
  | _, _, .cons r .nil => ⟨_, rfl, r⟩

section
variable {X : Cx} {pins : List (Addr × Obj)} {σ : St} {H : Hp} {s : Shared} {l b : Addr} {xs ys zs : List V}

/-! ### the two steps: a tracked list is rewritten, a new list is laid -/
theorem Inv.lset {its its' : List Value} {n : Nat} {f : Array Value → Array Value} {t' : Nat} (I : Inv X pins σ H s) (hH : H l = some (.lst xs))
    (e : s.heap.get? l = some { cls := .type "list", data := .seq its.toArray n }) (hf : f its.toArray = its'.toArray) (hv : Vals ys its') (hz : ys.length ≤ sizeLine) :
    Inv X pins σ (upd H l (.lst ys)) { s with heap := s.heap.update l (Obj.mapSeq f), toks := t' } := by
  have q := PySem.IsL.update e f
  rw [hf] at q
  refine I.write (x := l) (e := l) (by rw [hH]; exact trivial) (.inl rfl) (fun b' u hb hu => (Heap.get?_update_other s.heap (Obj.mapSeq f) (Ne.symm hb)).trans hu) ⟨_, q⟩ ?_
  exact ⟨hz, its', _, hv, q⟩
theorem Inv.lnew {its : List Value} {t' : Nat} (I : Inv X pins σ H s) (hv : Vals ys its) (hz : ys.length ≤ sizeLine) :
    Inv X pins σ (upd H s.heap.objs.size (.lst ys)) { s with heap := s.heap.push { cls := .type "list", data := .seq its.toArray }, toks := t' } :=
  I.laid (fun _ _ q => Heap.get?_push_of_some _ q) (Nat.le_refl _) ⟨hz, its, 0, hv, Heap.get?_push_size _ rfl⟩
theorem Inv.fresh (I : Inv X pins σ H s) : H s.heap.objs.size = none := I.hok.fresh (Nat.le_refl _)
theorem Inv.lstM (I : Inv X pins σ H s) (hH : H l = some (.lst xs)) : xs.length ≤ sizeLine ∧ ∃ (its : List Value) (n : Nat), Vals xs its ∧ xs.length = its.length ∧ s.heap.get? l = some { cls := .type "list", data := .seq its.toArray n } := by
  obtain ⟨z, its, n, r, e⟩ := I.hok l _ hH
  exact ⟨z, its, n, r, r.length, e⟩

end

section
variable {X : Cx}

/-! ### methods -/
def rAppend : V → List V → Hp → VK → Prop := fun x vs H Q => ∃ l xs y, x = .ref l ∧ vs = [y] ∧ H l = some (.lst xs) ∧ xs.length < sizeLine ∧ Q .non (upd H l (.lst (xs ++ [y])))
theorem mt_append : MtM X "list.append" rAppend := by
  intro pins s σ H x vs v us Q I rx rv h
  obtain ⟨l, xs, y, rfl, rfl, hH, hz, q⟩ := h
  cases rx
  obtain ⟨u, rfl, ru⟩ := rv.one
  obtain ⟨z, its, n, r, hl, e⟩ := I.lstM hH
  refine call_meets F.slot_list_append ⟨_, e, rfl⟩ F.entry_list_append (F.args_list_append_2 _ _) (PySem.list_append l its.toArray n u (by rw [List.size_toArray]; omega)) ⟨e, ?_⟩
  refine ⟨.non, _, I.lset (its' := its ++ [u]) hH e (by simp) (r.append (.cons ru .nil)) ?_, rfl, q⟩
  rw [List.length_append, List.length_singleton]
  omega

/-! ### list + list, list += list, list * int -/
def rCat : R2 := fun x y H Q => ∃ l b xs zs, x = .ref l ∧ y = .ref b ∧ H l = some (.lst xs) ∧ H b = some (.lst zs) ∧ xs.length + zs.length ≤ sizeLine ∧ ∀ p, H p = none → Q (.ref p) (upd H p (.lst (xs ++ zs)))
theorem op_cat : OpR X (binaryOp .Add) rCat := by
  intro pins s σ H x y v u Q I rx ry h
  obtain ⟨l, b, xs, zs, rfl, rfl, hH, hB, hz, q⟩ := h
  cases rx
  cases ry
  obtain ⟨z, its, n, r, hl, e⟩ := I.lstM hH
  obtain ⟨z2, its2, n2, r2, hl2, e2⟩ := I.lstM hB
  refine PySem.P.add_list e e2 ?_ (by rw [List.size_toArray, List.size_toArray]; omega)
  have ea : its.toArray ++ its2.toArray = (its ++ its2).toArray := by simp
  rw [ea]
  exact ⟨.ref _, _, I.lnew (t' := s.toks) (r.append r2) (by rw [List.length_append]; omega), rfl, q _ I.fresh⟩

/-! ### del xs[i] -/
end

/-! ### xs[a:b] = ys -/
section
variable {prog : Program} {w : World} {A : Around} {E : Value → Shared → Prop} {s : Shared}
end

section
variable {X : Cx}
end
end L2

namespace Att
open PySem PySem.W PySem.Calls PyProof.Rows

/-! ### the script -/
theorem ints_of_wellAll {P : Params} {h : Heap} : ∀ (ns : List Int) (vs : List Value), WellAll P h vs (ns.map WData.int) → IntsAre vs ns := by
  intro ns
  induction ns with
  | nil =>
    intro vs w
    rw [List.map_nil] at w
    cases w
    exact .nil
  | cons n ns ih =>
    intro vs w
    rw [List.map_cons] at w
    cases w with
    | cons a b =>
      cases a
      exact .cons _ _ (ih _ b)

theorem script_of {l : OpenLaw} {n : Nat} (hn : l.most = some n) {P : Params} {h : Heap} {args : List WData} {vals : List Value}
    (hpre : l.row.toRowW.claim.pre args = true) (hwl : WellAll P h vals args) :
    ∃ a vs ns, vals = [Value.ref a] ∧ args = [WData.list (ns.map WData.int)] ∧ h.get? a = some { cls := .type "list", data := .seq vs.toArray } ∧ IntsAre vs ns ∧ ns.length ≤ n := by
  have hsh : WShape.hasAll [] args [.list .int] = true := (pre_splitW hpre).1
  have hc : l.pre.holds [] { args := args } = true := (pre_splitW hpre).2
  obtain ⟨d, r, rfl, h1, h2⟩ := hasAllW_cons hsh
  obtain rfl := hasAllW_nil h2
  obtain ⟨xs, rfl, h3⟩ := hasW_list h1
  obtain ⟨ns, rfl⟩ := items_int h3
  have hlen : ns.length ≤ n := by
    unfold OpenLaw.pre at hc
    have h4 : (WTm.not (.lt (.lit (.int (n : Int))) (.len (.arg 0)))).holds [] { args := [.list (ns.map .int)] } = true := by
      have h4 := (holds_andW hc).1
      rw [hn] at h4
      exact h4
    have h5 := condW_of h4 (w_not (w_lt w_lit (w_len_list (w_arg rfl))))
    rw [List.length_map] at h5
    refine Nat.le_of_not_lt fun q => ?_
    have q' : (n : Int) < ((ns.length : Nat) : Int) := by omega
    first
      | (rw [decide_eq_true q'] at h5; exact absurd h5 (by decide))
      | (simp at h5; omega)
  cases hwl with
  | cons w1 w2 =>
    cases w2
    cases w1 with
    | list ho hall => exact ⟨_, _, ns, rfl, rfl, ho, ints_of_wellAll ns _ hall, hlen⟩

theorem post_true (l : OpenLaw) (args : List WData) : l.row.toRowW.claim.post args (.bool true) args = true :=
  postW_of (r := l.row.toRowW) (X := (true == true))
    (show WShape.has [] (.bool true) .bool = true by first | rfl | decide | simp [WShape.has, WShape.arms, WShape.armsAll])
    (show (WTm.eq .res (.lit (.bool true))).value [] { args := args, res := some (.bool true), after := args } = some (.bool (true == true)) from w_eq_bool (w_res rfl) w_lit) rfl

/-! ### the attachment: holds_open's last premise (the goal 'hc' behind k_head) from a wpAny of the law's body -/

/-- the same from a codeAny of the CALL (for a layer whose function contracts speak of calls) -/
theorem attach_call {l : OpenLaw} {n : Nat} {q : Program} {loose : List Str} {XP : (Str → Option Value) → Heap → Prop} {YP : World → Heap → Prop} {d : DefRec}
    (hn : l.most = some n) (hdf : d.params.defaults = [])
    (call : ∀ (w : World) (s₀ s₁ : Shared) (mg mb : Str → Option Value) (fa : Addr) (o : Obj) (pm cd doc : Value) (a : Addr) (vs : List Value) (ns : List Int),
      Ground q loose [] XP w s₀ mg mb s₁.heap → YP w s₁.heap →
      s₁.heap.get? fa = some o → o.data = .func (docDef d.name d.params d.body d.scope pm cd doc) → s₁.heap.CodeRec cd d.name → mg d.name = some (.ref fa) →
      s₁.heap.get? a = some { cls := .type "list", data := .seq vs.toArray } → IntsAre vs ns → ns.length ≤ n → s₁.gens = #[] →
      codeAny (model l.prog w) callerA (.call (.ref fa) ⟨[.ref a], []⟩) (fun r s' => r = .ok (.ret (.bool true)) ∧ OldK s₁.heap s'.heap ∧ s'.os = s₁.os ∧ AllBare s'.gens) s₁) :
    WalkO q loose XP YP l.row.toRowW d [] (fun f vs => PySem.call f vs) := by
  intro w s₀ s₁ mg mb G Y fa o pm cd doc dV kV ho hd hcd hD hmg hg args vals as hpre hlay hrd hwl hlo
  obtain rfl : dV = .none := Dflts.none hD hdf
  obtain rfl : kV = .none := Dflts.noKw hD
  obtain ⟨a, vs, ns, rfl, rfl, hobj, hints, hlen⟩ := script_of hn hpre hwl
  refine enter_call (codeAny_mono (call w s₀ s₁ mg mb fa o pm cd doc a vs ns G Y ho (fd_plain hd) hcd hmg hobj hints hlen hg) fun r s' hq => ?_)
  obtain ⟨rfl, h2, h3, h4⟩ := hq
  exact ⟨.inl ⟨.bool true, .bool true, [], rfl, fun _ => rfl, .bool true, post_true l _, fun _ => ⟨List.Pairwise.nil, fun _ hm => (nomatch hm)⟩⟩, h2, h3, h4⟩

/-! ### rules over ANY heap (no ledger) from facts about the written part K: the library's own take a ledger (News) for what they write -/
section
variable {prog : Program} {w : World} {A : Around} {E : Value → Shared → Prop} {s : Shared} {K : Frag}

/-! the whole heap as the ledger: makes every rule that writes through a ledger a rule over any heap -/

end
end Att

namespace L2
open PySem PySem.Spec PyProof.Rows

theorem vals_ints : ∀ {vs : List Value} {ns : List Int}, IntsAre vs ns → Vals (ns.map V.int) vs
  | _, _, .nil => .nil
  | _, _, .cons n t h => .cons ⟨t, rfl⟩ (vals_ints h)

/-- nothing is tracked but the script, known to the object (or it is an object of the module) -/
def Only (H : Hp) : Prop := ∀ b, H b = none ∨ ∃ o xs, H b = some (.frz o (.lst xs))

/-- THE HEAD: the law's promise, at the heap behind the top. F, the promise of the law's def, may use that base is part of the heap (so K.In base, base.Ns mainGlobals mg stand in Mod) -/
theorem law_call {P : Program} {w : World} {K : PySem.W.Frag} {mg mb : Str → Option Value} {CX : CXT} {k : Nat} {fa a : Addr} {fd : FuncData} {x : Str} {sp : Sp} {s₁ : Shared} {vs : List Value} {ns : List Int}
    (KX : K.In s₁.heap) (hns : s₁.heap.Ns mainGlobals mg) (hb : s₁.heap.Ns builtinsNs mb) (hbb : ∀ x : Str, x ≠ "__name__" → mb x = bootBuiltins x) (hlim : s₁.heap.NoLimit) (hg : s₁.gens = #[])
    (ha : s₁.heap.get? a = some { cls := .type "list", data := .seq vs.toArray }) (hi : IntsAre vs ns) (hl : ns.length ≤ sizeLine) (hr : Room k callerA)
    (F : ∀ base : Heap, K.In base → base.Ns mainGlobals mg → FnOk P w K mg base CX k fa fd [x] sp) (hbind : ∀ (s : Shared) (u : Value), BindsTo s fd ⟨[u], []⟩ [(x, u)])
    (hsp : ∀ H : Hp, Only H → SqL K H a (ns.map V.int) → sp [.ref a] H (fun v _ => v = .bl true) fun _ _ _ => False)
    (hCX : ∀ H e s', CX [] H s₁ (fun _ _ _ => False) e s' → False) :
    codeAny (model P w) callerA (.call (.ref fa) ⟨[.ref a], []⟩) (fun r s' => r = .ok (.ret (.bool true)) ∧ OldK s₁.heap s'.heap ∧ s'.os = s₁.os ∧ AllBare s'.gens) s₁ := by
  have rv := vals_ints hi
  have lenV := hi.length
  -- from an abstract heap in which nothing but the script may be tracked
  have core : ∀ H : Hp, Only H → SqL K H a (ns.map V.int) → HOk P w H s₁.heap → (∀ b, H b ≠ none → b = a) → (H a ≠ none → K.lookup a = none) →
      codeAny (model P w) callerA (.call (.ref fa) ⟨[.ref a], []⟩) (fun r s' => r = .ok (.ret (.bool true)) ∧ OldK s₁.heap s'.heap ∧ s'.os = s₁.os ∧ AllBare s'.gens) s₁ := by
    intro H hO hS hok hA hK
    have base_of : ∀ {b : Addr} {o : Obj}, s₁.heap.get? b = some o → H b = none → (hidT s₁.heap H).get? b = some o := fun e n => hidT_get e n
    have noA : ∀ {b : Addr} {o : Obj} {es : Array DictEntry} {ep : Nat}, s₁.heap.get? b = some o → o.data = .dict es ep → H b = none := fun {b o es ep} e d => by
      cases q : H b with
      | none => rfl
      | some u =>
        have e' : b = a := hA b (by rw [q]; simp)
        subst e'
        rw [ha] at e; cases e
        have d' : Data.seq vs.toArray _ = Data.dict es ep := d
        cases d'
    have nsK : ∀ {b : Addr} {m : Str → Option Value}, s₁.heap.Ns b m → (hidT s₁.heap H).Ns b m := fun {b m} ⟨o, es, ep, e, d, r⟩ => ⟨o, es, ep, base_of e (noA e d), d, r⟩
    have hKb : K.In (hidT s₁.heap H) := fun b o e => base_of (KX b o e) (by
      cases q : H b with
      | none => rfl
      | some u =>
        have e' : b = a := hA b (by rw [q]; simp)
        subst e'
        rw [hK (by rw [q]; simp)] at e; cases e)
    have hM : Mod K mg (hidT s₁.heap H) := ⟨hKb, nsK hns, ⟨mb, nsK hb, hbb⟩, let ⟨mc, h1, h2⟩ := hlim; ⟨mc, nsK h1, h2⟩⟩
    have e0 : Env0 P w K mg (hidT s₁.heap H) callerA [] s₁ H := ⟨rfl, hM, fun b o e => of_hidT e, Nat.le_of_eq (hidT_size _ _), trivial, fun b hb => absurd (show b ∈ ([] : List Addr) from hb) (by simp), hok, .of_eq hg⟩
    refine codeAny_mono ((F _ hKb (nsK hns)).run callerA [] s₁ H ⟨[.ref a], []⟩ [.ref a] [.ref a] _ _ hr e0 (hbind s₁ (.ref a)) (.cons rfl .nil) (hsp H hO hS)) fun r s' h => ?_
    cases r with
    | error e => exact (hCX H e s' h).elim
    | ok fl =>
      cases fl with
      | next => exact False.elim h
      | brk => exact False.elim h
      | cont => exact False.elim h
      | ret u =>
        obtain ⟨v, H', os, bare, un, hok', r', q⟩ := h
        have q' : v = .bl true := q
        subst q'
        obtain rfl : u = Value.bool true := r'
        refine ⟨rfl, OldK.of_keep fun b o e => ?_, os, bare⟩
        cases q : H b with
        | none => exact un.keep b o e q (by intro z; exact absurd (show b ∈ ([] : List Addr) from z) (by simp)) (by simp)
        | some u =>
          rcases hO b with z | ⟨ob, xs, z⟩
          · rw [q] at z; cases z
          · have z2 := un.frzs b ob _ z
            obtain ⟨e1, _⟩ := hok b _ z
            obtain ⟨e2, _⟩ := hok' b _ z2
            rw [e] at e1; cases e1
            exact e2
  cases hk : K.lookup a with
  | some o =>
    -- the script is one of the module's own objects
    have e := KX a o hk
    rw [ha] at e
    cases e
    refine core (fun _ => none) (fun _ => .inl rfl) (.inr ⟨_, vs.toArray, _, hk, rfl, rfl, rfl, by rw [List.size_toArray, lenV]; exact hl, by simpa using rv⟩) (fun b u z => by have z' : (none : Option HO) = some u := z; cases z') (fun b z => absurd rfl z) fun z => absurd rfl z
  | none =>
    refine core (fun b => if b = a then some (.frz { cls := .type "list", data := .seq vs.toArray } (.lst (ns.map V.int))) else none) (fun b => ?_) (.inl (.inr ⟨{ cls := .type "list", data := .seq vs.toArray }, if_pos rfl⟩)) (fun b u z => ?_) (fun b z => ?_) fun _ => hk
    · by_cases hb : b = a
      · exact .inr ⟨_, _, if_pos hb⟩
      · exact .inl (if_neg hb)
    · by_cases hb : b = a
      · have z' := (if_pos hb).symm.trans z
        cases z'
        subst hb
        exact ⟨ha, by rw [List.length_map]; exact hl, vs, _, rv, ha⟩
      · have z' := (if_neg hb).symm.trans z
        cases z'
    · by_cases hb : b = a
      · exact hb
      · exact absurd (if_neg hb) z
end L2

namespace L2
open PySem PySem.Spec PyProof.Rows

/-- the goal that k_head leaves (case hc), from the law's promise. F gives the function object fd (K's own) once, then the promise over every base -/
theorem walk_of {l : PySem.W.OpenLaw} {n k : Nat} {q : Program} {loose : List Str} {XP : (Str → Option Value) → Heap → Prop} {YP : World → Heap → Prop} {d : DefRec} {K : Params → PySem.W.Frag} {CX : World → CXT} {sp : World → Sp} {x : Str}
    (hn : l.most = some n) (hn2 : n ≤ sizeLine) (hdf : d.params.defaults = []) (hr : Room k callerA)
    (hY : ∀ (w : World) (h : Heap), YP w h → (K w.params).In h)
    (F : ∀ (w : World) (mg : Str → Option Value) (fa : Addr) (h : Heap), (K w.params).In h → h.Ns mainGlobals mg → mg d.name = some (.ref fa) →
      ∃ fd : FuncData, (∀ (s : Shared) (u : Value), BindsTo s fd ⟨[u], []⟩ [(x, u)]) ∧
        ∀ base : Heap, (K w.params).In base → base.Ns mainGlobals mg → FnOk l.prog w (K w.params) mg base (CX w) k fa fd [x] (sp w))
    (hsp : ∀ (w : World) (H : Hp) (a : Addr) (ns : List Int), ns.length ≤ n → Only H → SqL (K w.params) H a (ns.map V.int) → sp w [.ref a] H (fun v _ => v = .bl true) fun _ _ _ => False)
    (hCX : ∀ (w : World) (H : Hp) (s : Shared) (e : Value) (s' : Shared), CX w [] H s (fun _ _ _ => False) e s' → False) :
    PySem.W.WalkO q loose XP YP l.row.toRowW d [] (fun f vs => PySem.call f vs) := by
  refine Att.attach_call hn hdf fun w s₀ s₁ mg mb fa o pm cd doc a vs ns G Y ho hd hcd hmg hobj hints hlen hg => ?_
  have KX := hY w _ Y
  obtain ⟨fd, hb, hF⟩ := F w mg fa _ KX G.T.g hmg
  exact law_call KX G.T.g G.T.b G.T.builtins G.T.nolimit hg hobj hints (Nat.le_trans hlen hn2) hr hF hb (fun H hO hS => hsp w H a ns hlen hO hS) fun H e s' => hCX w H s₁ e s'
end L2

/- THE LAST THEOREM (shape; LID, My.* are yours):
   My.Adr: a structure of the addresses that your layer names (classes, functions); My.Txt K t: a structure (Prop) of the equations over K;
   My.txt_mk : {K} {implicit addresses ..} (e1 : nsIn K mainGlobals "law" = some (some (.ref f))) (e2 : K.lookup f = some ⟨oc, od, .func (fnOf "law" "law" params body scope dV kV doc pm an cdv ct), sl⟩) (e3 : codeIn K cdv "law" = true) .. : ∃ t, My.Txt K t

set_option maxRecDepth 100000 in
set_option maxHeartbeats 0 in
theorem PySem.Challenge.cw_LID_holds : PySem.Challenge.rw_LID.Holds := by
  w_on; o_law; k_head; (case hw => w_witness2)
  k_fill
  refine L2.walk_of (l := PySem.Challenge.rw_LID) (n := 63) (k := 40) (x := "script") (CX := fun w => ..) (sp := fun _ => My.sp_law) rfl (by decide) rfl ⟨rfl, by decide, by decide⟩ (fun w h Y => PySem.W.kIn_of Y) ?F ?S ?C
  case F =>
    intro w mg fa h KX G hmg
    have T : ∃ t, My.Txt (L2.KOf KX) t := by
      dsimp only [L2.KOf]                          -- K must stand as «<heap const> w.params» for k_is
      refine' My.txt_mk ?e1 ?e2 ?e3 ..
      (case e1 => PySem.W.k_is)                    -- in the order: a name -> its address -> its object -> its parts
      (case e2 => PySem.W.k_is)
      ..
    obtain ⟨t, T⟩ := T
    have e0 := hmg.symm.trans (PySem.W.mg_of KX G T.law)
    cases e0                                       -- fa is the law's own address
    exact ⟨_, fun s u => .of_eq rfl, fun base kb nb => My.law_fn T kb nb⟩     -- if «.of_eq rfl» comes too early: refine' ⟨_, ?b, fun base kb nb => My.law_fn T kb nb⟩; exact fun s u => .of_eq rfl
  case S => exact fun w H a ns hl hO hS => ..
  case C => exact ..
(the tactic k_is has no namespace: write k_is) -/

/-! SHORT WORDS over the layer: a def of the text, its body, what a loop and a test want. -/
namespace L2
open PySem PySem.Spec PyProof.Rows

/-! ### the text by places -/
/-- the j-th statement of a class's body -/
def inClass (s : Stmt) (j : Nat) : Stmt := match s with
  | .ClassDef _ _ _ body _ _ _ _ _ _ _ => body.getD j (.Pass ⟨0, 0, 0, 0⟩)
  | _ => .Pass ⟨0, 0, 0, 0⟩
def defArgs (s : Stmt) : Arguments := match s with
  | .FunctionDef _ a _ _ _ _ _ _ _ _ => a
  | _ => { posonlyargs := [], args := [], vararg := none, kwonlyargs := [], kw_defaults := [], kwarg := none, defaults := [] }
def defBody (s : Stmt) : List Stmt := match s with
  | .FunctionDef _ _ b _ _ _ _ _ _ _ => b
  | _ => []
def defScope (s : Stmt) : Scope := match s with
  | .FunctionDef _ _ _ _ _ _ sc _ _ _ => sc
  | _ => { kind := .function, names := [], isGenerator := false, isCoroutine := false }

/-! ### no exception leaves a def -/
abbrev CX0 : CXT := fun _ _ _ _ _ _ => False
abbrev E0 : XK := fun _ _ _ => False
theorem pass0 {X : Cx} : Passes CX0 X E0 := fun _ _ _ _ _ _ _ h => h.elim

/-! ### a def (or method) of the text as it stands behind the top -/
structure Fun (K : PySem.W.Frag) (x qual : Str) (st : Stmt) (f : Addr) (fd : FuncData) : Prop where
  ex : ∃ (oc : Value) (od : Option Addr) (kV doc pm : Value) (an : Option Addr) (cdv ct : Value) (osl : Array (Option Value)),
    fd = PySem.W.fnOf x qual (defArgs st) (defBody st) (defScope st) .none kV doc pm an cdv ct ∧ K.lookup f = some ⟨oc, od, .func fd, osl⟩ ∧ PySem.W.codeIn K cdv qual = true
  kp : PySem.W.keepIn K (.ref f) = true
section
variable {P : Program} {w : World} {K : PySem.W.Frag} {mg : Str → Option Value} {base : Heap}
/-- THE RULE for a def: its body as a term of rules, and the reading of that term -/
theorem Fun.ok {x qual : Str} {st : Stmt} {f : Addr} {fd : FuncData} {N ps : List Str} {k : Nat} {sp : Sp} (F : Fun K x qual st f fd) (S : FnScope N ps (defScope st)) (len : ∀ vs H Q E, sp vs H Q E → vs.length = ps.length)
    (hbody : ∀ (cdv : Value) (A : Around) (outer : List Env) (s : Shared) (H : Hp) (vs : List V) (Q : VK) (E : XK), Room k (A.deeper (envOfC qual (defScope st) s.heap.objs.size f cdv)) → sp vs H Q E →
      ∃ t, PSs (cxOf CX0 P w K mg base N qual (defScope st) f cdv A outer s H E).nox (defBody st) t ∧ t { nx := fun _ H' => Q .non H', rt := Q } (start N vs) H) : FnOk P w K mg base CX0 (k + 1) f fd ps sp := by
  obtain ⟨oc, od, kV, doc, pm, an, cdv, ct, osl, rfl, lk, hcd⟩ := F.ex
  refine fn_of lk hcd S len fun A outer s H vs Q E hr hsp => ?_
  obtain ⟨t, h, q⟩ := hbody cdv A outer s H vs Q E hr hsp
  exact ⟨t, h.nox, q⟩
/-- how its arguments bind (no defaults): h is «fun _ _ _ _ _ _ us hl => match us, hl with | [_, _], _ => rfl», one _ a parameter -/
theorem Fun.binds {x qual : Str} {st : Stmt} {f : Addr} {fd : FuncData} {ps : List Str} (F : Fun K x qual st f fd)
    (h : ∀ (kV doc pm : Value) (an : Option Addr) (cdv ct : Value) (us : List Value), us.length = ps.length → bindArgs (PySem.W.fnOf x qual (defArgs st) (defBody st) (defScope st) .none kV doc pm an cdv ct) ⟨us, []⟩ = pure (ps.zip us)) : Binds K fd ps [] := by
  obtain ⟨oc, od, kV, doc, pm, an, cdv, ct, osl, rfl, lk, hcd⟩ := F.ex
  exact .all (h kV doc pm an cdv ct)
theorem fun_mk {x qual : Str} {st : Stmt} {f : Addr} {oc : Value} {od an : Option Addr} {osl : Array (Option Value)} {kV doc pm cdv ct : Value} (l : K.lookup f = some ⟨oc, od, .func (PySem.W.fnOf x qual (defArgs st) (defBody st) (defScope st) .none kV doc pm an cdv ct), osl⟩)
    (c : PySem.W.codeIn K cdv qual = true) (k : PySem.W.keepIn K (.ref f) = true) : Fun K x qual st f (PySem.W.fnOf x qual (defArgs st) (defBody st) (defScope st) .none kV doc pm an cdv ct) := ⟨⟨oc, od, kV, doc, pm, an, cdv, ct, osl, rfl, l, c⟩, k⟩
end
theorem hu_of {A : Around} {k : Nat} (hr : Room k A) : A.units + 1 < cLine := Nat.lt_of_le_of_lt (Nat.add_le_add_left (by decide : 1 ≤ 64) _) hr.units
theorem small1000 {n : Nat} (h : n ≤ 1000) : n < sizeLine := Nat.lt_of_le_of_lt h (by decide)

/-! ### expressions in short: the name that stands in the i-th slot -/
section
variable {X : Cx}
theorem pv (i : Nat) {x : Str} {pos : Pos} (hN : X.N[i]? = some x := by rfl) (hv : Vis X.env.scope x := by first | exact Or.inl rfl | exact Or.inr (Or.inl rfl) | exact Or.inr (Or.inr rfl)) (hd : (x == ("__debug__" : Str)) = false := by decide)
    (hcd : (x == ("__classdict__" : Str)) = false := by decide) : PE X (.Name x pos) (tVar i) := pe_var hN hv hd hcd
end

/-! ### tests -/
theorem iteF {A B : Prop} (h : B) : if false = true then A else B := by
  rw [if_neg Bool.false_ne_true]
  exact h
theorem iteT {A B : Prop} (h : A) : if true = true then A else B := by
  rw [if_pos rfl]
  exact h
theorem ite2 {c A B : Prop} [Decidable c] (h1 : c → A) (h2 : ¬ c → B) : if c then A else B := by
  by_cases h : c
  · rw [if_pos h]
    exact h1 h
  · rw [if_neg h]
    exact h2 h

/-! ### heaps -/
/-- all that was tracked is as it was -/
def Same (H H' : Hp) : Prop := ∀ b o, H b = some o → H' b = some o
theorem Same.refl (H : Hp) : Same H H := fun _ _ h => h
theorem Same.trans {H H1 H2 : Hp} (a : Same H H1) (b : Same H1 H2) : Same H H2 := fun c o h => b c o (a c o h)
theorem Same.free {H H' : Hp} (e : Same H H') {l : Addr} (h : H' l = Option.none) : H l = Option.none := by
  cases q : H l with
  | none => rfl
  | some o =>
    rw [e l o q] at h
    cases h
theorem Same.seq {K : PySem.W.Frag} {H H' : Hp} {a : Addr} {xs : List V} (e : Same H H') (h : SqL K H a xs) : SqL K H' a xs := by
  rcases h with (h | ⟨o, h⟩) | h
  · exact .inl (.inl (e _ _ h))
  · exact .inl (.inr ⟨o, e _ _ h⟩)
  · exact .inr h

end L2

namespace L2
open PySem PySem.Spec PyProof.Rows

/-! ### a list comprehension of one clause, any target, at most one test -/
section
variable {prog : Program} {w : World} {A : Around} {R : Result → Shared → Prop} {s : Shared}
theorem compLoop_gen {elt target iter : Expr} {ifs : List Expr} {scope : Scope} {pos : Pos} {it acc : Value} {env : Env} (I : Nat → Shared → Prop)
    (turn : ∀ n s, I n s → wpAny (model prog w) A (pyNext it) (fun r s₁ => match r with
      | none => R (.ok .next) s₁
      | some v => wpAny (model prog w) A (letOwnedTupleGo target it v) (fun _ s₁' => wpAny (model prog w) A (assign target env v) (fun _ s₂ =>
          wpAny (model prog w) A (forIn ifs true fun c r => if r = true then do let ok ← isTrue c env (eval c env); pure (ForInStep.yield ok) else pure (ForInStep.yield r)) (fun ok s₃ =>
            if ok = true then wpAny (model prog w) A (eval elt env) (fun x s₄ =>
              wpAny (model prog w) A (call (.builtin "list.append") [acc, x]) (fun _ s₅ => ∃ m, m < n ∧ I m s₅) (fun _ _ => False) s₄) (fun _ _ => False) s₃
            else ∃ m, m < n ∧ I m s₃) (fun _ _ => False) s₂) (fun _ _ => False) s₁') (fun _ _ => False) s₁) (fun _ _ => False) s)
    (n : Nat) (h : I n s) :
    codeAny (model prog w) A (.compLoop (.ListComp elt [⟨target, iter, ifs, 0⟩] scope pos) 0 it acc env) R s := by
  have nv : ∀ {α : Type} {t : Sem α} {Q : α → Shared → Prop} {E' : Value → Shared → Prop} {s' : Shared}, wpAny (model prog w) A t Q (fun _ _ => False) s' → wpAny (model prog w) A t Q E' s' :=
    fun h => wpAny_mono h (fun _ _ q => q) fun _ _ z => z.elim
  refine codeAny_loop rfl I (fun n s hI => ?_) n h
  show wpAny _ A ((compTurn (.ListComp elt [⟨target, iter, ifs, 0⟩] scope pos) 0 it acc env).onRaise (fun x => do noteFrame x env; theTreesLotGoes x)) _ _ s
  refine wpAny_noted (nv ?_)
  rw [compTurn_list]
  refine wpAny_bind (wpAny_standAt (wpAny_bind (thn (turn n s hI) (fun r s₁ h₁ => ?_))))
  cases r with
  | none => exact wpAny_pure h₁
  | some v =>
    refine wpAny_bind (thn h₁ (fun _ s₁' h₁' => ?_))
    refine wpAny_bind (thn h₁' (fun _ s₂ h₂ => wpAny_bind (thn h₂ (fun ok s₃ h₃ => ?_))))
    cases ok with
    | false => exact wpAny_pure ⟨rfl, h₃⟩
    | true =>
      exact wpAny_bind (wpAny_bind (thn h₃ (fun x s₄ h₄ => wpAny_bind (thn h₄ (fun _ s₅ h₅ => wpAny_pure (wpAny_pure ⟨rfl, h₅⟩))))))
end

/-- the context of a comprehension's block: N' its names (its own first, then those of the def that it names, at the places js) -/
def cxC (X : Cx) (N' : List Str) (scope : Scope) (cl : List (Str × Addr)) (s3 : Shared) (H3 : Hp) (ex : List Addr) : Cx where
  prog := X.prog
  w := X.w
  K := X.K
  mg := X.mg
  base := X.base
  A := X.A
  N := N'
  s₀ := s3
  H₀ := H3
  env := compEnvC scope cl s3.heap.objs.size X.env
  outer := X.stack
  stack := X.stack
  ex := ex
  fn := fun _ => false
  calm := X.calm
  pn := []
  xe := fun _ _ => False

/-- what stands for the block's names at its beginning -/
def capσ (n : Nat) (js : List Nat) (σ : St) : St := List.replicate n none ++ js.map fun j => (σ[j]?).join

/-- the block's names: n of its own, then captured ones -/
structure Caps (X : Cx) (scope : Scope) (cl : List (Str × Addr)) (N' : List Str) (n : Nat) (js : List Nat) : Prop where
  clos : closureFor scope X.env = pure cl
  kind : scope.kind = .function
  nocell : ∀ y ∈ scope.names, y.2 ≠ .cell
  names : ∀ y ∈ scope.names, y.2 = .local → scope.names.lookup y.1 = some .local
  len : N'.length = n + js.length
  sub : ∀ x c, cl.lookup x = some c → X.env.cells.lookup x = some c
  has : ∀ x, scope.names.lookup x = some .free → ∃ c, cl.lookup x = some c
  cap : ∀ k j, js[k]? = some j → ∃ x, N'[n + k]? = some x ∧ X.N[j]? = some x ∧ scope.names.lookup x = some .free ∧ (X.env.kindOf x = some .cell ∨ X.env.kindOf x = some .free)

theorem lookup_relabel {env : Env} : ∀ {names : List (Str × NameKind)} {x : Str} {k : NameKind}, (∀ y ∈ names, y.2 ≠ .cell) →
    (names.map fun (n, k) => if (k == NameKind.free && env.scope.kind == .function && env.kindOf n == some .cell) then (n, NameKind.cell) else (n, k)).lookup x = some k → k = .cell ∨ k = .free → names.lookup x = some .free
  | [], _, _, _, h, _ => by simp at h
  | (n, k') :: r, x, k, hc, h, hk => by
    have ih := @lookup_relabel env r x k (fun y hy => hc y (List.mem_cons_of_mem _ hy))
    have h' : List.lookup x ((if (k' == NameKind.free && env.scope.kind == .function && env.kindOf n == some .cell) = true then (n, NameKind.cell) else (n, k')) :: (r.map fun (n, k) => if (k == NameKind.free && env.scope.kind == .function && env.kindOf n == some .cell) then (n, NameKind.cell) else (n, k))) = some k := h
    have hn : k' ≠ .cell := hc (n, k') List.mem_cons_self
    by_cases hcond : (k' == NameKind.free && env.scope.kind == .function && env.kindOf n == some .cell) = true
    · rw [if_pos hcond] at h'
      have hf : k' = .free := by
        simp only [Bool.and_eq_true, beq_iff_eq] at hcond
        exact hcond.1.1
      subst hf
      cases hx : x == n with
      | true => simp [List.lookup_cons, hx]
      | false =>
        simp only [List.lookup_cons, hx] at h' ⊢
        exact ih h' hk
    · rw [if_neg hcond] at h'
      cases hx : x == n with
      | true =>
        simp only [List.lookup_cons, hx, Option.some.injEq] at h' ⊢
        subst h'
        rcases hk with z | z
        · exact absurd z hn
        · exact z
      | false =>
        simp only [List.lookup_cons, hx] at h' ⊢
        exact ih h' hk

section
variable {X : Cx} {pins : List (Addr × Obj)} {σ : St} {H : Hp} {s : Shared}
theorem Caps.inner {scope : Scope} {cl : List (Str × Addr)} {N' : List Str} {n : Nat} {js : List Nat} (c : Caps X scope cl N' n js) {x : Str} (h : (compEnvC scope cl 0 X.env).kindOf x = some .cell ∨ (compEnvC scope cl 0 X.env).kindOf x = some .free) :
    scope.names.lookup x = some .free := by
  rcases h with h | h
  · exact lookup_relabel c.nocell h (.inl rfl)
  · exact lookup_relabel c.nocell h (.inr rfl)

theorem lookup_relabel_free {env : Env} : ∀ {names : List (Str × NameKind)} {x : Str}, names.lookup x = some .free →
    (names.map fun (n, k) => if (k == NameKind.free && env.scope.kind == .function && env.kindOf n == some .cell) then (n, NameKind.cell) else (n, k)).lookup x = some .cell ∨
    (names.map fun (n, k) => if (k == NameKind.free && env.scope.kind == .function && env.kindOf n == some .cell) then (n, NameKind.cell) else (n, k)).lookup x = some .free
  | [], _, h => by simp at h
  | (n, k) :: r, x, h => by
    have ih := @lookup_relabel_free env r x
    show List.lookup x ((if (k == NameKind.free && env.scope.kind == .function && env.kindOf n == some .cell) = true then (n, NameKind.cell) else (n, k)) :: _) = _ ∨ List.lookup x ((if (k == NameKind.free && env.scope.kind == .function && env.kindOf n == some .cell) = true then (n, NameKind.cell) else (n, k)) :: _) = _
    cases hx : x == n with
    | true =>
      simp only [List.lookup_cons, hx, Option.some.injEq] at h
      subst h
      split <;> simp [List.lookup_cons, hx]
    | false =>
      simp only [List.lookup_cons, hx] at h
      split <;> (simp only [List.lookup_cons, hx]; exact ih h)

/-- at the block's entry -/
theorem inv_comp {scope : Scope} {cl : List (Str × Addr)} {N' : List Str} {n : Nat} {js : List Nat} {fp : List Addr} {h₁ : Heap} {tk : Nat} (c : Caps X scope cl N' n js) (I : Inv X pins σ H s)
    (f : ∀ b ∈ fp, FpOk X pins H b) (fo : ∀ b ∈ fp, b < s.heap.objs.size) (hns : ∃ m, h₁.Ns s.heap.objs.size m) (hk : ∀ b o, s.heap.get? b = some o → h₁.get? b = some o) :
    Inv (cxC X N' scope cl s H fp) [] (capσ n js σ) H { s with heap := h₁, toks := tk } := by
  obtain ⟨m, hns⟩ := hns
  refine ⟨⟨I.ok.mod, c.kind, I.ok.glob, I.ok.blt, Nat.le_refl _, fun x y a h1 h2 => I.ok.inj x y a (c.sub x a h1) (c.sub y a h2), fun x hx => c.has x (c.inner hx), fun x a h => (nomatch h), I.ok.hd, I.ok.frames, .inl rfl,
    fun b hb => ⟨Nat.ne_of_lt (fo b hb), fun x a h => (f b hb).2.2.2.2.1 x a (c.sub x a h)⟩, I.bs, Nat.le_trans I.ok.bsz I.sz, fun b o e hb => ?_, fun b hb z => ?_, I.stack, I.stkFree⟩,
    rfl, I.bare, Un.kept hk, ⟨m, hns, fun i x v h1 h2 h3 => ?_⟩, fun x a h => ?_, I.hok.fresh (Nat.le_refl _), fun x a h => I.freeC x a (c.sub x a h), fun p hp => absurd (show p ∈ ([] : List (Addr × Obj)) from hp) (by simp), I.hok.kept hk, ?_⟩
  · rcases (f b hb).2.2.2.1 with z | z
    · exact I.ok.noex b o e z
    · exact absurd (Nat.lt_of_lt_of_le (Heap.lt_size e) (Nat.le_trans I.ok.bsz z)) (Nat.lt_irrefl _)
  · rcases List.mem_cons.mp (I.stkSub b z) with q | q
    · exact (f b hb).2.1 q
    · exact (f b hb).2.2.1 q
  · -- a captured name
    unfold capσ at h2
    by_cases hi : i < n
    · rw [List.getElem?_append_left (by simpa using hi), List.getElem?_replicate] at h2
      rw [if_pos hi] at h2
      cases h2
    · rw [List.getElem?_append_right (by simpa using hi), List.length_replicate, List.getElem?_map] at h2
      cases e : js[i - n]? with
      | none => rw [e] at h2; cases h2
      | some j =>
        rw [e] at h2
        have h2' : (σ[j]?).join = some v := Option.some.inj h2
        have hj : σ[j]? = some (some v) := by
          cases q : σ[j]? with
          | none => rw [q] at h2'; cases h2'
          | some o => rw [q] at h2'; exact congrArg some h2'
        obtain ⟨y, e1, e2, e3, e4⟩ := c.cap (i - n) j e
        have hin : n + (i - n) = i := by omega
        rw [hin] at e1
        have h1' : N'[i]? = some x := h1
        rw [e1] at h1'
        cases h1'
        obtain ⟨m0, hn0, hl0⟩ := I.loc
        have vis : Vis X.env.scope x := by
          rcases e4 with z | z
          · exact .inr (.inl z)
          · exact .inr (.inr z)
        obtain ⟨u, r, l⟩ := hl0 j x v e2 hj vis
        refine ⟨u, r, .inr ⟨?_, ?_⟩⟩
        · exact lookup_relabel_free (env := X.env) e3
        · rcases l with ⟨k, _⟩ | ⟨_, a, ea, ha⟩
          · rcases e4 with z | z
            · rw [z] at k; cases k
            · rw [z] at k; cases k
          · obtain ⟨a', ea'⟩ := c.has x e3
            have := c.sub x a' ea'
            rw [ea] at this
            cases this
            refine ⟨a, ea', ?_⟩
            obtain ⟨o, ho, hd⟩ := ha
            exact ⟨o, hk _ _ ho, hd⟩
  · obtain ⟨v, o, ho, hd⟩ := I.cell x a (c.sub x a h)
    exact ⟨v, o, hk _ _ ho, hd⟩
  · show (capσ n js σ).length = N'.length
    unfold capσ
    rw [List.length_append, List.length_replicate, List.length_map, c.len]

/-- behind the block: the def's state again -/
theorem comp_out {scope : Scope} {cl : List (Str × Addr)} {N' : List Str} {fp : List Addr} {σ' : St} {H' : Hp} {s' : Shared} (I : Inv X pins σ H s) (f : ∀ b ∈ fp, FpOk X pins H b)
    (J : Inv (cxC X N' scope cl s H fp) [] σ' H' s') : Inv X pins σ H' s' :=
  I.call' (ch := fp) J.os J.base J.hok J.bare fun b hb => ⟨(f b hb).2.2.2.1, (f b hb).2.1, (f b hb).2.2.2.2.1, (f b hb).2.2.2.2.2⟩
/-- the block's own namespace changes, or goes -/
theorem comp_gone {σ' : St} {H' : Hp} {s' : Shared} {h' : Heap} (I : Inv X pins σ H s) (J : Inv X pins σ' H' s') (hC : H' s.heap.objs.size = none) (hs : Heap.SameBut s.heap.objs.size s'.heap h') : Inv X pins σ' H' { s' with heap := h' } := by
  refine J.turned (t' := s'.toks) (fun b o hb e => (hs.2 b hb).trans e) hC (Nat.ne_of_gt I.lt) (.inr I.sz) (fun x c e z => ?_) fun p hp z => ?_
  · obtain ⟨v, q⟩ := I.cell x c e
    exact absurd q.lt (by rw [z]; exact Nat.lt_irrefl _)
  · exact absurd (Heap.lt_size (I.pin p hp).1) (by rw [z]; exact Nat.lt_irrefl _)
end

/-- the tests of a clause -/
def PTS (X : Cx) (ifs : List Expr) (tt : TT) : Prop :=
  ∀ (pins : List (Addr × Obj)) (s : Shared) (σ : St) (H : Hp) (Q : Bool → Hp → Prop), Inv X pins σ H s → tt σ H Q →
    wpAny (model X.prog X.w) X.A (forIn ifs true fun c r => if r = true then do let ok ← isTrue c X.env (eval c X.env); pure (ForInStep.yield ok) else pure (ForInStep.yield r)) (TP X pins σ Q) X.xe s
def tYes : TT := fun _ H Q => Q true H
theorem pts_nil {X : Cx} : PTS X [] tYes := fun _ _ _ H _ I h => wpAny_tests_nil ⟨H, I, h⟩
theorem pts_one {X : Cx} {c : Expr} {tt : TT} (h : PT X c tt) : PTS X [c] tt := fun pins s σ H Q I q => wpAny_tests_one (h pins s σ H Q I q)

def tComp (κ : St → St) (wi : TI) (g : TG) (tt : TT) (te : TE) : TE := fun σ H Q => wi σ H fun J H1 => ∀ D, H1 D = none → ∃ W : Nat → Nat → St → Hp → Prop, (∃ m, W 0 m (κ σ) (upd H1 D (.lst []))) ∧ ∀ i m σ' H', W i m σ' H' →
  (J.stop i H' ∧ Q (.ref D) H') ∨ (J.go i H' ∧ ∃ (Ay : V → St → Hp → Prop) (An : St → Hp → Prop), (∀ y σ3 H5, Ay y σ3 H5 → ∃ ys, H5 D = some (.lst ys) ∧ ys.length < sizeLine ∧ ∃ m', m' < m ∧ W (i + 1) m' σ3 (upd H5 D (.lst (ys ++ [y])))) ∧ (∀ σ3 H4, An σ3 H4 → ∃ m', m' < m ∧ W (i + 1) m' σ3 H4) ∧
    ∀ x H2, J.yld i H' x H2 → g x σ' H2 fun σ3 H3 => tt σ3 H3 fun ok H4 => if ok = true then te σ3 H4 (fun y H5 => Ay y σ3 H5) else An σ3 H4)

section
variable {X : Cx} {pins : List (Addr × Obj)} {σ : St} {H : Hp} {s : Shared}
theorem comp_run {scope : Scope} {cl : List (Str × Addr)} {N' : List Str} {n : Nat} {js : List Nat} {tg iter elt : Expr} {ifs : List Expr} {pos : Pos} {g : TG} {tt : TT} {te : TE} {E : Value → Shared → Prop}
    {RR : Value → Addr → Result → Shared → Prop} {it : Addr} {fp : List Addr} {tn : Nat → Heap → Prop} {J : It} {W : Addr → Nat → Nat → St → Hp → Prop} {Fi : Addr → Hp → Prop}
    (c : Caps X scope cl N' n js) (hc : X.calm = true)
    (hin : ∀ s3 H3 fp, PG (cxC X N' scope cl s3 H3 fp) tg g ∧ PTS (cxC X N' scope cl s3 H3 fp) ifs tt ∧ PE (cxC X N' scope cl s3 H3 fp) elt te)
    (I : Inv X pins σ H s) (T : Turn X.prog X.w X.K tg J fp it tn) (st : tn 0 s.heap) (f : ∀ b ∈ fp, FpOk X pins H b)
    (w0 : ∀ D, H D = none → ∃ m, W D 0 m (capσ n js σ) (upd H D (.lst [])))
    (turn : ∀ D, H D = none → ∀ i m σ' H', W D i m σ' H' → (J.stop i H' ∧ Fi D H') ∨ (J.go i H' ∧ ∃ (Ay : V → St → Hp → Prop) (An : St → Hp → Prop), (∀ y σ3 H5, Ay y σ3 H5 → ∃ ys, H5 D = some (.lst ys) ∧ ys.length < sizeLine ∧ ∃ m', m' < m ∧ W D (i + 1) m' σ3 (upd H5 D (.lst (ys ++ [y])))) ∧ (∀ σ3 H4, An σ3 H4 → ∃ m', m' < m ∧ W D (i + 1) m' σ3 H4) ∧
      ∀ x H2, J.yld i H' x H2 → g x σ' H2 fun σ3 H3 => tt σ3 H3 fun ok H4 => if ok = true then te σ3 H4 (fun y H5 => Ay y σ3 H5) else An σ3 H4))
    (hR : ∀ (D : Addr) (s3 : Shared) (H3 H' : Hp) (s' : Shared), Inv X pins σ H3 s3 → Inv X pins σ H' s' → (∃ m, s'.heap.Ns s3.heap.objs.size m) → H' s3.heap.objs.size = none → Fi D H' → RR (.ref D) s3.heap.objs.size (.ok .next) s') :
    wpAny (model X.prog X.w) X.A (newList []) (fun acc s₃ => wpAny (model X.prog X.w) X.A (newFunctionEnv scope X.env.globals cl [] X.env.qual none .none (some X.env)) (fun cenv s₄ =>
      codeAny (model X.prog X.w) X.A (.compStart (.ListComp elt [⟨tg, iter, ifs, 0⟩] scope pos) 0 (.ref it) acc { cenv with scope := relabel scope X.env }) (RR acc cenv.locals) s₄) E s₃) E s := by
  have hD : H s.heap.objs.size = none := I.fresh
  have I3 := I.lnew (ys := []) (its := []) (t' := s.toks) .nil (Nat.zero_le _)
  refine wpAny_newObj_type ?_
  have f3 : ∀ b ∈ fp, FpOk X pins (upd H s.heap.objs.size (.lst [])) b := fun b hb => by
    obtain ⟨o, e, _⟩ := T.obj _ _ st b hb
    exact ⟨by rw [upd_ne (Nat.ne_of_lt (Heap.lt_size e))]; exact (f b hb).1, (f b hb).2⟩
  generalize hs3 : ({ s with heap := s.heap.push { cls := .type "list", data := .seq ([] : List Value).toArray }, toks := s.toks } : Shared) = s3 at I3
  have hh3 : s.heap.push { cls := .type "list", data := .seq ([] : List Value).toArray } = s3.heap := by rw [← hs3]
  have k3 : ∀ b o, s.heap.get? b = some o → s3.heap.get? b = some o := fun b o e => by rw [← hh3]; exact Heap.get?_push_of_some _ e
  have fo : ∀ b ∈ fp, b < s3.heap.objs.size := fun b hb => by
    obtain ⟨o, e, _⟩ := T.obj _ _ st b hb
    exact Heap.lt_size (k3 b o e)
  refine wpAny_newFunctionEnv c.nocell (by intro y hy; simp at hy) (fun h₁ hns₁ hsb₁ => ?_) c.kind
  have k4 : ∀ b o, s3.heap.get? b = some o → h₁.get? b = some o := fun b o e => hsb₁.extBut b o (Nat.ne_of_lt (Heap.lt_size e)) (Heap.get?_push_of_some _ e)
  have I4 := inv_comp (h₁ := h₁) (tk := s3.toks + ([] : List (Str × Value)).length) c I3 f3 fo ⟨_, hns₁⟩ k4
  have st4 : tn 0 h₁ := T.keep _ _ _ st fun b _ o e => k4 b o (k3 b o e)
  have stat : ∀ {H' : Hp}, (∀ b ∈ fp, H' b = none) → ∀ b ∈ fp, FpOk (cxC X N' scope cl s3 (upd H s.heap.objs.size (.lst [])) fp) [] H' b := fun hn b hb =>
    ⟨hn b hb, Nat.ne_of_lt (fo b hb), I4.ok.exfs b hb, .inl hb, fun x a h => (f b hb).2.2.2.2.1 x a (c.sub x a h), fun p hp => absurd (show p ∈ ([] : List (Addr × Obj)) from hp) (by simp)⟩
  obtain ⟨hg, htt, hel⟩ := hin s3 (upd H s.heap.objs.size (.lst [])) fp
  have tr := turn _ hD
  have loop : codeAny (model X.prog X.w) X.A (.compLoop (.ListComp elt [⟨tg, iter, ifs, 0⟩] scope pos) 0 (.ref it) (.ref s.heap.objs.size) (compEnvC scope cl s3.heap.objs.size X.env))
      (RR (.ref s.heap.objs.size) s3.heap.objs.size) { s3 with heap := h₁, toks := s3.toks + ([] : List (Str × Value)).length } := by
    obtain ⟨m0, w0⟩ := w0 _ hD
    refine compLoop_gen (fun m s' => ∃ i σ' H', Inv (cxC X N' scope cl s3 (upd H s.heap.objs.size (.lst [])) fp) [] σ' H' s' ∧ tn i s'.heap ∧ (∀ b ∈ fp, H' b = none) ∧ W s.heap.objs.size i m σ' H') ?_ m0 ⟨0, _, _, I4, st4, fun b hb => (f3 b hb).1, w0⟩
    rintro m s5 ⟨i, σ5, H5, I5, st5, fr5, w5⟩
    rcases tr i m σ5 H5 w5 with ⟨stop, qF⟩ | ⟨go, Ay, An, hAy, hAn, step⟩
    · refine thn (T.done (cxC X N' scope cl s3 (upd H s.heap.objs.size (.lst [])) fp) rfl rfl rfl hc i [] s5 σ5 H5 (fun _ _ => False) I5 (stat fr5) st5 stop) fun r s6 ⟨hr, I6⟩ => ?_
      subst hr
      obtain ⟨m6, hn6, _⟩ := I6.loc
      exact hR _ s3 _ H5 s6 I3 (comp_out I3 f3 I6) ⟨m6, hn6⟩ I6.free qF
    · refine thn (T.item (cxC X N' scope cl s3 (upd H s.heap.objs.size (.lst [])) fp) rfl rfl rfl hc i [] s5 σ5 H5 (fun _ _ => False) I5 (stat fr5) st5 go) fun r s6 ⟨u, hr, h6⟩ => ?_
      subst hr
      refine thn h6 fun _ s7 ⟨x, H7, I7, r7, y7, st7, fr7⟩ => ?_
      have I7' := I7.pinned (stat fr7) (T.obj _ _ st7)
      refine thn (hg _ s7 σ5 H7 x u _ I7' r7 (step x H7 y7)) fun _ s8 ⟨σ8, H8, I8, q8⟩ => ?_
      refine thn (htt _ s8 σ8 H8 _ I8 q8) fun ok s9 ⟨H9, I9, q9⟩ => ?_
      have back : ∀ {H' : Hp} {s' : Shared}, Inv (cxC X N' scope cl s3 (upd H s.heap.objs.size (.lst [])) fp) ([] ++ pinsAt fp s7.heap) σ8 H' s' → (∃ m', m' < m ∧ W s.heap.objs.size (i + 1) m' σ8 H') →
          ∃ m', m' < m ∧ ∃ i σ' H', Inv (cxC X N' scope cl s3 (upd H s.heap.objs.size (.lst [])) fp) [] σ' H' s' ∧ tn i s'.heap ∧ (∀ b ∈ fp, H' b = none) ∧ W s.heap.objs.size i m' σ' H' := fun {H' s'} J' w' => by
        obtain ⟨m', hm, w'⟩ := w'
        refine ⟨m', hm, i + 1, σ8, H', J'.unpinned, T.keep _ _ _ st7 fun b hb o e => (J'.pin (b, o) (List.mem_append_right _ (List.mem_append_right _ (mem_pinsAt hb e)))).1, fun b hb => ?_, w'⟩
        obtain ⟨o, e, d⟩ := T.obj _ _ st7 b hb
        exact (J'.pin (b, o) (List.mem_append_right _ (List.mem_append_right _ (mem_pinsAt hb e)))).2.1
      cases ok with
      | false =>
        rw [if_neg (by decide)] at q9 ⊢
        exact back I9 (hAn _ _ q9)
      | true =>
        rw [if_pos rfl] at q9 ⊢
        refine thn (hel _ s9 σ8 H9 _ I9 q9) fun yv s10 ⟨y, H10, I10, r10, qA⟩ => ?_
        obtain ⟨ys, e10, z10, q10⟩ := hAy _ _ _ qA
        obtain ⟨z, its, nn, r, hl, e⟩ := I10.lstM e10
        refine call_meets F.slot_list_append ⟨_, e, rfl⟩ F.entry_list_append (F.args_list_append_2 _ _) (PySem.list_append _ its.toArray nn yv (by rw [List.size_toArray]; omega)) ⟨e, ?_⟩
        refine back (I10.lset (its' := its ++ [yv]) e10 e (by simp) (r.append (.cons r10 .nil)) ?_) q10
        rw [List.length_append, List.length_singleton]
        omega
  exact codeAny_compStart_list loop (T.self _ 0 _ _ _ st4 loop)

/-- [elt for tg in iter], [elt for tg in iter if test] -/
theorem pe_comp {scope : Scope} {cl : List (Str × Addr)} {N' : List Str} {n : Nat} {js : List Nat} {tg iter elt : Expr} {ifs : List Expr} {pos : Pos} {wi : TI} {g : TG} {tt : TT} {te : TE}
    (c : Caps X scope cl N' n js) (hc : X.calm = true) (hi : PI X tg iter wi)
    (hin : ∀ s3 H3 fp, PG (cxC X N' scope cl s3 H3 fp) tg g ∧ PTS (cxC X N' scope cl s3 H3 fp) ifs tt ∧ PE (cxC X N' scope cl s3 H3 fp) elt te)
    (hs : ∀ x, foldedSetIterable iter X.env x = pure x := by intro _; rfl) : PE X (.ListComp elt [⟨tg, iter, ifs, 0⟩] scope pos) (tComp (capσ n js) wi g tt te) := by
  intro pins s σ H Q I h
  rw [eval_ListComp]
  refine wpAny_comprehension_free (use := none) rfl hs c.clos c.kind c.names (thn (hi pins s σ H _ I h) fun v s1 h1 => thn h1 fun itv s2 h2 => ?_)
  obtain ⟨it, fp, tn, J, H2, e, I2, T, st2, f2, h2⟩ := h2
  subst e
  have h2' : ∃ W : Addr → Nat → Nat → St → Hp → Prop, (∀ D, H2 D = none → ∃ m, W D 0 m (capσ n js σ) (upd H2 D (.lst []))) ∧ ∀ D, H2 D = none → ∀ i m σ' H', W D i m σ' H' →
      (J.stop i H' ∧ Q (.ref D) H') ∨ (J.go i H' ∧ ∃ (Ay : V → St → Hp → Prop) (An : St → Hp → Prop), (∀ y σ3 H5, Ay y σ3 H5 → ∃ ys, H5 D = some (.lst ys) ∧ ys.length < sizeLine ∧ ∃ m', m' < m ∧ W D (i + 1) m' σ3 (upd H5 D (.lst (ys ++ [y])))) ∧ (∀ σ3 H4, An σ3 H4 → ∃ m', m' < m ∧ W D (i + 1) m' σ3 H4) ∧
        ∀ x H2, J.yld i H' x H2 → g x σ' H2 fun σ3 H3 => tt σ3 H3 fun ok H4 => if ok = true then te σ3 H4 (fun y H5 => Ay y σ3 H5) else An σ3 H4) := by
    refine ⟨fun D => if hD : H2 D = none then (h2 D hD).choose else fun _ _ _ _ => False, fun D hD => ?_, fun D hD => ?_⟩
    · simp only [hD, dite_true]
      exact (h2 D hD).choose_spec.1
    · simp only [hD, dite_true]
      exact (h2 D hD).choose_spec.2
  obtain ⟨W, w0, turn⟩ := h2'
  refine comp_run (RR := fun acc C => compPost (model X.prog X.w) X.A X.xe none (EP X pins σ Q) acc C) (Fi := fun D H' => Q (.ref D) H') (W := W) c hc hin I2 T st2 f2 w0 turn ?_
  intro D s3 H3 H' s' I3 I' ⟨m, hn⟩ hC q
  exact ⟨m, hn, fun h' hs' => ⟨.ref D, H', comp_gone I3 I' hC hs', rfl, q⟩⟩
/-- y = [elt for tg in iter] on one line, y a plain local: the stores exchanged -/
theorem ps_comp {scope : Scope} {cl : List (Str × Addr)} {N' : List Str} {n : Nat} {js : List Nat} {tg iter elt : Expr} {ifs : List Expr} {pos spos py : Pos} {wi : TI} {g : TG} {tt : TT} {te : TE} {i0 : Nat} {y : Str}
    (hN : X.N.Nodup) (hi' : X.N[i0]? = some y) (hx : X.env.scope.names.lookup y = some .local)
    (hsw : swapsWith (.ListComp elt [⟨tg, iter, ifs, 0⟩] scope pos) (some (.Name y py)) spos.line X.env = pure true)
    (c : Caps X scope cl N' n js) (hc : X.calm = true) (hi : PI X tg iter wi)
    (hin : ∀ s3 H3 fp, PG (cxC X N' scope cl s3 H3 fp) tg g ∧ PTS (cxC X N' scope cl s3 H3 fp) ifs tt ∧ PE (cxC X N' scope cl s3 H3 fp) elt te)
    (hs : ∀ x, foldedSetIterable iter X.env x = pure x := by intro _; rfl) : PS X (.Assign [.Name y py] (.ListComp elt [⟨tg, iter, ifs, 0⟩] scope pos) spos) (tAsg (tComp (capσ n js) wi g tt te) (gName i0)) := by
  intro pins s σ H D0 I h
  rw [exec_Assign_Name_used _ _ _ _ hsw]
  refine wpAny_bind (wpAny_standAt (wpAny_bind ?_))
  show wpAny _ X.A (do let _ ← comprehension (.ListComp elt [⟨tg, iter, ifs, 0⟩] scope pos) scope X.env _ (newList []) false (eval iter X.env) (some (assign (.Name y py) X.env))) _ _ s
  refine wpAny_bind (thn (wpAny_comprehension_free (use := some (assign (.Name y py) X.env)) (Q := fun _ s' => SP X pins D0 .next s') rfl hs c.clos c.kind c.names (thn (hi pins s σ H _ I h) fun v s1 h1 => thn h1 fun itv s2 h2 => ?_))
    fun _ s' hq => wpAny_pure (wpAny_pure hq))
  obtain ⟨it, fp, tn, J, H2, e, I2, T, st2, f2, h2⟩ := h2
  subst e
  have h2' : ∃ W : Addr → Nat → Nat → St → Hp → Prop, (∀ D, H2 D = none → ∃ m, W D 0 m (capσ n js σ) (upd H2 D (.lst []))) ∧ ∀ D, H2 D = none → ∀ i m σ' H', W D i m σ' H' →
      (J.stop i H' ∧ D0.nx (σ.set i0 (some (.ref D))) H') ∨ (J.go i H' ∧ ∃ (Ay : V → St → Hp → Prop) (An : St → Hp → Prop), (∀ y σ3 H5, Ay y σ3 H5 → ∃ ys, H5 D = some (.lst ys) ∧ ys.length < sizeLine ∧ ∃ m', m' < m ∧ W D (i + 1) m' σ3 (upd H5 D (.lst (ys ++ [y])))) ∧ (∀ σ3 H4, An σ3 H4 → ∃ m', m' < m ∧ W D (i + 1) m' σ3 H4) ∧
        ∀ x H2, J.yld i H' x H2 → g x σ' H2 fun σ3 H3 => tt σ3 H3 fun ok H4 => if ok = true then te σ3 H4 (fun y H5 => Ay y σ3 H5) else An σ3 H4) := by
    refine ⟨fun D => if hD : H2 D = none then (h2 D hD).choose else fun _ _ _ _ => False, fun D hD => ?_, fun D hD => ?_⟩
    · simp only [hD, dite_true]
      exact (h2 D hD).choose_spec.1
    · simp only [hD, dite_true]
      exact (h2 D hD).choose_spec.2
  obtain ⟨W, w0, turn⟩ := h2'
  refine comp_run (RR := fun acc C => compPost (model X.prog X.w) X.A X.xe (some (assign (.Name y py) X.env)) (fun _ s' => SP X pins D0 .next s') acc C) (Fi := fun D H' => D0.nx (σ.set i0 (some (.ref D))) H') (W := W) c hc hin I2 T st2 f2 w0 turn ?_
  intro D s3 H3 H' s' I3 I' ⟨m, hn⟩ hC q
  show wpAny _ _ (assign (.Name y py) X.env (.ref D)) _ _ s'
  refine wpAny_assign_Name (store_ok2 (v := .ref D) I' hN hi' (.inl hx) rfl (fun s'' I'' ⟨a, hs'', ha⟩ => ?_) (.inr hx))
  have hne : s3.heap.objs.size ≠ a := by
    rcases ha with z | z
    · rw [z]; exact Nat.ne_of_gt I3.lt
    · intro q
      obtain ⟨v, w⟩ := I3.cell y a z
      exact absurd w.lt (by rw [← q]; exact Nat.lt_irrefl _)
  exact ⟨m, hn.sameBut hs'' hne, fun h' hs' => ⟨_, H', comp_gone I3 I'' hC hs', q⟩⟩
end
end L2

namespace L2
open PySem PySem.Spec PyProof.Rows

/-! ### zip of two lists, unpacked into a tuple of targets -/

/-- many records of ours have turned, and a tuple has been laid -/
theorem Inv.turnedT {X : Cx} {pins : List (Addr × Obj)} {σ : St} {H : Hp} {s : Shared} {h' : Heap} {t' : Nat} {fp : List Addr} {T : Addr} {xs : List V} {its : List Value} (I : Inv X pins σ H s) (f : ∀ b ∈ fp, FpOk X pins H b)
    (k : ∀ b o, b ∉ fp → s.heap.get? b = some o → h'.get? b = some o) (kt : ∀ b ∈ fp, ∃ o, h'.get? b = some o) (hT : s.heap.objs.size ≤ T) (hx : xs.length ≤ sizeLine) (hv : Vals xs its) (ht : IsTup h' T its.toArray) :
    Inv X pins σ (upd H T (.tup xs)) { s with heap := h', toks := t' } := by
  have hn : H T = none := I.hok.fresh hT
  have nL : X.env.locals ∉ fp := fun z => (f _ z).2.1 rfl
  refine I.step (g' := s.gens) (d' := s.drawn) (ch := fp) (fun b hb => ⟨(f b hb).2.2.2.1, (f b hb).2.1, (f b hb).2.2.2.2.1, (f b hb).2.2.2.2.2⟩) (fun b o _ _ hc e _ => k b o hc e) (fun b o _ _ hc e _ => ⟨o.slots, k b o hc e⟩)
    (fun b o _ e n => by rw [upd_ne (Nat.ne_of_lt (Nat.lt_of_lt_of_le (Heap.lt_size e) hT))]; exact n) (fun b o hc e => ⟨o, k b o hc e⟩)
    (fun b ys e => by rw [upd_ne (ne_of_none e hn)]; exact e) (fun b o u e => by rw [upd_ne (ne_of_none e hn)]; exact e) (fun b ps e => ⟨#[], by rw [upd_ne (ne_of_none e hn), e]; simp⟩) (fun m hm => ?_) (fun b u e => ?_) I.bare
  · obtain ⟨o, es, ep, ho, r⟩ := hm
    exact ⟨o, es, ep, k _ o nL ho, r⟩
  · by_cases hb : b = T
    · subst hb
      rw [upd_same] at e
      cases e
      exact ⟨hx, its, hv, ht⟩
    · rw [upd_ne hb] at e
      have nf : ∀ c v, H c = some v → c ∉ fp := fun c v q z => by rw [(f c z).1] at q; cases q
      refine (I.hok b u e).stay (fun c v hc q => k c v ?_ q) (fun c q => by rw [upd_ne (ne_of_none q hn)]; exact q) fun c ys q => by rw [upd_ne (ne_of_none q hn)]; exact q
      rcases hc with z | z
      · rw [z]; exact nf b u e
      · exact nf c _ z
theorem Inv.turnedM {X : Cx} {pins : List (Addr × Obj)} {σ : St} {H : Hp} {s : Shared} {h' : Heap} {t' : Nat} {fp : List Addr} (I : Inv X pins σ H s) (f : ∀ b ∈ fp, FpOk X pins H b)
    (k : ∀ b o, b ∉ fp → s.heap.get? b = some o → h'.get? b = some o) : Inv X pins σ H { s with heap := h', toks := t' } := by
  have nL : X.env.locals ∉ fp := fun z => (f _ z).2.1 rfl
  refine I.step (g' := s.gens) (d' := s.drawn) (ch := fp) (fun b hb => ⟨(f b hb).2.2.2.1, (f b hb).2.1, (f b hb).2.2.2.2.1, (f b hb).2.2.2.2.2⟩) (fun b o _ _ hc e _ => k b o hc e) (fun b o _ _ hc e _ => ⟨o.slots, k b o hc e⟩)
    (fun b o _ e n => n) (fun b o hc e => ⟨o, k b o hc e⟩) (fun b ys e => e) (fun b o u e => e) (fun b ps e => ⟨#[], by rw [e]; simp⟩) (fun m hm => ?_) (fun b u e => ?_) I.bare
  · obtain ⟨o, es, ep, ho, r⟩ := hm
    exact ⟨o, es, ep, k _ o nL ho, r⟩
  · have nf : ∀ c v, H c = some v → c ∉ fp := fun c v q z => by rw [(f c z).1] at q; cases q
    refine (I.hok b u e).stay (fun c v hc q => k c v ?_ q) (fun c q => q) fun c ys q => q
    rcases hc with z | z
    · rw [z]; exact nf b u e
    · exact nf c _ z

/-! ### a comprehension over a list that stays, the reading -/
theorem comp_list {K : PySem.W.Frag} {a D : Addr} {xs : List V} {g : TG} {tt : TT} {te : TE} {σ0 : St} {H1 : Hp} {Q : Hp → Prop} (Pv : Nat → List V → St → Hp → Prop) (hx : xs.length ≤ sizeLine) (hD : H1 D = none) (h0 : Pv 0 [] σ0 (upd H1 D (.lst [])))
    (hl : ∀ i ys σ H, i ≤ xs.length → Pv i ys σ H → SqL K H a xs ∧ H D = some (.lst ys) ∧ ys.length ≤ i)
    (hs : ∀ i x ys σ H, xs[i]? = some x → Pv i ys σ H → g x σ H fun σ3 H3 => tt σ3 H3 fun ok H4 => if ok = true then te σ3 H4 fun y H5 => H5 D = some (.lst ys) ∧ Pv (i + 1) (ys ++ [y]) σ3 (upd H5 D (.lst (ys ++ [y]))) else Pv (i + 1) ys σ3 H4)
    (hd : ∀ ys σ H, Pv xs.length ys σ H → Q H) :
    ∃ W : Nat → Nat → St → Hp → Prop, (∃ m, W 0 m σ0 (upd H1 D (.lst []))) ∧ ∀ i m σ' H', W i m σ' H' →
      ((Itl K a).stop i H' ∧ Q H') ∨ ((Itl K a).go i H' ∧ ∃ (Ay : V → St → Hp → Prop) (An : St → Hp → Prop), (∀ y σ3 H5, Ay y σ3 H5 → ∃ ys, H5 D = some (.lst ys) ∧ ys.length < sizeLine ∧ ∃ m', m' < m ∧ W (i + 1) m' σ3 (upd H5 D (.lst (ys ++ [y])))) ∧
        (∀ σ3 H4, An σ3 H4 → ∃ m', m' < m ∧ W (i + 1) m' σ3 H4) ∧
        ∀ x H2, (Itl K a).yld i H' x H2 → g x σ' H2 fun σ3 H3 => tt σ3 H3 fun ok H4 => if ok = true then te σ3 H4 (fun y H5 => Ay y σ3 H5) else An σ3 H4) := by
  refine ⟨fun i m σ H => m = xs.length - i ∧ i ≤ xs.length ∧ ∃ ys, Pv i ys σ H, ⟨xs.length, by simp, Nat.zero_le _, [], h0⟩, ?_⟩
  rintro i m σ H ⟨rfl, hi, ys, p⟩
  obtain ⟨q, hy, hyl⟩ := hl i ys σ H hi p
  by_cases hlt : i < xs.length
  · refine .inr ⟨⟨xs, xs[i], q, by simp [hlt]⟩, fun y σ3 H5 => H5 D = some (.lst ys) ∧ Pv (i + 1) (ys ++ [y]) σ3 (upd H5 D (.lst (ys ++ [y]))), fun σ3 H4 => Pv (i + 1) ys σ3 H4,
      fun y σ3 H5 ⟨e, p'⟩ => ⟨ys, e, by omega, xs.length - (i + 1), by omega, rfl, hlt, _, p'⟩, fun σ3 H4 p' => ⟨xs.length - (i + 1), by omega, rfl, hlt, _, p'⟩, fun x H' y => ?_⟩
    obtain ⟨e, y⟩ := y
    subst e
    exact hs i x ys σ H' (y xs q) p
  · have : i = xs.length := by omega
    subst this
    exact .inl ⟨⟨xs, q, Nat.le_refl _⟩, hd ys σ H p⟩
end L2

namespace L2
open PySem PySem.Spec PyProof.Rows
/-- isinstance(x, T), T a built-in type -/
theorem call_isinst {X : Cx} : CallR X (.builtin "isinstance") (fun xs H Q => ∃ x n t b, xs = [x, .ty n] ∧ TyOf X.K H x t ∧ PySem.W.kitOne X.K t (.type n) = some b ∧ Q (.bl b) H) := by
  intro pins s σ H xs us Q I r h
  obtain ⟨x, n, t, b, rfl, ty, e, q⟩ := h
  obtain ⟨u, w', rfl, r1, r2⟩ := vals2 r
  cases r2
  exact isinst_ok I r1 ty e fun tk => ⟨.bl b, H, I.tok _, rfl, q⟩
/-- a def of the text, by its name -/
structure FnB (P : Program) (w : World) (K : PySem.W.Frag) (mg : Str → Option Value) (base : Heap) (k : Nat) (x : Str) (ps : List Str) (sp : Sp) : Prop where
  ex : ∃ f fd, FnOk P w K mg base CX0 k f fd ps sp ∧ mg x = some (.ref f) ∧ PySem.W.keepIn K (.ref f) = true ∧ Binds K fd ps []
section
variable {X : Cx} {k : Nat} {ps : List Str} {sp : Sp} {x : Str} {p pos : Pos} {e : Expr} {es : List Expr} {t : TA}
theorem pe_fn (F : FnB X.prog X.w X.K X.mg X.base k x ps sp) (hr : Room k X.A) (hg : Gl X x) (ha : PA X (e :: es) t) (hdb : (x == ("__debug__" : Str)) = false := by decide)
    (he : starEach (e :: es) X.env = (false, eval e X.env) :: starEach es X.env := by rfl) (hpl : (backTo pos (starEach es X.env)).any (·.1) = false := by rfl) : PE X (.Call (.Name x p) (e :: es) [] pos) (tCall sp [] E0 t) := by
  obtain ⟨f, fd, F, hm, hk, hb⟩ := F.ex
  exact pe_call F hr hg hm hk hb .nil pass0 ha hdb he hpl
end
/-- a module's constant that is an int, a text -/
theorem pe_gint {X : Cx} {x : Str} {i : Int} {t : Tok} {pos : Pos} (hg : Gl X x) (hm : X.mg x = some (.int i t)) (hd : (x == ("__debug__" : Str)) = false := by decide) : PE X (.Name x pos) (tC (.int i)) := pe_glob (v := .int i) hg hm ⟨t, rfl⟩ hd
theorem boot_isi : bootBuiltins "isinstance" = some (.builtin "isinstance") := by decide +kernel
theorem kit_int_int (K : PySem.W.Frag) : PySem.W.kitOne K (.type "int") (.type "int") = some true := by rfl
theorem kit_int_bool (K : PySem.W.Frag) : PySem.W.kitOne K (.type "int") (.type "bool") = some false := by rfl
theorem Caps.nil {X : Cx} {scope : Scope} {N' : List Str} {n : Nat} (k : scope.kind = .function) (hc : ∀ y ∈ scope.names, y.2 ≠ .cell) (hf : ∀ y ∈ scope.names, y.2 ≠ .free) (hn : ∀ y ∈ scope.names, y.2 = .local → scope.names.lookup y.1 = some .local) (hl : N'.length = n) :
    Caps X scope [] N' n [] :=
  ⟨closureFor_none hf, k, hc, hn, by simpa using hl, fun x c h => (nomatch h), fun x h => absurd rfl (hf _ (PySem.mem_of_lookup h)), fun k j h => (by simp at h)⟩
end L2

namespace L2
open PySem PySem.Spec PyProof.Rows
theorem Same.upd {H H1 : Hp} {p : Addr} {o : HO} (e : Same H H1) (h : H1 p = none) : Same H (upd H1 p o) := fun b u q => by
  rw [upd_ne (ne_of_none (e b u q) h)]
  exact e b u q
theorem atI_all {xs : List Int} {i : Int} {P : Int → Prop} (h : ∀ x ∈ xs, P x) (h0 : 0 ≤ i) (h1 : i < xs.length) : ∃ c, atI (xs.map V.int) i = some (V.int c) ∧ P c := by
  have hk : i.toNat < xs.length := by omega
  have e : (xs.map V.int)[i.toNat]? = some (V.int xs[i.toNat]) := by simp [hk]
  have := atI_nat e
  rw [show ((i.toNat : Nat) : Int) = i by omega] at this
  exact ⟨_, this, h _ (List.getElem_mem hk)⟩
theorem atI_map {ns : List Int} {k : Int} (h0 : 0 ≤ k) (h1 : k < ns.length) : ∃ c, atI (ns.map V.int) k = some (V.int c) := by
  obtain ⟨c, h, _⟩ := atI_all (P := fun _ => True) (xs := ns) (fun _ _ => trivial) h0 h1
  exact ⟨c, h⟩
end L2

namespace L2
open PySem PySem.Spec PyProof.Rows
/-! ### texts -/
section
variable {X : Cx}
end
section
variable {X : Cx}
theorem op_le_str : OpR X (compareOp .LtE) (fun x y H Q => ∃ i j, x = .str i ∧ y = .str j ∧ Q (.bl (!decide (j.cps.toList < i.cps.toList))) H) := by
  intro pins s σ H x y v u Q I rx ry h
  obtain ⟨i, j, rfl, rfl, q⟩ := h
  obtain ⟨t, rfl⟩ := rx
  obtain ⟨t', rfl⟩ := ry
  exact PySem.P.le_str ⟨.bl _, H, I, rfl, q⟩
end
/-! ### the signs of a text -/
def Its (x : Str) : It := ⟨fun i _ => i < x.cps.size, fun i H v H' => H' = H ∧ ∃ c, x.cps[i]? = some c ∧ v = .str ⟨#[c]⟩, fun i _ => x.cps.size ≤ i⟩
theorem turn_str {P : Program} {w : World} {K : PySem.W.Frag} {n : Str} {pos : Pos} (it : Addr) (x : Str) (t : Tok) : Turn P w K (.Name n pos) (Its x) [it] it (fun i h => h.IsStrIter it "str_ascii_iterator" x t i) where
  mem := by simp
  obj := fun i h st b hb => by
    have e : b = it := by simpa using hb
    subst e
    obtain ⟨o, e, c, d⟩ := st
    exact ⟨o, e, fun v z => by rw [d] at z; cases z⟩
  keep := fun i h h' st k => let ⟨o, ho, r⟩ := st; ⟨o, k it (by simp) o ho, r⟩
  item := by
    intro X hP hw hK hc i pins s σ H E I hf st hg
    subst hP hw hK
    obtain ⟨f0, f1, f2, f3, f4, f5⟩ := hf it (by simp)
    have W := Walks.strAscii (prog := X.prog) (w := X.w) (I.ok.hd hc) it x t
    refine W.item i s _ _ hg st fun v h' tk hv st' kk => ?_
    obtain ⟨c, t', hc', rfl⟩ := hv
    have I1 : Inv X pins σ H { s with heap := h', toks := tk } := I.turned (fun b o hb e => kk b o (by simpa using hb) e) f0 f1 f3 f4 f5
    exact ⟨_, rfl, wpAny_pure ⟨.str ⟨#[c]⟩, H, I1, ⟨t', rfl⟩, ⟨rfl, c, hc', rfl⟩, st', fun b hb => (hf b hb).1⟩⟩
  done := by
    intro X hP hw hK hc i pins s σ H E I hf st hg
    subst hP hw hK
    obtain ⟨f0, f1, f2, f3, f4, f5⟩ := hf it (by simp)
    have hg' : x.cps.size ≤ i := hg
    exact wpAny_pyNext_ascii_end (I.ok.hd hc) st (by simp; omega) fun h' eb => ⟨rfl, I.turned (t' := s.toks) (fun b o hb e => eb b o hb e) f0 f1 f3 f4 f5⟩
  self := fun _ _ _ _ _ st h => wpAny_pyIter_striter_ascii st h
def iStr (tl : TE) : TI := fun σ H R => tl σ H fun x H1 => ∃ z, x = .str z ∧ z.cps.all (· < 128) = true ∧ R (Its z) H1
theorem pi_str {X : Cx} {n : Str} {p : Pos} {l : Expr} {tl : TE} (hl : PE X l tl) : PI X (.Name n p) l (iStr tl) := by
  intro pins s σ H R I h
  refine thn (hl pins s σ H _ I h) fun v s1 ⟨x, H1, I1, r1, q1⟩ => ?_
  obtain ⟨z, e, ha, q⟩ := q1
  subst e
  obtain ⟨t, rfl⟩ := r1
  refine wpAny_pyIter_ascii ha ?_
  refine ⟨s1.heap.objs.size, [s1.heap.objs.size], _, _, H1, rfl, I1.kept (t' := s1.toks) fun b o e => Heap.get?_push_of_some _ e, turn_str _ z t, ⟨_, Heap.get?_push_size _ rfl, rfl, rfl⟩, fun b hb => ?_, q⟩
  have e : b = s1.heap.objs.size := by simpa using hb
  subst e
  exact I1.fpOk (Nat.le_refl _) (I1.hok.fresh (Nat.le_refl _))
end L2

namespace L2
open PySem PySem.Spec PyProof.Rows

/-! ### lists of pairs as tables -/
section
variable {κ : Type} [DecidableEq κ]
def valV (kvs : List (κ × V)) (k : κ) : Option V := (kvs.find? fun kv => decide (kv.1 = k)).map (·.2)
/-- in its place, or at the end -/
def putK (kvs : List (κ × V)) (k : κ) (v : V) : List (κ × V) :=
  if (kvs.any fun kv => decide (kv.1 = k)) = true then kvs.map (fun kv => if kv.1 = k then (kv.1, v) else kv) else kvs ++ [(k, v)]

theorem valV_pos {p : κ × V} {r : List (κ × V)} {k : κ} (e : p.1 = k) : valV (p :: r) k = some p.2 := by simp [valV, List.find?_cons, e]
theorem valV_neg {p : κ × V} {r : List (κ × V)} {k : κ} (e : ¬ p.1 = k) : valV (p :: r) k = valV r k := by simp [valV, List.find?_cons, e]
theorem valV_any (k : κ) : ∀ kvs : List (κ × V), (kvs.any fun kv => decide (kv.1 = k)) = (valV kvs k).isSome
  | [] => rfl
  | p :: r => by
    rw [List.any_cons]
    by_cases e : p.1 = k
    · simp only [valV_pos e, decide_eq_true e, Bool.true_or, Option.isSome_some]
    · rw [valV_neg e, decide_eq_false e, Bool.false_or]; exact valV_any k r
theorem length_putK (kvs : List (κ × V)) (k : κ) (v : V) : (putK kvs k v).length ≤ kvs.length + 1 := by
  unfold putK
  split
  · rw [List.length_map]; omega
  · rw [List.length_append, List.length_cons, List.length_nil]; omega

theorem RelO.isSome_eq {o : Option V} {u : Option Value} (r : RelO o u) : o.isSome = u.isSome := by
  cases o with
  | none => cases u with
    | none => rfl
    | some _ => exact (show False from r).elim
  | some _ => cases u with
    | none => exact (show False from r).elim
    | some _ => rfl

/-- raw tables of the same keys -/
theorem KV.val {kvs : List (κ × V)} {vs : List (κ × Value)} (r : KV kvs vs) (k : κ) : RelO (valV kvs k) (valueAt vs k) := by
  unfold KV at r
  induction r with
  | nil => exact True.intro
  | @cons p q ps qs h t ih =>
    obtain ⟨h1, h2⟩ := h
    by_cases e : p.1 = k
    · have e' : q.1 = k := h1.symm.trans e
      have b : valueAt (q :: qs) k = some q.2 := by simp [valueAt, List.find?_cons, e']
      rw [valV_pos e, b]; exact h2
    · have e' : ¬ q.1 = k := fun z => e (h1.trans z)
      have b : valueAt (q :: qs) k = valueAt qs k := by simp [valueAt, List.find?_cons, e']
      rw [valV_neg e, b]; exact ih
theorem KV.any {kvs : List (κ × V)} {vs : List (κ × Value)} (r : KV kvs vs) (k : κ) : (kvs.any fun kv => decide (kv.1 = k)) = vs.any fun kv => decide (kv.1 = k) := by
  unfold KV at r
  induction r with
  | nil => rfl
  | cons h t ih => rw [List.any_cons, List.any_cons, ih, h.1]
theorem KV.repl {kvs : List (κ × V)} {vs : List (κ × Value)} (r : KV kvs vs) (k : κ) {y : V} {u : Value} (ry : RelV y u) :
    KV (kvs.map fun kv => if kv.1 = k then (kv.1, y) else kv) (vs.map fun kv => if kv.1 = k then (kv.1, u) else kv) := by
  unfold KV at r ⊢
  induction r with
  | nil => exact .nil
  | @cons p q ps qs h t ih =>
    rw [List.map_cons, List.map_cons]
    refine .cons ?_ ih
    obtain ⟨h1, h2⟩ := h
    by_cases e : p.1 = k
    · rw [if_pos e, if_pos (h1.symm.trans e)]; exact ⟨h1, ry⟩
    · rw [if_neg e, if_neg (fun z => e (h1.trans z))]; exact ⟨h1, h2⟩
theorem KV.put {kvs : List (κ × V)} {vs : List (κ × Value)} (r : KV kvs vs) (k : κ) {y : V} {u : Value} (ry : RelV y u) : KV (putK kvs k y) (stored vs k u) := by
  unfold putK stored
  rw [r.any k]
  by_cases e : (vs.any fun kv => decide (kv.1 = k)) = true
  · rw [if_pos e, if_pos e]; exact r.repl k ry
  · rw [if_neg e, if_neg e]; exact Paired.snoc r ⟨rfl, ry⟩
theorem KV.length {kvs : List (κ × V)} {vs : List (κ × Value)} (r : KV kvs vs) : kvs.length = vs.length := Paired.length r
end

/-! ### a tracked dict, its keys ints and texts or tuples of these -/
theorem kV_is {P : Program} {w : World} {k : Key} {u : Value} (r : RelV (kV k) u) : (mixKind P w).is k u = true := by
  cases k with
  | inl i => obtain ⟨t, e⟩ := (show ∃ t, u = Value.int i t from r); subst e; exact mixKind_int P w i t
  | inr x => obtain ⟨t, e⟩ := (show ∃ t, u = Value.str x t from r); subst e; exact mixKind_str P w x t
theorem items_are {P : Program} {w : World} : ∀ {ks : List Key} {us : List Value}, Vals (ks.map kV) us → ItemsAre (mixKind P w) ks us
  | [], _, r => by rw [List.map_nil] at r; cases r; exact .nil
  | k :: ks, _, r => by
    rw [List.map_cons] at r
    cases r with
    | cons h t => exact .cons (kV_is h) (items_are t)

/-- raw entries of a dict with tuple keys -/
abbrev KT (H : Hp) : List (List Key × V) → List (List Key × Addr × Value) → Prop := Paired fun p q => p.1 = q.1 ∧ H q.2.1 = some (.tup (p.1.map kV)) ∧ RelV p.2 q.2.2
theorem KT.val {H : Hp} {kvs : List (List Key × V)} {xs : List (List Key × Addr × Value)} (r : KT H kvs xs) (k : List Key) : RelO (valV kvs k) ((atKey xs k).map (·.2)) := by
  induction r with
  | nil => exact True.intro
  | @cons p q ps qs h t ih =>
    obtain ⟨h1, _, h2⟩ := h
    by_cases e : p.1 = k
    · have e' : q.1 = k := h1.symm.trans e
      have b : atKey (q :: qs) k = some q.2 := by simp [atKey, List.find?_cons, e']
      rw [valV_pos e, b]; exact h2
    · have e' : ¬ q.1 = k := fun z => e (h1.trans z)
      have b : atKey (q :: qs) k = atKey qs k := by simp [atKey, List.find?_cons, e']
      rw [valV_neg e, b]; exact ih
theorem KT.repl {H : Hp} {kvs : List (List Key × V)} {xs : List (List Key × Addr × Value)} (r : KT H kvs xs) (k : List Key) {y : V} {u : Value} (ry : RelV y u) :
    KT H (kvs.map fun kv => if kv.1 = k then (kv.1, y) else kv) (xs.map (putAt k u)) := by
  induction r with
  | nil => exact .nil
  | @cons p q ps qs h t ih =>
    rw [List.map_cons, List.map_cons]
    refine .cons ?_ ih
    obtain ⟨h1, h2, h3⟩ := h
    unfold putAt
    by_cases e : p.1 = k
    · rw [if_pos e, if_pos (h1.symm.trans e)]; exact ⟨h1, h2, ry⟩
    · rw [if_neg e, if_neg (fun z => e (h1.trans z))]; exact ⟨h1, h2, h3⟩
theorem KT.put {H : Hp} {kvs : List (List Key × V)} {xs : List (List Key × Addr × Value)} (r : KT H kvs xs) (k : List Key) {b : Addr} {y : V} {u : Value} (hb : H b = some (.tup (k.map kV))) (ry : RelV y u) :
    KT H (putK kvs k y) (storedH xs k b u) := by
  have e : (kvs.any fun kv => decide (kv.1 = k)) = (atKey xs k).isSome := by
    rw [valV_any, (r.val k).isSome_eq, Option.isSome_map]
  unfold putK storedH
  rw [e]
  by_cases q : (atKey xs k).isSome = true
  · rw [if_pos q, if_pos q]; exact r.repl k ry
  · rw [if_neg q, if_neg q]; exact Paired.snoc r ⟨rfl, hb, ry⟩
theorem KT.keeps {H H' : Hp} {kvs : List (List Key × V)} {xs : List (List Key × Addr × Value)} (r : KT H kvs xs) (ht : ∀ b ys, H b = some (.tup ys) → H' b = some (.tup ys)) : KT H' kvs xs :=
  Paired.mapP r fun _ _ z => ⟨z.1, ht _ _ z.2.1, z.2.2⟩

section
variable {P : Program} {w : World} {H : Hp} {h : Heap} {a : Addr}
theorem rd_of {u : HO} (ok : HOk P w H h) (e : Rd H a u) : ObjOk P w H h a u := e.ok ok
theorem dk_rd {kvs : List (Key × V)} (ok : HOk P w H h) (e : Rd H a (.dK kvs)) : kvs.length ≤ sizeLine ∧ (a == sysModules) = false ∧ ∃ vs, KV kvs vs ∧ h.DictOf (mixKind P w) a vs :=
  show ObjOk P w H h a (.dK kvs) from rd_of ok e
theorem dk_of {kvs : List (Key × V)} (ok : HOk P w H h) (e : H a = some (.dK kvs)) : kvs.length ≤ sizeLine ∧ (a == sysModules) = false ∧ ∃ vs, KV kvs vs ∧ h.DictOf (mixKind P w) a vs := dk_rd ok (.inl e)
/-- a tracked tuple of ints and texts is a key -/
theorem key_of {ks : List Key} (ok : HOk P w H h) (e : H a = some (.tup (ks.map kV))) : (tupleKind (mixKind P w)).is h ks a := by
  obtain ⟨_, its, r, o, h1, h2, n, h3⟩ := (show ObjOk P w H h a (.tup (ks.map kV)) from ok a _ e)
  exact ⟨o, its.toArray, n, h1, h2, h3, by simpa using items_are r⟩
theorem dt_rd {kvs : List (List Key × V)} (ok : HOk P w H h) (e : Rd H a (.dT kvs)) : kvs.length ≤ sizeLine ∧ (a == sysModules) = false ∧
    ∃ xs, KT H kvs xs ∧ h.DictOfH (tupleKind (mixKind P w)) a xs := by
  obtain ⟨z, y, xs, r, o, es, ep, h1, h2, h3, h4, h5⟩ := (show ObjOk P w H h a (.dT kvs) from rd_of ok e)
  refine ⟨z, y, xs, r, o, es, ep, h1, h2, h3, h4, fun x hx => ?_, h5⟩
  have all : ∀ {l : List (List Key × V)} {m : List (List Key × Addr × Value)}, KT H l m → ∀ x ∈ m, (tupleKind (mixKind P w)).is h x.1 x.2.1 := by
    intro l m q
    induction q with
    | nil => intro x hx; exact nomatch hx
    | @cons p q ps qs hq t ih =>
      intro x hx
      rcases List.mem_cons.mp hx with e | hx
      · subst e
        exact key_of ok (by rw [← hq.1]; exact hq.2.1)
      · exact ih x hx
  exact all r x hx
theorem dt_of {kvs : List (List Key × V)} (ok : HOk P w H h) (e : H a = some (.dT kvs)) : kvs.length ≤ sizeLine ∧ (a == sysModules) = false ∧
    ∃ xs, KT H kvs xs ∧ h.DictOfH (tupleKind (mixKind P w)) a xs := dt_rd ok (.inl e)
end

/-- what the dict at a holds at the key y -/
def DGet (H : Hp) (a : Addr) (y : V) (r : Option V) : Prop :=
  (∃ kvs k, Rd H a (.dK kvs) ∧ y = kV k ∧ r = valV kvs k) ∨ ∃ kvs k b, Rd H a (.dT kvs) ∧ y = .ref b ∧ H b = some (.tup (k.map kV)) ∧ r = valV kvs k
/-- the heap behind a[y] = v -/
def DPut (H : Hp) (a : Addr) (y v : V) (H' : Hp) : Prop :=
  (∃ kvs k, H a = some (.dK kvs) ∧ y = kV k ∧ kvs.length < sizeLine ∧ H' = upd H a (.dK (putK kvs k v))) ∨
  ∃ kvs k b, H a = some (.dT kvs) ∧ y = .ref b ∧ H b = some (.tup (k.map kV)) ∧ kvs.length < sizeLine ∧ H' = upd H a (.dT (putK kvs k v))
theorem DGet.k {H : Hp} {a : Addr} {kvs : List (Key × V)} {k : Key} (e : H a = some (.dK kvs)) : DGet H a (kV k) (valV kvs k) := .inl ⟨kvs, k, .inl e, rfl, rfl⟩
theorem DPut.k {H : Hp} {a : Addr} {kvs : List (Key × V)} {k : Key} {v : V} (e : H a = some (.dK kvs)) (hl : kvs.length < sizeLine) : DPut H a (kV k) v (upd H a (.dK (putK kvs k v))) := .inl ⟨kvs, k, e, rfl, hl, rfl⟩

section
variable {X : Cx} {pins : List (Addr × Obj)} {σ : St} {H : Hp} {s : Shared} {a : Addr} {y v : V} {u r : Value} {o : Option V} {A : Around} {E : Value → Shared → Prop}

theorem Inv.big (I : Inv X pins σ H s) : sysModules < s.heap.objs.size := by
  have h : mainGlobals < s.heap.objs.size := (I.mod.glob.keeps I.bk).lt
  exact Nat.lt_trans (by decide) h

/-- d[y], there -/
theorem d_getItem {Q : Value → Shared → Prop} (hu : A.units + 1 < cLine) (I : Inv X pins σ H s) (g : DGet H a y (some v)) (ry : RelV y u) (h : ∀ w' s', Inv X pins σ H s' → RelV v w' → Q w' s') :
    wpAny (model X.prog X.w) A (getItem (.ref a) u) Q E s := by
  rcases g with ⟨kvs, k, e, ey, l⟩ | ⟨kvs, k, b, e, ey, eb, l⟩
  · subst ey
    obtain ⟨z, hd, vs, rel, dd⟩ := dk_rd I.hok e
    obtain ⟨w', hw, rw'⟩ := RelO.some_of (v := v) (o := valueAt vs k) (by rw [l]; exact rel.val k)
    exact wpAny_getItem_of (kV_is ry) dd.mapOf hw (h w' _ (I.tok _) rw')
  · subst ey
    cases (show u = Value.ref b from ry)
    obtain ⟨z, hd, xs, rel, dd⟩ := dt_rd I.hok e
    obtain ⟨w', hw, rw'⟩ := RelO.some_of (v := v) (o := (atKey xs k).map (·.2)) (by rw [l]; exact rel.val k)
    obtain ⟨p, hp, hp2⟩ := Option.map_eq_some_iff.mp hw
    refine wpAny_getItem_heap (tupleKind_room_in1 hu) (key_of I.hok eb) dd hp ?_
    rw [hp2]
    exact h w' _ (I.tok _) rw'
/-- y in d -/
theorem d_in {Q : Value → Shared → Prop} (hu : A.units + 1 < cLine) (I : Inv X pins σ H s) (g : DGet H a y o) (ry : RelV y u) (h : ∀ s', Inv X pins σ H s' → Q (.bool o.isSome) s') :
    wpAny (model X.prog X.w) A (compareOp .In u (.ref a)) Q E s := by
  rcases g with ⟨kvs, k, e, ey, l⟩ | ⟨kvs, k, b, e, ey, eb, l⟩
  · subst ey
    obtain ⟨z, hd, vs, rel, dd⟩ := dk_rd I.hok e
    refine wpAny_in_of (kV_is ry) hd dd.mapOf ?_
    rw [← (rel.val k).isSome_eq, ← l]
    exact h _ (I.tok _)
  · subst ey
    cases (show u = Value.ref b from ry)
    obtain ⟨z, hd, xs, rel, dd⟩ := dt_rd I.hok e
    refine wpAny_in_heap (tupleKind_room_in1 hu) (key_of I.hok eb) hd dd ?_
    have q := (rel.val k).isSome_eq
    rw [Option.isSome_map] at q
    rw [← q, ← l]
    exact h _ (I.tok _)
theorem d_notIn {Q : Value → Shared → Prop} (hu : A.units + 1 < cLine) (I : Inv X pins σ H s) (g : DGet H a y o) (ry : RelV y u) (h : ∀ s', Inv X pins σ H s' → Q (.bool (!o.isSome)) s') :
    wpAny (model X.prog X.w) A (compareOp .NotIn u (.ref a)) Q E s := by
  rcases g with ⟨kvs, k, e, ey, l⟩ | ⟨kvs, k, b, e, ey, eb, l⟩
  · subst ey
    obtain ⟨z, hd, vs, rel, dd⟩ := dk_rd I.hok e
    refine wpAny_notIn_of (kV_is ry) hd dd.mapOf ?_
    rw [← (rel.val k).isSome_eq, ← l]
    exact h _ (I.tok _)
  · subst ey
    cases (show u = Value.ref b from ry)
    obtain ⟨z, hd, xs, rel, dd⟩ := dt_rd I.hok e
    refine wpAny_notIn_heap (tupleKind_room_in1 hu) (key_of I.hok eb) hd dd ?_
    have q := (rel.val k).isSome_eq
    rw [Option.isSome_map] at q
    rw [← q, ← l]
    exact h _ (I.tok _)
/-- a dict's object is replaced -/
theorem d_write {h' : Heap} {t' : Nat} {ob : HO} (I : Inv X pins σ H s) (mu : Mut (H a)) (hs : Heap.SameBut a s.heap h') (he : ∃ q, h'.get? a = some q) (new : ObjOk X.prog X.w (upd H a ob) h' a ob) :
    Inv X pins σ (upd H a ob) { s with heap := h', toks := t' } :=
  I.write (x := a) (e := a) mu (.inl rfl) (fun b q hb z => (hs.2 b hb).trans z) he new
theorem dk_new {P : Program} {w : World} {H' : Hp} {h' : Heap} {kvs : List (Key × V)} {vs : List (Key × Value)} (z : kvs.length ≤ sizeLine) (hd : (a == sysModules) = false) (rel : KV kvs vs) (dd : h'.DictOf (mixKind P w) a vs) :
    ObjOk P w H' h' a (.dK kvs) := ⟨z, hd, vs, rel, dd⟩
/-- d[y] = v -/
theorem d_setItem {H' : Hp} {Q : Unit → Shared → Prop} (hu : A.units + 1 < cLine) (I : Inv X pins σ H s) (g : DPut H a y v H') (ry : RelV y u) (rv : RelV v r) (h : ∀ s', Inv X pins σ H' s' → Q () s') :
    wpAny (model X.prog X.w) A (setItem (.ref a) u r) Q E s := by
  rcases g with ⟨kvs, k, e, ey, l, eH⟩ | ⟨kvs, k, b, e, ey, eb, l, eH⟩
  · subst ey eH
    obtain ⟨z, hd, vs, rel, dd⟩ := dk_of I.hok e
    have hz : vs.length ≤ sizeLine := by rw [← rel.length]; exact z
    have hl : (putK kvs k v).length ≤ sizeLine := by have := length_putK kvs k v; omega
    refine wpAny_setItem_pairs (hsz := hz) (kV_is ry) dd fun h' dd' hs => h _ ?_
    have he : ∃ q, h'.get? a = some q := let ⟨q, _, _, hq, _⟩ := dd'; ⟨q, hq⟩
    exact d_write I (by rw [e]; exact True.intro) hs he (dk_new hl hd (rel.put k rv) dd')
  · subst ey eH
    cases (show u = Value.ref b from ry)
    obtain ⟨z, hd, xs, rel, dd⟩ := dt_of I.hok e
    have hz : xs.length ≤ sizeLine := by rw [← Paired.length rel]; exact z
    have hl : (putK kvs k v).length ≤ sizeLine := by have := length_putK kvs k v; omega
    refine wpAny_setItem_heap (hsz := hz) (tupleKind_room_in1 hu) (key_of I.hok eb) dd fun h' dd' hs => h _ ?_
    obtain ⟨q, es, ep, hq, h2, h3, h4, _, h5⟩ := dd'
    refine d_write I (by rw [e]; exact True.intro) hs ⟨q, hq⟩ ⟨hl, hd, _, (rel.put k eb rv).keeps fun c ys ec => ?_, q, es, ep, hq, h2, h3, h4, h5⟩
    rw [upd_ne (ne_of ec e (fun z => nomatch z))]
    exact ec
end

section
variable {X : Cx} {pins : List (Addr × Obj)} {σ : St} {H : Hp} {s : Shared} {a : Addr} {kvs : List (Key × V)} {k : Key} {u : Value} {A : Around} {E : Value → Shared → Prop}
end

/-! ### readings and rules -/
/-- the element of a subscription, not a slice -/
def NoSl (i : Expr) : Prop := ∀ ov iv, subscripted i false ov iv = operate [ov, iv] (getItem ov iv)
theorem subD_of {prog : Program} {w : World} {A : Around} {E : Value → Shared → Prop} {s : Shared} {env : Env} {value slice : Expr} {pos : Pos} {T id : String} {Q : Value → Shared → Prop}
    (hl : typeLookup (.type T) "__getitem__" = pure (some (.builtin id))) (hs : NoSl slice)
    (h : wpAny (model prog w) A (eval value env) (fun o s₁ => wpAny (model prog w) A (eval slice env) (fun i s₂ => s₂.TypeIs o T ∧ wpAny (model prog w) A (getItem o i) Q E s₂) E s₁) E s) :
    wpAny (model prog w) A (eval (.Subscript value slice pos) env) Q E s := by
  refine Subscript_ (wpAny_mono h (fun o s₁ h₁ => wpAny_mono h₁ (fun i s₂ h₂ => ?_) fun _ _ x => x) fun _ _ x => x)
  obtain ⟨hT, h₂⟩ := h₂
  unfold subscriptTail
  refine wpAny_bind ?_
  rw [getitemInPython_of_ne hT.not_modules]
  refine wpAny_bind (wpAny_specialOf hT hl ?_)
  have fin : wpAny (model prog w) A (subscripted slice false o i) (fun r s₃ => wpAny (model prog w) A (letTemporaryGo value o r >>= fun _ => pure r) Q E s₃) E s₂ := by
    rw [hs o i]
    exact wpAny_operating (wpAny_mono h₂ (fun r s₃ h₃ => wpAny_bind (wpAny_letTemporaryGo (wpAny_pure h₃))) fun _ _ x => x)
  first
    | exact wpAny_pure (wpAny_bind fin)
    | exact wpAny_bind (wpAny_pure (wpAny_bind fin))
    | exact wpAny_bind fin

theorem dict_typeIs {X : Cx} {pins : List (Addr × Obj)} {σ : St} {H : Hp} {s : Shared} {a : Addr} {y : V} {o : Option V} (I : Inv X pins σ H s) (g : DGet H a y o) : s.TypeIs (.ref a) "dict" := by
  rcases g with ⟨kvs, k, e, _, _⟩ | ⟨kvs, k, b, e, _, _, _⟩
  · obtain ⟨_, _, vs, _, dd⟩ := dk_rd I.hok e
    exact dd.typeIs
  · obtain ⟨_, _, xs, _, dd⟩ := dt_rd I.hok e
    exact dd.typeIs

/-- d[y] -/
def tDGet (td ty : TE) : TE := fun σ H Q => td σ H fun x H1 => ty σ H1 fun y H2 => ∃ a v, x = .ref a ∧ DGet H2 a y (some v) ∧ Q v H2
/-- y in d, y not in d -/
def tDIn (ty td : TE) : TE := fun σ H Q => ty σ H fun y H1 => td σ H1 fun x H2 => ∃ a o, x = .ref a ∧ DGet H2 a y o ∧ Q (.bl o.isSome) H2
def tDNotIn (ty td : TE) : TE := fun σ H Q => ty σ H fun y H1 => td σ H1 fun x H2 => ∃ a o, x = .ref a ∧ DGet H2 a y o ∧ Q (.bl (!o.isSome)) H2
/-- d[y] = v -/
def sDPut (td ty tv : TE) : TS := fun D σ H => tv σ H fun v H1 => td σ H1 fun x H2 => ty σ H2 fun y H3 => ∃ a H4, x = .ref a ∧ DPut H3 a y v H4 ∧ D.nx σ H4

section
variable {X : Cx} {o i e value : Expr} {pos pos' tpos : Pos} {td ty tv : TE}
theorem pe_dget (hu : X.A.units + 1 < cLine) (ho : PE X o td) (hi : PE X i ty) (hs : NoSl i) : PE X (.Subscript o i pos) (tDGet td ty) := by
  intro pins s σ H Q I h
  refine subD_of PySem.F.slot_dict_getitem.lookup hs (thn (ho pins s σ H _ I h) fun u s1 ⟨x, H1, I1, rx, q1⟩ => thn (hi pins s1 σ H1 _ I1 q1) fun iv s2 ⟨y, H2, I2, ry, a, v, ex, g, q2⟩ => ?_)
  subst ex
  obtain rfl : u = Value.ref a := rx
  exact ⟨dict_typeIs I2 g, d_getItem hu I2 g ry fun w' s3 I3 rw' => ⟨v, H2, I3, rw', q2⟩⟩
theorem pc_din (hu : X.A.units + 1 < cLine) (hi : PE X i ty) (ho : PE X o td) : PC X .In i o (tDIn ty td) := by
  intro pins s σ H Q I h
  refine thn (hi pins s σ H _ I h) fun iv s1 ⟨y, H1, I1, ry, q1⟩ => thn (ho pins s1 σ H1 _ I1 q1) fun u s2 ⟨x, H2, I2, rx, a, ov, ex, g, q2⟩ => ?_
  subst ex
  obtain rfl : u = Value.ref a := rx
  exact d_in hu I2 g ry fun s3 I3 => ⟨.bl ov.isSome, H2, I3, rfl, q2⟩
theorem pc_dnotin (hu : X.A.units + 1 < cLine) (hi : PE X i ty) (ho : PE X o td) : PC X .NotIn i o (tDNotIn ty td) := by
  intro pins s σ H Q I h
  refine thn (hi pins s σ H _ I h) fun iv s1 ⟨y, H1, I1, ry, q1⟩ => thn (ho pins s1 σ H1 _ I1 q1) fun u s2 ⟨x, H2, I2, rx, a, ov, ex, g, q2⟩ => ?_
  subst ex
  obtain rfl : u = Value.ref a := rx
  exact d_notIn hu I2 g ry fun s3 I3 => ⟨.bl (!ov.isSome), H2, I3, rfl, q2⟩
theorem ps_dput (hu : X.A.units + 1 < cLine) (ho : PE X o td) (hi : PE X i ty) (hv : PE X value tv) (hs : swapsWith value (some (.Subscript o i pos')) pos.line X.env = pure false) :
    PS X (.Assign [.Subscript o i pos'] value pos) (sDPut td ty tv) := by
  intro pins s σ H D I h
  refine wpAny_Assign_Subscript (thn (hv pins s σ H _ I h) fun r s1 ⟨v, H1, I1, rv, q1⟩ => thn (ho pins s1 σ H1 _ I1 q1) fun u s2 ⟨x, H2, I2, rx, q2⟩ => thn (hi pins s2 σ H2 _ I2 q2) fun iv s3 ⟨y, H3, I3, ry, a, H4, ex, g, q3⟩ => ?_) hs
  subst ex
  obtain rfl : u = Value.ref a := rx
  exact d_setItem hu I3 g ry rv fun s4 I4 => ⟨σ, H4, I4, q3⟩
end

/-! ### displays -/
theorem dk_empty {P : Program} {w : World} {H : Hp} (h : Heap) (hb : sysModules < h.objs.size) : ObjOk P w H (h.push { cls := .type "dict", data := .dict #[] }) h.objs.size (.dK []) :=
  ⟨Nat.zero_le _, beq_eq_false_iff_ne.mpr (Ne.symm (Nat.ne_of_lt hb)), [], .nil, Heap.DictOf.new h⟩
/-- {}, to be a dict of the kind that is wanted -/
def tDNewK : TE := fun _ H Q => ∀ p, H p = none → Q (.ref p) (upd H p (.dK []))
section
variable {X : Cx} {pos : Pos}
theorem pe_dnewK : PE X (.Dict [] [] pos) tDNewK := fun pins s σ H Q I h =>
  wpAny_Dict_empty ⟨.ref s.heap.objs.size, _, I.laid (a := s.heap.objs.size) (o := .dK []) (t' := s.toks) (fun _ _ q => Heap.get?_push_of_some _ q) (Nat.le_refl _) (dk_empty s.heap I.big), rfl, h _ (I.hok.fresh (Nat.le_refl _))⟩
end

def mergeK (kvs more : List (Key × V)) : List (Key × V) := more.foldl (fun acc kv => putK acc kv.1 kv.2) kvs
theorem KV.merge : ∀ {more : List (Key × V)} {rs : List (Key × Value)} {kvs : List (Key × V)} {vs : List (Key × Value)}, KV more rs → KV kvs vs → KV (mergeK kvs more) (merged vs rs) := by
  intro more rs kvs vs r
  unfold KV at r
  induction r generalizing kvs vs with
  | nil => intro q; exact q
  | @cons p q ps qs h t ih =>
    intro r0
    have e : KV (putK kvs p.1 p.2) (stored vs q.1 q.2) := by
      have := r0.put p.1 h.2
      rw [← h.1]; exact this
    exact ih e
theorem length_mergeK : ∀ (more kvs : List (Key × V)), (mergeK kvs more).length ≤ kvs.length + more.length
  | [], kvs => by show kvs.length ≤ kvs.length + 0; omega
  | p :: r, kvs => by
    have h1 := length_mergeK r (putK kvs p.1 p.2)
    have h2 := length_putK kvs p.1 p.2
    show (mergeK (putK kvs p.1 p.2) r).length ≤ _
    rw [List.length_cons]; omega

/-! ### methods -/

section
variable {X : Cx} {pins : List (Addr × Obj)} {σ : St} {H : Hp} {s : Shared} {a : Addr} {y d : V} {u r : Value} {o : Option V} {A : Around} {E : Value → Shared → Prop}
end

section
variable {X : Cx} {o e f : Expr} {apos cpos : Pos} {td ty tx : TE}
end

/-! ### dict(d): a copy -/
section
variable {X : Cx} {pins : List (Addr × Obj)} {σ : St} {H : Hp} {s : Shared} {a : Addr} {kvs : List (Key × V)} {A : Around} {E : Value → Shared → Prop}
end

section
variable {X : Cx} {pins : List (Addr × Obj)} {σ : St} {H : Hp} {s : Shared} {a : Addr} {y : V} {u : Value} {A : Around} {E : Value → Shared → Prop}
end
end L2
namespace L2
open PySem PySem.Spec PyProof.Rows
section
variable {X : Cx}
end

section
variable {κ : Type} [DecidableEq κ]
end
end L2

namespace L2
open PySem PySem.Spec PyProof.Rows
/-- a block that names variables of the def: cl its cells, js their places -/
theorem Caps.of {X : Cx} {scope : Scope} {cl : List (Str × Addr)} {N' : List Str} {n : Nat} {js : List Nat} (clos : closureFor scope X.env = pure cl) (k : scope.kind = .function) (hc : ∀ y ∈ scope.names, y.2 ≠ .cell)
    (hn : ∀ y ∈ scope.names, y.2 = .local → scope.names.lookup y.1 = some .local) (hl : N'.length = n + js.length) (hsub : ∀ p ∈ cl, X.env.cells.lookup p.1 = some p.2) (fr : List Str) (hfr : cl.map (·.1) = fr) (hhas : ∀ y ∈ scope.names, y.2 = .free → y.1 ∈ fr)
    (hcap : ∀ q ∈ js.zip (N'.drop n), X.N[q.1]? = some q.2 ∧ scope.names.lookup q.2 = some .free ∧ (X.env.kindOf q.2 = some .cell ∨ X.env.kindOf q.2 = some .free)) : Caps X scope cl N' n js := by
  refine ⟨clos, k, hc, hn, hl, fun x c h => hsub (x, c) (PySem.mem_of_lookup h), fun x h => ?_, fun i j h => ?_⟩
  · have hm : x ∈ cl.map (·.1) := by rw [hfr]; exact hhas (x, .free) (PySem.mem_of_lookup h) rfl
    cases e : cl.lookup x with
    | some c => exact ⟨c, rfl⟩
    | none =>
      rw [List.lookup_eq_none_iff] at e
      obtain ⟨p, hp, e2⟩ := List.mem_map.mp hm
      have := e p hp
      simp [e2] at this
  · have hi : i < js.length := (List.getElem?_eq_some_iff.mp h).1
    have hi2 : i < (N'.drop n).length := by rw [List.length_drop]; omega
    have e1 : (N'.drop n)[i]? = some (N'.drop n)[i] := List.getElem?_eq_getElem hi2
    have hz : (j, (N'.drop n)[i]) ∈ js.zip (N'.drop n) := by
      refine List.mem_of_getElem? (i := i) ?_
      rw [List.getElem?_zip_eq_some]
      exact ⟨h, e1⟩
    obtain ⟨h1, h2, h3⟩ := hcap _ hz
    refine ⟨(N'.drop n)[i], ?_, h1, h2, h3⟩
    rw [← e1, List.getElem?_drop]
/-! ### a comprehension over a range, the reading -/
/-! a comprehension over a tuple -/
theorem comp_tup {K : PySem.W.Frag} {a D : Addr} {xs : List V} {g : TG} {tt : TT} {te : TE} {σ0 : St} {H1 : Hp} {Q : Hp → Prop} (Pv : Nat → List V → St → Hp → Prop) (hx : xs.length ≤ sizeLine) (h0 : Pv 0 [] σ0 (upd H1 D (.lst [])))
    (hl : ∀ i ys σ H, i ≤ xs.length → Pv i ys σ H → SqT K H a xs ∧ H D = some (.lst ys) ∧ ys.length ≤ i)
    (hs : ∀ i x ys σ H, xs[i]? = some x → Pv i ys σ H → g x σ H fun σ3 H3 => tt σ3 H3 fun ok H4 => if ok = true then te σ3 H4 fun y H5 => H5 D = some (.lst ys) ∧ Pv (i + 1) (ys ++ [y]) σ3 (upd H5 D (.lst (ys ++ [y]))) else Pv (i + 1) ys σ3 H4)
    (hd : ∀ ys σ H, Pv xs.length ys σ H → Q H) :
    ∃ W : Nat → Nat → St → Hp → Prop, (∃ m, W 0 m σ0 (upd H1 D (.lst []))) ∧ ∀ i m σ' H', W i m σ' H' →
      ((Itt K a).stop i H' ∧ Q H') ∨ ((Itt K a).go i H' ∧ ∃ (Ay : V → St → Hp → Prop) (An : St → Hp → Prop), (∀ y σ3 H5, Ay y σ3 H5 → ∃ ys, H5 D = some (.lst ys) ∧ ys.length < sizeLine ∧ ∃ m', m' < m ∧ W (i + 1) m' σ3 (upd H5 D (.lst (ys ++ [y])))) ∧
        (∀ σ3 H4, An σ3 H4 → ∃ m', m' < m ∧ W (i + 1) m' σ3 H4) ∧
        ∀ x H2, (Itt K a).yld i H' x H2 → g x σ' H2 fun σ3 H3 => tt σ3 H3 fun ok H4 => if ok = true then te σ3 H4 (fun y H5 => Ay y σ3 H5) else An σ3 H4) := by
  refine ⟨fun i m σ H => m = xs.length - i ∧ i ≤ xs.length ∧ ∃ ys, Pv i ys σ H, ⟨xs.length, by simp, Nat.zero_le _, [], h0⟩, ?_⟩
  rintro i m σ H ⟨rfl, hi, ys, p⟩
  obtain ⟨q, hy, hyl⟩ := hl i ys σ H hi p
  by_cases hlt : i < xs.length
  · refine .inr ⟨⟨xs, xs[i], q, by simp [hlt]⟩, fun y σ3 H5 => H5 D = some (.lst ys) ∧ Pv (i + 1) (ys ++ [y]) σ3 (upd H5 D (.lst (ys ++ [y]))), fun σ3 H4 => Pv (i + 1) ys σ3 H4,
      fun y σ3 H5 ⟨e, p'⟩ => ⟨ys, e, by omega, xs.length - (i + 1), by omega, rfl, hlt, _, p'⟩, fun σ3 H4 p' => ⟨xs.length - (i + 1), by omega, rfl, hlt, _, p'⟩, fun x H' y => ?_⟩
    obtain ⟨e, y⟩ := y
    subst e
    exact hs i x ys σ H' (y xs q) p
  · have : i = xs.length := by omega
    subst this
    exact .inl ⟨⟨xs, q, Nat.le_refl _⟩, hd ys σ H p⟩
end L2

namespace L2
open PySem PySem.Spec PyProof.Rows
/-! ### lists of written texts -/
end L2

set_option autoImplicit true
set_option relaxedAutoImplicit true
namespace L2
open PySem PySem.Spec PyProof.Rows
structure QE (X : Cx) (e : Expr) (t : TE) : Prop where
  go : PE X e t
structure QT (X : Cx) (e : Expr) (t : TT) : Prop where
  go : PT X e t
structure QW (X : Cx) (e : Expr) (t : TT) : Prop where
  go : PW X e t
structure QA (X : Cx) (es : List Expr) (t : TA) : Prop where
  go : PA X es t
structure QS (X : Cx) (s : Stmt) (t : TS) : Prop where
  go : PS X s t
structure QSs (X : Cx) (ss : List Stmt) (t : TS) : Prop where
  go : PSs X ss t
structure QG (X : Cx) (e : Expr) (t : TG) : Prop where
  go : PG X e t
structure QGs (X : Cx) (es : List Expr) (t : TGs) : Prop where
  go : PGs X es t
structure QI (X : Cx) (tg iter : Expr) (t : TI) : Prop where
  go : PI X tg iter t
structure QTS (X : Cx) (es : List Expr) (t : TT) : Prop where
  go : PTS X es t
structure QO (X : Cx) (e : Option Expr) (t : TO) : Prop where
  go : PO X e t
section
variable {X : Cx}
theorem qa_cons (ha : QE X e te) (hr : QA X es t) (hs : starEach (e :: es) X.env = (false, eval e X.env) :: starEach es X.env := by rfl) : QA X (e :: es) (tCons te t) := ⟨pa_cons ha.go hr.go hs⟩
theorem qa_nil  : QA X [] tNil := ⟨pa_nil ⟩
theorem qe_int {i j pos} : QE X (.Constant (.int i) j pos) (tC (.int i)) := ⟨pe_int ⟩
theorem qe_op {op : Operator} {r : R2} (ho : OpR X (binaryOp op) r) (ha : QE X a ta) (hb : QE X b tb) : QE X (.BinOp a op b pos) (tOp r ta tb) := ⟨pe_op ho ha.go hb.go⟩
theorem qss_one (h1 : QS X st_ t) : QSs X [st_] t := ⟨pss_one h1.go⟩
theorem qss_cons (h1 : QS X st_ t) (h2 : QSs X rest_ u) : QSs X (st_ :: rest_) (tSeq t u) := ⟨pss_cons h1.go h2.go⟩
theorem qs_ret (he : QE X e te) : QS X (.Return (some e) pos) (tRet te) := ⟨ps_ret he.go⟩
theorem qe_fn (F : FnB X.prog X.w X.K X.mg X.base k x ps sp) (hr : Room k X.A) (hg : Gl X x) (ha : QA X (e :: es) t) (hdb : (x == ("__debug__" : Str)) = false := by decide) (he : starEach (e :: es) X.env = (false, eval e X.env) :: starEach es X.env := by rfl) (hpl : (backTo pos (starEach es X.env)).any (·.1) = false := by rfl) : QE X (.Call (.Name x p) (e :: es) [] pos) (tCall sp [] E0 t) := ⟨pe_fn F hr hg ha.go hdb he hpl⟩
theorem qt_cmpR {op : CmpOp} {r : R2} (ho : OpR X (compareOp op) r) (ha : QE X a ta) (hb : QE X b tb) (hm : behindInMarks op b = false) : QT X (.Compare a [op] [b] pos) (tTest (tOp r ta tb)) := ⟨pt_cmpR ho ha.go hb.go hm⟩
theorem qs_if {c : Expr} {a b : List Stmt} {tc : TT} (hc : QT X c tc) (ha : QSs X a t) (hb : QSs X b u) : QS X (.If c a b pos) (tIfS tc t u) := ⟨ps_if hc.go ha.go hb.go⟩
theorem qss_nil  : QSs X [] tNext := ⟨pss_nil ⟩
theorem qe_str {x j pos} : QE X (.Constant (.str x) j pos) (tC (.str x)) := ⟨pe_str ⟩
theorem qs_set {i : Nat} {x : Str} {e : Expr} {te : TE} {pos' : Pos} (hN : X.N.Nodup) (hi_ : X.N[i]? = some x) (hx : Loc X.env.scope x) (he : QE X e te) (hs : swapsWith e (some (.Name x pos')) pos.line X.env = pure false := by rfl) (hf : X.fn x = true ∨ X.env.scope.names.lookup x = some .local := by first | exact .inl rfl | exact .inr rfl | assumption) : QS X (.Assign [.Name x pos'] e pos) (tAsg te (gName i)) := ⟨ps_set hN hi_ hx he.go hs hf⟩
theorem qe_callB (hc : CallR X (.builtin id_) r) (hg : Gl X x) (hm : X.mg x = none) (hv : bootBuiltins x = some (.builtin id_)) (ha : QA X (e :: es) t) (hn : x ≠ "__name__" := by decide) (hdb : (x == ("__debug__" : Str)) = false := by decide) (he : starEach (e :: es) X.env = (false, eval e X.env) :: starEach es X.env := by rfl) (hpl : (backTo pos (starEach es X.env)).any (·.1) = false := by rfl) : QE X (.Call (.Name x p) (e :: es) [] pos) (tCB r t) := ⟨pe_callB hc hg hm hv ha.go hn hdb he hpl⟩
theorem qe_cmpR {op : CmpOp} {r : R2} (ho : OpR X (compareOp op) r) (ha : QE X a ta) (hb : QE X b tb) (hm : behindInMarks op b = false) : QE X (.Compare a [op] [b] pos) (tOp r ta tb) := ⟨pe_cmpR ho ha.go hb.go hm⟩
theorem qe_lst (h : QA X es t) : QE X (.List es pos) (tLst t) := ⟨pe_lst h.go⟩
theorem qg_name {i : Nat} {x : Str} (hN : X.N.Nodup) (hi_ : X.N[i]? = some x) (hx : Loc X.env.scope x) (hf : X.fn x = true ∨ X.env.scope.names.lookup x = some .local := by first | exact .inl rfl | exact .inr rfl | assumption) : QG X (.Name x pos) (gName i) := ⟨pg_name hN hi_ hx hf⟩
theorem qe_ix {r : R2} (hr : IxR X r) (ha : QE X a ta) (hb : QE X b tb) (hs : PlainIx b) : QE X (.Subscript a b pos) (tOp r ta tb) := ⟨pe_ix hr ha.go hb.go hs⟩
theorem qt_val {e : Expr} {t : TE} (h : QE X e t) (he : ∀ whole, isTrue e X.env whole = (do let v ← whole; standAt e.pos; holding [v] (truthy v)) := by intro _; rfl) : QT X e (tB t) := ⟨pt_val h.go he⟩
theorem qe_bl {b j pos} : QE X (.Constant (.bool b) j pos) (tC (.bl b)) := ⟨pe_bl ⟩
theorem qt_not (ha : QT X a tA) : QT X (.UnaryOp .Not a pos) (tNot tA) := ⟨pt_not ha.go⟩
theorem qe_bltn {x : Str} {v : V} {u : Value} {pos : Pos} (hg : Gl X x) (hm : X.mg x = none) (hv : bootBuiltins x = some u) (r : RelV v u) (hn : x ≠ "__name__" := by decide) (hd : (x == ("__debug__" : Str)) = false := by decide) : QE X (.Name x pos) (tC v) := ⟨pe_bltn hg hm hv r hn hd⟩
theorem qw_or (ha : QT X a tA) (hb : QW X (.BoolOp .Or (b :: rest_) pos) tB') : QW X (.BoolOp .Or (a :: b :: rest_) pos) (tOr tA tB') := ⟨pw_or ha.go hb.go⟩
theorem qe_and (ha : QE X a ta) (hb : QE X (.BoolOp .And (b :: rest_) pos) tb) : QE X (.BoolOp .And (a :: b :: rest_) pos) (tAndV ta tb) := ⟨pe_and ha.go hb.go⟩
theorem qs_for {iter : Expr} {body : List Stmt} {wi : TI} {g : TG} {tb : TS} {pos : Pos} (hp : PassesOwn (model X.prog X.w) X.A X.env X.xe) (hc : X.calm = true) (hi_ : QI X tg iter wi) (hg : QG X tg g) (hb : QSs X body tb) (hs : ∀ x, foldedSetIterable iter X.env x = pure x := by intro _; rfl) : QS X (.For tg iter body [] pos) (tFor wi g tb) := ⟨ps_for hp hc hi_.go hg.go hb.go hs⟩
theorem qo_some (h : QE X e te) : QO X (some e) (tPart te) := ⟨po_some h.go⟩
theorem qe_one {op} {t : TE} (h : QE X a t) : QE X (.BoolOp op [a] pos) t := ⟨pe_one h.go⟩
theorem qw_or1 (ha : QT X a tA) : QW X (.BoolOp .Or [a] pos) tA := ⟨pw_or1 ha.go⟩
theorem qe_gint {x : Str} {i : Int} {t : Tok} {pos : Pos} (hg : Gl X x) (hm : X.mg x = some (.int i t)) (hd : (x == ("__debug__" : Str)) = false := by decide) : QE X (.Name x pos) (tC (.int i)) := ⟨pe_gint hg hm hd⟩
theorem qe_slice {r : V → Option Int → Option Int → Hp → VK → Prop} (hr : SlR X r) (he : QE X e te) (hl : QO X lo_ tl) (hu : QO X hi_ th) : QE X (.Subscript e (.Slice lo_ hi_ none p2) pos) (tSl r te tl th) := ⟨pe_slice hr he.go hl.go hu.go⟩
theorem qe_callTy (hc : CallR X (.type T) r) (hg : Gl X x) (hm : X.mg x = none) (hv : bootBuiltins x = some (.type T)) (ha : QA X (e :: es) t) (hn : x ≠ "__name__" := by decide) (hdb : (x == ("__debug__" : Str)) = false := by decide) (he : starEach (e :: es) X.env = (false, eval e X.env) :: starEach es X.env := by rfl) (hpl : (backTo pos (starEach es X.env)).any (·.1) = false := by rfl) : QE X (.Call (.Name x p) (e :: es) [] pos) (tCB r t) := ⟨pe_callTy hc hg hm hv ha.go hn hdb he hpl⟩
theorem qe_bm (pa : PlainAttrs T) (slot_ : Slot T name_ id_) (hty : typeOf (.builtin id_) = pure (.type "method_descriptor")) (hm : MtR X id_ r) (ho : QE X o to_) (ha : QA X (e :: es) t) (hbase : attributeBase o name_ X.env (eval o X.env) = eval o X.env := by rfl) (hfew : ((backTo cpos (starEach (e :: es) X.env)).all (fun x => !x.1) && (backToKw cpos (keywordEach [] X.env)).all (fun x => x.1.isSome) && decide ((e :: es).length + ([] : List Keyword).length + (if ([] : List Keyword).isEmpty then 0 else 1) < 30)) = true := by rfl) (hline : (apos.endLine == cpos.line) = true := by rfl) (hs : starEach (e :: es) X.env = (false, eval e X.env) :: starEach es X.env := by rfl) (hplain : (backTo cpos (starEach es X.env)).any (·.1) = false := by rfl) : QE X (.Call (.Attribute o name_ apos) (e :: es) [] cpos) (tBM X.K T r to_ t) := ⟨pe_bm pa slot_ hty hm ho.go ha.go hbase hfew hline hs hplain⟩
theorem qgs_cons {e : Expr} {es : List Expr} {t : TG} {u : TGs} (h1 : QG X e t) (h2 : QGs X es u) (hs : (assignEach (e :: es) X.env).map (·.2) = assign e X.env :: (assignEach es X.env).map (·.2) := by rfl) : QGs X (e :: es) (gCons t u) := ⟨pgs_cons h1.go h2.go hs⟩
theorem qe_tup {x1} (h : QA X es t) : QE X (.Tuple es x1 pos) (tTup t) := ⟨pe_tup h.go⟩
theorem qs_never  : QS X st_ tNever := ⟨ps_never ⟩
theorem qo_none  : QO X none tNoPart := ⟨po_none ⟩
theorem qi_list {l : Expr} {tl : TE} (hl : QE X l tl) : QI X tg l (iList X.K tl) := ⟨pi_list hl.go⟩
theorem qs_expr (he : QE X e te) (hs : swapsWith e none pos.line X.env = pure false := by rfl) : QS X (.Expr e pos) (tDrop te) := ⟨ps_expr he.go hs⟩
theorem qe_non {j pos} : QE X (.Constant .none j pos) (tC .non) := ⟨pe_non ⟩
theorem qts_nil  : QTS X [] tYes := ⟨pts_nil ⟩
theorem qgs_nil  : QGs X [] gNil := ⟨pgs_nil ⟩
theorem qg_tup {es : List Expr} {k : Nat} {t : TGs} {n : Nat} (hc : X.calm = true) (h : QGs X es t) (hn : (assignEach es X.env).length = n := by rfl) (hst : (assignEach es X.env).findIdx? (·.1) = none := by rfl) : QG X (.Tuple es k pos) (gTup X.K n t) := ⟨pg_tup hc h.go hn hst⟩
theorem qt_chain {op op' : CmpOp} {r r' : R2} (ho : OpR X (compareOp op) r) (ho' : OpR X (compareOp op') r') (ha : QE X a ta) (hb : QE X b tb) (hc : QE X c tc) (hm : lastMarks [op, op'] [b, c] = false := by with_unfolding_all rfl) : QT X (.Compare a [op, op'] [b, c] pos) (tTest (tChain r r' ta tb tc)) := ⟨pt_chain ho ho' ha.go hb.go hc.go hm⟩
theorem qi_tup {l : Expr} {tl : TE} (hl : QE X l tl) : QI X tg l (iTup X.K tl) := ⟨pi_tup hl.go⟩
theorem qe_or (ha : QE X a ta) (hb : QE X (.BoolOp .Or (b :: rest_) pos) tb) : QE X (.BoolOp .Or (a :: b :: rest_) pos) (tOrV ta tb) := ⟨pe_or ha.go hb.go⟩
theorem qe_not (ha : QE X a ta) : QE X (.UnaryOp .Not a pos) (tNotV ta) := ⟨pe_not ha.go⟩
theorem qe_dget (hu : X.A.units + 1 < cLine) (ho : QE X o td) (hi_ : QE X i ty) (hs : NoSl i) : QE X (.Subscript o i pos) (tDGet td ty) := ⟨pe_dget hu ho.go hi_.go hs⟩
theorem qe_chain {op op' : CmpOp} {r r' : R2} (ho : OpR X (compareOp op) r) (ho' : OpR X (compareOp op') r') (ha : QE X a ta) (hb : QE X b tb) (hc : QE X c tc) (hm : lastMarks [op, op'] [b, c] = false := by with_unfolding_all rfl) : QE X (.Compare a [op, op'] [b, c] pos) (tChain r r' ta tb tc) := ⟨pe_chain ho ho' ha.go hb.go hc.go hm⟩
theorem qts_one {c : Expr} {tt : TT} (h : QT X c tt) : QTS X [c] tt := ⟨pts_one h.go⟩
theorem qi_str {n : Str} {p : Pos} {l : Expr} {tl : TE} (hl : QE X l tl) : QI X (.Name n p) l (iStr tl) := ⟨pi_str hl.go⟩
theorem qs_asg {tg e : Expr} {te : TE} {g : TG} (he : QE X e te) (hg : QG X tg g) (hs : swapsWithSole [tg] e pos.line X.env = pure false := by rfl) (hw : swappedStores [tg] e X.env = pure none := by rfl) (h1 : (assignEach [tg] X.env).map (·.2) = [assign tg X.env] := by rfl) : QS X (.Assign [tg] e pos) (tAsg te g) := ⟨ps_asg he.go hg.go hs hw h1⟩
theorem qv (i : Nat) {x : Str} {pos : Pos} (hN : X.N[i]? = some x := by rfl) (hv : Vis X.env.scope x := by first | exact Or.inl rfl | exact Or.inr (Or.inl rfl) | exact Or.inr (Or.inr rfl)) (hd : (x == ("__debug__" : Str)) = false := by decide) (hcd : (x == ("__classdict__" : Str)) = false := by decide) : QE X (.Name x pos) (tVar i) := ⟨pv i hN hv hd hcd⟩
theorem QW.pt {e : Expr} {t : TT} (h : QW X e t) : QT X e t := ⟨h.go.pt⟩
theorem qe_comp {scope : Scope} {cl : List (Str × Addr)} {N' : List Str} {n : Nat} {js : List Nat} {tg iter elt : Expr} {ifs : List Expr} {pos : Pos} {wi : TI} {g : TG} {tt : TT} {te : TE} (c : Caps X scope cl N' n js) (hc : X.calm = true) (hi : QI X tg iter wi) (hin : ∀ s3 H3 fp, QG (cxC X N' scope cl s3 H3 fp) tg g ∧ QTS (cxC X N' scope cl s3 H3 fp) ifs tt ∧ QE (cxC X N' scope cl s3 H3 fp) elt te) (hs : ∀ x, foldedSetIterable iter X.env x = pure x := by intro _; rfl) : QE X (.ListComp elt [⟨tg, iter, ifs, 0⟩] scope pos) (tComp (capσ n js) wi g tt te) := ⟨pe_comp c hc hi.go (fun s3 H3 fp => ⟨(hin s3 H3 fp).1.go, (hin s3 H3 fp).2.1.go, (hin s3 H3 fp).2.2.go⟩) hs⟩
theorem qs_comp {scope : Scope} {cl : List (Str × Addr)} {N' : List Str} {n : Nat} {js : List Nat} {tg iter elt : Expr} {ifs : List Expr} {pos spos py : Pos} {wi : TI} {g : TG} {tt : TT} {te : TE} {i0 : Nat} {y : Str} (hN : X.N.Nodup) (hi' : X.N[i0]? = some y) (hx : X.env.scope.names.lookup y = some .local) (hsw : swapsWith (.ListComp elt [⟨tg, iter, ifs, 0⟩] scope pos) (some (.Name y py)) spos.line X.env = pure true) (c : Caps X scope cl N' n js) (hc : X.calm = true) (hi : QI X tg iter wi) (hin : ∀ s3 H3 fp, QG (cxC X N' scope cl s3 H3 fp) tg g ∧ QTS (cxC X N' scope cl s3 H3 fp) ifs tt ∧ QE (cxC X N' scope cl s3 H3 fp) elt te) (hs : ∀ x, foldedSetIterable iter X.env x = pure x := by intro _; rfl) : QS X (.Assign [.Name y py] (.ListComp elt [⟨tg, iter, ifs, 0⟩] scope pos) spos) (tAsg (tComp (capσ n js) wi g tt te) (gName i0)) := ⟨ps_comp hN hi' hx hsw c hc hi.go (fun s3 H3 fp => ⟨(hin s3 H3 fp).1.go, (hin s3 H3 fp).2.1.go, (hin s3 H3 fp).2.2.go⟩) hs⟩
end
theorem Fun.okQ {P : Program} {w : World} {K : PySem.W.Frag} {mg : Str → Option Value} {base : Heap} {x qual : Str} {st_ : Stmt} {f : Addr} {fd : FuncData} {N ps : List Str} {k : Nat} {sp : Sp} (F : Fun K x qual st_ f fd) (S : FnScope N ps (defScope st_)) (len : ∀ vs H Q E, sp vs H Q E → vs.length = ps.length) (hbody : ∀ (cdv : Value) (A : Around) (outer : List Env) (s : Shared) (H : Hp) (vs : List V) (Q : VK) (E : XK), Room k (A.deeper (envOfC qual (defScope st_) s.heap.objs.size f cdv)) → sp vs H Q E → ∃ t, QSs (cxOf CX0 P w K mg base N qual (defScope st_) f cdv A outer s H E).nox (defBody st_) t ∧ t { nx := fun _ H' => Q .non H', rt := Q } (start N vs) H) : FnOk P w K mg base CX0 (k + 1) f fd ps sp := F.ok S len fun cdv A outer s H vs Q E hr hsp => let ⟨t, h, q⟩ := hbody cdv A outer s H vs Q E hr hsp; ⟨t, h.go, q⟩
end L2

namespace L2
open PySem PySem.Spec PyProof.Rows
/-! ### a heap without some of its objects -/
def outO (o : Obj) : Obj := { o with data := .freed }
def without (h : Heap) : List Addr → Heap
  | [] => h
  | a :: l => (without h l).update a outO
theorem out_get {h : Heap} {a : Addr} : (h.update a outO).get? a = none := by
  obtain ⟨objs, l⟩ := h
  show (match (objs.modify a outO)[a]? with | some ⟨_, _, .freed, _⟩ => none | o => o) = none
  rw [Array.getElem?_modify, if_pos rfl]
  cases objs[a]? with
  | none => rfl
  | some o => rfl
theorem without_in {h : Heap} : ∀ {l : List Addr} {b : Addr}, b ∈ l → (without h l).get? b = none
  | [], b, hb => by simp at hb
  | a :: l, b, hb => by
    by_cases e : a = b
    · subst e; exact out_get
    · show ((without h l).update a outO).get? b = none
      rw [Heap.get?_update_other _ _ e]
      rcases List.mem_cons.mp hb with q | q
      · exact absurd q.symm e
      · exact without_in q
theorem without_out {h : Heap} : ∀ {l : List Addr} {b : Addr}, b ∉ l → (without h l).get? b = h.get? b
  | [], b, hb => rfl
  | a :: l, b, hb => by
    have e : a ≠ b := fun z => hb (z ▸ List.mem_cons_self ..)
    show ((without h l).update a outO).get? b = _
    rw [Heap.get?_update_other _ _ e]
    exact without_out fun z => hb (List.mem_cons_of_mem _ z)
theorem without_stays {h : Heap} {l : List Addr} : (without h l).StaysIn h := fun b o e => by
  by_cases hb : b ∈ l
  · rw [without_in hb] at e; cases e
  · rw [without_out hb] at e; exact e
theorem frames_rebase {h B B' : Heap} : ∀ {l : List Env}, h.FunFrames B l → (∀ b ∈ frs l, B'.get? b = none) → h.FunFrames B' l
  | [], _, _ => trivial
  | env :: l, ⟨k, ⟨L, o, hf, _, ho, hd⟩, r⟩, hB => by
    refine ⟨k, ⟨L, o, hf, hB L ?_, ho, hd⟩, frames_rebase r fun b hb => hB b ?_⟩
    · show L ∈ (env :: l).filterMap (·.frame)
      rw [List.filterMap_cons, hf]; exact List.mem_cons_self ..
    · show b ∈ (env :: l).filterMap (·.frame)
      rw [List.filterMap_cons, hf]; exact List.mem_cons_of_mem _ hb
/-! ### what is tracked is there -/
theorem ObjOk.there {P : Program} {w : World} {H : Hp} {h : Heap} {a : Addr} {o : HO} (x : ObjOk P w H h a o) : ∃ ob, h.get? a = some ob := by
  cases o with
  | lst xs => obtain ⟨_, _, _, _, e⟩ := x; exact ⟨_, e⟩
  | tup xs => obtain ⟨_, _, _, ob, e, _⟩ := x; exact ⟨_, e⟩
  | dK kvs => obtain ⟨_, _, _, _, o, _, _, e, _⟩ := x; exact ⟨_, e⟩
  | dT kvs => obtain ⟨_, _, _, _, o, _, _, e, _⟩ := x; exact ⟨_, e⟩
  | set S n => obtain ⟨o, _, _, _, e, _⟩ := x; exact ⟨_, e⟩
  | ins C dx fs => obtain ⟨_, _, _, e, _⟩ := x; exact ⟨_, e⟩
  | own y => exact x
  | xd fs => obtain ⟨_, ⟨_, _, _, e, _⟩, _⟩ := x; exact ⟨_, e⟩
  | rng lo hi => obtain ⟨_, _, _, e⟩ := x; exact ⟨_, e⟩
  | frz ob u => obtain ⟨e, _⟩ := x; exact ⟨_, e⟩
  | tbl ps => exact ⟨_, show h.get? a = some _ from x⟩
  | met f y => exact ⟨_, show h.get? a = some _ from x⟩
  | ext φ => obtain ⟨_, e, _⟩ := x; exact e
theorem HOk.none_of {P : Program} {w : World} {H : Hp} {h : Heap} {a : Addr} (x : HOk P w H h) (e : h.get? a = none) : H a = none := by
  cases q : H a with
  | none => rfl
  | some o => obtain ⟨ob, r⟩ := (x a o q).there; rw [e] at r; cases r
/-- the tracked objects are kept -/
theorem HOk.keptT {P : Program} {w : World} {H : Hp} {h h' : Heap} (x : HOk P w H h) (k : ∀ b u o, H b = some o → h.get? b = some u → h'.get? b = some u) : HOk P w H h' := fun a o e =>
  (x a o e).stay (fun b u hb q => by
    rcases hb with rfl | hb
    · exact k _ u o e q
    · exact k b u _ hb q) (fun _ q => q) fun _ _ q => q
/-- an object that is there is tracked -/
theorem HOk.track {P : Program} {w : World} {H : Hp} {h : Heap} {a : Addr} {o : HO} (x : HOk P w H h) (hn : H a = none) (new : ObjOk P w (upd H a o) h a o) : HOk P w (upd H a o) h := fun b u e => by
  by_cases hb : b = a
  · subst hb; rw [upd_same] at e; cases e; exact new
  · rw [upd_ne hb] at e
    exact (x b u e).stay (fun c v _ q => q) (fun c q => by rw [upd_ne (ne_of_none q hn)]; exact q) fun c xs q => by rw [upd_ne (ne_of_none q hn)]; exact q

/-! ### an exception's record -/
/-- e is of the class cls; T: the newest entry of its traceback, at rest -/
def Rec (h : Heap) (e : Addr) (cls : Value) : Option Addr → Prop
  | none => ∃ oe vs, h.get? e = some oe ∧ oe.cls = cls ∧ oe.data = .fields vs ∧ vs[1]? = some .none
  | some T => ∃ oe vs oT ts, h.get? e = some oe ∧ oe.cls = cls ∧ oe.data = .fields vs ∧ vs[1]? = some (.ref T) ∧ T ≠ e ∧ h.get? T = some oT ∧ oT.data = .fields ts ∧ ts[3]? = some .none
theorem Rec.made {h h' : Heap} {e : Addr} {cls : Value} {vs : List Value} (x : Heap.MadeExcOf h h' e cls vs) : Rec h' e cls none := by
  obtain ⟨t, q, _⟩ := x.there
  exact ⟨_, _, q, rfl, rfl, rfl⟩
/-- what a look at the record in a frame leaves: l the frames, h, h' the heaps -/
structure Noted (l : List Env) (e : Addr) (cls : Value) (T : Option Addr) (h h' : Heap) (T' : Addr) : Prop where
  rc : Rec h' e cls (some T')
  new : h.get? T' = none ∨ T = some T'
  keep : ∀ b o, h.get? b = some o → b ∉ frs l → b ≠ e → T ≠ some b → h'.get? b = some o
  slot : ∀ b o, h.get? b = some o → b ∈ frs l → ∃ sl, h'.get? b = some { o with slots := sl }
section
variable {M : Model} {A : Around} {E : Value → Shared → Prop} {s : Shared} {env : Env} {outer : List Env} {L e : Addr} {cls : Value}
theorem noted_of {B : Heap} {h h' : Heap} {T : Option Addr} (hF : h.FunFrames B (env :: outer)) (lf : Heap.Left (without h (e :: (T.toList ++ frs (env :: outer)))) (env :: outer) e cls h h') : ∃ T', Noted (env :: outer) e cls T h h' T' := by
  obtain ⟨st, ff, ⟨oe, vs, T', oT, ts, h1, h2, h3, h4, h5, h6, h7, h8, h9⟩, sl⟩ := lf
  refine ⟨T', ⟨oe, vs, oT, ts, h1, h2, h3, h4, h6, h7, h8, h9⟩, ?_, fun b o hb n1 n2 n3 => ?_, fun b o hb hin => ?_⟩
  · by_cases hm : T' ∈ e :: (T.toList ++ frs (env :: outer))
    · rcases List.mem_cons.mp hm with q | q
      · exact absurd q h6
      · rcases List.mem_append.mp q with q | q
        · cases T with
          | none => simp at q
          | some t => simp at q; exact .inr (by rw [q])
        · obtain ⟨_, o, ho, hd⟩ := ff.mem q
          rw [h7] at ho; cases ho
          exact absurd h8 (hd ts)
    · rw [without_out hm] at h5; exact .inl h5
  · refine st b o ?_
    rw [without_out ?_]
    · exact hb
    · intro z
      rcases List.mem_cons.mp z with z | z
      · exact n2 z
      · rcases List.mem_append.mp z with z | z
        · cases T with
          | none => simp at z
          | some t => simp at z; exact n3 (by rw [z])
        · exact n1 z
  · obtain ⟨_, o', ho', hd'⟩ := hF.mem hin
    rw [hb] at ho'; cases ho'
    exact sl b o hb hd'
/-- a frame is noted in an exception's traceback, and the flight ends -/
theorem note_any {B : Heap} {T : Option Addr} {Q : Unit → Shared → Prop} (hA : A.frames = some (env :: outer)) (hL : env.frame = some L) (hF : s.heap.FunFrames B (env :: outer)) (r : Rec s.heap e cls T)
    (k : ∀ h' T', Noted (env :: outer) e cls T s.heap h' T' → Q () { s with heap := h' }) : wpAny M A (noteFrame (.ref e) env) (fun _ s2 => wpAny M A (setFlight (.ref e) none) Q E s2) E s := by
  have hB : ∀ b ∈ frs (env :: outer), (without s.heap (e :: (T.toList ++ frs (env :: outer)))).get? b = none := fun b hb => without_in (List.mem_cons_of_mem _ (List.mem_append_right _ hb))
  have hF' := frames_rebase hF hB
  have hE : (without s.heap (e :: (T.toList ++ frs (env :: outer)))).get? e = none := without_in (List.mem_cons_self ..)
  have fin : ∀ h', Heap.Left (without s.heap (e :: (T.toList ++ frs (env :: outer)))) (env :: outer) e cls s.heap h' → Q () { s with heap := h' } := fun h' lf => by
    obtain ⟨T', n⟩ := noted_of hF lf
    exact k h' T' n
  cases T with
  | none =>
    obtain ⟨oe, vs, g1, rfl, g3, g4⟩ := r
    show wpAny M A (noteFrame (.ref e) env) _ E s
    unfold noteFrame
    simp only [hL]
    refine wpAny_bind (wpAny_field g1 g3 g4 ?_)
    rw [if_neg (by decide)]
    exact wpAny_newEntry hA hF' hL g1 without_stays hE g3 (Array.getElem?_eq_some_iff.mp g4).1 fin
  | some T =>
    obtain ⟨oe, vs, oT, ts, g1, rfl, g3, g4, g5, g6, g7, g8⟩ := r
    have hT : (without s.heap (e :: ((some T).toList ++ frs (env :: outer)))).get? T = none := without_in (List.mem_cons_of_mem _ (List.mem_append_left _ (by simp)))
    show wpAny M A (noteFrame (.ref e) env) _ E s
    unfold noteFrame
    simp only [hL]
    refine wpAny_bind (wpAny_field g1 g3 g4 ?_)
    rw [if_pos (show (Value.ref T != Value.none) = true by simp)]
    refine wpAny_bind (wpAny_field g6 g7 g8 ?_)
    rw [if_neg (show ¬ (Value.none == rawInt L) = true by simp [rawInt])]
    refine wpAny_bind (wpAny_setField g6 g7 (Array.getElem?_eq_some_iff.mp g8).1 ?_)
    have oth : ∀ b, b ≠ T → (s.heap.update T (Obj.mapFields (·.setIfInBounds 3 Value.none))).get? b = s.heap.get? b := fun b hb => Heap.get?_update_other _ _ (Ne.symm hb)
    have nr : ∀ b o, s.heap.get? b = some o → (∀ zs, o.data ≠ .fields zs) → b ≠ T := fun b o q hz z => by
      rw [z, g6] at q; cases q; exact hz ts g7
    refine wpAny_newEntry hA (hF'.of_keeps fun b o q hz => ⟨o, (oth b (nr b o q hz)).trans q, rfl⟩) hL ((oth e (Ne.symm g5)).trans g1)
      (fun b o q => (oth b fun z => by rw [z, hT] at q; cases q).trans (without_stays b o q)) hE g3 (Array.getElem?_eq_some_iff.mp g4).1 ?_
    rintro h' ⟨x1, x2, x3, x4⟩
    exact fin h' ⟨x1, x2, x3, fun b o q hz => x4 b o ((oth b (nr b o q hz)).trans q) hz⟩
end
end L2

namespace L2
open PySem PySem.Spec PyProof.Rows
/-! ### exceptions that leave a def -/
/-- behind a call that an exception of the class cls ends: its record lies apart from all that was there ahead -/
def CX1 (P : Program) (w : World) : CXT := fun outer H s E e s' => ∃ (a : Addr) (cls : Value) (T : Addr) (H' : Hp), e = .ref a ∧ s'.os = s.os ∧ AllBare s'.gens ∧ Un (frs outer) [] H H' s.heap s'.heap ∧ HOk P w H' s'.heap ∧
  Rec s'.heap a cls (some T) ∧ s.heap.get? a = none ∧ H' a = none ∧ s.heap.get? T = none ∧ H' T = none ∧ E cls none H'
/-- an exception in a body: what X wants of it follows from E -/
def Raises (X : Cx) (E : XK) : Prop := ∀ (pins : List (Addr × Obj)) (σ : St) (H : Hp) (s : Shared) (a : Addr) (cls : Value) (T : Option Addr), Inv X pins σ H s → Rec s.heap a cls T → X.s₀.heap.get? a = none → H a = none →
  (∀ t, T = some t → X.s₀.heap.get? t = none ∧ H t = none) → E cls none H → X.xe (.ref a) s
theorem Inv.newer {X : Cx} {pins : List (Addr × Obj)} {σ : St} {H : Hp} {s : Shared} {a : Addr} (I : Inv X pins σ H s) (hex : X.ex = []) (h : s.heap.get? a = none) : X.s₀.heap.get? a = none := by
  cases q : X.s₀.heap.get? a with
  | none => rfl
  | some o =>
    obtain ⟨o', r⟩ := I.base.there a o q (by rw [hex]; simp)
    rw [h] at r; cases r
theorem raises_cx {P : Program} {w : World} {K : PySem.W.Frag} {mg : Str → Option Value} {base : Heap} {N : List Str} {qual : Str} {scope : Scope} {f : Addr} {cd : Value} {A : Around} {outer : List Env} {s₀ : Shared} {H₀ : Hp} {E : XK} :
    Raises (cxOf (CX1 P w) P w K mg base N qual scope f cd A outer s₀ H₀ E) E := by
  intro pins σ H s a cls T I r ha hH hT e
  show wpAny _ _ (leaving _ _) _ _ s
  unfold leaving
  have neL : ∀ b o, s₀.heap.get? b = some o → b ≠ s₀.heap.objs.size := fun b o q => Nat.ne_of_lt (Heap.lt_size q)
  refine wpAny_bind (note_any I.ok.frames rfl I.stack r fun h' T' n => ?_)
  have fr : ∀ b, b ∈ frs (envOfC qual scope s₀.heap.objs.size f cd :: outer) → b = s₀.heap.objs.size ∨ b ∈ frs outer := fun b hb => by
    have := I.stkSub b hb
    rcases List.mem_cons.mp this with z | z
    · exact .inl z
    · exact .inr z
  have own : ∀ b, b ∈ frs outer → b ∈ frs (envOfC qual scope s₀.heap.objs.size f cd :: outer) := fun b hb => List.mem_cons_of_mem _ hb
  have nT : ∀ b o, s₀.heap.get? b = some o → T ≠ some b := fun b o q z => by
    have := (hT b z).1
    have this : s₀.heap.get? b = none := this
    rw [q] at this; cases this
  have na : ∀ b o, s₀.heap.get? b = some o → b ≠ a := fun b o q z => by
    have this : s₀.heap.get? a = none := ha
    rw [z, this] at q; cases q
  have hT' : s₀.heap.get? T' = none ∧ H T' = none := by
    rcases n.new with z | z
    · exact ⟨I.newer rfl z, I.hok.none_of z⟩
    · exact hT T' z
  refine ⟨a, cls, T', H, rfl, I.os, I.bare, ⟨fun b o q m hb hx => ?_, fun b o q m hb hx => ?_, I.base.free, fun b o q hx => ?_, I.base.tups, I.base.frzs, I.base.tbls⟩, I.hok.keptT fun b u o hb q => ?_, n.rc, ha, hH, hT'.1, hT'.2, e⟩
  · have q1 := I.base.keep b o q m hb hx
    exact n.keep b o q1 (fun z => (fr b z).elim (neL b o q) hb) (na b o q) (nT b o q)
  · obtain ⟨sl, q1⟩ := I.base.slot b o q m hb hx
    obtain ⟨sl', q2⟩ := n.slot b _ q1 (own b hb)
    exact ⟨sl', q2⟩
  · obtain ⟨o', q1⟩ := I.base.there b o q hx
    by_cases hb : b ∈ frs (envOfC qual scope s₀.heap.objs.size f cd :: outer)
    · obtain ⟨sl', q2⟩ := n.slot b _ q1 hb
      exact ⟨_, q2⟩
    · exact ⟨o', n.keep b o' q1 hb (na b o q) (nT b o q)⟩
  · refine n.keep b u q (fun z => ?_) (fun z => ?_) fun z => ?_
    · rw [I.stkFree b z] at hb; cases hb
    · rw [z, hH] at hb; cases hb
    · rw [(hT b z).2] at hb; cases hb
/-- an exception of a callee -/
theorem pass1 {X : Cx} {E : XK} (R : Raises X E) (hex : X.ex = []) : Passes (CX1 X.prog X.w) X E := by
  intro pins σ H s e s' I h
  obtain ⟨a, cls, T, H', rfl, os, bare, un, hok, r, ha, hH, hT, hHT, q⟩ := h
  have I' : Inv X pins σ H' s' := I.call' (ch := []) os un hok bare fun b z => absurd z (by simp)
  exact R pins σ H' s' a cls (some T) I' r (I.newer hex ha) hH (fun t z => by cases z; exact ⟨I.newer hex hT, hHT⟩) q
/-! ### raise C(..), C an own exception class without an __init__ -/
theorem exc_obj {K : PySem.W.Frag} {h : Heap} {C : Addr} {bmB : List Value} {newId : String} (X : K.In h) (q : PySem.W.excIn K C bmB newId = true) :
    ∃ bm N nm qn bs hdct sn sub ab col dd k0 k1 k2 k3 k5 mN, h.get? C = some (excClassObj nm qn C N bs bm hdct sn sub ab col dd k0 k1 k2 k3 k5 newId) ∧ h.Ns N mN ∧ mN "__init__" = none ∧ OwnTail h bmB bm := by
  unfold PySem.W.excIn at q
  split at q
  case h_2 => cases q
  case h_1 dd cd sl ho =>
    split at q
    case h_2 => cases q
    case h_1 C' bm k0 k1 k2 k3 n k5 hm hs =>
      simp only [Bool.and_eq_true, Bool.not_eq_true', beq_iff_eq] at q
      obtain ⟨⟨⟨⟨⟨e1, e2⟩, e3⟩, ht⟩, e4⟩, e5⟩ := q
      subst e1; subst e2
      obtain ⟨nm, bs, mr, nsA, qn, hdct, sn, sub, ab, col, dl⟩ := cd
      dsimp only at hm e3 e4 e5
      subst hm; subst e3
      have z : sl = #[k0, k1, k2, k3, some (Value.builtin n), k5] := by cases sl with | mk l => simp only at hs; rw [hs]
      rw [z] at ho
      exact ⟨bm, nsA, nm, qn, bs, hdct, sn, sub, ab, col, dd, k0, k1, k2, k3, k5, _, X _ _ ho, .of_isNs (PySem.W.isNs_of_in X e4), PySem.W.nsMap_none_of_in X e4 e5, PySem.W.tail_of_in X ht⟩
def tRaise (E : XK) (C : Addr) (t : TA) : TS := fun _ σ H => t σ H fun vs H1 => vs.length ≤ sizeLine ∧ E (.ref C) none H1
theorem ps_raise {X : Cx} {E : XK} {C : Addr} {x : Str} {B newId initId : String} {bm : List Value} {e : Expr} {es : List Expr} {t : TA} {np cpos pos : Pos} (R : Raises X E) (hex : X.ex = []) (hc : X.calm = true) (FB : ExcBaseFacts B newId initId bm) (hg : Gl X x) (hm : X.mg x = some (.ref C))
    (hC : PySem.W.excIn X.K C bm newId = true) (ha : PA X (e :: es) t) (hdb : (x == ("__debug__" : Str)) = false := by decide) (he : starEach (e :: es) X.env = (false, eval e X.env) :: starEach es X.env := by rfl) (hpl : (backTo cpos (starEach es X.env)).any (·.1) = false := by rfl) :
    PS X (.Raise (some (.Call (.Name x np) (e :: es) [] cpos)) none pos) (tRaise E C t) := by
  intro pins s σ H D I h
  obtain ⟨tl, N, nm, q, bs, hdct, sn, sub, ab, col, dd, k0, k1, k2, k3, k5, mN, hO, hN, hni, T⟩ := exc_obj I.mod.kin hC
  have hany : (backTo cpos (starEach (e :: es) X.env)).any (·.1) = false := by
    rw [he]
    show (false || (backTo cpos (starEach es X.env)).any (·.1)) = false
    rw [hpl]; rfl
  refine wpAny_Raise_call_subT (C := C) (nm := nm) (q := q) (N := N) (bs := bs) (bm := tl) (hdct := hdct) (sn := sn) (sub := sub) (ab := ab) (col := col) (dd := dd) (k0 := k0) (k1 := k1) (k2 := k2) (k3 := k3) (k5 := k5) FB (mN := mN) (T.hasType FB.hasBase) (I.ok.hd hc) hany hni (ld_glob I hg hm ⟨rfl, ?_⟩ hdb)
  have h2 := ha cpos pins s σ H _ I h
  rw [he] at h2 ⊢
  refine Calls.evalArgs_plain (wpAny_mono h2 (fun us s2 z => ?_) fun _ _ y => y)
  obtain ⟨vs, H1, I1, rv, ln, ee⟩ := z
  refine ⟨rfl, by rw [← rv.length]; exact ln, I1.bk _ _ hO, hN.keeps I1.bk, T.keeps I1.bk, fun h' a mk => ?_⟩
  exact R pins σ H1 { s2 with heap := h' } a (.ref C) none (I1.kept (t' := s2.toks) mk.keeps) (Rec.made mk) (I1.newer hex mk.new) (I1.hok.none_of mk.new) (fun t z => nomatch z) ee
/-! ### defs that raise -/
structure FnB1 (P : Program) (w : World) (K : PySem.W.Frag) (mg : Str → Option Value) (base : Heap) (k : Nat) (x : Str) (ps : List Str) (sp : Sp) : Prop where
  ex : ∃ f fd, FnOk P w K mg base (CX1 P w) k f fd ps sp ∧ mg x = some (.ref f) ∧ PySem.W.keepIn K (.ref f) = true ∧ Binds K fd ps []
theorem pe_fn1 {X : Cx} {E : XK} {k : Nat} {ps : List Str} {sp : Sp} {x : Str} {p pos : Pos} {e : Expr} {es : List Expr} {t : TA} (F : FnB1 X.prog X.w X.K X.mg X.base k x ps sp) (hp : Passes (CX1 X.prog X.w) X E) (hr : Room k X.A) (hg : Gl X x) (ha : PA X (e :: es) t) (hdb : (x == ("__debug__" : Str)) = false := by decide)
    (he : starEach (e :: es) X.env = (false, eval e X.env) :: starEach es X.env := by rfl) (hpl : (backTo pos (starEach es X.env)).any (·.1) = false := by rfl) : PE X (.Call (.Name x p) (e :: es) [] pos) (tCall sp [] E t) := by
  obtain ⟨f, fd, F, hm, hk, hb⟩ := F.ex
  exact pe_call F hr hg hm hk hb .nil hp ha hdb he hpl
section
variable {P : Program} {w : World} {K : PySem.W.Frag} {mg : Str → Option Value} {base : Heap}
theorem Fun.ok1 {x qual : Str} {st : Stmt} {f : Addr} {fd : FuncData} {N ps : List Str} {k : Nat} {sp : Sp} (F : Fun K x qual st f fd) (S : FnScope N ps (defScope st)) (len : ∀ vs H Q E, sp vs H Q E → vs.length = ps.length)
    (hbody : ∀ (cdv : Value) (A : Around) (outer : List Env) (s : Shared) (H : Hp) (vs : List V) (Q : VK) (E : XK), Room k (A.deeper (envOfC qual (defScope st) s.heap.objs.size f cdv)) → sp vs H Q E →
      ∃ t, QSs (cxOf (CX1 P w) P w K mg base N qual (defScope st) f cdv A outer s H E) (defBody st) t ∧ t { nx := fun _ H' => Q .non H', rt := Q } (start N vs) H) : FnOk P w K mg base (CX1 P w) (k + 1) f fd ps sp := by
  obtain ⟨oc, od, kV, doc, pm, an, cdv, ct, osl, rfl, lk, hcd⟩ := F.ex
  refine fn_of lk hcd S len fun A outer s H vs Q E hr hsp => ?_
  obtain ⟨t, h, q⟩ := hbody cdv A outer s H vs Q E hr hsp
  exact ⟨t, h.go, q⟩
end
section
variable {X : Cx}
theorem qs_raise {E : XK} {C : Addr} {x : Str} {B newId initId : String} {bm : List Value} {e : Expr} {es : List Expr} {t : TA} {np cpos pos : Pos} (R : Raises X E) (hex : X.ex = []) (hc : X.calm = true) (FB : ExcBaseFacts B newId initId bm) (hg : Gl X x) (hm : X.mg x = some (.ref C))
    (hC : PySem.W.excIn X.K C bm newId = true) (ha : QA X (e :: es) t) (hdb : (x == ("__debug__" : Str)) = false := by decide) (he : starEach (e :: es) X.env = (false, eval e X.env) :: starEach es X.env := by rfl) (hpl : (backTo cpos (starEach es X.env)).any (·.1) = false := by rfl) :
    QS X (.Raise (some (.Call (.Name x np) (e :: es) [] cpos)) none pos) (tRaise E C t) := ⟨ps_raise R hex hc FB hg hm hC ha.go hdb he hpl⟩
theorem qe_fn1 {E : XK} {k : Nat} {ps : List Str} {sp : Sp} {x : Str} {p pos : Pos} {e : Expr} {es : List Expr} {t : TA} (F : FnB1 X.prog X.w X.K X.mg X.base k x ps sp) (hp : Passes (CX1 X.prog X.w) X E) (hr : Room k X.A) (hg : Gl X x) (ha : QA X (e :: es) t) (hdb : (x == ("__debug__" : Str)) = false := by decide)
    (he : starEach (e :: es) X.env = (false, eval e X.env) :: starEach es X.env := by rfl) (hpl : (backTo pos (starEach es X.env)).any (·.1) = false := by rfl) : QE X (.Call (.Name x p) (e :: es) [] pos) (tCall sp [] E t) := ⟨pe_fn1 F hp hr hg ha.go hdb he hpl⟩
end
end L2

namespace L2
open PySem PySem.Spec PyProof.Rows
/-! ### defs that are called while an exception is handled -/
structure RoomH (k : Nat) (A : Around) : Prop where
  dp : A.depth + 3 * k + 5 < recursionLimit
  un : A.units + 16 * k + 200 < cLine
theorem Room.h {k : Nat} {A : Around} (r : Room k A) (v : Option Value) : RoomH k (A.mark v) := ⟨r.dp, r.un⟩
theorem RoomH.deeper {k : Nat} {A : Around} (r : RoomH (k + 1) A) (env : Env) : RoomH k (A.deeper env) :=
  ⟨by have := r.dp; show A.depth + 1 + 3 * k + 5 < _; omega, by have := r.un; show A.units + 3 + 16 * k + 200 < _; omega⟩
theorem RoomH.depth {k : Nat} {A : Around} (r : RoomH k A) : A.depth < recursionLimit := by have := r.dp; omega
structure FnOkH (P : Program) (w : World) (K : PySem.W.Frag) (mg : Str → Option Value) (base : Heap) (k : Nat) (f : Addr) (fd : FuncData) (ps : List Str) (sp : Sp) : Prop where
  len : ∀ vs H Q, sp vs H Q E0 → vs.length = ps.length
  run : ∀ (A : Around) (outer : List Env) (s : Shared) (H : Hp) (args : Args) (us : List Value) (vs : List V) (Q : VK), RoomH k A → Env0 P w K mg base A outer s H → BindsTo s fd args (ps.zip us) → Vals vs us → sp vs H Q E0 →
    codeAny (model P w) A (.call (.ref f) args) (CR CX0 outer P w H s Q E0) s
def cxOfH (P : Program) (w : World) (K : PySem.W.Frag) (mg : Str → Option Value) (base : Heap) (N : List Str) (qual : Str) (scope : Scope) (f : Addr) (cd : Value) (A : Around) (outer : List Env) (s : Shared) (H : Hp) : Cx :=
  { cxOf CX0 P w K mg base N qual scope f cd A outer s H E0 with calm := false, xe := fun _ _ => False }
section
variable {P : Program} {w : World} {K : PySem.W.Frag} {mg : Str → Option Value} {base : Heap}
theorem Inv.toH {N : List Str} {qual : Str} {scope : Scope} {f : Addr} {cd : Value} {A : Around} {outer : List Env} {s s1 : Shared} {H H1 : Hp} {pins : List (Addr × Obj)} {σ : St}
    (I : Inv (cxOf CX0 P w K mg base N qual scope f cd { A with handled := none } outer s H E0) pins σ H1 s1) : Inv (cxOfH P w K mg base N qual scope f cd A outer s H) pins σ H1 s1 :=
  ⟨⟨I.ok.mod, I.ok.kind, I.ok.glob, I.ok.blt, I.ok.above, I.ok.inj, I.ok.has, I.ok.cab, fun z => Bool.noConfusion z, I.ok.frames, I.ok.stk, I.ok.exf, I.ok.bs, I.ok.bsz, I.ok.noex, I.ok.exfs, I.ok.funs, I.ok.frf⟩,
    I.os, I.bare, I.base, I.loc, I.cell, I.free, I.freeC, I.pin, I.hok, I.len⟩
theorem Fun.okH {x qual : Str} {st : Stmt} {f : Addr} {fd : FuncData} {N ps : List Str} {k : Nat} {sp : Sp} (F : Fun K x qual st f fd) (S : FnScope N ps (defScope st)) (len : ∀ vs H Q, sp vs H Q E0 → vs.length = ps.length)
    (hbody : ∀ (cdv : Value) (A : Around) (outer : List Env) (s : Shared) (H : Hp) (vs : List V) (Q : VK), RoomH k (A.deeper (envOfC qual (defScope st) s.heap.objs.size f cdv)) → sp vs H Q E0 →
      ∃ t, QSs (cxOfH P w K mg base N qual (defScope st) f cdv A outer s H) (defBody st) t ∧ t { nx := fun _ H' => Q .non H', rt := Q } (start N vs) H) : FnOkH P w K mg base (k + 1) f fd ps sp := by
  obtain ⟨oc, od, kV, doc, pm, an, cdv, ct, osl, rfl, lk, hcd⟩ := F.ex
  refine ⟨len, fun A outer s H args us vs Q hr e0 hb r hsp => ?_⟩
  have hl := len _ _ _ hsp
  have KX : K.In s.heap := e0.mod.kin.keeps fun b o e => (e0.bs b o e).1
  have lim : s.heap.NoLimit := e0.mod.nolimit.keeps fun b o e => (e0.bs b o e).1
  have hkind : ∀ y ∈ ps.zip us, (defScope st).names.lookup y.1 = some .local ∨ ((defScope st).names.lookup y.1 = some .cell ∧ ((cellsFrom (s.heap.objs.size + 1) (defScope st).names []).lookup y.1).isSome = true) := fun ⟨n, v⟩ hy => by
    rcases S.par n (List.of_mem_zip hy).1 with q | q
    · exact .inl q
    · exact .inr ⟨q, PySem.W.cellsFrom_some _ _ _ (.inl q)⟩
  refine codeAny_call_function hr.depth (KX _ _ lk) rfl S.co S.gen rfl (PySem.W.codeRec_of KX hcd) (hb _ _ _ _ ?_)
  refine wpAny_newFunctionEnv_cells S.kind hkind fun env he s1 x => ?_
  subst he
  refine ⟨lim.keeps x.toInCall.keep, codeAny_func ?_⟩
  obtain ⟨t, ht, hq⟩ := hbody cdv A outer s H vs Q (hr.deeper _) hsp
  have e0' : Env0 P w K mg base { A with handled := none } outer s H := ⟨e0.frames, e0.mod, e0.bs, e0.bsz, e0.funs, e0.frf, e0.hok, e0.bare⟩
  have I : Inv (cxOfH P w K mg base N qual (defScope st) f cdv A outer s H) [] (start N vs) H s1 := Inv.toH (inv_start (A := { A with handled := none }) S rfl e0' hl r x)
  refine wpAny_mono (ht.go [] s1 (start N vs) H _ I hq) (fun fl s' hs => ?_) fun e s' hs => hs.elim
  have fin : ∀ {σ' : St} {H' : Hp} {v : V} {u : Value}, Inv (cxOfH P w K mg base N qual (defScope st) f cdv A outer s H) [] σ' H' s' → RelV v u → Q v H' → CE outer P w H s Q u s' :=
    fun {σ' H' v u} J rv q => ⟨v, H', J.os, J.bare, J.base, J.hok, rv, q⟩
  cases fl with
  | ret u =>
    obtain ⟨v, σ', H', J, rv, q⟩ := hs
    exact fin J rv q
  | next =>
    obtain ⟨σ', H', J, q⟩ := hs
    exact fin (v := V.non) (u := Value.none) J rfl q
  | brk =>
    obtain ⟨_, _, _, q⟩ := hs
    exact False.elim q
  | cont =>
    obtain ⟨_, _, _, q⟩ := hs
    exact False.elim q
end
structure FnBH (P : Program) (w : World) (K : PySem.W.Frag) (mg : Str → Option Value) (base : Heap) (k : Nat) (x : Str) (ps : List Str) (sp : Sp) : Prop where
  ex : ∃ f fd, FnOkH P w K mg base k f fd ps sp ∧ mg x = some (.ref f) ∧ PySem.W.keepIn K (.ref f) = true ∧ Binds K fd ps []
theorem pe_fnH {X : Cx} {k : Nat} {ps : List Str} {sp : Sp} {x : Str} {p pos : Pos} {e : Expr} {es : List Expr} {t : TA} (F : FnBH X.prog X.w X.K X.mg X.base k x ps sp) (hr : RoomH k X.A) (hg : Gl X x) (ha : PA X (e :: es) t) (hdb : (x == ("__debug__" : Str)) = false := by decide)
    (he : starEach (e :: es) X.env = (false, eval e X.env) :: starEach es X.env := by rfl) (hpl : (backTo pos (starEach es X.env)).any (·.1) = false := by rfl) : PE X (.Call (.Name x p) (e :: es) [] pos) (tCall sp [] E0 t) := by
  obtain ⟨f, fd, F, hm, hk, hb⟩ := F.ex
  intro pins s σ H Q I h
  refine wpAny_Call_Name_kw (ld_glob I hg hm ?_ hdb)
  refine PySem.W.callWith_K (h₀ := X.base) I.ok.mod.kin hk (thn (ha pos pins s σ H _ I h) fun us s1 ⟨vs, H1, I1, r, q⟩ => ⟨I1.kIn, ?_⟩) he hpl
  have q : sp vs H1 Q E0 := by simpa using q
  have hl : us.length = ps.length := by rw [← r.length]; exact F.len _ _ _ q
  have hb' : BindsTo s1 fd ⟨us, []⟩ (ps.zip us) := by
    have := hb s1 us I1.kIn (by simpa using hl)
    simpa using this
  refine wpAny_call (codeAny_mono (F.run X.A X.stack s1 H1 ⟨us, []⟩ us vs Q hr I1.env0 hb' r q) fun r s' hq => ?_)
  cases r with
  | error e => exact False.elim hq
  | ok fl =>
    cases fl with
    | ret u => exact I1.after hq
    | next => exact False.elim hq
    | brk => exact False.elim hq
    | cont => exact False.elim hq
theorem qe_fnH {X : Cx} {k : Nat} {ps : List Str} {sp : Sp} {x : Str} {p pos : Pos} {e : Expr} {es : List Expr} {t : TA} (F : FnBH X.prog X.w X.K X.mg X.base k x ps sp) (hr : RoomH k X.A) (hg : Gl X x) (ha : QA X (e :: es) t) (hdb : (x == ("__debug__" : Str)) = false := by decide)
    (he : starEach (e :: es) X.env = (false, eval e X.env) :: starEach es X.env := by rfl) (hpl : (backTo pos (starEach es X.env)).any (·.1) = false := by rfl) : QE X (.Call (.Name x p) (e :: es) [] pos) (tCall sp [] E0 t) := ⟨pe_fnH F hr hg ha.go hdb he hpl⟩

/-! ### try: f(..) except C as n: .. -/
/-- an exception's object, by its class -/
def XO (a : Addr) (cls : Value) (h : Heap) : Prop := ∃ o vs, h.get? a = some o ∧ o.cls = cls ∧ o.data = .fields vs
theorem XO.ok {P : Program} {w : World} {H : Hp} {h : Heap} {a : Addr} {cls : Value} (x : XO a cls h) : ObjOk P w H h a (.ext (XO a cls)) := by
  obtain ⟨o, vs, e, c, d⟩ := x
  exact ⟨⟨o, vs, e, c, d⟩, ⟨o, e⟩, fun h1 h2 ⟨o, vs, e, c, d⟩ k => ⟨o, vs, k o e, c, d⟩⟩
theorem Rec.xo {h : Heap} {e : Addr} {cls : Value} {T : Addr} (r : Rec h e cls (some T)) : XO e cls h := by
  obtain ⟨oe, vs, oT, ts, g1, g2, g3, _⟩ := r
  exact ⟨oe, vs, g1, g2, g3⟩
theorem Un.noted {l : List Env} {e : Addr} {cls : Value} {T : Option Addr} {T' : Addr} {H H' : Hp} {h h1 h2 : Heap} (u : Un (frs l) [] H H' h h1) (n : Noted l e cls T h1 h2 T') (he : h.get? e = none) (hT : ∀ t, T = some t → h.get? t = none) : Un (frs l) [] H H' h h2 := by
  have ne : ∀ b o, h.get? b = some o → b ≠ e := fun b o q z => by rw [z, he] at q; cases q
  have nt : ∀ b o, h.get? b = some o → T ≠ some b := fun b o q z => by rw [hT b z] at q; cases q
  refine ⟨fun b o q m hb hx => n.keep b o (u.keep b o q m hb hx) hb (ne b o q) (nt b o q), fun b o q m hb hx => ?_, u.free, fun b o q hx => ?_, u.tups, u.frzs, u.tbls⟩
  · obtain ⟨sl, q1⟩ := u.slot b o q m hb hx
    obtain ⟨sl', q2⟩ := n.slot b _ q1 hb
    exact ⟨sl', q2⟩
  · obtain ⟨o', q1⟩ := u.there b o q hx
    by_cases hb : b ∈ frs l
    · obtain ⟨sl', q2⟩ := n.slot b _ q1 hb
      exact ⟨_, q2⟩
    · exact ⟨o', n.keep b o' q1 hb (ne b o q) (nt b o q)⟩
theorem Un.but {fs : List Addr} {T : Addr} {H H' : Hp} {h h1 h2 : Heap} (u : Un fs [] H H' h h1) (k : ∀ b o, b ≠ T → h1.get? b = some o → h2.get? b = some o) (hT : h.get? T = none) : Un fs [] H H' h h2 := by
  have nt : ∀ b o, h.get? b = some o → b ≠ T := fun b o q z => by rw [z, hT] at q; cases q
  refine ⟨fun b o q m hb hx => k b o (nt b o q) (u.keep b o q m hb hx), fun b o q m hb hx => ?_, u.free, fun b o q hx => ?_, u.tups, u.frzs, u.tbls⟩
  · obtain ⟨sl, q1⟩ := u.slot b o q m hb hx
    exact ⟨sl, k b _ (nt b o q) q1⟩
  · obtain ⟨o', q1⟩ := u.there b o q hx
    exact ⟨o', k b o' (nt b o q) q1⟩
theorem Un.track {fs : List Addr} {a : Addr} {o : HO} {H H' : Hp} {h h1 : Heap} (u : Un fs [] H H' h h1) (ha : h.get? a = none) (hn : H' a = none) : Un fs [] H (upd H' a o) h h1 := by
  refine ⟨u.keep, u.slot, fun b ob q m hx => ?_, u.there, fun b xs q => ?_, fun b ob xs q => ?_, fun b ps q => ?_⟩
  · rw [upd_ne (fun z => by rw [z, ha] at q; cases q)]
    exact u.free b ob q m hx
  · have := u.tups b xs q
    rw [upd_ne (ne_of_none this hn)]; exact this
  · have := u.frzs b ob xs q
    rw [upd_ne (ne_of_none this hn)]; exact this
  · obtain ⟨m, z⟩ := u.tbls b ps q
    exact ⟨m, by rw [upd_ne (ne_of_none z hn)]; exact z⟩
theorem land_again {M : Model} {A : Around} {E : Value → Shared → Prop} {s : Shared} {e T : Addr} {cls : Value} {Q : Unit → Shared → Prop} (r : Rec s.heap e cls (some T))
    (k : ∀ h', Rec h' e cls (some T) → (∀ b o, b ≠ T → s.heap.get? b = some o → h'.get? b = some o) → Q () { s with heap := h' }) : wpAny M A (setFlight (.ref e) none) Q E s := by
  obtain ⟨oe, vs, oT, ts, g1, g2, g3, g4, g5, g6, g7, g8⟩ := r
  have hsz := (Array.getElem?_eq_some_iff.mp g8).1
  have oth : ∀ b, b ≠ T → (s.heap.update T (Obj.mapFields (·.setIfInBounds 3 Value.none))).get? b = s.heap.get? b := fun b hb => Heap.get?_update_other _ _ (Ne.symm hb)
  have hd := Obj.data_mapFields g7 (·.setIfInBounds 3 Value.none)
  refine wpAny_setFlight_none g1 g3 g4 g6 g7 hsz (k _ ⟨oe, vs, _, _, (oth e (Ne.symm g5)).trans g1, g2, g3, g4, g5, Heap.get?_update_self _ g6 (Obj.isFreed_of_fields hd), hd, ?_⟩ fun b o hb q => (oth b hb).trans q)
  simp [hsz]
/-- the context of a suite that handles -/
abbrev Cx.hnd (X : Cx) (a : Addr) (pn : List (Addr × Obj)) : Cx := { X with A := X.A.mark (some (.ref a)), calm := false, pn := pn, xe := fun _ _ => False }
theorem Inv.hnd {X : Cx} {pins pn : List (Addr × Obj)} {σ : St} {H : Hp} {s : Shared} {a : Addr} (I : Inv X pins σ H s) (h : pn = X.pn ++ pins) : Inv (X.hnd a pn) [] σ H s := by
  subst h
  exact ⟨⟨I.ok.mod, I.ok.kind, I.ok.glob, I.ok.blt, I.ok.above, I.ok.inj, I.ok.has, I.ok.cab, fun z => Bool.noConfusion z, I.ok.frames, I.ok.stk, I.ok.exf, I.ok.bs, I.ok.bsz, I.ok.noex, I.ok.exfs, I.ok.funs, I.ok.frf⟩,
    I.os, I.bare, I.base, I.loc, I.cell, I.free, I.freeC, fun p hp => I.pin p (by simpa using hp), I.hok, I.len⟩
theorem Inv.unhnd {X : Cx} {pins pn : List (Addr × Obj)} {σ : St} {H : Hp} {s : Shared} {a : Addr} (ok : X.Ok) (I : Inv (X.hnd a pn) [] σ H s) (h : pn = X.pn ++ pins) : Inv X pins σ H s := by
  subst h
  exact ⟨ok, I.os, I.bare, I.base, I.loc, I.cell, I.free, I.freeC, fun p hp => I.pin p (by simpa using hp), I.hok, I.len⟩
/-- the name behind the suite -/
theorem name_gone {X : Cx} {pins : List (Addr × Obj)} {σ : St} {H : Hp} {s : Shared} {M : Model} {A : Around} {E : Value → Shared → Prop} {i : Nat} {n : Str} {pos : Pos} {Q : Unit → Shared → Prop} (I : Inv X pins σ H s) (hN : X.N.Nodup) (hi : X.N[i]? = some n) (hk : X.env.kindOf n = some .local)
    (h : ∀ s', Inv X pins (σ.set i none) H s' → Q () s') : wpAny M A (do bindName X.env n .none; unbindBehindTheSuite X.env n pos) Q E s := by
  obtain ⟨m, hn, hl⟩ := id I.loc
  have hiσ : i < σ.length := by rw [I.len]; exact (List.getElem?_eq_some_iff.mp hi).1
  refine wpAny_nameGoes_keeps hk hn (by rw [I.ok.kind]; rfl) fun h' v hn' hs => h _ ?_
  obtain ⟨oL, _, _, hoL, _⟩ := id hn
  have far : ∀ b o, X.s₀.heap.get? b = some o → b ≠ X.env.locals := fun b o e => Nat.ne_of_lt (Nat.lt_of_lt_of_le (Heap.lt_size e) I.ok.above)
  refine ⟨I.ok, I.os, I.bare, ⟨fun b o e n hb hx => ?_, fun b o e n hb hx => ?_, I.base.free, fun b o e hx => ?_, I.base.tups, I.base.frzs, I.base.tbls⟩, ⟨_, hn', fun j y v' e1 e2 e3 => ?_⟩, fun y c e => ?_, I.free, I.freeC, fun p hp => ?_, ?_, by simpa using I.len⟩
  · exact (hs.2 b (far b o e)).trans (I.base.keep b o e n hb hx)
  · obtain ⟨sl, e1⟩ := I.base.slot b o e n hb hx
    exact ⟨sl, (hs.2 b (far b o e)).trans e1⟩
  · obtain ⟨o', e1⟩ := I.base.there b o e hx
    exact ⟨o', (hs.2 b (far b o e)).trans e1⟩
  · by_cases hj : j = i
    · subst hj
      rw [List.getElem?_set_self hiσ] at e2
      cases e2
    · rw [List.getElem?_set_ne (Ne.symm hj)] at e2
      obtain ⟨u', r', q⟩ := hl j y v' e1 e2 e3
      refine ⟨u', r', ?_⟩
      rcases q with ⟨k, e⟩ | ⟨k, c, e, z⟩
      · refine .inl ⟨k, ?_⟩
        have : y ≠ n := fun e => hj (nodup_ix hN e1 (e ▸ hi))
        simp [this, e]
      · exact .inr ⟨k, c, e, z.sameBut hs (I.cne y c e)⟩
  · obtain ⟨w', z⟩ := I.cell y c e
    exact ⟨w', z.sameBut hs (I.cne y c e)⟩
  · obtain ⟨e, nn, ne, nf, d⟩ := I.pin p hp
    exact ⟨(hs.2 p.1 ne).trans e, nn, ne, nf, d⟩
  · refine I.hok.keptT fun b u o hb q => (hs.2 b fun z => ?_).trans q
    rw [z, I.free] at hb; cases hb
end L2

namespace L2
open PySem PySem.Spec PyProof.Rows
/-- the context of a try's body: the pins are its own -/
abbrev Cx.tryx (X : Cx) (pn : List (Addr × Obj)) (E : Value → Shared → Prop) : Cx := { X with pn := pn, xe := E }
theorem Inv.tryx {X : Cx} {pins pn : List (Addr × Obj)} {σ : St} {H : Hp} {s : Shared} {E : Value → Shared → Prop} (I : Inv X pins σ H s) (h : pn = X.pn ++ pins) : Inv (X.tryx pn E) [] σ H s := by
  subst h
  exact ⟨⟨I.ok.mod, I.ok.kind, I.ok.glob, I.ok.blt, I.ok.above, I.ok.inj, I.ok.has, I.ok.cab, I.ok.hd, I.ok.frames, I.ok.stk, I.ok.exf, I.ok.bs, I.ok.bsz, I.ok.noex, I.ok.exfs, I.ok.funs, I.ok.frf⟩,
    I.os, I.bare, I.base, I.loc, I.cell, I.free, I.freeC, fun p hp => I.pin p (by simpa using hp), I.hok, I.len⟩
theorem Inv.untryx {X : Cx} {pins pins' pn : List (Addr × Obj)} {σ : St} {H : Hp} {s : Shared} {E : Value → Shared → Prop} (ok : X.Ok) (I : Inv (X.tryx pn E) pins' σ H s) (h : pn = X.pn ++ pins) : Inv X pins σ H s := by
  subst h
  exact ⟨ok, I.os, I.bare, I.base, I.loc, I.cell, I.free, I.freeC, fun p hp => I.pin p (List.mem_append_left _ hp), I.hok, I.len⟩
def hndEnds (D : Ends) (i : Nat) : Ends := { nx := fun σ H => D.nx (σ.set i none) H, rt := D.rt, bk := fun σ H => D.bk (σ.set i none) H, ct := fun σ H => D.ct (σ.set i none) H }
/-- what a caught exception leads to -/
def caught (K : PySem.W.Frag) (i : Nat) (C : Addr) (ts : TS) (D : Ends) (σ : St) : XK := fun cls _ H => PySem.W.exmOne K cls (.ref C) = some true ∧ ∀ a, H a = none → ts (hndEnds D i) (σ.set i (some (.ref a))) (upd H a (.ext (XO a cls)))
section
variable {X : Cx} {pins : List (Addr × Obj)} {σ : St} {H H' : Hp} {s s' : Shared} {i : Nat} {n : Str} {C : Addr} {cx : Str} {cp hpos : Pos} {b₀ : Stmt} {suite : List Stmt} {ts : TS} {D : Ends}
/-- the clause is met -/
theorem handle_as (hN : X.N.Nodup) (hi : X.N[i]? = some n) (hk : X.env.kindOf n = some .local) (hst : X.stack = X.env :: X.outer) (hfr : X.env.frame = some X.env.locals) (hg : Gl X cx) (hm : X.mg cx = some (.ref C)) (hdb : (cx == ("__debug__" : Str)) = false)
    (hs : ∀ a pn, QSs (X.hnd a pn) (b₀ :: suite) ts) (I : Inv X pins σ H s) {e : Value} (h : CX1 X.prog X.w X.stack H s (caught X.K i C ts D σ) e s') :
    wpAny (model X.prog X.w) X.A (noteFrame e X.env) (fun _ s2 => wpAny (model X.prog X.w) X.A (setFlight e none) (fun _ s3 => wpAny (model X.prog X.w) X.A (handleBy e X.env [.ExceptHandler (some (.Name cx cp)) (some n) (b₀ :: suite) hpos]) (SP X pins D) X.xe s3) X.xe s2) X.xe s' := by
  obtain ⟨a, cls, T, H', rfl, os, bare, un, hok, r, ha, hH, hT, hHT, hx, hq⟩ := h
  have I' : Inv X pins σ H' s' := I.call' (ch := []) os un hok bare fun b z => absurd z (by simp)
  have hF := I'.stack
  have hA := I.ok.frames
  rw [hst] at hF hA un
  refine note_any hA hfr hF r fun h1 T1 n1 => ?_
  have hT1 : s.heap.get? T1 = none ∧ H' T1 = none := by
    rcases n1.new with z | z
    · refine ⟨?_, hok.none_of z⟩
      cases q : s.heap.get? T1 with
      | none => rfl
      | some o => obtain ⟨o', q'⟩ := un.there T1 o q (by simp); rw [z] at q'; cases q'
    · cases z; exact ⟨hT, hHT⟩
  have un1 := un.noted n1 ha (fun t z => by cases z; exact hT)
  have hok1 : HOk X.prog X.w H' h1 := hok.keptT fun b u o hb q => n1.keep b u q (fun z => by
      rw [← hst] at z
      rw [I'.stkFree b z] at hb; cases hb) (fun z => by rw [z, hH] at hb; cases hb) fun z => by cases z; rw [hHT] at hb; cases hb
  have un1' : Un (frs X.stack) [] H H' s.heap h1 := by rw [hst]; exact un1
  have I1 : Inv X pins σ H' { s' with heap := h1 } := I.call' (s' := { s' with heap := h1 }) (ch := []) os un1' hok1 bare fun b z => absurd z (by simp)
  have J1 : Inv (X.hnd a (X.pn ++ pins)) [] σ H' { s' with heap := h1 } := I1.hnd rfl
  refine wpAny_handleBy_cons (codeAny_handlers_test (ld_glob (X := X.hnd a (X.pn ++ pins)) J1 hg hm ?_ hdb)) (by intro q; cases q)
  have LT : PySem.W.Looks (model X.prog X.w) h1 (typeOf (.ref a)) cls := by
    obtain ⟨o, vs, g1, g2, _⟩ := n1.rc.xo
    exact g2 ▸ (PySem.W.Looks.ld g1).andThen .now
  refine (PySem.W.exm_one (M := model X.prog X.w) I1.kIn LT hx).here ?_
  show codeAny _ _ _ _ _
  refine codeAny_handlers_suite_as (land_again n1.rc fun h2 r2 k2 => ?_)
  have un2' := un1'.but k2 hT1.1
  have hok2 : HOk X.prog X.w H' h2 := hok1.keptT fun b u o hb q => k2 b u (fun z => by rw [z, hT1.2] at hb; cases hb) q
  have hok3 : HOk X.prog X.w (upd H' a (.ext (XO a cls))) h2 := hok2.track hH r2.xo.ok
  have I3 : Inv X pins σ (upd H' a (.ext (XO a cls))) { s' with heap := h2 } := I.call' (s' := { s' with heap := h2 }) (ch := []) os (un2'.track ha hH) hok3 bare fun b z => absurd z (by simp)
  refine store_ok I3 hN hi (.inl hk) (v := .ref a) rfl (fun s4 I4 => ?_) (.inr hk)
  have J4 : Inv (X.hnd a (X.pn ++ pins)) [] (σ.set i (some (.ref a))) (upd H' a (.ext (XO a cls))) s4 := I4.hnd rfl
  refine wpAny_mono ((hs a (X.pn ++ pins)).go [] s4 _ _ (hndEnds D i) J4 (hq a hH)) (fun f s5 z => ?_) fun _ _ z => z.elim
  show wpAny _ _ (do bindName X.env n .none; unbindBehindTheSuite X.env n hpos) _ _ s5
  cases f with
  | next =>
    obtain ⟨σ5, H5, J5, q5⟩ := z
    exact name_gone (J5.unhnd I.ok rfl) hN hi hk fun s6 I6 => ⟨_, H5, I6, q5⟩
  | brk =>
    obtain ⟨σ5, H5, J5, q5⟩ := z
    exact name_gone (J5.unhnd I.ok rfl) hN hi hk fun s6 I6 => ⟨_, H5, I6, q5⟩
  | cont =>
    obtain ⟨σ5, H5, J5, q5⟩ := z
    exact name_gone (J5.unhnd I.ok rfl) hN hi hk fun s6 I6 => ⟨_, H5, I6, q5⟩
  | ret u =>
    obtain ⟨v5, σ5, H5, J5, r5, q5⟩ := z
    exact name_gone (J5.unhnd I.ok rfl) hN hi hk fun s6 I6 => ⟨v5, _, H5, I6, r5, q5⟩
end
/-- try: f(..) except C as n: .. -/
def tTry (K : PySem.W.Frag) (i : Nat) (C : Addr) (sp : Sp) (ta : TA) (ts : TS) : TS := fun D σ H => ta σ H fun vs H1 => sp vs H1 (fun _ H2 => D.nx σ H2) (caught K i C ts D σ)
theorem ps_try {X : Cx} {i : Nat} {n : Str} {C : Addr} {cx : Str} {cp hpos p cpos epos pos : Pos} {b₀ : Stmt} {suite : List Stmt} {ts : TS} {k : Nat} {ps : List Str} {sp : Sp} {x : Str} {e : Expr} {es : List Expr} {ta : TA}
    (hN : X.N.Nodup) (hi : X.N[i]? = some n) (hk : X.env.kindOf n = some .local) (hst : X.stack = X.env :: X.outer) (hfr : X.env.frame = some X.env.locals) (F : FnB1 X.prog X.w X.K X.mg X.base k x ps sp) (hr : Room k X.A) (hgf : Gl X x) (hg : Gl X cx) (hm : X.mg cx = some (.ref C))
    (ha : ∀ pn E, QA (X.tryx pn E) (e :: es) ta) (hs : ∀ a pn, QSs (X.hnd a pn) (b₀ :: suite) ts) (hdb : (cx == ("__debug__" : Str)) = false := by decide) (hdf : (x == ("__debug__" : Str)) = false := by decide)
    (he : starEach (e :: es) X.env = (false, eval e X.env) :: starEach es X.env := by rfl) (hpl : (backTo cpos (starEach es X.env)).any (·.1) = false := by rfl) (hsw : swapsWith (.Call (.Name x p) (e :: es) [] cpos) none epos.line X.env = pure false := by rfl) :
    PS X (.Try [.Expr (.Call (.Name x p) (e :: es) [] cpos) epos] [.ExceptHandler (some (.Name cx cp)) (some n) (b₀ :: suite) hpos] [] [] pos) (tTry X.K i C sp ta ts) := by
  obtain ⟨f, fd, F, hmf, hkf, hb⟩ := F.ex
  intro pins s σ H D I h
  refine wpAny_Try_except ?_
  let Y : Cx := X.tryx (X.pn ++ pins) fun e s1 => wpAny (model X.prog X.w) X.A (noteFrame e X.env) (fun _ s2 => wpAny (model X.prog X.w) X.A (setFlight e none) (fun _ s3 => wpAny (model X.prog X.w) X.A (handleBy e X.env [.ExceptHandler (some (.Name cx cp)) (some n) (b₀ :: suite) hpos]) (SP X pins D) X.xe s3) X.xe s2) X.xe s1
  have hE : PE Y (.Call (.Name x p) (e :: es) [] cpos) (fun σ' H' Q => σ' = σ ∧ ta σ H' fun vs H1 => sp vs H1 Q (caught X.K i C ts D σ)) := by
    intro pins' s1 σ' H1 Q I1 h1
    obtain ⟨rfl, h1⟩ := h1
    refine wpAny_Call_Name_kw (ld_glob I1 hgf hmf ?_ hdf)
    refine PySem.W.callWith_K (h₀ := X.base) I1.ok.mod.kin hkf (thn ((ha _ _).go cpos pins' s1 σ' H1 _ I1 h1) fun us s2 ⟨vs, H2, I2, r, q⟩ => ⟨I2.kIn, ?_⟩) he hpl
    have hl : us.length = ps.length := by rw [← r.length]; exact F.len _ _ _ _ q
    have hb' : BindsTo s2 fd ⟨us, []⟩ (ps.zip us) := by
      have := hb s2 us I2.kIn (by simpa using hl)
      simpa using this
    refine wpAny_call (codeAny_mono (F.run X.A X.stack s2 H2 ⟨us, []⟩ us vs Q _ hr I2.env0 hb' r q) fun r s' hq => ?_)
    cases r with
    | error e => exact handle_as (cp := cp) (hpos := hpos) hN hi hk hst hfr hg hm hdb hs (I2.untryx I.ok rfl) hq
    | ok fl =>
      cases fl with
      | ret u => exact I2.after hq
      | next => exact False.elim hq
      | brk => exact False.elim hq
      | cont => exact False.elim hq
  have hS : PSs Y [.Expr (.Call (.Name x p) (e :: es) [] cpos) epos] _ := pss_one (ps_expr hE hsw)
  refine wpAny_mono (hS [] s σ H D (I.tryx rfl) ⟨rfl, h⟩) (fun fl s1 z => ?_) fun _ _ z => z
  cases fl with
  | next =>
    obtain ⟨σ1, H1, J, q⟩ := z
    exact wpAny_execs_nil ⟨σ1, H1, J.untryx I.ok rfl, q⟩
  | brk =>
    obtain ⟨σ1, H1, J, q⟩ := z
    exact ⟨σ1, H1, J.untryx I.ok rfl, q⟩
  | cont =>
    obtain ⟨σ1, H1, J, q⟩ := z
    exact ⟨σ1, H1, J.untryx I.ok rfl, q⟩
  | ret u =>
    obtain ⟨v, σ1, H1, J, r, q⟩ := z
    exact ⟨v, σ1, H1, J.untryx I.ok rfl, r, q⟩
theorem qs_try {X : Cx} {i : Nat} {n : Str} {C : Addr} {cx : Str} {cp hpos p cpos epos pos : Pos} {b₀ : Stmt} {suite : List Stmt} {ts : TS} {k : Nat} {ps : List Str} {sp : Sp} {x : Str} {e : Expr} {es : List Expr} {ta : TA}
    (hN : X.N.Nodup) (hi : X.N[i]? = some n) (hk : X.env.kindOf n = some .local) (hst : X.stack = X.env :: X.outer) (hfr : X.env.frame = some X.env.locals) (F : FnB1 X.prog X.w X.K X.mg X.base k x ps sp) (hr : Room k X.A) (hgf : Gl X x) (hg : Gl X cx) (hm : X.mg cx = some (.ref C))
    (ha : ∀ pn E, QA (X.tryx pn E) (e :: es) ta) (hs : ∀ a pn, QSs (X.hnd a pn) (b₀ :: suite) ts) (hdb : (cx == ("__debug__" : Str)) = false := by decide) (hdf : (x == ("__debug__" : Str)) = false := by decide)
    (he : starEach (e :: es) X.env = (false, eval e X.env) :: starEach es X.env := by rfl) (hpl : (backTo cpos (starEach es X.env)).any (·.1) = false := by rfl) (hsw : swapsWith (.Call (.Name x p) (e :: es) [] cpos) none epos.line X.env = pure false := by rfl) :
    QS X (.Try [.Expr (.Call (.Name x p) (e :: es) [] cpos) epos] [.ExceptHandler (some (.Name cx cp)) (some n) (b₀ :: suite) hpos] [] [] pos) (tTry X.K i C sp ta ts) := ⟨ps_try hN hi hk hst hfr F hr hgf hg hm ha hs hdb hdf he hpl hsw⟩
end L2

namespace L2
open PySem PySem.Spec PyProof.Rows PySem.W
/-! ### isinstance of an exception of an own class -/
structure XCls (K : PySem.W.Frag) (C : Addr) : Prop where
  ga : PySem.W.findIn K (.ref C) "__getattribute__" = some (some (.builtin "BaseException.__getattribute__"))
  gt : PySem.W.findIn K (.ref C) "__getattr__" = some none
  cl : PySem.W.findIn K (.ref C) "__class__" = some (some (.builtin "object.__class__"))
  sub : PySem.W.subIn K (.ref C) (.type "BaseException") = some true
  obj : PySem.W.subIn K (.ref C) (.type "object") = some true
  is : PySem.W.isClsIn K C = true
section
variable {prog : Program} {w : World} {A : Around} {E : Value → Shared → Prop} {h : Heap} {g : Array GenState} {d : Drawn} {t : Nat} {os : OsState} {a C : Addr} {o : Obj} {K : PySem.W.Frag}
theorem lk_here {M : Model} {n : Str} {r : Option Value} {Q : Option Value → Shared → Prop} (X : K.In h) (e : PySem.W.findIn K (.ref C) n = some r) (q : Q r ⟨h, g, d, t, os⟩) : wpAny M A (typeLookup (.ref C) n) Q E ⟨h, g, d, t, os⟩ := (PySem.W.looks_findIn X e).here q
theorem sb_here {M : Model} {c : Value} {r : Bool} {Q : Bool → Shared → Prop} (X : K.In h) (e : PySem.W.subIn K (.ref C) c = some r) (q : Q r ⟨h, g, d, t, os⟩) : wpAny M A (isSubtype (.ref C) c) Q E ⟨h, g, d, t, os⟩ := (PySem.W.looks_subIn X e).here q
theorem xclass_get {R : Result → Shared → Prop} (c : XCls K C) (X : K.In h) (hx : h.get? a = some o) (hc : o.cls = .ref C) (hq : R (.ok (.ret (.ref C))) ⟨h, g, d, t, os⟩) :
    codeAny (model prog w) A (.call (.builtin "getset_descriptor.__get__") ⟨[.builtin "object.__class__", .ref a, .ref C], []⟩) R ⟨h, g, d, t, os⟩ := by
  have hT5 : (⟨h, g, d, t, os⟩ : Shared).TypeIs (.builtin "object.__class__") "getset_descriptor" := F.typeOf_object_class
  have ho : PySem.W.subIn K (.ref C) (.type (".".intercalate ("object.__class__".cutAt '.').dropLast)) = some true := by rw [F.owner_object_class]; exact c.obj
  refine codeAny_call_builtin F.slot_gs_get.plain F.entry_gs_get (F.slot_gs_get.check _ _ _ _ _ _ _ _ hT5 (F.args_gs_get _ _ _) ?_)
  repeat (any_goals (first | assumption | (with_reducible refine wpAny_loadPart_at hx ?_; rw [hc]) | with_reducible refine sb_here X ho ?_ | wp_step))
  refine ⟨Code.quiet_builtin _ (by decide +kernel), codeAny_builtin F.entry_object_class ?_⟩
  repeat (any_goals (first | assumption | (with_reducible refine wpAny_loadPart_at hx ?_; rw [hc]) | wp_step))
theorem xcheck_ga {M : Model} {nv : Value} {Q : Unit → Shared → Prop} (c : XCls K C) (X : K.In h) (hx : h.get? a = some o) (hc : o.cls = .ref C) (hq : Q () ⟨h, g, d, t, os⟩) : wpAny M A (checkBuiltinCall "BaseException.__getattribute__" ⟨[.ref a, nv], []⟩) Q E ⟨h, g, d, t, os⟩ := by
  have z1 : builtinKind "BaseException.__getattribute__" = some .slot := by decide +kernel
  have z2 : splitId "BaseException.__getattribute__" = some ("BaseException", "__getattribute__") := by decide +kernel
  have z3 := F.args_bexc_ga (.ref a) nv
  simp only [checkBuiltinCall, z1, z2]
  refine wpAny_bind ?_
  unfold isInstance
  repeat (first | (with_reducible refine wpAny_loadPart_at hx ?_; rw [hc]) | with_reducible refine sb_here X c.sub ?_ | wp_step)
  exact hq
theorem xclass_entry {tk : Tok} {Q : Fin → Shared → Prop} (c : XCls K C) (X : K.In h) (hx : h.get? a = some o) (hc : o.cls = .ref C) (hq : Q (.done (.ret (.ref C))) ⟨h, g, d, t, os⟩) :
    wpAny (model prog w) A (Builtin.«object.__getattribute__» ⟨[.ref a, .str "__class__" tk], []⟩) Q E ⟨h, g, d, t, os⟩ := by
  have hT5 : (⟨h, g, d, t, os⟩ : Shared).TypeIs (.builtin "object.__class__") "getset_descriptor" := F.typeOf_object_class
  have z5 := F.typeOf_object_class
  have z6 := F.slot_gs_get.lookup
  have z7 := F.slot_gs_set.lookup
  repeat (any_goals (first | assumption | (with_reducible refine wpAny_loadPart_at hx ?_; rw [hc]) | with_reducible refine lk_here X c.cl ?_ | wp_step))
  refine xclass_get c X hx hc ?_
  repeat (any_goals (first | assumption | wp_step))
theorem xclass_call {tk : Tok} {R : Result → Shared → Prop} (c : XCls K C) (X : K.In h) (hx : h.get? a = some o) (hc : o.cls = .ref C) (hq : R (.ok (.ret (.ref C))) ⟨h, g, d, t, os⟩) :
    codeAny (model prog w) A (.call (.builtin "BaseException.__getattribute__") ⟨[.ref a, .str "__class__" tk], []⟩) R ⟨h, g, d, t, os⟩ :=
  codeAny_call_builtin PySem.F.attr_ValueError.ga.plain F.entry_bexc_ga (xcheck_ga c X hx hc (xclass_entry c X hx hc hq))
theorem xclass_by {tk : Tok} {fl : Bool} {Q : Value → Shared → Prop} (c : XCls K C) (X : K.In h) (hx : h.get? a = some o) (hc : o.cls = .ref C) (hq : Q (.ref C) ⟨h, g, d, t, os⟩) :
    wpAny (model prog w) A (getAttrBy (.ref a) (.str "__class__" tk) fl) Q E ⟨h, g, d, t, os⟩ := by
  have z3 := PySem.F.attr_ValueError.ga.bind (.ref a)
  have z2 : (Value.builtin "BaseException.__getattribute__" == Value.builtin "object.__getattribute__") = false := by decide +kernel
  have z1 : (onTheHeap (Value.ref C) && Value.builtin "BaseException.__getattribute__" == Value.builtin "object.__getattribute__") = false := by rw [z2]; rfl
  repeat (any_goals (first | assumption | (with_reducible refine wpAny_loadPart_at hx ?_; rw [hc]) | with_reducible refine lk_here X c.ga ?_ | with_reducible refine lk_here X c.gt ?_ | wp_step))
  refine xclass_call c X hx hc ?_
  repeat (any_goals (first | assumption | wp_step))
theorem xclass_attr {Q : Option Value → Shared → Prop} (c : XCls K C) (X : K.In h) (hx : h.get? a = some o) (hc : o.cls = .ref C) (hq : Q (some (.ref C)) ⟨h, g, d, t + 1, os⟩) : wpAny (model prog w) A (getAttr? (.ref a) "__class__") Q E ⟨h, g, d, t, os⟩ := by
  unfold getAttr? getAttrBy?
  repeat (any_goals (first | assumption | with_reducible apply xclass_by c X hx hc | wp_step))
end
end L2

namespace L2
open PySem PySem.Spec PyProof.Rows
theorem cls_of_is {K : PySem.W.Frag} {C : Addr} (h : PySem.W.isClsIn K C = true) : ∃ c d cd sl, K.lookup C = some ⟨c, d, .cls cd, sl⟩ := by
  unfold PySem.W.isClsIn PySem.W.clsIn at h
  split at h
  · rename_i c d cd sl q; exact ⟨c, d, cd, sl, q⟩
  · cases h
theorem kitx_exc {K : PySem.W.Frag} {a C : Addr} (c : XCls K C) : PySem.W.KitX K (.ref a) (.ref C) (XO a (.ref C)) where
  ty := fun M h _ x => by
    obtain ⟨o, vs, g1, g2, _⟩ := x
    exact g2 ▸ (PySem.W.Looks.ld g1).andThen .now
  it := fun _ _ X _ => by
    obtain ⟨c0, d0, cd, sl, q⟩ := cls_of_is c.is
    intro A Q E s k z
    unfold isType loadHead
    exact wpAny_bind (wpAny_loadPart (k _ _ (X _ _ q)) (wpAny_pure z))
  ne := fun h tp dd its n sl X htp => by
    obtain ⟨c0, d0, cd, sl', q⟩ := cls_of_is c.is
    refine Bool.eq_false_iff.mpr fun z => ?_
    have e : C = tp := Value.ref.inj (beq_iff_eq.mp z)
    subst e
    have := (X _ _ q).symm.trans htp
    cases this
  ca := fun {prog w A E Q s} X x k => by
    obtain ⟨hh, g, d, t, os⟩ := s
    obtain ⟨o, vs, g1, g2, _⟩ := x
    exact xclass_attr c X g1 g2 k
/-- a class as a value -/
def clV : V → Value
  | .ref D => .ref D
  | .ty n => .type n
  | _ => .none
def IsCl : V → Prop
  | .ref _ => True
  | .ty _ => True
  | _ => False
theorem clV_of : ∀ {v : V} {u : Value}, IsCl v → RelV v u → u = clV v
  | .ref D, u, _, r => r
  | .ty n, u, _, r => r
theorem clVs_of : ∀ {vs : List V} {us : List Value}, (∀ v ∈ vs, IsCl v) → Vals vs us → us = vs.map clV
  | [], _, _, .nil => rfl
  | v :: vs, _, h, .cons r t => by rw [clV_of (h v (List.mem_cons_self ..)) r, clVs_of (fun z hz => h z (List.mem_cons_of_mem _ hz)) t]; rfl
/-- isinstance(e, c), e an exception of the own class C -/
theorem call_isi_exc {X : Cx} : CallR X (.builtin "isinstance") (fun xs H Q => ∃ a C c b, xs = [.ref a, c] ∧ IsCl c ∧ H a = some (.ext (XO a (.ref C))) ∧ XCls X.K C ∧ PySem.W.kitOne X.K (.ref C) (clV c) = some b ∧ Q (.bl b) H) := by
  intro pins s σ H xs us Q I r h
  obtain ⟨a, C, c, b, rfl, hc, ha, xc, e, q⟩ := h
  obtain ⟨u, w', rfl, r1, r2⟩ := vals2 r
  cases r1
  rw [clV_of hc r2]
  obtain ⟨x, _⟩ := (show ObjOk X.prog X.w H s.heap a (.ext (XO a (.ref C))) from I.hok a _ ha)
  exact PySem.W.kia_one (kitx_exc xc) I.kIn x e (fun z => nomatch z) fun tk => ⟨.bl b, H, I.tok _, rfl, q⟩
theorem call_isi_excT {X : Cx} : CallR X (.builtin "isinstance") (fun xs H Q => ∃ a C tp cs b, xs = [.ref a, .ref tp] ∧ H tp = some (.tup cs) ∧ (∀ v ∈ cs, IsCl v) ∧ H a = some (.ext (XO a (.ref C))) ∧ XCls X.K C ∧ PySem.W.kitAny X.K (.ref C) (cs.map clV) = some b ∧ Q (.bl b) H) := by
  intro pins s σ H xs us Q I r h
  obtain ⟨a, C, tp, cs, b, rfl, ht, hc, ha, xc, e, q⟩ := h
  obtain ⟨u, w', rfl, r1, r2⟩ := vals2 r
  cases r1
  cases r2
  obtain ⟨x, _⟩ := (show ObjOk X.prog X.w H s.heap a (.ext (XO a (.ref C))) from I.hok a _ ha)
  obtain ⟨_, its, rv, o, g1, g2, n, g3⟩ := (show ObjOk X.prog X.w H s.heap tp (.tup cs) from I.hok tp _ ht)
  rw [← clVs_of hc rv] at e
  obtain ⟨oc, od, odt, osl⟩ := o
  dsimp only at g2 g3
  subst g2; subst g3
  exact PySem.W.kia_tup (kitx_exc xc) I.kIn x g1 e (fun z => nomatch z) fun tk => ⟨.bl b, H, I.tok _, rfl, q⟩
/-- a class of the text, by its name -/
theorem pe_gcls {X : Cx} {x : Str} {C : Addr} {pos : Pos} (hg : Gl X x) (hm : X.mg x = some (.ref C)) (hd : (x == ("__debug__" : Str)) = false := by decide) : PE X (.Name x pos) (tC (.ref C)) := pe_glob (v := .ref C) hg hm rfl hd
theorem qe_gcls {X : Cx} {x : Str} {C : Addr} {pos : Pos} (hg : Gl X x) (hm : X.mg x = some (.ref C)) (hd : (x == ("__debug__" : Str)) = false := by decide) : QE X (.Name x pos) (tC (.ref C)) := ⟨pe_gcls hg hm hd⟩
end L2

namespace L2
open PySem PySem.Spec PyProof.Rows
/-! ### lists of texts compared; a text so many times -/
theorem lay_strs : ∀ xs : List Str, (∀ x ∈ xs, PyData.strOk x = true) → PyData.canLayAll0 (xs.map PyData.str) = true
  | [], _ => rfl
  | x :: r, h => by simp [PyData.canLayAll0, PyData.canLay0, lay_strs r (fun y hy => h y (List.mem_cons_of_mem _ hy)), h x (List.mem_cons_self ..)]
theorem deep_strs : ∀ xs : List Str, PyData.depthAll (xs.map PyData.str) = 0
  | [] => rfl
  | x :: r => by simp [PyData.depthAll, PyData.depth, deep_strs r]
theorem shaped_strs (xs : List Str) (h : ∀ x ∈ xs, PyData.strOk x = true) : SeqAt.shaped (.list (xs.map PyData.str)) = true := by
  simp [SeqAt.shaped, PyData.canLay0, PyData.depth, lay_strs xs h, deep_strs]
theorem same_strs : ∀ xs ys : List Str, PySem.Spec.sameAll (xs.map PyData.str) (ys.map PyData.str) = decide (xs = ys)
  | [], [] => by simp [PySem.Spec.sameAll]
  | [], _ :: _ => by simp [PySem.Spec.sameAll]
  | _ :: _, [] => by simp [PySem.Spec.sameAll]
  | a :: r, b :: t => by
    simp only [List.map_cons, PySem.Spec.sameAll, PySem.Spec.same, same_strs r t]
    by_cases h : a = b <;> by_cases h' : r = t <;> simp [h, h']
theorem same_strL (xs ys : List Str) : PySem.Spec.same (.list (xs.map PyData.str)) (.list (ys.map PyData.str)) = decide (xs = ys) := by
  show PySem.Spec.sameAll _ _ = _
  exact same_strs xs ys
theorem carried_strs : ∀ {xs : List Str} {us : List Value}, Vals (xs.map V.str) us → CarriedAll us (xs.map PyData.str)
  | [], _, .nil => .nil
  | x :: xs, _, .cons r t => by
    obtain ⟨tk, rfl⟩ := r
    exact .cons (.str _ tk) (carried_strs t)
theorem op_neLS {X : Cx} (hu : X.A.units + 64 < cLine) : OpR X (compareOp .NotEq) (fun x y H Q => ∃ (a b : Addr) (xs ys : List Str), x = .ref a ∧ y = .ref b ∧ SqL X.K H a (xs.map V.str) ∧ SqL X.K H b (ys.map V.str) ∧ (∀ x ∈ xs, PyData.strOk x = true) ∧ (∀ x ∈ ys, PyData.strOk x = true) ∧ Q (.bl (!decide (xs = ys))) H) := by
  intro pins s σ H x y v u Q I rx ry h
  obtain ⟨a, b, xs, ys, rfl, rfl, ha, hb, o1, o2, q⟩ := h
  cases rx
  cases ry
  obtain ⟨its, r, pl, _⟩ := I.list ha
  obtain ⟨its2, r2, pl2, _⟩ := I.list hb
  refine ne_dataH_same (reads_newData pl.isList (carried_strs r)) (reads_newData pl2.isList (carried_strs r2)) (shaped_strs _ o1) (shaped_strs _ o2) hu (SeqAt.noMix_of_shape (.list .str) rfl _ _ (list_map_has fun _ => rfl) (list_map_has fun _ => rfl)) ?_
  rw [same_strL]
  exact ⟨.bl _, H, I, rfl, q⟩
end L2

namespace L2
open PySem PySem.Spec PyProof.Rows
/-! ### t[::2], t[1::2] of a tuple -/
/-- every second item, the first among them -/
def alt {α : Type} : List α → List α
  | [] => []
  | [x] => [x]
  | x :: _ :: r => x :: alt r
theorem alt_len {α : Type} : ∀ xs : List α, (alt xs).length = (xs.length + 1) / 2
  | [] => by simp [alt]
  | [x] => by simp [alt]
  | x :: y :: r => by
    show (alt r).length + 1 = (r.length + 1 + 1 + 1) / 2
    rw [alt_len r]; omega
theorem alt_get {α : Type} : ∀ (xs : List α) (k : Nat), (alt xs)[k]? = xs[2 * k]?
  | [], k => by simp [alt]
  | [x], 0 => rfl
  | [x], k + 1 => by simp [alt]
  | x :: y :: r, 0 => rfl
  | x :: y :: r, k + 1 => by
    show (alt r)[k]? = _
    rw [alt_get r k, show 2 * (k + 1) = 2 * k + 1 + 1 by omega]
    rfl
theorem Vals.alt : ∀ {xs : List V} {us : List Value}, Vals xs us → Vals (alt xs) (L2.alt us)
  | _, _, .nil => .nil
  | _, _, .cons r .nil => .cons r .nil
  | _, _, .cons r (.cons _ t) => .cons r (Vals.alt t)
theorem pick_alt (xs : Array Value) (i k : Nat) (hk : k = (xs.size - i + 1) / 2) : ((List.range k).filterMap fun (m : Nat) => xs[((i : Int) + (m : Int) * 2).toNat]?) = alt (xs.toList.drop i) := by
  have e : (fun (m : Nat) => xs[((i : Int) + (m : Int) * 2).toNat]?) = fun m => (alt (xs.toList.drop i))[m]? := by
    funext m
    have : ((i : Int) + (m : Int) * 2).toNat = i + 2 * m := by omega
    rw [this, alt_get, List.getElem?_drop]
    simp
  rw [e]
  have hl : (alt (xs.toList.drop i)).length = k := by rw [alt_len, List.length_drop, hk]; simp
  rw [← hl]
  generalize alt (xs.toList.drop i) = l
  refine List.ext_getElem? fun n => ?_
  have : (List.range l.length).filterMap (fun m => l[m]?) = l := by
    induction l with
    | nil => rfl
    | cons x l ih =>
      rw [List.length_cons, List.range_succ_eq_map, List.filterMap_cons]
      simp only [List.getElem?_cons_zero, List.filterMap_map]
      congr 1
  rw [this]
section
variable {prog : Program} {w : World} {A : Around} {E : Value → Shared → Prop} {s : Shared}
theorem places_2 (i n : Nat) (h : i ≤ n) : Builtin.Slice.slicePlaces (i : Int) (n : Int) 2 = (n - i + 1) / 2 := by
  unfold Builtin.Slice.slicePlaces
  have h1 : (2 : Int) > 0 := by omega
  simp only [h1, if_true]
  split <;> omega
theorem sliceApplied_2 {sl : Addr} {vl : Value} {t : Tok} {lo : Option Int} {n : Nat} {Q : Int × Int × Nat → Shared → Prop} (hs : s.heap.IsSliceOf sl vl .none (.int 2 t)) (pl : IsPart vl lo)
    (h : Q (((HT.sIx n 0 lo : Nat) : Int), 2, (n - HT.sIx n 0 lo + 1) / 2) s) : wpAny (model prog w) A (Builtin.Slice.sliceApplied (.ref sl) (pure (n : Int))) Q E s := by
  obtain ⟨os, hos, hcs, hds⟩ := id hs
  unfold Builtin.Slice.sliceApplied Builtin.Slice.sliceFields
  refine wpAny_bind (wpAny_bind (wpAny_field hos hds (x := vl) rfl (wpAny_bind (wpAny_field hos hds (x := .none) rfl (wpAny_bind (wpAny_field hos hds (x := .int 2 t) rfl (wpAny_pure ?_)))))))
  refine wpAny_bind (slicePart_int ?_)
  show wpAny _ _ (if ((2 : Int) == 0) = true then _ else _) _ _ s
  rw [if_neg (by decide)]
  refine wpAny_bind (HT.slicePart_ pl (wpAny_bind (slicePart_none (wpAny_bind (wpAny_pure ?_)))))
  have ea : Builtin.Slice.sliceAdjust lo none 2 (n : Int) = (((HT.sIx n 0 lo : Nat) : Int), (n : Int)) := by
    have h1 : ¬ ((2 : Int) < 0) := by omega
    unfold Builtin.Slice.sliceAdjust
    simp only [h1, if_false]
    refine Prod.ext ?_ rfl
    cases lo with
    | none => rfl
    | some v => exact HT.clip_eq v n 0
  show wpAny _ _ (match Builtin.Slice.sliceAdjust lo none 2 (n : Int) with | (lo, hi) => pure (lo, (2 : Int), Builtin.Slice.slicePlaces lo hi 2)) _ _ s
  rw [ea]
  show wpAny _ _ (pure (((HT.sIx n 0 lo : Nat) : Int), (2 : Int), Builtin.Slice.slicePlaces ((HT.sIx n 0 lo : Nat) : Int) (n : Int) 2)) _ _ s
  rw [places_2 _ _ (HT.sIx_le _ _ (Nat.zero_le _) lo)]
  exact wpAny_pure h
theorem getItem_tuple_2 {t sl : Addr} {items : Array Value} {vl : Value} {tk : Tok} {lo : Option Int} {Q : Value → Shared → Prop} (ht : IsTup s.heap t items) (hs : s.heap.IsSliceOf sl vl .none (.int 2 tk)) (pl : IsPart vl lo)
    (h : Q (.ref s.heap.objs.size) { s with heap := s.heap.push { cls := .type "tuple", data := .seq (alt (items.toList.drop (HT.sIx items.size 0 lo))).toArray } })
    (hsz : items.size ≤ sizeLine) : wpAny (model prog w) A (getItem (.ref t) (.ref sl)) Q E s := by
  have htake : sizeOk (.seq (alt (items.toList.drop (HT.sIx items.size 0 lo))).toArray) := by
    show (alt (items.toList.drop (HT.sIx items.size 0 lo))).toArray.size ≤ sizeLine
    rw [List.size_toArray, alt_len, List.length_drop, Array.length_toList]
    omega
  obtain ⟨os, hos, hcs, hds⟩ := id hs
  have hTs : s.TypeIs (.ref sl) "slice" := ⟨os, hos, hcs⟩
  unfold getItem
  try with_reducible refine wpAny_holding ?_
  first | refine wpAny_bind (wpAny_pure ?_) | skip
  refine wpAny_bind (wpAny_sequenceKey ht.typeIs (by decide) ?_)
  refine wpAny_bind (wpAny_callSpecial?_slot (name := Str.ofString "__getitem__") ht.typeIs PyProof.Rows.slot_tuple_getitem
    (wpAny_call_entry PyProof.Rows.slot_tuple_getitem ht.typeIs entry_tuple_getitem ?_ (args_tuple_getitem _ _)))
  show wpAny _ _ (Builtin.Tuple.tupleItemsOf (.ref t) >>= _) _ _ s
  refine wpAny_bind (tupleItemsOf_ ht ?_)
  refine wpAny_bind (wpAny_typeOf hTs ?_)
  rw [if_pos (by decide)]
  refine wpAny_bind (sliceApplied_2 hs pl ?_)
  show wpAny _ _ (if (((HT.sIx items.size 0 lo : Nat) : Int) == 0 && (2 : Int) == 1 && _) = true then _ else _) _ _ s
  rw [show (((HT.sIx items.size 0 lo : Nat) : Int) == 0 && (2 : Int) == 1) = false by simp, Bool.false_and, if_neg (by decide), pick_alt _ _ _ rfl]
  first
    | exact wpAny_bind (m := Builtin.Tuple.tupleExact _) (wpAny_newObj_type (wpAny_pure ⟨_, rfl, wpAny_pure h⟩) htake)
    | exact wpAny_bind (m := Builtin.Tuple.tupleExact _) (wpAny_newObj_type (wpAny_bind (wpAny_pure (wpAny_pure ⟨_, rfl, wpAny_pure h⟩))) htake)
    | exact wpAny_bind (wpAny_bind (m := Builtin.Tuple.tupleExact _) (wpAny_newObj_type (wpAny_pure (wpAny_pure ⟨_, rfl, wpAny_pure h⟩)) htake))
    | exact wpAny_bind (wpAny_bind (m := Builtin.Tuple.tupleExact _) (wpAny_newObj_type (wpAny_pure ⟨_, rfl, wpAny_pure h⟩) htake))
end
section
variable {X : Cx}
def tSl2 (K : PySem.W.Frag) (te : TE) (tl : TO) : TE := fun σ H Q => te σ H fun x H1 => tl σ H1 fun l H2 => ∃ a xs, x = .ref a ∧ SqT K H2 a xs ∧ ∀ p, H2 p = none → Q (.ref p) (upd H2 p (.tup (alt (xs.drop (HT.sIx xs.length 0 l)))))
theorem pe_slice2 {e : Expr} {lo : Option Expr} {te : TE} {tl : TO} {kk : Nat} {cp p2 pos : Pos} (he : PE X e te) (hl : PO X lo tl) : PE X (.Subscript e (.Slice lo none (some (.Constant (.int 2) kk cp)) p2) pos) (tSl2 X.K te tl) := by
  intro pins s σ H Q I h
  refine Subscript_ (thn (he pins s σ H _ I h) fun v s1 ⟨x, H1, I1, r1, q1⟩ => ?_)
  refine wpAny_Slice (thn (hl pins s1 σ H1 _ I1 q1) fun vl s2 ⟨l, H2, I2, pl, q2⟩ => ?_)
  rw [evalPart_none]
  refine wpAny_pure ?_
  rw [evalPart_some]
  refine thn (pe_int (X := X) pins s2 σ H2 (fun y H3 => y = .int 2 ∧ H3 = H2) I2 ⟨rfl, rfl⟩) fun v2 s3 ⟨y, H3, I3, ry, ey, eh⟩ => ?_
  subst ey; subst eh
  obtain ⟨tk, rfl⟩ := ry
  have I4 : Inv X pins σ H3 { s3 with heap := s3.heap.push { cls := .type "slice", data := .fields #[vl, .none, .int 2 tk] } } := I3.kept (t' := s3.toks) fun b ob q => Heap.get?_push_of_some _ q
  obtain ⟨a, xs, rfl, hx, q⟩ := q2
  cases r1
  obtain ⟨its, r, ht, hz⟩ := I4.tuple hx
  have hlen : its.toArray.size = xs.length := by rw [List.size_toArray]; exact r.length.symm
  refine tail_any (ops := [.ref a, .ref s3.heap.objs.size]) ht.typeIs PyProof.Rows.slot_tuple_getitem.lookup ?_ (by with_unfolding_all rfl)
  refine getItem_tuple_2 ht (Heap.IsSliceOf.new ..) pl ?_ (by rw [hlen]; exact hz)
  rw [hlen]
  refine ⟨.ref _, _, I4.laid (t' := s3.toks) (o := .tup (alt (xs.drop (HT.sIx xs.length 0 l)))) (fun b ob q => Heap.get?_push_of_some _ q) (Nat.le_refl _) ?_, rfl, q _ (I4.hok.fresh (Nat.le_refl _))⟩
  exact ⟨by rw [alt_len, List.length_drop]; omega, _, Vals.alt (r.drop (HT.sIx xs.length 0 l)), IsTup.new _ _⟩
theorem qe_slice2 {e : Expr} {lo : Option Expr} {te : TE} {tl : TO} {kk : Nat} {cp p2 pos : Pos} (he : QE X e te) (hl : QO X lo tl) : QE X (.Subscript e (.Slice lo none (some (.Constant (.int 2) kk cp)) p2) pos) (tSl2 X.K te tl) := ⟨pe_slice2 he.go hl.go⟩
end
/-! ### all([..]) of bools -/
theorem call_all {X : Cx} (hc : X.calm = true) : CallR X (.builtin "all") (fun xs H Q => ∃ (a : Addr) (bs : List Bool), xs = [.ref a] ∧ SqL X.K H a (bs.map V.bl) ∧ Q (.bl (bs.all id)) H) := by
  intro pins s σ H xs us Q I r h
  obtain ⟨a, bs, rfl, ha, q⟩ := h
  obtain ⟨u, rfl, ru⟩ := vals1 r
  cases ru
  obtain ⟨its, rv, pl, _⟩ := I.list ha
  have hh : X.A.handled = none := I.ok.hd hc
  have hlt : a < s.heap.objs.size := by obtain ⟨o, n, e, _⟩ := pl; exact Heap.lt_size e
  have hn : ∀ i : Nat, its.toArray[i]? = (bs[i]?).map Value.bool := fun i => by
    have := rv
    cases e : bs[i]? with
    | none =>
      have h1 : (bs.map V.bl)[i]? = none := by rw [List.getElem?_map, e]; rfl
      have := rv.none_of h1
      simpa using this
    | some b =>
      have h1 : (bs.map V.bl)[i]? = some (V.bl b) := by rw [List.getElem?_map, e]; rfl
      obtain ⟨u, hu, ru⟩ := rv.get h1
      cases (show u = Value.bool b from ru)
      simpa using hu
  have hlen : its.length = bs.length := by have := rv.length; simpa using this.symm
  have W := Walks.list (prog := X.prog) (w := X.w) (A := X.A.in1) hh s.heap.objs.size a (Nat.ne_of_lt hlt) its.toArray
  refine call_all_walk (wpAny_pyIter_list pl.isList ⟨_, _, _, _, _, _, fun i => (bs[i]?).getD true, rfl, W, ?_, ?_, fun h' tk k => ?_⟩)
  · exact ⟨⟨_, Heap.get?_push_size _ rfl, rfl, rfl⟩, Heap.IsList.push pl.isList _⟩
  · intro i v s' Q' E' hP hq
    have hq : Q' ((bs[i]?).getD true) s' := hq
    rw [hn i] at hP
    cases e : bs[i]? with
    | none => rw [e] at hP; cases hP
    | some b =>
      rw [e] at hP hq
      cases hP
      exact wpAny_truthy_bool hq
  · have eall : (List.range its.toArray.size).all (fun i => (bs[i]?).getD true) = bs.all id := by
      rw [List.size_toArray, hlen, Bool.eq_iff_iff, List.all_eq_true, List.all_eq_true]
      constructor
      · intro h x hx
        obtain ⟨i, hi, rfl⟩ := List.getElem_of_mem hx
        have := h i (List.mem_range.mpr hi)
        rw [List.getElem?_eq_getElem hi] at this
        exact this
      · intro h i hi
        have hi' := List.mem_range.mp hi
        rw [List.getElem?_eq_getElem hi']
        exact h _ (List.getElem_mem hi')
    rw [eall]
    exact ⟨.bl _, H, I.kept (t' := tk) fun b u e => k b u (by simp; exact Nat.ne_of_lt (Heap.lt_size e)) (Heap.get?_push_of_some _ e), rfl, q⟩
end L2

namespace L2
open PySem PySem.Spec PyProof.Rows
/-! ### {k: v for x in xs} -/
section
variable {prog : Program} {w : World} {A : Around} {R : Result → Shared → Prop} {s : Shared}
theorem compLoop_genD {kx vx target iter : Expr} {ifs : List Expr} {scope : Scope} {pos : Pos} {it : Value} {D : Addr} {env : Env} (I : Nat → Shared → Prop)
    (turn : ∀ n s, I n s → wpAny (model prog w) A (pyNext it) (fun r s₁ => match r with
      | none => R (.ok .next) s₁
      | some v => wpAny (model prog w) A (letOwnedTupleGo target it v) (fun _ s₁' => wpAny (model prog w) A (assign target env v) (fun _ s₂ =>
          wpAny (model prog w) A (forIn ifs true fun c r => if r = true then do let ok ← isTrue c env (eval c env); pure (ForInStep.yield ok) else pure (ForInStep.yield r)) (fun ok s₃ =>
            if ok = true then wpAny (model prog w) A (eval kx env) (fun kv s₄ => wpAny (model prog w) A (eval vx env) (fun vv s₅ =>
              wpAny (model prog w) A (dictSet D kv vv) (fun _ s₆ => ∃ m, m < n ∧ I m s₆) (fun _ _ => False) s₅) (fun _ _ => False) s₄) (fun _ _ => False) s₃
            else ∃ m, m < n ∧ I m s₃) (fun _ _ => False) s₂) (fun _ _ => False) s₁') (fun _ _ => False) s₁) (fun _ _ => False) s)
    (n : Nat) (h : I n s) :
    codeAny (model prog w) A (.compLoop (.DictComp kx vx [⟨target, iter, ifs, 0⟩] scope pos) 0 it (.ref D) env) R s := by
  have nv : ∀ {α : Type} {t : Sem α} {Q : α → Shared → Prop} {E' : Value → Shared → Prop} {s' : Shared}, wpAny (model prog w) A t Q (fun _ _ => False) s' → wpAny (model prog w) A t Q E' s' :=
    fun h => wpAny_mono h (fun _ _ q => q) fun _ _ z => z.elim
  refine codeAny_loop rfl I (fun n s hI => ?_) n h
  show wpAny _ A ((compTurn (.DictComp kx vx [⟨target, iter, ifs, 0⟩] scope pos) 0 it (.ref D) env).onRaise (fun x => do noteFrame x env; theTreesLotGoes x)) _ _ s
  refine wpAny_noted (nv ?_)
  rw [compTurn_dict]
  refine wpAny_bind (wpAny_standAt (wpAny_bind (thn (turn n s hI) (fun r s₁ h₁ => ?_))))
  cases r with
  | none => exact wpAny_pure h₁
  | some v =>
    refine wpAny_bind (thn h₁ (fun _ s₁' h₁' => ?_))
    refine wpAny_bind (thn h₁' (fun _ s₂ h₂ => wpAny_bind (thn h₂ (fun ok s₃ h₃ => ?_))))
    cases ok with
    | false => exact wpAny_pure ⟨rfl, h₃⟩
    | true =>
      refine wpAny_bind (wpAny_bind (thn h₃ (fun kv s₄ h₄ => wpAny_bind (wpAny_holding (thn h₄ (fun vv s₅ h₅ => wpAny_bind (wpAny_standAt (wpAny_holding (thn h₅ (fun _ s₆ h₆ => ?_)))))))))) 
      exact wpAny_pure ⟨rfl, h₆⟩
end
def tCompD (κ : St → St) (wi : TI) (g : TG) (tt : TT) (tk tv : TE) : TE := fun σ H Q => wi σ H fun J H1 => ∀ D, H1 D = none → ∃ W : Nat → Nat → St → Hp → Prop, (∃ m, W 0 m (κ σ) (upd H1 D (.dK []))) ∧ ∀ i m σ' H', W i m σ' H' →
  (J.stop i H' ∧ Q (.ref D) H') ∨ (J.go i H' ∧ ∃ (Ay : V → V → St → Hp → Prop) (An : St → Hp → Prop), (∀ y v σ3 H5, Ay y v σ3 H5 → ∃ kvs key, y = kV key ∧ H5 D = some (.dK kvs) ∧ kvs.length < sizeLine ∧ ∃ m', m' < m ∧ W (i + 1) m' σ3 (upd H5 D (.dK (putK kvs key v)))) ∧ (∀ σ3 H4, An σ3 H4 → ∃ m', m' < m ∧ W (i + 1) m' σ3 H4) ∧
    ∀ x H2, J.yld i H' x H2 → g x σ' H2 fun σ3 H3 => tt σ3 H3 fun ok H4 => if ok = true then tk σ3 H4 (fun y H5 => tv σ3 H5 fun v H6 => Ay y v σ3 H6) else An σ3 H4)
section
variable {X : Cx} {pins : List (Addr × Obj)} {σ : St} {H : Hp} {s : Shared}
theorem comp_runD {scope : Scope} {cl : List (Str × Addr)} {N' : List Str} {n : Nat} {js : List Nat} {tg iter kx vx : Expr} {ifs : List Expr} {pos : Pos} {g : TG} {tt : TT} {tk tv : TE} {E : Value → Shared → Prop}
    {RR : Value → Addr → Result → Shared → Prop} {it : Addr} {fp : List Addr} {tn : Nat → Heap → Prop} {J : It} {W : Addr → Nat → Nat → St → Hp → Prop} {Fi : Addr → Hp → Prop}
    (c : Caps X scope cl N' n js) (hc : X.calm = true)
    (hin : ∀ s3 H3 fp, PG (cxC X N' scope cl s3 H3 fp) tg g ∧ PTS (cxC X N' scope cl s3 H3 fp) ifs tt ∧ PE (cxC X N' scope cl s3 H3 fp) kx tk ∧ PE (cxC X N' scope cl s3 H3 fp) vx tv)
    (I : Inv X pins σ H s) (T : Turn X.prog X.w X.K tg J fp it tn) (st : tn 0 s.heap) (f : ∀ b ∈ fp, FpOk X pins H b)
    (w0 : ∀ D, H D = none → ∃ m, W D 0 m (capσ n js σ) (upd H D (.dK [])))
    (turn : ∀ D, H D = none → ∀ i m σ' H', W D i m σ' H' → (J.stop i H' ∧ Fi D H') ∨ (J.go i H' ∧ ∃ (Ay : V → V → St → Hp → Prop) (An : St → Hp → Prop), (∀ y v σ3 H5, Ay y v σ3 H5 → ∃ kvs key, y = kV key ∧ H5 D = some (.dK kvs) ∧ kvs.length < sizeLine ∧ ∃ m', m' < m ∧ W D (i + 1) m' σ3 (upd H5 D (.dK (putK kvs key v)))) ∧ (∀ σ3 H4, An σ3 H4 → ∃ m', m' < m ∧ W D (i + 1) m' σ3 H4) ∧
      ∀ x H2, J.yld i H' x H2 → g x σ' H2 fun σ3 H3 => tt σ3 H3 fun ok H4 => if ok = true then tk σ3 H4 (fun y H5 => tv σ3 H5 fun v H6 => Ay y v σ3 H6) else An σ3 H4))
    (hR : ∀ (D : Addr) (s3 : Shared) (H3 H' : Hp) (s' : Shared), Inv X pins σ H3 s3 → Inv X pins σ H' s' → (∃ m, s'.heap.Ns s3.heap.objs.size m) → H' s3.heap.objs.size = none → Fi D H' → RR (.ref D) s3.heap.objs.size (.ok .next) s') :
    wpAny (model X.prog X.w) X.A newDict (fun acc s₃ => wpAny (model X.prog X.w) X.A (newFunctionEnv scope X.env.globals cl [] X.env.qual none .none (some X.env)) (fun cenv s₄ =>
      codeAny (model X.prog X.w) X.A (.compStart (.DictComp kx vx [⟨tg, iter, ifs, 0⟩] scope pos) 0 (.ref it) acc { cenv with scope := relabel scope X.env }) (RR acc cenv.locals) s₄) E s₃) E s := by
  have hD : H s.heap.objs.size = none := I.fresh
  have I3 : Inv X pins σ (upd H s.heap.objs.size (.dK [])) { s with heap := s.heap.push { cls := .type "dict", data := .dict #[] }, toks := s.toks } := I.laid (t' := s.toks) (fun _ _ q => Heap.get?_push_of_some _ q) (Nat.le_refl _) (dk_empty s.heap I.big)
  refine wpAny_newObj_type ?_
  have f3 : ∀ b ∈ fp, FpOk X pins (upd H s.heap.objs.size (.dK [])) b := fun b hb => by
    obtain ⟨o, e, _⟩ := T.obj _ _ st b hb
    exact ⟨by rw [upd_ne (Nat.ne_of_lt (Heap.lt_size e))]; exact (f b hb).1, (f b hb).2⟩
  generalize hs3 : ({ s with heap := s.heap.push { cls := .type "dict", data := .dict #[] }, toks := s.toks } : Shared) = s3 at I3
  have hh3 : s.heap.push { cls := .type "dict", data := .dict #[] } = s3.heap := by rw [← hs3]
  have k3 : ∀ b o, s.heap.get? b = some o → s3.heap.get? b = some o := fun b o e => by rw [← hh3]; exact Heap.get?_push_of_some _ e
  have fo : ∀ b ∈ fp, b < s3.heap.objs.size := fun b hb => by
    obtain ⟨o, e, _⟩ := T.obj _ _ st b hb
    exact Heap.lt_size (k3 b o e)
  refine wpAny_newFunctionEnv c.nocell (by intro y hy; simp at hy) (fun h₁ hns₁ hsb₁ => ?_) c.kind
  have k4 : ∀ b o, s3.heap.get? b = some o → h₁.get? b = some o := fun b o e => hsb₁.extBut b o (Nat.ne_of_lt (Heap.lt_size e)) (Heap.get?_push_of_some _ e)
  have I4 := inv_comp (h₁ := h₁) (tk := s3.toks + ([] : List (Str × Value)).length) c I3 f3 fo ⟨_, hns₁⟩ k4
  have st4 : tn 0 h₁ := T.keep _ _ _ st fun b _ o e => k4 b o (k3 b o e)
  have stat : ∀ {H' : Hp}, (∀ b ∈ fp, H' b = none) → ∀ b ∈ fp, FpOk (cxC X N' scope cl s3 (upd H s.heap.objs.size (.dK [])) fp) [] H' b := fun hn b hb =>
    ⟨hn b hb, Nat.ne_of_lt (fo b hb), I4.ok.exfs b hb, .inl hb, fun x a h => (f b hb).2.2.2.2.1 x a (c.sub x a h), fun p hp => absurd (show p ∈ ([] : List (Addr × Obj)) from hp) (by simp)⟩
  obtain ⟨hg, htt, hek, hev⟩ := hin s3 (upd H s.heap.objs.size (.dK [])) fp
  have tr := turn _ hD
  have loop : codeAny (model X.prog X.w) X.A (.compLoop (.DictComp kx vx [⟨tg, iter, ifs, 0⟩] scope pos) 0 (.ref it) (.ref s.heap.objs.size) (compEnvC scope cl s3.heap.objs.size X.env))
      (RR (.ref s.heap.objs.size) s3.heap.objs.size) { s3 with heap := h₁, toks := s3.toks + ([] : List (Str × Value)).length } := by
    obtain ⟨m0, w0⟩ := w0 _ hD
    refine compLoop_genD (fun m s' => ∃ i σ' H', Inv (cxC X N' scope cl s3 (upd H s.heap.objs.size (.dK [])) fp) [] σ' H' s' ∧ tn i s'.heap ∧ (∀ b ∈ fp, H' b = none) ∧ W s.heap.objs.size i m σ' H') ?_ m0 ⟨0, _, _, I4, st4, fun b hb => (f3 b hb).1, w0⟩
    rintro m s5 ⟨i, σ5, H5, I5, st5, fr5, w5⟩
    rcases tr i m σ5 H5 w5 with ⟨stop, qF⟩ | ⟨go, Ay, An, hAy, hAn, step⟩
    · refine thn (T.done (cxC X N' scope cl s3 (upd H s.heap.objs.size (.dK [])) fp) rfl rfl rfl hc i [] s5 σ5 H5 (fun _ _ => False) I5 (stat fr5) st5 stop) fun r s6 ⟨hr, I6⟩ => ?_
      subst hr
      obtain ⟨m6, hn6, _⟩ := I6.loc
      exact hR _ s3 _ H5 s6 I3 (comp_out I3 f3 I6) ⟨m6, hn6⟩ I6.free qF
    · refine thn (T.item (cxC X N' scope cl s3 (upd H s.heap.objs.size (.dK [])) fp) rfl rfl rfl hc i [] s5 σ5 H5 (fun _ _ => False) I5 (stat fr5) st5 go) fun r s6 ⟨u, hr, h6⟩ => ?_
      subst hr
      refine thn h6 fun _ s7 ⟨x, H7, I7, r7, y7, st7, fr7⟩ => ?_
      have I7' := I7.pinned (stat fr7) (T.obj _ _ st7)
      refine thn (hg _ s7 σ5 H7 x u _ I7' r7 (step x H7 y7)) fun _ s8 ⟨σ8, H8, I8, q8⟩ => ?_
      refine thn (htt _ s8 σ8 H8 _ I8 q8) fun ok s9 ⟨H9, I9, q9⟩ => ?_
      have back : ∀ {H' : Hp} {s' : Shared}, Inv (cxC X N' scope cl s3 (upd H s.heap.objs.size (.dK [])) fp) ([] ++ pinsAt fp s7.heap) σ8 H' s' → (∃ m', m' < m ∧ W s.heap.objs.size (i + 1) m' σ8 H') →
          ∃ m', m' < m ∧ ∃ i σ' H', Inv (cxC X N' scope cl s3 (upd H s.heap.objs.size (.dK [])) fp) [] σ' H' s' ∧ tn i s'.heap ∧ (∀ b ∈ fp, H' b = none) ∧ W s.heap.objs.size i m' σ' H' := fun {H' s'} J' w' => by
        obtain ⟨m', hm, w'⟩ := w'
        refine ⟨m', hm, i + 1, σ8, H', J'.unpinned, T.keep _ _ _ st7 fun b hb o e => (J'.pin (b, o) (List.mem_append_right _ (List.mem_append_right _ (mem_pinsAt hb e)))).1, fun b hb => ?_, w'⟩
        obtain ⟨o, e, d⟩ := T.obj _ _ st7 b hb
        exact (J'.pin (b, o) (List.mem_append_right _ (List.mem_append_right _ (mem_pinsAt hb e)))).2.1
      cases ok with
      | false =>
        rw [if_neg (by decide)] at q9 ⊢
        exact back I9 (hAn _ _ q9)
      | true =>
        rw [if_pos rfl] at q9 ⊢
        refine thn (hek _ s9 σ8 H9 _ I9 q9) fun yv s10 ⟨y, H10, I10, r10, q10⟩ => ?_
        refine thn (hev _ s10 σ8 H10 _ I10 q10) fun vv s11 ⟨v, H11, I11, r11, qA⟩ => ?_
        obtain ⟨kvs, key, rfl, e11, z11, q11⟩ := hAy _ _ _ _ qA
        obtain ⟨z, hd, vs, rel, dd⟩ := dk_of I11.hok e11
        have hz : vs.length ≤ sizeLine := by rw [← rel.length]; exact z
        have hl : (putK kvs key v).length ≤ sizeLine := by have := length_putK kvs key v; omega
        refine wpAny_dictSet_pairs (hsz := hz) (kV_is r10) dd fun h' dd' hs => back ?_ q11
        have he : ∃ q, h'.get? s.heap.objs.size = some q := let ⟨q, _, _, hq, _⟩ := dd'; ⟨q, hq⟩
        exact d_write I11 (by rw [e11]; exact True.intro) hs he (dk_new hl hd (rel.put key r11) dd')
  exact codeAny_compStart_dict loop (T.self _ 0 _ _ _ st4 loop)

theorem pe_compD {scope : Scope} {cl : List (Str × Addr)} {N' : List Str} {n : Nat} {js : List Nat} {tg iter kx vx : Expr} {ifs : List Expr} {pos : Pos} {wi : TI} {g : TG} {tt : TT} {tk tv : TE}
    (c : Caps X scope cl N' n js) (hc : X.calm = true) (hi : PI X tg iter wi)
    (hin : ∀ s3 H3 fp, PG (cxC X N' scope cl s3 H3 fp) tg g ∧ PTS (cxC X N' scope cl s3 H3 fp) ifs tt ∧ PE (cxC X N' scope cl s3 H3 fp) kx tk ∧ PE (cxC X N' scope cl s3 H3 fp) vx tv)
    (hs : ∀ x, foldedSetIterable iter X.env x = pure x := by intro _; rfl) : PE X (.DictComp kx vx [⟨tg, iter, ifs, 0⟩] scope pos) (tCompD (capσ n js) wi g tt tk tv) := by
  intro pins s σ H Q I h
  rw [arm_eval_DictComp]
  refine wpAny_comprehension_free (use := none) rfl hs c.clos c.kind c.names (thn (hi pins s σ H _ I h) fun v s1 h1 => thn h1 fun itv s2 h2 => ?_)
  obtain ⟨it, fp, tn, J, H2, e, I2, T, st2, f2, h2⟩ := h2
  subst e
  have h2' : ∃ W : Addr → Nat → Nat → St → Hp → Prop, (∀ D, H2 D = none → ∃ m, W D 0 m (capσ n js σ) (upd H2 D (.dK []))) ∧ ∀ D, H2 D = none → ∀ i m σ' H', W D i m σ' H' →
      (J.stop i H' ∧ Q (.ref D) H') ∨ (J.go i H' ∧ ∃ (Ay : V → V → St → Hp → Prop) (An : St → Hp → Prop), (∀ y v σ3 H5, Ay y v σ3 H5 → ∃ kvs key, y = kV key ∧ H5 D = some (.dK kvs) ∧ kvs.length < sizeLine ∧ ∃ m', m' < m ∧ W D (i + 1) m' σ3 (upd H5 D (.dK (putK kvs key v)))) ∧ (∀ σ3 H4, An σ3 H4 → ∃ m', m' < m ∧ W D (i + 1) m' σ3 H4) ∧
        ∀ x H2, J.yld i H' x H2 → g x σ' H2 fun σ3 H3 => tt σ3 H3 fun ok H4 => if ok = true then tk σ3 H4 (fun y H5 => tv σ3 H5 fun v H6 => Ay y v σ3 H6) else An σ3 H4) := by
    refine ⟨fun D => if hD : H2 D = none then (h2 D hD).choose else fun _ _ _ _ => False, fun D hD => ?_, fun D hD => ?_⟩
    · simp only [hD, dite_true]
      exact (h2 D hD).choose_spec.1
    · simp only [hD, dite_true]
      exact (h2 D hD).choose_spec.2
  obtain ⟨W, w0, turn⟩ := h2'
  refine comp_runD (RR := fun acc C => compPost (model X.prog X.w) X.A X.xe none (EP X pins σ Q) acc C) (Fi := fun D H' => Q (.ref D) H') (W := W) c hc hin I2 T st2 f2 w0 turn ?_
  intro D s3 H3 H' s' I3 I' ⟨m, hn⟩ hC q
  exact ⟨m, hn, fun h' hs' => ⟨.ref D, H', comp_gone I3 I' hC hs', rfl, q⟩⟩
theorem qe_compD {scope : Scope} {cl : List (Str × Addr)} {N' : List Str} {n : Nat} {js : List Nat} {tg iter kx vx : Expr} {ifs : List Expr} {pos : Pos} {wi : TI} {g : TG} {tt : TT} {tk tv : TE}
    (c : Caps X scope cl N' n js) (hc : X.calm = true) (hi : QI X tg iter wi)
    (hin : ∀ s3 H3 fp, QG (cxC X N' scope cl s3 H3 fp) tg g ∧ QTS (cxC X N' scope cl s3 H3 fp) ifs tt ∧ QE (cxC X N' scope cl s3 H3 fp) kx tk ∧ QE (cxC X N' scope cl s3 H3 fp) vx tv)
    (hs : ∀ x, foldedSetIterable iter X.env x = pure x := by intro _; rfl) : QE X (.DictComp kx vx [⟨tg, iter, ifs, 0⟩] scope pos) (tCompD (capσ n js) wi g tt tk tv) :=
  ⟨pe_compD c hc hi.go (fun s3 H3 fp => ⟨(hin s3 H3 fp).1.go, (hin s3 H3 fp).2.1.go, (hin s3 H3 fp).2.2.1.go, (hin s3 H3 fp).2.2.2.go⟩) hs⟩
theorem ps_compD {scope : Scope} {cl : List (Str × Addr)} {N' : List Str} {n : Nat} {js : List Nat} {tg iter kx vx : Expr} {ifs : List Expr} {pos spos py : Pos} {wi : TI} {g : TG} {tt : TT} {tk tv : TE} {i0 : Nat} {y : Str}
    (hN : X.N.Nodup) (hi' : X.N[i0]? = some y) (hx : X.env.scope.names.lookup y = some .local)
    (hsw : swapsWith (.DictComp kx vx [⟨tg, iter, ifs, 0⟩] scope pos) (some (.Name y py)) spos.line X.env = pure true)
    (c : Caps X scope cl N' n js) (hc : X.calm = true) (hi : PI X tg iter wi)
    (hin : ∀ s3 H3 fp, PG (cxC X N' scope cl s3 H3 fp) tg g ∧ PTS (cxC X N' scope cl s3 H3 fp) ifs tt ∧ PE (cxC X N' scope cl s3 H3 fp) kx tk ∧ PE (cxC X N' scope cl s3 H3 fp) vx tv)
    (hs : ∀ x, foldedSetIterable iter X.env x = pure x := by intro _; rfl) : PS X (.Assign [.Name y py] (.DictComp kx vx [⟨tg, iter, ifs, 0⟩] scope pos) spos) (tAsg (tCompD (capσ n js) wi g tt tk tv) (gName i0)) := by
  intro pins s σ H D0 I h
  rw [exec_Assign_Name_used _ _ _ _ hsw]
  refine wpAny_bind (wpAny_standAt (wpAny_bind ?_))
  show wpAny _ X.A (do let _ ← comprehension (.DictComp kx vx [⟨tg, iter, ifs, 0⟩] scope pos) scope X.env _ newDict false (eval iter X.env) (some (assign (.Name y py) X.env))) _ _ s
  refine wpAny_bind (thn (wpAny_comprehension_free (use := some (assign (.Name y py) X.env)) (Q := fun _ s' => SP X pins D0 .next s') rfl hs c.clos c.kind c.names (thn (hi pins s σ H _ I h) fun v s1 h1 => thn h1 fun itv s2 h2 => ?_))
    fun _ s' hq => wpAny_pure (wpAny_pure hq))
  obtain ⟨it, fp, tn, J, H2, e, I2, T, st2, f2, h2⟩ := h2
  subst e
  have h2' : ∃ W : Addr → Nat → Nat → St → Hp → Prop, (∀ D, H2 D = none → ∃ m, W D 0 m (capσ n js σ) (upd H2 D (.dK []))) ∧ ∀ D, H2 D = none → ∀ i m σ' H', W D i m σ' H' →
      (J.stop i H' ∧ D0.nx (σ.set i0 (some (.ref D))) H') ∨ (J.go i H' ∧ ∃ (Ay : V → V → St → Hp → Prop) (An : St → Hp → Prop), (∀ y v σ3 H5, Ay y v σ3 H5 → ∃ kvs key, y = kV key ∧ H5 D = some (.dK kvs) ∧ kvs.length < sizeLine ∧ ∃ m', m' < m ∧ W D (i + 1) m' σ3 (upd H5 D (.dK (putK kvs key v)))) ∧ (∀ σ3 H4, An σ3 H4 → ∃ m', m' < m ∧ W D (i + 1) m' σ3 H4) ∧
        ∀ x H2, J.yld i H' x H2 → g x σ' H2 fun σ3 H3 => tt σ3 H3 fun ok H4 => if ok = true then tk σ3 H4 (fun y H5 => tv σ3 H5 fun v H6 => Ay y v σ3 H6) else An σ3 H4) := by
    refine ⟨fun D => if hD : H2 D = none then (h2 D hD).choose else fun _ _ _ _ => False, fun D hD => ?_, fun D hD => ?_⟩
    · simp only [hD, dite_true]
      exact (h2 D hD).choose_spec.1
    · simp only [hD, dite_true]
      exact (h2 D hD).choose_spec.2
  obtain ⟨W, w0, turn⟩ := h2'
  refine comp_runD (RR := fun acc C => compPost (model X.prog X.w) X.A X.xe (some (assign (.Name y py) X.env)) (fun _ s' => SP X pins D0 .next s') acc C) (Fi := fun D H' => D0.nx (σ.set i0 (some (.ref D))) H') (W := W) c hc hin I2 T st2 f2 w0 turn ?_
  intro D s3 H3 H' s' I3 I' ⟨m, hn⟩ hC q
  show wpAny _ _ (assign (.Name y py) X.env (.ref D)) _ _ s'
  refine wpAny_assign_Name (store_ok2 (v := .ref D) I' hN hi' (.inl hx) rfl (fun s'' I'' ⟨a, hs'', ha⟩ => ?_) (.inr hx))
  have hne : s3.heap.objs.size ≠ a := by
    rcases ha with z | z
    · rw [z]; exact Nat.ne_of_gt I3.lt
    · intro q
      obtain ⟨v, w⟩ := I3.cell y a z
      exact absurd w.lt (by rw [← q]; exact Nat.lt_irrefl _)
  exact ⟨m, hn.sameBut hs'' hne, fun h' hs' => ⟨_, H', comp_gone I3 I'' hC hs', q⟩⟩
theorem qs_compD {scope : Scope} {cl : List (Str × Addr)} {N' : List Str} {n : Nat} {js : List Nat} {tg iter kx vx : Expr} {ifs : List Expr} {pos spos py : Pos} {wi : TI} {g : TG} {tt : TT} {tk tv : TE} {i0 : Nat} {y : Str}
    (hN : X.N.Nodup) (hi' : X.N[i0]? = some y) (hx : X.env.scope.names.lookup y = some .local)
    (hsw : swapsWith (.DictComp kx vx [⟨tg, iter, ifs, 0⟩] scope pos) (some (.Name y py)) spos.line X.env = pure true)
    (c : Caps X scope cl N' n js) (hc : X.calm = true) (hi : QI X tg iter wi)
    (hin : ∀ s3 H3 fp, QG (cxC X N' scope cl s3 H3 fp) tg g ∧ QTS (cxC X N' scope cl s3 H3 fp) ifs tt ∧ QE (cxC X N' scope cl s3 H3 fp) kx tk ∧ QE (cxC X N' scope cl s3 H3 fp) vx tv)
    (hs : ∀ x, foldedSetIterable iter X.env x = pure x := by intro _; rfl) : QS X (.Assign [.Name y py] (.DictComp kx vx [⟨tg, iter, ifs, 0⟩] scope pos) spos) (tAsg (tCompD (capσ n js) wi g tt tk tv) (gName i0)) :=
  ⟨ps_compD hN hi' hx hsw c hc hi.go (fun s3 H3 fp => ⟨(hin s3 H3 fp).1.go, (hin s3 H3 fp).2.1.go, (hin s3 H3 fp).2.2.1.go, (hin s3 H3 fp).2.2.2.go⟩) hs⟩
end
theorem compD_list {K : PySem.W.Frag} {a D : Addr} {xs : List V} {g : TG} {tt : TT} {tk tv : TE} {σ0 : St} {H1 : Hp} {Q : Hp → Prop} (Pv : Nat → List (Key × V) → St → Hp → Prop) (hx : xs.length ≤ sizeLine) (h0 : Pv 0 [] σ0 (upd H1 D (.dK [])))
    (hl : ∀ i ys σ H, i ≤ xs.length → Pv i ys σ H → SqL K H a xs ∧ H D = some (.dK ys) ∧ ys.length ≤ i)
    (hs : ∀ i x ys σ H, xs[i]? = some x → Pv i ys σ H → g x σ H fun σ3 H3 => tt σ3 H3 fun ok H4 => if ok = true then tk σ3 H4 (fun y H5 => tv σ3 H5 fun v H6 => ∃ key, y = kV key ∧ H6 D = some (.dK ys) ∧ Pv (i + 1) (putK ys key v) σ3 (upd H6 D (.dK (putK ys key v)))) else Pv (i + 1) ys σ3 H4)
    (hd : ∀ ys σ H, Pv xs.length ys σ H → Q H) :
    ∃ W : Nat → Nat → St → Hp → Prop, (∃ m, W 0 m σ0 (upd H1 D (.dK []))) ∧ ∀ i m σ' H', W i m σ' H' →
      ((Itl K a).stop i H' ∧ Q H') ∨ ((Itl K a).go i H' ∧ ∃ (Ay : V → V → St → Hp → Prop) (An : St → Hp → Prop), (∀ y v σ3 H5, Ay y v σ3 H5 → ∃ kvs key, y = kV key ∧ H5 D = some (.dK kvs) ∧ kvs.length < sizeLine ∧ ∃ m', m' < m ∧ W (i + 1) m' σ3 (upd H5 D (.dK (putK kvs key v)))) ∧
        (∀ σ3 H4, An σ3 H4 → ∃ m', m' < m ∧ W (i + 1) m' σ3 H4) ∧
        ∀ x H2, (Itl K a).yld i H' x H2 → g x σ' H2 fun σ3 H3 => tt σ3 H3 fun ok H4 => if ok = true then tk σ3 H4 (fun y H5 => tv σ3 H5 fun v H6 => Ay y v σ3 H6) else An σ3 H4) := by
  refine ⟨fun i m σ H => m = xs.length - i ∧ i ≤ xs.length ∧ ∃ ys, Pv i ys σ H, ⟨xs.length, by simp, Nat.zero_le _, [], h0⟩, ?_⟩
  rintro i m σ H ⟨rfl, hi, ys, p⟩
  obtain ⟨q, hy, hyl⟩ := hl i ys σ H hi p
  by_cases hlt : i < xs.length
  · refine .inr ⟨⟨xs, xs[i], q, by simp [hlt]⟩, fun y v σ3 H5 => ∃ key, y = kV key ∧ H5 D = some (.dK ys) ∧ Pv (i + 1) (putK ys key v) σ3 (upd H5 D (.dK (putK ys key v))), fun σ3 H4 => Pv (i + 1) ys σ3 H4,
      fun y v σ3 H5 ⟨key, ek, e, p'⟩ => ⟨ys, key, ek, e, by omega, xs.length - (i + 1), by omega, rfl, hlt, _, p'⟩, fun σ3 H4 p' => ⟨xs.length - (i + 1), by omega, rfl, hlt, _, p'⟩, fun x H' y => ?_⟩
    obtain ⟨e, y⟩ := y
    subst e
    exact hs i x ys σ H' (y xs q) p
  · have : i = xs.length := by omega
    subst this
    exact .inl ⟨⟨xs, q, Nat.le_refl _⟩, hd ys σ H p⟩
theorem compD_tup {K : PySem.W.Frag} {a D : Addr} {xs : List V} {g : TG} {tt : TT} {tk tv : TE} {σ0 : St} {H1 : Hp} {Q : Hp → Prop} (Pv : Nat → List (Key × V) → St → Hp → Prop) (hx : xs.length ≤ sizeLine) (h0 : Pv 0 [] σ0 (upd H1 D (.dK [])))
    (hl : ∀ i ys σ H, i ≤ xs.length → Pv i ys σ H → SqT K H a xs ∧ H D = some (.dK ys) ∧ ys.length ≤ i)
    (hs : ∀ i x ys σ H, xs[i]? = some x → Pv i ys σ H → g x σ H fun σ3 H3 => tt σ3 H3 fun ok H4 => if ok = true then tk σ3 H4 (fun y H5 => tv σ3 H5 fun v H6 => ∃ key, y = kV key ∧ H6 D = some (.dK ys) ∧ Pv (i + 1) (putK ys key v) σ3 (upd H6 D (.dK (putK ys key v)))) else Pv (i + 1) ys σ3 H4)
    (hd : ∀ ys σ H, Pv xs.length ys σ H → Q H) :
    ∃ W : Nat → Nat → St → Hp → Prop, (∃ m, W 0 m σ0 (upd H1 D (.dK []))) ∧ ∀ i m σ' H', W i m σ' H' →
      ((Itt K a).stop i H' ∧ Q H') ∨ ((Itt K a).go i H' ∧ ∃ (Ay : V → V → St → Hp → Prop) (An : St → Hp → Prop), (∀ y v σ3 H5, Ay y v σ3 H5 → ∃ kvs key, y = kV key ∧ H5 D = some (.dK kvs) ∧ kvs.length < sizeLine ∧ ∃ m', m' < m ∧ W (i + 1) m' σ3 (upd H5 D (.dK (putK kvs key v)))) ∧
        (∀ σ3 H4, An σ3 H4 → ∃ m', m' < m ∧ W (i + 1) m' σ3 H4) ∧
        ∀ x H2, (Itt K a).yld i H' x H2 → g x σ' H2 fun σ3 H3 => tt σ3 H3 fun ok H4 => if ok = true then tk σ3 H4 (fun y H5 => tv σ3 H5 fun v H6 => Ay y v σ3 H6) else An σ3 H4) := by
  refine ⟨fun i m σ H => m = xs.length - i ∧ i ≤ xs.length ∧ ∃ ys, Pv i ys σ H, ⟨xs.length, by simp, Nat.zero_le _, [], h0⟩, ?_⟩
  rintro i m σ H ⟨rfl, hi, ys, p⟩
  obtain ⟨q, hy, hyl⟩ := hl i ys σ H hi p
  by_cases hlt : i < xs.length
  · refine .inr ⟨⟨xs, xs[i], q, by simp [hlt]⟩, fun y v σ3 H5 => ∃ key, y = kV key ∧ H5 D = some (.dK ys) ∧ Pv (i + 1) (putK ys key v) σ3 (upd H5 D (.dK (putK ys key v))), fun σ3 H4 => Pv (i + 1) ys σ3 H4,
      fun y v σ3 H5 ⟨key, ek, e, p'⟩ => ⟨ys, key, ek, e, by omega, xs.length - (i + 1), by omega, rfl, hlt, _, p'⟩, fun σ3 H4 p' => ⟨xs.length - (i + 1), by omega, rfl, hlt, _, p'⟩, fun x H' y => ?_⟩
    obtain ⟨e, y⟩ := y
    subst e
    exact hs i x ys σ H' (y xs q) p
  · have : i = xs.length := by omega
    subst this
    exact .inl ⟨⟨xs, q, Nat.le_refl _⟩, hd ys σ H p⟩
end L2

namespace L2
open PySem PySem.Spec PyProof.Rows
/-! ### a list (true) or a tuple (false), and its walk -/
def SI (b : Bool) (h : Heap) (it l : Addr) (i : Nat) : Prop := if b = true then h.IsListIter it l i else h.IsTupleIter it l i
def SQ (b : Bool) (h : Heap) (l : Addr) (xs : Array Value) : Prop := if b = true then h.IsList l xs else h.IsTuple l xs
theorem SI.at {b : Bool} {h h' : Heap} {it l : Addr} {i : Nat} (x : SI b h it l i) (e : ∀ o, h.get? it = some o → h'.get? it = some o) : SI b h' it l i := by
  cases b
  · exact Heap.IsTupleIter.at (show h.IsTupleIter it l i from x) e
  · exact Heap.IsListIter.at (show h.IsListIter it l i from x) e
theorem SQ.at {b : Bool} {h h' : Heap} {l : Addr} {xs : Array Value} (x : SQ b h l xs) (e : ∀ o, h.get? l = some o → h'.get? l = some o) : SQ b h' l xs := by
  cases b
  · exact Heap.IsTuple.at (show h.IsTuple l xs from x) e
  · exact Heap.IsList.at (show h.IsList l xs from x) e
theorem SI.obj {b : Bool} {h : Heap} {it l : Addr} {i : Nat} (x : SI b h it l i) : ∃ o, h.get? it = some o ∧ ∀ v, o.data ≠ .cell v := by
  cases b
  · obtain ⟨o, e, _, d⟩ := (show h.IsTupleIter it l i from x)
    exact ⟨o, e, fun v z => by rw [d] at z; cases z⟩
  · obtain ⟨o, e, _, d⟩ := (show h.IsListIter it l i from x)
    exact ⟨o, e, fun v z => by rw [d] at z; cases z⟩
section
variable {prog : Program} {w : World} {A : Around} {E : Value → Shared → Prop} {s : Shared}
theorem nextOf_tup_item {it l : Addr} {i : Nat} {xs : Array Value} {x : Value} {Q : Value → Shared → Prop} (u : s.heap.IsTupleIter it l i) (q : s.heap.IsTuple l xs) (z : xs[i]? = some x)
    (k : ∀ h', h'.IsTupleIter it l (i + 1) → Heap.SameBut it s.heap h' → Q x { s with heap := h' }) : wpAny (model prog w) A (Builtin.SmallTypes.nextOf (.ref it)) Q E s := by
  obtain ⟨o, e, c, d⟩ := id u
  obtain ⟨o2, e2, _, n2, d2⟩ := q
  delta Builtin.SmallTypes.nextOf
  refine wpAny_bind (wpAny_callSpecial?_slot (name := Str.ofString "__next__") u.typeIs PySem.F.slot_tuple_iterator_next (wpAny_call_entry PySem.F.slot_tuple_iterator_next u.typeIs PySem.F.entry_tuple_iterator_next ?_ (PySem.F.args_tuple_iterator_next_1 _)))
  show wpAny _ _ (field (.ref it) 0 >>= fun _ => _) _ _ s
  refine wpAny_bind (wpAny_field e d (x := .ref l) rfl ?_)
  show wpAny _ _ (if (Value.ref l == Value.none) = true then _ else (field (.ref it) 1 >>= fun _ => _)) _ _ s
  rw [if_neg (show ¬ ((Value.ref l == Value.none) = true) from fun z => Bool.false_ne_true z)]
  refine wpAny_bind (wpAny_field e d (x := .int i 0) rfl ?_)
  show wpAny _ _ (seqItems? (.ref l) >>= fun _ => _) _ _ s
  refine wpAny_bind (wpAny_seqItems e2 d2 ?_)
  simp only [z, Int.toNat_natCast]
  refine wpAny_bind (wpAny_setField e d (by simp) (wpAny_pure ⟨x, rfl, wpAny_pure (k _ ⟨_, Heap.get?_update_self _ e (Obj.isFreed_of_fields (Obj.data_mapFields d _)), (Obj.cls_mapFields ..).trans c, ?_⟩ (Heap.SameBut.update ..))⟩))
  rw [Obj.data_mapFields d]
  simp [rawInt]
theorem nextOf_tup_end {it l : Addr} {i : Nat} {xs : Array Value} {Q : Value → Shared → Prop} (hh : A.handled = none) (u : s.heap.IsTupleIter it l i) (q : s.heap.IsTuple l xs) (z : xs[i]? = none)
    (k : ∀ h' e, Heap.ExtBut it s.heap h' → (∃ o, h'.get? e = some o ∧ o.cls = .type "StopIteration") → E (.ref e) { s with heap := h' }) : wpAny (model prog w) A (Builtin.SmallTypes.nextOf (.ref it)) Q E s := by
  obtain ⟨o, e, c, d⟩ := id u
  obtain ⟨o2, e2, _, n2, d2⟩ := q
  delta Builtin.SmallTypes.nextOf
  refine wpAny_bind (wpAny_callSpecial?_slot (name := Str.ofString "__next__") u.typeIs PySem.F.slot_tuple_iterator_next (wpAny_call_entry PySem.F.slot_tuple_iterator_next u.typeIs PySem.F.entry_tuple_iterator_next ?_ (PySem.F.args_tuple_iterator_next_1 _)))
  show wpAny _ _ (field (.ref it) 0 >>= fun _ => _) _ _ s
  refine wpAny_bind (wpAny_field e d (x := .ref l) rfl ?_)
  show wpAny _ _ (if (Value.ref l == Value.none) = true then _ else (field (.ref it) 1 >>= fun _ => _)) _ _ s
  rw [if_neg (show ¬ ((Value.ref l == Value.none) = true) from fun z => Bool.false_ne_true z)]
  refine wpAny_bind (wpAny_field e d (x := .int i 0) rfl ?_)
  show wpAny _ _ (seqItems? (.ref l) >>= fun _ => _) _ _ s
  refine wpAny_bind (wpAny_seqItems e2 d2 ?_)
  simp only [z, Int.toNat_natCast]
  refine wpAny_bind (wpAny_rule (wpAny_bind (wpAny_setField e d (by simp) ?_)))
  show wpAny _ _ (newExc (.type "StopIteration") [] >>= fun _ => _) _ _ _
  refine wpAny_bind ?_
  simp only [newTuple, newExc]
  refine wpAny_bind (wpAny_newObj_type (wpAny_bind (m := firstArgMember _ _) (wpAny_of_eq (a := Value.none) (by first | rfl | (simp only [firstArgMember]; rfl)) (wpAny_newObj_type ?_ (by size_fits)))) (by size_fits))
  simp only [raiseNew]
  refine wpAny_bind (wpAny_handled ?_)
  rw [show A.in1.handled = none from hh]
  exact wpAny_bind (wpAny_pure (wpAny_throw (k _ _ (((Heap.SameBut.update ..).extBut.push _).push _) ⟨_, Heap.get?_push_size _ rfl, rfl⟩)))
theorem nextOf_item {b : Bool} {it l : Addr} {i : Nat} {xs : Array Value} {x : Value} {Q : Value → Shared → Prop} (u : SI b s.heap it l i) (q : SQ b s.heap l xs) (z : xs[i]? = some x)
    (k : ∀ h', SI b h' it l (i + 1) → Heap.SameBut it s.heap h' → Q x { s with heap := h' }) : wpAny (model prog w) A (Builtin.SmallTypes.nextOf (.ref it)) Q E s := by
  cases b
  · exact nextOf_tup_item u q z k
  · exact wpAny_nextOf_list_item u q z k
theorem nextOf_end {b : Bool} {it l : Addr} {i : Nat} {xs : Array Value} {Q : Value → Shared → Prop} (hh : A.handled = none) (u : SI b s.heap it l i) (q : SQ b s.heap l xs) (z : xs[i]? = none)
    (k : ∀ h' e, Heap.ExtBut it s.heap h' → (∃ o, h'.get? e = some o ∧ o.cls = .type "StopIteration") → E (.ref e) { s with heap := h' }) : wpAny (model prog w) A (Builtin.SmallTypes.nextOf (.ref it)) Q E s := by
  cases b
  · exact nextOf_tup_end hh u q z k
  · exact wpAny_nextOf_list_end hh u q z k
/-! ### enumerate -/
theorem enum_item {b : Bool} {e it l : Addr} {i : Nat} {xs : Array Value} {x old : Value} {Q : Option Value → Shared → Prop} (he : IsEnum s.heap e it i old) (u : SI b s.heap it l i) (q : SQ b s.heap l xs) (z : xs[i]? = some x) (ne : e ≠ it)
    (k : ∀ h', IsEnumOut h' e it ((i : Int) + 1) x s.heap.objs.size → SI b h' it l (i + 1) → h'.get? s.heap.objs.size = some { cls := .type "tuple", data := .seq #[.int i s.toks, x] } → h'.objs.size = s.heap.objs.size + 1 →
      (∀ c o, c ≠ e → c ≠ it → s.heap.get? c = some o → h'.get? c = some o) → Q (some (.ref s.heap.objs.size)) { s with heap := h', toks := s.toks + 1 }) : wpAny (model prog w) A (pyNext (.ref e)) Q E s := by
  have ty : s.TypeIs (.ref e) "enumerate" := ⟨_, he, rfl⟩
  unfold pyNext
  refine wpAny_bind (wpAny_attempt (wpAny_callSpecial?_slot (name := Str.ofString "__next__") ty F.slot_enumerate_next (wpAny_call_entry F.slot_enumerate_next ty F.entry_enumerate_next ?_ (F.args_enumerate_next_1 _))))
  obtain ⟨hp, g, d, tk, os⟩ := s
  show wpAny _ _ (field (.ref e) 2 >>= fun _ => _) _ _ _
  refine wpAny_bind (wpAny_field he rfl (x := .ref it) rfl (wpAny_bind (nextOf_item u q z fun h1 u1 s1 => ?_)))
  replace s1 : Heap.SameBut it hp h1 := s1
  have e1 : IsEnum h1 e it i old := (s1.2 e ne).trans he
  show wpAny _ _ (field (.ref e) 3 >>= fun _ => _) _ _ ⟨h1, g, d, tk, os⟩
  refine wpAny_bind (wpAny_field e1 rfl (x := rawInt i) rfl ?_)
  show wpAny _ _ (field (.ref e) 4 >>= fun _ => _) _ _ ⟨h1, g, d, tk, os⟩
  refine wpAny_bind (wpAny_field e1 rfl (x := .none) rfl ?_)
  show wpAny _ _ (mkInt i >>= fun _ => _) _ _ ⟨h1, g, d, tk, os⟩
  refine wpAny_bind (wpAny_mkInt (?_))
  show wpAny _ _ (setField (.ref e) 3 (rawInt ((i : Int) + 1)) >>= fun _ => _) _ _ ⟨h1, g, d, tk + 1, os⟩
  refine wpAny_bind (wpAny_setField_rec e1 (by simp) fun h2 e2 s2 => ?_)
  replace s2 : Heap.SameBut e h1 h2 := s2
  replace e2 : IsEnum h2 e it ((i : Int) + 1) old := e2
  show wpAny _ _ (setField (.ref e) 4 .none >>= fun _ => _) _ _ ⟨h2, g, d, tk + 1, os⟩
  refine wpAny_bind (wpAny_setField_rec e2 (by simp) fun h3 e3 s3 => ?_)
  replace s3 : Heap.SameBut e h2 h3 := s3
  replace e3 : IsEnum h3 e it ((i : Int) + 1) old := e3
  show wpAny _ _ (newTuple [.int i tk, x] >>= fun _ => _) _ _ ⟨h3, g, d, tk + 1, os⟩
  refine wpAny_bind (wpAny_newTuple (?_))
  have e4 : IsEnum (h3.push { cls := .type "tuple", data := .seq #[.int i tk, x] }) e it ((i : Int) + 1) old := Heap.get?_push_of_some _ e3
  generalize p4 : h3.push { cls := .type "tuple", data := .seq #[.int i tk, x] } = h4 at e4
  have sz : h3.objs.size = hp.objs.size := by rw [s3.1, s2.1, s1.1]
  have le : e < hp.objs.size := Heap.lt_size he
  have t4 : h4.get? hp.objs.size = some { cls := .type "tuple", data := .seq #[.int i tk, x] } := by rw [← p4, ← sz]; exact Heap.get?_push_size _ rfl
  have z4 : h4.objs.size = hp.objs.size + 1 := by rw [← p4, Heap.size_push, sz]
  have k4 : ∀ c o, c ≠ e → c ≠ it → hp.get? c = some o → h4.get? c = some o := fun c o c1 c2 y => by
    rw [← p4]; exact Heap.get?_push_of_some _ (s3.extBut c o c1 (s2.extBut c o c1 (s1.extBut c o c2 y)))
  have u4 : SI b h4 it l (i + 1) := u1.at fun o y => by
    rw [← p4]; exact Heap.get?_push_of_some _ (s3.extBut _ _ (Ne.symm ne) (s2.extBut _ _ (Ne.symm ne) y))
  show wpAny _ _ (Builtin.SmallTypes.ownedTupleIsFree (.ref e) >>= fun _ => _) _ _ ⟨h4, g, d, tk + 1, os⟩
  rw [sz]
  clear p4 e3 s3 e2 s2 e1 s1 u1 sz h3 h2 h1
  refine wpAny_bind ?_
  delta Builtin.SmallTypes.ownedTupleIsFree
  refine wpAny_bind (wpAny_field e4 rfl (x := .none) rfl (wpAny_pure ?_))
  simp only [if_true]
  refine wpAny_bind (wpAny_rule (wpAny_bind (wpAny_field e4 rfl (x := old) rfl (wpAny_bind (wpAny_setField_rec e4 (by simp) fun h5 e5 s5 => ?_)))))
  replace s5 : Heap.SameBut e h4 h5 := s5
  replace e5 : IsEnum h5 e it ((i : Int) + 1) x := e5
  show wpAny _ _ (Builtin.SmallTypes.ownedTupleHandOut (.ref e) (.ref hp.objs.size) >>= fun _ => _) _ _ ⟨h5, g, d, tk + 1, os⟩
  refine wpAny_bind ?_
  delta Builtin.SmallTypes.ownedTupleHandOut
  refine wpAny_bind (wpAny_setField_rec e5 (by simp) fun h6 e6 s6 => ?_)
  replace s6 : Heap.SameBut e h5 h6 := s6
  replace e6 : IsEnumOut h6 e it ((i : Int) + 1) x hp.objs.size := e6
  refine wpAny_setField_rec e6 (by simp) fun h7 e7 s7 => ?_
  replace s7 : Heap.SameBut e h6 h7 := s7
  replace e7 : IsEnumOut h7 e it ((i : Int) + 1) x hp.objs.size := e7
  have up : ∀ c o, c ≠ e → h4.get? c = some o → h7.get? c = some o := fun c o c1 y => s7.extBut c o c1 (s6.extBut c o c1 (s5.extBut c o c1 y))
  exact wpAny_bind (wpAny_letGo (wpAny_pure ⟨_, rfl, wpAny_pure (k h7 e7 (u4.at fun o y => up _ _ (Ne.symm ne) y) (up _ _ (Nat.ne_of_gt le) t4) (by rw [s7.1, s6.1, s5.1, z4]) fun c o c1 c2 y => up c o c1 (k4 c o c1 c2 y))⟩))
theorem enum_end {b : Bool} {e it l : Addr} {i : Nat} {xs : Array Value} {old : Value} {Q : Option Value → Shared → Prop} (hh : A.handled = none) (he : IsEnum s.heap e it i old) (u : SI b s.heap it l i) (q : SQ b s.heap l xs) (z : xs[i]? = none)
    (k : ∀ h', Heap.ExtBut it s.heap h' → Q none { s with heap := h' }) : wpAny (model prog w) A (pyNext (.ref e)) Q E s := by
  have ty : s.TypeIs (.ref e) "enumerate" := ⟨_, he, rfl⟩
  unfold pyNext
  refine wpAny_bind (wpAny_attempt (wpAny_callSpecial?_slot (name := Str.ofString "__next__") ty F.slot_enumerate_next (wpAny_call_entry F.slot_enumerate_next ty F.entry_enumerate_next ?_ (F.args_enumerate_next_1 _))))
  show wpAny _ _ (field (.ref e) 2 >>= fun _ => _) _ _ _
  refine wpAny_bind (wpAny_field he rfl (x := .ref it) rfl (wpAny_bind (nextOf_end hh u q z fun h' x y1 ⟨o, y2, y3⟩ => wpAny_bind (wpAny_isInstance (T := "StopIteration") (b := true) ⟨o, y2, y3⟩ isSubtype_stop (wpAny_pure (k _ y1))))))
end
theorem meets_enum_tup (l : Addr) (xs : Array Value) (o : Obj) :
    Meets (Builtin.«enumerate.__new__» ⟨[.type "enumerate", .ref l], []⟩) (fun _ R s => s.heap.get? l = some o ∧ s.heap.IsTuple l xs ∧
      R (.ok (.ret (.ref (s.heap.push { cls := .type "tuple_iterator", data := .fields #[.ref l, .int 0 0] }).objs.size)))
        { s with heap := (s.heap.push { cls := .type "tuple_iterator", data := .fields #[.ref l, .int 0 0] }).push { cls := .type "enumerate", data := .fields #[.none, .bool false, .ref s.heap.objs.size, rawInt 0, .none, .none] } }) :=
  .of_wp fun prog w A R s h => by
    obtain ⟨hp, g, d, tk, os⟩ := s
    obtain ⟨hl, q, h⟩ := h
    have sub := sub_enumerate
    have hL : Heap.IsTuple (Shared.heap ⟨hp, g, d, tk, os⟩) l xs := q
    wp_walk using AutoSeq1.wpAny_loadPart' hl
    refine wpAny_stack_any fun st => wpAny_pure ?_
    split
    · rename_i c _ _ _ _ _
      cases (c == Value.type "enumerate")
      · wp_walk using AutoSeq1.wpAny_loadPart' hl, PySem.wpAny_pyIter_tuple hL
        exact ⟨_, rfl, h⟩
      · wp_walk using AutoSeq1.wpAny_loadPart' hl, PySem.wpAny_pyIter_tuple hL
        exact ⟨_, rfl, h⟩
    · wp_walk using AutoSeq1.wpAny_loadPart' hl, PySem.wpAny_pyIter_tuple hL
      exact ⟨_, rfl, h⟩
end L2

namespace L2
open PySem PySem.Spec PyProof.Rows
theorem meets_enum_list (l : Addr) (xs : Array Value) (o : Obj) :
    Meets (Builtin.«enumerate.__new__» ⟨[.type "enumerate", .ref l], []⟩) (fun _ R s => s.heap.get? l = some o ∧ s.heap.IsList l xs ∧
      R (.ok (.ret (.ref (s.heap.push { cls := .type "list_iterator", data := .fields #[.ref l, .int 0 0] }).objs.size)))
        { s with heap := (s.heap.push { cls := .type "list_iterator", data := .fields #[.ref l, .int 0 0] }).push { cls := .type "enumerate", data := .fields #[.none, .bool false, .ref s.heap.objs.size, rawInt 0, .none, .none] } }) :=
  .of_wp fun prog w A R s h => by
    obtain ⟨hp, g, d, tk, os⟩ := s
    obtain ⟨hl, q, h⟩ := h
    have sub := sub_enumerate
    have hL : Heap.IsList (Shared.heap ⟨hp, g, d, tk, os⟩) l xs := q
    wp_walk using AutoSeq1.wpAny_loadPart' hl
    refine wpAny_stack_any fun st => wpAny_pure ?_
    split
    · rename_i c _ _ _ _ _
      cases (c == Value.type "enumerate")
      · wp_walk using AutoSeq1.wpAny_loadPart' hl, wpAny_pyIter_list hL
        exact ⟨_, rfl, h⟩
      · wp_walk using AutoSeq1.wpAny_loadPart' hl, wpAny_pyIter_list hL
        exact ⟨_, rfl, h⟩
    · wp_walk using AutoSeq1.wpAny_loadPart' hl, wpAny_pyIter_list hL
      exact ⟨_, rfl, h⟩
section
variable {prog : Program} {w : World} {A : Around} {E : Value → Shared → Prop} {s : Shared}
theorem call_enum {b : Bool} {l : Addr} {xs : Array Value} {Q : Value → Shared → Prop} (q : SQ b s.heap l xs)
    (k : ∀ h', IsEnum h' (s.heap.objs.size + 1) s.heap.objs.size 0 .none → SI b h' s.heap.objs.size l 0 → h'.objs.size = s.heap.objs.size + 2 → (∀ c o, s.heap.get? c = some o → h'.get? c = some o) → Q (.ref (s.heap.objs.size + 1)) { s with heap := h' }) :
    wpAny (model prog w) A (call (.type "enumerate") [.ref l]) Q E s := by
  have key : ∀ (n : String) (h1 : Heap), h1 = s.heap.push { cls := .type n, data := .fields #[.ref l, .int 0 0] } → SI b h1 s.heap.objs.size l 0 →
      (∃ o', (h1.push { cls := .type "enumerate", data := .fields #[.none, .bool false, .ref s.heap.objs.size, rawInt 0, .none, .none] }).get? h1.objs.size = some o' ∧ o'.cls = .type "enumerate") ∧
      Q (.ref h1.objs.size) { s with heap := h1.push { cls := .type "enumerate", data := .fields #[.none, .bool false, .ref s.heap.objs.size, rawInt 0, .none, .none] } } := fun n h1 e u => by
    have z : h1.objs.size = s.heap.objs.size + 1 := by rw [e]; exact Heap.size_push ..
    have he := Heap.get?_push_size h1 (o := { cls := .type "enumerate", data := .fields #[.none, .bool false, .ref s.heap.objs.size, rawInt 0, .none, .none] }) rfl
    refine ⟨⟨_, he, rfl⟩, ?_⟩
    rw [z] at he ⊢
    exact k _ he (u.at fun o y => Heap.get?_push_of_some _ y) (by rw [Heap.size_push, z]) fun c o y => Heap.get?_push_of_some _ (by rw [e]; exact Heap.get?_push_of_some _ y)
  cases b
  · obtain ⟨o, e, _⟩ := (show s.heap.IsTuple l xs from q)
    exact callType_new F.called_enumerate (by decide) (F.typeCall_enumerate_1 _) (F.newCall_enumerate_1 _) (fun obj => F.args_object_init_2 obj _) F.entry_enumerate_new (meets_enum_tup l xs o) ⟨e, q, key "tuple_iterator" _ rfl ⟨_, Heap.get?_push_size _ rfl, rfl, rfl⟩⟩
  · obtain ⟨o, e, _⟩ := (show s.heap.IsList l xs from q)
    exact callType_new F.called_enumerate (by decide) (F.typeCall_enumerate_1 _) (F.newCall_enumerate_1 _) (fun obj => F.args_object_init_2 obj _) F.entry_enumerate_new (meets_enum_list l xs o) ⟨e, q, key "list_iterator" _ rfl ⟨_, Heap.get?_push_size _ rfl, rfl, rfl⟩⟩
end
/-- a list (true) or a tuple (false) of the heap or of the module's -/
def SqB (b : Bool) (K : PySem.W.Frag) (H : Hp) (a : Addr) (xs : List V) : Prop := if b = true then SqL K H a xs else SqT K H a xs
section
variable {X : Cx} {pins : List (Addr × Obj)} {σ : St} {H : Hp} {s : Shared}
theorem Inv.sq {b : Bool} {a : Addr} {xs : List V} (I : Inv X pins σ H s) (h : SqB b X.K H a xs) : ∃ its : List Value, Vals xs its ∧ SQ b s.heap a its.toArray ∧ xs.length ≤ sizeLine := by
  cases b
  · exact I.tuple h
  · obtain ⟨its, r, p, z⟩ := I.list h
    exact ⟨its, r, p.isList, z⟩
theorem Inv.sq_inj {b : Bool} {a : Addr} {xs ys : List V} (I : Inv X pins σ H s) (h : SqB b X.K H a xs) (h' : SqB b X.K H a ys) : xs = ys := by
  cases b
  · exact I.tuple_inj h h'
  · exact I.list_inj h h'
end
/-- the numbers from 0 on, each with a thing of the list or tuple -/
def Ite (b : Bool) (K : PySem.W.Frag) (a : Addr) : It :=
  ⟨fun i H => ∃ xs x, SqB b K H a xs ∧ xs[i]? = some x,
   fun i H v H' => ∃ p x, H p = none ∧ v = .ref p ∧ H' = upd H p (.tup [.int i, x]) ∧ ∀ xs, SqB b K H a xs → xs[i]? = some x,
   fun i H => ∃ xs, SqB b K H a xs ∧ xs.length ≤ i⟩
def eTn (b : Bool) (e it a : Addr) (i : Nat) (h : Heap) : Prop := (∃ old, IsEnum h e it i old) ∧ SI b h it a i
theorem turn_enum {P : Program} {w : World} {K : PySem.W.Frag} {b : Bool} {elts : List Expr} {kk} {pos : Pos} {a e it : Addr} (ne : e ≠ it) :
    Turn P w K (.Tuple elts kk pos) (Ite b K a) [it, e] e (eTn b e it a) where
  mem := by simp
  obj := fun i h st c hc => by
    obtain ⟨⟨old, he⟩, u⟩ := st
    simp only [List.mem_cons, List.not_mem_nil, or_false] at hc
    rcases hc with rfl | rfl
    · exact u.obj
    · exact ⟨_, he, fun v z => (nomatch z)⟩
  keep := fun i h h' st k => by
    obtain ⟨⟨old, he⟩, u⟩ := st
    exact ⟨⟨old, k _ (by simp) _ he⟩, u.at fun o y => k _ (by simp) o y⟩
  item := by
    intro X hP hw hK hc i pins s σ H E I hf st hg
    subst hP hw hK
    obtain ⟨xs, x, hq, hx⟩ := hg
    obtain ⟨⟨old, he⟩, u⟩ := st
    obtain ⟨its, rv, p, z⟩ := I.sq hq
    obtain ⟨v, hv, ru⟩ := rv.get hx
    refine enum_item he u p (x := v) (by simpa using hv) ne fun h' o1 u1 t1 z1 k1 => ?_
    refine ⟨_, rfl, wpAny_letOwnedTupleGo_enum (s := { s with heap := h', toks := s.toks + 1 }) o1 fun h'' e2 sb => ?_⟩
    have lte : @LT.lt Nat _ e s.heap.objs.size := Heap.lt_size he
    have lti : @LT.lt Nat _ it s.heap.objs.size := by obtain ⟨o, y, _⟩ := u.obj; exact Heap.lt_size y
    have up : ∀ c o, c ≠ e → h'.get? c = some o → h''.get? c = some o := fun c o hce y => (sb.2 c hce).trans y
    have kk : ∀ c o, c ∉ [it, e] → s.heap.get? c = some o → h''.get? c = some o := fun c o hc y => by
      simp only [List.mem_cons, List.not_mem_nil, or_false, not_or] at hc
      exact up c o hc.2 (k1 c o hc.2 hc.1 y)
    have st'' : eTn b e it a (i + 1) h'' := ⟨⟨_, by simpa using e2⟩, u1.at fun o y => up _ o (Ne.symm ne) y⟩
    have kt : ∀ c ∈ [it, e], ∃ o, h''.get? c = some o := fun c hc => by
      obtain ⟨⟨old', he'⟩, u'⟩ := st''
      simp only [List.mem_cons, List.not_mem_nil, or_false] at hc
      rcases hc with rfl | rfl
      · obtain ⟨o, y, _⟩ := u'.obj; exact ⟨o, y⟩
      · exact ⟨_, he'⟩
    have I1 : Inv X pins σ (upd H s.heap.objs.size (.tup [.int i, x])) { s with heap := h'', toks := s.toks + 1 } :=
      I.turnedT (t' := s.toks + 1) (its := [.int i s.toks, v]) hf kk kt (Nat.le_refl _) (by show 2 ≤ sizeLine; decide) (.cons ⟨_, rfl⟩ (.cons ru .nil)) ⟨_, up _ _ (Nat.ne_of_gt lte) t1, rfl, _, rfl⟩
    refine ⟨.ref s.heap.objs.size, _, I1, rfl, ⟨_, x, I.fresh, rfl, rfl, fun ys' h => by rw [I.sq_inj h hq]; exact hx⟩, st'', fun c hc => ?_⟩
    rw [upd_ne ?_]
    · exact (hf c hc).1
    · simp only [List.mem_cons, List.not_mem_nil, or_false] at hc
      rcases hc with rfl | rfl
      · exact Nat.ne_of_lt lti
      · exact Nat.ne_of_lt lte
  done := by
    intro X hP hw hK hc i pins s σ H E I hf st hg
    subst hP hw hK
    obtain ⟨xs, hq, hl⟩ := hg
    obtain ⟨⟨old, he⟩, u⟩ := st
    obtain ⟨its, rv, p, z⟩ := I.sq hq
    have e1 := rv.length
    refine enum_end (I.ok.hd hc) he u p (by simp; omega) fun h' k1 => ⟨rfl, I.turnedM (t' := s.toks) hf fun c o hc y => ?_⟩
    simp only [List.mem_cons, List.not_mem_nil, or_false, not_or] at hc
    exact k1 c o hc.1 y
  self := fun _ _ _ _ _ st h => by
    obtain ⟨⟨old, he⟩, u⟩ := st
    exact wpAny_pyIter_enum he h
def iEnum (b : Bool) (K : PySem.W.Frag) (ta : TA) : TI := fun σ H R => ta σ H fun vs H1 => ∃ a, vs = [.ref a] ∧ (∃ xs, SqB b K H1 a xs) ∧ R (Ite b K a) H1
theorem boot_enum : bootBuiltins "enumerate" = some (.type "enumerate") := by decide +kernel
theorem pi_enum {X : Cx} {b : Bool} {a : Expr} {ta : TA} {p pos tpos : Pos} {elts : List Expr} {kk} (hg : Gl X "enumerate") (hm : X.mg "enumerate" = none) (ha : PA X [a] ta) (hs : starEach [a] X.env = [(false, eval a X.env)] := by rfl) :
    PI X (.Tuple elts kk tpos) (.Call (.Name "enumerate" p) [a] [] pos) (iEnum b X.K ta) := by
  intro pins s σ H R I h
  refine Call_ (ld_blt I hg hm boot_enum (PyProof.Rows.callWith_type1 (thn (ha pos pins s σ H _ I h) fun us s1 ⟨vs, H1, I1, r1, q1⟩ => ?_) hs rfl))
  obtain ⟨l, e, ⟨xs, hq⟩, q⟩ := q1
  subst e
  cases r1 with
  | cons r rr =>
    cases rr
    cases r
    obtain ⟨its, rv, p1, z⟩ := I1.sq hq
    refine call_enum p1 fun h' he u sz k1 => ?_
    refine wpAny_pyIter_enum (s := { s1 with heap := h' }) he ?_
    refine ⟨s1.heap.objs.size + 1, [s1.heap.objs.size, s1.heap.objs.size + 1], eTn b _ _ l, Ite b X.K l, H1, rfl, I1.kept (t' := s1.toks) k1, turn_enum (Nat.succ_ne_self _), ⟨⟨_, he⟩, u⟩, fun c hc => ?_, q⟩
    have hle : s1.heap.objs.size ≤ c := by
      simp only [List.mem_cons, List.not_mem_nil, or_false] at hc
      rcases hc with rfl | rfl <;> omega
    exact I1.fpOk hle (I1.hok.fresh hle)
theorem qi_enum {X : Cx} {b : Bool} {a : Expr} {ta : TA} {p pos tpos : Pos} {elts : List Expr} {kk} (hg : Gl X "enumerate") (hm : X.mg "enumerate" = none) (ha : QA X [a] ta) (hs : starEach [a] X.env = [(false, eval a X.env)] := by rfl) :
    QI X (.Tuple elts kk tpos) (.Call (.Name "enumerate" p) [a] [] pos) (iEnum b X.K ta) := ⟨pi_enum hg hm ha.go hs⟩
theorem for_enum {K : PySem.W.Frag} {b : Bool} {a : Addr} {xs : List V} {g : TG} {tb : TS} {D : Ends} {σ : St} {H : Hp} (Pv : Nat → St → Hp → Prop) (h0 : Pv 0 σ H) (hl : ∀ i σ H, i ≤ xs.length → Pv i σ H → SqB b K H a xs)
    (hs : ∀ i x σ H p, xs[i]? = some x → Pv i σ H → H p = none → g (.ref p) σ (upd H p (.tup [.int i, x])) fun σ2 H2 => tb { D with nx := Pv (i + 1), ct := Pv (i + 1), bk := D.nx } σ2 H2) (hd : ∀ σ H, Pv xs.length σ H → D.nx σ H) :
    ∃ W : Nat → Nat → St → Hp → Prop, (∃ m, W 0 m σ H) ∧ ∀ i m σ H, W i m σ H →
      ((Ite b K a).stop i H ∧ D.nx σ H) ∨ ((Ite b K a).go i H ∧ ∃ N : St → Hp → Prop, (∀ σ' H', N σ' H' → ∃ m', m' < m ∧ W (i + 1) m' σ' H') ∧ ∀ x H', (Ite b K a).yld i H x H' → g x σ H' fun σ2 H2 => tb { D with nx := N, ct := N, bk := D.nx } σ2 H2) := by
  refine ⟨fun i m σ H => m = xs.length - i ∧ i ≤ xs.length ∧ Pv i σ H, ⟨xs.length, by simp, Nat.zero_le _, h0⟩, ?_⟩
  rintro i m σ H ⟨rfl, hi, p⟩
  have q := hl i σ H hi p
  by_cases hlt : i < xs.length
  · refine .inr ⟨⟨xs, xs[i], q, by simp [hlt]⟩, Pv (i + 1), fun σ' H' p' => ⟨xs.length - (i + 1), by omega, rfl, hlt, p'⟩, fun x H' y => ?_⟩
    obtain ⟨t, x', ht, rfl, rfl, e1⟩ := y
    exact hs i x' σ H t (e1 xs q) p ht
  · have : i = xs.length := by omega
    subst this
    exact .inl ⟨⟨xs, q, Nat.le_refl _⟩, hd σ H p⟩
end L2

namespace L2
open PySem PySem.Spec PyProof.Rows
/-! ### zip of two lists or tuples -/
section
variable {prog : Program} {w : World} {A : Around} {E : Value → Shared → Prop} {s : Shared}
theorem zipB_item {b c : Bool} {z TI TO i1 i2 l1 l2 : Addr} {n1 n2 : Nat} {xs ys : Array Value} {x y u0 v0 : Value} {Q : Option Value → Shared → Prop} (D : ZipApart z TI TO i1 i2 l1 l2)
    (hz : IsZip s.heap z TI TO .none) (hI : IsPair s.heap TI (.ref i1) (.ref i2)) (hO : IsPair s.heap TO u0 v0) (u1 : SI b s.heap i1 l1 n1) (u2 : SI c s.heap i2 l2 n2) (q1 : SQ b s.heap l1 xs) (q2 : SQ c s.heap l2 ys) (hx : xs[n1]? = some x) (hy : ys[n2]? = some y)
    (k : ∀ h', IsZip h' z TI TO (rawInt s.heap.objs.size) → IsPair h' TO x y → SI b h' i1 l1 (n1 + 1) → SI c h' i2 l2 (n2 + 1) → IsPair h' s.heap.objs.size x y → h'.objs.size = s.heap.objs.size + 1 →
      (∀ a o, a ≠ z → a ≠ TO → a ≠ i1 → a ≠ i2 → s.heap.get? a = some o → h'.get? a = some o) → Q (some (.ref s.heap.objs.size)) { s with heap := h' }) : wpAny (model prog w) A (pyNext (.ref z)) Q E s := by
  have ty : s.TypeIs (.ref z) "zip" := ⟨_, hz, rfl⟩
  unfold pyNext
  refine wpAny_bind (wpAny_attempt (wpAny_callSpecial?_slot (name := Str.ofString "__next__") ty F.slot_zip_next (wpAny_call_entry F.slot_zip_next ty F.entry_zip_next ?_ (F.args_zip_next_1 _))))
  show wpAny _ _ (field (.ref z) 2 >>= fun _ => _) _ _ _
  refine wpAny_bind (wpAny_field hz rfl (x := .bool false) rfl ?_)
  show wpAny _ _ (field (.ref z) 3 >>= fun _ => _) _ _ _
  refine wpAny_bind (wpAny_field hz rfl (x := .ref TI) rfl (wpAny_bind (wpAny_seqItems hI rfl ?_)))
  show wpAny _ _ (Builtin.SmallTypes.ownedTupleIsFree (.ref z) >>= fun _ => _) _ _ _
  refine wpAny_bind ?_
  delta Builtin.SmallTypes.ownedTupleIsFree
  refine wpAny_bind (wpAny_field hz rfl (x := .none) rfl (wpAny_pure ?_))
  simp only [if_true]
  refine wpAny_bind (wpAny_rule (wpAny_bind (wpAny_field hz rfl (x := .ref TO) rfl (wpAny_bind (wpAny_setField_rec hz (by simp) fun h1 z1 s1 => ?_)))))
  replace z1 : IsZip h1 z TI TO .ellipsis := z1
  refine wpAny_bind ?_
  simp only [List.zipIdx_nil, List.zipIdx_cons, List.forIn_nil, List.forIn_cons]
  refine wpAny_bind (wpAny_bind (wpAny_onRaise ?_))
  show wpAny _ _ (Builtin.SmallTypes.nextOf (.ref i1) >>= fun _ => _) _ _ _
  refine wpAny_bind (nextOf_item (u1.at fun o e => s1.extBut _ o D.i1z e) (q1.at fun o e => s1.extBut _ o D.l1z e) hx fun h2 v1 s2 => wpAny_pure ?_)
  have O2 : IsPair h2 TO u0 v0 := s2.extBut _ _ D.TOi1 (s1.extBut _ _ D.TOz hO)
  refine wpAny_bind (wpAny_seqItems O2 rfl (wpAny_bind (wpAny_updateSeq_pair O2 fun h3 O3 s3 => ?_)))
  replace O3 : IsPair h3 TO x v0 := O3
  refine wpAny_bind (wpAny_letGo (wpAny_pure (wpAny_bind (wpAny_bind (wpAny_onRaise ?_)))))
  show wpAny _ _ (Builtin.SmallTypes.nextOf (.ref i2) >>= fun _ => _) _ _ _
  have up3 : ∀ a o, a ≠ z → a ≠ i1 → a ≠ TO → s.heap.get? a = some o → h3.get? a = some o := fun a o a1 a2 a3 e => s3.extBut _ o a3 (s2.extBut _ o a2 (s1.extBut _ o a1 e))
  refine wpAny_bind (nextOf_item (u2.at fun o e => up3 _ o D.i2z D.i12.symm D.TOi2.symm e) (q2.at fun o e => up3 _ o D.l2z D.l2i1 D.l2TO e) hy fun h4 v2 s4 => wpAny_pure ?_)
  have O4 : IsPair h4 TO x v0 := s4.extBut _ _ D.TOi2 O3
  refine wpAny_bind (wpAny_seqItems O4 rfl (wpAny_bind (wpAny_updateSeq_pair O4 fun h5 O5 s5 => ?_)))
  replace O5 : IsPair h5 TO x y := O5
  refine wpAny_bind (wpAny_letGo (wpAny_pure (wpAny_pure (wpAny_bind (wpAny_seqItems O5 rfl (wpAny_bind (wpAny_newTuple (?_))))))))
  have sz : h5.objs.size = s.heap.objs.size := by rw [s5.1, s4.1, s3.1, s2.1, s1.1]
  have z5 : IsZip h5 z TI TO .ellipsis := s5.extBut _ _ D.TOz.symm (s4.extBut _ _ D.i2z.symm (s3.extBut _ _ D.TOz.symm (s2.extBut _ _ D.i1z.symm z1)))
  have up5 : ∀ a o, a ≠ z → a ≠ TO → a ≠ i1 → a ≠ i2 → s.heap.get? a = some o → h5.get? a = some o := fun a o a1 a2 a3 a4 e => s5.extBut _ o a2 (s4.extBut _ o a4 (up3 a o a1 a3 a2 e))
  have w1 : SI b h5 i1 l1 (n1 + 1) := v1.at fun o e => s5.extBut _ o D.TOi1.symm (s4.extBut _ o D.i12 (s3.extBut _ o D.TOi1.symm e))
  have w2 : SI c h5 i2 l2 (n2 + 1) := v2.at fun o e => s5.extBut _ o D.TOi2.symm e
  have lz : @LT.lt Nat _ z h5.objs.size := Heap.lt_size z5
  show wpAny _ _ (Builtin.SmallTypes.ownedTupleHandOut (.ref z) (.ref h5.objs.size) >>= fun _ => _) _ _ _
  refine wpAny_bind ?_
  delta Builtin.SmallTypes.ownedTupleHandOut
  have z6 : IsZip (h5.push { cls := .type "tuple", data := .seq #[x, y] }) z TI TO .ellipsis := Heap.get?_push_of_some _ z5
  refine wpAny_bind (wpAny_setField_rec z6 (by simp) fun h7 z7 s7 => ?_)
  replace z7 : IsZip h7 z TI TO (rawInt h5.objs.size) := z7
  refine wpAny_setField_rec z7 (by simp) fun h8 z8 s8 => ?_
  replace z8 : IsZip h8 z TI TO (rawInt h5.objs.size) := z8
  have up : ∀ a o, a ≠ z → h5.get? a = some o → h8.get? a = some o := fun a o a1 e => s8.extBut _ o a1 (s7.extBut _ o a1 (Heap.get?_push_of_some _ e))
  have T8 : IsPair h8 h5.objs.size x y := s8.extBut _ _ (Nat.ne_of_gt lz) (s7.extBut _ _ (Nat.ne_of_gt lz) (Heap.get?_push_size _ rfl))
  have e8 : h8.objs.size = h5.objs.size + 1 := by rw [s8.1, s7.1, Heap.size_push]
  rw [sz] at z8 T8 e8
  refine wpAny_pure ⟨_, rfl, wpAny_pure ?_⟩
  show Q (some (.ref h5.objs.size)) _
  rw [sz]
  exact k h8 z8 (up _ _ D.TOz O5) (w1.at fun o e => up _ o D.i1z e) (w2.at fun o e => up _ o D.i2z e) T8 e8 fun a o a1 a2 a3 a4 e => up a o a1 (up5 a o a1 a2 a3 a4 e)
theorem zipB_end {b c : Bool} {z TI TO i1 i2 l1 l2 : Addr} {n1 n2 : Nat} {xs ys : Array Value} {u0 v0 : Value} {Q : Option Value → Shared → Prop} (hh : A.handled = none) (D : ZipApart z TI TO i1 i2 l1 l2)
    (hz : IsZip s.heap z TI TO .none) (hI : IsPair s.heap TI (.ref i1) (.ref i2)) (hO : IsPair s.heap TO u0 v0) (u1 : SI b s.heap i1 l1 n1) (u2 : SI c s.heap i2 l2 n2) (q1 : SQ b s.heap l1 xs) (q2 : SQ c s.heap l2 ys) (hend : xs[n1]? = none ∨ ys[n2]? = none)
    (k : ∀ h', (∀ a o, a ≠ z → a ≠ TO → a ≠ i1 → a ≠ i2 → s.heap.get? a = some o → h'.get? a = some o) → Q none { s with heap := h' }) : wpAny (model prog w) A (pyNext (.ref z)) Q E s := by
  have ty : s.TypeIs (.ref z) "zip" := ⟨_, hz, rfl⟩
  unfold pyNext
  refine wpAny_bind (wpAny_attempt (wpAny_callSpecial?_slot (name := Str.ofString "__next__") ty F.slot_zip_next (wpAny_call_entry F.slot_zip_next ty F.entry_zip_next ?_ (F.args_zip_next_1 _))))
  show wpAny _ _ (field (.ref z) 2 >>= fun _ => _) _ _ _
  refine wpAny_bind (wpAny_field hz rfl (x := .bool false) rfl ?_)
  show wpAny _ _ (field (.ref z) 3 >>= fun _ => _) _ _ _
  refine wpAny_bind (wpAny_field hz rfl (x := .ref TI) rfl (wpAny_bind (wpAny_seqItems hI rfl ?_)))
  show wpAny _ _ (Builtin.SmallTypes.ownedTupleIsFree (.ref z) >>= fun _ => _) _ _ _
  refine wpAny_bind ?_
  delta Builtin.SmallTypes.ownedTupleIsFree
  refine wpAny_bind (wpAny_field hz rfl (x := .none) rfl (wpAny_pure ?_))
  simp only [if_true]
  refine wpAny_bind (wpAny_rule (wpAny_bind (wpAny_field hz rfl (x := .ref TO) rfl (wpAny_bind (wpAny_setField_rec hz (by simp) fun h1 z1 s1 => ?_)))))
  replace z1 : IsZip h1 z TI TO .ellipsis := z1
  refine wpAny_bind ?_
  simp only [List.zipIdx_nil, List.zipIdx_cons, List.forIn_nil, List.forIn_cons]
  refine wpAny_bind (wpAny_bind (wpAny_onRaise ?_))
  show wpAny _ _ (Builtin.SmallTypes.nextOf (.ref i1) >>= fun _ => _) _ _ _
  have stop : ∀ (h' : Heap) (e : Addr), IsZip h' z TI TO .ellipsis → (∃ o, h'.get? e = some o ∧ o.cls = .type "StopIteration") → (∀ a o, a ≠ z → a ≠ TO → a ≠ i1 → a ≠ i2 → s.heap.get? a = some o → h'.get? a = some o) →
      wpAny (model prog w) A.in1 (setField (.ref z) 0 .none) (fun _ s' => ∃ o, s'.heap.get? e = some o ∧ o.cls = .type "StopIteration" ∧ ∃ h'', s' = { s with heap := h'' } ∧ ∀ a o, a ≠ z → a ≠ TO → a ≠ i1 → a ≠ i2 → s.heap.get? a = some o → h''.get? a = some o) (fun _ _ => False) { s with heap := h' } := fun h' e zz ⟨oe, ge, ce⟩ up => by
    have hez : e ≠ z := fun x => by subst x; rw [zz] at ge; cases ge; simp at ce
    exact wpAny_setField_rec (s := { s with heap := h' }) zz (by simp) fun h'' _ sb => ⟨oe, sb.extBut _ _ hez ge, ce, h'', rfl, fun a o a1 a2 a3 a4 x => sb.extBut _ _ a1 (up a o a1 a2 a3 a4 x)⟩
  have fin : ∀ (e : Addr) (s' : Shared), (∃ o, s'.heap.get? e = some o ∧ o.cls = .type "StopIteration" ∧ ∃ h'', s' = { s with heap := h'' } ∧ ∀ a o, a ≠ z → a ≠ TO → a ≠ i1 → a ≠ i2 → s.heap.get? a = some o → h''.get? a = some o) →
      (∃ o, s'.heap.get? e = some o ∧ o.cls = .type "StopIteration") ∧ Q none s' := fun e s' ⟨o, g, c, h'', eq, up⟩ => ⟨⟨o, g, c⟩, by rw [eq]; exact k h'' up⟩
  cases hx : xs[n1]? with
  | none =>
    refine wpAny_bind (nextOf_end hh (u1.at fun o e => s1.extBut _ o D.i1z e) (q1.at fun o e => s1.extBut _ o D.l1z e) hx fun h2 e s2 he => ?_)
    refine wpAny_mono (stop h2 e (s2 _ _ D.i1z.symm z1) he fun a o a1 a2 a3 a4 x => s2 _ _ a3 (s1.extBut _ _ a1 x)) (fun _ s' y => ?_) fun _ _ y => y.elim
    obtain ⟨g, q⟩ := fin e s' y
    exact wpAny_bind (wpAny_isInstance (T := "StopIteration") (b := true) g isSubtype_stop (wpAny_pure q))
  | some x =>
    have hy : ys[n2]? = none := by rcases hend with h | h; rw [hx] at h; cases h; exact h
    refine wpAny_bind (nextOf_item (u1.at fun o e => s1.extBut _ o D.i1z e) (q1.at fun o e => s1.extBut _ o D.l1z e) hx fun h2 v1 s2 => wpAny_pure ?_)
    have O2 : IsPair h2 TO u0 v0 := s2.extBut _ _ D.TOi1 (s1.extBut _ _ D.TOz hO)
    refine wpAny_bind (wpAny_seqItems O2 rfl (wpAny_bind (wpAny_updateSeq_pair O2 fun h3 O3 s3 => ?_)))
    refine wpAny_bind (wpAny_letGo (wpAny_pure (wpAny_bind (wpAny_bind (wpAny_onRaise ?_)))))
    show wpAny _ _ (Builtin.SmallTypes.nextOf (.ref i2) >>= fun _ => _) _ _ _
    have up3 : ∀ a o, a ≠ z → a ≠ i1 → a ≠ TO → s.heap.get? a = some o → h3.get? a = some o := fun a o a1 a2 a3 e => s3.extBut _ o a3 (s2.extBut _ o a2 (s1.extBut _ o a1 e))
    refine wpAny_bind (nextOf_end hh (u2.at fun o e => up3 _ o D.i2z D.i12.symm D.TOi2.symm e) (q2.at fun o e => up3 _ o D.l2z D.l2i1 D.l2TO e) hy fun h4 e s4 he => ?_)
    have z4 : IsZip h4 z TI TO .ellipsis := s4 _ _ D.i2z.symm (s3.extBut _ _ D.TOz.symm (s2.extBut _ _ D.i1z.symm z1))
    refine wpAny_mono (stop h4 e z4 he fun a o a1 a2 a3 a4 x => s4 _ _ a4 (up3 a o a1 a3 a2 x)) (fun _ s' y => ?_) fun _ _ y => y.elim
    obtain ⟨g, q⟩ := fin e s' y
    exact wpAny_bind (wpAny_isInstance (T := "StopIteration") (b := true) g isSubtype_stop (wpAny_pure q))
end
end L2

namespace L2
open PySem PySem.Spec PyProof.Rows
def kdI (b : Bool) : String := if b = true then "list_iterator" else "tuple_iterator"
abbrev zB1 (b : Bool) (h : Heap) (l1 : Addr) : Heap := h.push { cls := .type (kdI b), data := .fields #[.ref l1, .int 0 0] }
abbrev zB2 (b c : Bool) (h : Heap) (l1 l2 : Addr) : Heap := (zB1 b h l1).push { cls := .type (kdI c), data := .fields #[.ref l2, .int 0 0] }
abbrev zB3 (b c : Bool) (h : Heap) (l1 l2 : Addr) : Heap := (zB2 b c h l1 l2).push { cls := .type "tuple", data := .seq #[.ref h.objs.size, .ref (zB1 b h l1).objs.size] }
abbrev zB4 (b c : Bool) (h : Heap) (l1 l2 : Addr) : Heap := (zB3 b c h l1 l2).push { cls := .type "tuple", data := .seq #[.none, .none] }
abbrev zB5 (b c : Bool) (h : Heap) (l1 l2 : Addr) : Heap := (zB4 b c h l1 l2).push { cls := .type "zip", data := .fields #[.none, .bool false, .bool false, .ref (zB2 b c h l1 l2).objs.size, .ref (zB3 b c h l1 l2).objs.size] }
theorem meets_zip_ff (l1 l2 : Addr) (xs ys : Array Value) :
    Meets (Builtin.«zip.__new__» ⟨[.type "zip", .ref l1, .ref l2], []⟩) (fun _ R s => s.heap.IsTuple l1 xs ∧ s.heap.IsTuple l2 ys ∧ R (.ok (.ret (.ref (zB4 false false s.heap l1 l2).objs.size))) { s with heap := zB5 false false s.heap l1 l2 }) :=
  .of_wp fun prog w A R s h => by
    obtain ⟨hp, g, d, tk, os⟩ := s
    obtain ⟨q1, q2, h⟩ := h
    have sub := sub_zip
    have L1 : Heap.IsTuple (Shared.heap ⟨hp, g, d, tk, os⟩) l1 xs := q1
    have L2 : Heap.IsTuple (Shared.heap ⟨hp.push { cls := .type "tuple_iterator", data := .fields #[.ref l1, .int 0 0] }, g, d, tk, os⟩) l2 ys := Heap.IsTuple.at q2 fun o e => Heap.get?_push_of_some _ e
    wp_walk using PySem.wpAny_pyIter_tuple L1, PySem.wpAny_pyIter_tuple L2
    exact ⟨_, rfl, h⟩
theorem meets_zip_ft (l1 l2 : Addr) (xs ys : Array Value) :
    Meets (Builtin.«zip.__new__» ⟨[.type "zip", .ref l1, .ref l2], []⟩) (fun _ R s => s.heap.IsTuple l1 xs ∧ s.heap.IsList l2 ys ∧ R (.ok (.ret (.ref (zB4 false true s.heap l1 l2).objs.size))) { s with heap := zB5 false true s.heap l1 l2 }) :=
  .of_wp fun prog w A R s h => by
    obtain ⟨hp, g, d, tk, os⟩ := s
    obtain ⟨q1, q2, h⟩ := h
    have sub := sub_zip
    have L1 : Heap.IsTuple (Shared.heap ⟨hp, g, d, tk, os⟩) l1 xs := q1
    have L2 : Heap.IsList (Shared.heap ⟨hp.push { cls := .type "tuple_iterator", data := .fields #[.ref l1, .int 0 0] }, g, d, tk, os⟩) l2 ys := Heap.IsList.at q2 fun o e => Heap.get?_push_of_some _ e
    wp_walk using PySem.wpAny_pyIter_tuple L1, wpAny_pyIter_list L2
    exact ⟨_, rfl, h⟩
theorem meets_zip_tf (l1 l2 : Addr) (xs ys : Array Value) :
    Meets (Builtin.«zip.__new__» ⟨[.type "zip", .ref l1, .ref l2], []⟩) (fun _ R s => s.heap.IsList l1 xs ∧ s.heap.IsTuple l2 ys ∧ R (.ok (.ret (.ref (zB4 true false s.heap l1 l2).objs.size))) { s with heap := zB5 true false s.heap l1 l2 }) :=
  .of_wp fun prog w A R s h => by
    obtain ⟨hp, g, d, tk, os⟩ := s
    obtain ⟨q1, q2, h⟩ := h
    have sub := sub_zip
    have L1 : Heap.IsList (Shared.heap ⟨hp, g, d, tk, os⟩) l1 xs := q1
    have L2 : Heap.IsTuple (Shared.heap ⟨hp.push { cls := .type "list_iterator", data := .fields #[.ref l1, .int 0 0] }, g, d, tk, os⟩) l2 ys := Heap.IsTuple.at q2 fun o e => Heap.get?_push_of_some _ e
    wp_walk using wpAny_pyIter_list L1, PySem.wpAny_pyIter_tuple L2
    exact ⟨_, rfl, h⟩
theorem meets_zip_tt (l1 l2 : Addr) (xs ys : Array Value) :
    Meets (Builtin.«zip.__new__» ⟨[.type "zip", .ref l1, .ref l2], []⟩) (fun _ R s => s.heap.IsList l1 xs ∧ s.heap.IsList l2 ys ∧ R (.ok (.ret (.ref (zB4 true true s.heap l1 l2).objs.size))) { s with heap := zB5 true true s.heap l1 l2 }) :=
  .of_wp fun prog w A R s h => by
    obtain ⟨hp, g, d, tk, os⟩ := s
    obtain ⟨q1, q2, h⟩ := h
    have sub := sub_zip
    have L1 : Heap.IsList (Shared.heap ⟨hp, g, d, tk, os⟩) l1 xs := q1
    have L2 : Heap.IsList (Shared.heap ⟨hp.push { cls := .type "list_iterator", data := .fields #[.ref l1, .int 0 0] }, g, d, tk, os⟩) l2 ys := Heap.IsList.at q2 fun o e => Heap.get?_push_of_some _ e
    wp_walk using wpAny_pyIter_list L1, wpAny_pyIter_list L2
    exact ⟨_, rfl, h⟩
theorem meets_zipB (b c : Bool) (l1 l2 : Addr) (xs ys : Array Value) :
    Meets (Builtin.«zip.__new__» ⟨[.type "zip", .ref l1, .ref l2], []⟩) (fun _ R s => SQ b s.heap l1 xs ∧ SQ c s.heap l2 ys ∧ R (.ok (.ret (.ref (zB4 b c s.heap l1 l2).objs.size))) { s with heap := zB5 b c s.heap l1 l2 }) := by
  cases b <;> cases c
  · exact meets_zip_ff l1 l2 xs ys
  · exact meets_zip_ft l1 l2 xs ys
  · exact meets_zip_tf l1 l2 xs ys
  · exact meets_zip_tt l1 l2 xs ys
theorem SI.made {b : Bool} {h : Heap} {it l : Addr} (e : h.get? it = some { cls := .type (kdI b), data := .fields #[.ref l, .int 0 0] }) : SI b h it l 0 := by
  cases b
  · exact ⟨_, e, rfl, rfl⟩
  · exact ⟨_, e, rfl, rfl⟩
section
variable {prog : Program} {w : World} {A : Around} {E : Value → Shared → Prop} {s : Shared}
theorem call_zipB {b c : Bool} {l1 l2 : Addr} {xs ys : Array Value} {Q : Value → Shared → Prop} (q1 : SQ b s.heap l1 xs) (q2 : SQ c s.heap l2 ys)
    (k : ∀ h', IsZip h' (s.heap.objs.size + 4) (s.heap.objs.size + 2) (s.heap.objs.size + 3) .none → IsPair h' (s.heap.objs.size + 2) (.ref s.heap.objs.size) (.ref (s.heap.objs.size + 1)) → IsPair h' (s.heap.objs.size + 3) .none .none →
      SI b h' s.heap.objs.size l1 0 → SI c h' (s.heap.objs.size + 1) l2 0 → h'.objs.size = s.heap.objs.size + 5 → (∀ a o, s.heap.get? a = some o → h'.get? a = some o) → Q (.ref (s.heap.objs.size + 4)) { s with heap := h' }) :
    wpAny (model prog w) A (call (.type "zip") [.ref l1, .ref l2]) Q E s := by
  refine callType_new F.called_zip (by decide) (F.typeCall_zip_2 _ _) (F.newCall_zip_2 _ _) (fun obj => F.args_object_init_3 obj _ _) F.entry_zip_new (meets_zipB b c l1 l2 xs ys) ⟨q1, q2, ?_⟩
  have e1 : (zB1 b s.heap l1).objs.size = s.heap.objs.size + 1 := Heap.size_push ..
  have e2 : (zB2 b c s.heap l1 l2).objs.size = s.heap.objs.size + 2 := by rw [Heap.size_push, e1]
  have e3 : (zB3 b c s.heap l1 l2).objs.size = s.heap.objs.size + 3 := by rw [Heap.size_push, e2]
  have e4 : (zB4 b c s.heap l1 l2).objs.size = s.heap.objs.size + 4 := by rw [Heap.size_push, e3]
  have e5 : (zB5 b c s.heap l1 l2).objs.size = s.heap.objs.size + 5 := by rw [Heap.size_push, e4]
  have up : ∀ {h : Heap} {o : Obj} {a : Addr} {u : Obj}, h.get? a = some u → (h.push o).get? a = some u := fun e => Heap.get?_push_of_some _ e
  have g5 : (zB5 b c s.heap l1 l2).get? (zB4 b c s.heap l1 l2).objs.size = some _ := Heap.get?_push_size _ rfl
  have g4 : (zB5 b c s.heap l1 l2).get? (zB3 b c s.heap l1 l2).objs.size = some _ := up (Heap.get?_push_size _ rfl)
  have g3 : (zB5 b c s.heap l1 l2).get? (zB2 b c s.heap l1 l2).objs.size = some _ := up (up (Heap.get?_push_size _ rfl))
  have g2 : (zB5 b c s.heap l1 l2).get? (zB1 b s.heap l1).objs.size = some _ := up (up (up (Heap.get?_push_size _ rfl)))
  have g1 : (zB5 b c s.heap l1 l2).get? s.heap.objs.size = some _ := up (up (up (up (Heap.get?_push_size _ rfl))))
  show _ ∧ _
  rw [e2, e3, e4] at g5
  rw [e1, e2] at g3
  rw [e3] at g4
  rw [e1] at g2
  rw [e4]
  exact ⟨⟨_, g5, rfl⟩, k _ g5 g3 g4 (.made g1) (.made g2) e5 fun a o x => up (up (up (up (up x))))⟩
end
/-- the things of two lists or tuples, side by side -/
def ItzB (b c : Bool) (K : PySem.W.Frag) (l1 l2 : Addr) : It :=
  ⟨fun i H => ∃ xs ys x y, SqB b K H l1 xs ∧ SqB c K H l2 ys ∧ xs[i]? = some x ∧ ys[i]? = some y,
   fun i H v H' => ∃ p x y, H p = none ∧ v = .ref p ∧ H' = upd H p (.tup [x, y]) ∧ (∀ xs, SqB b K H l1 xs → xs[i]? = some x) ∧ ∀ ys, SqB c K H l2 ys → ys[i]? = some y,
   fun i H => ∃ xs ys, SqB b K H l1 xs ∧ SqB c K H l2 ys ∧ (xs.length ≤ i ∨ ys.length ≤ i)⟩
def zBn (b c : Bool) (z TI TO i1 i2 l1 l2 : Addr) (i : Nat) (h : Heap) : Prop := IsZip h z TI TO .none ∧ IsPair h TI (.ref i1) (.ref i2) ∧ (∃ u v, IsPair h TO u v) ∧ SI b h i1 l1 i ∧ SI c h i2 l2 i
theorem turn_zipB {P : Program} {w : World} {K : PySem.W.Frag} {b c : Bool} {elts : List Expr} {kk} {pos : Pos} {l1 l2 z TI TO i1 i2 : Addr} (D : ZipApart z TI TO i1 i2 l1 l2) :
    Turn P w K (.Tuple elts kk pos) (ItzB b c K l1 l2) [i1, i2, TI, TO, z] z (zBn b c z TI TO i1 i2 l1 l2) where
  mem := by simp
  obj := fun i h st a ha => by
    obtain ⟨hz, hI, ⟨u, v, hO⟩, u1, u2⟩ := st
    simp only [List.mem_cons, List.not_mem_nil, or_false] at ha
    rcases ha with rfl | rfl | rfl | rfl | rfl
    · exact u1.obj
    · exact u2.obj
    · exact ⟨_, hI, fun v z => (nomatch z)⟩
    · exact ⟨_, hO, fun v z => (nomatch z)⟩
    · exact ⟨_, hz, fun v z => (nomatch z)⟩
  keep := fun i h h' st k => by
    obtain ⟨hz, hI, ⟨u, v, hO⟩, u1, u2⟩ := st
    exact ⟨k _ (by simp) _ hz, k _ (by simp) _ hI, ⟨u, v, k _ (by simp) _ hO⟩, u1.at fun o e => k _ (by simp) o e, u2.at fun o e => k _ (by simp) o e⟩
  item := by
    intro X hP hw hK hc i pins s σ H E I hf st hg
    subst hP hw hK
    obtain ⟨xs, ys, x, y, hqa, hqb, hx, hy⟩ := hg
    obtain ⟨hz, hI, ⟨u0, v0, hO⟩, u1, u2⟩ := st
    obtain ⟨itsa, rva, pa, za⟩ := I.sq hqa
    obtain ⟨itsb, rvb, pb, zb⟩ := I.sq hqb
    obtain ⟨u, hu, ru⟩ := rva.get hx
    obtain ⟨v, hv, rv⟩ := rvb.get hy
    refine zipB_item D hz hI hO u1 u2 pa pb (x := u) (y := v) (by simpa using hu) (by simpa using hv) fun h' z1 p1 n1 n2 t1 sz1 k1 => ?_
    refine ⟨_, rfl, wpAny_letOwnedTupleGo_zip (s := { s with heap := h' }) z1 fun h'' z2 sb => ?_⟩
    have hTz : s.heap.objs.size ≠ z := Nat.ne_of_gt (Heap.lt_size hz)
    have up : ∀ c o, c ≠ z → h'.get? c = some o → h''.get? c = some o := fun c o hcz e => (sb.2 c hcz).trans e
    have tT : IsPair h'' s.heap.objs.size u v := up _ _ hTz t1
    have kk : ∀ c o, c ∉ [i1, i2, TI, TO, z] → s.heap.get? c = some o → h''.get? c = some o := fun c o hc e => by
      simp only [List.mem_cons, List.not_mem_nil, or_false, not_or] at hc
      exact up c o hc.2.2.2.2 (k1 c o hc.2.2.2.2 hc.2.2.2.1 hc.1 hc.2.1 e)
    have tI : IsPair h'' TI (.ref i1) (.ref i2) := up _ _ D.TIz (k1 TI _ D.TIz D.TITO D.TIi1 D.TIi2 hI)
    have st'' : zBn b c z TI TO i1 i2 l1 l2 (i + 1) h'' := ⟨z2, tI, ⟨u, v, up _ _ D.TOz p1⟩, n1.at fun o e => up _ o D.i1z e, n2.at fun o e => up _ o D.i2z e⟩
    have kt : ∀ a ∈ [i1, i2, TI, TO, z], ∃ o, h''.get? a = some o := fun a ha => by
      obtain ⟨hz', hI', ⟨u', v', hO'⟩, y1, y2⟩ := st''
      simp only [List.mem_cons, List.not_mem_nil, or_false] at ha
      rcases ha with rfl | rfl | rfl | rfl | rfl
      · obtain ⟨o, e, _⟩ := y1.obj; exact ⟨o, e⟩
      · obtain ⟨o, e, _⟩ := y2.obj; exact ⟨o, e⟩
      · exact ⟨_, hI'⟩
      · exact ⟨_, hO'⟩
      · exact ⟨_, hz'⟩
    have I1 : Inv X pins σ (upd H s.heap.objs.size (.tup [x, y])) { s with heap := h'' } :=
      I.turnedT (t' := s.toks) (its := [u, v]) hf kk kt (Nat.le_refl _) (by show 2 ≤ sizeLine; decide) (.cons ru (.cons rv .nil)) ⟨_, tT, rfl, _, rfl⟩
    refine ⟨.ref s.heap.objs.size, _, I1, rfl, ⟨_, x, y, I.fresh, rfl, rfl, fun ys' h => by rw [I.sq_inj h hqa]; exact hx, fun ys' h => by rw [I.sq_inj h hqb]; exact hy⟩, st'', fun a ha => ?_⟩
    rw [upd_ne ?_]
    · exact (hf a ha).1
    · intro e
      have hlt : a < s.heap.objs.size := by
        simp only [List.mem_cons, List.not_mem_nil, or_false] at ha
        rcases ha with rfl | rfl | rfl | rfl | rfl
        · obtain ⟨o, e, _⟩ := u1.obj; exact Heap.lt_size e
        · obtain ⟨o, e, _⟩ := u2.obj; exact Heap.lt_size e
        · exact Heap.lt_size hI
        · exact Heap.lt_size hO
        · exact Heap.lt_size hz
      exact absurd hlt (by rw [e]; exact Nat.lt_irrefl _)
  done := by
    intro X hP hw hK hc i pins s σ H E I hf st hg
    subst hP hw hK
    obtain ⟨xs, ys, hqa, hqb, hl⟩ := hg
    obtain ⟨hz, hI, ⟨u0, v0, hO⟩, u1, u2⟩ := st
    obtain ⟨itsa, rva, pa, za⟩ := I.sq hqa
    obtain ⟨itsb, rvb, pb, zb⟩ := I.sq hqb
    have e1 := rva.length
    have e2 := rvb.length
    refine zipB_end (I.ok.hd hc) D hz hI hO u1 u2 pa pb ?_ fun h' k1 => ⟨rfl, I.turnedM (t' := s.toks) hf fun c o hc e => ?_⟩
    · rcases hl with h | h
      · exact .inl (by simp; omega)
      · exact .inr (by simp; omega)
    · simp only [List.mem_cons, List.not_mem_nil, or_false, not_or] at hc
      exact k1 c o hc.2.2.2.2 hc.2.2.2.1 hc.1 hc.2.1 e
  self := fun _ _ _ _ _ st h => wpAny_pyIter_zip st.1 h
def iZipB (b c : Bool) (K : PySem.W.Frag) (ta : TA) : TI := fun σ H R => ta σ H fun vs H1 => ∃ l1 l2, vs = [.ref l1, .ref l2] ∧ (∃ xs, SqB b K H1 l1 xs) ∧ (∃ ys, SqB c K H1 l2 ys) ∧ R (ItzB b c K l1 l2) H1
/-- the zip object just made -/
def ZipAt (X : Cx) (pins : List (Addr × Obj)) (σ : St) (R : Addr → Addr → Hp → Prop) (b c : Bool) (v : Value) (s2 : Shared) : Prop := ∃ (z TI TO i1 i2 l1 l2 : Addr) (H1 : Hp), v = .ref z ∧ Inv X pins σ H1 s2 ∧ ZipApart z TI TO i1 i2 l1 l2 ∧ zBn b c z TI TO i1 i2 l1 l2 0 s2.heap ∧ (∀ a ∈ [i1, i2, TI, TO, z], FpOk X pins H1 a) ∧ (∀ a ∈ [i1, i2, TI, TO, z], a ≠ l1 ∧ a ≠ l2) ∧ R l1 l2 H1
theorem eval_zipB {X : Cx} {b c : Bool} {x y : Expr} {ta : TA} {p pos : Pos} (hg : Gl X "zip") (hm : X.mg "zip" = none) (ha : PA X [x, y] ta) (hs : starEach [x, y] X.env = [(false, eval x X.env), (false, eval y X.env)]) (hs2 : starEach [y] X.env = [(false, eval y X.env)])
    {pins : List (Addr × Obj)} {s : Shared} {σ : St} {H : Hp} {R : Addr → Addr → Hp → Prop} (I : Inv X pins σ H s) (h : ta σ H fun vs H1 => ∃ l1 l2, vs = [.ref l1, .ref l2] ∧ (∃ xs, SqB b X.K H1 l1 xs) ∧ (∃ ys, SqB c X.K H1 l2 ys) ∧ R l1 l2 H1) : wpAny (model X.prog X.w) X.A (eval (.Call (.Name "zip" p) [x, y] [] pos) X.env) (ZipAt X pins σ R b c) X.xe s := by
  refine Call_ (ld_blt I hg hm boot_zip (PyProof.Rows.callWith_type1 (thn (ha pos pins s σ H _ I h) fun us s1 ⟨vs, H1, I1, r1, q1⟩ => ?_) (by rw [hs, hs2]) (by rw [hs2]; rfl)))
  obtain ⟨l1, l2, e, ⟨xs, hqa⟩, ⟨ys, hqb⟩, q⟩ := q1
  subst e
  cases r1 with
  | cons r rr =>
    cases rr with
    | cons r' rr =>
      cases rr
      cases r
      cases r'
      obtain ⟨itsa, rva, pa, za⟩ := I1.sq hqa
      obtain ⟨itsb, rvb, pb, zb⟩ := I1.sq hqb
      have ltOf : ∀ {b : Bool} {l : Addr} {xs : Array Value}, SQ b s1.heap l xs → @LT.lt Nat _ l s1.heap.objs.size := fun {b l xs} q => by
        cases b
        · obtain ⟨o, e, _⟩ := (show s1.heap.IsTuple l xs from q); exact Heap.lt_size e
        · obtain ⟨o, e, _⟩ := (show s1.heap.IsList l xs from q); exact Heap.lt_size e
      have l1lt := ltOf pa
      have l2lt := ltOf pb
      refine call_zipB pa pb fun h' z1 p1 p2 n1 n2 sz k1 => ?_
      have up : ∀ {m n : Nat}, m < n → n ≠ m := fun h => Nat.ne_of_gt h
      have dn : ∀ {m n : Nat}, m < n → m ≠ n := fun h => Nat.ne_of_lt h
      refine ⟨s1.heap.objs.size + 4, _, _, _, _, l1, l2, H1, rfl, I1.kept (t' := s1.toks) k1,
        ⟨dn (by omega), dn (by omega), dn (by omega), dn (by omega), dn (by omega), up (by omega), up (by omega), up (by omega), up (by omega), dn (by omega), dn (by omega), dn (by omega), dn (by omega), dn (by omega), dn (by omega), dn (by omega), dn (by omega), dn (by omega)⟩, ⟨z1, p1, ⟨_, _, p2⟩, n1, n2⟩, fun a ha => ?_, fun a ha => ?_, q⟩
      rotate_left
      · have hle : s1.heap.objs.size ≤ a := by
          simp only [List.mem_cons, List.not_mem_nil, or_false] at ha
          rcases ha with rfl | rfl | rfl | rfl | rfl <;> omega
        exact ⟨Nat.ne_of_gt (Nat.lt_of_lt_of_le l1lt hle), Nat.ne_of_gt (Nat.lt_of_lt_of_le l2lt hle)⟩
      have hle : s1.heap.objs.size ≤ a := by
        simp only [List.mem_cons, List.not_mem_nil, or_false] at ha
        rcases ha with rfl | rfl | rfl | rfl | rfl <;> omega
      exact I1.fpOk hle (I1.hok.fresh hle)
theorem pi_zipB {X : Cx} {b c : Bool} {x y : Expr} {ta : TA} {p pos tpos : Pos} {elts : List Expr} {kk} (hg : Gl X "zip") (hm : X.mg "zip" = none) (ha : PA X [x, y] ta) (hs : starEach [x, y] X.env = [(false, eval x X.env), (false, eval y X.env)] := by rfl) (hs2 : starEach [y] X.env = [(false, eval y X.env)] := by rfl) :
    PI X (.Tuple elts kk tpos) (.Call (.Name "zip" p) [x, y] [] pos) (iZipB b c X.K ta) := by
  intro pins s σ H R I h
  refine thn (eval_zipB (R := fun l1 l2 H1 => R (ItzB b c X.K l1 l2) H1) hg hm ha hs hs2 I h) fun v s1 ⟨z, TI, TO, i1, i2, l1, l2, H1, e, I1, D, st, f, _, q⟩ => ?_
  subst e
  exact wpAny_pyIter_zip st.1 ⟨z, _, _, _, H1, rfl, I1, turn_zipB D, st, f, q⟩
theorem qi_zipB {X : Cx} {b c : Bool} {x y : Expr} {ta : TA} {p pos tpos : Pos} {elts : List Expr} {kk} (hg : Gl X "zip") (hm : X.mg "zip" = none) (ha : QA X [x, y] ta) (hs : starEach [x, y] X.env = [(false, eval x X.env), (false, eval y X.env)] := by rfl) (hs2 : starEach [y] X.env = [(false, eval y X.env)] := by rfl) :
    QI X (.Tuple elts kk tpos) (.Call (.Name "zip" p) [x, y] [] pos) (iZipB b c X.K ta) := ⟨pi_zipB hg hm ha.go hs hs2⟩
theorem for_zipB {K : PySem.W.Frag} {b c : Bool} {l1 l2 : Addr} {xs ys : List V} {g : TG} {tb : TS} {D : Ends} {σ : St} {H : Hp} (Pv : Nat → St → Hp → Prop) (h0 : Pv 0 σ H) (hl : ∀ i σ H, i ≤ xs.length → Pv i σ H → SqB b K H l1 xs ∧ SqB c K H l2 ys) (hxy : xs.length = ys.length)
    (hs : ∀ i x y σ H p, xs[i]? = some x → ys[i]? = some y → Pv i σ H → H p = none → g (.ref p) σ (upd H p (.tup [x, y])) fun σ2 H2 => tb { D with nx := Pv (i + 1), ct := Pv (i + 1), bk := D.nx } σ2 H2) (hd : ∀ σ H, Pv xs.length σ H → D.nx σ H) :
    ∃ W : Nat → Nat → St → Hp → Prop, (∃ m, W 0 m σ H) ∧ ∀ i m σ H, W i m σ H →
      ((ItzB b c K l1 l2).stop i H ∧ D.nx σ H) ∨ ((ItzB b c K l1 l2).go i H ∧ ∃ N : St → Hp → Prop, (∀ σ' H', N σ' H' → ∃ m', m' < m ∧ W (i + 1) m' σ' H') ∧ ∀ x H', (ItzB b c K l1 l2).yld i H x H' → g x σ H' fun σ2 H2 => tb { D with nx := N, ct := N, bk := D.nx } σ2 H2) := by
  refine ⟨fun i m σ H => m = xs.length - i ∧ i ≤ xs.length ∧ Pv i σ H, ⟨xs.length, by simp, Nat.zero_le _, h0⟩, ?_⟩
  rintro i m σ H ⟨rfl, hi, p⟩
  obtain ⟨qa, qb⟩ := hl i σ H hi p
  by_cases hlt : i < xs.length
  · have hlt2 : i < ys.length := by omega
    refine .inr ⟨⟨xs, ys, xs[i], ys[i], qa, qb, by simp [hlt], by simp [hlt2]⟩, Pv (i + 1), fun σ' H' p' => ⟨xs.length - (i + 1), by omega, rfl, hlt, p'⟩, fun x H' y => ?_⟩
    obtain ⟨t, x', y', ht, rfl, rfl, e1, e2⟩ := y
    exact hs i x' y' σ H t (e1 xs qa) (e2 ys qb) p ht
  · have : i = xs.length := by omega
    subst this
    exact .inl ⟨⟨xs, ys, qa, qb, .inl (Nat.le_refl _)⟩, hd σ H p⟩
end L2

namespace L2
open PySem PySem.Spec PyProof.Rows
/-! ### dict(x) -/
theorem mroD : mroOf (.type "dict") = pure [.type "dict", .type "object"] := by rw [mroOf_type]; kernel_rfl
theorem newD : typeLookup (.type "dict") "__new__" = pure (some (.builtin "dict.__new__")) := by rw [typeLookup_type, builtinLookup_eq_fast]; kernel_rfl
theorem calledD : TypeCalled "dict" "dict.__new__" "dict.__init__" :=
  ⟨by decide +kernel, by decide +kernel, ⟨_, _, mroD⟩, madeBy_type mroD newD (by decide +kernel), by decide +kernel, by rw [isSubtype_type]; kernel_rfl, PySem.F.slot_dict_init⟩
theorem typeCallD (a : Value) : checkTypeCall "dict" ⟨[a], []⟩ = pure () := by kernel_rfl
theorem newCallD (a : Value) : checkBuiltinCall "dict.__new__" ⟨[.type "dict", a], []⟩ = pure () := by kernel_rfl
theorem entryD : entryFor table "dict.__new__" = some Builtin.«dict.__new__» := entryFor_of_tree (by kernel_rfl)
theorem subD : isSubtype (.type "dict") (.type "dict") = pure true := by rw [isSubtype_type]; kernel_rfl
theorem meets_newD (a : Value) : Meets (Builtin.«dict.__new__» ⟨[.type "dict", a], []⟩) (fun _ R s => R (.ok (.ret (.ref s.heap.objs.size))) { s with heap := s.heap.push { cls := .type "dict", data := .dict #[] } }) :=
  .of_wp fun prog w A R s h => by
    obtain ⟨hp, g, d, tk, os⟩ := s
    have s1 := subD
    have s2 := mroD
    wp_walk
    exact ⟨_, rfl, h⟩
end L2

namespace L2
open PySem PySem.Spec PyProof.Rows
theorem zip_noga : typeLookup (.type "zip") "__getattr__" = pure none := by rw [typeLookup_type, builtinLookup_eq_fast]; kernel_rfl
theorem zip_nokeys : typeLookup (.type "zip") "keys" = pure none := by rw [typeLookup_type, builtinLookup_eq_fast]; kernel_rfl
theorem zip_ga : entryFor table "zip.__getattribute__" = some Builtin.«object.__getattribute__» :=
  entryFor_alias (id' := "object.__getattribute__") (by kernel_rfl) (by first | rfl | decide +kernel | (unfold String.splitOn; simp +decide [String.splitOnAux])) (by decide +kernel) (by kernel_rfl)
theorem meets_zip_miss (z TI TO : Addr) (f0 : Value) (u : Tok) :
    Meets (Builtin.«object.__getattribute__» ⟨[.ref z, .str "keys" u], []⟩) (fun A R s => IsZip s.heap z TI TO f0 ∧ raisesAttr (.ref z) "keys" A R s) :=
  Meets.of_wp fun prog w A R s hs => by
    obtain ⟨hp, g, d, tk, os⟩ := s
    obtain ⟨hx, hs⟩ := hs
    have hT : (⟨hp, g, d, tk, os⟩ : Shared).TypeIs (.ref z) "zip" := ⟨_, hx, rfl⟩
    have nk := zip_nokeys
    unfold Builtin.«object.__getattribute__»
    repeat (any_goals (first | assumption | wp_step))
    exact wpAny_raiseAttrError hs.1 hs.2 (attrMsg_fits (by decide +kernel) (by decide))
theorem zip_keys {prog : Program} {w : World} {A : Around} {E : Value → Shared → Prop} {s : Shared} {z TI TO : Addr} {f0 : Value} {Q : Option Value → Shared → Prop} (hz : IsZip s.heap z TI TO f0) (hA : A.handled = none)
    (k : ∀ h' tk, (∀ b o, s.heap.get? b = some o → h'.get? b = some o) → Q none { s with heap := h', toks := tk }) : wpAny (model prog w) A (getAttr? (.ref z) "keys") Q E s := by
  obtain ⟨hp, g, d, tk, os⟩ := s
  have hT : ∀ tk', (⟨hp, g, d, tk', os⟩ : Shared).TypeIs (.ref z) "zip" := fun _ => ⟨_, hz, rfl⟩
  have f1 := sub_AttributeError
  have f3 := PySem.F.slot_zip_getattribute.lookup
  have f4 := PySem.F.slot_zip_getattribute.bind (.ref z)
  have f5 := zip_noga
  unfold getAttr? getAttrBy? getAttrBy
  repeat (any_goals (first | assumption | exact hT _ | ((with_reducible show wpAny _ _ (call (Value.builtin "zip.__getattribute__") _ _) _ _ _); refine call_meets PySem.F.slot_zip_getattribute (hT _) zip_ga (PySem.F.args_zip_getattribute_2 _ _) (meets_zip_miss z TI TO f0 _) ⟨hz, hA, fun h' tk' e hx' => ?_⟩) | wp_step))
  obtain ⟨t', u', he⟩ := hx'.there
  show wpAny _ _ (getattributeRaised _ _ _ _ _ _ _) _ _ _
  unfold getattributeRaised
  repeat (any_goals (first | assumption | wp_step))
  exact k h' tk' hx'.keeps
/-- a type's call: its __init__ may speak of the model -/
theorem callType_in {prog : Program} {w : World} {A : Around} {E : Value → Shared → Prop} {s : Shared} {T newId initId : String} {Bn Bi : Builtin} {args : List Value} {S : PySem.Spec} {Q Q₁ : Value → Shared → Prop} (ft : TypeCalled T newId initId)
    (c1 : checkTypeCall T ⟨args, []⟩ = pure ()) (c2 : checkBuiltinCall newId ⟨.type T :: args, []⟩ = pure ()) (n1 : entryFor table newId = some Bn) (n2 : entryFor table initId = some Bi) (g : Meets (Bn ⟨.type T :: args, []⟩) S) (h : S A.in1 (wants Q₁ E) s)
    (nx : ∀ obj s₁, Q₁ obj s₁ → s₁.TypeIs obj T ∧ argsOk initId ⟨obj :: args, []⟩ ∧ ∃ Si, MeetsIn prog w (Bi ⟨obj :: args, []⟩) Si ∧ Si A.in1 (wants (fun r s₂ => r = .none ∧ Q obj s₂) E) s₁) :
    wpAny (model prog w) A (call (.type T) args) Q E s := by
  obtain ⟨c, tl, m1⟩ := ft.mro
  have m2 := ft.made
  have m3 := ft.sub
  refine wpAny_call (codeAny_of_tree (?_))
  show wpAny _ _ (callAny (.type T) ⟨args, []⟩) _ _ _
  refine wpAny_pure ⟨Code.quiet_builtin _ (by decide +kernel), codeAny_builtin F.entry_type_call (?_)⟩
  rw [Around.under_plain (weight_type_call_type T args []) (units_type_call_type T args [])]
  have m4 := ft.notType
  have m5 := ft.canCreate
  repeat (any_goals (first | assumption | wp_step))
  refine codeAny_mono (codeAny_call_builtin ft.plain n1 (wpAny_of_eq c2 (g prog w A.in1 _ s h))) fun r s1 y => ?_
  cases r with
  | error e => exact y
  | ok fl =>
    cases fl with
    | ret obj =>
      obtain ⟨hT, ok, Si, gi, z⟩ := nx _ _ y
      have m6 := ft.init.lookup
      have m7 := ft.init.bind obj
      repeat (any_goals (first | assumption | wp_step))
      refine codeAny_mono (codeAny_call_builtin ft.init.plain n2 (ft.init.check _ _ _ _ _ _ _ _ hT ok (gi A.in1 _ s1 z))) fun r2 s2 y2 => ?_
      cases r2 with
      | error e => exact y2
      | ok fl2 =>
        cases fl2 with
        | ret r =>
          obtain ⟨rfl, q⟩ := y2
          repeat (any_goals (first | assumption | wp_step))
        | _ => exact y2.elim
    | _ => exact y.elim
/-- dict(x): the empty dict, filled -/
theorem call_dict1 {prog : Program} {w : World} {A : Around} {E : Value → Shared → Prop} {s : Shared} {x : Value} {Q : Value → Shared → Prop} {Si : PySem.Spec} (g : MeetsIn prog w (Builtin.«dict.__init__» ⟨[.ref s.heap.objs.size, x], []⟩) Si)
    (h : Si A.in1 (wants (fun r s2 => r = .none ∧ Q (.ref s.heap.objs.size) s2) E) { s with heap := s.heap.push { cls := .type "dict", data := .dict #[] } }) : wpAny (model prog w) A (call (.type "dict") [x]) Q E s := by
  refine callType_in (Q₁ := fun obj s1 => obj = .ref s.heap.objs.size ∧ s1 = { s with heap := s.heap.push { cls := .type "dict", data := .dict #[] } }) calledD (typeCallD x) (newCallD x) entryD PySem.F.entry_dict_init (meets_newD x) ⟨rfl, rfl⟩ fun obj s1 y => ?_
  obtain ⟨rfl, rfl⟩ := y
  exact ⟨⟨_, Heap.get?_push_size _ rfl, rfl⟩, PySem.F.args_dict_init_2 _ _, Si, g, h⟩
/-- dict(d) -/
theorem meets_initD {prog : Program} {w : World} {κ : Type} [DecidableEq κ] (knd : KeyKind prog w κ) (d o : Addr) (ne : d ≠ o) (hS : (o == sysModules) = false) :
    MeetsIn prog w (Builtin.«dict.__init__» ⟨[.ref d, .ref o], []⟩) (fun _ R s => ∃ kvs more, s.heap.DictOf knd d kvs ∧ s.heap.DictOf knd o more ∧ kvs.length + more.length ≤ sizeLine ∧
      ∀ h', h'.DictOf knd d (merged kvs more) → Heap.SameBut d s.heap h' → R (.ok (.ret .none)) { s with heap := h' }) :=
  .of_wp fun A R s ⟨kvs, more, hd, ho, hz, k⟩ => by
    delta Builtin.«dict.__init__»
    refine wpAny_bind ?_
    delta Builtin.Dict.selfAndRest
    refine wpAny_bind (wpAny_notOrdered_dict hd.typeIs (?_))
    show wpAny _ _ (pure (d, [Value.ref o])) _ _ s
    refine wpAny_pure ?_
    show wpAny _ _ (Builtin.Dict.updateFrom "dict.__init__" d (.ref o) [] .none) _ _ s
    delta Builtin.Dict.updateFrom
    refine wpAny_bind (wpAny_typeOf ho.typeIs (?_))
    rw [if_neg (by decide)]
    refine wpAny_bind ?_
    delta Builtin.Dict.merge
    refine wpAny_bind ?_
    delta Builtin.Dict.readDirectly
    refine wpAny_bind (wpAny_isInstance ho.typeIs isSubtype_dict_dict (?_))
    simp only [Bool.not_true, if_false, Bool.false_eq_true]
    refine wpAny_bind (wpAny_specialOf ho.typeIs PySem.F.slot_dict_iter.lookup (wpAny_pure (?_)))
    simp only [if_true, beq_self_eq_true]
    refine wpAny_bind (wpAny_pure (wpAny_mergeDict (hsz := hz) ne hS hd ho fun h' hd' ho' hs' => ?_))
    show wpAny _ _ (Builtin.Dict.addKeywords d [] >>= fun _ => _) _ _ _
    exact wpAny_bind (wpAny_pure (wpAny_pure ⟨.none, rfl, k h' hd' hs'⟩))
end L2

namespace L2
open PySem PySem.Spec PyProof.Rows
/-! ### a zip whose last tuple is still there -/
abbrev IsZipT (h : Heap) (z TI TO T : Addr) (f : Bool) : Prop :=
  h.get? z = some { cls := .type "zip", dict := none, data := .fields #[rawInt T, .bool f, .bool false, .ref TI, .ref TO], slots := #[] }
section
variable {prog : Program} {w : World} {A : Around} {E : Value → Shared → Prop} {s : Shared}
theorem loadAlive {a : Addr} {Q : Option Obj → Shared → Prop} (h : Q (s.heap.get? a) s) : wpAny (model prog w) A (loadIfAlive a) Q E s := fun _ _ _ => h
theorem free_no {f : Bool} {z TI TO T : Addr} {oT : Obj} {Q : Bool → Shared → Prop} (hz : IsZipT s.heap z TI TO T f) (hT : s.heap.get? T = some oT)
    (k : ∀ h', IsZipT h' z TI TO T true → Heap.SameBut z s.heap h' → Q false { s with heap := h' }) : wpAny (model prog w) A (Builtin.SmallTypes.ownedTupleIsFree (.ref z)) Q E s := by
  delta Builtin.SmallTypes.ownedTupleIsFree
  refine wpAny_bind (wpAny_field hz rfl (x := rawInt T) rfl ?_)
  show wpAny _ _ (loadIfAlive (Int.toNat (T : Int)) >>= fun _ => _) _ _ _
  rw [Int.toNat_natCast]
  refine wpAny_bind (loadAlive ?_)
  rw [hT]
  show wpAny _ _ (if (some oT).isNone = true then _ else (field (.ref z) 1 >>= fun _ => _)) _ _ _
  rw [if_neg (by simp)]
  refine wpAny_bind (wpAny_field hz rfl (x := .bool f) rfl ?_)
  cases f
  · show wpAny _ _ (setField (.ref z) 1 (.bool true) >>= fun _ => _) _ _ _
    exact wpAny_bind (wpAny_setField_rec hz (by simp) fun h' z' sb => wpAny_pure (k h' z' sb))
  · exact wpAny_pure (k s.heap hz (Heap.SameBut.refl _ _))
theorem zipT_item {b c f : Bool} {z TI TO T i1 i2 l1 l2 : Addr} {n1 n2 : Nat} {xs ys : Array Value} {x y : Value} {oT : Obj} {Q : Option Value → Shared → Prop} (D : ZipApart z TI TO i1 i2 l1 l2)
    (hz : IsZipT s.heap z TI TO T f) (hT : s.heap.get? T = some oT) (hI : IsPair s.heap TI (.ref i1) (.ref i2)) (u1 : SI b s.heap i1 l1 n1) (u2 : SI c s.heap i2 l2 n2) (q1 : SQ b s.heap l1 xs) (q2 : SQ c s.heap l2 ys) (hx : xs[n1]? = some x) (hy : ys[n2]? = some y)
    (k : ∀ h', IsZipT h' z TI TO T true → SI b h' i1 l1 (n1 + 1) → SI c h' i2 l2 (n2 + 1) → IsPair h' s.heap.objs.size x y → h'.objs.size = s.heap.objs.size + 1 →
      (∀ a o, a ≠ z → a ≠ i1 → a ≠ i2 → s.heap.get? a = some o → h'.get? a = some o) → Q (some (.ref s.heap.objs.size)) { s with heap := h' }) : wpAny (model prog w) A (pyNext (.ref z)) Q E s := by
  have ty : s.TypeIs (.ref z) "zip" := ⟨_, hz, rfl⟩
  unfold pyNext
  refine wpAny_bind (wpAny_attempt (wpAny_callSpecial?_slot (name := Str.ofString "__next__") ty F.slot_zip_next (wpAny_call_entry F.slot_zip_next ty F.entry_zip_next ?_ (F.args_zip_next_1 _))))
  show wpAny _ _ (field (.ref z) 2 >>= fun _ => _) _ _ _
  refine wpAny_bind (wpAny_field hz rfl (x := .bool false) rfl ?_)
  show wpAny _ _ (field (.ref z) 3 >>= fun _ => _) _ _ _
  refine wpAny_bind (wpAny_field hz rfl (x := .ref TI) rfl (wpAny_bind (wpAny_seqItems hI rfl ?_)))
  show wpAny _ _ (Builtin.SmallTypes.ownedTupleIsFree (.ref z) >>= fun _ => _) _ _ _
  refine wpAny_bind ?_
  refine free_no hz hT fun h1 z1 s1 => ?_
  simp only [Bool.false_eq_true, if_false, List.forIn_toArray, List.forIn_cons, List.forIn_nil]
  refine wpAny_bind (wpAny_bind (wpAny_bind (wpAny_holding ?_)))
  show wpAny _ _ (Builtin.SmallTypes.nextOf (.ref i1) >>= fun _ => _) _ _ _
  refine wpAny_bind (nextOf_item (u1.at fun o e => s1.extBut _ o D.i1z e) (q1.at fun o e => s1.extBut _ o D.l1z e) hx fun h2 v1 s2 => wpAny_pure (wpAny_pure ?_))
  have up2 : ∀ a o, a ≠ z → a ≠ i1 → s.heap.get? a = some o → h2.get? a = some o := fun a o a1 a2 e => s2.extBut _ o a2 (s1.extBut _ o a1 e)
  refine wpAny_bind (wpAny_bind (wpAny_holding ?_))
  show wpAny _ _ (Builtin.SmallTypes.nextOf (.ref i2) >>= fun _ => _) _ _ _
  refine wpAny_bind (nextOf_item (u2.at fun o e => up2 _ o D.i2z D.i12.symm e) (q2.at fun o e => up2 _ o D.l2z D.l2i1 e) hy fun h3 v2 s3 => wpAny_pure (wpAny_pure (wpAny_pure ?_)))
  show wpAny _ _ (newTuple [x, y] >>= fun _ => _) _ _ _
  refine wpAny_bind (wpAny_newTuple (?_))
  have sz : h3.objs.size = s.heap.objs.size := by rw [s3.1, s2.1, s1.1]
  have up3 : ∀ a o, a ≠ z → a ≠ i1 → a ≠ i2 → s.heap.get? a = some o → h3.get? a = some o := fun a o a1 a2 a3 e => s3.extBut _ o a3 (up2 a o a1 a2 e)
  have z3 : IsZipT h3 z TI TO T true := s3.extBut _ _ D.i2z.symm (s2.extBut _ _ D.i1z.symm z1)
  refine wpAny_pure ⟨_, rfl, wpAny_pure ?_⟩
  show Q (some (.ref h3.objs.size)) _
  rw [sz]
  refine k _ (Heap.get?_push_of_some _ z3) (v1.at fun o e => Heap.get?_push_of_some _ (s3.extBut _ o D.i12 e)) (v2.at fun o e => Heap.get?_push_of_some _ e) ?_ (by rw [Heap.size_push, sz]) fun a o a1 a2 a3 e => Heap.get?_push_of_some _ (up3 a o a1 a2 a3 e)
  have := Heap.get?_push_size h3 (o := { cls := .type "tuple", data := .seq #[x, y] }) rfl
  rw [sz] at this
  exact this
theorem zipT_end {b c f : Bool} {z TI TO T i1 i2 l1 l2 : Addr} {n1 n2 : Nat} {xs ys : Array Value} {oT : Obj} {Q : Option Value → Shared → Prop} (hh : A.handled = none) (D : ZipApart z TI TO i1 i2 l1 l2)
    (hz : IsZipT s.heap z TI TO T f) (hT : s.heap.get? T = some oT) (hI : IsPair s.heap TI (.ref i1) (.ref i2)) (u1 : SI b s.heap i1 l1 n1) (u2 : SI c s.heap i2 l2 n2) (q1 : SQ b s.heap l1 xs) (q2 : SQ c s.heap l2 ys) (hend : xs[n1]? = none ∨ ys[n2]? = none)
    (k : ∀ h', (∀ a o, a ≠ z → a ≠ i1 → a ≠ i2 → s.heap.get? a = some o → h'.get? a = some o) → Q none { s with heap := h' }) : wpAny (model prog w) A (pyNext (.ref z)) Q E s := by
  have ty : s.TypeIs (.ref z) "zip" := ⟨_, hz, rfl⟩
  unfold pyNext
  refine wpAny_bind (wpAny_attempt (wpAny_callSpecial?_slot (name := Str.ofString "__next__") ty F.slot_zip_next (wpAny_call_entry F.slot_zip_next ty F.entry_zip_next ?_ (F.args_zip_next_1 _))))
  show wpAny _ _ (field (.ref z) 2 >>= fun _ => _) _ _ _
  refine wpAny_bind (wpAny_field hz rfl (x := .bool false) rfl ?_)
  show wpAny _ _ (field (.ref z) 3 >>= fun _ => _) _ _ _
  refine wpAny_bind (wpAny_field hz rfl (x := .ref TI) rfl (wpAny_bind (wpAny_seqItems hI rfl ?_)))
  show wpAny _ _ (Builtin.SmallTypes.ownedTupleIsFree (.ref z) >>= fun _ => _) _ _ _
  refine wpAny_bind ?_
  refine free_no hz hT fun h1 z1 s1 => ?_
  simp only [Bool.false_eq_true, if_false, List.forIn_toArray, List.forIn_cons, List.forIn_nil]
  refine wpAny_bind (wpAny_bind (wpAny_bind (wpAny_holding ?_)))
  show wpAny _ _ (Builtin.SmallTypes.nextOf (.ref i1) >>= fun _ => _) _ _ _
  cases hx : xs[n1]? with
  | none =>
    refine wpAny_bind (nextOf_end hh (u1.at fun o e => s1.extBut _ o D.i1z e) (q1.at fun o e => s1.extBut _ o D.l1z e) hx fun h2 e s2 he => ?_)
    exact wpAny_bind (wpAny_isInstance (T := "StopIteration") (b := true) he isSubtype_stop (wpAny_pure (k h2 fun a o a1 a2 a3 y => s2 _ o a2 (s1.extBut _ o a1 y))))
  | some x =>
    have hy : ys[n2]? = none := by rcases hend with h | h; rw [hx] at h; cases h; exact h
    refine wpAny_bind (nextOf_item (u1.at fun o e => s1.extBut _ o D.i1z e) (q1.at fun o e => s1.extBut _ o D.l1z e) hx fun h2 v1 s2 => wpAny_pure (wpAny_pure ?_))
    have up2 : ∀ a o, a ≠ z → a ≠ i1 → s.heap.get? a = some o → h2.get? a = some o := fun a o a1 a2 e => s2.extBut _ o a2 (s1.extBut _ o a1 e)
    refine wpAny_bind (wpAny_bind (wpAny_holding ?_))
    show wpAny _ _ (Builtin.SmallTypes.nextOf (.ref i2) >>= fun _ => _) _ _ _
    refine wpAny_bind (nextOf_end hh (u2.at fun o e => up2 _ o D.i2z D.i12.symm e) (q2.at fun o e => up2 _ o D.l2z D.l2i1 e) hy fun h3 e s3 he => ?_)
    exact wpAny_bind (wpAny_isInstance (T := "StopIteration") (b := true) he isSubtype_stop (wpAny_pure (k h3 fun a o a1 a2 a3 y => s3 _ o a3 (up2 a o a1 a2 y))))
end
/-! ### dict(zip(a, b)) -/
theorem entry_updloop : entryFor table "dict.update.loop" = some Builtin.«dict.update.loop» := entryFor_of_tree (by kernel_rfl)
end L2

namespace L2
open PySem PySem.Spec PyProof.Rows
/-- a zip at place i of its two sources -/
structure ZSt (b c : Bool) (d z TI TO i1 i2 l1 l2 : Addr) (i : Nat) (h : Heap) : Prop where
  zip : (IsZip h z TI TO .none ∧ ∃ u v, IsPair h TO u v) ∨ ∃ (T : Addr) (f : Bool) (oT : Obj), IsZipT h z TI TO T f ∧ h.get? T = some oT ∧ T ≠ z ∧ T ≠ i1 ∧ T ≠ i2 ∧ T ≠ d
  ins : IsPair h TI (.ref i1) (.ref i2)
  fst : SI b h i1 l1 i
  snd : SI c h i2 l2 i
theorem plain_updloop : plainId "dict.update.loop" = true := by decide +kernel
section
variable {prog : Program} {w : World} {A : Around} {κ : Type} [DecidableEq κ] {knd : KeyKind prog w κ} {R : Result → Shared → Prop}
theorem upd_loop {b c : Bool} {d z TI TO i1 i2 l1 l2 : Addr} {xs ys : Array Value} {ps : List (κ × Value)} (hh : A.handled = none) (D : ZipApart z TI TO i1 i2 l1 l2) (dn : d ∉ [z, TI, TO, i1, i2, l1, l2])
    (hps : ∀ (j : Nat) (k : κ) (v : Value), ps[j]? = some (k, v) → ∃ x, xs[j]? = some x ∧ ys[j]? = some v ∧ knd.is k x = true) (hend : xs[ps.length]? = none ∨ ys[ps.length]? = none) :
    ∀ (m i : Nat) (s : Shared) (kvs : List (κ × Value)), ps.length - i = m → i ≤ ps.length → ZSt b c d z TI TO i1 i2 l1 l2 i s.heap → s.heap.DictOf knd d kvs → SQ b s.heap l1 xs → SQ c s.heap l2 ys → kvs.length + ps.length ≤ sizeLine + i →
      (∀ h' tk, h'.DictOf knd d (merged kvs (ps.drop i)) → (∀ a o, a ∉ [z, TO, i1, i2, d] → s.heap.get? a = some o → h'.get? a = some o) → R (.ok (.ret .none)) { s with heap := h', toks := tk }) →
      codeAny (model prog w) A (.builtin "dict.update.loop" ⟨[.ref d, .ref z, rawInt i, .none], []⟩) R s := by
  have dz : d ≠ z := fun e => dn (by simp [e])
  have dTI : d ≠ TI := fun e => dn (by simp [e])
  have dTO : d ≠ TO := fun e => dn (by simp [e])
  have di1 : d ≠ i1 := fun e => dn (by simp [e])
  have di2 : d ≠ i2 := fun e => dn (by simp [e])
  have dl1 : d ≠ l1 := fun e => dn (by simp [e])
  have dl2 : d ≠ l2 := fun e => dn (by simp [e])
  intro m
  induction m with
  | zero =>
    intro i s kvs hm hi Z hd q1 q2 hsz k
    have e : i = ps.length := by omega
    subst e
    refine codeAny_builtin entry_updloop ?_
    rw [Around.under_plainId plain_updloop _]
    show wpAny _ A.in1 (pyNext (.ref z) >>= fun _ => _) _ _ s
    have fin : ∀ h', (∀ a o, a ≠ z → a ≠ TO → a ≠ i1 → a ≠ i2 → s.heap.get? a = some o → h'.get? a = some o) →
        wpAny (model prog w) A.in1 (do Builtin.Dict.addKeywords d []; ret .none) (fun fin s' => match fin with | .done f => R (.ok f) s' | .again c' => c'.quiet = true ∧ codeAny (model prog w) A c' R s') (fun e s' => R (.error e) s') { s with heap := h' } := fun h' up => by
      refine wpAny_bind (wpAny_pure (wpAny_pure (k h' s.toks ?_ fun a o ha e => ?_)))
      · rw [List.drop_length]
        obtain ⟨o, es, ep, ho, r⟩ := hd
        exact ⟨o, es, ep, up _ _ dz dTO di1 di2 ho, r⟩
      · simp only [List.mem_cons, List.not_mem_nil, or_false, not_or] at ha
        exact up a o ha.1 ha.2.1 ha.2.2.1 ha.2.2.2.1 e
    rcases Z.zip with ⟨hz, u, v, hO⟩ | ⟨T, f, oT, hz, hT, n1, n2, n3, n4⟩
    · exact wpAny_bind (zipB_end hh D hz Z.ins hO Z.fst Z.snd q1 q2 hend fun h' up => fin h' up)
    · exact wpAny_bind (zipT_end hh D hz hT Z.ins Z.fst Z.snd q1 q2 hend fun h' up => fin h' fun a o a1 _ a3 a4 e => up a o a1 a3 a4 e)
  | succ m ih =>
    intro i s kvs hm hi Z hd q1 q2 hsz k
    have lt : i < ps.length := by omega
    obtain ⟨kk, v, hk⟩ : ∃ kk v, ps[i]? = some (kk, v) := ⟨_, _, List.getElem?_eq_getElem lt⟩
    obtain ⟨x, hx, hy, his⟩ := hps i kk v hk
    refine codeAny_builtin entry_updloop ?_
    rw [Around.under_plainId plain_updloop _]
    show wpAny _ A.in1 (pyNext (.ref z) >>= fun _ => _) _ _ s
    have nT : ∀ {a : Addr} {o : Obj}, s.heap.get? a = some o → s.heap.objs.size ≠ a := fun e => Nat.ne_of_gt (Heap.lt_size e)
    have nz : s.heap.objs.size ≠ z := by
      rcases Z.zip with ⟨hz, _⟩ | ⟨_, _, _, hz, _⟩
      · exact nT hz
      · exact nT hz
    have n1 : s.heap.objs.size ≠ i1 := by obtain ⟨o, e, _⟩ := Z.fst.obj; exact nT e
    have n2 : s.heap.objs.size ≠ i2 := by obtain ⟨o, e, _⟩ := Z.snd.obj; exact nT e
    have nd : s.heap.objs.size ≠ d := by obtain ⟨o, es, ep, e, _⟩ := id hd; exact nT e
    have step : ∀ h', (IsZipT h' z TI TO s.heap.objs.size false ∨ ∃ (T : Addr) (oT : Obj), IsZipT h' z TI TO T true ∧ h'.get? T = some oT ∧ T ≠ z ∧ T ≠ i1 ∧ T ≠ i2 ∧ T ≠ d) → SI b h' i1 l1 (i + 1) → SI c h' i2 l2 (i + 1) → IsPair h' s.heap.objs.size x v →
        (∀ a o, a ≠ z → a ≠ TO → a ≠ i1 → a ≠ i2 → s.heap.get? a = some o → h'.get? a = some o) →
        wpAny (model prog w) A.in1 (do
          holding [.ref s.heap.objs.size] do
            let pair ← (Builtin.Dict.pairItems (.ref s.heap.objs.size)).tryCatch fun e => do
              if !(← isInstance e (.type "TypeError")) then throw e
              rule "dict.update.element-no-sequence"
              raiseError "TypeError" s!"cannot convert dictionary update sequence element #{(i : Int)} to a sequence"
            match pair with
            | [k, v] => holding [k, v] (dictSet d k v)
            | l =>
              rule "dict.update.element-length"
              raiseError "ValueError" s!"dictionary update sequence element #{(i : Int)} has length {l.length}; 2 is required"
          again (.builtin "dict.update.loop" ⟨[.ref d, .ref z, rawInt ((i : Int) + 1), .none], []⟩)) (fun fin s' => match fin with | .done f => R (.ok f) s' | .again c' => c'.quiet = true ∧ codeAny (model prog w) A c' R s') (fun e s' => R (.error e) s') { s with heap := h' } := fun h' zz u1 u2 hp up => by
      have hd' : h'.DictOf knd d kvs := by
        obtain ⟨o, es, ep, ho, r⟩ := hd
        exact ⟨o, es, ep, up _ _ dz dTO di1 di2 ho, r⟩
      refine wpAny_bind (wpAny_holding (wpAny_bind (wpAny_tryCatch ?_)))
      delta Builtin.Dict.pairItems
      refine wpAny_bind (wpAny_typeOf (s := { s with heap := h' }) (T := "tuple") ⟨_, hp, rfl⟩ (?_))
      rw [if_pos (by decide)]
      refine wpAny_bind (wpAny_seqItems (s := { s with heap := h' }) hp rfl (wpAny_pure ?_))
      show wpAny _ _ (holding [x, v] (dictSet d x v)) _ _ _
      refine wpAny_holding (wpAny_dictSet_pairs (s := { s with heap := h' }) (hsz := by omega) his hd' fun h2 d2 sb => wpAny_pure ⟨plainId_quiet plain_updloop _, ?_⟩)
      have up2 : ∀ a o, a ≠ d → h'.get? a = some o → h2.get? a = some o := fun a o ha e => sb.extBut a o ha e
      have keep : ∀ a o, a ≠ z → a ≠ TO → a ≠ i1 → a ≠ i2 → a ≠ d → s.heap.get? a = some o → h2.get? a = some o := fun a o a1 a2 a3 a4 a5 e => up2 a o a5 (up a o a1 a2 a3 a4 e)
      have ee : rawInt ((i : Int) + 1) = rawInt ((i + 1 : Nat) : Int) := by simp
      rw [ee]
      refine ih (i + 1) { s with heap := h2, toks := s.toks + 1 } (stored kvs kk v) (by omega) lt ⟨?_, keep _ _ D.TIz D.TITO D.TIi1 D.TIi2 dTI.symm Z.ins, u1.at fun o e => up2 _ o di1.symm e, u2.at fun o e => up2 _ o di2.symm e⟩ d2 (q1.at fun o e => keep _ o D.l1z D.l1TO D.l1i1 D.l1i2 dl1.symm e) (q2.at fun o e => keep _ o D.l2z D.l2TO D.l2i1 D.l2i2 dl2.symm e) ?_ ?_
      · refine .inr ?_
        rcases zz with zz | ⟨T, oT, zz, hT, t1, t2, t3, t4⟩
        · exact ⟨_, false, _, up2 _ _ dz.symm zz, up2 _ _ nd hp, nz, n1, n2, nd⟩
        · exact ⟨T, true, oT, up2 _ _ dz.symm zz, up2 _ _ t4 hT, t1, t2, t3, t4⟩
      · have := stored_length_le kvs kk v
        omega
      · intro h3 tk hm' up3
        refine k h3 tk ?_ fun a o ha e => up3 a o ha ?_
        · have e1 : ps.drop i = (kk, v) :: ps.drop (i + 1) := by
            rw [List.drop_eq_getElem_cons lt]
            rw [List.getElem?_eq_getElem lt] at hk
            rw [Option.some.inj hk]
          rw [e1]
          exact hm'
        · simp only [List.mem_cons, List.not_mem_nil, or_false, not_or] at ha
          exact keep a o ha.1 ha.2.1 ha.2.2.1 ha.2.2.2.1 ha.2.2.2.2 e
    rcases Z.zip with ⟨hz, u, v', hO⟩ | ⟨T, f, oT, hz, hT, m1, m2, m3, m4⟩
    · exact wpAny_bind (zipB_item D hz Z.ins hO Z.fst Z.snd q1 q2 hx hy fun h' z' _ u1 u2 hp _ up => step h' (.inl z') u1 u2 hp up)
    · exact wpAny_bind (zipT_item D hz hT Z.ins Z.fst Z.snd q1 q2 hx hy fun h' z' u1 u2 hp _ up => step h' (.inr ⟨T, oT, z', up _ _ m1 m2 m3 hT, m1, m2, m3, m4⟩) u1 u2 hp fun a o a1 _ a3 a4 e => up a o a1 a3 a4 e)
end
end L2

namespace L2
open PySem PySem.Spec PyProof.Rows
/-- dict(zip): its __init__ -/
theorem meets_initZ {prog : Program} {w : World} {κ : Type} [DecidableEq κ] (knd : KeyKind prog w κ) {b c : Bool} {d z TI TO i1 i2 l1 l2 : Addr} (D : ZipApart z TI TO i1 i2 l1 l2) (dn : d ∉ [z, TI, TO, i1, i2, l1, l2]) :
    MeetsIn prog w (Builtin.«dict.__init__» ⟨[.ref d, .ref z], []⟩) (fun A R s => A.handled = none ∧ ∃ (xs ys : Array Value) (ps : List (κ × Value)), (∀ (j : Nat) (k : κ) (v : Value), ps[j]? = some (k, v) → ∃ x, xs[j]? = some x ∧ ys[j]? = some v ∧ knd.is k x = true) ∧ (xs[ps.length]? = none ∨ ys[ps.length]? = none) ∧
      zBn b c z TI TO i1 i2 l1 l2 0 s.heap ∧ s.heap.DictOf knd d [] ∧ SQ b s.heap l1 xs ∧ SQ c s.heap l2 ys ∧ ps.length ≤ sizeLine ∧
      ∀ h' tk, h'.DictOf knd d (merged [] ps) → (∀ a o, a ∉ [z, TO, i1, i2, d] → s.heap.get? a = some o → h'.get? a = some o) → R (.ok (.ret .none)) { s with heap := h', toks := tk }) :=
  fun A R s ⟨hh, xs, ys, ps, hps, hend, ⟨hz, hI, ⟨u, v, hO⟩, u1, u2⟩, hd, q1, q2, hl, k⟩ => by
    delta Builtin.«dict.__init__»
    refine wpAny_bind ?_
    delta Builtin.Dict.selfAndRest
    refine wpAny_bind (wpAny_notOrdered_dict hd.typeIs (?_))
    show wpAny _ _ (pure (d, [Value.ref z])) _ _ s
    refine wpAny_pure ?_
    show wpAny _ _ (Builtin.Dict.updateFrom "dict.__init__" d (.ref z) [] .none) _ _ s
    delta Builtin.Dict.updateFrom
    refine wpAny_bind (wpAny_typeOf (T := "zip") ⟨_, hz, rfl⟩ (?_))
    rw [if_pos (by decide)]
    refine wpAny_bind (zip_keys hz hh fun h1 tk1 k1 => ?_)
    rw [if_pos (show (none : Option Value).isNone = true from rfl)]
    have at1 : ∀ {a : Addr}, ∀ o, s.heap.get? a = some o → h1.get? a = some o := fun o e => k1 _ o e
    refine wpAny_bind (wpAny_rule (wpAny_bind (wpAny_pyIter_zip (s := { s with heap := h1, toks := tk1 }) (at1 _ hz) (wpAny_pure ⟨plainId_quiet plain_updloop _, ?_⟩))))
    have hd1 : h1.DictOf knd d [] := by
      obtain ⟨o, es, ep, ho, r⟩ := hd
      exact ⟨o, es, ep, at1 _ ho, r⟩
    refine upd_loop (knd := knd) (b := b) (c := c) hh D dn hps hend ps.length 0 { s with heap := h1, toks := tk1 } [] (by simp) (Nat.zero_le _) ⟨.inl ⟨at1 _ hz, u, v, at1 _ hO⟩, at1 _ hI, u1.at at1, u2.at at1⟩ hd1 (q1.at at1) (q2.at at1) (by simpa using hl) fun h' tk hm up => ?_
    refine k h' tk (by simpa using hm) fun a o ha e => up a o ha (at1 _ e)
/-- many records of ours have turned, and one object more has been laid -/
theorem Inv.turnedO {X : Cx} {pins : List (Addr × Obj)} {σ : St} {H : Hp} {s : Shared} {h' : Heap} {t' : Nat} {fp : List Addr} {T : Addr} {ob : HO} (I : Inv X pins σ H s) (f : ∀ b ∈ fp, FpOk X pins H b)
    (k : ∀ b o, b ∉ fp → s.heap.get? b = some o → h'.get? b = some o) (hT : s.heap.objs.size ≤ T) (new : ObjOk X.prog X.w (upd H T ob) h' T ob) : Inv X pins σ (upd H T ob) { s with heap := h', toks := t' } := by
  have hn : H T = none := I.hok.fresh hT
  have nL : X.env.locals ∉ fp := fun z => (f _ z).2.1 rfl
  refine I.step (g' := s.gens) (d' := s.drawn) (ch := fp) (fun b hb => ⟨(f b hb).2.2.2.1, (f b hb).2.1, (f b hb).2.2.2.2.1, (f b hb).2.2.2.2.2⟩) (fun b o _ _ hc e _ => k b o hc e) (fun b o _ _ hc e _ => ⟨o.slots, k b o hc e⟩)
    (fun b o _ e n => by rw [upd_ne (Nat.ne_of_lt (Nat.lt_of_lt_of_le (Heap.lt_size e) hT))]; exact n) (fun b o hc e => ⟨o, k b o hc e⟩)
    (fun b ys e => by rw [upd_ne (ne_of_none e hn)]; exact e) (fun b o u e => by rw [upd_ne (ne_of_none e hn)]; exact e) (fun b ps e => ⟨#[], by rw [upd_ne (ne_of_none e hn), e]; simp⟩) (fun m hm => ?_) (fun b u e => ?_) I.bare
  · obtain ⟨o, es, ep, ho, r⟩ := hm
    exact ⟨o, es, ep, k _ o nL ho, r⟩
  · by_cases hb : b = T
    · subst hb
      rw [upd_same] at e
      cases e
      exact new
    · rw [upd_ne hb] at e
      have nf : ∀ c v, H c = some v → c ∉ fp := fun c v q z => by rw [(f c z).1] at q; cases q
      refine (I.hok b u e).stay (fun c v hc q => k c v ?_ q) (fun c q => by rw [upd_ne (ne_of_none q hn)]; exact q) fun c ys q => by rw [upd_ne (ne_of_none q hn)]; exact q
      rcases hc with z | z
      · rw [z]; exact nf b u e
      · exact nf c _ z
theorem zip_pairs : ∀ {ks : List Key} {ys : List V} {us vs : List Value}, Vals (ks.map kV) us → Vals ys vs → KV (ks.zip ys) (ks.zip vs) ∧ (∀ (P : Program) (w : World) (j : Nat) (k : Key) (v : Value), (ks.zip vs)[j]? = some (k, v) → ∃ x, us[j]? = some x ∧ vs[j]? = some v ∧ (mixKind P w).is k x = true)
  | [], ys, us, vs, r1, r2 => ⟨.nil, fun P w j k v e => by simp at e⟩
  | k :: ks, [], us, vs, r1, r2 => by
    cases r2
    exact ⟨.nil, fun P w j k v e => by simp at e⟩
  | k :: ks, y :: ys, us, vs, r1, r2 => by
    cases r1 with
    | cons h1 t1 =>
      cases r2 with
      | cons h2 t2 =>
        obtain ⟨a, b⟩ := zip_pairs t1 t2
        refine ⟨.cons ⟨rfl, h2⟩ a, fun P w j k' v e => ?_⟩
        cases j with
        | zero =>
          simp at e
          obtain ⟨rfl, rfl⟩ := e
          exact ⟨_, by simp, by simp, kV_is h1⟩
        | succ j =>
          obtain ⟨x, e1, e2, e3⟩ := b P w j k' v (by simpa using e)
          exact ⟨x, by simpa using e1, by simpa using e2, e3⟩
/-- dict(zip(a, b)) -/
def tDZip (b c : Bool) (K : PySem.W.Frag) (ta : TA) : TE := fun σ H Q => ta σ H fun vs H1 => ∃ (l1 l2 : Addr), vs = [.ref l1, .ref l2] ∧ (∃ xs, SqB b K H1 l1 xs) ∧ (∃ ys, SqB c K H1 l2 ys) ∧ ∃ (ks : List Key) (ys : List V), SqB b K H1 l1 (ks.map kV) ∧ SqB c K H1 l2 ys ∧ ∀ d, H1 d = none → Q (.ref d) (upd H1 d (.dK (mergeK [] (ks.zip ys))))
theorem pe_dzip {X : Cx} {b c : Bool} {x y : Expr} {ta : TA} {p pos p' pos' : Pos} (hc : X.calm = true) (hg : Gl X "dict") (hm : X.mg "dict" = none) (hgz : Gl X "zip") (hmz : X.mg "zip" = none) (ha : PA X [x, y] ta)
    (h0 : starEach [.Call (.Name "zip" p') [x, y] [] pos'] X.env = [(false, eval (.Call (.Name "zip" p') [x, y] [] pos') X.env)] := by rfl) (hs : starEach [x, y] X.env = [(false, eval x X.env), (false, eval y X.env)] := by rfl) (hs2 : starEach [y] X.env = [(false, eval y X.env)] := by rfl) :
    PE X (.Call (.Name "dict" p) [.Call (.Name "zip" p') [x, y] [] pos'] [] pos) (tDZip b c X.K ta) := by
  intro pins s σ H Q I h
  refine Call_ (ld_blt I hg hm boot_dict (PyProof.Rows.callWith_type1 ?_ h0 rfl))
  rw [h0]
  refine Calls.spliced_cons ?_
  refine thn (eval_zipB (b := b) (c := c) (R := fun l1 l2 H1 => ∃ (ks : List Key) (ys : List V), SqB b X.K H1 l1 (ks.map kV) ∧ SqB c X.K H1 l2 ys ∧ ∀ d, H1 d = none → Q (.ref d) (upd H1 d (.dK (mergeK [] (ks.zip ys))))) hgz hmz ha hs hs2 I h) fun v s1 ⟨z, TI, TO, i1, i2, l1, l2, H1, e, I1, D, st, f, fl, ks, ys, qa, qb, q⟩ => ?_
  subst e
  refine Calls.spliced_nil ?_
  obtain ⟨us, ra, pa, za⟩ := I1.sq qa
  obtain ⟨vs, rb, pb, zb⟩ := I1.sq qb
  obtain ⟨kvr, prs⟩ := zip_pairs ra rb
  have hh : X.A.handled = none := I1.ok.hd hc
  obtain ⟨hz, hI, ⟨u0, v0, hO⟩, u1, u2⟩ := id st
  have ltOf : ∀ {b : Bool} {l : Addr} {xs : Array Value}, SQ b s1.heap l xs → @LT.lt Nat _ l s1.heap.objs.size := fun {b l xs} q => by
    cases b
    · obtain ⟨o, e, _⟩ := (show s1.heap.IsTuple l xs from q); exact Heap.lt_size e
    · obtain ⟨o, e, _⟩ := (show s1.heap.IsList l xs from q); exact Heap.lt_size e
  have lt1 : @LT.lt Nat _ i1 s1.heap.objs.size := by obtain ⟨o, e, _⟩ := u1.obj; exact Heap.lt_size e
  have lt2 : @LT.lt Nat _ i2 s1.heap.objs.size := by obtain ⟨o, e, _⟩ := u2.obj; exact Heap.lt_size e
  have ltz : @LT.lt Nat _ z s1.heap.objs.size := Heap.lt_size hz
  have ltI : @LT.lt Nat _ TI s1.heap.objs.size := Heap.lt_size hI
  have ltO : @LT.lt Nat _ TO s1.heap.objs.size := Heap.lt_size hO
  have dn : s1.heap.objs.size ∉ [z, TI, TO, i1, i2, l1, l2] := fun hd => by
    have l1t := ltOf pa
    have l2t := ltOf pb
    simp only [List.mem_cons, List.not_mem_nil, or_false] at hd
    have key : ∀ {a : Addr}, @LT.lt Nat _ a s1.heap.objs.size → s1.heap.objs.size ≠ a := fun h => Nat.ne_of_gt h
    rcases hd with hd | hd | hd | hd | hd | hd | hd
    · exact key ltz hd
    · exact key ltI hd
    · exact key ltO hd
    · exact key lt1 hd
    · exact key lt2 hd
    · exact key l1t hd
    · exact key l2t hd
  have up : ∀ {a : Addr}, ∀ o, s1.heap.get? a = some o → (s1.heap.push { cls := .type "dict", data := .dict #[] }).get? a = some o := fun o e => Heap.get?_push_of_some _ e
  have lenr := kvr.length
  have ela : us.length = ks.length := by have := ra.length; simpa using this.symm
  have elb : vs.length = ys.length := rb.length.symm
  have elk : ks.length ≤ sizeLine := by simpa using za
  refine call_dict1 (meets_initZ (mixKind X.prog X.w) (b := b) (c := c) D dn) ⟨hh, us.toArray, vs.toArray, ks.zip vs, fun j k v e => ?_, ?_, ⟨up _ hz, up _ hI, ⟨u0, v0, up _ hO⟩, u1.at up, u2.at up⟩, Heap.DictOf.new _, pa.at up, pb.at up, ?_, fun h' tk hd' k => ⟨rfl, ?_⟩⟩
  · obtain ⟨x, e1, e2, e3⟩ := prs X.prog X.w j k v e
    exact ⟨x, by simpa using e1, by simpa using e2, e3⟩
  · rw [List.length_zip]
    rcases Nat.le_total ks.length vs.length with hl | hl
    · exact .inl (by simp; omega)
    · exact .inr (by simp; omega)
  · rw [List.length_zip]
    exact Nat.le_trans (Nat.min_le_left ..) elk
  · have big : (s1.heap.objs.size == sysModules) = false := beq_eq_false_iff_ne.mpr (Ne.symm (Nat.ne_of_lt I1.big))
    have hml : (mergeK [] (ks.zip ys)).length ≤ sizeLine := by
      have e1 := length_mergeK (ks.zip ys) []
      have e2 : (ks.zip ys).length ≤ ks.length := by rw [List.length_zip]; exact Nat.min_le_left ..
      simp at e1
      omega
    have I2 : Inv X pins σ (upd H1 s1.heap.objs.size (.dK (mergeK [] (ks.zip ys)))) { s1 with heap := h', toks := tk } := by
      refine I1.turnedO (fp := [i1, i2, TI, TO, z]) f (fun a o ha e => k a o (fun hb => ?_) (up _ e)) (Nat.le_refl _) (dk_new hml big (kvr.merge .nil) hd')
      simp only [List.mem_cons, List.not_mem_nil, or_false] at ha hb
      rcases hb with hb | hb | hb | hb | hb
      · exact ha (by simp [hb])
      · exact ha (by simp [hb])
      · exact ha (by simp [hb])
      · exact ha (by simp [hb])
      · exact Nat.ne_of_lt (Heap.lt_size e) hb
    exact ⟨.ref s1.heap.objs.size, _, I2, rfl, q _ (I1.hok.fresh (Nat.le_refl _))⟩
theorem qe_dzip {X : Cx} {b c : Bool} {x y : Expr} {ta : TA} {p pos p' pos' : Pos} (hc : X.calm = true) (hg : Gl X "dict") (hm : X.mg "dict" = none) (hgz : Gl X "zip") (hmz : X.mg "zip" = none) (ha : QA X [x, y] ta)
    (h0 : starEach [.Call (.Name "zip" p') [x, y] [] pos'] X.env = [(false, eval (.Call (.Name "zip" p') [x, y] [] pos') X.env)] := by rfl) (hs : starEach [x, y] X.env = [(false, eval x X.env), (false, eval y X.env)] := by rfl) (hs2 : starEach [y] X.env = [(false, eval y X.env)] := by rfl) :
    QE X (.Call (.Name "dict" p) [.Call (.Name "zip" p') [x, y] [] pos'] [] pos) (tDZip b c X.K ta) := ⟨pe_dzip hc hg hm hgz hmz ha.go h0 hs hs2⟩
/-- dict(d), d a dict: a new one of the same pairs -/
theorem call_dictD {X : Cx} : CallR X (.type "dict") (fun xs H Q => ∃ (a : Addr) (kvs : List (Key × V)), xs = [.ref a] ∧ Rd H a (.dK kvs) ∧ ∀ d, H d = none → Q (.ref d) (upd H d (.dK kvs))) := by
  intro pins s σ H xs us Q I r h
  obtain ⟨a, kvs, rfl, ha, q⟩ := h
  obtain ⟨u, rfl, ru⟩ := vals1 r
  cases ru
  obtain ⟨z, hS, vs, rel, dd⟩ := dk_rd I.hok ha
  have lta : @LT.lt Nat _ a s.heap.objs.size := by obtain ⟨o, es, ep, e, _⟩ := id dd; exact Heap.lt_size e
  have big : (s.heap.objs.size == sysModules) = false := beq_eq_false_iff_ne.mpr (Ne.symm (Nat.ne_of_lt I.big))
  have ddp : (s.heap.push { cls := .type "dict", data := .dict #[] }).DictOf (mixKind X.prog X.w) a vs := by
    obtain ⟨o, es, ep, ho, r⟩ := dd
    exact ⟨o, es, ep, Heap.get?_push_of_some _ ho, r⟩
  have ndv : (vs.map (·.1)).Nodup := by
    obtain ⟨_, _, _, _, _, _, _, _, hn⟩ := ddp
    exact hn
  refine call_dict1 (meets_initD (mixKind X.prog X.w) s.heap.objs.size a (Nat.ne_of_gt lta) hS) ⟨[], vs, Heap.DictOf.new _, ddp, by have := rel.length; simp; omega, fun h' d' sb => ⟨rfl, ?_⟩⟩
  rw [merged_nil_of_nodup vs ndv] at d'
  refine ⟨.ref s.heap.objs.size, _, I.laid (a := s.heap.objs.size) (o := .dK kvs) (t' := s.toks) (fun b o e => ?_) (Nat.le_refl _) (dk_new z big rel d'), rfl, q _ (I.hok.fresh (Nat.le_refl _))⟩
  exact (sb.2 b (Nat.ne_of_lt (Heap.lt_size e))).trans (Heap.get?_push_of_some _ e)
end L2

namespace L2
open PySem PySem.Spec PyProof.Rows
/-! ### tables of the module: dicts of texts -/
structure KTab (K : PySem.W.Frag) (w : World) (a : Addr) (kvs : List (Str × V)) : Prop where
  lk : ∃ es n, K.lookup a = some ⟨.type "dict", none, .dict es n, #[]⟩ ∧ PySem.W.KeysLit w.params es.toList
  lo : (a == sysModules) = false
  at_ : ∀ x v, (x, v) ∈ kvs → ∃ u, RelV v u ∧ PySem.W.nsIn K a x = some (some u)
def tKGet (a : Addr) (kvs : List (Str × V)) (ty : TE) : TE := fun σ H Q => ty σ H fun y H1 => ∃ x v, y = .str x ∧ (x, v) ∈ kvs ∧ Q v H1
def tKIn (a : Addr) (kvs : List (Str × V)) (ty : TE) : TE := fun σ H Q => ty σ H fun y H1 => ∃ x v, y = .str x ∧ (x, v) ∈ kvs ∧ Q (.bl true) H1
section
variable {X : Cx} {x : Str} {a : Addr} {kvs : List (Str × V)} {i : Expr} {ty : TE} {p pos : Pos}
theorem pe_kget (T : KTab X.K X.w a kvs) (hg : Gl X x) (hm : X.mg x = some (.ref a)) (hi : PE X i ty) (hs : NoSl i) (hdb : (x == ("__debug__" : Str)) = false := by decide) : PE X (.Subscript (.Name x p) i pos) (tKGet a kvs ty) := by
  intro pins s σ H Q I h
  refine subD_of PySem.F.slot_dict_getitem.lookup hs (ld_glob I hg hm (thn (hi pins s σ H _ I h) fun iv s2 ⟨y, H2, I2, ry, z, v, ez, hz, q⟩ => ?_) hdb)
  subst ez
  obtain ⟨t, rfl⟩ := (show ∃ t, iv = Value.str z t from ry)
  obtain ⟨es, n, lk, kl⟩ := T.lk
  obtain ⟨u, ru, hu⟩ := T.at_ z v hz
  have hM := PySem.W.mapOf_K (prog := X.prog) I2.kIn lk kl
  exact ⟨hM.typeIs, wpAny_getItem_of (strKind_is X.prog X.w z t) hM (PySem.W.find_K lk hu) ⟨v, H2, I2.tok _, ru, q⟩⟩
theorem pc_kin (T : KTab X.K X.w a kvs) (hg : Gl X x) (hm : X.mg x = some (.ref a)) (hi : PE X i ty) (hdb : (x == ("__debug__" : Str)) = false := by decide) : PC X .In i (.Name x p) (tKIn a kvs ty) := by
  intro pins s σ H Q I h
  refine thn (hi pins s σ H _ I h) fun iv s1 ⟨y, H1, I1, ry, z, v, ez, hz, q⟩ => ld_glob I1 hg hm ?_ hdb
  subst ez
  obtain ⟨t, rfl⟩ := (show ∃ t, iv = Value.str z t from ry)
  obtain ⟨es, n, lk, kl⟩ := T.lk
  obtain ⟨u, ru, hu⟩ := T.at_ z v hz
  refine wpAny_in_of (strKind_is X.prog X.w z t) T.lo (PySem.W.mapOf_K (prog := X.prog) I1.kIn lk kl) ?_
  rw [PySem.W.find_K lk hu]
  exact ⟨.bl true, H1, I1.tok _, rfl, q⟩
theorem qe_kget (T : KTab X.K X.w a kvs) (hg : Gl X x) (hm : X.mg x = some (.ref a)) (hi : QE X i ty) (hs : NoSl i) (hdb : (x == ("__debug__" : Str)) = false := by decide) : QE X (.Subscript (.Name x p) i pos) (tKGet a kvs ty) := ⟨pe_kget T hg hm hi.go hs hdb⟩
end
/-! ### a def of a family, called by a local name -/
def tCallL (i : Nat) (M : Addr → Prop) (R : Addr → Sp) (E : XK) (t : TA) : TE := fun σ H Q => ∃ f, σ[i]? = some (some (.ref f)) ∧ M f ∧ t σ H fun vs H1 => R f vs H1 Q E
theorem pe_callL {X : Cx} {CX : CXT} {E : XK} {k i : Nat} {x : Str} {p pos : Pos} {e : Expr} {es : List Expr} {t : TA} {ps : List Str} {M : Addr → Prop} {R : Addr → Sp} (F : ∀ f, M f → ∃ fd, FnOk X.prog X.w X.K X.mg X.base CX k f fd ps (R f) ∧ PySem.W.keepIn X.K (.ref f) = true ∧ Binds X.K fd ps [])
    (hx : Passes CX X E) (hr : Room k X.A) (hN : X.N[i]? = some x) (hv : Vis X.env.scope x) (ha : PA X (e :: es) t) (hdb : (x == ("__debug__" : Str)) = false := by decide) (hcd : (x == ("__classdict__" : Str)) = false := by decide)
    (he : starEach (e :: es) X.env = (false, eval e X.env) :: starEach es X.env := by rfl) (hpl : (backTo pos (starEach es X.env)).any (·.1) = false := by rfl) : PE X (.Call (.Name x p) (e :: es) [] pos) (tCallL i M R E t) := by
  intro pins s σ H Q I h
  obtain ⟨f, hf, m, h⟩ := h
  obtain ⟨fd, Fo, hk, hb⟩ := F f m
  refine wpAny_Call_Name_kw (thn (pe_var hN hv hdb hcd pins s σ H (fun v H1 => v = .ref f ∧ H1 = H) I ⟨_, hf, rfl, rfl⟩) fun u s1 ⟨v, H1, I1, rv, ev, eH⟩ => ?_)
  subst ev eH
  cases (show u = Value.ref f from rv)
  refine PySem.W.callWith_K (h₀ := X.base) I1.ok.mod.kin hk (thn (ha pos pins s1 σ _ _ I1 h) fun us s2 ⟨vs, H2, I2, r, q⟩ => ⟨I2.kIn, ?_⟩) he hpl
  exact run_fn (dvs := []) (ds := []) Fo hr hb .nil hx I2 r (by simpa using q)
/-! ### things: numbers, texts, tuples of things -/
inductive Th where
  | num (i : Int) | wd (x : Str) | tup (l : List Th)
mutual
def IsTh (H : Hp) : V → Th → Prop
  | v, .num i => v = .int i
  | v, .wd x => v = .str x
  | v, .tup l => ∃ a vs, v = .ref a ∧ H a = some (.tup vs) ∧ IsThL H vs l
def IsThL (H : Hp) : List V → List Th → Prop
  | vs, [] => vs = []
  | vs, t :: r => ∃ v vr, vs = v :: vr ∧ IsTh H v t ∧ IsThL H vr r
end
mutual
theorem IsTh.mono {H H' : Hp} (s : ∀ b xs, H b = some (.tup xs) → H' b = some (.tup xs)) : ∀ {th : Th} {v : V}, IsTh H v th → IsTh H' v th
  | .num i, v, h => h
  | .wd x, v, h => h
  | .tup l, v, h => by
    obtain ⟨a, vs, e, ha, hl⟩ := h
    exact ⟨a, vs, e, s _ _ ha, IsThL.mono s hl⟩
theorem IsThL.mono {H H' : Hp} (s : ∀ b xs, H b = some (.tup xs) → H' b = some (.tup xs)) : ∀ {l : List Th} {vs : List V}, IsThL H vs l → IsThL H' vs l
  | [], vs, h => h
  | t :: r, vs, h => by
    obtain ⟨v, vr, e, h1, h2⟩ := h
    exact ⟨v, vr, e, IsTh.mono s h1, IsThL.mono s h2⟩
end
/-- tuples stay -/
def Tups (H H' : Hp) : Prop := ∀ b xs, H b = some (.tup xs) → H' b = some (.tup xs)
theorem Same.tups {H H' : Hp} (s : Same H H') : Tups H H' := fun b xs h => s b _ h
theorem Tups.trans {H H1 H2 : Hp} (a : Tups H H1) (b : Tups H1 H2) : Tups H H2 := fun c xs h => b c xs (a c xs h)
theorem IsThL.len {H : Hp} : ∀ {l : List Th} {vs : List V}, IsThL H vs l → vs.length = l.length
  | [], vs, h => by rw [show vs = [] from h]; rfl
  | t :: r, vs, h => by
    obtain ⟨v, vr, rfl, _, h2⟩ := h
    simp [IsThL.len h2]
theorem IsThL.get {H : Hp} : ∀ {l : List Th} {vs : List V} {i : Nat} {v : V}, IsThL H vs l → vs[i]? = some v → ∃ t, l[i]? = some t ∧ IsTh H v t
  | [], vs, i, v, h, e => by rw [show vs = [] from h] at e; simp at e
  | t :: r, vs, 0, v, h, e => by
    obtain ⟨v', vr, rfl, h1, _⟩ := h
    simp at e
    subst e
    exact ⟨t, rfl, h1⟩
  | t :: r, vs, i + 1, v, h, e => by
    obtain ⟨v', vr, rfl, _, h2⟩ := h
    obtain ⟨t', e', h'⟩ := IsThL.get h2 (by simpa using e)
    exact ⟨t', by simpa using e', h'⟩
theorem IsThL.at {H : Hp} : ∀ {l : List Th} {vs : List V} {i : Nat} {t : Th}, IsThL H vs l → l[i]? = some t → ∃ v, vs[i]? = some v ∧ IsTh H v t
  | [], vs, i, t, h, e => by simp at e
  | t' :: r, vs, 0, t, h, e => by
    obtain ⟨v', vr, rfl, h1, _⟩ := h
    simp at e
    subst e
    exact ⟨v', rfl, h1⟩
  | t' :: r, vs, i + 1, t, h, e => by
    obtain ⟨v', vr, rfl, _, h2⟩ := h
    obtain ⟨v, e', h'⟩ := IsThL.at (i := i) h2 (by simpa using e)
    exact ⟨v, by simpa using e', h'⟩
theorem IsThL.append {H : Hp} : ∀ {l m : List Th} {vs us : List V}, IsThL H vs l → IsThL H us m → IsThL H (vs ++ us) (l ++ m)
  | [], m, vs, us, h1, h2 => by rw [show vs = [] from h1]; exact h2
  | t :: r, m, vs, us, h1, h2 => by
    obtain ⟨v, vr, rfl, a, b⟩ := h1
    exact ⟨v, vr ++ us, rfl, a, IsThL.append b h2⟩
theorem IsThL.drop {H : Hp} : ∀ {l : List Th} {vs : List V} (n : Nat), IsThL H vs l → IsThL H (vs.drop n) (l.drop n)
  | l, vs, 0, h => h
  | [], vs, n + 1, h => by rw [show vs = [] from h]; rfl
  | t :: r, vs, n + 1, h => by
    obtain ⟨v, vr, rfl, _, b⟩ := h
    exact IsThL.drop n b
theorem IsThL.take {H : Hp} : ∀ {l : List Th} {vs : List V} (n : Nat), IsThL H vs l → IsThL H (vs.take n) (l.take n)
  | l, vs, 0, h => by simp; rfl
  | [], vs, n + 1, h => by rw [show vs = [] from h]; rfl
  | t :: r, vs, n + 1, h => by
    obtain ⟨v, vr, rfl, a, b⟩ := h
    exact ⟨v, vr.take n, rfl, a, IsThL.take n b⟩
/-! ### displays of things -/
def thE (ρ : Str → Option Th) : Nat → Expr → Option Th
  | 0, _ => none
  | _ + 1, .Constant (.int i) _ _ => some (.num i)
  | _ + 1, .Constant (.str x) _ _ => some (.wd x)
  | _ + 1, .Name x _ => ρ x
  | n + 1, .Tuple es _ _ => if es.length ≤ 1000 then (es.mapM (thE ρ n)).map .tup else none
  | _ + 1, _ => none
/-- the variables of ρ hold things -/
def Held (N : List Str) (ρ : Str → Option Th) (σ : St) (H : Hp) : Prop := ∀ x t, ρ x = some t → ∃ (i : Nat) (v : V), N[i]? = some x ∧ σ[i]? = some (some v) ∧ IsTh H v t
def tTh (N : List Str) (ρ : Str → Option Th) (th : Th) : TE := fun σ H Q => Held N ρ σ H ∧ ∀ v H1, Same H H1 → IsTh H1 v th → Q v H1
def tThs (N : List Str) (ρ : Str → Option Th) (l : List Th) : TA := fun σ H Q => Held N ρ σ H ∧ ∀ vs H1, Same H H1 → IsThL H1 vs l → Q vs H1
theorem Held.mono {N : List Str} {ρ : Str → Option Th} {σ : St} {H H' : Hp} (h : Held N ρ σ H) (s : Same H H') : Held N ρ σ H' := fun x t e => by
  obtain ⟨i, v, a, b, c⟩ := h x t e
  exact ⟨i, v, a, b, c.mono s.tups⟩
section
variable {X : Cx}
theorem PE.weak {e : Expr} {t t' : TE} (h : PE X e t) (k : ∀ σ H Q, t' σ H Q → t σ H Q) : PE X e t' := fun pins s σ H Q I q => h pins s σ H Q I (k σ H Q q)
theorem th_star {ρ : Str → Option Th} {n : Nat} {e : Expr} {es : List Expr} {t : Th} (h : thE ρ n e = some t) : starEach (e :: es) X.env = (false, eval e X.env) :: starEach es X.env := by
  cases n with
  | zero => simp [thE] at h
  | succ n => cases e <;> first | rfl | (simp [thE] at h)
theorem pa_ths {ρ : Str → Option Th} {n : Nat} (ih : ∀ e th, thE ρ n e = some th → PE X e (tTh X.N ρ th)) : ∀ (es : List Expr) (l : List Th), es.mapM (thE ρ n) = some l → PA X es (tThs X.N ρ l)
  | [], l, h => by
    have e : l = [] := by simpa using h.symm
    subst e
    exact fun pos pins s σ H Q I q => pa_nil pos pins s σ H Q I (q.2 [] H (Same.refl H) rfl)
  | e :: es, l, h => by
    rw [List.mapM_cons] at h
    obtain ⟨t, ht, h⟩ := Option.bind_eq_some_iff.mp h
    obtain ⟨r, hr, h⟩ := Option.bind_eq_some_iff.mp h
    have e' : l = t :: r := by simpa using h.symm
    subst e'
    have p1 := ih e t ht
    have p2 := pa_ths ih es r hr
    intro pos pins s σ H Q I q
    refine pa_cons p1 p2 (th_star ht) pos pins s σ H Q I ?_
    obtain ⟨hh, q⟩ := q
    refine ⟨hh, fun v H1 s1 i1 => ⟨hh.mono s1, fun vs H2 s2 i2 => q (v :: vs) H2 (s1.trans s2) ⟨v, vs, rfl, i1.mono s2.tups, i2⟩⟩⟩
theorem len_mapM {α β : Type} {f : α → Option β} : ∀ {es : List α} {l : List β}, es.mapM f = some l → l.length = es.length
  | [], l, h => by have e : l = [] := by simpa using h.symm
                   rw [e]; rfl
  | e :: es, l, h => by
    rw [List.mapM_cons] at h
    obtain ⟨t, ht, h⟩ := Option.bind_eq_some_iff.mp h
    obtain ⟨r, hr, h⟩ := Option.bind_eq_some_iff.mp h
    have e' : l = t :: r := by simpa using h.symm
    rw [e']
    simp [len_mapM hr]
theorem pe_th {ρ : Str → Option Th} (hv : ∀ x t, ρ x = some t → Vis X.env.scope x ∧ (x == ("__debug__" : Str)) = false ∧ (x == ("__classdict__" : Str)) = false) : ∀ (n : Nat) (e : Expr) (th : Th), thE ρ n e = some th → PE X e (tTh X.N ρ th)
  | 0, e, th, h => by simp [thE] at h
  | n + 1, e, th, h => by
    cases e with
    | Constant c k p =>
      cases c with
      | int i =>
        have e' : Th.num i = th := by simpa [thE] using h
        subst e'
        exact PE.weak pe_int fun σ H Q q => q.2 (.int i) H (Same.refl H) rfl
      | str x =>
        have e' : Th.wd x = th := by simpa [thE] using h
        subst e'
        exact PE.weak pe_str fun σ H Q q => q.2 (.str x) H (Same.refl H) rfl
      | _ => simp [thE] at h
    | Name x p =>
      have h' : ρ x = some th := by simpa [thE] using h
      obtain ⟨v1, v2, v3⟩ := hv x th h'
      intro pins s σ H Q I q
      obtain ⟨hh, q⟩ := q
      obtain ⟨i, v, a, b, c⟩ := hh x th h'
      exact pe_var a v1 v2 v3 pins s σ H Q I ⟨v, b, q v H (Same.refl H) c⟩
    | Tuple es k p =>
      have h' : (if es.length ≤ 1000 then (es.mapM (thE ρ n)).map Th.tup else none) = some th := by simpa [thE] using h
      by_cases hl : es.length ≤ 1000
      · rw [if_pos hl] at h'
        obtain ⟨l, hm, e'⟩ := Option.map_eq_some_iff.mp h'
        subst e'
        have len := len_mapM hm
        refine PE.weak (pe_tup (pa_ths (fun e th h => pe_th hv n e th h) es l hm)) fun σ H Q q => ?_
        obtain ⟨hh, q⟩ := q
        refine ⟨hh, fun vs H1 s1 i1 => ⟨?_, fun p hp => q (.ref p) _ (s1.upd hp) ⟨p, vs, rfl, upd_same, i1.mono (Same.tups (Same.upd (Same.refl H1) hp))⟩⟩⟩
        rw [i1.len, len]
        exact Nat.le_trans hl (by decide)
      · rw [if_neg hl] at h'
        cases h'
    | _ => simp [thE] at h
theorem qe_th {ρ : Str → Option Th} {n : Nat} {e : Expr} {th : Th} (hv : ∀ x t, ρ x = some t → Vis X.env.scope x ∧ (x == ("__debug__" : Str)) = false ∧ (x == ("__classdict__" : Str)) = false) (h : thE ρ n e = some th) : QE X e (tTh X.N ρ th) := ⟨pe_th hv n e th h⟩
/-- a list of written things -/
def tThL (N : List Str) (ρ : Str → Option Th) (l : List Th) : TE := fun σ H Q => Held N ρ σ H ∧ ∀ vs H1 p, Same H H1 → IsThL H1 vs l → H1 p = none → Q (.ref p) (upd H1 p (.lst vs))
theorem qe_thl {ρ : Str → Option Th} {n : Nat} {es : List Expr} {l : List Th} {pos : Pos} (hv : ∀ x t, ρ x = some t → Vis X.env.scope x ∧ (x == ("__debug__" : Str)) = false ∧ (x == ("__classdict__" : Str)) = false) (h : es.mapM (thE ρ n) = some l) (hl : l.length ≤ 1000) : QE X (.List es pos) (tThL X.N ρ l) :=
  ⟨PE.weak (pe_lst (pa_ths (fun e th h => pe_th hv n e th h) es l h)) fun σ H Q q => ⟨q.1, fun vs H1 s1 i1 => ⟨by rw [i1.len]; exact Nat.le_trans hl (by decide), fun p hp => q.2 vs H1 p s1 i1 hp⟩⟩⟩
end
end L2
namespace L2
open PySem PySem.Spec PyProof.Rows
section
variable {X : Cx} {i o : Expr} {ty td : TE} {pos : Pos}
theorem qe_din (hu : X.A.units + 1 < cLine) (hi : QE X i ty) (ho : QE X o td) (hm : behindInMarks .In o = false := by rfl) : QE X (.Compare i [.In] [o] pos) (tDIn ty td) := ⟨pe_cmp (pc_din hu hi.go ho.go) hm⟩
theorem qt_din (hu : X.A.units + 1 < cLine) (hi : QE X i ty) (ho : QE X o td) (hm : behindInMarks .In o = false := by rfl) : QT X (.Compare i [.In] [o] pos) (tB (tDIn ty td)) := ⟨pt_cmp (pc_din hu hi.go ho.go) hm⟩
theorem qe_dnotin (hu : X.A.units + 1 < cLine) (hi : QE X i ty) (ho : QE X o td) (hm : behindInMarks .NotIn o = false := by rfl) : QE X (.Compare i [.NotIn] [o] pos) (tDNotIn ty td) := ⟨pe_cmp (pc_dnotin hu hi.go ho.go) hm⟩
theorem qe_kin {x : Str} {a : Addr} {kvs : List (Str × V)} {p : Pos} (T : KTab X.K X.w a kvs) (hg : Gl X x) (hm : X.mg x = some (.ref a)) (hi : QE X i ty) (hk : behindInMarks .In (.Name x p) = false := by rfl) (hdb : (x == ("__debug__" : Str)) = false := by decide) : QE X (.Compare i [.In] [.Name x p] pos) (tKIn a kvs ty) := ⟨pe_cmp (pc_kin T hg hm hi.go hdb) hk⟩
end
/-! ### a comprehension over the signs of a text -/
theorem comp_str {z : Str} {D : Addr} {g : TG} {tt : TT} {te : TE} {σ0 : St} {H1 : Hp} {Q : Hp → Prop} (Pv : Nat → List V → St → Hp → Prop) (hx : z.cps.size ≤ sizeLine) (h0 : Pv 0 [] σ0 (upd H1 D (.lst [])))
    (hl : ∀ i ys σ H, i ≤ z.cps.size → Pv i ys σ H → H D = some (.lst ys) ∧ ys.length ≤ i)
    (hs : ∀ (i : Nat) c ys σ H, z.cps[i]? = some c → Pv i ys σ H → g (.str ⟨#[c]⟩) σ H fun σ3 H3 => tt σ3 H3 fun ok H4 => if ok = true then te σ3 H4 fun y H5 => H5 D = some (.lst ys) ∧ Pv (i + 1) (ys ++ [y]) σ3 (upd H5 D (.lst (ys ++ [y]))) else Pv (i + 1) ys σ3 H4)
    (hd : ∀ ys σ H, Pv z.cps.size ys σ H → Q H) :
    ∃ W : Nat → Nat → St → Hp → Prop, (∃ m, W 0 m σ0 (upd H1 D (.lst []))) ∧ ∀ i m σ' H', W i m σ' H' →
      ((Its z).stop i H' ∧ Q H') ∨ ((Its z).go i H' ∧ ∃ (Ay : V → St → Hp → Prop) (An : St → Hp → Prop), (∀ y σ3 H5, Ay y σ3 H5 → ∃ ys, H5 D = some (.lst ys) ∧ ys.length < sizeLine ∧ ∃ m', m' < m ∧ W (i + 1) m' σ3 (upd H5 D (.lst (ys ++ [y])))) ∧
        (∀ σ3 H4, An σ3 H4 → ∃ m', m' < m ∧ W (i + 1) m' σ3 H4) ∧
        ∀ x H2, (Its z).yld i H' x H2 → g x σ' H2 fun σ3 H3 => tt σ3 H3 fun ok H4 => if ok = true then te σ3 H4 (fun y H5 => Ay y σ3 H5) else An σ3 H4) := by
  refine ⟨fun i m σ H => m = z.cps.size - i ∧ i ≤ z.cps.size ∧ ∃ ys, Pv i ys σ H, ⟨z.cps.size, by simp, Nat.zero_le _, [], h0⟩, ?_⟩
  rintro i m σ H ⟨rfl, hi, ys, p⟩
  obtain ⟨hy, hyl⟩ := hl i ys σ H hi p
  by_cases hlt : i < z.cps.size
  · refine .inr ⟨hlt, fun y σ3 H5 => H5 D = some (.lst ys) ∧ Pv (i + 1) (ys ++ [y]) σ3 (upd H5 D (.lst (ys ++ [y]))), fun σ3 H4 => Pv (i + 1) ys σ3 H4,
      fun y σ3 H5 ⟨e, p'⟩ => ⟨ys, e, by omega, z.cps.size - (i + 1), by omega, rfl, hlt, _, p'⟩, fun σ3 H4 p' => ⟨z.cps.size - (i + 1), by omega, rfl, hlt, _, p'⟩, fun x H' y => ?_⟩
    obtain ⟨e, c, hc, ex⟩ := y
    subst e
    subst ex
    exact hs i c ys σ H' hc p
  · have : i = z.cps.size := by omega
    subst this
    exact .inl ⟨Nat.le_refl _, hd ys σ H p⟩
end L2
namespace L2
open PySem PySem.Spec PyProof.Rows
section
variable {X : Cx} {i o value e : Expr} {ty td tv ta : TE} {pos pos' p : Pos} {f : Str}
theorem qe_dnewK : QE X (.Dict [] [] pos) tDNewK := ⟨pe_dnewK⟩
theorem qs_dput (hu : X.A.units + 1 < cLine) (ho : QE X o td) (hi : QE X i ty) (hv : QE X value tv) (hs : swapsWith value (some (.Subscript o i pos')) pos.line X.env = pure false) : QS X (.Assign [.Subscript o i pos'] value pos) (sDPut td ty tv) := ⟨ps_dput hu ho.go hi.go hv.go hs⟩
theorem qe_fld (he : QE X e ta) (hb : attributeBase e f X.env (eval e X.env) = eval e X.env) : QE X (.Attribute e f pos) (tFld X.K ta f) := ⟨pe_fld he.go hb⟩
theorem qs_fld (ha : QE X o ta) (hv : QE X value tv) (hs : swapsWith value (some (.Attribute o f pos')) pos.line X.env = pure false) : QS X (.Assign [.Attribute o f pos'] value pos) (sFld X.K ta tv f) := ⟨ps_fld ha.go hv.go hs⟩
theorem qe_make {CX : CXT} {k : Nat} {x : Str} {C g : Addr} {fd : FuncData} {ps : List Str} {sp : Sp} {dvs : List V} {ds : List Value} {E : XK} {es : List Expr} {t : TA} (M : Mk X.K C g) (F : FnOk X.prog X.w X.K X.mg X.base CX k g fd ps sp) (hr : Room (k + 1) X.A) (hg : Gl X x) (hm : X.mg x = some (.ref C)) (hb : Binds X.K fd ps ds) (hd : Vals dvs ds) (hx : Passes CX X E)
    (ha : QA X (e :: es) t) (hdb : (x == ("__debug__" : Str)) = false := by decide) (he : starEach (e :: es) X.env = (false, eval e X.env) :: starEach es X.env := by rfl) (hpl : (backTo pos (starEach es X.env)).any (·.1) = false := by rfl) : QE X (.Call (.Name x p) (e :: es) [] pos) (tMake C sp dvs E t) := ⟨pe_make M F hr hg hm hb hd hx ha.go hdb he hpl⟩
end
end L2
namespace L2
open PySem PySem.Spec PyProof.Rows
/-! ### the same, the defs told apart by a text -/
def tCallH (i : Nat) (M : Str → Addr → Prop) (R : Str → Sp) (E : XK) (t : TA) : TE := fun σ H Q => ∃ h f, σ[i]? = some (some (.ref f)) ∧ M h f ∧ t σ H fun vs H1 => R h vs H1 Q E
theorem qe_callH {X : Cx} {CX : CXT} {E : XK} {k i : Nat} {x : Str} {p pos : Pos} {e : Expr} {es : List Expr} {t : TA} {ps : List Str} {M : Str → Addr → Prop} {R : Str → Sp} (F : ∀ h f, M h f → ∃ fd, FnOk X.prog X.w X.K X.mg X.base CX k f fd ps (R h) ∧ PySem.W.keepIn X.K (.ref f) = true ∧ Binds X.K fd ps [])
    (hx : Passes CX X E) (hr : Room k X.A) (hN : X.N[i]? = some x) (hv : Vis X.env.scope x) (ha : QA X (e :: es) t) (hdb : (x == ("__debug__" : Str)) = false := by decide) (hcd : (x == ("__classdict__" : Str)) = false := by decide)
    (he : starEach (e :: es) X.env = (false, eval e X.env) :: starEach es X.env := by rfl) (hpl : (backTo pos (starEach es X.env)).any (·.1) = false := by rfl) : QE X (.Call (.Name x p) (e :: es) [] pos) (tCallH i M R E t) := by
  refine ⟨fun pins s σ H Q I h => ?_⟩
  obtain ⟨g, f, hf, m, h⟩ := h
  exact pe_callL (M := fun b => b = f) (R := fun _ => R g) (fun b hb => by subst hb; exact F g _ m) hx hr hN hv ha.go hdb hcd he hpl pins s σ H Q I ⟨f, hf, rfl, h⟩
end L2

namespace K08
open PySem PySem.Spec PyProof.Rows L2
def top (i : Nat) : Stmt := PySem.Challenge.pw_passpapers_k08_heads_and_ends.main.body.getD i (.Pass ⟨0, 0, 0, 0⟩)
abbrev sIsNumber : Stmt := top 10
abbrev sIsOfLanguage : Stmt := top 11
abbrev sFirstAgain : Stmt := top 14
abbrev sAllUnlike : Stmt := top 15
abbrev sIsWord : Stmt := top 17
abbrev sWant : Stmt := top 25
abbrev sIsName : Stmt := top 26
abbrev sIsHeaded : Stmt := top 27
abbrev sLookAtTree : Stmt := top 28
abbrev sLookAtRecord : Stmt := top 29
abbrev sIsKind : Stmt := top 30
abbrev sLookAtHead : Stmt := top 31
abbrev sLookAtMain : Stmt := top 32
abbrev sLookAtBody : Stmt := top 33
abbrev sLookAtStatements : Stmt := top 34
abbrev sLookAtLet : Stmt := top 35
abbrev sLookAtIf : Stmt := top 37
abbrev sLookAtWhile : Stmt := top 38
abbrev sLookAtGive : Stmt := top 39
abbrev sLookAtFail : Stmt := top 40
abbrev sLookAtKnown : Stmt := top 42
abbrev sLookAtDo : Stmt := top 43
abbrev sKindLooked : Stmt := top 45
abbrev sKindOfParts : Stmt := top 46
abbrev sLookAtParts : Stmt := top 47
abbrev sLawCell : Stmt := top 50
abbrev sLawKinds : Stmt := top 53
abbrev sLawRefused : Stmt := top 54
abbrev sLawRecords : Stmt := top 55
abbrev sLawFunctions : Stmt := top 56
abbrev sLawEnds : Stmt := top 57
abbrev sLawMains : Stmt := top 58
abbrev sLawTree : Stmt := top 59
abbrev sLaw : Stmt := top 60
abbrev sLookInit : Stmt := inClass (top 24) 0
structure Txt0 (K : PySem.W.Frag) (mg : Str → Option Value) (t1 t2 t3 t4 : Tok) : Prop where
  g_LEAST : mg "LEAST" = some (.int (-32768) t1)
  g_MOST : mg "MOST" = some (.int 32767 t2)
  g_MOST_FIELDS : mg "MOST_FIELDS" = some (.int 4 t3)
  g_MOST_VARIABLES : mg "MOST_VARIABLES" = some (.int 4 t4)
  n_len : mg "len" = none
  n_isinstance : mg "isinstance" = none
  n_int : mg "int" = none
  n_bool : mg "bool" = none
  n_str : mg "str" = none
  n_tuple : mg "tuple" = none
  n_all : mg "all" = none
  n_enumerate : mg "enumerate" = none
  n_dict : mg "dict" = none
  n_zip : mg "zip" = none
  n_VE : mg "ValueError" = none
structure TxX (K : PySem.W.Frag) (mg : Str → Option Value) (cP cT cR cM cA cS : Addr) : Prop where
  g_P : mg "PassError" = some (.ref cP)
  g_T : mg "NoText" = some (.ref cT)
  g_R : mg "NoTree" = some (.ref cR)
  g_M : mg "NoMiddle" = some (.ref cM)
  g_A : mg "NoMachine" = some (.ref cA)
  g_S : mg "NoPass" = some (.ref cS)
  ex : PySem.W.excIn K cR [.type "ValueError", .type "Exception", .type "BaseException", .type "object"] "ValueError.__new__" = true
  xc : XCls K cR
  mt : PySem.W.exmOne K (.ref cR) (.ref cP) = some true
  i3 : PySem.W.kitAny K (.ref cR) [.ref cA, .ref cM, .ref cS] = some false
  iT : PySem.W.kitOne K (.ref cR) (.ref cT) = some false
  iR : PySem.W.kitOne K (.ref cR) (.ref cR) = some true
  iV : PySem.W.kitOne K (.ref cR) (.type "ValueError") = some true
/-! ### words -/
def sgn (c : Nat) : Bool := decide (97 ≤ c) && decide (c ≤ 122)
def wordS (x : Str) : Bool := decide (1 ≤ x.length) && decide (x.length ≤ 8) && x.cps.toList.all sgn
def asc (x : Str) : Bool := x.cps.all (· < 128) && decide (x.length ≤ 1000)
def nameS (x : Str) : Bool := wordS x && !(decide (x = "yes") || decide (x = "no"))
def wordT : Th → Bool
  | .wd x => wordS x
  | _ => false
def nameT : Th → Bool
  | .wd x => nameS x
  | _ => false
def ascT : Th → Bool
  | .wd x => asc x
  | _ => true
def spIsN : Sp := fun vs H Q _ => ∃ n : Int, vs = [.int n] ∧ Q (.bl true) H
def spIsL : Sp := fun vs H Q _ => ∃ n : Int, vs = [.int n] ∧ Q (.bl (decide (-32768 ≤ n ∧ n ≤ 32767))) H
def spWant (cR : Addr) : Sp := fun vs H Q E => ∃ (b : Bool) (x : Str), vs = [.bl b, .str x] ∧ (b = true → Q .non H) ∧ (b = false → E (.ref cR) none H)
def spWord : Sp := fun vs H Q _ => ∃ v th, vs = [v] ∧ IsTh H v th ∧ ascT th = true ∧ ∀ H', Same H H' → Q (.bl (wordT th)) H'
def spName : Sp := fun vs H Q _ => ∃ v th, vs = [v] ∧ IsTh H v th ∧ ascT th = true ∧ ∀ H', Same H H' → Q (.bl (nameT th)) H'
section
variable {P : Program} {w : World} {K : PySem.W.Frag} {mg : Str → Option Value} {base : Heap} {t1 t2 t3 t4 : Tok} {cP cT cR cM cA cS : Addr}
theorem sc_is_number : FnScope ["thing"] ["thing"] (defScope sIsNumber) := ⟨rfl, rfl, rfl, by decide +kernel, rfl, by decide +kernel, by decide +kernel⟩
theorem ok_is_number {f : Addr} {fd : FuncData} (F : Fun K "is_number" "is_number" sIsNumber f fd) (T : Txt0 K mg t1 t2 t3 t4) : FnOk P w K mg base CX0 1 f fd ["thing"] spIsN := by
  refine F.okQ sc_is_number (fun vs H Q E h => ?_) (fun cdv A outer s H vs Q E hr h => ?_)
  · obtain ⟨n, rfl, _⟩ := h
    rfl
  · obtain ⟨n, rfl, k⟩ := h
    refine ⟨_, (qss_one (qs_ret (qe_and (qe_callB call_isinst rfl T.n_isinstance boot_isi (qa_cons (qv 0) (qa_cons (qe_bltn (v := .ty "int") rfl T.n_int boot_int rfl) qa_nil))) (qe_one (qe_not (qe_callB call_isinst rfl T.n_isinstance boot_isi (qa_cons (qv 0) (qa_cons (qe_bltn (v := .ty "bool") rfl T.n_bool boot_bool rfl) qa_nil)))))))), ?_⟩
    refine ⟨_, rfl, _, _, _, _, rfl, .int _, kit_int_int _, _, rfl, iteT ?_⟩
    exact ⟨_, rfl, _, _, _, _, rfl, .int _, kit_int_bool _, _, rfl, k⟩
theorem sc_is_of_language : FnScope ["thing"] ["thing"] (defScope sIsOfLanguage) := ⟨rfl, rfl, rfl, by decide +kernel, rfl, by decide +kernel, by decide +kernel⟩
theorem ok_is_of_language {f : Addr} {fd : FuncData} (F : Fun K "is_of_language" "is_of_language" sIsOfLanguage f fd) (T : Txt0 K mg t1 t2 t3 t4) (F_is_number : FnB P w K mg base 1 "is_number" ["thing"] spIsN) : FnOk P w K mg base CX0 2 f fd ["thing"] spIsL := by
  refine F.okQ sc_is_of_language (fun vs H Q E h => ?_) (fun cdv A outer s H vs Q E hr h => ?_)
  · obtain ⟨n, rfl, _⟩ := h
    rfl
  · obtain ⟨n, rfl, k⟩ := h
    refine ⟨_, (qss_one (qs_ret (qe_and (qe_fn F_is_number (hr.mono (by first | decide | omega)) rfl (qa_cons (qv 0) qa_nil)) (qe_one (qe_chain op_le op_le (qe_gint rfl T.g_LEAST) (qv 0) (qe_gint rfl T.g_MOST)))))), ?_⟩
    refine ⟨_, rfl, n, rfl, _, rfl, iteT ?_⟩
    refine ⟨_, rfl, _, _, rfl, rfl, _, rfl, ite2 (fun h => ?_) (fun h => ?_)⟩
    · refine ⟨_, _, rfl, rfl, ?_⟩
      have h1 := of_decide_eq_true h
      have e : decide (-32768 ≤ n ∧ n ≤ 32767) = decide (n ≤ 32767) := by
        by_cases h2 : n ≤ 32767 <;> simp [h1, h2]
      rw [e] at k
      exact k
    · have e : decide (-32768 ≤ n ∧ n ≤ 32767) = false := decide_eq_false fun z => h (decide_eq_true z.1)
      rw [e] at k
      exact k
theorem sc_want : FnScope ["so", "why"] ["so", "why"] (defScope sWant) := ⟨rfl, rfl, rfl, by decide +kernel, rfl, by decide +kernel, by decide +kernel⟩
theorem ok_want {f : Addr} {fd : FuncData} (F : Fun K "want" "want" sWant f fd) (TX : TxX K mg cP cT cR cM cA cS) : FnOk P w K mg base (CX1 P w) 1 f fd ["so", "why"] (spWant cR) := by
  refine F.ok1 sc_want (fun vs H Q E h => ?_) (fun cdv A outer s H vs Q E hr h => ?_)
  · obtain ⟨b, x, rfl, _⟩ := h
    rfl
  · obtain ⟨b, x, rfl, k1, k2⟩ := h
    have nd := sc_want.nd
    refine ⟨_, (qss_one (qs_if (qt_not (qt_val (qv 0))) (qss_one (qs_raise raises_cx rfl rfl PySem.F.excBase_ValueError rfl TX.g_R TX.ex (qa_cons (qv 1) qa_nil))) qss_nil)), ?_⟩
    cases b with
    | true => exact ⟨_, rfl, _, rfl, k1 rfl⟩
    | false => exact ⟨_, rfl, _, rfl, ⟨_, rfl, by show 1 ≤ sizeLine; decide, k2 rfl⟩⟩
end
end K08

namespace K08
open PySem PySem.Spec PyProof.Rows L2
theorem sgn_eq (c : Nat) : (!decide (([c] : List Nat) < [97]) && !decide (([122] : List Nat) < [c])) = sgn c := by
  have h1 : (([c] : List Nat) < [97]) ↔ c < 97 := by
    constructor
    · intro h
      cases h with
      | cons h => cases h
      | rel h => exact h
    · exact fun h => .rel h
  have h2 : (([122] : List Nat) < [c]) ↔ 122 < c := by
    constructor
    · intro h
      cases h with
      | cons h => cases h
      | rel h => exact h
    · exact fun h => .rel h
  unfold sgn
  by_cases a : c < 97 <;> by_cases b : 122 < c <;> simp [h1, h2, a, b] <;> omega
theorem cd_a : ("a" : Str).cps.toList = [97] := by decide +kernel
theorem cd_z : ("z" : Str).cps.toList = [122] := by decide +kernel
theorem str_beq (a b : Str) : (a == b) = decide (b = a) := by
  rw [Bool.eq_iff_iff, beq_iff_eq, decide_eq_true_eq]
  exact eq_comm
theorem inV_yn (x : Str) : inV (V.str x) [V.str "yes", V.str "no"] = (decide (x = "yes") || decide (x = "no")) := by
  show (("yes" == x) || (("no" == x) || false)) = _
  rw [str_beq, str_beq, Bool.or_false]
def headT : Th → Str → Bool
  | .tup (.wd y :: _), x => decide (y = x)
  | _, _ => false
def hdOk : Th → Bool
  | .tup (.wd _ :: _) => true
  | .tup (_ :: _) => false
  | _ => true
def spHead : Sp := fun vs H Q _ => ∃ v th x, vs = [v, .str x] ∧ IsTh H v th ∧ hdOk th = true ∧ Q (.bl (headT th x)) H
section
variable {P : Program} {w : World} {K : PySem.W.Frag} {mg : Str → Option Value} {base : Heap} {t1 t2 t3 t4 : Tok} {cP cT cR cM cA cS : Addr}
theorem sc_is_word : FnScope ["thing"] ["thing"] (defScope sIsWord) := ⟨rfl, rfl, rfl, by decide +kernel, rfl, by decide +kernel, by decide +kernel⟩
theorem ok_is_word {f : Addr} {fd : FuncData} (F : Fun K "is_word" "is_word" sIsWord f fd) (T : Txt0 K mg t1 t2 t3 t4) : FnOk P w K mg base CX0 1 f fd ["thing"] spWord := by
  refine F.okQ sc_is_word (fun vs H Q E h => ?_) (fun cdv A outer s H vs Q E hr h => ?_)
  · obtain ⟨v, th, rfl, _⟩ := h
    rfl
  · obtain ⟨v, th, rfl, hi, ha, k⟩ := h
    refine ⟨_, (qss_cons (qs_if (QW.pt (qw_or (qt_not (qt_val (qe_callB call_isinst rfl T.n_isinstance boot_isi (qa_cons (qv 0) (qa_cons (qe_bltn (v := .ty "str") rfl T.n_str boot_str rfl) qa_nil))))) (qw_or1 (qt_not (qt_chain op_le op_le qe_int (qe_callB call_len_str rfl T.n_len PySem.boot_len (qa_cons (qv 0) qa_nil)) qe_int))))) (qss_one (qs_ret qe_bl)) qss_nil)
      (qss_one (qs_ret (qe_callB (call_all rfl) rfl T.n_all boot_all (qa_cons (qe_comp (N' := ["sign"]) (n := 1) (Caps.nil rfl (by decide) (by decide) (by decide) rfl) rfl (qi_str (qv 0)) (fun _ _ _ => ⟨(qg_name (i := 0) (show List.Nodup (["sign"] : List Str) from by decide +kernel) rfl (Or.inl rfl)), qts_nil, (qe_chain op_le_str op_le_str qe_str (qv 0) qe_str)⟩)) qa_nil))))), ?_⟩
    cases th with
    | num i =>
      cases (show v = .int i from hi)
      exact ⟨_, rfl, _, _, _, _, rfl, .int _, rfl, _, rfl, k H (Same.refl H)⟩
    | tup l =>
      obtain ⟨a, us, rfl, hu, hl⟩ := hi
      exact ⟨_, rfl, _, _, _, _, rfl, .tup hu, rfl, _, rfl, k H (Same.refl H)⟩
    | wd x =>
      cases (show v = .str x from hi)
      have ha' : x.cps.all (· < 128) = true ∧ x.length ≤ 1000 := by
        have h' : (x.cps.all (· < 128) && decide (x.length ≤ 1000)) = true := ha
        rw [Bool.and_eq_true] at h'
        exact ⟨h'.1, of_decide_eq_true h'.2⟩
      refine ⟨_, rfl, _, _, _, _, rfl, .str _, rfl, _, rfl, ?_⟩
      have hz : x.length ≤ sizeLine := Nat.le_trans ha'.2 (by decide)
      refine ⟨_, rfl, x, rfl, hz, _, _, rfl, rfl, _, rfl, ?_⟩
      have key : wordT (.wd x) = (decide (1 ≤ x.length) && decide (x.length ≤ 8) && x.cps.toList.all sgn) := rfl
      refine ite2 (fun h1 => ?_) (fun h1 => ?_)
      · have h1' : 1 ≤ x.length := by have := of_decide_eq_true h1; omega
        refine ⟨_, _, rfl, rfl, _, rfl, ite2 (fun h2 => ?_) (fun h2 => ?_)⟩
        · have h2' : ¬ x.length ≤ 8 := fun z => by
            have : decide ((x.length : Int) ≤ 8) = true := decide_eq_true (by omega)
            rw [this] at h2
            cases h2
          have e : wordT (.wd x) = false := by rw [key, decide_eq_false h2']; simp
          have := k H (Same.refl H)
          rw [e] at this
          exact this
        · have h2' : x.length ≤ 8 := by
            cases e : decide ((x.length : Int) ≤ 8) with
            | true => have := of_decide_eq_true e; omega
            | false => rw [e] at h2; exact absurd rfl h2
          refine ⟨_, rfl, x, rfl, ha'.1, fun D hD => comp_str (fun i ys σ H' => (∃ o, σ = [o]) ∧ H' = upd H D (.lst ys) ∧ ys = (x.cps.toList.take i).map fun c => V.bl (sgn c)) hz ⟨⟨_, rfl⟩, rfl, by simp⟩ ?_ ?_ ?_⟩
          · rintro i ys σ H' hi ⟨_, rfl, rfl⟩
            exact ⟨upd_same, by simp; omega⟩
          · rintro i c ys σ H' hc ⟨⟨o, rfl⟩, rfl, rfl⟩
            have hc' : x.cps.toList[i]? = some c := by simpa using hc
            have e1 := sgn_eq c
            have nx : ((x.cps.toList.take i).map fun c => V.bl (sgn c)) ++ [V.bl (sgn c)] = (x.cps.toList.take (i + 1)).map fun c => V.bl (sgn c) := by
              rw [List.take_add_one, hc']
              simp
            refine ⟨_, rfl, _, _, rfl, rfl, _, rfl, ite2 (fun h3 => ?_) (fun h3 => ?_)⟩
            · refine ⟨_, _, rfl, rfl, upd_same, ⟨_, rfl⟩, upd_upd, ?_⟩
              rw [← nx]
              rw [cd_a] at h3
              rw [cd_z]
              have h3' : (!decide (([c] : List Nat) < [97])) = true := h3
              rw [h3', Bool.true_and] at e1
              rw [← e1]
            · refine ⟨upd_same, ⟨_, rfl⟩, upd_upd, ?_⟩
              rw [← nx]
              rw [cd_a] at h3
              have h3' : (!decide (([c] : List Nat) < [97])) = false := by simpa using h3
              rw [h3', Bool.false_and] at e1
              rw [← e1]
          · rintro ys σ H' ⟨_, rfl, rfl⟩
            refine ⟨D, x.cps.toList.map sgn, rfl, .inl (.inl ?_), ?_⟩
            · rw [upd_same]
              simp
              rw [List.take_of_length_le (by simp)]
              rfl
            · have e : ((x.cps.toList.map sgn).all id) = wordT (.wd x) := by
                rw [key, decide_eq_true h1', decide_eq_true h2']
                simp
              rw [e]
              exact k _ (Same.upd (Same.refl H) hD)
      · have e : wordT (.wd x) = false := by
          have : ¬ 1 ≤ x.length := fun z => h1 (decide_eq_true (by omega))
          rw [key, decide_eq_false this]
          simp
        have := k H (Same.refl H)
        rw [e] at this
        exact ⟨_, rfl, this⟩
theorem sc_is_name : FnScope ["thing"] ["thing"] (defScope sIsName) := ⟨rfl, rfl, rfl, by decide +kernel, rfl, by decide +kernel, by decide +kernel⟩
theorem ok_is_name {f : Addr} {fd : FuncData} (F : Fun K "is_name" "is_name" sIsName f fd) (F_is_word : FnB P w K mg base 1 "is_word" ["thing"] spWord) : FnOk P w K mg base CX0 2 f fd ["thing"] spName := by
  refine F.okQ sc_is_name (fun vs H Q E h => ?_) (fun cdv A outer s H vs Q E hr h => ?_)
  · obtain ⟨v, th, rfl, _⟩ := h
    rfl
  · obtain ⟨v, th, rfl, hi, ha, k⟩ := h
    refine ⟨_, (qss_one (qs_ret (qe_and (qe_fn F_is_word (hr.mono (by first | decide | omega)) rfl (qa_cons (qv 0) qa_nil)) (qe_one (qe_cmpR op_notIn_seq (qv 0) (qe_tup (qa_cons qe_str (qa_cons qe_str qa_nil))) (by with_unfolding_all rfl)))))), ?_⟩
    refine ⟨_, rfl, v, th, rfl, hi, ha, fun H1 s1 => ⟨_, rfl, ite2 (fun h1 => ?_) (fun h1 => ?_)⟩⟩
    · cases th with
      | num i => cases h1
      | tup l => cases h1
      | wd x =>
        cases (show v = .str x from hi)
        have h1' : wordS x = true := h1
        refine ⟨_, rfl, (by show 2 ≤ sizeLine; decide), fun p hp => ⟨p, _, rfl, .inr (.inl (.inl upd_same)), rfl, rfl, ?_⟩⟩
        have e : nameT (.wd x) = !inV (V.str x) [V.str "yes", V.str "no"] := by
          show (wordS x && !(decide (x = "yes") || decide (x = "no"))) = _
          rw [h1', inV_yn, Bool.true_and]
        have := k _ (s1.upd (o := .tup [V.str "yes", V.str "no"]) hp)
        rw [e] at this
        exact this
    · have e : nameT th = false := by
        cases th with
        | num i => rfl
        | tup l => rfl
        | wd x =>
          have : wordS x = false := by
            cases e : wordS x with
            | false => rfl
            | true => exact absurd e h1
          show (wordS x && _) = false
          rw [this]; rfl
      have := k _ s1
      rw [e] at this
      exact this
theorem sc_is_headed : FnScope ["thing", "word"] ["thing", "word"] (defScope sIsHeaded) := ⟨rfl, rfl, rfl, by decide +kernel, rfl, by decide +kernel, by decide +kernel⟩
theorem ok_is_headed {f : Addr} {fd : FuncData} (F : Fun K "is_headed" "is_headed" sIsHeaded f fd) (T : Txt0 K mg t1 t2 t3 t4) : FnOk P w K mg base CX0 1 f fd ["thing", "word"] spHead := by
  refine F.okQ sc_is_headed (fun vs H Q E h => ?_) (fun cdv A outer s H vs Q E hr h => ?_)
  · obtain ⟨v, th, x, rfl, _⟩ := h
    rfl
  · obtain ⟨v, th, x, rfl, hi, hd, k⟩ := h
    refine ⟨_, (qss_one (qs_ret (qe_and (qe_callB call_isinst rfl T.n_isinstance boot_isi (qa_cons (qv 0) (qa_cons (qe_bltn (v := .ty "tuple") rfl T.n_tuple boot_tuple rfl) qa_nil))) (qe_and (qe_cmpR op_gt (qe_callB call_len_seq rfl T.n_len PySem.boot_len (qa_cons (qv 0) qa_nil)) qe_int (nomark _)) (qe_one (qe_cmpR op_eq (qe_ix ix_tup (qv 0) qe_int (fun _ _ => rfl)) (qv 1) (nomark _))))))), ?_⟩
    cases th with
    | num i =>
      cases (show v = .int i from hi)
      exact ⟨_, rfl, _, _, _, _, rfl, .int _, rfl, _, rfl, k⟩
    | wd y =>
      cases (show v = .str y from hi)
      exact ⟨_, rfl, _, _, _, _, rfl, .str _, rfl, _, rfl, k⟩
    | tup l =>
      obtain ⟨a, us, rfl, hu, hl⟩ := hi
      refine ⟨_, rfl, _, _, _, _, rfl, .tup hu, rfl, _, rfl, iteT ?_⟩
      refine ⟨_, rfl, a, us, rfl, .inr (.inl (.inl hu)), _, _, rfl, rfl, _, rfl, ?_⟩
      cases l with
      | nil =>
        rw [show us = [] from hl]
        exact k
      | cons t r =>
        obtain ⟨v0, vr, rfl, h0, hr'⟩ := hl
        cases t with
        | num i => cases hd
        | tup l => cases hd
        | wd y =>
          cases (show v0 = .str y from h0)
          have hp : decide ((((V.str y :: vr).length : Nat) : Int) > 0) = true := decide_eq_true (by simp)
          rw [hp]
          have at0 : atI (V.str y :: vr) 0 = some (V.str y) := atI_nat (j := 0) rfl
          have e : decide (V.str y = V.str x) = decide (y = x) := by
            rw [Bool.eq_iff_iff, decide_eq_true_eq, decide_eq_true_eq]
            exact ⟨V.str.inj, congrArg V.str⟩
          refine iteT ⟨_, rfl, _, _, 0, .str y, rfl, rfl, .inl (.inl hu), at0, _, rfl, (show scal (V.str y) (V.str x) = true from rfl), ?_⟩
          rw [e]
          exact k
theorem putS_fresh (met : List Str) (x : Str) (h : x ∉ met) : putK (met.map fun y => ((Sum.inr y : Key), V.bl true)) (Sum.inr x) (V.bl true) = (met ++ [x]).map fun y => ((Sum.inr y : Key), V.bl true) := by
  unfold putK
  rw [if_neg]
  · simp
  · rw [List.any_eq_true]
    rintro ⟨kv, hkv, e⟩
    obtain ⟨y, hy, rfl⟩ := List.mem_map.mp hkv
    have : (Sum.inr y : Key) = Sum.inr x := of_decide_eq_true e
    cases this
    exact h hy
theorem valS (met : List Str) (x : Str) : (valV (met.map fun y => ((Sum.inr y : Key), V.bl true)) (Sum.inr x)).isSome = decide (x ∈ met) := by
  induction met with
  | nil => rfl
  | cons y met ih =>
    rw [List.map_cons]
    by_cases e : y = x
    · rw [valV_pos (congrArg Sum.inr e), e]
      simp
    · rw [valV_neg (fun z => e (Sum.inr.inj z)), ih, Bool.eq_iff_iff, decide_eq_true_eq, decide_eq_true_eq, List.mem_cons]
      exact ⟨.inr, fun z => z.resolve_left fun q => e q.symm⟩
def spUnl (K : PySem.W.Frag) : Sp := fun vs H Q _ => ∃ (b : Bool) (a : Addr) (xs : List Str), vs = [.ref a] ∧ SqB b K H a (xs.map V.str) ∧ xs.length ≤ 1000 ∧ (xs.Nodup → ∀ H', Same H H' → Q .non H') ∧ (¬ xs.Nodup → ∀ (i : Nat) H', Same H H' → Q (.int i) H')
def spAll (K : PySem.W.Frag) : Sp := fun vs H Q _ => ∃ (b : Bool) (a : Addr) (xs : List Str), vs = [.ref a] ∧ SqB b K H a (xs.map V.str) ∧ xs.length ≤ 1000 ∧ ∀ H', Same H H' → Q (.bl (decide xs.Nodup)) H'
theorem SqB.same {K : PySem.W.Frag} {b : Bool} {H H' : Hp} {a : Addr} {xs : List V} (s : Same H H') (h : SqB b K H a xs) : SqB b K H' a xs := by
  cases b
  · rcases (show SqT K H a xs from h) with (h | ⟨o, h⟩) | h
    · exact .inl (.inl (s _ _ h))
    · exact .inl (.inr ⟨o, s _ _ h⟩)
    · exact .inr h
  · exact Same.seq s (show SqL K H a xs from h)
theorem Same.upd_at {H H1 : Hp} {d : Addr} {o : HO} (s : Same H H1) (h : H d = none) : Same H (upd H1 d o) := fun b u q => by rw [upd_ne (ne_of_none q h)]; exact s b u q
theorem sc_first_again : FnScope ["things", "met", "index", "thing"] ["things"] (defScope sFirstAgain) := ⟨rfl, rfl, rfl, by decide +kernel, rfl, by decide +kernel, by decide +kernel⟩
theorem ok_first_again {f : Addr} {fd : FuncData} (F : Fun K "first_again" "first_again" sFirstAgain f fd) (T : Txt0 K mg t1 t2 t3 t4) : FnOk P w K mg base CX0 1 f fd ["things"] (spUnl K) := by
  refine F.okQ sc_first_again (fun vs H Q E h => ?_) (fun cdv A outer s H vs Q E hr h => ?_)
  · obtain ⟨b, a, xs, rfl, _⟩ := h
    rfl
  · obtain ⟨b, a, xs, rfl, hq, hl, k1, k2⟩ := h
    have nd := sc_first_again.nd
    refine ⟨_, (qss_cons (qs_set (i := 1) nd rfl (Or.inl rfl) qe_dnewK)
      (qss_cons (qs_for PassesOwn.never rfl (qi_enum (b := b) rfl T.n_enumerate (qa_cons (qv 0) qa_nil)) (qg_tup rfl (qgs_cons (qg_name (i := 2) nd rfl (Or.inl rfl)) (qgs_cons (qg_name (i := 3) nd rfl (Or.inl rfl)) qgs_nil))) (qss_cons (qs_if (qt_din (hu_of hr) (qv 3) (qv 1)) (qss_one (qs_ret (qv 2))) qss_nil)
      (qss_one (qs_dput (hu_of hr) (qv 1) (qv 3) qe_bl rfl))))
      (qss_one (qs_ret qe_non)))), ?_⟩
    refine fun d hd => ⟨_, rfl, a, rfl, ⟨_, SqB.same (Same.upd (Same.refl H) hd) hq⟩, ?_⟩
    refine for_enum (xs := xs.map V.str) (fun i σ H' => (∃ o1 o2, σ = [some (.ref a), some (.ref d), o1, o2]) ∧ Same H H' ∧ H' d = some (.dK ((xs.take i).map fun y => ((Sum.inr y : Key), V.bl true))) ∧ (xs.take i).Nodup) ⟨⟨_, _, rfl⟩, Same.upd (Same.refl H) hd, upd_same, by simp⟩ ?_ ?_ ?_
    · rintro i σ H' hi ⟨_, sm, _⟩
      exact SqB.same sm hq
    · rintro i v σ H' p hv ⟨⟨o1, o2, rfl⟩, sm, hdd, nd'⟩ hp
      obtain ⟨x, hx, rfl⟩ : ∃ x, xs[i]? = some x ∧ v = V.str x := by
        rw [List.getElem?_map] at hv
        cases e : xs[i]? with
        | none => rw [e] at hv; cases hv
        | some x => rw [e] at hv; exact ⟨x, rfl, (Option.some.inj hv).symm⟩
      have hdp : upd H' p (.tup [.int i, .str x]) d = some (.dK ((xs.take i).map fun y => ((Sum.inr y : Key), V.bl true))) := by
        rw [upd_ne (ne_of_none hdd hp)]; exact hdd
      have smp : Same H (upd H' p (.tup [.int i, .str x])) := sm.upd hp
      have li : i < xs.length := (List.getElem?_eq_some_iff.mp hx).1
      have tk : xs.take (i + 1) = xs.take i ++ [x] := by rw [List.take_add_one, hx]; rfl
      have sub : (xs.take (i + 1)).Sublist xs := List.take_sublist _ _
      refine ⟨p, _, rfl, SqT.of upd_same, rfl, _, _, rfl, _, _, rfl, rfl, ?_⟩
      refine ⟨_, rfl, _, rfl, d, _, rfl, DGet.k (k := Sum.inr x) hdp, _, rfl, ite2 (fun h => ?_) (fun h => ?_)⟩
      · rw [valS] at h
        have hm : x ∈ xs.take i := of_decide_eq_true h
        refine ⟨_, rfl, k2 (fun z => ?_) i _ smp⟩
        have := z.sublist sub
        rw [tk, List.nodup_append] at this
        exact this.2.2 x hm x (by simp) rfl
      · rw [valS] at h
        have hm : x ∉ xs.take i := fun z => h (decide_eq_true z)
        refine ⟨_, rfl, _, rfl, d, _, rfl, DPut.k (k := Sum.inr x) hdp (by simp; exact small1000 (by omega)), ⟨_, _, rfl⟩, K08.Same.upd_at smp hd, ?_, ?_⟩
        · rw [upd_same, putS_fresh _ _ hm, tk]
        · rw [tk, List.nodup_append]
          exact ⟨nd', by simp, fun a ha b hb e => by simp at hb; subst hb; subst e; exact hm ha⟩
    · rintro σ H' ⟨_, sm, _, nd'⟩
      rw [List.length_map, List.take_length] at nd'
      exact k1 nd' H' sm
theorem sc_all_unlike : FnScope ["things"] ["things"] (defScope sAllUnlike) := ⟨rfl, rfl, rfl, by decide +kernel, rfl, by decide +kernel, by decide +kernel⟩
theorem ok_all_unlike {f : Addr} {fd : FuncData} (F : Fun K "all_unlike" "all_unlike" sAllUnlike f fd) (F_first_again : FnB P w K mg base 1 "first_again" ["things"] (spUnl K)) : FnOk P w K mg base CX0 2 f fd ["things"] (spAll K) := by
  refine F.okQ sc_all_unlike (fun vs H Q E h => ?_) (fun cdv A outer s H vs Q E hr h => ?_)
  · obtain ⟨b, a, xs, rfl, _⟩ := h
    rfl
  · obtain ⟨b, a, xs, rfl, hq, hl, k⟩ := h
    refine ⟨_, (qss_one (qs_ret (qe_cmpR op_isN (qe_fn F_first_again (hr.mono (by first | decide | omega)) rfl (qa_cons (qv 0) qa_nil)) qe_non (nomark _)))), ?_⟩
    refine ⟨_, rfl, b, a, xs, rfl, hq, hl, fun n H' s' => ?_, fun n i H' s' => ?_⟩
    · have := k H' s'
      rw [decide_eq_true n] at this
      exact ⟨rfl, this⟩
    · have := k H' s'
      rw [decide_eq_false n] at this
      exact ⟨rfl, this⟩
end
end K08

namespace K08
open PySem PySem.Spec PyProof.Rows L2
/-- [f(x) for x in t], f a def that answers with a bool -/
theorem all_comp {K : PySem.W.Frag} {a D : Addr} {us : List V} {l : List Th} {te : TE} {σ0 : L2.St} {H1 : Hp} {Q : Hp → Prop} (f : Th → Bool) (hq : SqT K H1 a us) (hD : H1 D = none) (hl : IsThL H1 us l) (hz : l.length ≤ 1000)
    (hs : ∀ v th H' (R : VK), th ∈ l → IsTh H' v th → Same H1 H' → (∀ H'', Same H' H'' → R (.bl (f th)) H'') → te (σ0.set 0 (some v)) H' R) (hd : ∀ H', Same H1 H' → H' D = some (.lst ((l.map f).map V.bl)) → Q H') :
    ∃ W : Nat → Nat → L2.St → Hp → Prop, (∃ m, W 0 m σ0 (upd H1 D (.lst []))) ∧ ∀ i m σ' H', W i m σ' H' →
      ((Itt K a).stop i H' ∧ Q H') ∨ ((Itt K a).go i H' ∧ ∃ (Ay : V → L2.St → Hp → Prop) (An : L2.St → Hp → Prop), (∀ y σ3 H5, Ay y σ3 H5 → ∃ ys, H5 D = some (.lst ys) ∧ ys.length < sizeLine ∧ ∃ m', m' < m ∧ W (i + 1) m' σ3 (upd H5 D (.lst (ys ++ [y])))) ∧
        (∀ σ3 H4, An σ3 H4 → ∃ m', m' < m ∧ W (i + 1) m' σ3 H4) ∧
        ∀ x H2, (Itt K a).yld i H' x H2 → (gName 0) x σ' H2 fun σ3 H3 => tYes σ3 H3 fun ok H4 => if ok = true then te σ3 H4 (fun y H5 => Ay y σ3 H5) else An σ3 H4) := by
  have len := hl.len
  refine comp_tup (xs := us) (fun i ys σ H' => (σ = σ0 ∨ ∃ v, σ = σ0.set 0 (some v)) ∧ Same H1 H' ∧ H' D = some (.lst ys) ∧ ys = ((l.take i).map f).map V.bl) (by rw [len]; exact Nat.le_of_lt (small1000 hz)) ⟨.inl rfl, Same.upd (Same.refl H1) hD, upd_same, by simp⟩ ?_ ?_ ?_
  · rintro i ys σ H' hi ⟨_, sm, hy, rfl⟩
    refine ⟨?_, hy, by simp; omega⟩
    have := SqB.same (b := false) sm (show SqB false K H1 a us from hq)
    exact this
  · rintro i v ys σ H' hv ⟨hσ, sm, hy, rfl⟩
    obtain ⟨th, ht, hi⟩ := hl.get hv
    have eσ : σ.set 0 (some v) = σ0.set 0 (some v) := by
      rcases hσ with rfl | ⟨v', rfl⟩
      · rfl
      · rw [List.set_set]
    show te (σ.set 0 (some v)) H' _
    rw [eσ]
    refine hs v th H' _ (List.mem_of_getElem? ht) (hi.mono sm.tups) sm fun H'' s'' => ⟨s'' _ _ hy, .inr ⟨v, rfl⟩, K08.Same.upd_at (sm.trans s'') hD, upd_same, ?_⟩
    rw [List.take_add_one, ht]
    simp
  · rintro ys σ H' ⟨_, sm, hy, rfl⟩
    rw [len, List.take_length] at hy
    exact hd H' sm hy
/-! ### records -/
def ownK : List Str := ["number", "truth", "list"]
def nth (l : List Th) (i : Nat) : Th := l.getD i (.num 0)
def wds : List Th → List Str
  | [] => []
  | .wd x :: r => x :: wds r
  | _ :: r => wds r
def ownT : Th → Bool
  | .wd x => decide (x ∈ ownK)
  | _ => false
def recP : Th → Bool
  | .tup l => headT (.tup l) "record" && decide (3 ≤ l.length) && decide (l.length ≤ 6) && nameT (nth l 1) && !ownT (nth l 1) && ((l.drop 2).map nameT).all id && decide (wds (l.drop 2)).Nodup
  | _ => false
def smallT : Th → Bool
  | .tup l => decide (l.length ≤ 1000) && l.all ascT
  | t => ascT t
structure TxK (K : PySem.W.Frag) (mg : Str → Option Value) (aO : Addr) : Prop where
  g_OWN_KINDS : mg "OWN_KINDS" = some (.ref aO)
  own : ∀ H, SqT K H aO [.str "number", .str "truth", .str "list"]
def spRec (cR : Addr) : Sp := fun vs H Q E => ∃ v th, vs = [v] ∧ IsTh H v th ∧ hdOk th = true ∧ smallT th = true ∧ (recP th = true → ∀ H', Same H H' → Q .non H') ∧ (recP th = false → ∀ H', Same H H' → E (.ref cR) none H')
theorem names_wds : ∀ {H : Hp} {l : List Th} {us : List V}, IsThL H us l → (l.map nameT).all id = true → us = (wds l).map V.str ∧ (wds l).length = l.length
  | H, [], us, h, _ => ⟨h, rfl⟩
  | H, .num i :: r, us, h, n => by simp [nameT] at n
  | H, .tup m :: r, us, h, n => by simp [nameT] at n
  | H, .wd x :: r, us, h, n => by
    obtain ⟨v, vr, rfl, h1, h2⟩ := h
    have n' : (r.map nameT).all id = true := by
      rw [List.map_cons, List.all_cons, Bool.and_eq_true] at n
      exact n.2
    obtain ⟨a, b⟩ := names_wds h2 n'
    rw [show v = .str x from h1, a]
    exact ⟨rfl, by simp [wds, b]⟩
theorem inV_own (x : Str) : inV (V.str x) [V.str "number", V.str "truth", V.str "list"] = ownT (.wd x) := by
  show (("number" == x) || (("truth" == x) || (("list" == x) || false))) = decide (x ∈ ownK)
  rw [str_beq, str_beq, str_beq, Bool.or_false, Bool.eq_iff_iff]
  simp [ownK]
theorem cut_drop (us : List V) (n : Nat) : cutV us (some (n : Int)) none = us.drop n := by
  unfold cutV
  rw [HT.sIx_nat, HT.sIx_none]
  rcases Nat.le_total n us.length with h | h
  · rw [Nat.min_eq_left h, List.take_of_length_le (by simp)]
  · rw [Nat.min_eq_right h, List.drop_of_length_le (Nat.le_refl _), List.drop_of_length_le h]
    simp
section
variable {P : Program} {w : World} {K : PySem.W.Frag} {mg : Str → Option Value} {base : Heap} {t1 t2 t3 t4 : Tok} {cP cT cR cM cA cS aO : Addr}
theorem sc_look_at_record : FnScope ["record"] ["record"] (defScope sLookAtRecord) := ⟨rfl, rfl, rfl, by decide +kernel, rfl, by decide +kernel, by decide +kernel⟩
theorem ok_look_at_record {f : Addr} {fd : FuncData} (F : Fun K "look_at_record" "look_at_record" sLookAtRecord f fd) (T : Txt0 K mg t1 t2 t3 t4) (TK : TxK K mg aO) (F_want : FnB1 P w K mg base 1 "want" ["so", "why"] (spWant cR)) (F_is_headed : FnB P w K mg base 1 "is_headed" ["thing", "word"] spHead)
    (F_is_name : FnB P w K mg base 2 "is_name" ["thing"] spName) (F_all_unlike : FnB P w K mg base 2 "all_unlike" ["things"] (spAll K)) : FnOk P w K mg base (CX1 P w) 4 f fd ["record"] (spRec cR) := by
  refine F.ok1 sc_look_at_record (fun vs H Q E h => ?_) (fun cdv A outer s H vs Q E hr h => ?_)
  · obtain ⟨v, th, rfl, _⟩ := h
    rfl
  · obtain ⟨v, th, rfl, hi, hd, hsm, k1, k2⟩ := h
    refine ⟨_, (qss_cons (qs_expr (qe_fn1 F_want (pass1 raises_cx rfl) (hr.mono (by first | decide | omega)) rfl (qa_cons (qe_fn F_is_headed (hr.mono (by first | decide | omega)) rfl (qa_cons (qv 0) (qa_cons qe_str qa_nil))) (qa_cons qe_str qa_nil))))
      (qss_cons (qs_expr (qe_fn1 F_want (pass1 raises_cx rfl) (hr.mono (by first | decide | omega)) rfl (qa_cons (qe_chain op_le op_le qe_int (qe_callB call_len_seq rfl T.n_len PySem.boot_len (qa_cons (qv 0) qa_nil)) (qe_op op_add qe_int (qe_gint rfl T.g_MOST_FIELDS))) (qa_cons qe_str qa_nil))))
      (qss_cons (qs_expr (qe_fn1 F_want (pass1 raises_cx rfl) (hr.mono (by first | decide | omega)) rfl (qa_cons (qe_and (qe_fn F_is_name (hr.mono (by first | decide | omega)) rfl (qa_cons (qe_ix ix_tup (qv 0) qe_int (fun _ _ => rfl)) qa_nil)) (qe_one (qe_cmpR op_notIn_seq (qe_ix ix_tup (qv 0) qe_int (fun _ _ => rfl)) (qe_gcls rfl TK.g_OWN_KINDS) (by with_unfolding_all rfl)))) (qa_cons qe_str qa_nil))))
      (qss_cons (qs_expr (qe_fn1 F_want (pass1 raises_cx rfl) (hr.mono (by first | decide | omega)) rfl (qa_cons (qe_callB (call_all rfl) rfl T.n_all boot_all (qa_cons (qe_comp (N' := ["field"]) (n := 1) (Caps.nil rfl (by decide) (by decide) (by decide) rfl) rfl (qi_tup (qe_slice sl_tup (qv 0) (qo_some qe_int) qo_none)) (fun _ _ _ => ⟨(qg_name (i := 0) (show List.Nodup (["field"] : List Str) from by decide +kernel) rfl (Or.inl rfl)), qts_nil, (qe_fn F_is_name (hr.mono (by first | decide | omega)) rfl (qa_cons (qv 0) qa_nil))⟩)) qa_nil)) (qa_cons qe_str qa_nil))))
      (qss_one (qs_expr (qe_fn1 F_want (pass1 raises_cx rfl) (hr.mono (by first | decide | omega)) rfl (qa_cons (qe_fn F_all_unlike (hr.mono (by first | decide | omega)) rfl (qa_cons (qe_slice sl_tup (qv 0) (qo_some qe_int) qo_none) qa_nil)) (qa_cons qe_str qa_nil))))))))), ?_⟩
    refine ⟨_, rfl, v, th, _, rfl, hi, hd, _, _, rfl, fun h1 => ?_, fun h1 => k2 ?_ H (Same.refl H)⟩
    · cases th with
      | num i => cases h1
      | wd x => cases h1
      | tup l =>
        obtain ⟨a, us, rfl, hu, hl⟩ := hi
        have sq : ∀ H', Same H H' → SqT K H' a us := fun H' s' => .inl (.inl (s' _ _ hu))
        have len := hl.len
        have no : ∀ H', Same H H' → recP (.tup l) = false → E (.ref cR) none H' := fun H' s' e => k2 e H' s'
        have key : recP (.tup l) = (headT (.tup l) "record" && decide (3 ≤ l.length) && decide (l.length ≤ 6) && nameT (nth l 1) && !ownT (nth l 1) && ((l.drop 2).map nameT).all id && decide (wds (l.drop 2)).Nodup) := rfl
        refine ⟨_, rfl, a, us, rfl, .inr (sq H (Same.refl H)), _, _, rfl, rfl, _, rfl, ite2 (fun h2 => ?_) (fun h2 => ?_)⟩
        · refine ⟨_, _, rfl, rfl, _, _, rfl, rfl, _, _, rfl, fun h3 => ?_, fun h3 => no H (Same.refl H) ?_⟩
          · have g2 : 3 ≤ l.length := by have := of_decide_eq_true h2; omega
            have g3 : l.length ≤ 6 := by have := of_decide_eq_true h3; omega
            obtain ⟨v1, e1, i1⟩ := hl.at (i := 1) (t := nth l 1) (by simp [nth, List.getD, List.getElem?_eq_getElem (show 1 < l.length by omega)])
            have hsm' : l.length ≤ 1000 ∧ ∀ t ∈ l, ascT t = true := by
              have h' : (decide (l.length ≤ 1000) && l.all ascT) = true := hsm
              rw [Bool.and_eq_true, List.all_eq_true] at h'
              exact ⟨of_decide_eq_true h'.1, h'.2⟩
            have at1 : atI us 1 = some v1 := atI_nat (j := 1) e1
            have m1 : nth l 1 ∈ l := by
              have : nth l 1 = l[1] := by simp [nth, List.getD, List.getElem?_eq_getElem (show 1 < l.length by omega)]
              rw [this]; exact List.getElem_mem _
            refine ⟨_, rfl, _, _, 1, v1, rfl, rfl, sq H (Same.refl H), at1, v1, _, rfl, i1, hsm'.2 _ m1, fun H1 s1 => ⟨_, rfl, ite2 (fun h4 => ?_) (fun h4 => ?_)⟩⟩
            · obtain ⟨x1, ex1⟩ : ∃ x, nth l 1 = .wd x := by
                cases e : nth l 1 with
                | num i => rw [e] at h4; cases h4
                | tup m => rw [e] at h4; cases h4
                | wd x => exact ⟨x, rfl⟩
              have ev1 : v1 = .str x1 := by rw [ex1] at i1; exact i1
              subst ev1
              refine ⟨_, rfl, _, _, 1, .str x1, rfl, rfl, sq H1 s1, at1, aO, _, rfl, .inr (TK.own H1), rfl, rfl, _, _, rfl, fun h5 => ?_, fun h5 => no H1 s1 ?_⟩
              · have eo : inV (V.str x1) [V.str "number", V.str "truth", V.str "list"] = ownT (nth l 1) := by rw [ex1]; exact inV_own x1
                have g5 : ownT (nth l 1) = false := by
                  have h5' : (!inV (V.str x1) [V.str "number", V.str "truth", V.str "list"]) = true := h5
                  rw [eo] at h5'
                  simpa using h5'
                have cut : cutV us (some 2) none = us.drop 2 := cut_drop us 2
                have nw : ∀ H', Same H H' → ¬ (HT.sIx us.length 0 (some 2) = 0 ∧ HT.sIx us.length us.length none = us.length) := fun _ _ z => by
                  have := z.1
                  rw [show (some 2 : Option Int) = some ((2 : Nat) : Int) from rfl, HT.sIx_nat] at this
                  omega
                refine ⟨_, rfl, 2, rfl, a, us, rfl, sq H1 s1, nw H1 s1, fun p hp => ⟨p, rfl, ⟨_, .inl (.inl upd_same)⟩, fun D hD => ?_⟩⟩
                rw [cut] at hD ⊢
                have s2 : Same H (upd H1 p (.tup (us.drop 2))) := s1.upd hp
                refine all_comp (l := l.drop 2) nameT (.inl (.inl upd_same)) hD ((hl.drop 2).mono s2.tups) (by simp; omega) (fun v th H' R hm hi' s' kR => ⟨_, rfl, v, th, rfl, hi', hsm'.2 _ (List.mem_of_mem_drop hm), kR⟩) fun H3 s3 hD3 => ?_
                refine ⟨D, _, rfl, .inl (.inl hD3), _, _, rfl, fun h6 => ?_, fun h6 => no H3 (s2.trans s3) ?_⟩
                · refine ⟨_, rfl, 2, rfl, a, us, rfl, sq H3 (s2.trans s3), nw H1 s1, fun p2 hp2 => ?_⟩
                  rw [cut]
                  obtain ⟨ew, el⟩ := names_wds (hl.drop 2) h6
                  refine ⟨false, p2, wds (l.drop 2), rfl, .inl (.inl (by rw [upd_same, ew])), by rw [el]; simp; omega, fun H4 s4 => ⟨_, _, rfl, fun h7 => k1 ?_ H4 (((s2.trans s3).upd hp2).trans s4), fun h7 => no H4 (((s2.trans s3).upd hp2).trans s4) ?_⟩⟩
                  · rw [key, h1, decide_eq_true g2, decide_eq_true g3, h4, g5, h6, h7]; rfl
                  · rw [key, h7]; simp
                · rw [key, h6]; simp
              · have eo : inV (V.str x1) [V.str "number", V.str "truth", V.str "list"] = ownT (nth l 1) := by rw [ex1]; exact inV_own x1
                have h5' : (!inV (V.str x1) [V.str "number", V.str "truth", V.str "list"]) = false := h5
                rw [eo] at h5'
                rw [key, h5']; simp
            · have h4' : nameT (nth l 1) = false := by
                cases e : nameT (nth l 1) with
                | false => rfl
                | true => exact absurd e h4
              exact ⟨_, _, rfl, fun z => (nomatch z), fun _ => no H1 s1 (by rw [key, h4']; simp)⟩
          · have : ¬ l.length ≤ 6 := fun z => by
              have : decide ((us.length : Int) ≤ 2 + 4) = true := decide_eq_true (by omega)
              rw [this] at h3
              cases h3
            rw [key, decide_eq_false this]; simp
        · have : ¬ 3 ≤ l.length := fun z => h2 (decide_eq_true (by omega))
          exact ⟨_, _, rfl, fun z => (nomatch z), fun _ => no H (Same.refl H) (by rw [key, decide_eq_false this]; simp)⟩
    · cases th with
      | num i => rfl
      | wd x => rfl
      | tup l =>
        have h1' : headT (.tup l) "record" = false := h1
        show (headT (.tup l) "record" && _ && _ && _ && _ && _ && _) = false
        rw [h1']; simp
end
end K08

namespace K08
open PySem PySem.Spec PyProof.Rows L2
/-! ### kinds and heads of functions -/
def kindT (ns : List Str) : Th → Bool
  | .wd x => ownT (.wd x) || decide (x ∈ ns)
  | _ => false
def kidsP (ns : List Str) : Th → Bool
  | .tup vs => decide (vs.length % 2 = 0) && decide (vs.length ≤ 8) && ((alt vs).map nameT).all id && decide (wds (alt vs)).Nodup && ((alt (vs.drop 1)).map (kindT ns)).all id
  | _ => false
def headP (ns : List Str) (l : List Th) : Bool := decide (4 ≤ l.length) && nameT (nth l 1) && kidsP ns (nth l 2) && kindT ns (nth l 3)
theorem keyS {kvs : List (Key × V)} {ns : List Str} (h : kvs.map (·.1) = ns.map Sum.inr) (x : Str) : (valV kvs (Sum.inr x)).isSome = decide (x ∈ ns) := by
  rw [← valV_any, Bool.eq_iff_iff, List.any_eq_true, decide_eq_true_eq]
  constructor
  · rintro ⟨kv, hm, e⟩
    have e' : kv.1 = Sum.inr x := of_decide_eq_true e
    have : (Sum.inr x : Key) ∈ ns.map Sum.inr := by rw [← h, ← e']; exact List.mem_map_of_mem hm
    obtain ⟨y, hy, q⟩ := List.mem_map.mp this
    cases q
    exact hy
  · intro hx
    have : (Sum.inr x : Key) ∈ kvs.map (·.1) := by rw [h]; exact List.mem_map_of_mem hx
    obtain ⟨kv, hm, e⟩ := List.mem_map.mp this
    exact ⟨kv, hm, decide_eq_true e⟩
theorem IsThL.alt {H : Hp} : ∀ {l : List Th} {vs : List V}, IsThL H vs l → IsThL H (L2.alt vs) (L2.alt l)
  | [], vs, h => by rw [show vs = [] from h]; rfl
  | [t], vs, h => by
    obtain ⟨v, vr, rfl, h1, h2⟩ := h
    rw [show vr = [] from h2]
    exact ⟨v, [], rfl, h1, rfl⟩
  | t :: u :: r, vs, h => by
    obtain ⟨v, vr, rfl, h1, h2⟩ := h
    obtain ⟨v', vr', rfl, h3, h4⟩ := h2
    exact ⟨v, L2.alt vr', rfl, h1, IsThL.alt h4⟩
theorem alt_mem {α : Type} : ∀ {l : List α} {x : α}, x ∈ L2.alt l → x ∈ l
  | [], x, h => h
  | [t], x, h => h
  | t :: u :: r, x, h => by
    rcases List.mem_cons.mp h with rfl | h
    · simp
    · exact List.mem_cons_of_mem _ (List.mem_cons_of_mem _ (alt_mem h))
theorem nth_at {H : Hp} {l : List Th} {us : List V} (hl : IsThL H us l) (i : Nat) (hi : i < l.length) : ∃ v, us[i]? = some v ∧ atI us (i : Int) = some v ∧ IsTh H v (nth l i) ∧ nth l i ∈ l := by
  have e : nth l i = l[i] := by simp [nth, List.getD, List.getElem?_eq_getElem hi]
  obtain ⟨v, e1, i1⟩ := hl.at (i := i) (t := nth l i) (by rw [e]; exact List.getElem?_eq_getElem hi)
  exact ⟨v, e1, atI_nat e1, i1, by rw [e]; exact List.getElem_mem _⟩
theorem small_tup {l : List Th} (h : smallT (.tup l) = true) : l.length ≤ 1000 ∧ ∀ t ∈ l, ascT t = true := by
  have h' : (decide (l.length ≤ 1000) && l.all ascT) = true := h
  rw [Bool.and_eq_true, List.all_eq_true] at h'
  exact ⟨of_decide_eq_true h'.1, h'.2⟩
def spKind : Sp := fun vs H Q _ => ∃ v th r kvs ns, vs = [v, .ref r] ∧ IsTh H v th ∧ H r = some (.dK kvs) ∧ kvs.map (·.1) = ns.map Sum.inr ∧ Q (.bl (kindT ns th)) H
def spHd (cR : Addr) : Sp := fun vs H Q E => ∃ v l r kvs ns, vs = [v, .ref r] ∧ IsTh H v (.tup l) ∧ smallT (.tup l) = true ∧ smallT (nth l 2) = true ∧ H r = some (.dK kvs) ∧ kvs.map (·.1) = ns.map Sum.inr ∧
  (headP ns l = true → ∀ H', Same H H' → Q .non H') ∧ (headP ns l = false → ∀ H', Same H H' → E (.ref cR) none H')
section
variable {P : Program} {w : World} {K : PySem.W.Frag} {mg : Str → Option Value} {base : Heap} {t1 t2 t3 t4 : Tok} {cP cT cR cM cA cS aO : Addr}
theorem sc_is_kind : FnScope ["thing", "records"] ["thing", "records"] (defScope sIsKind) := ⟨rfl, rfl, rfl, by decide +kernel, rfl, by decide +kernel, by decide +kernel⟩
theorem ok_is_kind {f : Addr} {fd : FuncData} (F : Fun K "is_kind" "is_kind" sIsKind f fd) (T : Txt0 K mg t1 t2 t3 t4) (TK : TxK K mg aO) : FnOk P w K mg base CX0 1 f fd ["thing", "records"] spKind := by
  refine F.okQ sc_is_kind (fun vs H Q E h => ?_) (fun cdv A outer s H vs Q E hr h => ?_)
  · obtain ⟨v, th, r, kvs, ns, rfl, _⟩ := h
    rfl
  · obtain ⟨v, th, r, kvs, ns, rfl, hi, hd, hn, k⟩ := h
    refine ⟨_, (qss_one (qs_ret (qe_and (qe_callB call_isinst rfl T.n_isinstance boot_isi (qa_cons (qv 0) (qa_cons (qe_bltn (v := .ty "str") rfl T.n_str boot_str rfl) qa_nil))) (qe_one (qe_or (qe_cmpR op_in_seq (qv 0) (qe_gcls rfl TK.g_OWN_KINDS) (by with_unfolding_all rfl)) (qe_one (qe_din (hu_of hr) (qv 0) (qv 1)))))))), ?_⟩
    cases th with
    | num i =>
      cases (show v = .int i from hi)
      exact ⟨_, rfl, _, _, _, _, rfl, .int _, rfl, _, rfl, k⟩
    | tup l =>
      obtain ⟨a, us, rfl, hu, hl⟩ := hi
      exact ⟨_, rfl, _, _, _, _, rfl, .tup hu, rfl, _, rfl, k⟩
    | wd x =>
      cases (show v = .str x from hi)
      have k' : Q (.bl (ownT (.wd x) || decide (x ∈ ns))) H := k
      refine ⟨_, rfl, _, _, _, _, rfl, .str _, rfl, _, rfl, iteT ?_⟩
      refine ⟨_, rfl, aO, _, rfl, .inr (TK.own H), rfl, rfl, _, rfl, ite2 (fun h => ?_) (fun h => ?_)⟩
      · have h' : inV (V.str x) [V.str "number", V.str "truth", V.str "list"] = true := h
        rw [inV_own] at h'
        rw [h'] at k'
        exact k'
      · have h' : inV (V.str x) [V.str "number", V.str "truth", V.str "list"] = false := by
          cases e : inV (V.str x) [V.str "number", V.str "truth", V.str "list"] with
          | false => rfl
          | true => exact absurd e h
        rw [inV_own] at h'
        rw [h', Bool.false_or, ← keyS hn x] at k'
        exact ⟨_, rfl, _, rfl, r, _, rfl, DGet.k (k := Sum.inr x) hd, k'⟩
theorem sc_look_at_head : FnScope ["fun", "records", "variables"] ["fun", "records"] (defScope sLookAtHead) := ⟨rfl, rfl, rfl, by decide +kernel, rfl, by decide +kernel, by decide +kernel⟩
theorem ok_look_at_head {f : Addr} {fd : FuncData} (F : Fun K "look_at_head" "look_at_head" sLookAtHead f fd) (T : Txt0 K mg t1 t2 t3 t4) (F_want : FnB1 P w K mg base 1 "want" ["so", "why"] (spWant cR))
    (F_is_name : FnB P w K mg base 2 "is_name" ["thing"] spName) (F_all_unlike : FnB P w K mg base 2 "all_unlike" ["things"] (spAll K)) (F_is_kind : FnB P w K mg base 1 "is_kind" ["thing", "records"] spKind) : FnOk P w K mg base (CX1 P w) 4 f fd ["fun", "records"] (spHd cR) := by
  refine F.ok1 sc_look_at_head (fun vs H Q E h => ?_) (fun cdv A outer s H vs Q E hr h => ?_)
  · obtain ⟨v, l, r, kvs, ns, rfl, _⟩ := h
    rfl
  · obtain ⟨v, l, r, kvs, ns, rfl, hi, hsm, hs2, hd, hn, k1, k2⟩ := h
    have nd := sc_look_at_head.nd
    obtain ⟨a, us, rfl, hu, hl⟩ := hi
    have sq : ∀ H', Same H H' → SqT K H' a us := fun H' s' => .inl (.inl (s' _ _ hu))
    have len := hl.len
    obtain ⟨l1, l2⟩ := small_tup hsm
    refine ⟨_, (qss_cons (qs_expr (qe_fn1 F_want (pass1 raises_cx rfl) (hr.mono (by first | decide | omega)) rfl (qa_cons (qe_and (qe_cmpR op_ge (qe_callB call_len_seq rfl T.n_len PySem.boot_len (qa_cons (qv 0) qa_nil)) qe_int (nomark _)) (qe_one (qe_fn F_is_name (hr.mono (by first | decide | omega)) rfl (qa_cons (qe_ix ix_tup (qv 0) qe_int (fun _ _ => rfl)) qa_nil)))) (qa_cons qe_str qa_nil))))
      (qss_cons (qs_set (i := 2) nd rfl (Or.inl rfl) (qe_ix ix_tup (qv 0) qe_int (fun _ _ => rfl)))
      (qss_cons (qs_expr (qe_fn1 F_want (pass1 raises_cx rfl) (hr.mono (by first | decide | omega)) rfl (qa_cons (qe_and (qe_callB call_isinst rfl T.n_isinstance boot_isi (qa_cons (qv 2) (qa_cons (qe_bltn (v := .ty "tuple") rfl T.n_tuple boot_tuple rfl) qa_nil))) (qe_one (qe_cmpR op_eq (qe_op op_mod (qe_callB call_len_seq rfl T.n_len PySem.boot_len (qa_cons (qv 2) qa_nil)) qe_int) qe_int (nomark _)))) (qa_cons qe_str qa_nil))))
      (qss_cons (qs_expr (qe_fn1 F_want (pass1 raises_cx rfl) (hr.mono (by first | decide | omega)) rfl (qa_cons (qe_cmpR op_le (qe_callB call_len_seq rfl T.n_len PySem.boot_len (qa_cons (qv 2) qa_nil)) (qe_op op_mul qe_int (qe_gint rfl T.g_MOST_VARIABLES)) (nomark _)) (qa_cons qe_str qa_nil))))
      (qss_cons (qs_expr (qe_fn1 F_want (pass1 raises_cx rfl) (hr.mono (by first | decide | omega)) rfl (qa_cons (qe_callB (call_all rfl) rfl T.n_all boot_all (qa_cons (qe_comp (N' := ["name"]) (n := 1) (Caps.nil rfl (by decide) (by decide) (by decide) rfl) rfl (qi_tup (qe_slice2 (qv 2) qo_none)) (fun _ _ _ => ⟨(qg_name (i := 0) (show List.Nodup (["name"] : List Str) from by decide +kernel) rfl (Or.inl rfl)), qts_nil, (qe_fn F_is_name (hr.mono (by first | decide | omega)) rfl (qa_cons (qv 0) qa_nil))⟩)) qa_nil)) (qa_cons qe_str qa_nil))))
      (qss_cons (qs_expr (qe_fn1 F_want (pass1 raises_cx rfl) (hr.mono (by first | decide | omega)) rfl (qa_cons (qe_fn F_all_unlike (hr.mono (by first | decide | omega)) rfl (qa_cons (qe_slice2 (qv 2) qo_none) qa_nil)) (qa_cons qe_str qa_nil))))
      (qss_cons (qs_expr (qe_fn1 F_want (pass1 raises_cx rfl) (hr.mono (by first | decide | omega)) rfl (qa_cons (qe_callB (call_all rfl) rfl T.n_all boot_all (qa_cons (qe_comp (N' := ["kind", "records"]) (n := 1) (js := [1]) (Caps.of rfl rfl (by decide) (by decide) rfl (List.forall_mem_cons.mpr ⟨rfl, (List.forall_mem_nil _)⟩) ["records"] rfl (by decide +kernel) (List.forall_mem_cons.mpr ⟨⟨rfl, rfl, Or.inl rfl⟩, (List.forall_mem_nil _)⟩)) rfl (qi_tup (qe_slice2 (qv 2) (qo_some qe_int))) (fun _ _ _ => ⟨(qg_name (i := 0) (show List.Nodup (["kind", "records"] : List Str) from by decide +kernel) rfl (Or.inl rfl)), qts_nil, (qe_fn F_is_kind (hr.mono (by first | decide | omega)) rfl (qa_cons (qv 0) (qa_cons (qv 1) qa_nil)))⟩)) qa_nil)) (qa_cons qe_str qa_nil))))
      (qss_one (qs_expr (qe_fn1 F_want (pass1 raises_cx rfl) (hr.mono (by first | decide | omega)) rfl (qa_cons (qe_fn F_is_kind (hr.mono (by first | decide | omega)) rfl (qa_cons (qe_ix ix_tup (qv 0) qe_int (fun _ _ => rfl)) (qa_cons (qv 1) qa_nil))) (qa_cons qe_str qa_nil)))))))))))), ?_⟩
    have key : headP ns l = (decide (4 ≤ l.length) && nameT (nth l 1) && kidsP ns (nth l 2) && kindT ns (nth l 3)) := rfl
    refine ⟨_, rfl, a, us, rfl, .inr (sq H (Same.refl H)), _, _, rfl, rfl, _, rfl, ite2 (fun h1 => ?_) (fun h1 => ?_)⟩
    · have g1 : 4 ≤ l.length := by have := of_decide_eq_true h1; omega
      obtain ⟨v1, e1, a1, i1, m1⟩ := nth_at hl 1 (by omega)
      obtain ⟨v2, e2, a2, i2, m2⟩ := nth_at hl 2 (by omega)
      obtain ⟨v3, e3, a3, i3, m3⟩ := nth_at hl 3 (by omega)
      refine ⟨_, rfl, _, _, 1, v1, rfl, rfl, sq H (Same.refl H), a1, v1, _, rfl, i1, l2 _ m1, fun H1 s1 => ⟨_, _, rfl, fun h2 => ?_, fun h2 => k2 ?_ H1 s1⟩⟩
      · refine ⟨_, rfl, _, _, 2, v2, rfl, rfl, sq H1 s1, a2, ?_⟩
        cases ek : nth l 2 with
        | num i =>
          rw [ek] at i2
          cases (show v2 = .int i from i2)
          exact ⟨_, rfl, _, _, _, _, rfl, .int _, rfl, _, rfl, _, _, rfl, fun z => (nomatch z), fun _ => k2 (by rw [key, ek]; simp [kidsP]) H1 s1⟩
        | wd x =>
          rw [ek] at i2
          cases (show v2 = .str x from i2)
          exact ⟨_, rfl, _, _, _, _, rfl, .str _, rfl, _, rfl, _, _, rfl, fun z => (nomatch z), fun _ => k2 (by rw [key, ek]; simp [kidsP]) H1 s1⟩
        | tup vs =>
          rw [ek] at i2 hs2
          obtain ⟨b2, ws, rfl, hw, hwl⟩ := i2
          have wlen := hwl.len
          obtain ⟨r1, r2⟩ := small_tup hs2
          have sw : ∀ H', Same H H' → SqT K H' b2 ws := fun H' s' => .inl (.inl (s' _ _ hw))
          have key2 : kidsP ns (.tup vs) = (decide (vs.length % 2 = 0) && decide (vs.length ≤ 8) && ((alt vs).map nameT).all id && decide (wds (alt vs)).Nodup && ((alt (vs.drop 1)).map (kindT ns)).all id) := rfl
          have no : ∀ H', Same H H' → kidsP ns (.tup vs) = false → E (.ref cR) none H' := fun H' s' e => k2 (by rw [key, ek, e]; simp) H' s'
          refine ⟨_, rfl, _, _, _, _, rfl, .tup (s1 _ _ hw), rfl, _, rfl, iteT ⟨_, rfl, b2, ws, rfl, .inr (sw H1 s1), _, _, rfl, rfl, (show (0 : Int) < 2 by decide), rfl, _, _, rfl, fun h3 => ?_, fun h3 => no H1 s1 ?_⟩⟩
          · have g3 : vs.length % 2 = 0 := by
              have := V.int.inj (of_decide_eq_true h3)
              omega
            refine ⟨_, rfl, b2, ws, rfl, .inr (sw H1 s1), 2, 4, rfl, rfl, .inl ⟨by decide, by decide⟩, _, _, rfl, rfl, _, _, rfl, fun h4 => ?_, fun h4 => no H1 s1 ?_⟩
            · have g4 : vs.length ≤ 8 := by have := of_decide_eq_true h4; omega
              refine ⟨_, rfl, b2, ws, rfl, sw H1 s1, fun p hp => ⟨p, rfl, ⟨_, .inl (.inl upd_same)⟩, fun D hD => ?_⟩⟩
              have s2 : Same H (upd H1 p (.tup (alt ws))) := s1.upd hp
              have al : (alt vs).length ≤ 1000 := by rw [alt_len]; omega
              refine all_comp (l := alt vs) nameT (.inl (.inl upd_same)) hD ((IsThL.alt hwl).mono s2.tups) al (fun v th H' R hm hi' s' kR => ⟨_, rfl, v, th, rfl, hi', r2 _ (alt_mem hm), kR⟩) fun H3 s3 hD3 => ?_
              have s3' := s2.trans s3
              refine ⟨D, _, rfl, .inl (.inl hD3), _, _, rfl, fun h5 => ?_, fun h5 => no H3 s3' ?_⟩
              · obtain ⟨ew, el⟩ := names_wds (IsThL.alt hwl) h5
                refine ⟨_, rfl, b2, ws, rfl, sw H3 s3', fun p2 hp2 => ?_⟩
                have s4 : Same H (upd H3 p2 (.tup (alt ws))) := s3'.upd hp2
                refine ⟨false, p2, wds (alt vs), rfl, .inl (.inl (by rw [← ew]; exact upd_same)), by rw [el]; exact al, fun H5 s5 => ⟨_, _, rfl, fun h6 => ?_, fun h6 => no H5 (s4.trans s5) ?_⟩⟩
                · have s5' := s4.trans s5
                  refine ⟨_, rfl, _, rfl, b2, ws, rfl, sw H5 s5', fun p3 hp3 => ⟨p3, rfl, ⟨_, .inl (.inl upd_same)⟩, fun D2 hD2 => ?_⟩⟩
                  have ed : ws.drop (HT.sIx ws.length 0 (some 1)) = ws.drop 1 := by
                    rw [show (some 1 : Option Int) = some ((1 : Nat) : Int) from rfl, HT.sIx_nat]
                    rcases Nat.le_total 1 ws.length with h | h
                    · rw [Nat.min_eq_left h]
                    · rw [Nat.min_eq_right h, List.drop_of_length_le (Nat.le_refl _), List.drop_of_length_le h]
                  rw [ed] at hD2 ⊢
                  have s6 : Same H (upd H5 p3 (.tup (alt (ws.drop 1)))) := s5'.upd hp3
                  have al2 : (alt (vs.drop 1)).length ≤ 1000 := by rw [alt_len, List.length_drop]; omega
                  refine all_comp (l := alt (vs.drop 1)) (kindT ns) (.inl (.inl upd_same)) hD2 ((IsThL.alt (hwl.drop 1)).mono s6.tups) al2 (fun v th H' R hm hi' s' kR => ⟨_, rfl, _, rfl, v, th, r, kvs, ns, rfl, hi', (s6.trans s') _ _ hd, hn, kR H' (Same.refl H')⟩) fun H7 s7 hD7 => ?_
                  have s7' := s6.trans s7
                  refine ⟨D2, _, rfl, .inl (.inl hD7), _, _, rfl, fun h7 => ?_, fun h7 => no H7 s7' ?_⟩
                  · have kk : kidsP ns (.tup vs) = true := by rw [key2, decide_eq_true g3, decide_eq_true g4, h5, h6, h7]; rfl
                    refine ⟨_, rfl, _, _, 3, v3, rfl, rfl, sq H7 s7', a3, _, rfl, v3, _, r, kvs, ns, rfl, i3.mono s7'.tups, s7' _ _ hd, hn, _, _, rfl, fun h8 => k1 ?_ H7 s7', fun h8 => k2 ?_ H7 s7'⟩
                    · rw [key, ek, decide_eq_true g1, h2, kk, h8]; rfl
                    · rw [key, h8]; simp
                  · rw [key2, h7]; simp
                · rw [key2, h6]; simp
              · rw [key2, h5]; simp
            · have : ¬ vs.length ≤ 8 := fun z => by
                have : decide ((ws.length : Int) ≤ 2 * 4) = true := decide_eq_true (by omega)
                rw [this] at h4
                cases h4
              rw [key2, decide_eq_false this]; simp
          · have : ¬ vs.length % 2 = 0 := fun z => by
              have : decide (V.int ((ws.length : Int) % 2) = V.int 0) = true := decide_eq_true (congrArg V.int (by omega))
              rw [this] at h3
              cases h3
            rw [key2, decide_eq_false this]; simp
      · rw [key, h2]; simp
    · have : ¬ 4 ≤ l.length := fun z => h1 (decide_eq_true (by omega))
      exact ⟨_, _, rfl, fun z => (nomatch z), fun _ => k2 (by rw [key, decide_eq_false this]; simp) H (Same.refl H)⟩
def numT : Th → Bool
  | .wd x => decide (x = "number")
  | _ => false
def kidsOf : Th → List Th
  | .tup vs => vs
  | _ => []
def mainP (l : List Th) : Bool := numT (nth l 3) && ((alt ((kidsOf (nth l 2)).drop 1)).map numT).all id
def txtT : Th → Bool
  | .wd _ => true
  | _ => false
def spMain (cR : Addr) : Sp := fun vs H Q E => ∃ v l, vs = [v] ∧ IsTh H v (.tup l) ∧ l.length ≤ 1000 ∧ 4 ≤ l.length ∧ txtT (nth l 3) = true ∧ (∃ ks, nth l 2 = .tup ks ∧ ks.length ≤ 1000 ∧ ∀ t ∈ alt (ks.drop 1), txtT t = true) ∧
  (mainP l = true → ∀ H', Same H H' → Q .non H') ∧ (mainP l = false → ∀ H', Same H H' → E (.ref cR) none H')
theorem dec_str (x y : Str) : decide (V.str x = V.str y) = decide (x = y) := by
  rw [Bool.eq_iff_iff, decide_eq_true_eq, decide_eq_true_eq]
  exact ⟨V.str.inj, congrArg V.str⟩
theorem sc_look_at_main : FnScope ["fun"] ["fun"] (defScope sLookAtMain) := ⟨rfl, rfl, rfl, by decide +kernel, rfl, by decide +kernel, by decide +kernel⟩
theorem ok_look_at_main {f : Addr} {fd : FuncData} (F : Fun K "look_at_main" "look_at_main" sLookAtMain f fd) (T : Txt0 K mg t1 t2 t3 t4) (F_want : FnB1 P w K mg base 1 "want" ["so", "why"] (spWant cR)) : FnOk P w K mg base (CX1 P w) 2 f fd ["fun"] (spMain cR) := by
  refine F.ok1 sc_look_at_main (fun vs H Q E h => ?_) (fun cdv A outer s H vs Q E hr h => ?_)
  · obtain ⟨v, l, rfl, _⟩ := h
    rfl
  · obtain ⟨v, l, rfl, hi, l1, l4, ht3, ⟨ks, ek, kl, kt⟩, k1, k2⟩ := h
    obtain ⟨a, us, rfl, hu, hl⟩ := hi
    have sq : ∀ H', Same H H' → SqT K H' a us := fun H' s' => .inl (.inl (s' _ _ hu))
    refine ⟨_, (qss_cons (qs_expr (qe_fn1 F_want (pass1 raises_cx rfl) (hr.mono (by first | decide | omega)) rfl (qa_cons (qe_cmpR op_eq (qe_ix ix_tup (qv 0) qe_int (fun _ _ => rfl)) qe_str (nomark _)) (qa_cons qe_str qa_nil))))
      (qss_one (qs_expr (qe_fn1 F_want (pass1 raises_cx rfl) (hr.mono (by first | decide | omega)) rfl (qa_cons (qe_callB (call_all rfl) rfl T.n_all boot_all (qa_cons (qe_comp (N' := ["kind"]) (n := 1) (Caps.nil rfl (by decide) (by decide) (by decide) rfl) rfl (qi_tup (qe_slice2 (qe_ix ix_tup (qv 0) qe_int (fun _ _ => rfl)) (qo_some qe_int))) (fun _ _ _ => ⟨(qg_name (i := 0) (show List.Nodup (["kind"] : List Str) from by decide +kernel) rfl (Or.inl rfl)), qts_nil, (qe_cmpR op_eq (qv 0) qe_str (nomark _))⟩)) qa_nil)) (qa_cons qe_str qa_nil)))))), ?_⟩
    obtain ⟨v2, e2, a2, i2, m2⟩ := nth_at hl 2 (by omega)
    obtain ⟨v3, e3, a3, i3, m3⟩ := nth_at hl 3 (by omega)
    obtain ⟨x3, ex3⟩ : ∃ x, nth l 3 = .wd x := by
      cases e : nth l 3 with
      | num i => rw [e] at ht3; cases ht3
      | tup m => rw [e] at ht3; cases ht3
      | wd x => exact ⟨x, rfl⟩
    rw [ek] at i2
    obtain ⟨b2, ws, rfl, hw, hwl⟩ := i2
    have ev3 : v3 = .str x3 := by rw [ex3] at i3; exact i3
    subst ev3
    have key : mainP l = (decide (x3 = "number") && ((alt (ks.drop 1)).map numT).all id) := by
      unfold mainP
      rw [ex3, ek]
      rfl
    refine ⟨_, rfl, _, _, 3, .str x3, rfl, rfl, sq H (Same.refl H), a3, rfl, _, _, rfl, fun h1 => ?_, fun h1 => k2 ?_ H (Same.refl H)⟩
    · rw [dec_str] at h1
      refine ⟨_, rfl, _, _, 2, .ref b2, rfl, rfl, sq H (Same.refl H), a2, _, rfl, b2, ws, rfl, .inl (.inl hw), fun p3 hp3 => ⟨p3, rfl, ⟨_, .inl (.inl upd_same)⟩, fun D2 hD2 => ?_⟩⟩
      have ed : ws.drop (HT.sIx ws.length 0 (some 1)) = ws.drop 1 := by
        rw [show (some 1 : Option Int) = some ((1 : Nat) : Int) from rfl, HT.sIx_nat]
        rcases Nat.le_total 1 ws.length with h | h
        · rw [Nat.min_eq_left h]
        · rw [Nat.min_eq_right h, List.drop_of_length_le (Nat.le_refl _), List.drop_of_length_le h]
      rw [ed] at hD2 ⊢
      have s6 : Same H (upd H p3 (.tup (alt (ws.drop 1)))) := (Same.refl H).upd hp3
      have al2 : (alt (ks.drop 1)).length ≤ 1000 := by rw [alt_len, List.length_drop]; omega
      refine all_comp (l := alt (ks.drop 1)) numT (.inl (.inl upd_same)) hD2 ((IsThL.alt (hwl.drop 1)).mono s6.tups) al2 (fun v th H' R hm hi' s' kR => ?_) fun H7 s7 hD7 => ?_
      · have tt := kt th hm
        cases th with
        | num i => cases tt
        | tup m => cases tt
        | wd x =>
          cases (show v = .str x from hi')
          have := kR H' (Same.refl H')
          refine ⟨_, rfl, rfl, ?_⟩
          rw [dec_str]
          exact this
      · refine ⟨D2, _, rfl, .inl (.inl hD7), _, _, rfl, fun h7 => k1 ?_ H7 (s6.trans s7), fun h7 => k2 ?_ H7 (s6.trans s7)⟩
        · rw [key, h1, h7]; rfl
        · rw [key, h7]; simp
    · rw [dec_str] at h1
      rw [key, h1]; simp
end
end K08

namespace K08
open PySem PySem.Spec PyProof.Rows L2
/-! ### kinds of values (numbers, names, new records) -/
def kindP (ns : List Str) (ks : List (Str × Str)) : Th → Option Str
  | .num i => if -32768 ≤ i ∧ i ≤ 32767 then some "number" else none
  | .wd x => if x = "yes" ∨ x = "no" then some "truth" else ks.lookup x
  | .tup [.wd _, .wd r] => if r ∈ ns then some r else none
  | .tup _ => none
def eOk : Th → Bool
  | .tup [.wd n, .wd _] => decide (n = "new")
  | .tup _ => false
  | _ => true
def ksV (ks : List (Str × Str)) : List (Key × V) := ks.map fun p => (Sum.inr p.1, V.str p.2)
theorem val_ks : ∀ (ks : List (Str × Str)) (x : Str), valV (ksV ks) (Sum.inr x) = (ks.lookup x).map V.str
  | [], x => rfl
  | (y, k) :: r, x => by
    show valV ((Sum.inr y, V.str k) :: ksV r) (Sum.inr x) = _
    by_cases e : y = x
    · rw [valV_pos (congrArg Sum.inr e), e, List.lookup_cons]
      simp
    · rw [valV_neg (fun z => e (Sum.inr.inj z)), val_ks r x, List.lookup_cons]
      have : (x == y) = false := by
        rw [str_beq]
        exact decide_eq_false e
      rw [this]
structure LookT (K : PySem.W.Frag) (C : Addr) : Prop where
  cl : Cls K C
  n1 : NoAttr K C "records"
  n2 : NoAttr K C "functions"
  n3 : NoAttr K C "gives"
  n4 : NoAttr K C "known"
/-- a look: its records' names, what its function gives, what is known -/
structure Lk (C : Addr) (H : Hp) (o r kn : Addr) (ns : List Str) (g : Str) : Prop where
  ob : ∃ dx fs, H o = some (.ins C dx fs) ∧ fs.lookup ("records" : Str) = some (V.ref r) ∧ fs.lookup ("gives" : Str) = some (V.str g) ∧ fs.lookup ("known" : Str) = some (V.ref kn)
  rcd : ∃ kvs, H r = some (.dK kvs) ∧ kvs.map (·.1) = ns.map Sum.inr
theorem Lk.same {C : Addr} {H H' : Hp} {o r kn : Addr} {ns : List Str} {g : Str} (h : Lk C H o r kn ns g) (s : Same H H') : Lk C H' o r kn ns g := by
  obtain ⟨⟨dx, fs, e, r1, r2, r3⟩, kvs, e2, r4⟩ := h
  exact ⟨⟨dx, fs, s _ _ e, r1, r2, r3⟩, kvs, s _ _ e2, r4⟩
def spKP (C cR : Addr) : Sp := fun vs H Q E => ∃ o r kn ns g v vk t0 r0, vs = [.ref o, v, vk] ∧ Lk C H o r kn ns g ∧ IsTh H v (.tup [.wd t0, .wd r0]) ∧ t0 = "new" ∧
  (r0 ∈ ns → Q (.str r0) H) ∧ (r0 ∉ ns → E (.ref cR) none H)
def spKL (C cR : Addr) : Sp := fun vs H Q E => ∃ o r kn ns g v kd ks e, vs = [.ref o, v, .ref kd] ∧ Lk C H o r kn ns g ∧ H kd = some (.dK (ksV ks)) ∧ IsTh H v e ∧ eOk e = true ∧
  (∀ k, kindP ns ks e = some k → ∀ H', Same H H' → Q (.str k) H') ∧ (kindP ns ks e = none → ∀ H', Same H H' → E (.ref cR) none H')
section
variable {P : Program} {w : World} {K : PySem.W.Frag} {mg : Str → Option Value} {base : Heap} {t1 t2 t3 t4 : Tok} {cP cT cR cM cA cS aO C : Addr}
theorem sc_kind_of_parts : FnScope ["look", "e", "kinds", "fun", "first"] ["look", "e", "kinds"] (defScope sKindOfParts) := ⟨rfl, rfl, rfl, by decide +kernel, rfl, by decide +kernel, by decide +kernel⟩
theorem ok_kind_of_parts {f : Addr} {fd : FuncData} (F : Fun K "kind_of_parts" "kind_of_parts" sKindOfParts f fd) (T : Txt0 K mg t1 t2 t3 t4) (LT : LookT K C) (F_want : FnB1 P w K mg base 1 "want" ["so", "why"] (spWant cR)) : FnOk P w K mg base (CX1 P w) 2 f fd ["look", "e", "kinds"] (spKP C cR) := by
  refine F.ok1 sc_kind_of_parts (fun vs H Q E h => ?_) (fun cdv A outer s H vs Q E hr h => ?_)
  · obtain ⟨o, r, kn, ns, g, v, vk, t0, r0, rfl, _⟩ := h
    rfl
  · obtain ⟨o, r, kn, ns, g, v, vk, t0, r0, rfl, lk, hi, rfl, k1, k2⟩ := h
    have nd := sc_kind_of_parts.nd
    obtain ⟨a, us, rfl, hu, v0, vr, rfl, h0, v1, vr1, rfl, h1, hnil⟩ := hi
    cases (show v0 = .str "new" from h0)
    cases (show v1 = .str r0 from h1)
    cases (show vr1 = [] from hnil)
    obtain ⟨⟨dx, fs, e1, f1, f2, f3⟩, kvs, e2, hn⟩ := lk
    have sq : SqT K H a [.str "new", .str r0] := .inl (.inl hu)
    have at0 : atI [V.str "new", V.str r0] 0 = some (V.str "new") := atI_nat (j := 0) rfl
    have at1 : atI [V.str "new", V.str r0] 1 = some (V.str r0) := atI_nat (j := 1) rfl
    refine ⟨_, (qss_cons (qs_expr (qe_fn1 F_want (pass1 raises_cx rfl) (hr.mono (by first | decide | omega)) rfl (qa_cons (qe_and (qe_cmpR op_gt (qe_callB call_len_seq rfl T.n_len PySem.boot_len (qa_cons (qv 1) qa_nil)) qe_int (nomark _)) (qe_one (qe_callB call_isinst rfl T.n_isinstance boot_isi (qa_cons (qe_ix ix_tup (qv 1) qe_int (fun _ _ => rfl)) (qa_cons (qe_bltn (v := .ty "str") rfl T.n_str boot_str rfl) qa_nil))))) (qa_cons qe_str qa_nil))))
      (qss_cons (qs_if (qt_cmpR op_eq (qe_ix ix_tup (qv 1) qe_int (fun _ _ => rfl)) qe_str (nomark _)) (qss_cons qs_never
      (qss_cons qs_never
      (qss_cons qs_never
      (qss_one qs_never)))) qss_nil)
      (qss_cons (qs_if (qt_cmpR op_eq (qe_ix ix_tup (qv 1) qe_int (fun _ _ => rfl)) qe_str (nomark _)) (qss_cons (qs_expr (qe_fn1 F_want (pass1 raises_cx rfl) (hr.mono (by first | decide | omega)) rfl (qa_cons (qe_and (qe_cmpR op_eq (qe_callB call_len_seq rfl T.n_len PySem.boot_len (qa_cons (qv 1) qa_nil)) qe_int (nomark _)) (qe_and (qe_callB call_isinst rfl T.n_isinstance boot_isi (qa_cons (qe_ix ix_tup (qv 1) qe_int (fun _ _ => rfl)) (qa_cons (qe_bltn (v := .ty "str") rfl T.n_str boot_str rfl) qa_nil))) (qe_one (qe_din (hu_of hr) (qe_ix ix_tup (qv 1) qe_int (fun _ _ => rfl)) (qe_fld (qv 0) rfl))))) (qa_cons qe_str qa_nil))))
      (qss_one (qs_ret (qe_ix ix_tup (qv 1) qe_int (fun _ _ => rfl))))) qss_nil)
      (qss_cons qs_never
      (qss_one qs_never))))), ?_⟩
    refine ⟨_, rfl, a, _, rfl, .inr sq, _, _, rfl, rfl, _, rfl, iteT ?_⟩
    refine ⟨_, rfl, _, _, 0, _, rfl, rfl, sq, at0, _, _, _, _, rfl, .str _, rfl, _, _, rfl, fun _ => ?_, fun z => (nomatch z)⟩
    refine ⟨_, rfl, _, _, 0, _, rfl, rfl, sq, at0, rfl, _, rfl, ite2 (fun h => ?_) (fun _ => ?_)⟩
    · rw [dec_str] at h
      exact absurd (of_decide_eq_true h) (by decide +kernel)
    refine ⟨_, rfl, _, _, 0, _, rfl, rfl, sq, at0, rfl, _, rfl, ite2 (fun _ => ?_) (fun h => ?_)⟩
    · refine ⟨_, rfl, a, _, rfl, .inr sq, rfl, _, rfl, iteT ?_⟩
      refine ⟨_, rfl, _, _, 1, _, rfl, rfl, sq, at1, _, _, _, _, rfl, .str _, rfl, _, rfl, iteT ?_⟩
      refine ⟨_, rfl, _, _, 1, _, rfl, rfl, sq, at1, _, rfl, o, C, dx, fs, _, rfl, e1, LT.cl, LT.n1, f1, r, _, rfl, DGet.k (k := Sum.inr r0) e2, _, _, rfl, fun h => ?_, fun h => k2 ?_⟩
      · rw [keyS hn] at h
        exact ⟨_, rfl, _, _, 1, _, rfl, rfl, sq, at1, k1 (of_decide_eq_true h)⟩
      · rw [keyS hn] at h
        exact of_decide_eq_false h
    · exact absurd (decide_eq_true rfl) h
theorem sc_kind_looked : FnScope ["look", "e", "kinds"] ["look", "e", "kinds"] (defScope sKindLooked) := ⟨rfl, rfl, rfl, by decide +kernel, rfl, by decide +kernel, by decide +kernel⟩
theorem ok_kind_looked {f : Addr} {fd : FuncData} (F : Fun K "kind_looked" "kind_looked" sKindLooked f fd) (T : Txt0 K mg t1 t2 t3 t4) (F_want : FnB1 P w K mg base 1 "want" ["so", "why"] (spWant cR)) (F_is_of_language : FnB P w K mg base 2 "is_of_language" ["thing"] spIsL)
    (F_kind_of_parts : FnB1 P w K mg base 2 "kind_of_parts" ["look", "e", "kinds"] (spKP C cR)) : FnOk P w K mg base (CX1 P w) 3 f fd ["look", "e", "kinds"] (spKL C cR) := by
  refine F.ok1 sc_kind_looked (fun vs H Q E h => ?_) (fun cdv A outer s H vs Q E hr h => ?_)
  · obtain ⟨o, r, kn, ns, g, v, kd, ks, e, rfl, _⟩ := h
    rfl
  · obtain ⟨o, r, kn, ns, g, v, kd, ks, e, rfl, lk, hk, hi, ok, k1, k2⟩ := h
    refine ⟨_, (qss_cons (qs_if (qt_val (qe_callB call_isinst rfl T.n_isinstance boot_isi (qa_cons (qv 1) (qa_cons (qe_bltn (v := .ty "tuple") rfl T.n_tuple boot_tuple rfl) qa_nil)))) (qss_one (qs_ret (qe_fn1 F_kind_of_parts (pass1 raises_cx rfl) (hr.mono (by first | decide | omega)) rfl (qa_cons (qv 0) (qa_cons (qv 1) (qa_cons (qv 2) qa_nil)))))) qss_nil)
      (qss_cons (qs_if (qt_val (qe_callB call_isinst rfl T.n_isinstance boot_isi (qa_cons (qv 1) (qa_cons (qe_bltn (v := .ty "str") rfl T.n_str boot_str rfl) qa_nil)))) (qss_cons (qs_if (qt_cmpR op_in_seq (qv 1) (qe_tup (qa_cons qe_str (qa_cons qe_str qa_nil))) (by with_unfolding_all rfl)) (qss_one (qs_ret qe_str)) qss_nil)
      (qss_cons (qs_expr (qe_fn1 F_want (pass1 raises_cx rfl) (hr.mono (by first | decide | omega)) rfl (qa_cons (qe_din (hu_of hr) (qv 1) (qv 2)) (qa_cons qe_str qa_nil))))
      (qss_one (qs_ret (qe_dget (hu_of hr) (qv 2) (qv 1) (fun _ _ => rfl)))))) qss_nil)
      (qss_cons (qs_expr (qe_fn1 F_want (pass1 raises_cx rfl) (hr.mono (by first | decide | omega)) rfl (qa_cons (qe_fn F_is_of_language (hr.mono (by first | decide | omega)) rfl (qa_cons (qv 1) qa_nil)) (qa_cons qe_str qa_nil))))
      (qss_one (qs_ret qe_str))))), ?_⟩
    cases e with
    | num i =>
      cases (show v = .int i from hi)
      refine ⟨_, rfl, _, _, _, _, rfl, .int _, rfl, _, rfl, ?_⟩
      refine ⟨_, rfl, _, _, _, _, rfl, .int _, rfl, _, rfl, ?_⟩
      refine ⟨_, rfl, i, rfl, _, _, rfl, fun h => ?_, fun h => ?_⟩
      · have h' := of_decide_eq_true h
        exact k1 "number" (if_pos h') H (Same.refl H)
      · have h' := of_decide_eq_false h
        exact k2 (if_neg h') H (Same.refl H)
    | wd x =>
      cases (show v = .str x from hi)
      refine ⟨_, rfl, _, _, _, _, rfl, .str _, rfl, _, rfl, ?_⟩
      refine ⟨_, rfl, _, _, _, _, rfl, .str _, rfl, _, rfl, ?_⟩
      refine ⟨_, rfl, (by show 2 ≤ sizeLine; decide), fun p hp => ⟨p, _, rfl, .inr (.inl (.inl upd_same)), rfl, rfl, _, rfl, ite2 (fun h => ?_) (fun h => ?_)⟩⟩
      · have h' : inV (V.str x) [V.str "yes", V.str "no"] = true := h
        rw [inV_yn] at h'
        have h2 : x = "yes" ∨ x = "no" := by simpa using h'
        exact k1 "truth" (if_pos h2) _ ((Same.refl H).upd hp)
      · have h2 : ¬ (x = "yes" ∨ x = "no") := fun z => h (by
          show inV (V.str x) [V.str "yes", V.str "no"] = true
          rw [inV_yn]
          simpa using z)
        have kp : kindP ns ks (.wd x) = ks.lookup x := if_neg h2
        have hk' : upd H p (.tup [.str "yes", .str "no"]) kd = some (.dK (ksV ks)) := by rw [upd_ne (ne_of_none hk hp)]; exact hk
        refine ⟨_, rfl, _, rfl, kd, _, rfl, DGet.k (k := Sum.inr x) hk', _, _, rfl, fun h3 => ?_, fun h3 => ?_⟩
        · rw [val_ks] at h3
          cases e : ks.lookup x with
          | none => rw [e] at h3; cases h3
          | some k =>
            have e' : valV (ksV ks) (Sum.inr x) = some (V.str k) := by rw [val_ks, e]; rfl
            exact ⟨_, rfl, _, rfl, kd, .str k, rfl, e' ▸ DGet.k (k := Sum.inr x) hk', k1 k (kp.trans e) _ ((Same.refl H).upd hp)⟩
        · rw [val_ks] at h3
          cases e : ks.lookup x with
          | none => exact k2 (kp.trans e) _ ((Same.refl H).upd hp)
          | some k => rw [e] at h3; cases h3
    | tup l =>
      obtain ⟨t0, r0, rfl, et⟩ : ∃ t0 r0, l = [.wd t0, .wd r0] ∧ t0 = "new" := by
        match l, ok with
        | [.wd n, .wd m], ok => exact ⟨n, m, rfl, of_decide_eq_true ok⟩
      have hi' := hi
      obtain ⟨a, us, rfl, hu, _⟩ := hi'
      refine ⟨_, rfl, _, _, _, _, rfl, .tup hu, rfl, _, rfl, ?_⟩
      refine ⟨_, rfl, _, rfl, _, rfl, o, r, kn, ns, g, _, _, t0, r0, rfl, lk, hi, et, fun h => k1 r0 (if_pos h) H (Same.refl H), fun h => k2 (if_neg h) H (Same.refl H)⟩
end
end K08

namespace K08
open PySem PySem.Spec PyProof.Rows L2
def partsP (ns : List Str) (ks : List (Str × Str)) (ps : List Th) (ws : List Str) : Bool := decide (ps.length = ws.length) && (ps.zip ws).all fun p => decide (kindP ns ks p.1 = some p.2)
def spLP (K : PySem.W.Frag) (C cR : Addr) : Sp := fun vs H Q E => ∃ o r kn ns g a b kd ks us ps ws, vs = [.ref o, .ref a, .ref b, .ref kd] ∧ Lk C H o r kn ns g ∧ H kd = some (.dK (ksV ks)) ∧ SqT K H a us ∧ IsThL H us ps ∧ SqT K H b (ws.map V.str) ∧ ps.length ≤ 1000 ∧ (∀ e ∈ ps, eOk e = true) ∧
  (partsP ns ks ps ws = true → ∀ H', Same H H' → Q .non H') ∧ (partsP ns ks ps ws = false → ∀ H', Same H H' → E (.ref cR) none H')
theorem sqt_same {K : PySem.W.Frag} {H H' : Hp} {a : Addr} {xs : List V} (s : Same H H') (h : SqT K H a xs) : SqT K H' a xs := SqB.same (b := false) s h
section
variable {P : Program} {w : World} {K : PySem.W.Frag} {mg : Str → Option Value} {base : Heap} {t1 t2 t3 t4 : Tok} {cP cT cR cM cA cS aO C : Addr}
theorem sc_look_at_parts : FnScope ["look", "parts", "wanted", "kinds", "part", "kind"] ["look", "parts", "wanted", "kinds"] (defScope sLookAtParts) := ⟨rfl, rfl, rfl, by decide +kernel, rfl, by decide +kernel, by decide +kernel⟩
theorem ok_look_at_parts {f : Addr} {fd : FuncData} (F : Fun K "look_at_parts" "look_at_parts" sLookAtParts f fd) (T : Txt0 K mg t1 t2 t3 t4) (F_want : FnB1 P w K mg base 1 "want" ["so", "why"] (spWant cR))
    (F_kind_looked : FnB1 P w K mg base 3 "kind_looked" ["look", "e", "kinds"] (spKL C cR)) : FnOk P w K mg base (CX1 P w) 4 f fd ["look", "parts", "wanted", "kinds"] (spLP K C cR) := by
  refine F.ok1 sc_look_at_parts (fun vs H Q E h => ?_) (fun cdv A outer s H vs Q E hr h => ?_)
  · obtain ⟨o, r, kn, ns, g, a, b, kd, ks, us, ps, ws, rfl, _⟩ := h
    rfl
  · obtain ⟨o, r, kn, ns, g, a, b, kd, ks, us, ps, ws, rfl, lk, hk, ha, hi, hb, hl, ok, k1, k2⟩ := h
    have nd := sc_look_at_parts.nd
    have len := hi.len
    have key : partsP ns ks ps ws = (decide (ps.length = ws.length) && (ps.zip ws).all fun p => decide (kindP ns ks p.1 = some p.2)) := rfl
    refine ⟨_, (qss_cons (qs_expr (qe_fn1 F_want (pass1 raises_cx rfl) (hr.mono (by first | decide | omega)) rfl (qa_cons (qe_cmpR op_eq (qe_callB call_len_seq rfl T.n_len PySem.boot_len (qa_cons (qv 1) qa_nil)) (qe_callB call_len_seq rfl T.n_len PySem.boot_len (qa_cons (qv 2) qa_nil)) (nomark _)) (qa_cons qe_str qa_nil))))
      (qss_one (qs_for PassesOwn.leaving rfl (qi_zipB (b := false) (c := false) rfl T.n_zip (qa_cons (qv 1) (qa_cons (qv 2) qa_nil))) (qg_tup rfl (qgs_cons (qg_name (i := 4) nd rfl (Or.inl rfl)) (qgs_cons (qg_name (i := 5) nd rfl (Or.inl rfl)) qgs_nil))) (qss_one (qs_expr (qe_fn1 F_want (pass1 raises_cx rfl) (hr.mono (by first | decide | omega)) rfl (qa_cons (qe_cmpR op_eq (qe_fn1 F_kind_looked (pass1 raises_cx rfl) (hr.mono (by first | decide | omega)) rfl (qa_cons (qv 0) (qa_cons (qv 4) (qa_cons (qv 3) qa_nil)))) (qv 5) (nomark _)) (qa_cons qe_str qa_nil)))))))), ?_⟩
    refine ⟨_, rfl, a, us, rfl, .inr ha, _, rfl, b, _, rfl, .inr hb, rfl, _, _, rfl, fun h1 => ?_, fun h1 => k2 ?_ H (Same.refl H)⟩
    · have g1 : ps.length = ws.length := by
        have := V.int.inj (of_decide_eq_true h1)
        simp at this
        omega
      refine ⟨_, rfl, _, rfl, a, b, rfl, ⟨_, ha⟩, ⟨_, hb⟩, ?_⟩
      refine for_zipB (xs := us) (ys := ws.map V.str) (fun i σ H' => (∃ o1 o2, σ = [some (.ref o), some (.ref a), some (.ref b), some (.ref kd), o1, o2]) ∧ Same H H' ∧ ((ps.zip ws).take i).all (fun p => decide (kindP ns ks p.1 = some p.2)) = true) ⟨⟨_, _, rfl⟩, Same.refl H, by simp⟩ ?_ (by rw [len, g1, List.length_map]) ?_ ?_
      · rintro i σ H' _ ⟨_, sm, _⟩
        exact ⟨sqt_same sm ha, sqt_same sm hb⟩
      · rintro i x y σ H' tp hx hy ⟨⟨o1, o2, rfl⟩, sm, al⟩ htp
        obtain ⟨e, he, ie⟩ := hi.get hx
        obtain ⟨q, hq, rfl⟩ : ∃ q, ws[i]? = some q ∧ y = V.str q := by
          rw [List.getElem?_map] at hy
          cases e : ws[i]? with
          | none => rw [e] at hy; cases hy
          | some q => rw [e] at hy; exact ⟨q, rfl, (Option.some.inj hy).symm⟩
        have smp : Same H (upd H' tp (.tup [x, .str q])) := sm.upd htp
        have hz : (ps.zip ws)[i]? = some (e, q) := by rw [List.getElem?_zip_eq_some]; exact ⟨he, hq⟩
        have tk : (ps.zip ws).take (i + 1) = (ps.zip ws).take i ++ [(e, q)] := by rw [List.take_add_one, hz]; rfl
        have bad : kindP ns ks e ≠ some q → partsP ns ks ps ws = false := fun h => by
          have : ((ps.zip ws).all fun p => decide (kindP ns ks p.1 = some p.2)) = false := by
            rw [Bool.eq_false_iff]
            intro z
            rw [List.all_eq_true] at z
            exact h (of_decide_eq_true (z (e, q) (List.mem_of_getElem? hz)))
          rw [key, this, Bool.and_false]
        refine ⟨tp, _, rfl, SqT.of upd_same, rfl, _, _, rfl, _, _, rfl, rfl, ?_⟩
        refine ⟨_, rfl, _, rfl, _, rfl, o, r, kn, ns, g, x, kd, ks, e, rfl, lk.same smp, smp _ _ hk, ie.mono smp.tups, ok e (List.mem_of_getElem? he), fun k hkp H1 s1 => ?_, fun hkp H1 s1 => k2 (bad (by rw [hkp]; simp)) H1 (smp.trans s1)⟩
        refine ⟨_, rfl, rfl, _, _, rfl, fun h2 => ?_, fun h2 => k2 (bad ?_) H1 (smp.trans s1)⟩
        · rw [dec_str] at h2
          have e2 := of_decide_eq_true h2
          refine ⟨⟨_, _, rfl⟩, smp.trans s1, ?_⟩
          rw [tk, List.all_append, al, Bool.true_and, List.all_cons, hkp, e2]
          simp
        · rw [dec_str] at h2
          have e2 := of_decide_eq_false h2
          rw [hkp]
          exact fun z => e2 (Option.some.inj z)
      · rintro σ H' ⟨_, sm, al⟩
        rw [List.take_of_length_le (by rw [List.length_zip, len]; exact Nat.min_le_left _ _)] at al
        refine k1 ?_ H' sm
        rw [key, al, decide_eq_true g1]; rfl
    · have : ¬ ps.length = ws.length := fun z => by
        have : decide (V.int (us.length : Int) = V.int ((ws.map V.str).length : Int)) = true := decide_eq_true (congrArg V.int (by simp; omega))
        rw [this] at h1
        cases h1
      rw [key, decide_eq_false this]; rfl
end
end K08

namespace K08
open PySem PySem.Spec PyProof.Rows L2
inductive Res (α : Type) where
  | big | no | ok (a : α)
abbrev StR := Res (Bool × List Str × List (Str × Str))
def putP (ks : List (Str × Str)) (x k : Str) : List (Str × Str) := if (ks.any fun p => decide (p.1 = x)) = true then ks.map (fun p => if p.1 = x then (p.1, k) else p) else ks ++ [(x, k)]
def stsL (f : List Str → List (Str × Str) → Th → StR) : Bool → List Str → List (Str × Str) → List Th → Res (Bool × List Str)
  | e, kn, _, [] => .ok (e, kn)
  | e, kn, ks, s :: r => if e = true then .no else match f kn ks s with
    | .ok (e', kn', ks') => stsL f e' kn' ks' r
    | .no => .no
    | .big => .big
def giveP (ns : List Str) (g : Str) (kn : List Str) (ks : List (Str × Str)) (e : Th) : StR := if eOk e = true then (if partsP ns ks [e] [g] = true then .ok (true, kn, ks) else .no) else .big
def outP (ns : List Str) (kn : List Str) (ks : List (Str × Str)) (e : Th) : StR := if eOk e = true then (if partsP ns ks [e] ["number"] = true then .ok (false, kn, ks) else .no) else .big
def doP (ns : List Str) (kn : List Str) (ks : List (Str × Str)) (e : Th) : StR := if eOk e = true then (if (kindP ns ks e).isSome = true then .ok (false, kn, ks) else .no) else .big
def failP (kn : List Str) (ks : List (Str × Str)) : Th → StR
  | .num i => if -32768 ≤ i ∧ i ≤ 32767 then .ok (true, kn, ks) else .no
  | _ => .big
def letQ (ns : List Str) (kn : List Str) (ks : List (Str × Str)) (e : Th) : Th → StR
  | .wd x => if nameS x = true ∧ x ∉ kn then (match kindP ns ks e with | some k => .ok (false, kn ++ [x], putP ks x k) | none => .no) else .no
  | _ => .no
def letP (ns : List Str) (kn : List Str) (ks : List (Str × Str)) (t e : Th) : StR := if ascT t = true ∧ eOk e = true ∧ kn.length < 1000 ∧ ks.length < 1000 then letQ ns kn ks e t else .big
def whileP (ns : List Str) (kn : List Str) (ks : List (Str × Str)) (c : Th) (r : Res (Bool × List Str)) : StR :=
  if eOk c = true then (if partsP ns ks [c] ["truth"] = true then (match r with | .ok (_, kn') => .ok (false, kn', ks) | .no => .no | .big => .big) else .no) else .big
def ifP (ns : List Str) (ks : List (Str × Str)) (c : Th) (r : Res (Bool × List Str)) (r2 : List Str → Res (Bool × List Str)) : StR :=
  if eOk c = true then (if partsP ns ks [c] ["truth"] = true then (match r with
    | .ok (b1, kn1) => (match r2 kn1 with | .ok (b2, kn2) => .ok (b1 && b2, kn2, ks) | .no => .no | .big => .big)
    | .no => .no
    | .big => .big) else .no) else .big
def stP : Nat → List Str → Str → List Str → List (Str × Str) → Th → StR
  | 0, _, _, _, _, _ => .big
  | _ + 1, ns, g, kn, ks, .tup [.wd h, e] => if h = "give" then giveP ns g kn ks e else if h = "out" then outP ns kn ks e else if h = "do" then doP ns kn ks e else if h = "fail" then failP kn ks e else .big
  | n + 1, ns, g, kn, ks, .tup [.wd h, t, e] => if h = "let" then letP ns kn ks t e else if h = "while" then (match e with | .tup A => whileP ns kn ks t (stsL (stP n ns g) false kn ks A) | _ => .big) else .big
  | n + 1, ns, g, kn, ks, .tup [.wd h, c, .tup A, .tup B] => if h = "if" then ifP ns ks c (stsL (stP n ns g) false kn ks A) (fun kn1 => stsL (stP n ns g) false kn1 ks B) else .big
  | _ + 1, _, _, _, _, _ => .big
def knV (kn : List Str) : List (Key × V) := kn.map fun y => (Sum.inr y, V.bl true)
/-- all but what lies at xs stays -/
def Sx (xs : List Addr) (H H' : Hp) : Prop := ∀ b o, H b = some o → b ∉ xs → H' b = some o
theorem Sx.trans {xs : List Addr} {H H1 H2 : Hp} (a : Sx xs H H1) (b : Sx xs H1 H2) : Sx xs H H2 := fun c o h n => b c o (a c o h n) n
theorem sx_same {xs : List Addr} {H H1 : Hp} (a : Same H H1) : Sx xs H H1 := fun c o h _ => a c o h
/-- a look and the kinds round a statement -/
structure LkS (C : Addr) (H : Hp) (o r kn kd : Addr) (ns : List Str) (g : Str) (kns : List Str) (ks : List (Str × Str)) : Prop where
  lk : Lk C H o r kn ns g
  hkn : H kn = some (.dK (knV kns))
  hkd : H kd = some (.dK (ksV ks))
  d1 : r ≠ kn
  d2 : r ≠ kd
  d3 : kn ≠ kd
theorem LkS.same {C : Addr} {H H' : Hp} {o r kn kd : Addr} {ns : List Str} {g : Str} {kns : List Str} {ks : List (Str × Str)} (h : LkS C H o r kn kd ns g kns ks) (s : Same H H') : LkS C H' o r kn kd ns g kns ks :=
  ⟨h.lk.same s, s _ _ h.hkn, s _ _ h.hkd, h.d1, h.d2, h.d3⟩
theorem LkS.move {C : Addr} {H H' : Hp} {o r kn kd : Addr} {ns : List Str} {g : Str} {kns kns' : List Str} {ks ks' : List (Str × Str)} (h : LkS C H o r kn kd ns g kns ks) (s : Sx [kn, kd] H H') (e1 : H' kn = some (.dK (knV kns'))) (e2 : H' kd = some (.dK (ksV ks'))) : LkS C H' o r kn kd ns g kns' ks' := by
  obtain ⟨⟨⟨dx, fs, e, r1, r2, r3⟩, kvs, e3, r4⟩, h1, h2, d1, d2, d3⟩ := h
  have no1 : o ≠ kn := ne_of e h1 (by simp)
  have no2 : o ≠ kd := ne_of e h2 (by simp)
  exact ⟨⟨⟨dx, fs, s _ _ e (by simp [no1, no2]), r1, r2, r3⟩, kvs, s _ _ e3 (by simp [d1, d2]), r4⟩, e1, e2, d1, d2, d3⟩
theorem LkS.tups {C : Addr} {H H' : Hp} {o r kn kd : Addr} {ns : List Str} {g : Str} {kns : List Str} {ks : List (Str × Str)} (h : LkS C H o r kn kd ns g kns ks) (s : Sx [kn, kd] H H') : Tups H H' := fun b xs e =>
  s b _ e (by simp [ne_of e h.hkn (by simp), ne_of e h.hkd (by simp)])
/-- what a statement's def does -/
def spA (n : Nat) (C cR : Addr) (h : Str) : Sp := fun vs H Q E => ∃ o r kn kd ns g kns ks v rest, vs = [.ref o, v, .ref kd] ∧ LkS C H o r kn kd ns g kns ks ∧ IsTh H v (.tup (.wd h :: rest)) ∧ rest.length ≤ 900 ∧ stP n ns g kns ks (.tup (.wd h :: rest)) ≠ .big ∧
  (∀ b kns' ks', stP n ns g kns ks (.tup (.wd h :: rest)) = .ok (b, kns', ks') → ∀ H', Sx [kn, kd] H H' → H' kn = some (.dK (knV kns')) → H' kd = some (.dK (ksV ks')) → Q (.bl b) H') ∧
  (stP n ns g kns ks (.tup (.wd h :: rest)) = .no → ∀ H', Sx [kn, kd] H H' → E (.ref cR) none H')
end K08

namespace K08
open PySem PySem.Spec PyProof.Rows L2
theorem st_give {n : Nat} {ns : List Str} {g : Str} {kn : List Str} {ks : List (Str × Str)} {rest : List Th} (hb : stP n ns g kn ks (.tup (.wd "give" :: rest)) ≠ .big) : ∃ e, rest = [e] ∧ stP n ns g kn ks (.tup [.wd "give", e]) = giveP ns g kn ks e := by
  cases n with
  | zero => exact absurd rfl hb
  | succ n =>
    match rest, hb with
    | [], hb => exact absurd rfl hb
    | [e], hb =>
      refine ⟨e, rfl, ?_⟩
      show (if ("give" : Str) = "give" then giveP ns g kn ks e else if ("give" : Str) = "out" then outP ns kn ks e else if ("give" : Str) = "do" then doP ns kn ks e else if ("give" : Str) = "fail" then failP kn ks e else .big) = _
      rw [if_pos rfl]
    | [t, e], hb =>
      refine absurd ?_ hb
      show (if ("give" : Str) = "let" then letP ns kn ks t e else if ("give" : Str) = "while" then _ else (.big : StR)) = _
      rw [if_neg (by decide +kernel), if_neg (by decide +kernel)]
    | [c, .tup A, .tup B], hb =>
      refine absurd ?_ hb
      show (if ("give" : Str) = "if" then ifP ns ks c (stsL (stP n ns g) false kn ks A) (fun kn1 => stsL (stP n ns g) false kn1 ks B) else (.big : StR)) = _
      rw [if_neg (by decide +kernel)]
    | [c, .num i, y], hb => exact absurd (by cases y <;> rfl) hb
    | [c, .wd i, y], hb => exact absurd (by cases y <;> rfl) hb
    | [c, .tup i, .num j], hb => exact absurd rfl hb
    | [c, .tup i, .wd j], hb => exact absurd rfl hb
    | a :: x :: y :: z :: r, hb => exact absurd (by cases x <;> cases y <;> rfl) hb
theorem st_out {n : Nat} {ns : List Str} {g : Str} {kn : List Str} {ks : List (Str × Str)} {rest : List Th} (hb : stP n ns g kn ks (.tup (.wd "out" :: rest)) ≠ .big) : ∃ e, rest = [e] ∧ stP n ns g kn ks (.tup [.wd "out", e]) = outP ns kn ks e := by
  cases n with
  | zero => exact absurd rfl hb
  | succ n =>
    match rest, hb with
    | [], hb => exact absurd rfl hb
    | [e], hb =>
      refine ⟨e, rfl, ?_⟩
      show (if ("out" : Str) = "give" then giveP ns g kn ks e else if ("out" : Str) = "out" then outP ns kn ks e else if ("out" : Str) = "do" then doP ns kn ks e else if ("out" : Str) = "fail" then failP kn ks e else .big) = _
      rw [if_neg (by decide +kernel), if_pos rfl]
    | [t, e], hb =>
      refine absurd ?_ hb
      show (if ("out" : Str) = "let" then letP ns kn ks t e else if ("out" : Str) = "while" then _ else (.big : StR)) = _
      rw [if_neg (by decide +kernel), if_neg (by decide +kernel)]
    | [c, .tup A, .tup B], hb =>
      refine absurd ?_ hb
      show (if ("out" : Str) = "if" then ifP ns ks c (stsL (stP n ns g) false kn ks A) (fun kn1 => stsL (stP n ns g) false kn1 ks B) else (.big : StR)) = _
      rw [if_neg (by decide +kernel)]
    | [c, .num i, y], hb => exact absurd (by cases y <;> rfl) hb
    | [c, .wd i, y], hb => exact absurd (by cases y <;> rfl) hb
    | [c, .tup i, .num j], hb => exact absurd rfl hb
    | [c, .tup i, .wd j], hb => exact absurd rfl hb
    | a :: x :: y :: z :: r, hb => exact absurd (by cases x <;> cases y <;> rfl) hb
theorem st_do {n : Nat} {ns : List Str} {g : Str} {kn : List Str} {ks : List (Str × Str)} {rest : List Th} (hb : stP n ns g kn ks (.tup (.wd "do" :: rest)) ≠ .big) : ∃ e, rest = [e] ∧ stP n ns g kn ks (.tup [.wd "do", e]) = doP ns kn ks e := by
  cases n with
  | zero => exact absurd rfl hb
  | succ n =>
    match rest, hb with
    | [], hb => exact absurd rfl hb
    | [e], hb =>
      refine ⟨e, rfl, ?_⟩
      show (if ("do" : Str) = "give" then giveP ns g kn ks e else if ("do" : Str) = "out" then outP ns kn ks e else if ("do" : Str) = "do" then doP ns kn ks e else if ("do" : Str) = "fail" then failP kn ks e else .big) = _
      rw [if_neg (by decide +kernel), if_neg (by decide +kernel), if_pos rfl]
    | [t, e], hb =>
      refine absurd ?_ hb
      show (if ("do" : Str) = "let" then letP ns kn ks t e else if ("do" : Str) = "while" then _ else (.big : StR)) = _
      rw [if_neg (by decide +kernel), if_neg (by decide +kernel)]
    | [c, .tup A, .tup B], hb =>
      refine absurd ?_ hb
      show (if ("do" : Str) = "if" then ifP ns ks c (stsL (stP n ns g) false kn ks A) (fun kn1 => stsL (stP n ns g) false kn1 ks B) else (.big : StR)) = _
      rw [if_neg (by decide +kernel)]
    | [c, .num i, y], hb => exact absurd (by cases y <;> rfl) hb
    | [c, .wd i, y], hb => exact absurd (by cases y <;> rfl) hb
    | [c, .tup i, .num j], hb => exact absurd rfl hb
    | [c, .tup i, .wd j], hb => exact absurd rfl hb
    | a :: x :: y :: z :: r, hb => exact absurd (by cases x <;> cases y <;> rfl) hb
theorem st_fail {n : Nat} {ns : List Str} {g : Str} {kn : List Str} {ks : List (Str × Str)} {rest : List Th} (hb : stP n ns g kn ks (.tup (.wd "fail" :: rest)) ≠ .big) : ∃ e, rest = [e] ∧ stP n ns g kn ks (.tup [.wd "fail", e]) = failP kn ks e := by
  cases n with
  | zero => exact absurd rfl hb
  | succ n =>
    match rest, hb with
    | [], hb => exact absurd rfl hb
    | [e], hb =>
      refine ⟨e, rfl, ?_⟩
      show (if ("fail" : Str) = "give" then giveP ns g kn ks e else if ("fail" : Str) = "out" then outP ns kn ks e else if ("fail" : Str) = "do" then doP ns kn ks e else if ("fail" : Str) = "fail" then failP kn ks e else .big) = _
      rw [if_neg (by decide +kernel), if_neg (by decide +kernel), if_neg (by decide +kernel), if_pos rfl]
    | [t, e], hb =>
      refine absurd ?_ hb
      show (if ("fail" : Str) = "let" then letP ns kn ks t e else if ("fail" : Str) = "while" then _ else (.big : StR)) = _
      rw [if_neg (by decide +kernel), if_neg (by decide +kernel)]
    | [c, .tup A, .tup B], hb =>
      refine absurd ?_ hb
      show (if ("fail" : Str) = "if" then ifP ns ks c (stsL (stP n ns g) false kn ks A) (fun kn1 => stsL (stP n ns g) false kn1 ks B) else (.big : StR)) = _
      rw [if_neg (by decide +kernel)]
    | [c, .num i, y], hb => exact absurd (by cases y <;> rfl) hb
    | [c, .wd i, y], hb => exact absurd (by cases y <;> rfl) hb
    | [c, .tup i, .num j], hb => exact absurd rfl hb
    | [c, .tup i, .wd j], hb => exact absurd rfl hb
    | a :: x :: y :: z :: r, hb => exact absurd (by cases x <;> cases y <;> rfl) hb
theorem st_let {n : Nat} {ns : List Str} {g : Str} {kn : List Str} {ks : List (Str × Str)} {rest : List Th} (hb : stP n ns g kn ks (.tup (.wd "let" :: rest)) ≠ .big) : ∃ t e, rest = [t, e] ∧ stP n ns g kn ks (.tup [.wd "let", t, e]) = letP ns kn ks t e := by
  cases n with
  | zero => exact absurd rfl hb
  | succ n =>
    match rest, hb with
    | [], hb => exact absurd rfl hb
    | [e], hb =>
      refine absurd ?_ hb
      show (if ("let" : Str) = "give" then giveP ns g kn ks e else if ("let" : Str) = "out" then outP ns kn ks e else if ("let" : Str) = "do" then doP ns kn ks e else if ("let" : Str) = "fail" then failP kn ks e else .big) = _
      rw [if_neg (by decide +kernel), if_neg (by decide +kernel), if_neg (by decide +kernel), if_neg (by decide +kernel)]
    | [t, e], hb =>
      refine ⟨t, e, rfl, ?_⟩
      show (if ("let" : Str) = "let" then letP ns kn ks t e else _) = _
      rw [if_pos rfl]
    | [c, .tup A, .tup B], hb =>
      refine absurd ?_ hb
      show (if ("let" : Str) = "if" then ifP ns ks c (stsL (stP n ns g) false kn ks A) (fun kn1 => stsL (stP n ns g) false kn1 ks B) else (.big : StR)) = _
      rw [if_neg (by decide +kernel)]
    | [c, .num i, y], hb => exact absurd (by cases y <;> rfl) hb
    | [c, .wd i, y], hb => exact absurd (by cases y <;> rfl) hb
    | [c, .tup i, .num j], hb => exact absurd rfl hb
    | [c, .tup i, .wd j], hb => exact absurd rfl hb
    | a :: x :: y :: z :: r, hb => exact absurd (by cases x <;> cases y <;> rfl) hb
theorem st_while {n : Nat} {ns : List Str} {g : Str} {kn : List Str} {ks : List (Str × Str)} {rest : List Th} (hb : stP n ns g kn ks (.tup (.wd "while" :: rest)) ≠ .big) : ∃ m c A, n = m + 1 ∧ rest = [c, .tup A] ∧ stP n ns g kn ks (.tup [.wd "while", c, .tup A]) = whileP ns kn ks c (stsL (stP m ns g) false kn ks A) := by
  cases n with
  | zero => exact absurd rfl hb
  | succ n =>
    match rest, hb with
    | [], hb => exact absurd rfl hb
    | [e], hb =>
      refine absurd ?_ hb
      show (if ("while" : Str) = "give" then giveP ns g kn ks e else if ("while" : Str) = "out" then outP ns kn ks e else if ("while" : Str) = "do" then doP ns kn ks e else if ("while" : Str) = "fail" then failP kn ks e else .big) = _
      rw [if_neg (by decide +kernel), if_neg (by decide +kernel), if_neg (by decide +kernel), if_neg (by decide +kernel)]
    | [t, e], hb =>
      cases e with
      | num i =>
        refine absurd ?_ hb
        show (if ("while" : Str) = "let" then letP ns kn ks t (.num i) else if ("while" : Str) = "while" then (.big : StR) else .big) = _
        rw [if_neg (by decide +kernel), if_pos rfl]
      | wd x =>
        refine absurd ?_ hb
        show (if ("while" : Str) = "let" then letP ns kn ks t (.wd x) else if ("while" : Str) = "while" then (.big : StR) else .big) = _
        rw [if_neg (by decide +kernel), if_pos rfl]
      | tup A =>
        refine ⟨n, t, A, rfl, rfl, ?_⟩
        show (if ("while" : Str) = "let" then letP ns kn ks t (.tup A) else if ("while" : Str) = "while" then (whileP ns kn ks t (stsL (stP n ns g) false kn ks A) : StR) else .big) = _
        rw [if_neg (by decide +kernel), if_pos rfl]
    | [c, .tup A, .tup B], hb =>
      refine absurd ?_ hb
      show (if ("while" : Str) = "if" then ifP ns ks c (stsL (stP n ns g) false kn ks A) (fun kn1 => stsL (stP n ns g) false kn1 ks B) else (.big : StR)) = _
      rw [if_neg (by decide +kernel)]
    | [c, .num i, y], hb => exact absurd (by cases y <;> rfl) hb
    | [c, .wd i, y], hb => exact absurd (by cases y <;> rfl) hb
    | [c, .tup i, .num j], hb => exact absurd rfl hb
    | [c, .tup i, .wd j], hb => exact absurd rfl hb
    | a :: x :: y :: z :: r, hb => exact absurd (by cases x <;> cases y <;> rfl) hb
theorem st_if {n : Nat} {ns : List Str} {g : Str} {kn : List Str} {ks : List (Str × Str)} {rest : List Th} (hb : stP n ns g kn ks (.tup (.wd "if" :: rest)) ≠ .big) : ∃ m c A B, n = m + 1 ∧ rest = [c, .tup A, .tup B] ∧ stP n ns g kn ks (.tup [.wd "if", c, .tup A, .tup B]) = ifP ns ks c (stsL (stP m ns g) false kn ks A) (fun kn1 => stsL (stP m ns g) false kn1 ks B) := by
  cases n with
  | zero => exact absurd rfl hb
  | succ n =>
    match rest, hb with
    | [], hb => exact absurd rfl hb
    | [e], hb =>
      refine absurd ?_ hb
      show (if ("if" : Str) = "give" then giveP ns g kn ks e else if ("if" : Str) = "out" then outP ns kn ks e else if ("if" : Str) = "do" then doP ns kn ks e else if ("if" : Str) = "fail" then failP kn ks e else .big) = _
      rw [if_neg (by decide +kernel), if_neg (by decide +kernel), if_neg (by decide +kernel), if_neg (by decide +kernel)]
    | [t, e], hb =>
      refine absurd ?_ hb
      show (if ("if" : Str) = "let" then letP ns kn ks t e else if ("if" : Str) = "while" then _ else (.big : StR)) = _
      rw [if_neg (by decide +kernel), if_neg (by decide +kernel)]
    | [c, .tup A, .tup B], hb =>
      refine ⟨n, c, A, B, rfl, rfl, ?_⟩
      show (if ("if" : Str) = "if" then ifP ns ks c (stsL (stP n ns g) false kn ks A) (fun kn1 => stsL (stP n ns g) false kn1 ks B) else (.big : StR)) = _
      rw [if_pos rfl]
    | [c, .num i, y], hb => exact absurd (by cases y <;> rfl) hb
    | [c, .wd i, y], hb => exact absurd (by cases y <;> rfl) hb
    | [c, .tup i, .num j], hb => exact absurd rfl hb
    | [c, .tup i, .wd j], hb => exact absurd rfl hb
    | a :: x :: y :: z :: r, hb => exact absurd (by cases x <;> cases y <;> rfl) hb
theorem put_ks (ks : List (Str × Str)) (x k : Str) : putK (ksV ks) (Sum.inr x) (V.str k) = ksV (putP ks x k) := by
  have e : ((ksV ks).any fun kv => decide (kv.1 = (Sum.inr x : Key))) = ks.any fun p => decide (p.1 = x) := by
    unfold ksV
    rw [List.any_map]
    congr 1
    funext p
    show decide ((Sum.inr p.1 : Key) = Sum.inr x) = decide (p.1 = x)
    rw [Bool.eq_iff_iff, decide_eq_true_eq, decide_eq_true_eq]
    exact ⟨Sum.inr.inj, congrArg _⟩
  unfold putK putP
  rw [e]
  by_cases h : (ks.any fun p => decide (p.1 = x)) = true
  · rw [if_pos h, if_pos h]
    unfold ksV
    rw [List.map_map, List.map_map]
    congr 1
    funext p
    show (if (Sum.inr p.1 : Key) = Sum.inr x then _ else _) = _
    by_cases q : p.1 = x
    · rw [if_pos (congrArg _ q)]
      simp [q]
    · rw [if_neg fun z => q (Sum.inr.inj z)]
      simp [q]
  · rw [if_neg h, if_neg h]
    simp [ksV]
end K08

namespace K08
open PySem PySem.Spec PyProof.Rows L2
structure TxT (K : PySem.W.Frag) (w : World) (mg : Str → Option Value) (aT aU : Addr) : Prop where
  g_TAKES : mg "TAKES" = some (.ref aT)
  takes : KTab K w aT [("out", .ref aU)]
  out : ∀ H, SqT K H aU [.str "number"]
section
variable {P : Program} {w : World} {K : PySem.W.Frag} {mg : Str → Option Value} {base : Heap} {t1 t2 t3 t4 : Tok} {cP cT cR cM cA cS aO C aT aU : Addr}
theorem sc_look_at_give : FnScope ["look", "statement", "kinds"] ["look", "statement", "kinds"] (defScope sLookAtGive) := ⟨rfl, rfl, rfl, by decide +kernel, rfl, by decide +kernel, by decide +kernel⟩
theorem ok_look_at_give {f : Addr} {fd : FuncData} {n k : Nat} (hk : 4 ≤ k) (F : Fun K "look_at_give" "look_at_give" sLookAtGive f fd) (LT : LookT K C) (F_look_at_parts : FnB1 P w K mg base 4 "look_at_parts" ["look", "parts", "wanted", "kinds"] (spLP K C cR)) : FnOk P w K mg base (CX1 P w) (k + 1) f fd ["look", "statement", "kinds"] (spA n C cR "give") := by
  refine F.ok1 sc_look_at_give (fun vs H Q E h => ?_) (fun cdv A outer s H vs Q E hr h => ?_)
  · obtain ⟨o, r, kn, kd, ns, g, kns, ks, v, rest, rfl, _⟩ := h
    rfl
  · obtain ⟨o, r, kn, kd, ns, g, kns, ks, v, rest, rfl, L, hi, _, nb, k1, k2⟩ := h
    obtain ⟨e, rfl, q⟩ := st_give nb
    rw [q] at nb k1 k2
    obtain ⟨a, us, rfl, hu, v0, vr, rfl, h0, v1, vr1, rfl, h1, hnil⟩ := hi
    cases (show vr1 = [] from hnil)
    obtain ⟨⟨⟨dx, fs, e1, f1, f2, f3⟩, kvs, e2, hn⟩, hkn, hkd, d1, d2, d3⟩ := id L
    have ok : eOk e = true := by
      cases z : eOk e with
      | true => rfl
      | false => exact absurd (show giveP ns g kns ks e = .big by unfold giveP; rw [z]; rfl) nb
    have gq : giveP ns g kns ks e = if partsP ns ks [e] [g] = true then .ok (true, kns, ks) else .no := by unfold giveP; rw [if_pos ok]
    rw [gq] at k1 k2
    have cut : cutV [v0, v1] (some 1) none = [v1] := rfl
    refine ⟨_, (qss_cons (qs_expr (qe_fn1 F_look_at_parts (pass1 raises_cx rfl) (hr.mono (by first | decide | omega)) rfl (qa_cons (qv 0) (qa_cons (qe_slice sl_tup (qv 1) (qo_some qe_int) qo_none) (qa_cons (qe_tup (qa_cons (qe_fld (qv 0) rfl) qa_nil)) (qa_cons (qv 2) qa_nil))))))
      (qss_one (qs_ret qe_bl))), ?_⟩
    refine ⟨_, rfl, _, rfl, 1, rfl, a, _, rfl, .inl (.inl hu), (show ¬ (HT.sIx 2 0 (some 1) = 0 ∧ HT.sIx 2 2 none = 2) by decide), fun p hp => ⟨_, rfl, o, C, dx, fs, _, rfl, by rw [upd_ne (ne_of_none e1 hp)]; exact e1, LT.cl, LT.n3, f2, (by show 1 ≤ sizeLine; decide), fun p2 hp2 => ?_⟩⟩
    have s2 : Same H (upd (upd H p (.tup [v1])) p2 (.tup [.str g])) := ((Same.refl H).upd hp).upd hp2
    have hp' : upd (upd H p (.tup [v1])) p2 (.tup [.str g]) p = some (.tup [v1]) := by rw [upd_ne (ne_of_none upd_same hp2)]; exact upd_same
    refine ⟨_, rfl, o, r, kn, ns, g, p, p2, kd, ks, [v1], [e], [g], rfl, L.lk.same s2, s2 _ _ hkd, .inl (.inl hp'), ⟨v1, [], rfl, h1.mono s2.tups, rfl⟩, .inl (.inl upd_same), (show 1 ≤ 1000 by decide), by simpa using ok, fun h H' s' => ?_, fun h H' s' => ?_⟩
    · exact k1 true kns ks (if_pos h) H' (sx_same (s2.trans s')) ((s2.trans s') _ _ hkn) ((s2.trans s') _ _ hkd)
    · exact k2 (if_neg (by rw [h]; decide)) H' (sx_same (s2.trans s'))
theorem sc_look_at_known : FnScope ["look", "statement", "kinds"] ["look", "statement", "kinds"] (defScope sLookAtKnown) := ⟨rfl, rfl, rfl, by decide +kernel, rfl, by decide +kernel, by decide +kernel⟩
theorem ok_look_at_known {f : Addr} {fd : FuncData} {n k : Nat} (hk : 4 ≤ k) (F : Fun K "look_at_known" "look_at_known" sLookAtKnown f fd) (TT : TxT K w mg aT aU) (F_look_at_parts : FnB1 P w K mg base 4 "look_at_parts" ["look", "parts", "wanted", "kinds"] (spLP K C cR)) : FnOk P w K mg base (CX1 P w) (k + 1) f fd ["look", "statement", "kinds"] (spA n C cR "out") := by
  refine F.ok1 sc_look_at_known (fun vs H Q E h => ?_) (fun cdv A outer s H vs Q E hr h => ?_)
  · obtain ⟨o, r, kn, kd, ns, g, kns, ks, v, rest, rfl, _⟩ := h
    rfl
  · obtain ⟨o, r, kn, kd, ns, g, kns, ks, v, rest, rfl, L, hi, _, nb, k1, k2⟩ := h
    obtain ⟨e, rfl, q⟩ := st_out nb
    rw [q] at nb k1 k2
    obtain ⟨a, us, rfl, hu, v0, vr, rfl, h0, v1, vr1, rfl, h1, hnil⟩ := hi
    cases (show vr1 = [] from hnil)
    cases (show v0 = .str "out" from h0)
    have ok : eOk e = true := by
      cases z : eOk e with
      | true => rfl
      | false => exact absurd (show outP ns kns ks e = .big by unfold outP; rw [z]; rfl) nb
    have gq : outP ns kns ks e = if partsP ns ks [e] ["number"] = true then .ok (false, kns, ks) else .no := by unfold outP; rw [if_pos ok]
    rw [gq] at k1 k2
    have at0 : atI [V.str "out", v1] 0 = some (V.str "out") := atI_nat (j := 0) rfl
    refine ⟨_, (qss_cons (qs_expr (qe_fn1 F_look_at_parts (pass1 raises_cx rfl) (hr.mono (by first | decide | omega)) rfl (qa_cons (qv 0) (qa_cons (qe_slice sl_tup (qv 1) (qo_some qe_int) qo_none) (qa_cons (qe_kget TT.takes rfl TT.g_TAKES (qe_ix ix_tup (qv 1) qe_int (fun _ _ => rfl)) (fun _ _ => rfl)) (qa_cons (qv 2) qa_nil))))))
      (qss_one (qs_ret qe_bl))), ?_⟩
    refine ⟨_, rfl, _, rfl, 1, rfl, a, _, rfl, .inl (.inl hu), (show ¬ (HT.sIx 2 0 (some 1) = 0 ∧ HT.sIx 2 2 none = 2) by decide), fun p hp => ?_⟩
    have s1 : Same H (upd H p (.tup [v1])) := (Same.refl H).upd hp
    refine ⟨_, rfl, _, _, 0, _, rfl, rfl, .inl (.inl (s1 _ _ hu)), at0, "out", .ref aU, rfl, (by simp), _, rfl, o, r, kn, ns, g, p, aU, kd, ks, [v1], [e], ["number"], rfl, L.lk.same s1, s1 _ _ L.hkd, .inl (.inl upd_same), ⟨v1, [], rfl, h1.mono s1.tups, rfl⟩, TT.out _, (show 1 ≤ 1000 by decide), by simpa using ok, fun h H' s' => ?_, fun h H' s' => ?_⟩
    · exact k1 false kns ks (if_pos h) H' (sx_same (s1.trans s')) ((s1.trans s') _ _ L.hkn) ((s1.trans s') _ _ L.hkd)
    · exact k2 (if_neg (by rw [h]; decide)) H' (sx_same (s1.trans s'))
theorem sc_look_at_do : FnScope ["look", "statement", "kinds"] ["look", "statement", "kinds"] (defScope sLookAtDo) := ⟨rfl, rfl, rfl, by decide +kernel, rfl, by decide +kernel, by decide +kernel⟩
theorem ok_look_at_do {f : Addr} {fd : FuncData} {n k : Nat} (hk : 4 ≤ k) (F : Fun K "look_at_do" "look_at_do" sLookAtDo f fd) (F_kind_looked : FnB1 P w K mg base 3 "kind_looked" ["look", "e", "kinds"] (spKL C cR)) : FnOk P w K mg base (CX1 P w) (k + 1) f fd ["look", "statement", "kinds"] (spA n C cR "do") := by
  refine F.ok1 sc_look_at_do (fun vs H Q E h => ?_) (fun cdv A outer s H vs Q E hr h => ?_)
  · obtain ⟨o, r, kn, kd, ns, g, kns, ks, v, rest, rfl, _⟩ := h
    rfl
  · obtain ⟨o, r, kn, kd, ns, g, kns, ks, v, rest, rfl, L, hi, _, nb, k1, k2⟩ := h
    obtain ⟨e, rfl, q⟩ := st_do nb
    rw [q] at nb k1 k2
    obtain ⟨a, us, rfl, hu, v0, vr, rfl, h0, v1, vr1, rfl, h1, hnil⟩ := hi
    cases (show vr1 = [] from hnil)
    have ok : eOk e = true := by
      cases z : eOk e with
      | true => rfl
      | false => exact absurd (show doP ns kns ks e = .big by unfold doP; rw [z]; rfl) nb
    have gq : doP ns kns ks e = if (kindP ns ks e).isSome = true then .ok (false, kns, ks) else .no := by unfold doP; rw [if_pos ok]
    rw [gq] at k1 k2
    have at1 : atI [v0, v1] 1 = some v1 := atI_nat (j := 1) rfl
    refine ⟨_, (qss_cons (qs_expr (qe_fn1 F_kind_looked (pass1 raises_cx rfl) (hr.mono (by first | decide | omega)) rfl (qa_cons (qv 0) (qa_cons (qe_ix ix_tup (qv 1) qe_int (fun _ _ => rfl)) (qa_cons (qv 2) qa_nil)))))
      (qss_one (qs_ret qe_bl))), ?_⟩
    refine ⟨_, rfl, _, rfl, _, _, 1, _, rfl, rfl, .inl (.inl hu), at1, _, rfl, o, r, kn, ns, g, v1, kd, ks, e, rfl, L.lk, L.hkd, h1, ok, fun k hk H' s' => ?_, fun hk H' s' => ?_⟩
    · exact k1 false kns ks (if_pos (by rw [hk]; rfl)) H' (sx_same s') (s' _ _ L.hkn) (s' _ _ L.hkd)
    · exact k2 (if_neg (by rw [hk]; decide)) H' (sx_same s')
theorem sc_look_at_fail : FnScope ["look", "statement", "kinds"] ["look", "statement", "kinds"] (defScope sLookAtFail) := ⟨rfl, rfl, rfl, by decide +kernel, rfl, by decide +kernel, by decide +kernel⟩
theorem ok_look_at_fail {f : Addr} {fd : FuncData} {n k : Nat} (hk : 4 ≤ k) (F : Fun K "look_at_fail" "look_at_fail" sLookAtFail f fd) (F_want : FnB1 P w K mg base 1 "want" ["so", "why"] (spWant cR)) (F_is_of_language : FnB P w K mg base 2 "is_of_language" ["thing"] spIsL) : FnOk P w K mg base (CX1 P w) (k + 1) f fd ["look", "statement", "kinds"] (spA n C cR "fail") := by
  refine F.ok1 sc_look_at_fail (fun vs H Q E h => ?_) (fun cdv A outer s H vs Q E hr h => ?_)
  · obtain ⟨o, r, kn, kd, ns, g, kns, ks, v, rest, rfl, _⟩ := h
    rfl
  · obtain ⟨o, r, kn, kd, ns, g, kns, ks, v, rest, rfl, L, hi, _, nb, k1, k2⟩ := h
    obtain ⟨e, rfl, q⟩ := st_fail nb
    rw [q] at nb k1 k2
    obtain ⟨a, us, rfl, hu, v0, vr, rfl, h0, v1, vr1, rfl, h1, hnil⟩ := hi
    cases (show vr1 = [] from hnil)
    cases e with
    | wd x => exact absurd rfl nb
    | tup l => exact absurd rfl nb
    | num i =>
      cases (show v1 = .int i from h1)
      have at1 : atI [v0, V.int i] 1 = some (V.int i) := atI_nat (j := 1) rfl
      refine ⟨_, (qss_cons (qs_expr (qe_fn1 F_want (pass1 raises_cx rfl) (hr.mono (by first | decide | omega)) rfl (qa_cons (qe_fn F_is_of_language (hr.mono (by first | decide | omega)) rfl (qa_cons (qe_ix ix_tup (qv 1) qe_int (fun _ _ => rfl)) qa_nil)) (qa_cons qe_str qa_nil))))
      (qss_one (qs_ret qe_bl))), ?_⟩
      refine ⟨_, rfl, _, _, 1, _, rfl, rfl, .inl (.inl hu), at1, i, rfl, _, _, rfl, fun h => ?_, fun h => ?_⟩
      · exact k1 true kns ks (if_pos (of_decide_eq_true h)) H (sx_same (Same.refl H)) L.hkn L.hkd
      · exact k2 (if_neg (of_decide_eq_false h)) H (sx_same (Same.refl H))
end
end K08

namespace K08
open PySem PySem.Spec PyProof.Rows L2
/-- what a suite of statements does -/
def spS (n : Nat) (C cR : Addr) : Sp := fun vs H Q E => ∃ o r kn kd ns g kns ks v A, vs = [.ref o, v, .ref kd] ∧ LkS C H o r kn kd ns g kns ks ∧ IsTh H v (.tup A) ∧ stsL (stP n ns g) false kns ks A ≠ .big ∧
  (∀ b kns', stsL (stP n ns g) false kns ks A = .ok (b, kns') → ∀ H', Sx [kn] H H' → H' kn = some (.dK (knV kns')) → Q (.bl b) H') ∧
  (stsL (stP n ns g) false kns ks A = .no → ∀ H', Sx [kn] H H' → E (.ref cR) none H')
theorem Sx.more {kn kd : Addr} {H H' : Hp} (s : Sx [kn] H H') : Sx [kn, kd] H H' := fun b o e n => s b o e (by simp at n; simp [n.1])
section
variable {P : Program} {w : World} {K : PySem.W.Frag} {mg : Str → Option Value} {base : Heap} {t1 t2 t3 t4 : Tok} {cP cT cR cM cA cS aO C aT aU : Addr}
theorem sc_look_at_let : FnScope ["look", "statement", "kinds", "variable"] ["look", "statement", "kinds"] (defScope sLookAtLet) := ⟨rfl, rfl, rfl, by decide +kernel, rfl, by decide +kernel, by decide +kernel⟩
theorem ok_look_at_let {f : Addr} {fd : FuncData} {n k : Nat} (hk : 4 ≤ k) (F : Fun K "look_at_let" "look_at_let" sLookAtLet f fd) (LT : LookT K C) (F_want : FnB1 P w K mg base 1 "want" ["so", "why"] (spWant cR)) (F_is_name : FnB P w K mg base 2 "is_name" ["thing"] spName)
    (F_kind_looked : FnB1 P w K mg base 3 "kind_looked" ["look", "e", "kinds"] (spKL C cR)) : FnOk P w K mg base (CX1 P w) (k + 1) f fd ["look", "statement", "kinds"] (spA n C cR "let") := by
  refine F.ok1 sc_look_at_let (fun vs H Q E h => ?_) (fun cdv A outer s H vs Q E hr h => ?_)
  · obtain ⟨o, r, kn, kd, ns, g, kns, ks, v, rest, rfl, _⟩ := h
    rfl
  · obtain ⟨o, r, kn, kd, ns, g, kns, ks, v, rest, rfl, L, hi, _, nb, k1, k2⟩ := h
    obtain ⟨t, e, rfl, q⟩ := st_let nb
    rw [q] at nb k1 k2
    have nd := sc_look_at_let.nd
    obtain ⟨a, us, rfl, hu, v0, vr, rfl, h0, v1, vr1, rfl, h1, v2, vr2, rfl, h2, hnil⟩ := hi
    cases (show vr2 = [] from hnil)
    obtain ⟨⟨⟨dx, fs, e1, f1, f2, f3⟩, kvs, e2, hn⟩, hkn, hkd, d1, d2, d3⟩ := id L
    have pre : ascT t = true ∧ eOk e = true ∧ kns.length < 1000 ∧ ks.length < 1000 := by
      by_cases z : ascT t = true ∧ eOk e = true ∧ kns.length < 1000 ∧ ks.length < 1000
      · exact z
      · exact absurd (show letP ns kns ks t e = .big by unfold letP; rw [if_neg z]) nb
    have gq : letP ns kns ks t e = letQ ns kns ks e t := by unfold letP; rw [if_pos pre]
    rw [gq] at k1 k2
    have at1 : atI [v0, v1, v2] 1 = some v1 := atI_nat (j := 1) rfl
    have at2 : atI [v0, v1, v2] 2 = some v2 := atI_nat (j := 2) rfl
    refine ⟨_, (qss_cons (qs_set (i := 3) nd rfl (Or.inl rfl) (qe_ix ix_tup (qv 1) qe_int (fun _ _ => rfl)))
      (qss_cons (qs_expr (qe_fn1 F_want (pass1 raises_cx rfl) (hr.mono (by first | decide | omega)) rfl (qa_cons (qe_fn F_is_name (hr.mono (by first | decide | omega)) rfl (qa_cons (qv 3) qa_nil)) (qa_cons qe_str qa_nil))))
      (qss_cons (qs_expr (qe_fn1 F_want (pass1 raises_cx rfl) (hr.mono (by first | decide | omega)) rfl (qa_cons (qe_dnotin (hu_of hr) (qv 3) (qe_fld (qv 0) rfl)) (qa_cons qe_str qa_nil))))
      (qss_cons (qs_dput (hu_of hr) (qv 2) (qv 3) (qe_fn1 F_kind_looked (pass1 raises_cx rfl) (hr.mono (by first | decide | omega)) rfl (qa_cons (qv 0) (qa_cons (qe_ix ix_tup (qv 1) qe_int (fun _ _ => rfl)) (qa_cons (qv 2) qa_nil)))) rfl)
      (qss_cons (qs_dput (hu_of hr) (qe_fld (qv 0) rfl) (qv 3) qe_bl rfl)
      (qss_one (qs_ret qe_bl))))))), ?_⟩
    refine ⟨_, rfl, _, _, 1, _, rfl, rfl, .inl (.inl hu), at1, ?_⟩
    refine ⟨_, rfl, v1, t, rfl, h1, pre.1, fun H1 s1 => ⟨_, _, rfl, fun g1 => ?_, fun g1 => k2 ?_ H1 (sx_same s1)⟩⟩
    · cases t with
      | num i => cases g1
      | tup l => cases g1
      | wd x =>
        cases (show v1 = .str x from h1)
        have g1' : nameS x = true := g1
        refine ⟨_, rfl, _, rfl, o, C, dx, fs, _, rfl, s1 _ _ e1, LT.cl, LT.n4, f3, kn, _, rfl, DGet.k (k := Sum.inr x) (s1 _ _ hkn), _, _, rfl, fun g2 => ?_, fun g2 => k2 ?_ H1 (sx_same s1)⟩
        · have vk : (valV (knV kns) (Sum.inr x)).isSome = decide (x ∈ kns) := valS kns x
          rw [vk] at g2
          have g2' : x ∉ kns := by simpa using g2
          have kq : ∀ k, kindP ns ks e = some k → letQ ns kns ks e (.wd x) = .ok (false, kns ++ [x], putP ks x k) := fun k hk => by
            unfold letQ
            dsimp only
            rw [if_pos ⟨g1', g2'⟩, hk]
          have kq0 : kindP ns ks e = none → letQ ns kns ks e (.wd x) = .no := fun hk => by
            unfold letQ
            dsimp only
            rw [if_pos ⟨g1', g2'⟩, hk]
          refine ⟨_, rfl, _, rfl, _, _, 2, _, rfl, rfl, .inl (.inl (s1 _ _ hu)), at2, _, rfl, o, r, kn, ns, g, v2, kd, ks, e, rfl, L.lk.same s1, s1 _ _ hkd, h2.mono s1.tups, pre.2.1, fun k hkp H2 s2 => ?_, fun hkp H2 s2 => k2 (kq0 hkp) H2 (sx_same (s1.trans s2))⟩
          have s2' := s1.trans s2
          refine ⟨_, rfl, _, rfl, kd, _, rfl, DPut.k (k := Sum.inr x) (s2' _ _ hkd) (by unfold ksV; rw [List.length_map]; exact small1000 (Nat.le_of_lt pre.2.2.2)), ?_⟩
          have hkn' : upd H2 kd (.dK (putK (ksV ks) (Sum.inr x) (.str k))) kn = some (.dK (knV kns)) := by rw [upd_ne d3]; exact s2' _ _ hkn
          have no1 : o ≠ kd := ne_of e1 hkd (by simp)
          refine ⟨_, rfl, o, C, dx, fs, _, rfl, by rw [upd_ne no1]; exact s2' _ _ e1, LT.cl, LT.n4, f3, _, rfl, kn, _, rfl, DPut.k (k := Sum.inr x) hkn' (by unfold knV; rw [List.length_map]; exact small1000 (Nat.le_of_lt pre.2.2.1)), ?_⟩
          refine k1 false (kns ++ [x]) (putP ks x k) (kq k hkp) _ (fun b u hb hnb => ?_) ?_ ?_
          · have n1 : b ≠ kn := fun z => hnb (by simp [z])
            have n2 : b ≠ kd := fun z => hnb (by simp [z])
            rw [upd_ne n1, upd_ne n2]
            exact s2' _ _ hb
          · rw [upd_same]
            exact congrArg (fun z => some (HO.dK z)) (putS_fresh kns x g2')
          · rw [upd_ne d3.symm, upd_same, put_ks]
        · have vk : (valV (knV kns) (Sum.inr x)).isSome = decide (x ∈ kns) := valS kns x
          rw [vk] at g2
          have g2' : x ∈ kns := by simpa using g2
          exact if_neg fun z => z.2 g2'
    · cases t with
      | num i => rfl
      | tup l => rfl
      | wd x =>
        have g1' : nameS x = false := g1
        exact if_neg fun z => by rw [g1'] at z; exact absurd z.1 (by decide)
theorem sc_look_at_while : FnScope ["look", "statement", "kinds"] ["look", "statement", "kinds"] (defScope sLookAtWhile) := ⟨rfl, rfl, rfl, by decide +kernel, rfl, by decide +kernel, by decide +kernel⟩
theorem ok_look_at_while {f : Addr} {fd : FuncData} {n k : Nat} (hk : 4 ≤ k) (F : Fun K "look_at_while" "look_at_while" sLookAtWhile f fd) (F_look_at_parts : FnB1 P w K mg base 4 "look_at_parts" ["look", "parts", "wanted", "kinds"] (spLP K C cR))
    (F_look_at_statements : FnB1 P w K mg base k "look_at_statements" ["look", "statements", "around"] (spS n C cR)) : FnOk P w K mg base (CX1 P w) (k + 1) f fd ["look", "statement", "kinds"] (spA (n + 1) C cR "while") := by
  refine F.ok1 sc_look_at_while (fun vs H Q E h => ?_) (fun cdv A outer s H vs Q E hr h => ?_)
  · obtain ⟨o, r, kn, kd, ns, g, kns, ks, v, rest, rfl, _⟩ := h
    rfl
  · obtain ⟨o, r, kn, kd, ns, g, kns, ks, v, rest, rfl, L, hi, _, nb, k1, k2⟩ := h
    obtain ⟨m, c, A', em, rfl, q⟩ := st_while nb
    cases em
    rw [q] at nb k1 k2
    obtain ⟨a, us, rfl, hu, v0, vr, rfl, h0, v1, vr1, rfl, h1, v2, vr2, rfl, h2, hnil⟩ := hi
    cases (show vr2 = [] from hnil)
    have ok : eOk c = true := by
      cases z : eOk c with
      | true => rfl
      | false => exact absurd (show whileP ns kns ks c _ = .big by unfold whileP; rw [z]; rfl) nb
    have at1 : atI [v0, v1, v2] 1 = some v1 := atI_nat (j := 1) rfl
    have at2 : atI [v0, v1, v2] 2 = some v2 := atI_nat (j := 2) rfl
    refine ⟨_, (qss_cons (qs_expr (qe_fn1 F_look_at_parts (pass1 raises_cx rfl) (hr.mono (by first | decide | omega)) rfl (qa_cons (qv 0) (qa_cons (qe_tup (qa_cons (qe_ix ix_tup (qv 1) qe_int (fun _ _ => rfl)) qa_nil)) (qa_cons (qe_tup (qa_cons qe_str qa_nil)) (qa_cons (qv 2) qa_nil))))))
      (qss_cons (qs_expr (qe_fn1 F_look_at_statements (pass1 raises_cx rfl) (hr.mono (by first | decide | omega)) rfl (qa_cons (qv 0) (qa_cons (qe_ix ix_tup (qv 1) qe_int (fun _ _ => rfl)) (qa_cons (qv 2) qa_nil)))))
      (qss_one (qs_ret qe_bl)))), ?_⟩
    refine ⟨_, rfl, _, rfl, _, _, 1, _, rfl, rfl, .inl (.inl hu), at1, (by show 1 ≤ sizeLine; decide), fun p hp => ⟨(by show 1 ≤ sizeLine; decide), fun p2 hp2 => ?_⟩⟩
    have s2 : Same H (upd (upd H p (.tup [v1])) p2 (.tup [.str "truth"])) := ((Same.refl H).upd hp).upd hp2
    have hp' : upd (upd H p (.tup [v1])) p2 (.tup [.str "truth"]) p = some (.tup [v1]) := by rw [upd_ne (ne_of_none upd_same hp2)]; exact upd_same
    refine ⟨_, rfl, o, r, kn, ns, g, p, p2, kd, ks, [v1], [c], ["truth"], rfl, L.lk.same s2, s2 _ _ L.hkd, .inl (.inl hp'), ⟨v1, [], rfl, h1.mono s2.tups, rfl⟩, .inl (.inl upd_same), (show 1 ≤ 1000 by decide), by simpa using ok, fun h H1 s1 => ?_, fun h H1 s1 => ?_⟩
    · have gq : whileP ns kns ks c (stsL (stP n ns g) false kns ks A') = (match stsL (stP n ns g) false kns ks A' with | .ok (_, kn') => .ok (false, kn', ks) | .no => .no | .big => .big) := by
        unfold whileP
        rw [if_pos ok, if_pos h]
        try rfl
      have s3 := s2.trans s1
      have L1 := L.same s3
      refine ⟨_, rfl, _, rfl, _, _, 2, _, rfl, rfl, .inl (.inl (s3 _ _ hu)), at2, _, rfl, o, r, kn, kd, ns, g, kns, ks, v2, A', rfl, L1, h2.mono s3.tups, fun z => ?_, fun b kns' z H2 sx e => ?_, fun z H2 sx => ?_⟩
      · rw [gq, z] at nb
        exact nb rfl
      · have nkd : H2 kd = some (.dK (ksV ks)) := sx kd _ L1.hkd (by simp [L.d3.symm])
        exact k1 false kns' ks (by rw [gq, z]) H2 ((sx_same s3).trans sx.more) e nkd
      · exact k2 (by rw [gq, z]) H2 ((sx_same s3).trans sx.more)
    · refine k2 ?_ H1 (sx_same (s2.trans s1))
      unfold whileP
      rw [if_pos ok, if_neg (by rw [h]; decide)]
theorem sc_look_at_if : FnScope ["look", "statement", "kinds", "first", "second"] ["look", "statement", "kinds"] (defScope sLookAtIf) := ⟨rfl, rfl, rfl, by decide +kernel, rfl, by decide +kernel, by decide +kernel⟩
theorem ok_look_at_if {f : Addr} {fd : FuncData} {n k : Nat} (hk : 4 ≤ k) (F : Fun K "look_at_if" "look_at_if" sLookAtIf f fd) (F_look_at_parts : FnB1 P w K mg base 4 "look_at_parts" ["look", "parts", "wanted", "kinds"] (spLP K C cR))
    (F_look_at_statements : FnB1 P w K mg base k "look_at_statements" ["look", "statements", "around"] (spS n C cR)) : FnOk P w K mg base (CX1 P w) (k + 1) f fd ["look", "statement", "kinds"] (spA (n + 1) C cR "if") := by
  refine F.ok1 sc_look_at_if (fun vs H Q E h => ?_) (fun cdv A outer s H vs Q E hr h => ?_)
  · obtain ⟨o, r, kn, kd, ns, g, kns, ks, v, rest, rfl, _⟩ := h
    rfl
  · obtain ⟨o, r, kn, kd, ns, g, kns, ks, v, rest, rfl, L, hi, _, nb, k1, k2⟩ := h
    obtain ⟨m, c, A', B', em, rfl, q⟩ := st_if nb
    cases em
    rw [q] at nb k1 k2
    have nd := sc_look_at_if.nd
    obtain ⟨a, us, rfl, hu, v0, vr, rfl, h0, v1, vr1, rfl, h1, v2, vr2, rfl, h2, v3, vr3, rfl, h3, hnil⟩ := hi
    cases (show vr3 = [] from hnil)
    have ok : eOk c = true := by
      cases z : eOk c with
      | true => rfl
      | false => exact absurd (show ifP ns ks c _ _ = .big by unfold ifP; rw [z]; rfl) nb
    have at1 : atI [v0, v1, v2, v3] 1 = some v1 := atI_nat (j := 1) rfl
    have at2 : atI [v0, v1, v2, v3] 2 = some v2 := atI_nat (j := 2) rfl
    have at3 : atI [v0, v1, v2, v3] 3 = some v3 := atI_nat (j := 3) rfl
    refine ⟨_, (qss_cons (qs_expr (qe_fn1 F_look_at_parts (pass1 raises_cx rfl) (hr.mono (by first | decide | omega)) rfl (qa_cons (qv 0) (qa_cons (qe_tup (qa_cons (qe_ix ix_tup (qv 1) qe_int (fun _ _ => rfl)) qa_nil)) (qa_cons (qe_tup (qa_cons qe_str qa_nil)) (qa_cons (qv 2) qa_nil))))))
      (qss_cons (qs_set (i := 3) nd rfl (Or.inl rfl) (qe_fn1 F_look_at_statements (pass1 raises_cx rfl) (hr.mono (by first | decide | omega)) rfl (qa_cons (qv 0) (qa_cons (qe_ix ix_tup (qv 1) qe_int (fun _ _ => rfl)) (qa_cons (qv 2) qa_nil)))))
      (qss_cons (qs_set (i := 4) nd rfl (Or.inl rfl) (qe_fn1 F_look_at_statements (pass1 raises_cx rfl) (hr.mono (by first | decide | omega)) rfl (qa_cons (qv 0) (qa_cons (qe_ix ix_tup (qv 1) qe_int (fun _ _ => rfl)) (qa_cons (qv 2) qa_nil)))))
      (qss_one (qs_ret (qe_and (qv 3) (qe_one (qv 4)))))))), ?_⟩
    refine ⟨_, rfl, _, rfl, _, _, 1, _, rfl, rfl, .inl (.inl hu), at1, (by show 1 ≤ sizeLine; decide), fun p hp => ⟨(by show 1 ≤ sizeLine; decide), fun p2 hp2 => ?_⟩⟩
    have s2 : Same H (upd (upd H p (.tup [v1])) p2 (.tup [.str "truth"])) := ((Same.refl H).upd hp).upd hp2
    have hp' : upd (upd H p (.tup [v1])) p2 (.tup [.str "truth"]) p = some (.tup [v1]) := by rw [upd_ne (ne_of_none upd_same hp2)]; exact upd_same
    refine ⟨_, rfl, o, r, kn, ns, g, p, p2, kd, ks, [v1], [c], ["truth"], rfl, L.lk.same s2, s2 _ _ L.hkd, .inl (.inl hp'), ⟨v1, [], rfl, h1.mono s2.tups, rfl⟩, .inl (.inl upd_same), (show 1 ≤ 1000 by decide), by simpa using ok, fun h H1 s1 => ?_, fun h H1 s1 => ?_⟩
    · have gq : ∀ b1 kn1, stsL (stP n ns g) false kns ks A' = .ok (b1, kn1) → ifP ns ks c (stsL (stP n ns g) false kns ks A') (fun kn1 => stsL (stP n ns g) false kn1 ks B') = (match stsL (stP n ns g) false kn1 ks B' with | .ok (b2, kn2) => .ok (b1 && b2, kn2, ks) | .no => .no | .big => .big) := fun b1 kn1 z => by
        unfold ifP
        rw [if_pos ok, if_pos h, z]
        try rfl
      have gn : stsL (stP n ns g) false kns ks A' = .no → ifP ns ks c (stsL (stP n ns g) false kns ks A') (fun kn1 => stsL (stP n ns g) false kn1 ks B') = .no := fun z => by
        unfold ifP
        rw [if_pos ok, if_pos h, z]
      have gb : stsL (stP n ns g) false kns ks A' = .big → ifP ns ks c (stsL (stP n ns g) false kns ks A') (fun kn1 => stsL (stP n ns g) false kn1 ks B') = .big := fun z => by
        unfold ifP
        rw [if_pos ok, if_pos h, z]
      have s3 := s2.trans s1
      have L1 := L.same s3
      refine ⟨_, rfl, _, rfl, _, _, 2, _, rfl, rfl, .inl (.inl (s3 _ _ hu)), at2, _, rfl, o, r, kn, kd, ns, g, kns, ks, v2, A', rfl, L1, h2.mono s3.tups, fun z => nb (gb z), fun b kns' z H2 sx e => ?_, fun z H2 sx => k2 (gn z) H2 ((sx_same s3).trans sx.more)⟩
      have nkd : H2 kd = some (.dK (ksV ks)) := sx kd _ L1.hkd (by simp [L.d3.symm])
      have L2 := L1.move sx.more e nkd
      have t2 := L1.tups (H' := H2) sx.more
      have gq' := gq b kns' z
      refine ⟨_, rfl, _, rfl, _, _, 3, _, rfl, rfl, .inl (.inl (t2 _ _ (s3 _ _ hu))), at3, _, rfl, o, r, kn, kd, ns, g, kns', ks, v3, B', rfl, L2, h3.mono (s3.tups.trans t2), fun z2 => nb (by rw [gq', z2]), fun b2 kns2 z2 H3 sx3 e3 => ?_, fun z2 H3 sx3 => k2 (by rw [gq', z2]) H3 (((sx_same s3).trans sx.more).trans sx3.more)⟩
      have nkd3 : H3 kd = some (.dK (ksV ks)) := sx3 kd _ nkd (by simp [L.d3.symm])
      have fin := k1 (b && b2) kns2 ks (by rw [gq', z2]) H3 (((sx_same s3).trans sx.more).trans sx3.more) e3 nkd3
      refine ⟨_, rfl, _, rfl, ?_⟩
      cases b with
      | true => exact ⟨_, rfl, fin⟩
      | false => exact fin
    · refine k2 ?_ H1 (sx_same (s2.trans s1))
      unfold ifP
      rw [if_pos ok, if_neg (by rw [h]; decide)]
end
end K08

namespace K08
open PySem PySem.Spec PyProof.Rows L2
def acts (fL fI fW fK fG fF fD : Addr) : List (Str × V) := [("let", .ref fL), ("if", .ref fI), ("while", .ref fW), ("out", .ref fK), ("give", .ref fG), ("fail", .ref fF), ("do", .ref fD)]
def lens : List (Str × V) := [("let", .int 3), ("if", .int 4), ("while", .int 3), ("out", .int 2), ("give", .int 2), ("fail", .int 2), ("do", .int 2)]
structure TxS (K : PySem.W.Frag) (w : World) (mg : Str → Option Value) (aS aL fL fI fW fK fG fF fD : Addr) : Prop where
  g_STATEMENTS : mg "STATEMENTS" = some (.ref aS)
  g_LENGTHS : mg "LENGTHS" = some (.ref aL)
  stats : KTab K w aS (acts fL fI fW fK fG fF fD)
  lens : KTab K w aL K08.lens
theorem st_shape {n : Nat} {ns : List Str} {g : Str} {kn : List Str} {ks : List (Str × Str)} {th : Th} (hb : stP n ns g kn ks th ≠ .big) : ∃ h rest, th = .tup (.wd h :: rest) ∧ rest.length ≤ 3 ∧ (h, V.int ((rest.length : Int) + 1)) ∈ lens := by
  cases n with
  | zero => exact absurd rfl hb
  | succ n =>
    match th, hb with
    | .tup [.wd h, e], hb =>
      refine ⟨h, [e], rfl, by simp, ?_⟩
      by_cases q1 : h = "give"
      · rw [q1]; simp [lens]
      by_cases q2 : h = "out"
      · rw [q2]; simp [lens]
      by_cases q3 : h = "do"
      · rw [q3]; simp [lens]
      by_cases q4 : h = "fail"
      · rw [q4]; simp [lens]
      refine absurd ?_ hb
      show (if h = "give" then giveP ns g kn ks e else if h = "out" then outP ns kn ks e else if h = "do" then doP ns kn ks e else if h = "fail" then failP kn ks e else .big) = _
      rw [if_neg q1, if_neg q2, if_neg q3, if_neg q4]
    | .tup [.wd h, t, e], hb =>
      refine ⟨h, [t, e], rfl, by simp, ?_⟩
      by_cases q1 : h = "let"
      · rw [q1]; simp [lens]
      by_cases q2 : h = "while"
      · rw [q2]; simp [lens]
      refine absurd ?_ hb
      show (if h = "let" then letP ns kn ks t e else if h = "while" then _ else (.big : StR)) = _
      rw [if_neg q1, if_neg q2]
    | .tup [.wd h, c, .tup A, .tup B], hb =>
      refine ⟨h, [c, .tup A, .tup B], rfl, by simp, ?_⟩
      by_cases q1 : h = "if"
      · rw [q1]; simp [lens]
      refine absurd ?_ hb
      show (if h = "if" then ifP ns ks c (stsL (stP n ns g) false kn ks A) (fun kn1 => stsL (stP n ns g) false kn1 ks B) else (.big : StR)) = _
      rw [if_neg q1]
    | .num i, hb => exact absurd rfl hb
    | .wd x, hb => exact absurd rfl hb
    | .tup [], hb => exact absurd rfl hb
    | .tup (.num i :: r), hb => exact absurd rfl hb
    | .tup (.tup i :: r), hb => exact absurd rfl hb
    | .tup [.wd h], hb => exact absurd rfl hb
    | .tup [.wd h, c, .num i, y], hb => exact absurd (by cases y <;> rfl) hb
    | .tup [.wd h, c, .wd i, y], hb => exact absurd (by cases y <;> rfl) hb
    | .tup [.wd h, c, .tup i, .num j], hb => exact absurd rfl hb
    | .tup [.wd h, c, .tup i, .wd j], hb => exact absurd rfl hb
    | .tup (.wd h :: a :: x :: y :: z :: r), hb => exact absurd (by cases x <;> cases y <;> rfl) hb
theorem lens_acts {h : Str} {v : V} {fL fI fW fK fG fF fD : Addr} (m : (h, v) ∈ lens) : ∃ f, (h, V.ref f) ∈ acts fL fI fW fK fG fF fD := by
  simp only [lens, List.mem_cons, Prod.mk.injEq, List.not_mem_nil, or_false] at m
  rcases m with ⟨rfl, _⟩ | ⟨rfl, _⟩ | ⟨rfl, _⟩ | ⟨rfl, _⟩ | ⟨rfl, _⟩ | ⟨rfl, _⟩ | ⟨rfl, _⟩
  · exact ⟨fL, by simp [acts]⟩
  · exact ⟨fI, by simp [acts]⟩
  · exact ⟨fW, by simp [acts]⟩
  · exact ⟨fK, by simp [acts]⟩
  · exact ⟨fG, by simp [acts]⟩
  · exact ⟨fF, by simp [acts]⟩
  · exact ⟨fD, by simp [acts]⟩
section
variable {P : Program} {w : World} {K : PySem.W.Frag} {mg : Str → Option Value} {base : Heap} {t1 t2 t3 t4 : Tok} {cP cT cR cM cA cS aO C aT aU aS aL fL fI fW fK fG fF fD : Addr}
theorem sc_look_at_statements : FnScope ["look", "statements", "around", "kinds", "ended", "statement", "action"] ["look", "statements", "around"] (defScope sLookAtStatements) := ⟨rfl, rfl, rfl, by decide +kernel, rfl, by decide +kernel, by decide +kernel⟩
theorem ok_look_at_statements {f : Addr} {fd : FuncData} {n k : Nat} (hk : 1 ≤ k) (F : Fun K "look_at_statements" "look_at_statements" sLookAtStatements f fd) (T : Txt0 K mg t1 t2 t3 t4) (TT : TxS K w mg aS aL fL fI fW fK fG fF fD) (F_want : FnB1 P w K mg base 1 "want" ["so", "why"] (spWant cR))
    (FAM_action : ∀ h f, (h, V.ref f) ∈ acts fL fI fW fK fG fF fD → ∃ fd, FnOk P w K mg base (CX1 P w) k f fd ["look", "statement", "kinds"] (spA n C cR h) ∧ PySem.W.keepIn K (.ref f) = true ∧ Binds K fd ["look", "statement", "kinds"] []) :
    FnOk P w K mg base (CX1 P w) (k + 1) f fd ["look", "statements", "around"] (spS n C cR) := by
  refine F.ok1 sc_look_at_statements (fun vs H Q E h => ?_) (fun cdv A outer s H vs Q E hr h => ?_)
  · obtain ⟨o, r, kn, kd, ns, g, kns, ks, v, A', rfl, _⟩ := h
    rfl
  · obtain ⟨o, r, kn, kd, ns, g, kns, ks, v, A', rfl, L, hi, nb, k1, k2⟩ := h
    have nd := sc_look_at_statements.nd
    obtain ⟨a, us, rfl, hu, hl⟩ := hi
    have len := hl.len
    refine ⟨_, (qss_cons (qs_expr (qe_fn1 F_want (pass1 raises_cx rfl) (hr.mono (by first | decide | omega)) rfl (qa_cons (qe_callB call_isinst rfl T.n_isinstance boot_isi (qa_cons (qv 1) (qa_cons (qe_bltn (v := .ty "tuple") rfl T.n_tuple boot_tuple rfl) qa_nil))) (qa_cons qe_str qa_nil))))
      (qss_cons (qs_set (i := 3) nd rfl (Or.inl rfl) (qe_callTy call_dictD rfl T.n_dict boot_dict (qa_cons (qv 2) qa_nil)))
      (qss_cons (qs_set (i := 4) nd rfl (Or.inl rfl) qe_bl)
      (qss_cons (qs_for PassesOwn.leaving rfl (qi_tup (qv 1)) (qg_name (i := 5) nd rfl (Or.inl rfl)) (qss_cons (qs_expr (qe_fn1 F_want (pass1 raises_cx rfl) (hr.mono (by first | decide | omega)) rfl (qa_cons (qe_not (qv 4)) (qa_cons qe_str qa_nil))))
      (qss_cons (qs_expr (qe_fn1 F_want (pass1 raises_cx rfl) (hr.mono (by first | decide | omega)) rfl (qa_cons (qe_and (qe_callB call_isinst rfl T.n_isinstance boot_isi (qa_cons (qv 5) (qa_cons (qe_bltn (v := .ty "tuple") rfl T.n_tuple boot_tuple rfl) qa_nil))) (qe_one (qe_cmpR op_gt (qe_callB call_len_seq rfl T.n_len PySem.boot_len (qa_cons (qv 5) qa_nil)) qe_int (nomark _)))) (qa_cons qe_str qa_nil))))
      (qss_cons (qs_expr (qe_fn1 F_want (pass1 raises_cx rfl) (hr.mono (by first | decide | omega)) rfl (qa_cons (qe_and (qe_callB call_isinst rfl T.n_isinstance boot_isi (qa_cons (qe_ix ix_tup (qv 5) qe_int (fun _ _ => rfl)) (qa_cons (qe_bltn (v := .ty "str") rfl T.n_str boot_str rfl) qa_nil))) (qe_one (qe_kin TT.stats rfl TT.g_STATEMENTS (qe_ix ix_tup (qv 5) qe_int (fun _ _ => rfl))))) (qa_cons qe_str qa_nil))))
      (qss_cons (qs_expr (qe_fn1 F_want (pass1 raises_cx rfl) (hr.mono (by first | decide | omega)) rfl (qa_cons (qe_cmpR op_eq (qe_callB call_len_seq rfl T.n_len PySem.boot_len (qa_cons (qv 5) qa_nil)) (qe_kget TT.lens rfl TT.g_LENGTHS (qe_ix ix_tup (qv 5) qe_int (fun _ _ => rfl)) (fun _ _ => rfl)) (nomark _)) (qa_cons qe_str qa_nil))))
      (qss_cons (qs_set (i := 6) nd rfl (Or.inl rfl) (qe_kget TT.stats rfl TT.g_STATEMENTS (qe_ix ix_tup (qv 5) qe_int (fun _ _ => rfl)) (fun _ _ => rfl)))
      (qss_one (qs_set (i := 4) nd rfl (Or.inl rfl) (qe_callH FAM_action (pass1 raises_cx rfl) (hr.mono (by first | decide | omega)) (i := 6) rfl (Or.inl rfl) (qa_cons (qv 0) (qa_cons (qv 5) (qa_cons (qv 3) qa_nil))))))))))))
      (qss_one (qs_ret (qv 4))))))), ?_⟩
    refine ⟨_, rfl, _, _, _, _, rfl, .tup hu, rfl, _, _, rfl, fun _ => ?_, fun z => (nomatch z)⟩
    refine ⟨_, rfl, kd, ksV ks, rfl, .inl L.hkd, fun d hd => ?_⟩
    have s0 : Same H (upd H d (.dK (ksV ks))) := (Same.refl H).upd hd
    have nod : ∀ {b : Addr} {u : HO}, H b = some u → b ≠ d := fun e => ne_of_none e hd
    obtain ⟨⟨dx, fs, e1, f1, f2, f3⟩, kvs, e2, hn⟩ := L.lk
    have L0 : LkS C (upd H d (.dK (ksV ks))) o r kn d ns g kns ks := ⟨L.lk.same s0, s0 _ _ L.hkn, upd_same, L.d1, nod e2, nod L.hkn⟩
    have back : ∀ {H'}, Sx [kn, d] (upd H d (.dK (ksV ks))) H' → Sx [kn] H H' := fun {H'} sx b u e nb => sx b u (s0 _ _ e) (by simp at nb; simp [nb, nod e])
    refine ⟨_, rfl, a, rfl, ⟨_, .inl (.inl (s0 _ _ hu))⟩, ?_⟩
    refine for_tup (xs := us) (fun i σ H' => ∃ e kns' ks' x1 x2, σ = [some (.ref o), some (.ref a), some (.ref kd), some (.ref d), some (.bl e), x1, x2] ∧ Sx [kn, d] (upd H d (.dK (ksV ks))) H' ∧ LkS C H' o r kn d ns g kns' ks' ∧ stsL (stP n ns g) e kns' ks' (A'.drop i) = stsL (stP n ns g) false kns ks A')
      ⟨false, kns, ks, _, _, rfl, sx_same (Same.refl _), L0, rfl⟩ ?_ ?_ ?_
    · rintro i σ H' _ ⟨e, kns', ks', x1, x2, _, sx, _, _⟩
      exact .inl (.inl (L0.tups sx _ _ (s0 _ _ hu)))
    · rintro i x σ H' hx ⟨e, kns', ks', x1, x2, rfl, sx, L1, R⟩
      obtain ⟨th, ht, ih⟩ := hl.get hx
      have lt : i < A'.length := (List.getElem?_eq_some_iff.mp ht).1
      have dr : A'.drop i = th :: A'.drop (i + 1) := by
        rw [List.drop_eq_getElem_cons lt]
        rw [List.getElem?_eq_getElem lt] at ht
        rw [Option.some.inj ht]
      rw [dr] at R
      have tu : Tups H H' := s0.tups.trans (L0.tups sx)
      refine ⟨_, rfl, _, rfl, _, _, rfl, fun h1 => ?_, fun h1 => k2 ?_ H' (back sx)⟩
      · have he : e = false := by cases e <;> first | rfl | cases h1
        subst he
        have R' : (match stP n ns g kns' ks' th with | .ok (e', kn', ks'') => stsL (stP n ns g) e' kn' ks'' (A'.drop (i + 1)) | .no => .no | .big => .big) = stsL (stP n ns g) false kns ks A' := R
        have nb1 : stP n ns g kns' ks' th ≠ .big := fun z => by
          rw [z] at R'
          exact nb R'.symm
        obtain ⟨h, rest, rfl, hr3, hm⟩ := st_shape nb1
        obtain ⟨f', hf⟩ := lens_acts (fL := fL) (fI := fI) (fW := fW) (fK := fK) (fG := fG) (fF := fF) (fD := fD) hm
        have ih' := ih.mono tu
        have ih2 := ih'
        obtain ⟨a2, us2, rfl, hu2, v0, vr, rfl, h0, hr'⟩ := ih'
        cases (show v0 = .str h from h0)
        have at0 : atI (V.str h :: vr) 0 = some (V.str h) := atI_nat (j := 0) rfl
        have lr : vr.length = rest.length := hr'.len
        have sq : SqT K H' a2 (V.str h :: vr) := .inl (.inl hu2)
        refine ⟨_, rfl, _, _, _, _, rfl, .tup hu2, rfl, _, rfl, iteT ⟨_, rfl, a2, _, rfl, .inr sq, _, _, rfl, rfl, _, _, rfl, fun _ => ?_, fun z => ?_⟩⟩
        · refine ⟨_, rfl, _, _, 0, _, rfl, rfl, sq, at0, _, _, _, _, rfl, .str _, rfl, _, rfl, iteT ⟨_, rfl, _, _, 0, _, rfl, rfl, sq, at0, h, _, rfl, hf, _, _, rfl, fun _ => ?_, fun z => (nomatch z)⟩⟩
          refine ⟨_, rfl, a2, _, rfl, .inr sq, _, rfl, _, _, 0, _, rfl, rfl, sq, at0, h, _, rfl, hm, rfl, _, _, rfl, fun _ => ?_, fun z => ?_⟩
          · refine ⟨_, rfl, _, _, 0, _, rfl, rfl, sq, at0, h, _, rfl, hf, ?_⟩
            refine ⟨h, f', rfl, hf, _, rfl, _, rfl, _, rfl, o, r, kn, d, ns, g, kns', ks', _, rest, rfl, L1, ih2, by omega, nb1, fun b kns2 ks2 z H2 sx2 g1 g2 => ?_, fun z H2 sx2 => k2 ?_ H2 (back (sx.trans sx2))⟩
            · refine ⟨b, kns2, ks2, _, _, rfl, sx.trans sx2, L1.move sx2 g1 g2, ?_⟩
              rw [z] at R'
              exact R'
            · rw [z] at R'
              exact R'.symm
          · have : decide (V.int (((V.str h :: vr).length : Nat) : Int) = V.int ((rest.length : Int) + 1)) = true := decide_eq_true (congrArg V.int (by simp; omega))
            rw [this] at z
            cases z
        · have : decide ((((V.str h :: vr).length : Nat) : Int) > 0) = true := decide_eq_true (by simp)
          rw [this] at z
          cases z
      · have he : e = true := by cases e <;> first | rfl | cases h1
        subst he
        exact R.symm
    · rintro σ H' ⟨e, kns', ks', x1, x2, rfl, sx, L1, R⟩
      rw [len, List.drop_length] at R
      exact ⟨_, rfl, k1 e kns' R.symm H' (back sx) L1.hkn⟩
end
end K08

namespace K08
open PySem PySem.Spec PyProof.Rows L2
def allW (l : List Th) : Bool := l.all txtT
theorem allW_wds : ∀ {H : Hp} {l : List Th} {us : List V}, IsThL H us l → allW l = true → us = (wds l).map V.str ∧ (wds l).length = l.length
  | H, [], us, h, _ => ⟨h, rfl⟩
  | H, .num i :: r, us, h, n => by simp [allW, txtT] at n
  | H, .tup m :: r, us, h, n => by simp [allW, txtT] at n
  | H, .wd x :: r, us, h, n => by
    obtain ⟨v, vr, rfl, h1, h2⟩ := h
    have n' : allW r = true := by
      have : (txtT (.wd x) && r.all txtT) = true := n
      rw [Bool.and_eq_true] at this
      exact this.2
    obtain ⟨a, b⟩ := allW_wds h2 n'
    rw [show v = .str x from h1, a]
    exact ⟨rfl, by simp [wds, b]⟩
/-- a function that has been looked at: what it gives, its variables -/
structure FunOk (l kids : List Th) (g : Str) : Prop where
  len : 4 ≤ l.length
  gv : nth l 3 = .wd g
  kd : nth l 2 = .tup kids
  kl : kids.length ≤ 8
  k2 : kids.length % 2 = 0
  ev : allW (alt kids) = true
  od : allW (alt (kids.drop 1)) = true
  nd : (wds (alt kids)).Nodup
theorem putF_le (f : Str) (v : V) : ∀ fs : List (Str × V), (putF f v fs).length ≤ fs.length + 1
  | [] => by simp [putF]
  | (g, x) :: r => by
    unfold putF
    split
    · simp
    · simp
      exact putF_le f v r
def spInit (C : Addr) : Sp := fun vs H Q E => ∃ x dx r fn v l kids g, vs = [.ref x, .ref r, .ref fn, v] ∧ H x = some (.ins C dx []) ∧ IsTh H v (.tup l) ∧ FunOk l kids g ∧
  ∀ H' kn fs, H kn = none → Sx [x] H H' → H' x = some (.ins C dx fs) → fs.lookup ("records" : Str) = some (V.ref r) → fs.lookup ("gives" : Str) = some (V.str g) → fs.lookup ("known" : Str) = some (V.ref kn) → H' kn = some (.dK (knV (wds (alt kids)))) → Q .non H'
section
variable {P : Program} {w : World} {K : PySem.W.Frag} {mg : Str → Option Value} {base : Heap} {t1 t2 t3 t4 : Tok} {cP cT cR cM cA cS aO C aT aU aS aL fL fI fW fK fG fF fD : Addr}
theorem sc_Look_init : FnScope ["self", "records", "functions", "fun"] ["self", "records", "functions", "fun"] (defScope sLookInit) := ⟨rfl, rfl, rfl, by decide +kernel, rfl, by decide +kernel, by decide +kernel⟩
theorem ok_Look_init {f : Addr} {fd : FuncData} {CX : CXT} (F : Fun K "__init__" "Look.__init__" sLookInit f fd) (LT : LookT K C) : FnOk P w K mg base (CX1 P w) 1 f fd ["self", "records", "functions", "fun"] (spInit C) := by
  refine F.ok1 sc_Look_init (fun vs H Q E h => ?_) (fun cdv A outer s H vs Q E hr h => ?_)
  · obtain ⟨x, dx, r, fn, v, l, kids, g, rfl, _⟩ := h
    rfl
  · obtain ⟨x, dx, r, fn, v, l, kids, g, rfl, hx, hi, fo, k⟩ := h
    have nd := sc_Look_init.nd
    obtain ⟨a, us, rfl, hu, hl⟩ := hi
    have hax : a ≠ x := ne_of hu hx (by simp)
    obtain ⟨v2, e2, a2, i2, _⟩ := nth_at hl 2 (by have := fo.len; omega)
    obtain ⟨v3, e3, a3, i3, _⟩ := nth_at hl 3 (by have := fo.len; omega)
    rw [fo.gv] at i3
    cases (show v3 = .str g from i3)
    rw [fo.kd] at i2
    obtain ⟨b2, ws, rfl, hw, hwl⟩ := i2
    have hbx : b2 ≠ x := ne_of hw hx (by simp)
    refine ⟨_, (qss_cons (qs_fld (qv 0) (qv 1) rfl)
      (qss_cons (qs_fld (qv 0) (qv 2) rfl)
      (qss_cons (qs_fld (qv 0) (qe_ix ix_tup (qv 3) qe_int (fun _ _ => rfl)) rfl)
      (qss_one (qs_fld (qv 0) (qe_compD (N' := ["name"]) (n := 1) (Caps.nil rfl (by decide) (by decide) (by decide) rfl) rfl (qi_tup (qe_slice2 (qe_ix ix_tup (qv 3) qe_int (fun _ _ => rfl)) qo_none)) (fun _ _ _ => ⟨(qg_name (i := 0) (show List.Nodup (["name"] : List Str) from by decide +kernel) rfl (Or.inl rfl)), qts_nil, (qv 0), qe_bl⟩)) rfl))))), ?_⟩
    refine ⟨_, rfl, _, rfl, x, C, dx, [], rfl, hx, LT.cl, LT.n1, by decide, ?_⟩
    refine ⟨_, rfl, _, rfl, x, C, dx, _, rfl, upd_same, LT.cl, LT.n2, Nat.lt_of_le_of_lt (putF_le _ _ _) (by decide), ?_⟩
    rw [upd_upd]
    refine ⟨_, rfl, _, _, 3, _, rfl, rfl, .inl (.inl (by rw [upd_ne hax]; exact hu)), a3, _, rfl, x, C, dx, _, rfl, upd_same, LT.cl, LT.n3, Nat.lt_of_le_of_lt (putF_le _ _ _) (Nat.lt_of_le_of_lt (Nat.add_le_add_right (putF_le _ _ _) 1) (by decide)), ?_⟩
    rw [upd_upd]
    refine ⟨_, rfl, _, _, 2, _, rfl, rfl, .inl (.inl (by rw [upd_ne hax]; exact hu)), a2, b2, ws, rfl, .inl (.inl (by rw [upd_ne hbx]; exact hw)), fun p hp => ⟨p, rfl, ⟨_, .inl (.inl upd_same)⟩, fun D hD => ?_⟩⟩
    obtain ⟨ew, el⟩ := allW_wds (IsThL.alt hwl) fo.ev
    have hpx : x ≠ p := fun z => by rw [z] at hp; rw [upd_same] at hp; cases hp
    have hDx : x ≠ D := fun z => by rw [z] at hD; rw [upd_ne (fun q => hpx (z.trans q)), upd_same] at hD; cases hD
    have hpn : H p = none := by rw [upd_ne hpx.symm] at hp; exact hp
    have hDp : D ≠ p := fun z => by rw [z, upd_same] at hD; cases hD
    have hDn : H D = none := by rw [upd_ne hDp, upd_ne hDx.symm] at hD; exact hD
    have wl : (alt ws).length ≤ 8 := by rw [alt_len, hwl.len]; have := fo.kl; omega
    refine compD_tup (xs := alt ws) (fun i ys σ H' => (∃ o, σ = [o]) ∧ H' = upd (upd (upd H x (HO.ins C dx (putF "gives" (V.str g) (putF "functions" (V.ref fn) (putF "records" (V.ref r) []))))) p (HO.tup (alt ws))) D (.dK ys) ∧ ys = knV ((wds (alt kids)).take i)) (Nat.le_trans wl (by decide)) ⟨⟨_, rfl⟩, rfl, by simp [knV]⟩ ?_ ?_ ?_
    · rintro i ys σ H' hi ⟨_, rfl, rfl⟩
      refine ⟨.inl (.inl ?_), upd_same, by simp [knV]; omega⟩
      rw [upd_ne hDp.symm, upd_same]
    · rintro i v ys σ H' hv ⟨⟨o, rfl⟩, rfl, rfl⟩
      rw [ew, List.getElem?_map] at hv
      obtain ⟨n, hn, rfl⟩ : ∃ n, (wds (alt kids))[i]? = some n ∧ v = V.str n := by
        cases e : (wds (alt kids))[i]? with
        | none => rw [e] at hv; cases hv
        | some n => rw [e] at hv; exact ⟨n, rfl, (Option.some.inj hv).symm⟩
      have tk : (wds (alt kids)).take (i + 1) = (wds (alt kids)).take i ++ [n] := by rw [List.take_add_one, hn]; rfl
      have nm : n ∉ (wds (alt kids)).take i := fun z => by
        have := fo.nd.sublist (List.take_sublist (i + 1) _)
        rw [tk, List.nodup_append] at this
        exact this.2.2 n z n (by simp) rfl
      refine ⟨_, rfl, Sum.inr n, rfl, upd_same, ⟨_, rfl⟩, upd_upd, ?_⟩
      rw [tk]
      exact putS_fresh _ _ nm
    · rintro ys σ H' ⟨_, rfl, rfl⟩
      have full : (wds (alt kids)).take (alt ws).length = wds (alt kids) := List.take_of_length_le (by rw [el, (IsThL.alt hwl).len]; exact Nat.le_refl _)
      rw [full]
      refine ⟨_, rfl, x, C, dx, _, rfl, by rw [upd_ne hDx, upd_ne hpx, upd_same], LT.cl, LT.n4, Nat.lt_of_le_of_lt (putF_le _ _ _) (Nat.lt_of_le_of_lt (Nat.add_le_add_right (Nat.le_trans (putF_le _ _ _) (Nat.add_le_add_right (putF_le _ _ _) 1)) 1) (by decide)), ?_⟩
      refine k _ D _ hDn (fun b u hb nb => ?_) upd_same ?_ ?_ ?_ ?_
      · have n1 : b ≠ x := by simpa using nb
        rw [upd_ne n1, upd_ne (ne_of_none hb hDn), upd_ne (ne_of_none hb hpn), upd_ne n1]
        exact hb
      · rw [lookup_putF, if_neg (by decide +kernel), lookup_putF, if_neg (by decide +kernel), lookup_putF, if_neg (by decide +kernel), lookup_putF, if_pos rfl]
      · rw [lookup_putF, if_neg (by decide +kernel), lookup_putF, if_pos rfl]
      · rw [lookup_putF, if_pos rfl]
      · rw [upd_ne hDx.symm, upd_same]
end
end K08

namespace K08
open PySem PySem.Spec PyProof.Rows L2
def ksOf (kids : List Th) : List (Str × Str) := (wds (alt kids)).zip (wds (alt (kids.drop 1)))
theorem mergeK_fresh : ∀ (more acc : List (Key × V)), ((acc ++ more).map (·.1)).Nodup → mergeK acc more = acc ++ more
  | [], acc, _ => by simp [mergeK]
  | kv :: rest, acc, hn => by
    have hf : ¬ (acc.any fun x => decide (x.1 = kv.1)) = true := by
      rw [List.any_eq_true]
      rintro ⟨x, hx, he⟩
      rw [List.map_append, List.map_cons, List.nodup_append] at hn
      exact hn.2.2 x.1 (List.mem_map_of_mem hx) kv.1 (by simp) (of_decide_eq_true he)
    have : mergeK acc (kv :: rest) = mergeK (acc ++ [kv]) rest := by
      show mergeK (putK acc kv.1 kv.2) rest = _
      unfold putK
      rw [if_neg hf]
    rw [this, mergeK_fresh rest (acc ++ [kv]) (by simpa using hn)]
    simp
theorem ks_merge {kids : List Th} (h2 : kids.length % 2 = 0) (e1 : (wds (alt kids)).length = (alt kids).length) (e2 : (wds (alt (kids.drop 1))).length = (alt (kids.drop 1)).length) (nd : (wds (alt kids)).Nodup) :
    mergeK [] (((wds (alt kids)).map (Sum.inr : Str → Key)).zip ((wds (alt (kids.drop 1))).map V.str)) = ksV (ksOf kids) := by
  have ez : ((wds (alt kids)).map (Sum.inr : Str → Key)).zip ((wds (alt (kids.drop 1))).map V.str) = ksV (ksOf kids) := by
    unfold ksV ksOf
    rw [List.zip_map]
    rfl
  rw [ez]
  have l1 : (wds (alt kids)).length ≤ (wds (alt (kids.drop 1))).length := by
    rw [e1, e2, alt_len, alt_len, List.length_drop]
    omega
  have := mergeK_fresh (ksV (ksOf kids)) [] (by
    rw [List.nil_append]
    have : (ksV (ksOf kids)).map (·.1) = (wds (alt kids)).map Sum.inr := by
      unfold ksV ksOf
      rw [List.map_map]
      show ((wds (alt kids)).zip (wds (alt (kids.drop 1)))).map (fun p => (Sum.inr p.1 : Key)) = _
      rw [show (fun p : Str × Str => (Sum.inr p.1 : Key)) = Sum.inr ∘ Prod.fst from rfl, ← List.map_map, List.map_fst_zip l1]
    rw [this]
    exact List.Pairwise.map _ (fun a b h z => h (Sum.inr.inj z)) nd)
  simpa using this
def bodyR (n : Nat) (ns : List Str) (g : Str) (l kids : List Th) : Res (Bool × List Str) := stsL (stP n ns g) false (wds (alt kids)) (ksOf kids) (l.drop 4)
def spBody (n : Nat) (C cR : Addr) : Sp := fun vs H Q E => ∃ o r kn ns g v l kids, vs = [.ref o, v] ∧ Lk C H o r kn ns g ∧ H kn = some (.dK (knV (wds (alt kids)))) ∧ r ≠ kn ∧ IsTh H v (.tup l) ∧ FunOk l kids g ∧ bodyR n ns g l kids ≠ .big ∧
  ((∃ k, bodyR n ns g l kids = .ok (true, k)) → ∀ H', Sx [kn] H H' → Q .non H') ∧ ((∀ k, bodyR n ns g l kids ≠ .ok (true, k)) → ∀ H', Sx [kn] H H' → E (.ref cR) none H')
section
variable {P : Program} {w : World} {K : PySem.W.Frag} {mg : Str → Option Value} {base : Heap} {t1 t2 t3 t4 : Tok} {cP cT cR cM cA cS aO C aT aU aS aL fL fI fW fK fG fF fD : Addr}
theorem sc_look_at_body : FnScope ["look", "fun", "kinds"] ["look", "fun"] (defScope sLookAtBody) := ⟨rfl, rfl, rfl, by decide +kernel, rfl, by decide +kernel, by decide +kernel⟩
theorem ok_look_at_body {f : Addr} {fd : FuncData} {n k : Nat} (hk : 1 ≤ k) (F : Fun K "look_at_body" "look_at_body" sLookAtBody f fd) (T : Txt0 K mg t1 t2 t3 t4) (F_want : FnB1 P w K mg base 1 "want" ["so", "why"] (spWant cR)) (F_look_at_statements : FnB1 P w K mg base k "look_at_statements" ["look", "statements", "around"] (spS n C cR)) :
    FnOk P w K mg base (CX1 P w) (k + 1) f fd ["look", "fun"] (spBody n C cR) := by
  refine F.ok1 sc_look_at_body (fun vs H Q E h => ?_) (fun cdv A outer s H vs Q E hr h => ?_)
  · obtain ⟨o, r, kn, ns, g, v, l, kids, rfl, _⟩ := h
    rfl
  · obtain ⟨o, r, kn, ns, g, v, l, kids, rfl, lk, hkn, d1, hi, fo, nb, k1, k2⟩ := h
    have nd := sc_look_at_body.nd
    obtain ⟨a, us, rfl, hu, hl⟩ := hi
    have len := hl.len
    have l4 := fo.len
    obtain ⟨v2, e2, a2, i2, _⟩ := nth_at hl 2 (by omega)
    rw [fo.kd] at i2
    obtain ⟨b2, ws, rfl, hw, hwl⟩ := i2
    obtain ⟨ew, el⟩ := allW_wds (IsThL.alt hwl) fo.ev
    obtain ⟨ew2, el2⟩ := allW_wds (IsThL.alt (hwl.drop 1)) fo.od
    refine ⟨_, (qss_cons (qs_set (i := 2) nd rfl (Or.inl rfl) (qe_dzip (b := false) (c := false) rfl rfl T.n_dict rfl T.n_zip (qa_cons (qe_slice2 (qe_ix ix_tup (qv 1) qe_int (fun _ _ => rfl)) qo_none) (qa_cons (qe_slice2 (qe_ix ix_tup (qv 1) qe_int (fun _ _ => rfl)) (qo_some qe_int)) qa_nil))))
      (qss_one (qs_expr (qe_fn1 F_want (pass1 raises_cx rfl) (hr.mono (by first | decide | omega)) rfl (qa_cons (qe_fn1 F_look_at_statements (pass1 raises_cx rfl) (hr.mono (by first | decide | omega)) rfl (qa_cons (qv 0) (qa_cons (qe_slice sl_tup (qv 1) (qo_some qe_int) qo_none) (qa_cons (qv 2) qa_nil)))) (qa_cons qe_str qa_nil)))))), ?_⟩
    refine ⟨_, rfl, _, _, 2, _, rfl, rfl, .inl (.inl hu), a2, b2, ws, rfl, .inl (.inl hw), fun p hp => ?_⟩
    have s1 : Same H (upd H p (.tup (alt ws))) := (Same.refl H).upd hp
    refine ⟨_, rfl, _, _, 2, _, rfl, rfl, .inl (.inl (s1 _ _ hu)), a2, _, rfl, b2, ws, rfl, .inl (.inl (s1 _ _ hw)), fun p2 hp2 => ?_⟩
    have ed : ws.drop (HT.sIx ws.length 0 (some 1)) = ws.drop 1 := by
      rw [show (some 1 : Option Int) = some ((1 : Nat) : Int) from rfl, HT.sIx_nat]
      rcases Nat.le_total 1 ws.length with h | h
      · rw [Nat.min_eq_left h]
      · rw [Nat.min_eq_right h, List.drop_of_length_le (Nat.le_refl _), List.drop_of_length_le h]
    rw [ed]
    have s2 : Same H (upd (upd H p (.tup (alt ws))) p2 (.tup (alt (ws.drop 1)))) := s1.upd hp2
    have q1 : upd (upd H p (.tup (alt ws))) p2 (.tup (alt (ws.drop 1))) p = some (.tup (alt ws)) := by rw [upd_ne (ne_of_none upd_same hp2)]; exact upd_same
    have q2 : upd (upd H p (.tup (alt ws))) p2 (.tup (alt (ws.drop 1))) p2 = some (.tup (alt (ws.drop 1))) := upd_same
    refine ⟨p, p2, rfl, ⟨_, .inl (.inl q1)⟩, ⟨_, .inl (.inl q2)⟩, (wds (alt kids)).map Sum.inr, (wds (alt (kids.drop 1))).map V.str, .inl (.inl ?_), .inl (.inl ?_), fun d hd => ?_⟩
    · exact q1.trans (by rw [ew, List.map_map]; rfl)
    · exact q2.trans (by rw [ew2])
    rw [ks_merge fo.k2 el el2 fo.nd]
    have s3 : Same H (upd (upd (upd H p (.tup (alt ws))) p2 (.tup (alt (ws.drop 1)))) d (.dK (ksV (ksOf kids)))) := s2.upd hd
    have hdn : H d = none := s2.free hd
    have nw : ¬ (HT.sIx us.length 0 (some 4) = 0 ∧ HT.sIx us.length us.length none = us.length) := fun z => by
      have := z.1
      rw [show (some 4 : Option Int) = some ((4 : Nat) : Int) from rfl, HT.sIx_nat] at this
      omega
    refine ⟨_, rfl, _, rfl, 4, rfl, a, us, rfl, .inl (.inl (s3 _ _ hu)), nw, fun p4 hp4 => ?_⟩
    rw [show cutV us (some 4) none = us.drop 4 from cut_drop us 4]
    have s4 := s3.upd (o := .tup (us.drop 4)) hp4
    have hd4 : upd (upd (upd (upd H p (.tup (alt ws))) p2 (.tup (alt (ws.drop 1)))) d (.dK (ksV (ksOf kids)))) p4 (.tup (us.drop 4)) d = some (.dK (ksV (ksOf kids))) := by rw [upd_ne (ne_of_none upd_same hp4)]; exact upd_same
    obtain ⟨kvs, e3, hn⟩ := lk.rcd
    have back : ∀ {H'}, Sx [kn] (upd (upd (upd (upd H p (.tup (alt ws))) p2 (.tup (alt (ws.drop 1)))) d (.dK (ksV (ksOf kids)))) p4 (.tup (us.drop 4))) H' → Sx [kn] H H' := fun {H'} sx b u e nb => sx b u (s4 _ _ e) nb
    refine ⟨_, rfl, o, r, kn, d, ns, g, wds (alt kids), ksOf kids, _, l.drop 4, rfl, ⟨lk.same s4, s4 _ _ hkn, hd4, d1, ne_of_none e3 hdn, ne_of_none hkn hdn⟩, ⟨p4, _, rfl, upd_same, (hl.drop 4).mono s4.tups⟩, nb, fun b kns' z H' sx e => ⟨_, _, rfl, fun hb => k1 ⟨kns', by rw [← hb]; exact z⟩ H' (back sx), fun hb => k2 (fun k q => ?_) H' (back sx)⟩, fun z H' sx => k2 (fun k q => ?_) H' (back sx)⟩
    · have : (.ok (b, kns') : Res (Bool × List Str)) = .ok (true, k) := z.symm.trans q
      cases this
      cases hb
    · have : (.no : Res (Bool × List Str)) = .ok (true, k) := z.symm.trans q
      cases this
end
end K08

namespace K08
open PySem PySem.Spec PyProof.Rows L2
def name1 (t : Th) : Th := nth (kidsOf t) 1
/-- a tuple with a text behind its head -/
def Nm (t : Th) : Prop := ∃ m x, t = .tup m ∧ 2 ≤ m.length ∧ nth m 1 = .wd x
theorem wds_len : ∀ l : List Th, (wds l).length ≤ l.length
  | [] => Nat.le_refl _
  | .num _ :: r => by simp [wds]; exact Nat.le_succ_of_le (wds_len r)
  | .tup _ :: r => by simp [wds]; exact Nat.le_succ_of_le (wds_len r)
  | .wd _ :: r => by simp [wds]; exact wds_len r
theorem wds_append : ∀ l m : List Th, wds (l ++ m) = wds l ++ wds m
  | [], m => rfl
  | .num _ :: r, m => wds_append r m
  | .tup _ :: r, m => wds_append r m
  | .wd x :: r, m => by
    show x :: wds (r ++ m) = x :: (wds r ++ wds m)
    rw [wds_append r m]
/-- [t[1] for t in ts] -/
theorem names_compT {K : PySem.W.Frag} {a D : Addr} {us : List V} {l : List Th} {σ0 : L2.St} {H1 : Hp} {Q : Hp → Prop} (h1 : σ0.length = 1) (hq : SqT K H1 a us) (hD : H1 D = none) (hl : IsThL H1 us l) (hz : l.length ≤ 1000) (hn : ∀ t ∈ l, Nm t)
    (hd : ∀ H', Same H1 H' → H' D = some (.lst ((wds (l.map name1)).map V.str)) → Q H') :
    ∃ W : Nat → Nat → L2.St → Hp → Prop, (∃ m, W 0 m σ0 (upd H1 D (.lst []))) ∧ ∀ i m σ' H', W i m σ' H' →
      ((Itt K a).stop i H' ∧ Q H') ∨ ((Itt K a).go i H' ∧ ∃ (Ay : V → L2.St → Hp → Prop) (An : L2.St → Hp → Prop), (∀ y σ3 H5, Ay y σ3 H5 → ∃ ys, H5 D = some (.lst ys) ∧ ys.length < sizeLine ∧ ∃ m', m' < m ∧ W (i + 1) m' σ3 (upd H5 D (.lst (ys ++ [y])))) ∧
        (∀ σ3 H4, An σ3 H4 → ∃ m', m' < m ∧ W (i + 1) m' σ3 H4) ∧
        ∀ x H2, (Itt K a).yld i H' x H2 → (gName 0) x σ' H2 fun σ3 H3 => tYes σ3 H3 fun ok H4 => if ok = true then tOp (rIxT K) (tVar 0) (tC (V.int 1)) σ3 H4 (fun y H5 => Ay y σ3 H5) else An σ3 H4) := by
  have len := hl.len
  refine comp_tup (xs := us) (fun i ys σ H' => σ.length = 1 ∧ Same H1 H' ∧ H' D = some (.lst ys) ∧ ys = (wds ((l.take i).map name1)).map V.str) (by rw [len]; exact Nat.le_of_lt (small1000 hz)) ⟨h1, Same.upd (Same.refl H1) hD, upd_same, by simp [wds]⟩ ?_ ?_ ?_
  · rintro i ys σ H' hi ⟨_, sm, hy, rfl⟩
    refine ⟨sqt_same sm hq, hy, ?_⟩
    rw [List.length_map]
    exact Nat.le_trans (wds_len _) (by rw [List.length_map, List.length_take]; exact Nat.min_le_left _ _)
  · rintro i v ys σ H' hv ⟨hσ, sm, hy, rfl⟩
    obtain ⟨th, ht, hi⟩ := hl.get hv
    obtain ⟨m, x, rfl, m2, ex⟩ := hn th (List.mem_of_getElem? ht)
    obtain ⟨b, ws, rfl, hb, hw⟩ := hi
    obtain ⟨v1, e1, a1, i1, _⟩ := nth_at hw 1 (by omega)
    rw [ex] at i1
    cases (show v1 = .str x from i1)
    match σ, hσ with
    | [o], _ =>
      refine ⟨_, rfl, _, _, 1, _, rfl, rfl, .inl (.inl (sm _ _ hb)), a1, hy, rfl, K08.Same.upd_at sm hD, upd_same, ?_⟩
      rw [List.take_add_one, ht, List.map_append, wds_append]
      show _ = (wds _ ++ wds [nth m 1]).map V.str
      rw [ex]
      simp [wds]
  · rintro ys σ H' ⟨_, sm, hy, rfl⟩
    rw [len, List.take_length] at hy
    exact hd H' sm hy
/-- [t[1] for t in ts] -/
theorem names_compL {K : PySem.W.Frag} {a D : Addr} {us : List V} {l : List Th} {σ0 : L2.St} {H1 : Hp} {Q : Hp → Prop} (h1 : σ0.length = 1) (hq : SqL K H1 a us) (hD : H1 D = none) (hl : IsThL H1 us l) (hz : l.length ≤ 1000) (hn : ∀ t ∈ l, Nm t)
    (hd : ∀ H', Same H1 H' → H' D = some (.lst ((wds (l.map name1)).map V.str)) → Q H') :
    ∃ W : Nat → Nat → L2.St → Hp → Prop, (∃ m, W 0 m σ0 (upd H1 D (.lst []))) ∧ ∀ i m σ' H', W i m σ' H' →
      ((Itl K a).stop i H' ∧ Q H') ∨ ((Itl K a).go i H' ∧ ∃ (Ay : V → L2.St → Hp → Prop) (An : L2.St → Hp → Prop), (∀ y σ3 H5, Ay y σ3 H5 → ∃ ys, H5 D = some (.lst ys) ∧ ys.length < sizeLine ∧ ∃ m', m' < m ∧ W (i + 1) m' σ3 (upd H5 D (.lst (ys ++ [y])))) ∧
        (∀ σ3 H4, An σ3 H4 → ∃ m', m' < m ∧ W (i + 1) m' σ3 H4) ∧
        ∀ x H2, (Itl K a).yld i H' x H2 → (gName 0) x σ' H2 fun σ3 H3 => tYes σ3 H3 fun ok H4 => if ok = true then tOp (rIxT K) (tVar 0) (tC (V.int 1)) σ3 H4 (fun y H5 => Ay y σ3 H5) else An σ3 H4) := by
  have len := hl.len
  refine comp_list (xs := us) (fun i ys σ H' => σ.length = 1 ∧ Same H1 H' ∧ H' D = some (.lst ys) ∧ ys = (wds ((l.take i).map name1)).map V.str) (by rw [len]; exact Nat.le_of_lt (small1000 hz)) hD ⟨h1, Same.upd (Same.refl H1) hD, upd_same, by simp [wds]⟩ ?_ ?_ ?_
  · rintro i ys σ H' hi ⟨_, sm, hy, rfl⟩
    refine ⟨Same.seq sm hq, hy, ?_⟩
    rw [List.length_map]
    exact Nat.le_trans (wds_len _) (by rw [List.length_map, List.length_take]; exact Nat.min_le_left _ _)
  · rintro i v ys σ H' hv ⟨hσ, sm, hy, rfl⟩
    obtain ⟨th, ht, hi⟩ := hl.get hv
    obtain ⟨m, x, rfl, m2, ex⟩ := hn th (List.mem_of_getElem? ht)
    obtain ⟨b, ws, rfl, hb, hw⟩ := hi
    obtain ⟨v1, e1, a1, i1, _⟩ := nth_at hw 1 (by omega)
    rw [ex] at i1
    cases (show v1 = .str x from i1)
    match σ, hσ with
    | [o], _ =>
      refine ⟨_, rfl, _, _, 1, _, rfl, rfl, .inl (.inl (sm _ _ hb)), a1, hy, rfl, K08.Same.upd_at sm hD, upd_same, ?_⟩
      rw [List.take_add_one, ht, List.map_append, wds_append]
      show _ = (wds _ ++ wds [nth m 1]).map V.str
      rw [ex]
      simp [wds]
  · rintro ys σ H' ⟨_, sm, hy, rfl⟩
    rw [len, List.take_length] at hy
    exact hd H' sm hy
end K08

namespace K08
open PySem PySem.Spec PyProof.Rows L2
theorem putK_new (kvs : List (Key × V)) (k : Key) (v : V) (h : k ∉ kvs.map (·.1)) : putK kvs k v = kvs ++ [(k, v)] := by
  unfold putK
  rw [if_neg]
  rw [List.any_eq_true]
  rintro ⟨x, hx, e⟩
  exact h (by rw [← of_decide_eq_true e]; exact List.mem_map_of_mem hx)
theorem names_take {l : List Th} (hn : ∀ t ∈ l, Nm t) (nd : (wds (l.map name1)).Nodup) {i : Nat} {m : List Th} {x : Str} (ht : l[i]? = some (.tup m)) (ex : nth m 1 = .wd x) :
    wds ((l.take (i + 1)).map name1) = wds ((l.take i).map name1) ++ [x] ∧ (Sum.inr x : Key) ∉ (wds ((l.take i).map name1)).map Sum.inr := by
  have e : wds ((l.take (i + 1)).map name1) = wds ((l.take i).map name1) ++ [x] := by
    rw [List.take_add_one, ht, List.map_append, wds_append]
    show _ ++ wds [nth m 1] = _
    rw [ex]
    rfl
  refine ⟨e, fun z => ?_⟩
  have sub : (wds ((l.take (i + 1)).map name1)).Sublist (wds (l.map name1)) := by
    have : l.map name1 = (l.take (i + 1)).map name1 ++ (l.drop (i + 1)).map name1 := by rw [← List.map_append, List.take_append_drop]
    rw [this, wds_append]
    exact List.sublist_append_left _ _
  have nd' := nd.sublist sub
  rw [e, List.nodup_append] at nd'
  obtain ⟨y, hy, q⟩ := List.mem_map.mp z
  cases q
  exact nd'.2.2 x hy x (by simp) rfl
theorem valV_last : ∀ (ys : List (Key × V)) (k : Key) (v : V), k ∉ ys.map (·.1) → valV (ys ++ [(k, v)]) k = some v
  | [], k, v, _ => valV_pos rfl
  | p :: r, k, v, h => by
    show valV (p :: (r ++ [(k, v)])) k = _
    rw [valV_neg (fun z => h (by simp [z]))]
    exact valV_last r k v (fun z => h (by simp at z ⊢; exact .inr z))
theorem valV_first : ∀ (ys : List (Key × V)) (p : Key × V) {k : Key} (v : V), valV ys k = some v → valV (ys ++ [p]) k = some v
  | [], p, k, v, h => by cases h
  | q :: r, p, k, v, h => by
    show valV (q :: (r ++ [p])) k = _
    by_cases e : q.1 = k
    · rw [valV_pos e] at h ⊢
      exact h
    · rw [valV_neg e] at h ⊢
      exact valV_first r p v h
/-- {t[1]: t[2:] for t in ts} -/
theorem fields_comp {K : PySem.W.Frag} {a D : Addr} {us : List V} {l : List Th} {σ0 : L2.St} {H1 : Hp} {Q : Hp → Prop} (h1 : σ0.length = 1) (hq : SqT K H1 a us) (hD : H1 D = none) (hl : IsThL H1 us l) (hz : l.length ≤ 1000) (hn : ∀ t ∈ l, Nm t) (h3 : ∀ t ∈ l, 3 ≤ (kidsOf t).length) (nd : (wds (l.map name1)).Nodup)
    (hd : ∀ H' kvs, Same H1 H' → H' D = some (.dK kvs) → kvs.map (·.1) = (wds (l.map name1)).map Sum.inr → Q H') :
    ∃ W : Nat → Nat → L2.St → Hp → Prop, (∃ m, W 0 m σ0 (upd H1 D (.dK []))) ∧ ∀ i m σ' H', W i m σ' H' →
      ((Itt K a).stop i H' ∧ Q H') ∨ ((Itt K a).go i H' ∧ ∃ (Ay : V → V → L2.St → Hp → Prop) (An : L2.St → Hp → Prop), (∀ y v σ3 H5, Ay y v σ3 H5 → ∃ kvs key, y = kV key ∧ H5 D = some (.dK kvs) ∧ kvs.length < sizeLine ∧ ∃ m', m' < m ∧ W (i + 1) m' σ3 (upd H5 D (.dK (putK kvs key v)))) ∧
        (∀ σ3 H4, An σ3 H4 → ∃ m', m' < m ∧ W (i + 1) m' σ3 H4) ∧
        ∀ x H2, (Itt K a).yld i H' x H2 → (gName 0) x σ' H2 fun σ3 H3 => tYes σ3 H3 fun ok H4 => if ok = true then tOp (rIxT K) (tVar 0) (tC (V.int 1)) σ3 H4 (fun y H5 => tSl (rSlT K) (tVar 0) (tPart (tC (V.int 2))) tNoPart σ3 H5 fun v H6 => Ay y v σ3 H6) else An σ3 H4) := by
  have len := hl.len
  refine compD_tup (xs := us) (fun i ys σ H' => σ.length = 1 ∧ Same H1 H' ∧ H' D = some (.dK ys) ∧ ys.map (·.1) = (wds ((l.take i).map name1)).map Sum.inr) (by rw [len]; exact Nat.le_of_lt (small1000 hz)) ⟨h1, Same.upd (Same.refl H1) hD, upd_same, by simp [wds]⟩ ?_ ?_ ?_
  · rintro i ys σ H' hi ⟨_, sm, hy, ek⟩
    refine ⟨sqt_same sm hq, hy, ?_⟩
    have := congrArg List.length ek
    rw [List.length_map, List.length_map] at this
    rw [this]
    exact Nat.le_trans (wds_len _) (by rw [List.length_map, List.length_take]; exact Nat.min_le_left _ _)
  · rintro i v ys σ H' hv ⟨hσ, sm, hy, ek⟩
    obtain ⟨th, ht, hi⟩ := hl.get hv
    have hm3 := h3 th (List.mem_of_getElem? ht)
    obtain ⟨m, x, rfl, m2, ex⟩ := hn th (List.mem_of_getElem? ht)
    have hm3' : 3 ≤ m.length := hm3
    obtain ⟨b, ws, rfl, hb, hw⟩ := hi
    obtain ⟨v1, e1, a1, i1, _⟩ := nth_at hw 1 (by omega)
    rw [ex] at i1
    cases (show v1 = .str x from i1)
    obtain ⟨n1, n2⟩ := names_take hn nd ht ex
    have nw : ¬ (HT.sIx ws.length 0 (some 2) = 0 ∧ HT.sIx ws.length ws.length none = ws.length) := fun z => by
      have := z.1
      rw [show (some 2 : Option Int) = some ((2 : Nat) : Int) from rfl, HT.sIx_nat, hw.len] at this
      omega
    match σ, hσ with
    | [o], _ =>
      refine ⟨_, rfl, _, _, 1, _, rfl, rfl, .inl (.inl (sm _ _ hb)), a1, _, rfl, 2, rfl, b, ws, rfl, .inl (.inl (sm _ _ hb)), nw, fun p hp => ⟨Sum.inr x, rfl, ?_, rfl, K08.Same.upd_at (sm.upd hp) hD, upd_same, ?_⟩⟩
      · rw [upd_ne (ne_of_none hy hp)]
        exact hy
      · rw [putK_new _ _ _ (by rw [ek]; exact n2), n1, List.map_append, ek]
        simp
  · rintro ys σ H' ⟨_, sm, hy, ek⟩
    rw [len, List.take_length] at ek
    exact hd H' ys sm hy ek
/-- {t[1]: t for t in ts}, a list -/
theorem heads_comp {K : PySem.W.Frag} {a D : Addr} {us : List V} {l : List Th} {σ0 : L2.St} {H1 : Hp} {Q : Hp → Prop} (h1 : σ0.length = 1) (hq : SqL K H1 a us) (hD : H1 D = none) (hl : IsThL H1 us l) (hz : l.length ≤ 1000) (hn : ∀ t ∈ l, Nm t) (nd : (wds (l.map name1)).Nodup)
    (hd : ∀ H' kvs, Same H1 H' → H' D = some (.dK kvs) → kvs.map (·.1) = (wds (l.map name1)).map Sum.inr → (∀ (i : Nat) x m v, l[i]? = some (.tup m) → nth m 1 = .wd x → us[i]? = some v → valV kvs (Sum.inr x) = some v) → Q H') :
    ∃ W : Nat → Nat → L2.St → Hp → Prop, (∃ m, W 0 m σ0 (upd H1 D (.dK []))) ∧ ∀ i m σ' H', W i m σ' H' →
      ((Itl K a).stop i H' ∧ Q H') ∨ ((Itl K a).go i H' ∧ ∃ (Ay : V → V → L2.St → Hp → Prop) (An : L2.St → Hp → Prop), (∀ y v σ3 H5, Ay y v σ3 H5 → ∃ kvs key, y = kV key ∧ H5 D = some (.dK kvs) ∧ kvs.length < sizeLine ∧ ∃ m', m' < m ∧ W (i + 1) m' σ3 (upd H5 D (.dK (putK kvs key v)))) ∧
        (∀ σ3 H4, An σ3 H4 → ∃ m', m' < m ∧ W (i + 1) m' σ3 H4) ∧
        ∀ x H2, (Itl K a).yld i H' x H2 → (gName 0) x σ' H2 fun σ3 H3 => tYes σ3 H3 fun ok H4 => if ok = true then tOp (rIxT K) (tVar 0) (tC (V.int 1)) σ3 H4 (fun y H5 => tVar 0 σ3 H5 fun v H6 => Ay y v σ3 H6) else An σ3 H4) := by
  have len := hl.len
  refine compD_list (xs := us) (fun i ys σ H' => σ.length = 1 ∧ Same H1 H' ∧ H' D = some (.dK ys) ∧ ys.map (·.1) = (wds ((l.take i).map name1)).map Sum.inr ∧ ∀ (j : Nat) x m v, j < i → l[j]? = some (.tup m) → nth m 1 = .wd x → us[j]? = some v → valV ys (Sum.inr x) = some v) (by rw [len]; exact Nat.le_of_lt (small1000 hz)) ⟨h1, Same.upd (Same.refl H1) hD, upd_same, by simp [wds], fun j x m v hj => absurd hj (Nat.not_lt_zero _)⟩ ?_ ?_ ?_
  · rintro i ys σ H' hi ⟨_, sm, hy, ek, _⟩
    refine ⟨Same.seq sm hq, hy, ?_⟩
    have := congrArg List.length ek
    rw [List.length_map, List.length_map] at this
    rw [this]
    exact Nat.le_trans (wds_len _) (by rw [List.length_map, List.length_take]; exact Nat.min_le_left _ _)
  · rintro i v ys σ H' hv ⟨hσ, sm, hy, ek, old⟩
    obtain ⟨th, ht, hi⟩ := hl.get hv
    obtain ⟨m, x, rfl, m2, ex⟩ := hn th (List.mem_of_getElem? ht)
    obtain ⟨b, ws, rfl, hb, hw⟩ := hi
    obtain ⟨v1, e1, a1, i1, _⟩ := nth_at hw 1 (by omega)
    rw [ex] at i1
    cases (show v1 = .str x from i1)
    obtain ⟨n1, n2⟩ := names_take hn nd ht ex
    have nk : (Sum.inr x : Key) ∉ ys.map (·.1) := by rw [ek]; exact n2
    match σ, hσ with
    | [o], _ =>
      refine ⟨_, rfl, _, _, 1, _, rfl, rfl, .inl (.inl (sm _ _ hb)), a1, _, rfl, Sum.inr x, rfl, hy, rfl, K08.Same.upd_at sm hD, upd_same, ?_, fun j y m' v' hj hl' hm' hv' => ?_⟩
      · rw [putK_new _ _ _ nk, n1, List.map_append, ek]
        simp
      · rw [putK_new _ _ _ nk]
        by_cases e : j = i
        · subst e
          rw [ht] at hl'
          cases hl'
          rw [ex] at hm'
          cases hm'
          rw [hv] at hv'
          cases hv'
          exact valV_last ys _ _ nk
        · exact valV_first ys _ _ (old j y m' v' (by omega) hl' hm' hv')
  · rintro ys σ H' ⟨_, sm, hy, ek, old⟩
    rw [len, List.take_length] at ek
    refine hd H' ys sm hy ek fun i x m v h1 h2 h3 => old i x m v ?_ h1 h2 h3
    exact (List.getElem?_eq_some_iff.mp h3).1
end K08

namespace K08
open PySem PySem.Spec PyProof.Rows L2
def funsOf (l : List Th) : List Th := (l.drop 1).filter (headT · "fun")
def recsOf (l : List Th) : List Th := (l.drop 1).take (l.length - (funsOf l).length - 1)
def nsOf (l : List Th) : List Str := wds ((recsOf l).map name1)
def fnsOf (l : List Th) : List Str := wds ((funsOf l).map name1)
def gOf (t : Th) : Str := match nth (kidsOf t) 3 with | .wd x => x | _ => ""
def bodyOf (n : Nat) (ns : List Str) (t : Th) : Res (Bool × List Str) := bodyR n ns (gOf t) (kidsOf t) (kidsOf (nth (kidsOf t) 2))
def okTrue : Res (Bool × List Str) → Bool
  | .ok (true, _) => true
  | _ => false
def notBig : Res (Bool × List Str) → Bool
  | .big => false
  | _ => true
def isMain (t : Th) : Bool := match name1 t with | .wd x => decide (x = "main") | _ => false
def mainOf (l : List Th) : Th := ((funsOf l).find? isMain).getD (.num 0)
def treeP (n : Nat) : Th → Bool
  | .tup l => headT (.tup l) "program" && (recsOf l).all recP && decide (nsOf l).Nodup && (funsOf l).all (fun t => headP (nsOf l) (kidsOf t)) && decide (fnsOf l).Nodup && decide (("main" : Str) ∈ fnsOf l) && mainP (kidsOf (mainOf l)) && (funsOf l).all (fun t => okTrue (bodyOf n (nsOf l) t))
  | _ => false
def partOk (n : Nat) (ns : List Str) (t : Th) : Bool := hdOk t && smallT t && smallT (nth (kidsOf t) 2) && (!headT t "fun" || notBig (bodyOf n ns t))
def treeOk (n : Nat) : Th → Bool
  | .tup l => hdOk (.tup l) && decide (l.length ≤ 1000) && (l.drop 1).all (partOk n (nsOf l))
  | _ => true
theorem recP_ok {t : Th} (h : recP t = true) : Nm t ∧ 3 ≤ (kidsOf t).length := by
  cases t with
  | num i => cases h
  | wd x => cases h
  | tup l =>
    have h' : (headT (.tup l) "record" && decide (3 ≤ l.length) && decide (l.length ≤ 6) && nameT (nth l 1) && !ownT (nth l 1) && ((l.drop 2).map nameT).all id && decide (wds (l.drop 2)).Nodup) = true := h
    simp only [Bool.and_eq_true, decide_eq_true_eq] at h'
    obtain ⟨⟨⟨⟨⟨⟨_, h3⟩, _⟩, hn⟩, _⟩, _⟩, _⟩ := h'
    refine ⟨?_, h3⟩
    cases e : nth l 1 with
    | num i => rw [e] at hn; cases hn
    | tup m => rw [e] at hn; cases hn
    | wd x => exact ⟨l, x, rfl, by omega, e⟩
theorem headP_ok {ns : List Str} {m : List Th} (h : headP ns m = true) : ∃ kids g, FunOk m kids g ∧ kidsOf (nth m 2) = kids ∧ gOf (.tup m) = g ∧ Nm (.tup m) := by
  have h' : (decide (4 ≤ m.length) && nameT (nth m 1) && kidsP ns (nth m 2) && kindT ns (nth m 3)) = true := h
  simp only [Bool.and_eq_true, decide_eq_true_eq] at h'
  obtain ⟨⟨⟨h4, hn⟩, hk⟩, hg⟩ := h'
  obtain ⟨x1, e1⟩ : ∃ x, nth m 1 = .wd x := by
    cases e : nth m 1 with
    | num i => rw [e] at hn; cases hn
    | tup l => rw [e] at hn; cases hn
    | wd x => exact ⟨x, rfl⟩
  obtain ⟨g, e3⟩ : ∃ x, nth m 3 = .wd x := by
    cases e : nth m 3 with
    | num i => rw [e] at hg; cases hg
    | tup l => rw [e] at hg; cases hg
    | wd x => exact ⟨x, rfl⟩
  obtain ⟨kids, e2⟩ : ∃ k, nth m 2 = .tup k := by
    cases e : nth m 2 with
    | num i => rw [e] at hk; cases hk
    | wd x => rw [e] at hk; cases hk
    | tup k => exact ⟨k, rfl⟩
  rw [e2] at hk
  have hk' : (decide (kids.length % 2 = 0) && decide (kids.length ≤ 8) && ((alt kids).map nameT).all id && decide (wds (alt kids)).Nodup && ((alt (kids.drop 1)).map (kindT ns)).all id) = true := hk
  simp only [Bool.and_eq_true, decide_eq_true_eq] at hk'
  obtain ⟨⟨⟨⟨k2, k8⟩, kn⟩, knd⟩, kk⟩ := hk'
  refine ⟨kids, g, ⟨h4, e3, e2, k8, k2, ?_, ?_, knd⟩, by rw [e2]; rfl, by unfold gOf; show (match nth m 3 with | .wd x => x | _ => "") = g; rw [e3], m, x1, rfl, by omega, e1⟩
  · unfold allW
    rw [List.all_eq_true] at kn ⊢
    intro t ht
    have := kn (nameT t) (List.mem_map_of_mem ht)
    cases t with
    | num i => cases this
    | tup l => cases this
    | wd x => rfl
  · unfold allW
    rw [List.all_eq_true] at kk ⊢
    intro t ht
    have := kk (kindT ns t) (List.mem_map_of_mem ht)
    cases t with
    | num i => cases this
    | tup l => cases this
    | wd x => rfl
theorem mem_wds : ∀ {l : List Th} {x : Str}, x ∈ wds l → Th.wd x ∈ l
  | .num _ :: r, x, h => List.mem_cons_of_mem _ (mem_wds (l := r) h)
  | .tup _ :: r, x, h => List.mem_cons_of_mem _ (mem_wds (l := r) h)
  | .wd y :: r, x, h => by
    rcases List.mem_cons.mp (show x ∈ y :: wds r from h) with rfl | h
    · simp
    · exact List.mem_cons_of_mem _ (mem_wds h)
def spTree (n : Nat) (cR : Addr) : Sp := fun vs H Q E => ∃ v th, vs = [v] ∧ IsTh H v th ∧ treeOk n th = true ∧ (treeP n th = true → ∀ H', Same H H' → Q .non H') ∧ (treeP n th = false → ∀ H', Same H H' → E (.ref cR) none H')
section
variable {P : Program} {w : World} {K : PySem.W.Frag} {mg : Str → Option Value} {base : Heap} {t1 t2 t3 t4 : Tok} {cP cT cR cM cA cS aO C aT aU aS aL fL fI fW fK fG fF fD fi : Addr} {fdi : FuncData}
structure TxL (K : PySem.W.Frag) (mg : Str → Option Value) (C fi : Addr) (fdi : FuncData) : Prop where
  g_Look : mg "Look" = some (.ref C)
  b_Look : Binds K fdi ["self", "records", "functions", "fun"] []
  mak : Mk K C fi
theorem sc_look_at_tree : FnScope ["thing", "functions", "records", "record", "fields", "fun", "heads"] ["thing"] (defScope sLookAtTree) := ⟨rfl, rfl, rfl, by decide +kernel, rfl, by decide +kernel, by decide +kernel⟩
theorem ok_look_at_tree {f : Addr} {fd : FuncData} {n k : Nat} (hk : 4 ≤ k) (F : Fun K "look_at_tree" "look_at_tree" sLookAtTree f fd) (T : Txt0 K mg t1 t2 t3 t4) (TM : TxL K mg C fi fdi) (F_want : FnB1 P w K mg base 1 "want" ["so", "why"] (spWant cR)) (F_is_headed : FnB P w K mg base 1 "is_headed" ["thing", "word"] spHead)
    (F_all_unlike : FnB P w K mg base 2 "all_unlike" ["things"] (spAll K)) (F_look_at_record : FnB1 P w K mg base 4 "look_at_record" ["record"] (spRec cR)) (F_look_at_head : FnB1 P w K mg base 4 "look_at_head" ["fun", "records"] (spHd cR)) (F_look_at_main : FnB1 P w K mg base 2 "look_at_main" ["fun"] (spMain cR))
    (F_look_at_body : FnB1 P w K mg base k "look_at_body" ["look", "fun"] (spBody n C cR)) (FI_Look : FnOk P w K mg base (CX1 P w) 1 fi fdi ["self", "records", "functions", "fun"] (spInit C)) : FnOk P w K mg base (CX1 P w) (k + 1) f fd ["thing"] (spTree n cR) := by
  have MK_Look := TM.mak
  refine F.ok1 sc_look_at_tree (fun vs H Q E h => ?_) (fun cdv A outer s H vs Q E hr h => ?_)
  · obtain ⟨v, th, rfl, _⟩ := h
    rfl
  · obtain ⟨v, th, rfl, hi, ok, k1, k2⟩ := h
    have nd := sc_look_at_tree.nd
    have hd : hdOk th = true := by
      cases th with
      | num i => rfl
      | wd x => rfl
      | tup l =>
        have : (hdOk (.tup l) && _ && _) = true := ok
        rw [Bool.and_eq_true, Bool.and_eq_true] at this
        exact this.1.1
    refine ⟨_, (qss_cons (qs_expr (qe_fn1 F_want (pass1 raises_cx rfl) (hr.mono (by first | decide | omega)) rfl (qa_cons (qe_fn F_is_headed (hr.mono (by first | decide | omega)) rfl (qa_cons (qv 0) (qa_cons qe_str qa_nil))) (qa_cons qe_str qa_nil))))
      (qss_cons (qs_comp (i0 := 1) nd rfl rfl rfl (N' := ["part"]) (n := 1) (Caps.nil rfl (by decide) (by decide) (by decide) rfl) rfl (qi_tup (qe_slice sl_tup (qv 0) (qo_some qe_int) qo_none)) (fun _ _ _ => ⟨(qg_name (i := 0) (show List.Nodup (["part"] : List Str) from by decide +kernel) rfl (Or.inl rfl)), (qts_one (qt_val (qe_fn F_is_headed (hr.mono (by first | decide | omega)) rfl (qa_cons (qv 0) (qa_cons qe_str qa_nil))))), (qv 0)⟩))
      (qss_cons (qs_set (i := 2) nd rfl (Or.inl rfl) (qe_slice sl_tup (qv 0) (qo_some qe_int) (qo_some (qe_op op_sub (qe_callB call_len_seq rfl T.n_len PySem.boot_len (qa_cons (qv 0) qa_nil)) (qe_callB call_len_seq rfl T.n_len PySem.boot_len (qa_cons (qv 1) qa_nil))))))
      (qss_cons (qs_for PassesOwn.leaving rfl (qi_tup (qv 2)) (qg_name (i := 3) nd rfl (Or.inl rfl)) (qss_one (qs_expr (qe_fn1 F_look_at_record (pass1 raises_cx rfl) (hr.mono (by first | decide | omega)) rfl (qa_cons (qv 3) qa_nil)))))
      (qss_cons (qs_expr (qe_fn1 F_want (pass1 raises_cx rfl) (hr.mono (by first | decide | omega)) rfl (qa_cons (qe_fn F_all_unlike (hr.mono (by first | decide | omega)) rfl (qa_cons (qe_comp (N' := ["record"]) (n := 1) (Caps.nil rfl (by decide) (by decide) (by decide) rfl) rfl (qi_tup (qv 2)) (fun _ _ _ => ⟨(qg_name (i := 0) (show List.Nodup (["record"] : List Str) from by decide +kernel) rfl (Or.inl rfl)), qts_nil, (qe_ix (show IxR _ (rIxT K) from ix_tup) (qv 0) qe_int (fun _ _ => rfl))⟩)) qa_nil)) (qa_cons qe_str qa_nil))))
      (qss_cons (qs_compD (i0 := 4) nd rfl rfl rfl (N' := ["record"]) (n := 1) (Caps.nil rfl (by decide) (by decide) (by decide) rfl) rfl (qi_tup (qv 2)) (fun _ _ _ => ⟨(qg_name (i := 0) (show List.Nodup (["record"] : List Str) from by decide +kernel) rfl (Or.inl rfl)), qts_nil, (qe_ix (show IxR _ (rIxT K) from ix_tup) (qv 0) qe_int (fun _ _ => rfl)), (qe_slice (show SlR _ (rSlT K) from sl_tup) (qv 0) (qo_some qe_int) qo_none)⟩))
      (qss_cons (qs_for PassesOwn.leaving rfl (qi_list (qv 1)) (qg_name (i := 5) nd rfl (Or.inl rfl)) (qss_one (qs_expr (qe_fn1 F_look_at_head (pass1 raises_cx rfl) (hr.mono (by first | decide | omega)) rfl (qa_cons (qv 5) (qa_cons (qv 4) qa_nil))))))
      (qss_cons (qs_expr (qe_fn1 F_want (pass1 raises_cx rfl) (hr.mono (by first | decide | omega)) rfl (qa_cons (qe_fn F_all_unlike (hr.mono (by first | decide | omega)) rfl (qa_cons (qe_comp (N' := ["fun"]) (n := 1) (Caps.nil rfl (by decide) (by decide) (by decide) rfl) rfl (qi_list (qv 1)) (fun _ _ _ => ⟨(qg_name (i := 0) (show List.Nodup (["fun"] : List Str) from by decide +kernel) rfl (Or.inl rfl)), qts_nil, (qe_ix (show IxR _ (rIxT K) from ix_tup) (qv 0) qe_int (fun _ _ => rfl))⟩)) qa_nil)) (qa_cons qe_str qa_nil))))
      (qss_cons (qs_compD (i0 := 6) nd rfl rfl rfl (N' := ["fun"]) (n := 1) (Caps.nil rfl (by decide) (by decide) (by decide) rfl) rfl (qi_list (qv 1)) (fun _ _ _ => ⟨(qg_name (i := 0) (show List.Nodup (["fun"] : List Str) from by decide +kernel) rfl (Or.inl rfl)), qts_nil, (qe_ix (show IxR _ (rIxT K) from ix_tup) (qv 0) qe_int (fun _ _ => rfl)), (qv 0)⟩))
      (qss_cons (qs_expr (qe_fn1 F_want (pass1 raises_cx rfl) (hr.mono (by first | decide | omega)) rfl (qa_cons (qe_din (hu_of hr) qe_str (qv 6)) (qa_cons qe_str qa_nil))))
      (qss_cons (qs_expr (qe_fn1 F_look_at_main (pass1 raises_cx rfl) (hr.mono (by first | decide | omega)) rfl (qa_cons (qe_dget (hu_of hr) (qv 6) qe_str (fun _ _ => rfl)) qa_nil)))
      (qss_one (qs_for PassesOwn.leaving rfl (qi_list (qv 1)) (qg_name (i := 5) nd rfl (Or.inl rfl)) (qss_one (qs_expr (qe_fn1 F_look_at_body (pass1 raises_cx rfl) (hr.mono (by first | decide | omega)) rfl (qa_cons (qe_make MK_Look FI_Look (hr.mono (by first | decide | omega)) rfl TM.g_Look TM.b_Look .nil (pass1 raises_cx rfl) (qa_cons (qv 4) (qa_cons (qv 6) (qa_cons (qv 5) qa_nil)))) (qa_cons (qv 5) qa_nil)))))))))))))))))), ?_⟩
    refine ⟨_, rfl, v, th, _, rfl, hi, hd, _, _, rfl, fun h1 => ?_, fun h1 => k2 ?_ H (Same.refl H)⟩
    · cases th with
      | num i => cases h1
      | wd x => cases h1
      | tup l =>
        obtain ⟨a, us, rfl, hu, hl⟩ := hi
        have len := hl.len
        have key : treeP n (.tup l) = (headT (.tup l) "program" && (recsOf l).all recP && decide (nsOf l).Nodup && (funsOf l).all (fun t => headP (nsOf l) (kidsOf t)) && decide (fnsOf l).Nodup && decide (("main" : Str) ∈ fnsOf l) && mainP (kidsOf (mainOf l)) && (funsOf l).all (fun t => okTrue (bodyOf n (nsOf l) t))) := rfl
        have ok' : (hdOk (.tup l) && decide (l.length ≤ 1000) && (l.drop 1).all (partOk n (nsOf l))) = true := ok
        simp only [Bool.and_eq_true, decide_eq_true_eq] at ok'
        obtain ⟨⟨_, l1000⟩, parts⟩ := ok'
        rw [List.all_eq_true] at parts
        have part : ∀ t ∈ l.drop 1, hdOk t = true ∧ smallT t = true ∧ smallT (nth (kidsOf t) 2) = true ∧ (headT t "fun" = true → notBig (bodyOf n (nsOf l) t) = true) := fun t ht => by
          have := parts t ht
          unfold partOk at this
          simp only [Bool.and_eq_true] at this
          refine ⟨this.1.1.1, this.1.1.2, this.1.2, fun hf => ?_⟩
          have q := this.2
          rw [hf] at q
          simpa using q
        have pos : 1 ≤ l.length := by
          cases l with
          | nil => cases h1
          | cons t r => simp
        have nw : ∀ hi', ¬ (HT.sIx us.length 0 (some 1) = 0 ∧ HT.sIx us.length us.length hi' = us.length) := fun hi' z => by
          have := z.1
          rw [show (some 1 : Option Int) = some ((1 : Nat) : Int) from rfl, HT.sIx_nat] at this
          omega
        refine ⟨_, rfl, 1, rfl, a, us, rfl, .inl (.inl hu), nw none, fun p hp => ?_⟩
        rw [show cutV us (some 1) none = us.drop 1 from cut_drop us 1]
        have s1 : Same H (upd H p (.tup (us.drop 1))) := (Same.refl H).upd hp
        have hl1 := hl.drop 1
        refine ⟨p, rfl, ⟨_, .inl (.inl upd_same)⟩, fun D hD => ?_⟩
        refine comp_tup (xs := us.drop 1) (fun i ys σ H' => σ.length = 1 ∧ Same (upd H p (.tup (us.drop 1))) H' ∧ H' D = some (.lst ys) ∧ ys.length ≤ i ∧ IsThL H' ys (((l.drop 1).take i).filter (headT · "fun"))) (by rw [List.length_drop, len]; exact Nat.le_of_lt (small1000 (by omega))) ⟨rfl, Same.upd (Same.refl _) hD, upd_same, Nat.zero_le _, rfl⟩ ?_ ?_ ?_
        · rintro i ys σ H' hi' ⟨_, sm, hy, ly, _⟩
          exact ⟨.inl (.inl (sm _ _ upd_same)), hy, ly⟩
        · rintro i v ys σ H' hv ⟨hσ, sm, hy, ly, it⟩
          obtain ⟨th, ht, hi'⟩ := hl1.get hv
          have mem : th ∈ l.drop 1 := List.mem_of_getElem? ht
          have smm := s1.trans sm
          match σ, hσ with
          | [o], _ =>
            refine ⟨_, rfl, v, th, _, rfl, hi'.mono smm.tups, (part th mem).1, _, rfl, ite2 (fun g1 => ?_) (fun g1 => ?_)⟩
            · refine ⟨_, rfl, hy, rfl, K08.Same.upd_at sm hD, upd_same, by simp; omega, ?_⟩
              have tk : ((l.drop 1).take (i + 1)).filter (headT · "fun") = ((l.drop 1).take i).filter (headT · "fun") ++ [th] := by
                rw [List.take_add_one, ht, List.filter_append]
                have g1' : headT th "fun" = true := g1
                simp [g1']
              rw [tk]
              have up : Tups H' (upd H' D (.lst (ys ++ [v]))) := fun b xs e => by rw [upd_ne (ne_of e hy (by simp))]; exact e
              exact (it.mono up).append ⟨v, [], rfl, (hi'.mono smm.tups).mono up, rfl⟩
            · refine ⟨rfl, sm, hy, by omega, ?_⟩
              have tk : ((l.drop 1).take (i + 1)).filter (headT · "fun") = ((l.drop 1).take i).filter (headT · "fun") := by
                rw [List.take_add_one, ht, List.filter_append]
                have g1' : headT th "fun" = false := by
                  cases e : headT th "fun" with
                  | false => rfl
                  | true => exact absurd e g1
                simp [g1']
              rw [tk]
              exact it
        · rintro ys σ H1 ⟨_, sm, hy, _, it⟩
          rw [List.take_of_length_le (by rw [List.length_drop, List.length_drop, len]; exact Nat.le_refl _)] at it
          replace it : IsThL H1 ys (funsOf l) := it
          have S1 : Same H H1 := s1.trans sm
          have flen := it.len
          have fle : (funsOf l).length ≤ l.length - 1 := by
            have := List.length_filter_le (headT · "fun") (l.drop 1)
            rw [List.length_drop] at this
            exact this
          have sqa : ∀ H', Same H H' → SqT K H' a us := fun H' s' => .inl (.inl (s' _ _ hu))
          refine ⟨_, rfl, 1, rfl, _, rfl, a, us, rfl, .inr (sqa H1 S1), _, rfl, D, ys, rfl, .inl (.inl (.inl hy)), _, _, rfl, rfl, _, rfl, a, us, rfl, sqa H1 S1, nw _, fun p2 hp2 => ?_⟩
          have ecut : cutV us (some 1) (some ((us.length : Int) - (ys.length : Int))) = (us.drop 1).take (l.length - (funsOf l).length - 1) := by
            unfold cutV
            rw [show (us.length : Int) - (ys.length : Int) = ((us.length - ys.length : Nat) : Int) by omega, show (some 1 : Option Int) = some ((1 : Nat) : Int) from rfl, HT.sIx_nat, HT.sIx_nat, Nat.min_eq_left (show 1 ≤ us.length by omega), Nat.min_eq_left (Nat.sub_le _ _), len, flen]
          rw [ecut]
          have S2 : Same H1 (upd H1 p2 (.tup ((us.drop 1).take (l.length - (funsOf l).length - 1)))) := (Same.refl H1).upd hp2
          generalize eH2 : upd H1 p2 (.tup ((us.drop 1).take (l.length - (funsOf l).length - 1))) = H2 at S2
          have hp22 : H2 p2 = some (.tup ((us.drop 1).take (l.length - (funsOf l).length - 1))) := by rw [← eH2]; exact upd_same
          have rl : IsThL H ((us.drop 1).take (l.length - (funsOf l).length - 1)) (recsOf l) := hl1.take _
          generalize erv : (us.drop 1).take (l.length - (funsOf l).length - 1) = rv at hp22 rl
          have rmem : ∀ t ∈ recsOf l, t ∈ l.drop 1 := fun t ht => List.mem_of_mem_take ht
          have fmem : ∀ t ∈ funsOf l, t ∈ l.drop 1 := fun t ht => (List.mem_filter.mp ht).1
          have r1000 : (recsOf l).length ≤ 1000 := by unfold recsOf; rw [List.length_take, List.length_drop]; omega
          have f1000 : (funsOf l).length ≤ 1000 := by omega
          have SH2 : Same H H2 := S1.trans S2
          have sqr : ∀ H', Same H2 H' → SqT K H' p2 rv := fun H' s' => .inl (.inl (s' _ _ hp22))
          have sqf : ∀ H', Same H2 H' → SqL K H' D ys := fun H' s' => .inl (.inl (s' _ _ (S2 _ _ hy)))
          have it2 : IsThL H2 ys (funsOf l) := it.mono S2.tups
          have rl2 : IsThL H2 rv (recsOf l) := rl.mono SH2.tups
          have no : ∀ H', Same H2 H' → treeP n (.tup l) = false → E (.ref cR) none H' := fun H' s' e => k2 e H' (SH2.trans s')
          refine ⟨_, rfl, p2, rfl, ⟨_, sqr H2 (Same.refl _)⟩, ?_⟩
          refine for_tup (xs := rv) (fun i σ H' => (∃ o, σ = [some (.ref a), some (.ref D), some (.ref p2), o, none, none, none]) ∧ Same H2 H' ∧ ((recsOf l).take i).all recP = true) ⟨⟨_, rfl⟩, Same.refl H2, by simp⟩ (fun i σ H' _ ⟨_, sm', _⟩ => sqr H' sm') ?_ ?_
          · rintro i x σ H' hx ⟨⟨o, rfl⟩, sm', al⟩
            obtain ⟨t, ht, hit⟩ := rl2.get hx
            have mem := List.mem_of_getElem? ht
            have tk : (recsOf l).take (i + 1) = (recsOf l).take i ++ [t] := by rw [List.take_add_one, ht]; rfl
            refine ⟨_, rfl, x, t, rfl, hit.mono sm'.tups, (part t (rmem t mem)).1, (part t (rmem t mem)).2.1, fun g1 H'' s'' => ⟨⟨_, rfl⟩, sm'.trans s'', ?_⟩, fun g1 H'' s'' => no H'' (sm'.trans s'') ?_⟩
            · rw [tk, List.all_append, al]
              simp [g1]
            · have : (recsOf l).all recP = false := by
                rw [Bool.eq_false_iff]
                intro z
                rw [List.all_eq_true] at z
                rw [z t mem] at g1
                cases g1
              rw [key, this]; simp
          · rintro σ H3 ⟨⟨o, rfl⟩, S3, al⟩
            rw [List.take_of_length_le (by rw [rl.len]; exact Nat.le_refl _)] at al
            have rok : ∀ t ∈ recsOf l, Nm t ∧ 3 ≤ (kidsOf t).length := fun t ht => recP_ok (List.all_eq_true.mp al t ht)
            refine ⟨_, rfl, p2, rfl, ⟨_, sqr H3 S3⟩, fun D2 hD2 => ?_⟩
            refine names_compT (l := recsOf l) rfl (sqr H3 S3) hD2 (rl2.mono S3.tups) r1000 (fun t ht => (rok t ht).1) fun H4 S4 hD4 => ?_
            have S4' := S3.trans S4
            refine ⟨true, D2, nsOf l, rfl, .inl (.inl hD4), Nat.le_trans (wds_len _) (by rw [List.length_map]; exact r1000), fun H5 S5 => ⟨_, _, rfl, fun g2 => ?_, fun g2 => no H5 (S4'.trans S5) (by rw [key, g2]; simp)⟩⟩
            have S5' := S4'.trans S5
            refine ⟨_, rfl, p2, rfl, ⟨_, sqr H5 S5'⟩, fun D3 hD3 => ?_⟩
            refine fields_comp (l := recsOf l) rfl (sqr H5 S5') hD3 (rl2.mono S5'.tups) r1000 (fun t ht => (rok t ht).1) (fun t ht => (rok t ht).2) (of_decide_eq_true g2) fun H6 kvs S6 hD6 ek => ?_
            have S6' := S5'.trans S6
            have ftup : ∀ t ∈ funsOf l, ∃ m, t = .tup m := fun t ht => by
              have := (List.mem_filter.mp ht).2
              cases t with
              | num i => cases this
              | wd x => cases this
              | tup m => exact ⟨m, rfl⟩
            have no6 : ∀ H', Same H6 H' → treeP n (.tup l) = false → E (.ref cR) none H' := fun H' s' e => no H' (S6'.trans s') e
            have sqf6 : ∀ H', Same H6 H' → SqL K H' D ys := fun H' s' => sqf H' (S6'.trans s')
            have it6 : IsThL H6 ys (funsOf l) := it2.mono S6'.tups
            refine ⟨_, rfl, D, rfl, ⟨_, sqf6 H6 (Same.refl _)⟩, ?_⟩
            refine for_list (xs := ys) (fun i σ H' => (∃ o5, σ = [some (.ref a), some (.ref D), some (.ref p2), o, some (.ref D3), o5, none]) ∧ Same H6 H' ∧ ((funsOf l).take i).all (fun t => headP (nsOf l) (kidsOf t)) = true) ⟨⟨_, rfl⟩, Same.refl H6, by simp⟩ (fun i σ H' _ ⟨_, sm', _⟩ => sqf6 H' sm') ?_ ?_
            · rintro i x σ H' hx ⟨⟨o5, rfl⟩, sm', al7⟩
              obtain ⟨t, ht, hit⟩ := it6.get hx
              have mem := List.mem_of_getElem? ht
              have pt := part t (fmem t mem)
              obtain ⟨m, rfl⟩ := ftup t mem
              have tk : (funsOf l).take (i + 1) = (funsOf l).take i ++ [.tup m] := by rw [List.take_add_one, ht]; rfl
              refine ⟨_, rfl, _, rfl, x, m, D3, kvs, nsOf l, rfl, hit.mono sm'.tups, pt.2.1, pt.2.2.1, sm' _ _ hD6, ek, fun g1 H'' s'' => ⟨⟨_, rfl⟩, sm'.trans s'', ?_⟩, fun g1 H'' s'' => no6 H'' (sm'.trans s'') ?_⟩
              · rw [tk, List.all_append, al7]
                have g1' : headP (nsOf l) (kidsOf (.tup m)) = true := g1
                simp [g1']
              · have : ((funsOf l).all fun t => headP (nsOf l) (kidsOf t)) = false := by
                  rw [Bool.eq_false_iff]
                  intro z
                  rw [List.all_eq_true] at z
                  have := z _ mem
                  have g1' : headP (nsOf l) (kidsOf (.tup m)) = false := g1
                  rw [g1'] at this
                  cases this
                rw [key, this]; simp
            · rintro σ H7 ⟨⟨o5, rfl⟩, S7, al7⟩
              rw [List.take_of_length_le (by rw [flen]; exact Nat.le_refl _)] at al7
              have fok : ∀ m, Th.tup m ∈ funsOf l → ∃ kids g, FunOk m kids g ∧ kidsOf (nth m 2) = kids ∧ gOf (.tup m) = g ∧ Nm (.tup m) := fun m hm => headP_ok (List.all_eq_true.mp al7 _ hm)
              have fnm : ∀ t ∈ funsOf l, Nm t := fun t ht => by
                obtain ⟨m, rfl⟩ := ftup t ht
                obtain ⟨_, _, _, _, _, h⟩ := fok m ht
                exact h
              refine ⟨_, rfl, D, rfl, ⟨_, sqf6 H7 S7⟩, fun D8 hD8 => ?_⟩
              refine names_compL (l := funsOf l) rfl (sqf6 H7 S7) hD8 (it6.mono S7.tups) f1000 fnm fun H8 S8 hD8' => ?_
              have S8' := S7.trans S8
              refine ⟨true, D8, fnsOf l, rfl, .inl (.inl hD8'), Nat.le_trans (wds_len _) (by rw [List.length_map]; exact f1000), fun H9 S9 => ⟨_, _, rfl, fun g3 => ?_, fun g3 => no6 H9 (S8'.trans S9) (by rw [key, g3]; simp)⟩⟩
              have S9' := S8'.trans S9
              refine ⟨_, rfl, D, rfl, ⟨_, sqf6 H9 S9'⟩, fun D9 hD9 => ?_⟩
              refine heads_comp (l := funsOf l) rfl (sqf6 H9 S9') hD9 (it6.mono S9'.tups) f1000 fnm (of_decide_eq_true g3) fun Ha hvs Sa hDa eka hval => ?_
              have Sa' := S9'.trans Sa
              refine ⟨_, rfl, D9, _, rfl, DGet.k (k := Sum.inr "main") hDa, _, _, rfl, fun g4 => ?_, fun g4 => no6 Ha Sa' ?_⟩
              · rw [keyS eka] at g4
                have g4' : ("main" : Str) ∈ fnsOf l := of_decide_eq_true g4
                have mw := mem_wds g4'
                obtain ⟨tm, htm, enm⟩ := List.mem_map.mp mw
                obtain ⟨t0, ef⟩ : ∃ t0, (funsOf l).find? isMain = some t0 := by
                  cases e : (funsOf l).find? isMain with
                  | some t0 => exact ⟨t0, rfl⟩
                  | none =>
                    rw [List.find?_eq_none] at e
                    exact absurd (show isMain tm = true by unfold isMain; rw [enm]; exact decide_eq_true rfl) (e tm htm)
                have t0m := List.mem_of_find?_eq_some ef
                have t0i := List.find?_some ef
                have emain : mainOf l = t0 := by unfold mainOf; rw [ef]; rfl
                have pm := part t0 (fmem t0 t0m)
                obtain ⟨m0, rfl⟩ := ftup t0 t0m
                have en0 : nth m0 1 = .wd "main" := by
                  have : (match nth m0 1 with | .wd x => decide (x = "main") | _ => false) = true := t0i
                  cases e : nth m0 1 with
                  | num i => rw [e] at this; cases this
                  | tup q => rw [e] at this; cases this
                  | wd x => rw [e] at this; rw [of_decide_eq_true this]
                obtain ⟨i0, hi0⟩ := List.getElem?_of_mem t0m
                obtain ⟨v0, hv0, iv0⟩ := it6.at hi0
                have hget := hval i0 "main" m0 v0 hi0 en0 hv0
                obtain ⟨kids0, g0, fo0, ek0, eg0, _⟩ := fok m0 t0m
                obtain ⟨m1000, _⟩ := small_tup pm.2.1
                refine ⟨_, rfl, D9, v0, rfl, hget ▸ DGet.k (k := Sum.inr "main") hDa, v0, m0, rfl, iv0.mono Sa'.tups, m1000, fo0.len, by rw [fo0.gv]; rfl, ⟨kids0, fo0.kd, by have := fo0.kl; omega, fun t ht => List.all_eq_true.mp fo0.od t ht⟩, fun g5 Hb Sb => ?_, fun g5 Hb Sb => no6 Hb (Sa'.trans Sb) ?_⟩
                · have Sb' := Sa'.trans Sb
                  refine ⟨_, rfl, D, rfl, ⟨_, sqf6 Hb Sb'⟩, ?_⟩
                  refine for_list (xs := ys) (fun i σ H' => (∃ o5', σ = [some (.ref a), some (.ref D), some (.ref p2), o, some (.ref D3), o5', some (.ref D9)]) ∧ Same H6 H' ∧ ((funsOf l).take i).all (fun t => okTrue (bodyOf n (nsOf l) t)) = true) ⟨⟨_, rfl⟩, Sb', by simp⟩ (fun i σ H' _ ⟨_, sm', _⟩ => sqf6 H' sm') ?_ ?_
                  · rintro i x σ H' hx ⟨⟨o6, rfl⟩, sm', al8⟩
                    obtain ⟨t, ht, hit⟩ := it6.get hx
                    have mem := List.mem_of_getElem? ht
                    have pt := part t (fmem t mem)
                    obtain ⟨m, rfl⟩ := ftup t mem
                    have tk : (funsOf l).take (i + 1) = (funsOf l).take i ++ [.tup m] := by rw [List.take_add_one, ht]; rfl
                    obtain ⟨kids, g, fo, ekd, eg, _⟩ := fok m mem
                    have ebody : bodyOf n (nsOf l) (.tup m) = bodyR n (nsOf l) g m kids := by
                      unfold bodyOf
                      rw [eg]
                      show bodyR n (nsOf l) g m (kidsOf (nth m 2)) = _
                      rw [ekd]
                    refine ⟨_, rfl, _, rfl, _, rfl, fun xo dx hx0 hdx hne => ?_⟩
                    have sA : Same H' (upd (upd H' dx (.own xo)) xo (.ins C dx [])) := K08.Same.upd_at (K08.Same.upd_at (Same.refl H') hdx) hx0
                    refine ⟨xo, dx, D3, D9, x, m, kids, g, rfl, upd_same, hit.mono (sm'.trans sA).tups, fo, fun H'' kn fs hkn sx hxo q1 q2 q3 hk => ?_⟩
                    have sB : Same H' H'' := fun b u e => sx b u (sA _ _ e) (by simp; exact ne_of_none e hx0)
                    have hkn' : H' kn = none := sA.free hkn
                    have sC : ∀ {H3}, Sx [kn] H'' H3 → Same H' H3 := fun {H3} s3 b u e => s3 b u (sB _ _ e) (by simp; exact ne_of_none e hkn')
                    have hD3' := (sm'.trans sB) _ _ hD6
                    refine ⟨rfl, _, rfl, xo, D3, kn, nsOf l, g, x, m, kids, rfl, ⟨⟨dx, fs, hxo, q1, q2, q3⟩, kvs, hD3', ek⟩, hk, ne_of_none (sm' _ _ hD6) hkn', hit.mono (sm'.trans sB).tups, fo, fun z => ?_, fun ⟨kk, z⟩ H3 s3 => ⟨⟨_, rfl⟩, sm'.trans (sC s3), ?_⟩, fun z H3 s3 => no6 H3 (sm'.trans (sC s3)) ?_⟩
                    · have := pt.2.2.2 (List.mem_filter.mp mem).2
                      rw [ebody, z] at this
                      cases this
                    · rw [tk, List.all_append, al8]
                      have : okTrue (bodyOf n (nsOf l) (.tup m)) = true := by rw [ebody, z]; rfl
                      simp [this]
                    · have : ((funsOf l).all fun t => okTrue (bodyOf n (nsOf l) t)) = false := by
                        rw [Bool.eq_false_iff]
                        intro q
                        rw [List.all_eq_true] at q
                        have q' := q _ mem
                        rw [ebody] at q'
                        cases e : bodyR n (nsOf l) g m kids with
                        | big => rw [e] at q'; cases q'
                        | no => rw [e] at q'; cases q'
                        | ok r =>
                          obtain ⟨b, k'⟩ := r
                          cases b with
                          | true => exact z k' e
                          | false => rw [e] at q'; cases q'
                      rw [key, this]; simp
                  · rintro σ Hc ⟨_, Sc, al8⟩
                    rw [List.take_of_length_le (by rw [flen]; exact Nat.le_refl _)] at al8
                    refine k1 ?_ Hc (SH2.trans (S6'.trans Sc))
                    have g5' : mainP (kidsOf (mainOf l)) = true := by rw [emain]; exact g5
                    have h1' : headT (.tup l) "program" = true := h1
                    have g3' : decide (fnsOf l).Nodup = true := g3
                    have g2' : decide (nsOf l).Nodup = true := g2
                    rw [key, h1', al, g2', al7, g3', decide_eq_true g4', g5', al8]; rfl
                · have g5' : mainP (kidsOf (mainOf l)) = false := by rw [emain]; exact g5
                  rw [key, g5']; simp
              · rw [keyS eka] at g4
                have g4' : decide (("main" : Str) ∈ fnsOf l) = false := g4
                rw [key, g4']; simp
    · cases th with
      | num i => rfl
      | wd x => rfl
      | tup l =>
        have h1' : headT (.tup l) "program" = false := h1
        show (headT (.tup l) "program" && _ && _ && _ && _ && _ && _ && _) = false
        rw [h1']; simp
end
end K08

namespace K08
open PySem PySem.Spec PyProof.Rows L2
def spCell (K : PySem.W.Frag) : Sp := fun vs H Q _ => ∃ (a : Addr) (ns : List Int) (k : Int), vs = [.ref a, .int k] ∧ SqL K H a (ns.map V.int) ∧ 0 ≤ k ∧ k < 1000000 ∧ ∀ c : Int, Q (.int c) H
def spKinds (cR : Addr) : Sp := fun vs H Q _ => ∃ a, vs = [.ref a] ∧ H a = some (.ext (XO a (.ref cR))) ∧ ∀ l H', Same H H' → H l = none → H' l = some (.lst [V.str "NoTree"]) → Q (.ref l) H'
def told (b : Bool) : List Str := if b = true then [] else ["NoTree"]
def spRefused (n : Nat) : Sp := fun vs H Q _ => ∃ v th, vs = [v] ∧ IsTh H v th ∧ treeOk n th = true ∧ ∀ l H', Same H H' → H l = none → H' l = some (.lst ((told (treeP n th)).map V.str)) → Q (.ref l) H'

theorem boot_VE : bootBuiltins "ValueError" = some (.type "ValueError") := by decide +kernel
section
variable {P : Program} {w : World} {K : PySem.W.Frag} {mg : Str → Option Value} {base : Heap} {t1 t2 t3 t4 : Tok} {cP cT cR cM cA cS : Addr}
theorem sc__law_cell : FnScope ["_law_script", "_law_k", "_law_spare"] ["_law_script", "_law_k"] (defScope sLawCell) := ⟨rfl, rfl, rfl, by decide +kernel, rfl, by decide +kernel, by decide +kernel⟩
theorem ok_law_cell {f : Addr} {fd : FuncData} (F : Fun K "_law_cell" "_law_cell" sLawCell f fd) (T : Txt0 K mg t1 t2 t3 t4) : FnOk P w K mg base CX0 1 f fd ["_law_script", "_law_k"] (spCell K) := by
  refine F.okQ sc__law_cell (fun vs H Q E h => ?_) (fun cdv A outer s H vs Q E hr h => ?_)
  · obtain ⟨a, ns, k, rfl, _⟩ := h
    rfl
  · obtain ⟨a, ns, k, rfl, hS, h0, h1, kq⟩ := h
    have nd := sc__law_cell.nd
    refine ⟨_, (qss_cons (qs_if (qt_cmpR op_lt (qv 1) (qe_callB call_len_seq rfl T.n_len PySem.boot_len (qa_cons (qv 0) qa_nil)) (nomark _)) (qss_one (qs_ret (qe_ix ix_list (qv 0) (qv 1) (fun _ _ => rfl)))) qss_nil)
      (qss_cons (qs_set (i := 2) nd rfl (Or.inl rfl) (qe_op op_add qe_int (qe_op op_mul (qe_op op_mul qe_int (qv 1)) (qv 1))))
      (qss_cons (qs_if (qt_cmpR op_gt (qe_callB call_len_seq rfl T.n_len PySem.boot_len (qa_cons (qv 0) qa_nil)) qe_int (nomark _)) (qss_one (qs_set (i := 2) nd rfl (Or.inl rfl) (qe_op op_add (qv 2) (qe_op op_mul (qe_op op_mod (qe_ix ix_list (qv 0) qe_int (fun _ _ => rfl)) qe_int) (qe_op op_add (qe_op op_mul qe_int (qv 1)) qe_int))))) qss_nil)
      (qss_one (qs_ret (qv 2)))))), ?_⟩
    refine ⟨_, rfl, _, rfl, a, _, rfl, .inl hS, _, _, rfl, rfl, _, rfl, ?_⟩
    refine ite2 (fun h => ?_) (fun h => ?_)
    · have hk := of_decide_eq_true h
      rw [List.length_map] at hk
      obtain ⟨c, hc⟩ := atI_map h0 hk
      exact ⟨_, rfl, _, rfl, a, _, _, _, rfl, rfl, hS, hc, kq c⟩
    · refine ⟨_, rfl, _, _, rfl, rfl, .inl ⟨by decide, by decide⟩, _, rfl, _, _, rfl, rfl, .inr ⟨by omega, by omega⟩, _, _, rfl, rfl, ?_⟩
      refine ⟨_, rfl, a, _, rfl, .inl hS, _, _, rfl, rfl, _, rfl, ?_⟩
      refine ite2 (fun h => ?_) (fun h => ?_)
      · have hk := of_decide_eq_true h
        rw [List.length_map] at hk
        obtain ⟨c, hc⟩ := atI_map (Int.le_refl 0) hk
        exact ⟨_, rfl, _, rfl, a, _, _, _, rfl, rfl, hS, hc, _, _, rfl, rfl, (by show (0 : Int) < 99991; decide), _, rfl, _, _, rfl, rfl, .inl ⟨by decide, by decide⟩, _, _, rfl, rfl, _, _, rfl, rfl, .inl ⟨by omega, by omega⟩, _, _, rfl, rfl, _, rfl, kq _⟩
      · exact ⟨_, rfl, kq _⟩
theorem sc__law_kinds : FnScope ["_law_e", "_law_some"] ["_law_e"] (defScope sLawKinds) := ⟨rfl, rfl, rfl, by decide +kernel, rfl, by decide +kernel, by decide +kernel⟩
set_option maxHeartbeats 4000000 in
theorem ok_law_kinds {f : Addr} {fd : FuncData} (F : Fun K "_law_kinds" "_law_kinds" sLawKinds f fd) (T : Txt0 K mg t1 t2 t3 t4) (TX : TxX K mg cP cT cR cM cA cS) : FnOkH P w K mg base 1 f fd ["_law_e"] (spKinds cR) := by
  refine F.okH sc__law_kinds (fun vs H Q h => ?_) (fun cdv A outer s H vs Q hr h => ?_)
  · obtain ⟨a, rfl, _⟩ := h
    rfl
  · obtain ⟨a, rfl, ha, k⟩ := h
    have nd := sc__law_kinds.nd
    have hsl : (16000000 : Nat) ≤ sizeLine := by rw [sizeLine_eq]; omega
    refine ⟨_, (qss_cons (qs_set (i := 1) nd rfl (Or.inl rfl) (qe_lst qa_nil))
      (qss_cons (qs_if (qt_val (qe_callB call_isi_excT rfl T.n_isinstance boot_isi (qa_cons (qv 0) (qa_cons (qe_tup (qa_cons (qe_gcls rfl TX.g_A) (qa_cons (qe_gcls rfl TX.g_M) (qa_cons (qe_gcls rfl TX.g_S) qa_nil)))) qa_nil)))) (qss_one (qs_expr (qe_bm PySem.F.plainAttrs_list PySem.F.slot_list_append PySem.F.type_list_append mt_append (qv 1) (qa_cons qe_str qa_nil)))) qss_nil)
      (qss_cons (qs_if (qt_val (qe_callB call_isi_exc rfl T.n_isinstance boot_isi (qa_cons (qv 0) (qa_cons (qe_gcls rfl TX.g_T) qa_nil)))) (qss_one (qs_expr (qe_bm PySem.F.plainAttrs_list PySem.F.slot_list_append PySem.F.type_list_append mt_append (qv 1) (qa_cons qe_str qa_nil)))) qss_nil)
      (qss_cons (qs_if (qt_val (qe_callB call_isi_exc rfl T.n_isinstance boot_isi (qa_cons (qv 0) (qa_cons (qe_gcls rfl TX.g_R) qa_nil)))) (qss_one (qs_expr (qe_bm PySem.F.plainAttrs_list PySem.F.slot_list_append PySem.F.type_list_append mt_append (qv 1) (qa_cons qe_str qa_nil)))) qss_nil)
      (qss_cons (qs_if (qt_not (qt_val (qe_callB call_isi_exc rfl T.n_isinstance boot_isi (qa_cons (qv 0) (qa_cons (qe_bltn (v := .ty "ValueError") rfl T.n_VE boot_VE rfl) qa_nil))))) (qss_one (qs_expr (qe_bm PySem.F.plainAttrs_list PySem.F.slot_list_append PySem.F.type_list_append mt_append (qv 1) (qa_cons qe_str qa_nil)))) qss_nil)
      (qss_one (qs_ret (qv 1)))))))), ?_⟩
    refine ⟨(by show 0 ≤ sizeLine; omega), fun p hp => ?_⟩
    have s0 := (Same.refl H).upd (o := .lst []) hp
    have g0 := upd_same (H := H) (a := p) (o := .lst [])
    have a0 := s0 _ _ ha
    generalize upd H p (.lst []) = H1 at *
    -- one of the others?
    refine ⟨_, rfl, (by show 3 ≤ sizeLine; omega), fun tp htp => ?_⟩
    have s1 := s0.upd (o := .tup [V.ref cA, V.ref cM, V.ref cS]) htp
    have g1 : upd H1 tp (.tup [V.ref cA, V.ref cM, V.ref cS]) p = some (.lst []) := by rw [upd_ne (ne_of_none g0 htp)]; exact g0
    have a1 := s1 _ _ ha
    have t1' := upd_same (H := H1) (a := tp) (o := .tup [V.ref cA, V.ref cM, V.ref cS])
    refine ⟨a, cR, tp, _, _, rfl, t1', (by intro v hv; simp at hv; rcases hv with rfl | rfl | rfl <;> trivial), a1, TX.xc, TX.i3, _, rfl, iteF ?_⟩
    generalize upd H1 tp (.tup [V.ref cA, V.ref cM, V.ref cS]) = H2 at *
    refine ⟨_, rfl, a, cR, _, _, rfl, trivial, a1, TX.xc, TX.iT, _, rfl, iteF ?_⟩
    refine ⟨_, rfl, a, cR, _, _, rfl, trivial, a1, TX.xc, TX.iR, _, rfl, iteT ?_⟩
    refine ⟨_, rfl, .inl ⟨rfl, _, SqL.of g1⟩, p, _, _, rfl, rfl, g1, (by show 0 + 1 ≤ sizeLine; omega), ?_⟩
    have s2 : Same H (upd H2 p (.lst ([] ++ [V.str "NoTree"]))) := K08.Same.upd_at s1 hp
    have a2 := s2 _ _ ha
    have g2 := upd_same (H := H2) (a := p) (o := .lst ([] ++ [V.str "NoTree"]))
    generalize upd H2 p (.lst ([] ++ [V.str "NoTree"])) = H3 at *
    refine ⟨_, rfl, a, cR, _, _, rfl, trivial, a2, TX.xc, TX.iV, _, rfl, iteF ?_⟩
    exact ⟨_, rfl, k p H3 s2 hp g2⟩
theorem sc__law_refused : FnScope ["_law_tree_here", "_law_kinds_here", "_law_e"] ["_law_tree_here"] (defScope sLawRefused) := ⟨rfl, rfl, rfl, by decide +kernel, rfl, by decide +kernel, by decide +kernel⟩
set_option maxHeartbeats 4000000 in
theorem ok_law_refused {f : Addr} {fd : FuncData} {n k : Nat} (hk : 1 ≤ k) (F : Fun K "_law_refused" "_law_refused" sLawRefused f fd) (T : Txt0 K mg t1 t2 t3 t4) (TX : TxX K mg cP cT cR cM cA cS) (F_look_at_tree : FnB1 P w K mg base k "look_at_tree" ["thing"] (spTree n cR)) (F__law_kinds : FnBH P w K mg base 1 "_law_kinds" ["_law_e"] (spKinds cR)) :
    FnOk P w K mg base CX0 (k + 1) f fd ["_law_tree_here"] (spRefused n) := by
  refine F.okQ sc__law_refused (fun vs H Q E h => ?_) (fun cdv A outer s H vs Q E hr h => ?_)
  · obtain ⟨v, th, rfl, _⟩ := h
    rfl
  · obtain ⟨v, th, rfl, hi, ok, kq⟩ := h
    have nd := sc__law_refused.nd
    refine ⟨_, (qss_cons (qs_set (i := 1) nd rfl (Or.inl rfl) (qe_lst qa_nil))
      (qss_cons (qs_try (i := 2) nd rfl rfl rfl rfl F_look_at_tree (hr.mono (by first | decide | omega)) rfl rfl TX.g_P (fun _ _ => (qa_cons (qv 0) qa_nil)) (fun _ _ => (qss_one (qs_set (i := 1) nd rfl (Or.inl rfl) (qe_fnH F__law_kinds ((hr.mono (by first | decide | omega)).h _) rfl (qa_cons (qv 2) qa_nil))))))
      (qss_one (qs_ret (qv 1))))), ?_⟩
    refine ⟨(by show 0 ≤ sizeLine; rw [sizeLine_eq]; omega), fun p hp0 => ?_⟩
    have s0 := (Same.refl H).upd (o := .lst []) hp0
    have g0 := upd_same (H := H) (a := p) (o := .lst [])
    generalize upd H p (.lst []) = H1 at *
    refine ⟨_, rfl, v, th, rfl, hi.mono s0.tups, ok, (fun hT H2 s2 => ?_), fun hF H2 s2 => ⟨TX.mt, fun a ha => ?_⟩⟩
    · refine ⟨_, rfl, kq p H2 (s0.trans s2) hp0 ?_⟩
      rw [hT]
      exact s2 _ _ g0
    · have s3 := (s0.trans s2).upd (o := .ext (XO a (.ref cR))) ha
      refine ⟨_, rfl, a, rfl, upd_same, fun l H4 s4 hl g4 => ?_⟩
      refine ⟨_, rfl, kq l H4 (s3.trans s4) (s3.free hl) ?_⟩
      rw [hF]
      exact g4
end
end K08

namespace K08
open PySem PySem.Spec PyProof.Rows L2
def rho0 : Str → Option Th := fun _ => none
theorem hv0 {S : Scope} : ∀ x t, rho0 x = some t → Vis S x ∧ (x == ("__debug__" : Str)) = false ∧ (x == ("__classdict__" : Str)) = false := fun _ _ h => (nomatch h)
theorem held0 {N : List Str} {σ : L2.St} {H : Hp} : Held N rho0 σ H := fun _ _ h => (nomatch h)
def rhoOf (kvs : List (Str × Th)) : Str → Option Th := fun x => kvs.lookup x
theorem rho_mem {kvs : List (Str × Th)} {x : Str} {t : Th} (h : rhoOf kvs x = some t) : (x, t) ∈ kvs := PySem.mem_of_lookup h
theorem hvOf {S : Scope} {kvs : List (Str × Th)} (h : ∀ p ∈ kvs, Vis S p.1 ∧ (p.1 == ("__debug__" : Str)) = false ∧ (p.1 == ("__classdict__" : Str)) = false) : ∀ x t, rhoOf kvs x = some t → Vis S x ∧ (x == ("__debug__" : Str)) = false ∧ (x == ("__classdict__" : Str)) = false := fun x t e => h (x, t) (rho_mem e)
theorem heldOf {N : List Str} {σ : L2.St} {H : Hp} {kvs : List (Str × Th)} (h : ∀ p ∈ kvs, ∃ (i : Nat) (v : V), N[i]? = some p.1 ∧ σ[i]? = some (some v) ∧ IsTh H v p.2) : Held N (rhoOf kvs) σ H := fun x t e => h (x, t) (rho_mem e)
theorem seq_th {N : List Str} {ρ : Str → Option Th} {σ : L2.St} {H : Hp} {th : Th} {i : Nat} {rest : TS} {D : Ends} (held : Held N ρ σ H) (k : ∀ v H', Same H H' → IsTh H' v th → rest D (σ.set i (some v)) H') : tSeq (tAsg (tTh N ρ th) (gName i)) rest D σ H := ⟨held, k⟩
theorem new_step {N : List Str} {ρ : Str → Option Th} {σ : L2.St} {H : Hp} {l : List Th} {Q : VK} (held : Held N ρ σ H) (k : ∀ q H' vs, Same H H' → H' q = some (.lst vs) → IsThL H' vs l → Q (.ref q) H') : tThL N ρ l σ H Q :=
  ⟨held, fun vs H1 p s1 i1 hp => k p _ vs (s1.upd hp) upd_same (i1.mono (Same.tups ((Same.refl H1).upd hp)))⟩
theorem cat_step {N : List Str} {ρ : Str → Option Th} {i : Nat} {q : Addr} {σ : L2.St} {H : Hp} {l l2 : List Th} {vs : List V} {Q : VK} (hs : σ[i]? = some (some (.ref q))) (hq : H q = some (.lst vs)) (hl : IsThL H vs l) (hz : l.length + l2.length ≤ 1000) (held : Held N ρ σ H)
    (k : ∀ q' H' vs', Same H H' → H' q' = some (.lst vs') → IsThL H' vs' (l ++ l2) → Q (.ref q') H') : tOp rCat (tVar i) (tThL N ρ l2) σ H Q := by
  refine ⟨_, hs, held, fun us H1 p s1 i1 hp => ?_⟩
  have s2 := s1.upd (o := .lst us) hp
  have i1' : IsThL (upd H1 p (.lst us)) us l2 := i1.mono (Same.tups ((Same.refl H1).upd hp))
  have hl' := hl.mono s2.tups
  refine ⟨q, p, vs, us, rfl, rfl, s2 _ _ hq, upd_same, ?_, fun p2 hp2 => k p2 _ (vs ++ us) (s2.upd hp2) upd_same ?_⟩
  · rw [hl.len, i1.len]
    exact Nat.le_of_lt (small1000 hz)
  · have up := Same.tups ((Same.refl (upd H1 p (.lst us))).upd (o := .lst (vs ++ us)) hp2)
    exact (hl'.mono up).append (i1'.mono up)
theorem seq_new {N : List Str} {ρ : Str → Option Th} {σ : L2.St} {H : Hp} {l : List Th} {i : Nat} {rest : TS} {D : Ends} (held : Held N ρ σ H) (k : ∀ q H' vs, Same H H' → H' q = some (.lst vs) → IsThL H' vs l → rest D (σ.set i (some (.ref q))) H') : tSeq (tAsg (tThL N ρ l) (gName i)) rest D σ H := new_step (Q := fun x H1 => rest D (σ.set i (some x)) H1) held k
theorem seq_cat {N : List Str} {ρ : Str → Option Th} {i : Nat} {q : Addr} {σ : L2.St} {H : Hp} {l l2 : List Th} {vs : List V} {rest : TS} {D : Ends} (hs : σ[i]? = some (some (.ref q))) (hq : H q = some (.lst vs)) (hl : IsThL H vs l) (hz : l.length + l2.length ≤ 1000) (held : Held N ρ σ H)
    (k : ∀ q' H' vs', Same H H' → H' q' = some (.lst vs') → IsThL H' vs' (l ++ l2) → rest D (σ.set i (some (.ref q'))) H') : tSeq (tAsg (tOp rCat (tVar i) (tThL N ρ l2)) (gName i)) rest D σ H := cat_step (Q := fun x H1 => rest D (σ.set i (some x)) H1) hs hq hl hz held k
/-- l[c // 2 % len(l)], as one of a list of two -/
theorem pick_step {l : List Th} {vs : List V} {H : Hp} {q : Addr} (c : Int) (hq : H q = some (.lst vs)) (hl : IsThL H vs l) (hn : 0 < l.length) : ∃ v t, atI vs (c % (vs.length : Int)) = some v ∧ IsTh H v t ∧ t ∈ l := by
  have len := hl.len
  have h0 : 0 ≤ c % (vs.length : Int) := Int.emod_nonneg _ (by omega)
  have h1 : c % (vs.length : Int) < vs.length := Int.emod_lt_of_pos _ (by omega)
  obtain ⟨j, hj⟩ := Int.eq_ofNat_of_zero_le h0
  have lt : j < vs.length := by omega
  obtain ⟨t, ht, hi⟩ := hl.get (List.getElem?_eq_getElem lt)
  refine ⟨vs[j], t, ?_, hi, List.mem_of_getElem? ht⟩
  rw [hj]
  exact atI_nat (List.getElem?_eq_getElem lt)
/-- a menu: right things and wrong ones -/
def spMenu (right wrong : List Th) : Sp := fun vs H Q _ => ∃ c : Int, vs = [.int c] ∧ ∀ l H' v t b, Same H H' → H' l = some (.lst [v, .bl b]) → IsTh H' v t → t ∈ (if b = true then right else wrong) → Q (.ref l) H'
def recR : List Th := [.tup [.wd "record", .wd "r", .wd "a"], .tup [.wd "record", .wd "r", .wd "a", .wd "b", .wd "c", .wd "d"], .tup [.wd "record", .wd "main", .wd "r"], .tup [.wd "record", .wd "abcdefgh", .wd "r"]]
def recW : List Th := [.tup [.wd "record", .wd "r"], .tup [.wd "record", .wd "r", .wd "a", .wd "b", .wd "c", .wd "d", .wd "e"], .tup [.wd "record", .wd "r", .wd "a", .wd "b", .wd "a"], .tup [.wd "record", .wd "r", .wd "A"], .tup [.wd "record", .wd "list", .wd "a"], .tup [.wd "record", .wd "number", .wd "a"], .tup [.wd "record", .wd "truth", .wd "a"], .tup [.wd "record", .wd "R", .wd "a"], .tup [.wd "record", .wd "rr", .wd "a"], .tup [.wd "record", .wd "yes", .wd "a"], .tup [.wd "record", .wd "r", .wd "no"], .tup [.wd "record", .wd "r", .num 1], .tup [.wd "record", .num 1, .wd "a"], .tup [.wd "record", .wd "r", .wd "a", .wd "abcdefghi"], .tup [.wd "recor", .wd "r", .wd "a"], .tup [.wd "record"], .tup [.wd "record", .wd "r", .tup [.wd "a"]], .tup [.wd "record", .wd "abcdefghi", .wd "a"], .tup []]
section
variable {P : Program} {w : World} {K : PySem.W.Frag} {mg : Str → Option Value} {base : Heap} {t1 t2 t3 t4 : Tok} {cP cT cR cM cA cS : Addr}
theorem sc__law_records : FnScope ["_law_cell_here", "_law_wrong", "_law_right"] ["_law_cell_here"] (defScope sLawRecords) := ⟨rfl, rfl, rfl, by decide +kernel, rfl, by decide +kernel, by decide +kernel⟩
theorem ok_law_records {f : Addr} {fd : FuncData} (F : Fun K "_law_records" "_law_records" sLawRecords f fd) (T : Txt0 K mg t1 t2 t3 t4) : FnOk P w K mg base CX0 1 f fd ["_law_cell_here"] (spMenu recR recW) := by
  refine F.okQ sc__law_records (fun vs H Q E h => ?_) (fun cdv A outer s H vs Q E hr h => ?_)
  · obtain ⟨c, rfl, _⟩ := h
    rfl
  · obtain ⟨c, rfl, k⟩ := h
    have nd := sc__law_records.nd
    refine ⟨_, (qss_cons (qs_set (i := 1) nd rfl (Or.inl rfl) (qe_thl (ρ := rho0) (n := 9) (l := [.tup [.wd "record", .wd "r"], .tup [.wd "record", .wd "r", .wd "a", .wd "b", .wd "c", .wd "d", .wd "e"]]) hv0 (by kernel_rfl) (by decide)))
      (qss_cons (qs_set (i := 1) nd rfl (Or.inl rfl) (qe_op op_cat (qv 1) (qe_thl (ρ := rho0) (n := 9) (l := [.tup [.wd "record", .wd "r", .wd "a", .wd "b", .wd "a"], .tup [.wd "record", .wd "r", .wd "A"]]) hv0 (by kernel_rfl) (by decide))))
      (qss_cons (qs_set (i := 1) nd rfl (Or.inl rfl) (qe_op op_cat (qv 1) (qe_thl (ρ := rho0) (n := 9) (l := [.tup [.wd "record", .wd "list", .wd "a"], .tup [.wd "record", .wd "number", .wd "a"]]) hv0 (by kernel_rfl) (by decide))))
      (qss_cons (qs_set (i := 1) nd rfl (Or.inl rfl) (qe_op op_cat (qv 1) (qe_thl (ρ := rho0) (n := 9) (l := [.tup [.wd "record", .wd "truth", .wd "a"], .tup [.wd "record", .wd "R", .wd "a"]]) hv0 (by kernel_rfl) (by decide))))
      (qss_cons (qs_set (i := 1) nd rfl (Or.inl rfl) (qe_op op_cat (qv 1) (qe_thl (ρ := rho0) (n := 9) (l := [.tup [.wd "record", .wd "rr", .wd "a"], .tup [.wd "record", .wd "yes", .wd "a"], .tup [.wd "record", .wd "r", .wd "no"]]) hv0 (by kernel_rfl) (by decide))))
      (qss_cons (qs_set (i := 1) nd rfl (Or.inl rfl) (qe_op op_cat (qv 1) (qe_thl (ρ := rho0) (n := 9) (l := [.tup [.wd "record", .wd "r", .num 1], .tup [.wd "record", .num 1, .wd "a"], .tup [.wd "record", .wd "r", .wd "a", .wd "abcdefghi"]]) hv0 (by kernel_rfl) (by decide))))
      (qss_cons (qs_set (i := 1) nd rfl (Or.inl rfl) (qe_op op_cat (qv 1) (qe_thl (ρ := rho0) (n := 9) (l := [.tup [.wd "recor", .wd "r", .wd "a"], .tup [.wd "record"], .tup [.wd "record", .wd "r", .tup [.wd "a"]], .tup [.wd "record", .wd "abcdefghi", .wd "a"], .tup []]) hv0 (by kernel_rfl) (by decide))))
      (qss_cons (qs_set (i := 2) nd rfl (Or.inl rfl) (qe_thl (ρ := rho0) (n := 9) (l := [.tup [.wd "record", .wd "r", .wd "a"], .tup [.wd "record", .wd "r", .wd "a", .wd "b", .wd "c", .wd "d"]]) hv0 (by kernel_rfl) (by decide)))
      (qss_cons (qs_set (i := 2) nd rfl (Or.inl rfl) (qe_op op_cat (qv 2) (qe_thl (ρ := rho0) (n := 9) (l := [.tup [.wd "record", .wd "main", .wd "r"], .tup [.wd "record", .wd "abcdefgh", .wd "r"]]) hv0 (by kernel_rfl) (by decide))))
      (qss_cons (qs_if (qt_cmpR op_eq (qe_op op_mod (qv 0) qe_int) qe_int (nomark _)) (qss_one (qs_ret (qe_lst (qa_cons (qe_ix ix_list (qv 2) (qe_op op_mod (qe_op op_fdiv (qv 0) qe_int) (qe_callB call_len_seq rfl T.n_len PySem.boot_len (qa_cons (qv 2) qa_nil))) (fun _ _ => rfl)) (qa_cons qe_bl qa_nil))))) qss_nil)
      (qss_one (qs_ret (qe_lst (qa_cons (qe_ix ix_list (qv 1) (qe_op op_mod (qe_op op_fdiv (qv 0) qe_int) (qe_callB call_len_seq rfl T.n_len PySem.boot_len (qa_cons (qv 1) qa_nil))) (fun _ _ => rfl)) (qa_cons qe_bl qa_nil))))))))))))))), ?_⟩
    refine seq_new held0 fun q1 H1 u1 s1 g1 i1 => ?_
    refine seq_cat rfl g1 i1 (by decide) held0 fun q2 H2 u2 s2 g2 i2 => ?_
    refine seq_cat rfl g2 i2 (by decide) held0 fun q3 H3 u3 s3 g3 i3 => ?_
    refine seq_cat rfl g3 i3 (by decide) held0 fun q4 H4 u4 s4 g4 i4 => ?_
    refine seq_cat rfl g4 i4 (by decide) held0 fun q5 H5 u5 s5 g5 i5 => ?_
    refine seq_cat rfl g5 i5 (by decide) held0 fun q6 H6 u6 s6 g6 i6 => ?_
    refine seq_cat rfl g6 i6 (by decide) held0 fun q7 H7 u7 s7 g7 i7 => ?_
    refine seq_new held0 fun q8 H8 u8 s8 g8 i8 => ?_
    refine seq_cat rfl g8 i8 (by decide) held0 fun q9 H9 u9 s9 g9 i9 => ?_
    have S : Same H H9 := s1.trans (s2.trans (s3.trans (s4.trans (s5.trans (s6.trans (s7.trans (s8.trans s9)))))))
    have gW := s9 _ _ (s8 _ _ g7)
    have iW := (i7.mono s8.tups).mono s9.tups
    refine ⟨_, rfl, _, _, rfl, rfl, (show (0 : Int) < 2 by decide), rfl, _, rfl, ite2 (fun h => ?_) (fun h => ?_)⟩
    · obtain ⟨v, t, ea, it, mt⟩ := pick_step (c / 2) g9 i9 (by decide)
      refine ⟨_, rfl, _, rfl, _, _, rfl, rfl, ⟨by decide, by decide⟩, _, rfl, q9, u9, rfl, .inl (.inl (.inl g9)), _, _, rfl, rfl, (show (0 : Int) < (u9.length : Int) by rw [i9.len]; decide), q9, u9, _, v, rfl, rfl, .inl (.inl g9), ea, (by show 2 ≤ sizeLine; decide), fun p hp => k p _ v t true (S.upd hp) upd_same (it.mono (Same.tups ((Same.refl H9).upd hp))) mt⟩
    · obtain ⟨v, t, ea, it, mt⟩ := pick_step (c / 2) gW iW (by decide)
      refine ⟨_, rfl, _, rfl, _, _, rfl, rfl, ⟨by decide, by decide⟩, _, rfl, q7, u7, rfl, .inl (.inl (.inl gW)), _, _, rfl, rfl, (show (0 : Int) < (u7.length : Int) by rw [iW.len]; decide), q7, u7, _, v, rfl, rfl, .inl (.inl gW), ea, (by show 2 ≤ sizeLine; decide), fun p hp => k p _ v t false (S.upd hp) upd_same (it.mono (Same.tups ((Same.refl H9).upd hp))) mt⟩
end
end K08

namespace K08
open PySem PySem.Spec PyProof.Rows L2
def mainR : List Th := [.tup [.wd "fun", .wd "main", .tup [], .wd "number", .tup [.wd "give", .num 1]], .tup [.wd "fun", .wd "main", .tup [.wd "a", .wd "number", .wd "b", .wd "number"], .wd "number", .tup [.wd "give", .wd "b"]]]
def mainW : List Th := [.tup [.wd "fun", .wd "main", .tup [.wd "a", .wd "truth"], .wd "number", .tup [.wd "give", .num 1]], .tup [.wd "fun", .wd "main", .tup [.wd "a", .wd "number", .wd "b", .wd "rr"], .wd "number", .tup [.wd "give", .num 1]], .tup [.wd "fun", .wd "main", .tup [], .wd "truth", .tup [.wd "give", .wd "yes"]], .tup [.wd "fun", .wd "mains", .tup [], .wd "number", .tup [.wd "give", .num 1]], .tup [.wd "fun", .wd "main", .tup [.wd "a", .wd "list"], .wd "number", .tup [.wd "give", .num 1]], .tup [.wd "fun", .wd "main", .tup [], .wd "rr", .tup [.wd "give", .tup [.wd "new", .wd "rr"]]]]
def endR : List Th := [.tup [.tup [.wd "give", .num 1]], .tup [.tup [.wd "if", .wd "yes", .tup [.tup [.wd "give", .num 1]], .tup [.tup [.wd "out", .num 1], .tup [.wd "fail", .num 2]]]], .tup [.tup [.wd "if", .wd "yes", .tup [.tup [.wd "if", .wd "yes", .tup [.tup [.wd "give", .num 1]], .tup [.tup [.wd "out", .num 1], .tup [.wd "fail", .num 2]]]], .tup [.tup [.wd "if", .wd "yes", .tup [.tup [.wd "give", .num 1]], .tup [.tup [.wd "out", .num 1], .tup [.wd "fail", .num 2]]]]]], .tup [.tup [.wd "while", .wd "yes", .tup [.tup [.wd "give", .num 1]]], .tup [.wd "give", .num 1]], .tup [.tup [.wd "fail", .num 0]], .tup [.tup [.wd "if", .wd "yes", .tup [.tup [.wd "give", .num 1]], .tup []], .tup [.wd "if", .wd "yes", .tup [.tup [.wd "give", .num 1]], .tup [.tup [.wd "out", .num 1], .tup [.wd "fail", .num 2]]]], .tup [.tup [.wd "while", .wd "no", .tup [.tup [.wd "if", .wd "yes", .tup [.tup [.wd "give", .num 1]], .tup [.tup [.wd "out", .num 1], .tup [.wd "fail", .num 2]]]]], .tup [.wd "if", .wd "no", .tup [], .tup []], .tup [.wd "give", .num 1]]]
def endW : List Th := [.tup [.tup [.wd "out", .num 1]], .tup [.tup [.wd "while", .wd "yes", .tup [.tup [.wd "give", .num 1]]]], .tup [.tup [.wd "if", .wd "yes", .tup [.tup [.wd "give", .num 1]], .tup []]], .tup [.tup [.wd "if", .wd "yes", .tup [], .tup [.tup [.wd "give", .num 1]]]], .tup [], .tup [.tup [.wd "give", .num 1], .tup [.wd "give", .num 1]], .tup [.tup [.wd "fail", .num 1], .tup [.wd "out", .num 1]], .tup [.tup [.wd "if", .wd "yes", .tup [.tup [.wd "give", .num 1]], .tup [.tup [.wd "out", .num 1], .tup [.wd "fail", .num 2]]], .tup [.wd "give", .num 1]], .tup [.tup [.wd "if", .wd "yes", .tup [.tup [.wd "give", .num 1], .tup [.wd "out", .num 1]], .tup []], .tup [.wd "give", .num 1]], .tup [.tup [.wd "while", .wd "no", .tup [.tup [.wd "fail", .num 1], .tup [.wd "fail", .num 1]]], .tup [.wd "give", .num 1]], .tup [.tup [.wd "if", .wd "no", .tup [.tup [.wd "give", .num 1]], .tup [.tup [.wd "if", .wd "yes", .tup [.tup [.wd "give", .num 1]], .tup [.tup [.wd "out", .num 1], .tup [.wd "fail", .num 2]]], .tup [.wd "out", .num 1]]], .tup [.wd "give", .num 1]], .tup [.tup [.wd "if", .wd "no", .tup [.tup [.wd "if", .wd "yes", .tup [.tup [.wd "give", .num 1]], .tup [.tup [.wd "out", .num 1], .tup [.wd "fail", .num 2]]]], .tup [.tup [.wd "while", .wd "yes", .tup [.tup [.wd "give", .num 1]]]]]], .tup [.tup [.wd "let", .wd "x", .num 1]], .tup [.tup [.wd "do", .num 1]]]
section
variable {P : Program} {w : World} {K : PySem.W.Frag} {mg : Str → Option Value} {base : Heap} {t1 t2 t3 t4 : Tok} {cP cT cR cM cA cS : Addr}
theorem sc__law_mains : FnScope ["_law_cell_here", "_law_give", "_law_wrong", "_law_right"] ["_law_cell_here"] (defScope sLawMains) := ⟨rfl, rfl, rfl, by decide +kernel, rfl, by decide +kernel, by decide +kernel⟩
set_option maxHeartbeats 4000000 in
theorem ok_law_mains {f : Addr} {fd : FuncData} (F : Fun K "_law_mains" "_law_mains" sLawMains f fd) (T : Txt0 K mg t1 t2 t3 t4) : FnOk P w K mg base CX0 1 f fd ["_law_cell_here"] (spMenu mainR mainW) := by
  refine F.okQ sc__law_mains (fun vs H Q E h => ?_) (fun cdv A outer s H vs Q E hr h => ?_)
  · obtain ⟨c, rfl, _⟩ := h
    rfl
  · obtain ⟨c, rfl, k⟩ := h
    have nd := sc__law_mains.nd
    refine ⟨_, (qss_cons (qs_set (i := 1) nd rfl (Or.inl rfl) (qe_th (ρ := rho0) (n := 9) (th := .tup [.wd "give", .num 1]) hv0 (by kernel_rfl)))
      (qss_cons (qs_set (i := 2) nd rfl (Or.inl rfl) (qe_thl (ρ := (rhoOf [("_law_give", .tup [.wd "give", .num 1])])) (n := 9) (l := [.tup [.wd "fun", .wd "main", .tup [.wd "a", .wd "truth"], .wd "number", .tup [.wd "give", .num 1]]]) (hvOf (List.forall_mem_cons.mpr ⟨⟨Or.inl rfl, by decide, by decide⟩, (List.forall_mem_nil _)⟩)) (by kernel_rfl) (by decide)))
      (qss_cons (qs_set (i := 2) nd rfl (Or.inl rfl) (qe_op op_cat (qv 2) (qe_thl (ρ := (rhoOf [("_law_give", .tup [.wd "give", .num 1])])) (n := 9) (l := [.tup [.wd "fun", .wd "main", .tup [.wd "a", .wd "number", .wd "b", .wd "rr"], .wd "number", .tup [.wd "give", .num 1]]]) (hvOf (List.forall_mem_cons.mpr ⟨⟨Or.inl rfl, by decide, by decide⟩, (List.forall_mem_nil _)⟩)) (by kernel_rfl) (by decide))))
      (qss_cons (qs_set (i := 2) nd rfl (Or.inl rfl) (qe_op op_cat (qv 2) (qe_thl (ρ := (rhoOf [("_law_give", .tup [.wd "give", .num 1])])) (n := 9) (l := [.tup [.wd "fun", .wd "main", .tup [], .wd "truth", .tup [.wd "give", .wd "yes"]], .tup [.wd "fun", .wd "mains", .tup [], .wd "number", .tup [.wd "give", .num 1]]]) (hvOf (List.forall_mem_cons.mpr ⟨⟨Or.inl rfl, by decide, by decide⟩, (List.forall_mem_nil _)⟩)) (by kernel_rfl) (by decide))))
      (qss_cons (qs_set (i := 2) nd rfl (Or.inl rfl) (qe_op op_cat (qv 2) (qe_thl (ρ := (rhoOf [("_law_give", .tup [.wd "give", .num 1])])) (n := 9) (l := [.tup [.wd "fun", .wd "main", .tup [.wd "a", .wd "list"], .wd "number", .tup [.wd "give", .num 1]]]) (hvOf (List.forall_mem_cons.mpr ⟨⟨Or.inl rfl, by decide, by decide⟩, (List.forall_mem_nil _)⟩)) (by kernel_rfl) (by decide))))
      (qss_cons (qs_set (i := 2) nd rfl (Or.inl rfl) (qe_op op_cat (qv 2) (qe_thl (ρ := (rhoOf [("_law_give", .tup [.wd "give", .num 1])])) (n := 9) (l := [.tup [.wd "fun", .wd "main", .tup [], .wd "rr", .tup [.wd "give", .tup [.wd "new", .wd "rr"]]]]) (hvOf (List.forall_mem_cons.mpr ⟨⟨Or.inl rfl, by decide, by decide⟩, (List.forall_mem_nil _)⟩)) (by kernel_rfl) (by decide))))
      (qss_cons (qs_set (i := 3) nd rfl (Or.inl rfl) (qe_thl (ρ := (rhoOf [("_law_give", .tup [.wd "give", .num 1])])) (n := 9) (l := [.tup [.wd "fun", .wd "main", .tup [], .wd "number", .tup [.wd "give", .num 1]]]) (hvOf (List.forall_mem_cons.mpr ⟨⟨Or.inl rfl, by decide, by decide⟩, (List.forall_mem_nil _)⟩)) (by kernel_rfl) (by decide)))
      (qss_cons (qs_set (i := 3) nd rfl (Or.inl rfl) (qe_op op_cat (qv 3) (qe_thl (ρ := (rhoOf [("_law_give", .tup [.wd "give", .num 1])])) (n := 9) (l := [.tup [.wd "fun", .wd "main", .tup [.wd "a", .wd "number", .wd "b", .wd "number"], .wd "number", .tup [.wd "give", .wd "b"]]]) (hvOf (List.forall_mem_cons.mpr ⟨⟨Or.inl rfl, by decide, by decide⟩, (List.forall_mem_nil _)⟩)) (by kernel_rfl) (by decide))))
      (qss_cons (qs_if (qt_cmpR op_eq (qe_op op_mod (qv 0) qe_int) qe_int (nomark _)) (qss_one (qs_ret (qe_lst (qa_cons (qe_ix ix_list (qv 3) (qe_op op_mod (qe_op op_fdiv (qv 0) qe_int) (qe_callB call_len_seq rfl T.n_len PySem.boot_len (qa_cons (qv 3) qa_nil))) (fun _ _ => rfl)) (qa_cons qe_bl qa_nil))))) qss_nil)
      (qss_one (qs_ret (qe_lst (qa_cons (qe_ix ix_list (qv 2) (qe_op op_mod (qe_op op_fdiv (qv 0) qe_int) (qe_callB call_len_seq rfl T.n_len PySem.boot_len (qa_cons (qv 2) qa_nil))) (fun _ _ => rfl)) (qa_cons qe_bl qa_nil)))))))))))))), ?_⟩
    refine seq_th held0 fun v1 H1 s1 i1 => ?_
    refine seq_new (heldOf (List.forall_mem_cons.mpr ⟨⟨1, v1, rfl, rfl, i1⟩, (List.forall_mem_nil _)⟩)) fun q2 H2 u2 s2 g2 i2 => ?_
    refine seq_cat rfl g2 i2 (by decide) (heldOf (List.forall_mem_cons.mpr ⟨⟨1, v1, rfl, rfl, (IsTh.mono s2.tups i1)⟩, (List.forall_mem_nil _)⟩)) fun q3 H3 u3 s3 g3 i3 => ?_
    refine seq_cat rfl g3 i3 (by decide) (heldOf (List.forall_mem_cons.mpr ⟨⟨1, v1, rfl, rfl, (IsTh.mono s3.tups (IsTh.mono s2.tups i1))⟩, (List.forall_mem_nil _)⟩)) fun q4 H4 u4 s4 g4 i4 => ?_
    refine seq_cat rfl g4 i4 (by decide) (heldOf (List.forall_mem_cons.mpr ⟨⟨1, v1, rfl, rfl, (IsTh.mono s4.tups (IsTh.mono s3.tups (IsTh.mono s2.tups i1)))⟩, (List.forall_mem_nil _)⟩)) fun q5 H5 u5 s5 g5 i5 => ?_
    refine seq_cat rfl g5 i5 (by decide) (heldOf (List.forall_mem_cons.mpr ⟨⟨1, v1, rfl, rfl, (IsTh.mono s5.tups (IsTh.mono s4.tups (IsTh.mono s3.tups (IsTh.mono s2.tups i1))))⟩, (List.forall_mem_nil _)⟩)) fun q6 H6 u6 s6 g6 i6 => ?_
    refine seq_new (heldOf (List.forall_mem_cons.mpr ⟨⟨1, v1, rfl, rfl, (IsTh.mono s6.tups (IsTh.mono s5.tups (IsTh.mono s4.tups (IsTh.mono s3.tups (IsTh.mono s2.tups i1)))))⟩, (List.forall_mem_nil _)⟩)) fun q7 H7 u7 s7 g7 i7 => ?_
    refine seq_cat rfl g7 i7 (by decide) (heldOf (List.forall_mem_cons.mpr ⟨⟨1, v1, rfl, rfl, (IsTh.mono s7.tups (IsTh.mono s6.tups (IsTh.mono s5.tups (IsTh.mono s4.tups (IsTh.mono s3.tups (IsTh.mono s2.tups i1))))))⟩, (List.forall_mem_nil _)⟩)) fun q8 H8 u8 s8 g8 i8 => ?_
    have S : Same H H8 := s1.trans (s2.trans (s3.trans (s4.trans (s5.trans (s6.trans (s7.trans (s8)))))))
    have gR := g8
    have iR := i8
    have gW := (s8 _ _ (s7 _ _ g6))
    have iW := (IsThL.mono s8.tups (IsThL.mono s7.tups i6))
    have jR : IsThL H8 u8 mainR := Eq.mp (by kernel_rfl) iR
    have jW : IsThL H8 u6 mainW := Eq.mp (by kernel_rfl) iW
    refine ⟨_, rfl, _, _, rfl, rfl, (show (0 : Int) < 2 by decide), rfl, _, rfl, ite2 (fun h => ?_) (fun h => ?_)⟩
    · obtain ⟨v, t, ea, it, mt⟩ := pick_step (c / 2) gR jR (by decide)
      refine ⟨_, rfl, _, rfl, _, _, rfl, rfl, ⟨by decide, by decide⟩, _, rfl, q8, u8, rfl, .inl (.inl (.inl gR)), _, _, rfl, rfl, (show (0 : Int) < (u8.length : Int) by rw [jR.len]; decide), q8, u8, _, v, rfl, rfl, .inl (.inl gR), ea, (by show 2 ≤ sizeLine; decide), fun p hp => k p _ v t true (S.upd hp) upd_same (it.mono (Same.tups ((Same.refl H8).upd hp))) mt⟩
    · obtain ⟨v, t, ea, it, mt⟩ := pick_step (c / 2) gW jW (by decide)
      refine ⟨_, rfl, _, rfl, _, _, rfl, rfl, ⟨by decide, by decide⟩, _, rfl, q6, u6, rfl, .inl (.inl (.inl gW)), _, _, rfl, rfl, (show (0 : Int) < (u6.length : Int) by rw [jW.len]; decide), q6, u6, _, v, rfl, rfl, .inl (.inl gW), ea, (by show 2 ≤ sizeLine; decide), fun p hp => k p _ v t false (S.upd hp) upd_same (it.mono (Same.tups ((Same.refl H8).upd hp))) mt⟩
theorem sc__law_ends : FnScope ["_law_cell_here", "_law_give", "_law_both", "_law_wrong", "_law_right"] ["_law_cell_here"] (defScope sLawEnds) := ⟨rfl, rfl, rfl, by decide +kernel, rfl, by decide +kernel, by decide +kernel⟩
set_option maxHeartbeats 4000000 in
theorem ok_law_ends {f : Addr} {fd : FuncData} (F : Fun K "_law_ends" "_law_ends" sLawEnds f fd) (T : Txt0 K mg t1 t2 t3 t4) : FnOk P w K mg base CX0 1 f fd ["_law_cell_here"] (spMenu endR endW) := by
  refine F.okQ sc__law_ends (fun vs H Q E h => ?_) (fun cdv A outer s H vs Q E hr h => ?_)
  · obtain ⟨c, rfl, _⟩ := h
    rfl
  · obtain ⟨c, rfl, k⟩ := h
    have nd := sc__law_ends.nd
    refine ⟨_, (qss_cons (qs_set (i := 1) nd rfl (Or.inl rfl) (qe_th (ρ := rho0) (n := 9) (th := .tup [.wd "give", .num 1]) hv0 (by kernel_rfl)))
      (qss_cons (qs_set (i := 2) nd rfl (Or.inl rfl) (qe_th (ρ := (rhoOf [("_law_give", .tup [.wd "give", .num 1])])) (n := 9) (th := .tup [.wd "if", .wd "yes", .tup [.tup [.wd "give", .num 1]], .tup [.tup [.wd "out", .num 1], .tup [.wd "fail", .num 2]]]) (hvOf (List.forall_mem_cons.mpr ⟨⟨Or.inl rfl, by decide, by decide⟩, (List.forall_mem_nil _)⟩)) (by kernel_rfl)))
      (qss_cons (qs_set (i := 3) nd rfl (Or.inl rfl) (qe_thl (ρ := (rhoOf [("_law_give", .tup [.wd "give", .num 1]), ("_law_both", .tup [.wd "if", .wd "yes", .tup [.tup [.wd "give", .num 1]], .tup [.tup [.wd "out", .num 1], .tup [.wd "fail", .num 2]]])])) (n := 9) (l := [.tup [.tup [.wd "out", .num 1]], .tup [.tup [.wd "while", .wd "yes", .tup [.tup [.wd "give", .num 1]]]], .tup [.tup [.wd "if", .wd "yes", .tup [.tup [.wd "give", .num 1]], .tup []]]]) (hvOf (List.forall_mem_cons.mpr ⟨⟨Or.inl rfl, by decide, by decide⟩, (List.forall_mem_cons.mpr ⟨⟨Or.inl rfl, by decide, by decide⟩, (List.forall_mem_nil _)⟩)⟩)) (by kernel_rfl) (by decide)))
      (qss_cons (qs_set (i := 3) nd rfl (Or.inl rfl) (qe_op op_cat (qv 3) (qe_thl (ρ := (rhoOf [("_law_give", .tup [.wd "give", .num 1]), ("_law_both", .tup [.wd "if", .wd "yes", .tup [.tup [.wd "give", .num 1]], .tup [.tup [.wd "out", .num 1], .tup [.wd "fail", .num 2]]])])) (n := 9) (l := [.tup [.tup [.wd "if", .wd "yes", .tup [], .tup [.tup [.wd "give", .num 1]]]], .tup []]) (hvOf (List.forall_mem_cons.mpr ⟨⟨Or.inl rfl, by decide, by decide⟩, (List.forall_mem_cons.mpr ⟨⟨Or.inl rfl, by decide, by decide⟩, (List.forall_mem_nil _)⟩)⟩)) (by kernel_rfl) (by decide))))
      (qss_cons (qs_set (i := 3) nd rfl (Or.inl rfl) (qe_op op_cat (qv 3) (qe_thl (ρ := (rhoOf [("_law_give", .tup [.wd "give", .num 1]), ("_law_both", .tup [.wd "if", .wd "yes", .tup [.tup [.wd "give", .num 1]], .tup [.tup [.wd "out", .num 1], .tup [.wd "fail", .num 2]]])])) (n := 9) (l := [.tup [.tup [.wd "give", .num 1], .tup [.wd "give", .num 1]], .tup [.tup [.wd "fail", .num 1], .tup [.wd "out", .num 1]]]) (hvOf (List.forall_mem_cons.mpr ⟨⟨Or.inl rfl, by decide, by decide⟩, (List.forall_mem_cons.mpr ⟨⟨Or.inl rfl, by decide, by decide⟩, (List.forall_mem_nil _)⟩)⟩)) (by kernel_rfl) (by decide))))
      (qss_cons (qs_set (i := 3) nd rfl (Or.inl rfl) (qe_op op_cat (qv 3) (qe_thl (ρ := (rhoOf [("_law_give", .tup [.wd "give", .num 1]), ("_law_both", .tup [.wd "if", .wd "yes", .tup [.tup [.wd "give", .num 1]], .tup [.tup [.wd "out", .num 1], .tup [.wd "fail", .num 2]]])])) (n := 9) (l := [.tup [.tup [.wd "if", .wd "yes", .tup [.tup [.wd "give", .num 1]], .tup [.tup [.wd "out", .num 1], .tup [.wd "fail", .num 2]]], .tup [.wd "give", .num 1]], .tup [.tup [.wd "if", .wd "yes", .tup [.tup [.wd "give", .num 1], .tup [.wd "out", .num 1]], .tup []], .tup [.wd "give", .num 1]]]) (hvOf (List.forall_mem_cons.mpr ⟨⟨Or.inl rfl, by decide, by decide⟩, (List.forall_mem_cons.mpr ⟨⟨Or.inl rfl, by decide, by decide⟩, (List.forall_mem_nil _)⟩)⟩)) (by kernel_rfl) (by decide))))
      (qss_cons (qs_set (i := 3) nd rfl (Or.inl rfl) (qe_op op_cat (qv 3) (qe_thl (ρ := (rhoOf [("_law_give", .tup [.wd "give", .num 1]), ("_law_both", .tup [.wd "if", .wd "yes", .tup [.tup [.wd "give", .num 1]], .tup [.tup [.wd "out", .num 1], .tup [.wd "fail", .num 2]]])])) (n := 9) (l := [.tup [.tup [.wd "while", .wd "no", .tup [.tup [.wd "fail", .num 1], .tup [.wd "fail", .num 1]]], .tup [.wd "give", .num 1]]]) (hvOf (List.forall_mem_cons.mpr ⟨⟨Or.inl rfl, by decide, by decide⟩, (List.forall_mem_cons.mpr ⟨⟨Or.inl rfl, by decide, by decide⟩, (List.forall_mem_nil _)⟩)⟩)) (by kernel_rfl) (by decide))))
      (qss_cons (qs_set (i := 3) nd rfl (Or.inl rfl) (qe_op op_cat (qv 3) (qe_thl (ρ := (rhoOf [("_law_give", .tup [.wd "give", .num 1]), ("_law_both", .tup [.wd "if", .wd "yes", .tup [.tup [.wd "give", .num 1]], .tup [.tup [.wd "out", .num 1], .tup [.wd "fail", .num 2]]])])) (n := 9) (l := [.tup [.tup [.wd "if", .wd "no", .tup [.tup [.wd "give", .num 1]], .tup [.tup [.wd "if", .wd "yes", .tup [.tup [.wd "give", .num 1]], .tup [.tup [.wd "out", .num 1], .tup [.wd "fail", .num 2]]], .tup [.wd "out", .num 1]]], .tup [.wd "give", .num 1]]]) (hvOf (List.forall_mem_cons.mpr ⟨⟨Or.inl rfl, by decide, by decide⟩, (List.forall_mem_cons.mpr ⟨⟨Or.inl rfl, by decide, by decide⟩, (List.forall_mem_nil _)⟩)⟩)) (by kernel_rfl) (by decide))))
      (qss_cons (qs_set (i := 3) nd rfl (Or.inl rfl) (qe_op op_cat (qv 3) (qe_thl (ρ := (rhoOf [("_law_give", .tup [.wd "give", .num 1]), ("_law_both", .tup [.wd "if", .wd "yes", .tup [.tup [.wd "give", .num 1]], .tup [.tup [.wd "out", .num 1], .tup [.wd "fail", .num 2]]])])) (n := 9) (l := [.tup [.tup [.wd "if", .wd "no", .tup [.tup [.wd "if", .wd "yes", .tup [.tup [.wd "give", .num 1]], .tup [.tup [.wd "out", .num 1], .tup [.wd "fail", .num 2]]]], .tup [.tup [.wd "while", .wd "yes", .tup [.tup [.wd "give", .num 1]]]]]], .tup [.tup [.wd "let", .wd "x", .num 1]], .tup [.tup [.wd "do", .num 1]]]) (hvOf (List.forall_mem_cons.mpr ⟨⟨Or.inl rfl, by decide, by decide⟩, (List.forall_mem_cons.mpr ⟨⟨Or.inl rfl, by decide, by decide⟩, (List.forall_mem_nil _)⟩)⟩)) (by kernel_rfl) (by decide))))
      (qss_cons (qs_set (i := 4) nd rfl (Or.inl rfl) (qe_thl (ρ := (rhoOf [("_law_give", .tup [.wd "give", .num 1]), ("_law_both", .tup [.wd "if", .wd "yes", .tup [.tup [.wd "give", .num 1]], .tup [.tup [.wd "out", .num 1], .tup [.wd "fail", .num 2]]])])) (n := 9) (l := [.tup [.tup [.wd "give", .num 1]], .tup [.tup [.wd "if", .wd "yes", .tup [.tup [.wd "give", .num 1]], .tup [.tup [.wd "out", .num 1], .tup [.wd "fail", .num 2]]]], .tup [.tup [.wd "if", .wd "yes", .tup [.tup [.wd "if", .wd "yes", .tup [.tup [.wd "give", .num 1]], .tup [.tup [.wd "out", .num 1], .tup [.wd "fail", .num 2]]]], .tup [.tup [.wd "if", .wd "yes", .tup [.tup [.wd "give", .num 1]], .tup [.tup [.wd "out", .num 1], .tup [.wd "fail", .num 2]]]]]]]) (hvOf (List.forall_mem_cons.mpr ⟨⟨Or.inl rfl, by decide, by decide⟩, (List.forall_mem_cons.mpr ⟨⟨Or.inl rfl, by decide, by decide⟩, (List.forall_mem_nil _)⟩)⟩)) (by kernel_rfl) (by decide)))
      (qss_cons (qs_set (i := 4) nd rfl (Or.inl rfl) (qe_op op_cat (qv 4) (qe_thl (ρ := (rhoOf [("_law_give", .tup [.wd "give", .num 1]), ("_law_both", .tup [.wd "if", .wd "yes", .tup [.tup [.wd "give", .num 1]], .tup [.tup [.wd "out", .num 1], .tup [.wd "fail", .num 2]]])])) (n := 9) (l := [.tup [.tup [.wd "while", .wd "yes", .tup [.tup [.wd "give", .num 1]]], .tup [.wd "give", .num 1]], .tup [.tup [.wd "fail", .num 0]]]) (hvOf (List.forall_mem_cons.mpr ⟨⟨Or.inl rfl, by decide, by decide⟩, (List.forall_mem_cons.mpr ⟨⟨Or.inl rfl, by decide, by decide⟩, (List.forall_mem_nil _)⟩)⟩)) (by kernel_rfl) (by decide))))
      (qss_cons (qs_set (i := 4) nd rfl (Or.inl rfl) (qe_op op_cat (qv 4) (qe_thl (ρ := (rhoOf [("_law_give", .tup [.wd "give", .num 1]), ("_law_both", .tup [.wd "if", .wd "yes", .tup [.tup [.wd "give", .num 1]], .tup [.tup [.wd "out", .num 1], .tup [.wd "fail", .num 2]]])])) (n := 9) (l := [.tup [.tup [.wd "if", .wd "yes", .tup [.tup [.wd "give", .num 1]], .tup []], .tup [.wd "if", .wd "yes", .tup [.tup [.wd "give", .num 1]], .tup [.tup [.wd "out", .num 1], .tup [.wd "fail", .num 2]]]], .tup [.tup [.wd "while", .wd "no", .tup [.tup [.wd "if", .wd "yes", .tup [.tup [.wd "give", .num 1]], .tup [.tup [.wd "out", .num 1], .tup [.wd "fail", .num 2]]]]], .tup [.wd "if", .wd "no", .tup [], .tup []], .tup [.wd "give", .num 1]]]) (hvOf (List.forall_mem_cons.mpr ⟨⟨Or.inl rfl, by decide, by decide⟩, (List.forall_mem_cons.mpr ⟨⟨Or.inl rfl, by decide, by decide⟩, (List.forall_mem_nil _)⟩)⟩)) (by kernel_rfl) (by decide))))
      (qss_cons (qs_if (qt_cmpR op_eq (qe_op op_mod (qv 0) qe_int) qe_int (nomark _)) (qss_one (qs_ret (qe_lst (qa_cons (qe_ix ix_list (qv 4) (qe_op op_mod (qe_op op_fdiv (qv 0) qe_int) (qe_callB call_len_seq rfl T.n_len PySem.boot_len (qa_cons (qv 4) qa_nil))) (fun _ _ => rfl)) (qa_cons qe_bl qa_nil))))) qss_nil)
      (qss_one (qs_ret (qe_lst (qa_cons (qe_ix ix_list (qv 3) (qe_op op_mod (qe_op op_fdiv (qv 0) qe_int) (qe_callB call_len_seq rfl T.n_len PySem.boot_len (qa_cons (qv 3) qa_nil))) (fun _ _ => rfl)) (qa_cons qe_bl qa_nil)))))))))))))))))), ?_⟩
    refine seq_th held0 fun v1 H1 s1 i1 => ?_
    refine seq_th (heldOf (List.forall_mem_cons.mpr ⟨⟨1, v1, rfl, rfl, i1⟩, (List.forall_mem_nil _)⟩)) fun v2 H2 s2 i2 => ?_
    refine seq_new (heldOf (List.forall_mem_cons.mpr ⟨⟨1, v1, rfl, rfl, (IsTh.mono s2.tups i1)⟩, (List.forall_mem_cons.mpr ⟨⟨2, v2, rfl, rfl, i2⟩, (List.forall_mem_nil _)⟩)⟩)) fun q3 H3 u3 s3 g3 i3 => ?_
    refine seq_cat rfl g3 i3 (by decide) (heldOf (List.forall_mem_cons.mpr ⟨⟨1, v1, rfl, rfl, (IsTh.mono s3.tups (IsTh.mono s2.tups i1))⟩, (List.forall_mem_cons.mpr ⟨⟨2, v2, rfl, rfl, (IsTh.mono s3.tups i2)⟩, (List.forall_mem_nil _)⟩)⟩)) fun q4 H4 u4 s4 g4 i4 => ?_
    refine seq_cat rfl g4 i4 (by decide) (heldOf (List.forall_mem_cons.mpr ⟨⟨1, v1, rfl, rfl, (IsTh.mono s4.tups (IsTh.mono s3.tups (IsTh.mono s2.tups i1)))⟩, (List.forall_mem_cons.mpr ⟨⟨2, v2, rfl, rfl, (IsTh.mono s4.tups (IsTh.mono s3.tups i2))⟩, (List.forall_mem_nil _)⟩)⟩)) fun q5 H5 u5 s5 g5 i5 => ?_
    refine seq_cat rfl g5 i5 (by decide) (heldOf (List.forall_mem_cons.mpr ⟨⟨1, v1, rfl, rfl, (IsTh.mono s5.tups (IsTh.mono s4.tups (IsTh.mono s3.tups (IsTh.mono s2.tups i1))))⟩, (List.forall_mem_cons.mpr ⟨⟨2, v2, rfl, rfl, (IsTh.mono s5.tups (IsTh.mono s4.tups (IsTh.mono s3.tups i2)))⟩, (List.forall_mem_nil _)⟩)⟩)) fun q6 H6 u6 s6 g6 i6 => ?_
    refine seq_cat rfl g6 i6 (by decide) (heldOf (List.forall_mem_cons.mpr ⟨⟨1, v1, rfl, rfl, (IsTh.mono s6.tups (IsTh.mono s5.tups (IsTh.mono s4.tups (IsTh.mono s3.tups (IsTh.mono s2.tups i1)))))⟩, (List.forall_mem_cons.mpr ⟨⟨2, v2, rfl, rfl, (IsTh.mono s6.tups (IsTh.mono s5.tups (IsTh.mono s4.tups (IsTh.mono s3.tups i2))))⟩, (List.forall_mem_nil _)⟩)⟩)) fun q7 H7 u7 s7 g7 i7 => ?_
    refine seq_cat rfl g7 i7 (by decide) (heldOf (List.forall_mem_cons.mpr ⟨⟨1, v1, rfl, rfl, (IsTh.mono s7.tups (IsTh.mono s6.tups (IsTh.mono s5.tups (IsTh.mono s4.tups (IsTh.mono s3.tups (IsTh.mono s2.tups i1))))))⟩, (List.forall_mem_cons.mpr ⟨⟨2, v2, rfl, rfl, (IsTh.mono s7.tups (IsTh.mono s6.tups (IsTh.mono s5.tups (IsTh.mono s4.tups (IsTh.mono s3.tups i2)))))⟩, (List.forall_mem_nil _)⟩)⟩)) fun q8 H8 u8 s8 g8 i8 => ?_
    refine seq_cat rfl g8 i8 (by decide) (heldOf (List.forall_mem_cons.mpr ⟨⟨1, v1, rfl, rfl, (IsTh.mono s8.tups (IsTh.mono s7.tups (IsTh.mono s6.tups (IsTh.mono s5.tups (IsTh.mono s4.tups (IsTh.mono s3.tups (IsTh.mono s2.tups i1)))))))⟩, (List.forall_mem_cons.mpr ⟨⟨2, v2, rfl, rfl, (IsTh.mono s8.tups (IsTh.mono s7.tups (IsTh.mono s6.tups (IsTh.mono s5.tups (IsTh.mono s4.tups (IsTh.mono s3.tups i2))))))⟩, (List.forall_mem_nil _)⟩)⟩)) fun q9 H9 u9 s9 g9 i9 => ?_
    refine seq_new (heldOf (List.forall_mem_cons.mpr ⟨⟨1, v1, rfl, rfl, (IsTh.mono s9.tups (IsTh.mono s8.tups (IsTh.mono s7.tups (IsTh.mono s6.tups (IsTh.mono s5.tups (IsTh.mono s4.tups (IsTh.mono s3.tups (IsTh.mono s2.tups i1))))))))⟩, (List.forall_mem_cons.mpr ⟨⟨2, v2, rfl, rfl, (IsTh.mono s9.tups (IsTh.mono s8.tups (IsTh.mono s7.tups (IsTh.mono s6.tups (IsTh.mono s5.tups (IsTh.mono s4.tups (IsTh.mono s3.tups i2)))))))⟩, (List.forall_mem_nil _)⟩)⟩)) fun q10 H10 u10 s10 g10 i10 => ?_
    refine seq_cat rfl g10 i10 (by decide) (heldOf (List.forall_mem_cons.mpr ⟨⟨1, v1, rfl, rfl, (IsTh.mono s10.tups (IsTh.mono s9.tups (IsTh.mono s8.tups (IsTh.mono s7.tups (IsTh.mono s6.tups (IsTh.mono s5.tups (IsTh.mono s4.tups (IsTh.mono s3.tups (IsTh.mono s2.tups i1)))))))))⟩, (List.forall_mem_cons.mpr ⟨⟨2, v2, rfl, rfl, (IsTh.mono s10.tups (IsTh.mono s9.tups (IsTh.mono s8.tups (IsTh.mono s7.tups (IsTh.mono s6.tups (IsTh.mono s5.tups (IsTh.mono s4.tups (IsTh.mono s3.tups i2))))))))⟩, (List.forall_mem_nil _)⟩)⟩)) fun q11 H11 u11 s11 g11 i11 => ?_
    refine seq_cat rfl g11 i11 (by decide) (heldOf (List.forall_mem_cons.mpr ⟨⟨1, v1, rfl, rfl, (IsTh.mono s11.tups (IsTh.mono s10.tups (IsTh.mono s9.tups (IsTh.mono s8.tups (IsTh.mono s7.tups (IsTh.mono s6.tups (IsTh.mono s5.tups (IsTh.mono s4.tups (IsTh.mono s3.tups (IsTh.mono s2.tups i1))))))))))⟩, (List.forall_mem_cons.mpr ⟨⟨2, v2, rfl, rfl, (IsTh.mono s11.tups (IsTh.mono s10.tups (IsTh.mono s9.tups (IsTh.mono s8.tups (IsTh.mono s7.tups (IsTh.mono s6.tups (IsTh.mono s5.tups (IsTh.mono s4.tups (IsTh.mono s3.tups i2)))))))))⟩, (List.forall_mem_nil _)⟩)⟩)) fun q12 H12 u12 s12 g12 i12 => ?_
    have S : Same H H12 := s1.trans (s2.trans (s3.trans (s4.trans (s5.trans (s6.trans (s7.trans (s8.trans (s9.trans (s10.trans (s11.trans (s12)))))))))))
    have gR := g12
    have iR := i12
    have gW := (s12 _ _ (s11 _ _ (s10 _ _ g9)))
    have iW := (IsThL.mono s12.tups (IsThL.mono s11.tups (IsThL.mono s10.tups i9)))
    have jR : IsThL H12 u12 endR := Eq.mp (by kernel_rfl) iR
    have jW : IsThL H12 u9 endW := Eq.mp (by kernel_rfl) iW
    refine ⟨_, rfl, _, _, rfl, rfl, (show (0 : Int) < 2 by decide), rfl, _, rfl, ite2 (fun h => ?_) (fun h => ?_)⟩
    · obtain ⟨v, t, ea, it, mt⟩ := pick_step (c / 2) gR jR (by decide)
      refine ⟨_, rfl, _, rfl, _, _, rfl, rfl, ⟨by decide, by decide⟩, _, rfl, q12, u12, rfl, .inl (.inl (.inl gR)), _, _, rfl, rfl, (show (0 : Int) < (u12.length : Int) by rw [jR.len]; decide), q12, u12, _, v, rfl, rfl, .inl (.inl gR), ea, (by show 2 ≤ sizeLine; decide), fun p hp => k p _ v t true (S.upd hp) upd_same (it.mono (Same.tups ((Same.refl H12).upd hp))) mt⟩
    · obtain ⟨v, t, ea, it, mt⟩ := pick_step (c / 2) gW jW (by decide)
      refine ⟨_, rfl, _, rfl, _, _, rfl, rfl, ⟨by decide, by decide⟩, _, rfl, q9, u9, rfl, .inl (.inl (.inl gW)), _, _, rfl, rfl, (show (0 : Int) < (u9.length : Int) by rw [jW.len]; decide), q9, u9, _, v, rfl, rfl, .inl (.inl gW), ea, (by show 2 ≤ sizeLine; decide), fun p hp => k p _ v t false (S.upd hp) upd_same (it.mono (Same.tups ((Same.refl H12).upd hp))) mt⟩
end
end K08

namespace K08
open PySem PySem.Spec PyProof.Rows L2
def funW0 : List Th := [.tup [.wd "fun", .wd "f", .tup [.wd "a"], .wd "number", .tup [.wd "give", .num 1]], .tup [.wd "fun", .wd "f", .tup [.wd "a", .wd "number", .wd "a", .wd "number"], .wd "number", .tup [.wd "give", .num 1]], .tup [.wd "fun", .wd "f", .tup [.wd "a", .wd "number", .wd "b", .wd "truth", .wd "c", .wd "list", .wd "d", .wd "number", .wd "e", .wd "number"], .wd "number", .tup [.wd "give", .num 1]], .tup [.wd "fun", .wd "f", .tup [.wd "yes", .wd "number"], .wd "number", .tup [.wd "give", .num 1]], .tup [.wd "fun", .wd "f", .tup [.wd "a", .wd "numbers"], .wd "number", .tup [.wd "give", .num 1]], .tup [.wd "fun", .wd "f", .tup [.wd "number", .wd "a"], .wd "number", .tup [.wd "give", .num 1]], .tup [.wd "fun", .wd "f", .tup [], .wd "rec", .tup [.wd "give", .num 1]], .tup [.wd "fun", .wd "f", .tup [], .wd "number"], .tup [.wd "fun", .wd "main", .tup [], .wd "number", .tup [.wd "give", .num 1]], .tup [.wd "fun", .wd "g", .tup [], .wd "number", .tup [.wd "give", .num 1]], .tup [.wd "fun", .wd "F", .tup [], .wd "number", .tup [.wd "give", .num 1]], .tup [.wd "fun", .wd "f", .wd "a", .wd "number", .tup [.wd "give", .num 1]], .tup [.wd "fun", .wd "f", .tup [], .tup [.wd "give", .num 1]], .tup [.wd "fun", .wd "f", .tup [], .num 1, .tup [.wd "give", .num 1]], .tup [.wd "fun", .num 1, .tup [], .wd "number", .tup [.wd "give", .num 1]], .tup [.wd "fun", .wd "f", .tup [.num 1, .wd "number"], .wd "number", .tup [.wd "give", .num 1]], .tup [.wd "func", .wd "f", .tup [], .wd "number", .tup [.wd "give", .num 1]], .tup [.wd "fun"], .wd "fun", .num 3, .tup []]
def words : List Str := ["A", "a1", "abcdefghi", "no"]
def more (x : Str) : List Th := [.tup [.wd "fun", .wd "f", .tup [.wd "b", .wd "number", .wd x, .wd "number"], .wd "number", .tup [.wd "give", .num 1]], .tup [.wd "fun", .wd x, .tup [], .wd "number", .tup [.wd "give", .num 1]]]
def funR : List Th := [.tup [.wd "fun", .wd "f", .tup [], .wd "number", .tup [.wd "give", .num 1]], .tup [.wd "fun", .wd "f", .tup [.wd "a", .wd "rr", .wd "b", .wd "truth", .wd "c", .wd "list", .wd "d", .wd "number"], .wd "number", .tup [.wd "give", .num 1]], .tup [.wd "fun", .wd "rr", .tup [.wd "x", .wd "list"], .wd "rr", .tup [.wd "give", .tup [.wd "new", .wd "rr"]]], .tup [.wd "fun", .wd "abcdefgh", .tup [], .wd "list", .tup [.wd "fail", .num 1]]]
def funW : List Th := funW0 ++ words.flatMap more
theorem seq_for {K : PySem.W.Frag} {N : List Str} {ρ : Str → Option Th} {σ : L2.St} {H : Hp} {l : List Th} {g : TG} {tb rest : TS} {D : Ends} (held : Held N ρ σ H)
    (k : ∀ q H' us, Same H H' → H' q = some (.lst us) → IsThL H' us l → ∃ W : Nat → Nat → L2.St → Hp → Prop, (∃ m, W 0 m σ H') ∧ ∀ i m σ' H'', W i m σ' H'' → ((Itl K q).stop i H'' ∧ ({ D with nx := rest D } : Ends).nx σ' H'') ∨ ((Itl K q).go i H'' ∧ ∃ N' : L2.St → Hp → Prop, (∀ σ2 H2, N' σ2 H2 → ∃ m', m' < m ∧ W (i + 1) m' σ2 H2) ∧ ∀ x H2, (Itl K q).yld i H'' x H2 → g x σ' H2 fun σ2 H3 => tb { ({ D with nx := rest D } : Ends) with nx := N', ct := N', bk := ({ D with nx := rest D } : Ends).nx } σ2 H3)) :
    tSeq (tFor (iList K (tThL N ρ l)) g tb) rest D σ H :=
  ⟨held, fun vs H1 p s1 i1 hp => ⟨p, rfl, ⟨vs, .inl (.inl upd_same)⟩, k p _ vs (s1.upd hp) upd_same (i1.mono (Same.tups ((Same.refl H1).upd hp)))⟩⟩
section
variable {P : Program} {w : World} {K : PySem.W.Frag} {mg : Str → Option Value} {base : Heap} {t1 t2 t3 t4 : Tok} {cP cT cR cM cA cS : Addr}
theorem sc__law_functions : FnScope ["_law_cell_here", "_law_end", "_law_wrong", "_law_five", "_law_word", "_law_right"] ["_law_cell_here"] (defScope sLawFunctions) := ⟨rfl, rfl, rfl, by decide +kernel, rfl, by decide +kernel, by decide +kernel⟩
set_option maxHeartbeats 4000000 in
theorem ok_law_functions {f : Addr} {fd : FuncData} (F : Fun K "_law_functions" "_law_functions" sLawFunctions f fd) (T : Txt0 K mg t1 t2 t3 t4) : FnOk P w K mg base CX0 1 f fd ["_law_cell_here"] (spMenu funR funW) := by
  refine F.okQ sc__law_functions (fun vs H Q E h => ?_) (fun cdv A outer s H vs Q E hr h => ?_)
  · obtain ⟨c, rfl, _⟩ := h
    rfl
  · obtain ⟨c, rfl, k⟩ := h
    have nd := sc__law_functions.nd
    refine ⟨_, (qss_cons (qs_set (i := 1) nd rfl (Or.inl rfl) (qe_th (ρ := rho0) (n := 9) (th := .tup [.wd "give", .num 1]) hv0 (by kernel_rfl)))
      (qss_cons (qs_set (i := 2) nd rfl (Or.inl rfl) (qe_thl (ρ := (rhoOf [("_law_end", .tup [.wd "give", .num 1])])) (n := 9) (l := [.tup [.wd "fun", .wd "f", .tup [.wd "a"], .wd "number", .tup [.wd "give", .num 1]], .tup [.wd "fun", .wd "f", .tup [.wd "a", .wd "number", .wd "a", .wd "number"], .wd "number", .tup [.wd "give", .num 1]]]) (hvOf (List.forall_mem_cons.mpr ⟨⟨Or.inl rfl, by decide, by decide⟩, (List.forall_mem_nil _)⟩)) (by kernel_rfl) (by decide)))
      (qss_cons (qs_set (i := 3) nd rfl (Or.inl rfl) (qe_th (ρ := (rhoOf [("_law_end", .tup [.wd "give", .num 1])])) (n := 9) (th := .tup [.wd "a", .wd "number", .wd "b", .wd "truth", .wd "c", .wd "list", .wd "d", .wd "number", .wd "e", .wd "number"]) (hvOf (List.forall_mem_cons.mpr ⟨⟨Or.inl rfl, by decide, by decide⟩, (List.forall_mem_nil _)⟩)) (by kernel_rfl)))
      (qss_cons (qs_set (i := 2) nd rfl (Or.inl rfl) (qe_op op_cat (qv 2) (qe_thl (ρ := (rhoOf [("_law_end", .tup [.wd "give", .num 1]), ("_law_five", .tup [.wd "a", .wd "number", .wd "b", .wd "truth", .wd "c", .wd "list", .wd "d", .wd "number", .wd "e", .wd "number"])])) (n := 9) (l := [.tup [.wd "fun", .wd "f", .tup [.wd "a", .wd "number", .wd "b", .wd "truth", .wd "c", .wd "list", .wd "d", .wd "number", .wd "e", .wd "number"], .wd "number", .tup [.wd "give", .num 1]]]) (hvOf (List.forall_mem_cons.mpr ⟨⟨Or.inl rfl, by decide, by decide⟩, (List.forall_mem_cons.mpr ⟨⟨Or.inl rfl, by decide, by decide⟩, (List.forall_mem_nil _)⟩)⟩)) (by kernel_rfl) (by decide))))
      (qss_cons (qs_set (i := 2) nd rfl (Or.inl rfl) (qe_op op_cat (qv 2) (qe_thl (ρ := (rhoOf [("_law_end", .tup [.wd "give", .num 1]), ("_law_five", .tup [.wd "a", .wd "number", .wd "b", .wd "truth", .wd "c", .wd "list", .wd "d", .wd "number", .wd "e", .wd "number"])])) (n := 9) (l := [.tup [.wd "fun", .wd "f", .tup [.wd "yes", .wd "number"], .wd "number", .tup [.wd "give", .num 1]]]) (hvOf (List.forall_mem_cons.mpr ⟨⟨Or.inl rfl, by decide, by decide⟩, (List.forall_mem_cons.mpr ⟨⟨Or.inl rfl, by decide, by decide⟩, (List.forall_mem_nil _)⟩)⟩)) (by kernel_rfl) (by decide))))
      (qss_cons (qs_set (i := 2) nd rfl (Or.inl rfl) (qe_op op_cat (qv 2) (qe_thl (ρ := (rhoOf [("_law_end", .tup [.wd "give", .num 1]), ("_law_five", .tup [.wd "a", .wd "number", .wd "b", .wd "truth", .wd "c", .wd "list", .wd "d", .wd "number", .wd "e", .wd "number"])])) (n := 9) (l := [.tup [.wd "fun", .wd "f", .tup [.wd "a", .wd "numbers"], .wd "number", .tup [.wd "give", .num 1]]]) (hvOf (List.forall_mem_cons.mpr ⟨⟨Or.inl rfl, by decide, by decide⟩, (List.forall_mem_cons.mpr ⟨⟨Or.inl rfl, by decide, by decide⟩, (List.forall_mem_nil _)⟩)⟩)) (by kernel_rfl) (by decide))))
      (qss_cons (qs_set (i := 2) nd rfl (Or.inl rfl) (qe_op op_cat (qv 2) (qe_thl (ρ := (rhoOf [("_law_end", .tup [.wd "give", .num 1]), ("_law_five", .tup [.wd "a", .wd "number", .wd "b", .wd "truth", .wd "c", .wd "list", .wd "d", .wd "number", .wd "e", .wd "number"])])) (n := 9) (l := [.tup [.wd "fun", .wd "f", .tup [.wd "number", .wd "a"], .wd "number", .tup [.wd "give", .num 1]], .tup [.wd "fun", .wd "f", .tup [], .wd "rec", .tup [.wd "give", .num 1]]]) (hvOf (List.forall_mem_cons.mpr ⟨⟨Or.inl rfl, by decide, by decide⟩, (List.forall_mem_cons.mpr ⟨⟨Or.inl rfl, by decide, by decide⟩, (List.forall_mem_nil _)⟩)⟩)) (by kernel_rfl) (by decide))))
      (qss_cons (qs_set (i := 2) nd rfl (Or.inl rfl) (qe_op op_cat (qv 2) (qe_thl (ρ := (rhoOf [("_law_end", .tup [.wd "give", .num 1]), ("_law_five", .tup [.wd "a", .wd "number", .wd "b", .wd "truth", .wd "c", .wd "list", .wd "d", .wd "number", .wd "e", .wd "number"])])) (n := 9) (l := [.tup [.wd "fun", .wd "f", .tup [], .wd "number"]]) (hvOf (List.forall_mem_cons.mpr ⟨⟨Or.inl rfl, by decide, by decide⟩, (List.forall_mem_cons.mpr ⟨⟨Or.inl rfl, by decide, by decide⟩, (List.forall_mem_nil _)⟩)⟩)) (by kernel_rfl) (by decide))))
      (qss_cons (qs_set (i := 2) nd rfl (Or.inl rfl) (qe_op op_cat (qv 2) (qe_thl (ρ := (rhoOf [("_law_end", .tup [.wd "give", .num 1]), ("_law_five", .tup [.wd "a", .wd "number", .wd "b", .wd "truth", .wd "c", .wd "list", .wd "d", .wd "number", .wd "e", .wd "number"])])) (n := 9) (l := [.tup [.wd "fun", .wd "main", .tup [], .wd "number", .tup [.wd "give", .num 1]], .tup [.wd "fun", .wd "g", .tup [], .wd "number", .tup [.wd "give", .num 1]]]) (hvOf (List.forall_mem_cons.mpr ⟨⟨Or.inl rfl, by decide, by decide⟩, (List.forall_mem_cons.mpr ⟨⟨Or.inl rfl, by decide, by decide⟩, (List.forall_mem_nil _)⟩)⟩)) (by kernel_rfl) (by decide))))
      (qss_cons (qs_set (i := 2) nd rfl (Or.inl rfl) (qe_op op_cat (qv 2) (qe_thl (ρ := (rhoOf [("_law_end", .tup [.wd "give", .num 1]), ("_law_five", .tup [.wd "a", .wd "number", .wd "b", .wd "truth", .wd "c", .wd "list", .wd "d", .wd "number", .wd "e", .wd "number"])])) (n := 9) (l := [.tup [.wd "fun", .wd "F", .tup [], .wd "number", .tup [.wd "give", .num 1]]]) (hvOf (List.forall_mem_cons.mpr ⟨⟨Or.inl rfl, by decide, by decide⟩, (List.forall_mem_cons.mpr ⟨⟨Or.inl rfl, by decide, by decide⟩, (List.forall_mem_nil _)⟩)⟩)) (by kernel_rfl) (by decide))))
      (qss_cons (qs_set (i := 2) nd rfl (Or.inl rfl) (qe_op op_cat (qv 2) (qe_thl (ρ := (rhoOf [("_law_end", .tup [.wd "give", .num 1]), ("_law_five", .tup [.wd "a", .wd "number", .wd "b", .wd "truth", .wd "c", .wd "list", .wd "d", .wd "number", .wd "e", .wd "number"])])) (n := 9) (l := [.tup [.wd "fun", .wd "f", .wd "a", .wd "number", .tup [.wd "give", .num 1]], .tup [.wd "fun", .wd "f", .tup [], .tup [.wd "give", .num 1]]]) (hvOf (List.forall_mem_cons.mpr ⟨⟨Or.inl rfl, by decide, by decide⟩, (List.forall_mem_cons.mpr ⟨⟨Or.inl rfl, by decide, by decide⟩, (List.forall_mem_nil _)⟩)⟩)) (by kernel_rfl) (by decide))))
      (qss_cons (qs_set (i := 2) nd rfl (Or.inl rfl) (qe_op op_cat (qv 2) (qe_thl (ρ := (rhoOf [("_law_end", .tup [.wd "give", .num 1]), ("_law_five", .tup [.wd "a", .wd "number", .wd "b", .wd "truth", .wd "c", .wd "list", .wd "d", .wd "number", .wd "e", .wd "number"])])) (n := 9) (l := [.tup [.wd "fun", .wd "f", .tup [], .num 1, .tup [.wd "give", .num 1]], .tup [.wd "fun", .num 1, .tup [], .wd "number", .tup [.wd "give", .num 1]]]) (hvOf (List.forall_mem_cons.mpr ⟨⟨Or.inl rfl, by decide, by decide⟩, (List.forall_mem_cons.mpr ⟨⟨Or.inl rfl, by decide, by decide⟩, (List.forall_mem_nil _)⟩)⟩)) (by kernel_rfl) (by decide))))
      (qss_cons (qs_set (i := 2) nd rfl (Or.inl rfl) (qe_op op_cat (qv 2) (qe_thl (ρ := (rhoOf [("_law_end", .tup [.wd "give", .num 1]), ("_law_five", .tup [.wd "a", .wd "number", .wd "b", .wd "truth", .wd "c", .wd "list", .wd "d", .wd "number", .wd "e", .wd "number"])])) (n := 9) (l := [.tup [.wd "fun", .wd "f", .tup [.num 1, .wd "number"], .wd "number", .tup [.wd "give", .num 1]], .tup [.wd "func", .wd "f", .tup [], .wd "number", .tup [.wd "give", .num 1]], .tup [.wd "fun"]]) (hvOf (List.forall_mem_cons.mpr ⟨⟨Or.inl rfl, by decide, by decide⟩, (List.forall_mem_cons.mpr ⟨⟨Or.inl rfl, by decide, by decide⟩, (List.forall_mem_nil _)⟩)⟩)) (by kernel_rfl) (by decide))))
      (qss_cons (qs_set (i := 2) nd rfl (Or.inl rfl) (qe_op op_cat (qv 2) (qe_thl (ρ := (rhoOf [("_law_end", .tup [.wd "give", .num 1]), ("_law_five", .tup [.wd "a", .wd "number", .wd "b", .wd "truth", .wd "c", .wd "list", .wd "d", .wd "number", .wd "e", .wd "number"])])) (n := 9) (l := [.wd "fun", .num 3, .tup []]) (hvOf (List.forall_mem_cons.mpr ⟨⟨Or.inl rfl, by decide, by decide⟩, (List.forall_mem_cons.mpr ⟨⟨Or.inl rfl, by decide, by decide⟩, (List.forall_mem_nil _)⟩)⟩)) (by kernel_rfl) (by decide))))
      (qss_cons (qs_for PassesOwn.never rfl (qi_list (qe_thl (ρ := (rhoOf [("_law_end", .tup [.wd "give", .num 1]), ("_law_five", .tup [.wd "a", .wd "number", .wd "b", .wd "truth", .wd "c", .wd "list", .wd "d", .wd "number", .wd "e", .wd "number"])])) (n := 9) (l := [.wd "A", .wd "a1", .wd "abcdefghi", .wd "no"]) (hvOf (List.forall_mem_cons.mpr ⟨⟨Or.inl rfl, by decide, by decide⟩, (List.forall_mem_cons.mpr ⟨⟨Or.inl rfl, by decide, by decide⟩, (List.forall_mem_nil _)⟩)⟩)) (by kernel_rfl) (by decide))) (qg_name (i := 4) nd rfl (Or.inl rfl)) (qss_one (qs_set (i := 2) nd rfl (Or.inl rfl) (qe_op op_cat (qv 2) (qe_lst (qa_cons (qe_tup (qa_cons qe_str (qa_cons qe_str (qa_cons (qe_tup (qa_cons qe_str (qa_cons qe_str (qa_cons (qv 4) (qa_cons qe_str qa_nil))))) (qa_cons qe_str (qa_cons (qv 1) qa_nil)))))) (qa_cons (qe_tup (qa_cons qe_str (qa_cons (qv 4) (qa_cons (qe_tup qa_nil) (qa_cons qe_str (qa_cons (qv 1) qa_nil)))))) qa_nil)))))))
      (qss_cons (qs_set (i := 5) nd rfl (Or.inl rfl) (qe_thl (ρ := (rhoOf [("_law_end", .tup [.wd "give", .num 1]), ("_law_five", .tup [.wd "a", .wd "number", .wd "b", .wd "truth", .wd "c", .wd "list", .wd "d", .wd "number", .wd "e", .wd "number"])])) (n := 9) (l := [.tup [.wd "fun", .wd "f", .tup [], .wd "number", .tup [.wd "give", .num 1]]]) (hvOf (List.forall_mem_cons.mpr ⟨⟨Or.inl rfl, by decide, by decide⟩, (List.forall_mem_cons.mpr ⟨⟨Or.inl rfl, by decide, by decide⟩, (List.forall_mem_nil _)⟩)⟩)) (by kernel_rfl) (by decide)))
      (qss_cons (qs_set (i := 5) nd rfl (Or.inl rfl) (qe_op op_cat (qv 5) (qe_thl (ρ := (rhoOf [("_law_end", .tup [.wd "give", .num 1]), ("_law_five", .tup [.wd "a", .wd "number", .wd "b", .wd "truth", .wd "c", .wd "list", .wd "d", .wd "number", .wd "e", .wd "number"])])) (n := 9) (l := [.tup [.wd "fun", .wd "f", .tup [.wd "a", .wd "rr", .wd "b", .wd "truth", .wd "c", .wd "list", .wd "d", .wd "number"], .wd "number", .tup [.wd "give", .num 1]]]) (hvOf (List.forall_mem_cons.mpr ⟨⟨Or.inl rfl, by decide, by decide⟩, (List.forall_mem_cons.mpr ⟨⟨Or.inl rfl, by decide, by decide⟩, (List.forall_mem_nil _)⟩)⟩)) (by kernel_rfl) (by decide))))
      (qss_cons (qs_set (i := 5) nd rfl (Or.inl rfl) (qe_op op_cat (qv 5) (qe_thl (ρ := (rhoOf [("_law_end", .tup [.wd "give", .num 1]), ("_law_five", .tup [.wd "a", .wd "number", .wd "b", .wd "truth", .wd "c", .wd "list", .wd "d", .wd "number", .wd "e", .wd "number"])])) (n := 9) (l := [.tup [.wd "fun", .wd "rr", .tup [.wd "x", .wd "list"], .wd "rr", .tup [.wd "give", .tup [.wd "new", .wd "rr"]]]]) (hvOf (List.forall_mem_cons.mpr ⟨⟨Or.inl rfl, by decide, by decide⟩, (List.forall_mem_cons.mpr ⟨⟨Or.inl rfl, by decide, by decide⟩, (List.forall_mem_nil _)⟩)⟩)) (by kernel_rfl) (by decide))))
      (qss_cons (qs_set (i := 5) nd rfl (Or.inl rfl) (qe_op op_cat (qv 5) (qe_thl (ρ := (rhoOf [("_law_end", .tup [.wd "give", .num 1]), ("_law_five", .tup [.wd "a", .wd "number", .wd "b", .wd "truth", .wd "c", .wd "list", .wd "d", .wd "number", .wd "e", .wd "number"])])) (n := 9) (l := [.tup [.wd "fun", .wd "abcdefgh", .tup [], .wd "list", .tup [.wd "fail", .num 1]]]) (hvOf (List.forall_mem_cons.mpr ⟨⟨Or.inl rfl, by decide, by decide⟩, (List.forall_mem_cons.mpr ⟨⟨Or.inl rfl, by decide, by decide⟩, (List.forall_mem_nil _)⟩)⟩)) (by kernel_rfl) (by decide))))
      (qss_cons (qs_if (qt_cmpR op_eq (qe_op op_mod (qv 0) qe_int) qe_int (nomark _)) (qss_one (qs_ret (qe_lst (qa_cons (qe_ix ix_list (qv 5) (qe_op op_mod (qe_op op_fdiv (qv 0) qe_int) (qe_callB call_len_seq rfl T.n_len PySem.boot_len (qa_cons (qv 5) qa_nil))) (fun _ _ => rfl)) (qa_cons qe_bl qa_nil))))) qss_nil)
      (qss_one (qs_ret (qe_lst (qa_cons (qe_ix ix_list (qv 2) (qe_op op_mod (qe_op op_fdiv (qv 0) qe_int) (qe_callB call_len_seq rfl T.n_len PySem.boot_len (qa_cons (qv 2) qa_nil))) (fun _ _ => rfl)) (qa_cons qe_bl qa_nil))))))))))))))))))))))))), ?_⟩
    refine seq_th held0 fun v1 H1 s1 i1 => ?_
    have h_law_end1 := i1
    refine seq_new (heldOf (List.forall_mem_cons.mpr ⟨⟨1, v1, rfl, rfl, h_law_end1⟩, (List.forall_mem_nil _)⟩)) fun q2 H2 u2 s2 g2 i2 => ?_
    have h_law_end2 := (IsTh.mono s2.tups h_law_end1)
    have g_law_wrong2 := g2
    have i_law_wrong2 := i2
    refine seq_th (heldOf (List.forall_mem_cons.mpr ⟨⟨1, v1, rfl, rfl, h_law_end2⟩, (List.forall_mem_nil _)⟩)) fun v3 H3 s3 i3 => ?_
    have h_law_end3 := (IsTh.mono s3.tups h_law_end2)
    have h_law_five3 := i3
    have g_law_wrong3 := (s3 _ _ g_law_wrong2)
    have i_law_wrong3 := (IsThL.mono s3.tups i_law_wrong2)
    refine seq_cat rfl g_law_wrong3 i_law_wrong3 (by decide) (heldOf (List.forall_mem_cons.mpr ⟨⟨1, v1, rfl, rfl, h_law_end3⟩, (List.forall_mem_cons.mpr ⟨⟨3, v3, rfl, rfl, h_law_five3⟩, (List.forall_mem_nil _)⟩)⟩)) fun q4 H4 u4 s4 g4 i4 => ?_
    have h_law_end4 := (IsTh.mono s4.tups h_law_end3)
    have h_law_five4 := (IsTh.mono s4.tups h_law_five3)
    have g_law_wrong4 := g4
    have i_law_wrong4 := i4
    refine seq_cat rfl g_law_wrong4 i_law_wrong4 (by decide) (heldOf (List.forall_mem_cons.mpr ⟨⟨1, v1, rfl, rfl, h_law_end4⟩, (List.forall_mem_cons.mpr ⟨⟨3, v3, rfl, rfl, h_law_five4⟩, (List.forall_mem_nil _)⟩)⟩)) fun q5 H5 u5 s5 g5 i5 => ?_
    have h_law_end5 := (IsTh.mono s5.tups h_law_end4)
    have h_law_five5 := (IsTh.mono s5.tups h_law_five4)
    have g_law_wrong5 := g5
    have i_law_wrong5 := i5
    refine seq_cat rfl g_law_wrong5 i_law_wrong5 (by decide) (heldOf (List.forall_mem_cons.mpr ⟨⟨1, v1, rfl, rfl, h_law_end5⟩, (List.forall_mem_cons.mpr ⟨⟨3, v3, rfl, rfl, h_law_five5⟩, (List.forall_mem_nil _)⟩)⟩)) fun q6 H6 u6 s6 g6 i6 => ?_
    have h_law_end6 := (IsTh.mono s6.tups h_law_end5)
    have h_law_five6 := (IsTh.mono s6.tups h_law_five5)
    have g_law_wrong6 := g6
    have i_law_wrong6 := i6
    refine seq_cat rfl g_law_wrong6 i_law_wrong6 (by decide) (heldOf (List.forall_mem_cons.mpr ⟨⟨1, v1, rfl, rfl, h_law_end6⟩, (List.forall_mem_cons.mpr ⟨⟨3, v3, rfl, rfl, h_law_five6⟩, (List.forall_mem_nil _)⟩)⟩)) fun q7 H7 u7 s7 g7 i7 => ?_
    have h_law_end7 := (IsTh.mono s7.tups h_law_end6)
    have h_law_five7 := (IsTh.mono s7.tups h_law_five6)
    have g_law_wrong7 := g7
    have i_law_wrong7 := i7
    refine seq_cat rfl g_law_wrong7 i_law_wrong7 (by decide) (heldOf (List.forall_mem_cons.mpr ⟨⟨1, v1, rfl, rfl, h_law_end7⟩, (List.forall_mem_cons.mpr ⟨⟨3, v3, rfl, rfl, h_law_five7⟩, (List.forall_mem_nil _)⟩)⟩)) fun q8 H8 u8 s8 g8 i8 => ?_
    have h_law_end8 := (IsTh.mono s8.tups h_law_end7)
    have h_law_five8 := (IsTh.mono s8.tups h_law_five7)
    have g_law_wrong8 := g8
    have i_law_wrong8 := i8
    refine seq_cat rfl g_law_wrong8 i_law_wrong8 (by decide) (heldOf (List.forall_mem_cons.mpr ⟨⟨1, v1, rfl, rfl, h_law_end8⟩, (List.forall_mem_cons.mpr ⟨⟨3, v3, rfl, rfl, h_law_five8⟩, (List.forall_mem_nil _)⟩)⟩)) fun q9 H9 u9 s9 g9 i9 => ?_
    have h_law_end9 := (IsTh.mono s9.tups h_law_end8)
    have h_law_five9 := (IsTh.mono s9.tups h_law_five8)
    have g_law_wrong9 := g9
    have i_law_wrong9 := i9
    refine seq_cat rfl g_law_wrong9 i_law_wrong9 (by decide) (heldOf (List.forall_mem_cons.mpr ⟨⟨1, v1, rfl, rfl, h_law_end9⟩, (List.forall_mem_cons.mpr ⟨⟨3, v3, rfl, rfl, h_law_five9⟩, (List.forall_mem_nil _)⟩)⟩)) fun q10 H10 u10 s10 g10 i10 => ?_
    have h_law_end10 := (IsTh.mono s10.tups h_law_end9)
    have h_law_five10 := (IsTh.mono s10.tups h_law_five9)
    have g_law_wrong10 := g10
    have i_law_wrong10 := i10
    refine seq_cat rfl g_law_wrong10 i_law_wrong10 (by decide) (heldOf (List.forall_mem_cons.mpr ⟨⟨1, v1, rfl, rfl, h_law_end10⟩, (List.forall_mem_cons.mpr ⟨⟨3, v3, rfl, rfl, h_law_five10⟩, (List.forall_mem_nil _)⟩)⟩)) fun q11 H11 u11 s11 g11 i11 => ?_
    have h_law_end11 := (IsTh.mono s11.tups h_law_end10)
    have h_law_five11 := (IsTh.mono s11.tups h_law_five10)
    have g_law_wrong11 := g11
    have i_law_wrong11 := i11
    refine seq_cat rfl g_law_wrong11 i_law_wrong11 (by decide) (heldOf (List.forall_mem_cons.mpr ⟨⟨1, v1, rfl, rfl, h_law_end11⟩, (List.forall_mem_cons.mpr ⟨⟨3, v3, rfl, rfl, h_law_five11⟩, (List.forall_mem_nil _)⟩)⟩)) fun q12 H12 u12 s12 g12 i12 => ?_
    have h_law_end12 := (IsTh.mono s12.tups h_law_end11)
    have h_law_five12 := (IsTh.mono s12.tups h_law_five11)
    have g_law_wrong12 := g12
    have i_law_wrong12 := i12
    refine seq_cat rfl g_law_wrong12 i_law_wrong12 (by decide) (heldOf (List.forall_mem_cons.mpr ⟨⟨1, v1, rfl, rfl, h_law_end12⟩, (List.forall_mem_cons.mpr ⟨⟨3, v3, rfl, rfl, h_law_five12⟩, (List.forall_mem_nil _)⟩)⟩)) fun q13 H13 u13 s13 g13 i13 => ?_
    have h_law_end13 := (IsTh.mono s13.tups h_law_end12)
    have h_law_five13 := (IsTh.mono s13.tups h_law_five12)
    have g_law_wrong13 := g13
    have i_law_wrong13 := i13
    refine seq_cat rfl g_law_wrong13 i_law_wrong13 (by decide) (heldOf (List.forall_mem_cons.mpr ⟨⟨1, v1, rfl, rfl, h_law_end13⟩, (List.forall_mem_cons.mpr ⟨⟨3, v3, rfl, rfl, h_law_five13⟩, (List.forall_mem_nil _)⟩)⟩)) fun q14 H14 u14 s14 g14 i14 => ?_
    have h_law_end14 := (IsTh.mono s14.tups h_law_end13)
    have h_law_five14 := (IsTh.mono s14.tups h_law_five13)
    have g_law_wrong14 := g14
    have i_law_wrong14 := i14
    have S0 : Same H H14 := s1.trans (s2.trans (s3.trans (s4.trans (s5.trans (s6.trans (s7.trans (s8.trans (s9.trans (s10.trans (s11.trans (s12.trans (s13.trans (s14)))))))))))))
    have j0 : IsThL H14 u14 funW0 := Eq.mp (by kernel_rfl) i_law_wrong14
    have gq := g_law_wrong14
    have he := h_law_end14
    refine seq_for (heldOf (List.forall_mem_cons.mpr ⟨⟨1, v1, rfl, rfl, h_law_end14⟩, (List.forall_mem_cons.mpr ⟨⟨3, v3, rfl, rfl, h_law_five14⟩, (List.forall_mem_nil _)⟩)⟩)) fun ql Hl ul sl gl il => ?_
    refine for_list (xs := ul) (fun i σ H' => ∃ q u x, σ = [some (.int c), some v1, some (.ref q), some v3, x, none] ∧ Same Hl H' ∧ H' q = some (.lst u) ∧ IsThL H' u (funW0 ++ (words.take i).flatMap more)) ⟨_, _, _, rfl, Same.refl Hl, sl _ _ gq, by simpa using j0.mono sl.tups⟩ (fun i σ H' _ ⟨_, _, _, _, sm, _, _⟩ => .inl (.inl (sm _ _ gl))) ?_ ?_
    · rintro i xv σ H' hx ⟨q, u, x, rfl, sm, gu, iu⟩
      obtain ⟨th, ht, ith⟩ := il.get hx
      obtain ⟨wd, hw, rfl⟩ : ∃ wd, words[i]? = some wd ∧ th = .wd wd := by
        have e : ([.wd "A", .wd "a1", .wd "abcdefghi", .wd "no"] : List Th) = words.map Th.wd := rfl
        have ht' : (words.map Th.wd)[i]? = some th := e ▸ ht
        rw [List.getElem?_map] at ht'
        cases e2 : words[i]? with
        | none => rw [e2] at ht'; cases ht'
        | some wd => rw [e2] at ht'; exact ⟨wd, rfl, (Option.some.inj ht').symm⟩
      cases (show xv = .str wd from ith)
      have iend := (IsTh.mono sl.tups he).mono sm.tups
      refine ⟨_, rfl, _, rfl, (by show 4 ≤ sizeLine; decide), fun p1 hp1 => ?_⟩
      have t1 := (Same.refl H').upd (o := .tup [.str "b", .str "number", .str wd, .str "number"]) hp1
      have e1 := upd_same (H := H') (a := p1) (o := .tup [.str "b", .str "number", .str wd, .str "number"])
      generalize upd H' p1 (.tup [.str "b", .str "number", .str wd, .str "number"]) = A1 at *
      refine ⟨_, rfl, (by show 5 ≤ sizeLine; decide), fun p2 hp2 => ?_⟩
      have t2 := t1.upd (o := .tup [.str "fun", .str "f", .ref p1, .str "number", v1]) hp2
      have t12 := (Same.refl A1).upd (o := .tup [.str "fun", .str "f", .ref p1, .str "number", v1]) hp2
      have e2 := upd_same (H := A1) (a := p2) (o := .tup [.str "fun", .str "f", .ref p1, .str "number", v1])
      generalize upd A1 p2 (.tup [.str "fun", .str "f", .ref p1, .str "number", v1]) = A2 at *
      refine ⟨_, rfl, (by show 0 ≤ sizeLine; decide), fun p3 hp3 => ?_⟩
      have t3 := t2.upd (o := .tup []) hp3
      have t23 := (Same.refl A2).upd (o := .tup []) hp3
      have e3 := upd_same (H := A2) (a := p3) (o := .tup [])
      generalize upd A2 p3 (.tup []) = A3 at *
      refine ⟨_, rfl, (by show 5 ≤ sizeLine; decide), fun p4 hp4 => ⟨(by show 2 ≤ sizeLine; decide), fun p5 hp5 => ?_⟩⟩
      have t4 := t3.upd (o := .tup [.str "fun", .str wd, .ref p3, .str "number", v1]) hp4
      have t34 := (Same.refl A3).upd (o := .tup [.str "fun", .str wd, .ref p3, .str "number", v1]) hp4
      have e4 := upd_same (H := A3) (a := p4) (o := .tup [.str "fun", .str wd, .ref p3, .str "number", v1])
      generalize upd A3 p4 (.tup [.str "fun", .str wd, .ref p3, .str "number", v1]) = A4 at *
      have t5 := t4.upd (o := .lst [.ref p2, .ref p4]) hp5
      have t45 := (Same.refl A4).upd (o := .lst [.ref p2, .ref p4]) hp5
      have e5 := upd_same (H := A4) (a := p5) (o := .lst [.ref p2, .ref p4])
      generalize upd A4 p5 (.lst [.ref p2, .ref p4]) = A5 at *
      refine ⟨q, p5, u, [.ref p2, .ref p4], rfl, rfl, t5 _ _ gu, e5, ?_, fun p6 hp6 => ?_⟩
      · have l1 : (funW0 ++ (words.take i).flatMap more).length ≤ 900 := by
          rw [List.length_append]
          have : ((words.take i).flatMap more).length ≤ 8 := by
            have : ∀ w : List Str, (w.flatMap more).length = 2 * w.length := fun w => by
              induction w with
              | nil => rfl
              | cons a r ih => rw [List.flatMap_cons, List.length_append, ih]; simp [more]; omega
            rw [this, List.length_take]
            have : words.length = 4 := rfl
            omega
          have : funW0.length ≤ 100 := by decide
          omega
        rw [iu.len]
        show _ + 2 ≤ sizeLine
        exact Nat.le_trans (Nat.add_le_add_right l1 2) (by decide)
      have t6 := t5.upd (o := .lst (u ++ [.ref p2, .ref p4])) hp6
      have t56 := (Same.refl A5).upd (o := .lst (u ++ [.ref p2, .ref p4])) hp6
      have tk : (words.take (i + 1)).flatMap more = (words.take i).flatMap more ++ more wd := by rw [List.take_add_one, hw]; simp
      refine ⟨p6, _, _, rfl, sm.trans t6, upd_same, ?_⟩
      rw [tk, ← List.append_assoc]
      have k25 := t23.trans (t34.trans (t45.trans t56))
      have k45 := t45.trans t56
      have endA := iend.mono t6.tups
      refine (iu.mono t6.tups).append ⟨.ref p2, [.ref p4], rfl, ⟨p2, _, rfl, k25 _ _ e2, .str "fun", _, rfl, rfl, .str "f", _, rfl, rfl, .ref p1, _, rfl, ⟨p1, _, rfl, (t12.trans k25) _ _ e1, .str "b", _, rfl, rfl, .str "number", _, rfl, rfl, .str wd, _, rfl, rfl, .str "number", _, rfl, rfl, rfl⟩, .str "number", _, rfl, rfl, v1, _, rfl, endA, rfl⟩, .ref p4, [], rfl, ⟨p4, _, rfl, k45 _ _ e4, .str "fun", _, rfl, rfl, .str wd, _, rfl, rfl, .ref p3, _, rfl, ⟨p3, _, rfl, (t34.trans k45) _ _ e3, rfl⟩, .str "number", _, rfl, rfl, v1, _, rfl, endA, rfl⟩, rfl⟩
    · rintro σ HL ⟨q, u, x, rfl, sm, gu, iu⟩
      have hE0 := (IsTh.mono sl.tups he).mono sm.tups
      have hF0 := (IsTh.mono sl.tups h_law_five14).mono sm.tups
      refine seq_new (heldOf (List.forall_mem_cons.mpr ⟨⟨1, v1, rfl, rfl, hE0⟩, (List.forall_mem_cons.mpr ⟨⟨3, v3, rfl, rfl, hF0⟩, (List.forall_mem_nil _)⟩)⟩)) fun q20 H20 u20 s20 g20 i20 => ?_
      have hE1 := hE0.mono s20.tups
      have hF1 := hF0.mono s20.tups
      refine seq_cat rfl g20 i20 (by decide) (heldOf (List.forall_mem_cons.mpr ⟨⟨1, v1, rfl, rfl, hE1⟩, (List.forall_mem_cons.mpr ⟨⟨3, v3, rfl, rfl, hF1⟩, (List.forall_mem_nil _)⟩)⟩)) fun q21 H21 u21 s21 g21 i21 => ?_
      have hE2 := hE1.mono s21.tups
      have hF2 := hF1.mono s21.tups
      refine seq_cat rfl g21 i21 (by decide) (heldOf (List.forall_mem_cons.mpr ⟨⟨1, v1, rfl, rfl, hE2⟩, (List.forall_mem_cons.mpr ⟨⟨3, v3, rfl, rfl, hF2⟩, (List.forall_mem_nil _)⟩)⟩)) fun q22 H22 u22 s22 g22 i22 => ?_
      have hE3 := hE2.mono s22.tups
      have hF3 := hF2.mono s22.tups
      refine seq_cat rfl g22 i22 (by decide) (heldOf (List.forall_mem_cons.mpr ⟨⟨1, v1, rfl, rfl, hE3⟩, (List.forall_mem_cons.mpr ⟨⟨3, v3, rfl, rfl, hF3⟩, (List.forall_mem_nil _)⟩)⟩)) fun q23 H23 u23 s23 g23 i23 => ?_
      have SL := s20.trans (s21.trans (s22.trans s23))
      have S : Same H H23 := S0.trans (sl.trans (sm.trans SL))
      have jR : IsThL H23 u23 funR := Eq.mp (by kernel_rfl) i23
      have gW := SL _ _ gu
      have l4 : ul.length = 4 := il.len
      have jW : IsThL H23 u funW := by
        rw [l4] at iu
        exact iu.mono SL.tups
      refine ⟨_, rfl, _, _, rfl, rfl, (show (0 : Int) < 2 by decide), rfl, _, rfl, ite2 (fun h => ?_) (fun h => ?_)⟩
      · obtain ⟨v, t, ea, it, mt⟩ := pick_step (c / 2) g23 jR (by decide)
        refine ⟨_, rfl, _, rfl, _, _, rfl, rfl, ⟨by decide, by decide⟩, _, rfl, q23, u23, rfl, .inl (.inl (.inl g23)), _, _, rfl, rfl, (show (0 : Int) < (u23.length : Int) by rw [jR.len]; decide), q23, u23, _, v, rfl, rfl, .inl (.inl g23), ea, (by show 2 ≤ sizeLine; decide), fun p hp => k p _ v t true (S.upd hp) upd_same (it.mono (Same.tups ((Same.refl H23).upd hp))) mt⟩
      · obtain ⟨v, t, ea, it, mt⟩ := pick_step (c / 2) gW jW (by decide)
        refine ⟨_, rfl, _, rfl, _, _, rfl, rfl, ⟨by decide, by decide⟩, _, rfl, q, u, rfl, .inl (.inl (.inl gW)), _, _, rfl, rfl, (show (0 : Int) < (u.length : Int) by rw [jW.len]; decide), q, u, _, v, rfl, rfl, .inl (.inl gW), ea, (by show 2 ≤ sizeLine; decide), fun p hp => k p _ v t false (S.upd hp) upd_same (it.mono (Same.tups ((Same.refl H23).upd hp))) mt⟩
end
end K08

namespace L2
open PySem PySem.Spec PyProof.Rows
/-! ### t + u of tuples, any of them empty -/
def rCatB (K : PySem.W.Frag) : R2 := fun x y H Q => ∃ a b xs ys, x = .ref a ∧ y = .ref b ∧ SqT K H a xs ∧ SqT K H b ys ∧ xs.length + ys.length ≤ sizeLine ∧ (xs = [] → Q (.ref b) H) ∧ (xs ≠ [] → ys = [] → Q (.ref a) H) ∧ (xs ≠ [] → ys ≠ [] → ∀ p, H p = none → Q (.ref p) (upd H p (.tup (xs ++ ys))))
theorem cat_empty {prog : Program} {w : World} {A : Around} {E : Value → Shared → Prop} {s : Shared} {t b : Addr} {us ws : List Value} {Q : Value → Shared → Prop} (ht : IsTup s.heap t us.toArray) (hb : IsTup s.heap b ws.toArray) (hv : us = []) (h : Q (.ref b) s) : wpAny (model prog w) A (binaryOp .Add (.ref t) (.ref b)) Q E s := by
  obtain ⟨⟨c1, d1, a1, z1⟩, g1, k1, n1, m1⟩ := id ht
  obtain ⟨⟨c2, d2, a2, z2⟩, g2, k2, n2, m2⟩ := id hb
  simp only at k1 m1 k2 m2
  subst k1 m1 k2 m2
  exact concat_meets ⟨_, g1, rfl⟩ ⟨_, g2, rfl⟩ noFill_tuple_add seq_tuple_add PySem.F.slot_tuple_add PySem.F.entry_tuple_add (PySem.F.args_tuple_add_2 _ _) (tuple_addW0 t b us.toArray ws.toArray n1 n2 d1 d2 z1 z2 (by simp [hv])) ⟨g1, g2, h⟩
theorem op_catB {X : Cx} : OpR X (binaryOp .Add) (rCatB X.K) := by
  intro pins s σ H x y v u Q I rx ry h
  obtain ⟨a, b, xs, ys, rfl, rfl, ha, hb, hz, q0, q1, q2⟩ := h
  by_cases hx : xs = []
  · cases rx
    cases ry
    obtain ⟨its, r1, p1, _⟩ := I.tuple ha
    obtain ⟨its2, r2, p2, _⟩ := I.tuple hb
    exact cat_empty p1 p2 (r1.nil_iff.mpr hx) ⟨.ref b, H, I, rfl, q0 hx⟩
  · exact op_catT pins s σ H _ _ v u Q I rx ry ⟨a, b, xs, ys, rfl, rfl, ha, hb, hx, hz, q1 hx, q2 hx⟩
theorem cat_th {K : PySem.W.Frag} {x y : V} {H : Hp} {l m : List Th} {Q : VK} (hx : IsTh H x (.tup l)) (hy : IsTh H y (.tup m)) (hz : l.length + m.length ≤ 1000) (k : ∀ v H', Same H H' → IsTh H' v (.tup (l ++ m)) → Q v H') : rCatB K x y H Q := by
  obtain ⟨a, us, rfl, hu, hl⟩ := hx
  obtain ⟨b, ws, rfl, hw, hm⟩ := hy
  have e1 := hl.len
  have e2 := hm.len
  refine ⟨a, b, us, ws, rfl, rfl, .inl (.inl hu), .inl (.inl hw), by rw [e1, e2]; exact Nat.le_trans hz (by decide), fun h => ?_, fun _ h => ?_, fun _ _ p hp => k (.ref p) _ ((Same.refl H).upd hp) ⟨p, _, rfl, upd_same, (hl.append hm).mono (Same.tups ((Same.refl H).upd hp))⟩⟩
  · have : l = [] := List.length_eq_zero_iff.mp (by rw [← e1, h]; rfl)
    subst this
    exact k (.ref b) H (Same.refl H) ⟨b, ws, rfl, hw, hm⟩
  · have : m = [] := List.length_eq_zero_iff.mp (by rw [← e2, h]; rfl)
    subst this
    rw [List.append_nil] at k
    exact k (.ref a) H (Same.refl H) ⟨a, us, rfl, hu, hl⟩
end L2

namespace K08
open PySem PySem.Spec PyProof.Rows L2
/-! ### the trees of the law -/
def mainD : Th := .tup [.wd "fun", .wd "main", .tup [], .wd "number", .tup [.wd "give", .num 0]]
def plainD : Th := .tup [.wd "fun", .wd "g", .tup [.wd "p", .wd "rr"], .wd "truth", .tup [.wd "give", .wd "no"]]
def otherD : Th := .tup [.wd "record", .wd "rr", .wd "f"]
def behindD : Th := .tup [.wd "record", .wd "rs", .wd "a"]
def menu (right wrong : List Th) : List (Th × Bool) := right.map (·, true) ++ wrong.map (·, false)
/-- record, main, more, and whether it is right -/
def partsD : List (List Th × List Th × List Th × Bool) :=
  (menu recR recW).map (fun p => ([p.1], [mainD], [], p.2)) ++ (menu funR funW).map (fun p => ([], [mainD], [p.1], p.2)) ++
  (menu endR endW).map (fun p => ([], [mainD], [.tup ([.wd "fun", .wd "f", .tup [], .wd "number"] ++ kidsOf p.1)], p.2)) ++ (menu mainR mainW).map (fun p => ([], [p.1], [], p.2))
def ordersD (mn more : List Th) : List (List Th) := [mn ++ [plainD] ++ more, more ++ mn ++ [plainD], [plainD] ++ more ++ mn]
def recsD (r : List Th) : List (List Th) := [r ++ [otherD], [otherD] ++ r]
def treesD : List (Th × Bool) :=
  partsD.flatMap (fun p => (ordersD p.2.1 p.2.2.1).flatMap fun f => (recsD p.1).map fun r => (.tup ([.wd "program"] ++ r ++ f), p.2.2.2)) ++
  ([0, 1] : List Nat).flatMap (fun i => (recsD []).map fun r => (.tup ([.wd "program"] ++ r ++ ([mainD] ++ [plainD].take i ++ [behindD] ++ [plainD].drop i)), false))
theorem trees_good : (treesD.all fun p => treeOk 5 p.1 && (treeP 5 p.1 == p.2)) = true := by decide +kernel
end K08

namespace L2
open PySem PySem.Spec PyProof.Rows
/-! ### a, b = a list -/
def gLst (K : PySem.W.Frag) (n : Nat) (t : TGs) : TG := fun v σ H Q => ∃ a xs, v = .ref a ∧ SqL K H a xs ∧ xs.length = n ∧ t xs σ H Q
theorem PlainL.isList {h : Heap} {a : Addr} {its : Array Value} (p : PlainL h a its) : h.IsList a its := by
  obtain ⟨o, n, g, c, d, e⟩ := p
  exact ⟨o, g, c, n, e⟩
theorem assign_Tuple_list {prog : Program} {w : World} {A : Around} {E : Value → Shared → Prop} {s : Shared} {env : Env} {elts : List Expr} {x1} {pos : Pos} {t : Addr} {items : Array Value} {Q : Unit → Shared → Prop} (hh : A.handled = none) (ht : s.heap.IsList t items)
    (hn : (assignEach elts env).length = items.size) (hstar : (assignEach elts env).findIdx? (·.1) = none)
    (h : ∀ h', Heap.ExtBut s.heap.objs.size s.heap h' → wpAny (model prog w) A (assignInOrder ((assignEach elts env).map (·.2)) items.toList) Q E { s with heap := h' }) :
    wpAny (model prog w) A (assign (.Tuple elts x1 pos) env (.ref t)) Q E s := by
  rw [assign_Tuple]
  refine wpAny_bind (wpAny_standAt ?_)
  unfold unpack
  rw [hn, hstar]
  exact wpAny_bind (wpAny_holding (PySem.W.kun_itemsOf hh ht h))
theorem pg_lst {X : Cx} {pos : Pos} {es : List Expr} {k : Nat} {t : TGs} {n : Nat} (hc : X.calm = true) (h : PGs X es t)
    (hn : (assignEach es X.env).length = n := by rfl) (hst : (assignEach es X.env).findIdx? (·.1) = none := by rfl) : PG X (.Tuple es k pos) (gLst X.K n t) := by
  intro pins s σ H v u Q I r hw
  obtain ⟨a, xs, e1, hq, hl, hw⟩ := hw
  subst e1
  cases r
  obtain ⟨its, rv, ht, hz⟩ := I.list hq
  refine assign_Tuple_list (I.ok.hd hc) (PlainL.isList ht) (by simp [hn, ← hl, rv.length]) hst fun h' hx => ?_
  have I1 : Inv X pins σ H { s with heap := h' } := I.kept (t' := s.toks) fun b o e => hx b o (Nat.ne_of_lt (Heap.lt_size e)) e
  exact h pins _ σ H xs _ Q I1 (by simpa using rv) hw
theorem qg_lst {X : Cx} {pos : Pos} {es : List Expr} {k : Nat} {t : TGs} {n : Nat} (hc : X.calm = true) (h : QGs X es t) (hn : (assignEach es X.env).length = n := by rfl) (hst : (assignEach es X.env).findIdx? (·.1) = none := by rfl) : QG X (.Tuple es k pos) (gLst X.K n t) := ⟨pg_lst hc h.go hn hst⟩
/-! ### t[lo:hi], perhaps the whole -/
theorem getItem_tuple_whole {prog : Program} {w : World} {A : Around} {E : Value → Shared → Prop} {s : Shared} {t sl : Addr} {items : Array Value} {vl vu : Value} {lo hi : Option Int} {Q : Value → Shared → Prop} (ht : IsTup s.heap t items) (hs : s.heap.IsSliceOf sl vl vu .none) (pl : IsPart vl lo) (pu : IsPart vu hi)
    (hw : HT.sIx items.size 0 lo = 0 ∧ HT.sIx items.size items.size hi = items.size)
    (h : Q (.ref t) s) : wpAny (model prog w) A (getItem (.ref t) (.ref sl)) Q E s := by
  obtain ⟨os, hos, hcs, hds⟩ := id hs
  have hTs : s.TypeIs (.ref sl) "slice" := ⟨os, hos, hcs⟩
  unfold getItem
  try with_reducible refine wpAny_holding ?_
  first | refine wpAny_bind (wpAny_pure ?_) | skip
  refine wpAny_bind (wpAny_sequenceKey ht.typeIs (by decide) ?_)
  refine wpAny_bind (wpAny_callSpecial?_slot (name := Str.ofString "__getitem__") ht.typeIs PyProof.Rows.slot_tuple_getitem
    (wpAny_call_entry PyProof.Rows.slot_tuple_getitem ht.typeIs entry_tuple_getitem ?_ (args_tuple_getitem _ _)))
  show wpAny _ _ (Builtin.Tuple.tupleItemsOf (.ref t) >>= _) _ _ s
  refine wpAny_bind (tupleItemsOf_ ht ?_)
  refine wpAny_bind (wpAny_typeOf hTs ?_)
  rw [if_pos (by decide)]
  refine wpAny_bind (HT.sliceApplied_gen hs pl pu ?_)
  have hyes : ((((HT.sIx items.size 0 lo : Nat) : Int) == 0 && (1 : Int) == 1 && (HT.sIx items.size items.size hi - HT.sIx items.size 0 lo) == items.size) = true) := by
    rw [hw.1, hw.2]
    simp
  show wpAny _ _ (if (((HT.sIx items.size 0 lo : Nat) : Int) == 0 && (1 : Int) == 1 && (HT.sIx items.size items.size hi - HT.sIx items.size 0 lo) == items.size) = true then _ else _) _ _ s
  rw [if_pos hyes]
  unfold Builtin.Tuple.tupleIsExact
  refine wpAny_bind (wpAny_bind (wpAny_typeOf ht.typeIs (wpAny_pure ?_)))
  rw [if_pos (by decide)]
  refine wpAny_bind (wpAny_rule ?_)
  exact wpAny_pure ⟨_, rfl, wpAny_pure h⟩
def rSlB (K : PySem.W.Frag) : V → Option Int → Option Int → Hp → VK → Prop := fun x lo hi H Q => ∃ a xs, x = .ref a ∧ SqT K H a xs ∧
  ((HT.sIx xs.length 0 lo = 0 ∧ HT.sIx xs.length xs.length hi = xs.length) → Q (.ref a) H) ∧ (¬ (HT.sIx xs.length 0 lo = 0 ∧ HT.sIx xs.length xs.length hi = xs.length) → ∀ p, H p = none → Q (.ref p) (upd H p (.tup (cutV xs lo hi))))
theorem sl_tupB {X : Cx} : SlR X (rSlB X.K) := by
  intro pins s σ H x v vl vu lo hi sl Q I rx hs pl pu h
  obtain ⟨a, xs, rfl, hx, q1, q2⟩ := h
  by_cases hw : HT.sIx xs.length 0 lo = 0 ∧ HT.sIx xs.length xs.length hi = xs.length
  · cases rx
    obtain ⟨its, r, ht, hz⟩ := I.tuple hx
    have hlen : its.toArray.size = xs.length := by rw [List.size_toArray]; exact r.length.symm
    refine ⟨"tuple", _, PyProof.Rows.slot_tuple_getitem.lookup, ht.typeIs, ?_⟩
    exact getItem_tuple_whole ht hs pl pu (by rw [hlen]; exact hw) ⟨.ref a, H, I, rfl, q1 hw⟩
  · exact sl_tup pins s σ H _ v vl vu lo hi sl Q I rx hs pl pu ⟨a, xs, rfl, hx, hw, q2 hw⟩
end L2
namespace L2
open PySem PySem.Spec PyProof.Rows
theorem cut_to {K : PySem.W.Frag} {x : V} {H : Hp} {t : Th} {i : Int} {Q : VK} (hx : IsTh H x (.tup [t])) (hi : i = 0 ∨ i = 1) (k : ∀ v H', Same H H' → IsTh H' v (.tup ([t].take i.toNat)) → Q v H') : rSlB K x none (some i) H Q := by
  obtain ⟨a, us, rfl, hu, hl⟩ := hx
  have hl0 := hl
  obtain ⟨u, ur, rfl, hu1, rfl⟩ := hl
  refine ⟨a, [u], rfl, .inl (.inl hu), fun h => ?_, fun h p hp => k _ _ ((Same.refl H).upd hp) ⟨p, _, rfl, upd_same, ?_⟩⟩
  · rcases hi with rfl | rfl
    · exact absurd h.2 (show ¬ HT.sIx 1 1 (some 0) = 1 by decide)
    · exact k _ _ (Same.refl H) ⟨a, [u], rfl, hu, hl0⟩
  · have hm := hl0.mono (Same.tups ((Same.refl H).upd (o := .tup (cutV [u] none (some i))) hp))
    rcases hi with rfl | rfl
    · exact hm.take 0
    · exact absurd ⟨rfl, rfl⟩ h
theorem cut_from {K : PySem.W.Frag} {x : V} {H : Hp} {t : Th} {i : Int} {Q : VK} (hx : IsTh H x (.tup [t])) (hi : i = 0 ∨ i = 1) (k : ∀ v H', Same H H' → IsTh H' v (.tup ([t].drop i.toNat)) → Q v H') : rSlB K x (some i) none H Q := by
  obtain ⟨a, us, rfl, hu, hl⟩ := hx
  have hl0 := hl
  obtain ⟨u, ur, rfl, hu1, rfl⟩ := hl
  refine ⟨a, [u], rfl, .inl (.inl hu), fun h => ?_, fun h p hp => k _ _ ((Same.refl H).upd hp) ⟨p, _, rfl, upd_same, ?_⟩⟩
  · rcases hi with rfl | rfl
    · exact k _ _ (Same.refl H) ⟨a, [u], rfl, hu, hl0⟩
    · exact absurd h.1 (show ¬ HT.sIx 1 0 (some 1) = 0 by decide)
  · have hm := hl0.mono (Same.tups ((Same.refl H).upd (o := .tup (cutV [u] (some i) none)) hp))
    rcases hi with rfl | rfl
    · exact absurd ⟨rfl, rfl⟩ h
    · exact hm.drop 1
/-- what follows is shown once for all ways to it -/
theorem join {t u : TS} {D : Ends} {σ : L2.St} {H : Hp} (J : L2.St → Hp → Prop) (h1 : ∀ σ' H', J σ' H' → u D σ' H') (h2 : (∀ σ' H', J σ' H' → u D σ' H') → tSeq t u D σ H) : tSeq t u D σ H := h2 h1
end L2

namespace K08
open PySem PySem.Spec PyProof.Rows L2
def spLawTree : Sp := fun vs H Q _ => ∃ c : Int, vs = [.int c] ∧ ∀ l H' v t b, Same H H' → H' l = some (.lst [v, .bl b]) → IsTh H' v t → (t, b) ∈ treesD → Q (.ref l) H'
theorem menu_mem {right wrong : List Th} {t : Th} {b : Bool} (h : t ∈ (if b = true then right else wrong)) : (t, b) ∈ menu right wrong := by
  cases b
  · exact List.mem_append_right _ (List.mem_map.mpr ⟨t, h, rfl⟩)
  · exact List.mem_append_left _ (List.mem_map.mpr ⟨t, h, rfl⟩)
theorem parts_rec {t : Th} {b : Bool} (h : t ∈ (if b = true then recR else recW)) : (([t], [mainD], [], b) : List Th × List Th × List Th × Bool) ∈ partsD :=
  List.mem_append_left _ (List.mem_append_left _ (List.mem_append_left _ (List.mem_map.mpr ⟨(t, b), menu_mem h, rfl⟩)))
theorem parts_fun {t : Th} {b : Bool} (h : t ∈ (if b = true then funR else funW)) : (([], [mainD], [t], b) : List Th × List Th × List Th × Bool) ∈ partsD :=
  List.mem_append_left _ (List.mem_append_left _ (List.mem_append_right _ (List.mem_map.mpr ⟨(t, b), menu_mem h, rfl⟩)))
theorem parts_end {l : List Th} {b : Bool} (h : Th.tup l ∈ (if b = true then endR else endW)) : (([], [mainD], [.tup ([.wd "fun", .wd "f", .tup [], .wd "number"] ++ l)], b) : List Th × List Th × List Th × Bool) ∈ partsD :=
  List.mem_append_left _ (List.mem_append_right _ (List.mem_map.mpr ⟨(.tup l, b), menu_mem h, rfl⟩))
theorem parts_main {t : Th} {b : Bool} (h : t ∈ (if b = true then mainR else mainW)) : (([], [t], [], b) : List Th × List Th × List Th × Bool) ∈ partsD :=
  List.mem_append_right _ (List.mem_map.mpr ⟨(t, b), menu_mem h, rfl⟩)
def Told (R M O : List Th) (b : Bool) (way : Int) : Prop := (way ≠ 4 ∧ (R, M, O, b) ∈ partsD) ∨ (way = 4 ∧ R = [] ∧ M = [mainD] ∧ O = [behindD] ∧ b = false)
theorem told_orders {R M O F : List Th} {b : Bool} {way : Int} (h : Told R M O b way) (hw : way ≠ 4) (hF : F ∈ ordersD M O) : ∀ r ∈ recsD R, (Th.tup ([.wd "program"] ++ r ++ F), b) ∈ treesD := by
  intro r hr
  rcases h with ⟨_, h⟩ | ⟨h, _⟩
  · exact List.mem_append_left _ (List.mem_flatMap.mpr ⟨_, h, List.mem_flatMap.mpr ⟨F, hF, List.mem_map.mpr ⟨r, hr, rfl⟩⟩⟩)
  · exact absurd h hw
theorem told_behind {R M O : List Th} {b : Bool} {way i : Int} (h : Told R M O b way) (hw : way = 4) (hi : i = 0 ∨ i = 1) : ∀ r ∈ recsD R, (Th.tup ([.wd "program"] ++ r ++ (((M ++ [plainD].take i.toNat) ++ O) ++ [plainD].drop i.toNat)), b) ∈ treesD := by
  intro r hr
  rcases h with ⟨h, _⟩ | ⟨_, rfl, rfl, rfl, rfl⟩
  · exact absurd hw h
  · refine List.mem_append_right _ (List.mem_flatMap.mpr ⟨i.toNat, ?_, List.mem_map.mpr ⟨r, hr, rfl⟩⟩)
    rcases hi with rfl | rfl
    · exact .head _
    · exact .tail _ (.head _)
theorem ends_tup {t : Th} {b : Bool} (h : t ∈ (if b = true then endR else endW)) : ∃ l, t = .tup l ∧ l.length ≤ 10 := by
  have all : ((endR ++ endW).all fun t => match t with | .tup l => decide (l.length ≤ 10) | _ => false) = true := by decide +kernel
  have m : t ∈ endR ++ endW := by
    cases b
    · exact List.mem_append_right _ h
    · exact List.mem_append_left _ h
  have := List.all_eq_true.mp all t m
  cases t with
  | tup l => exact ⟨l, rfl, of_decide_eq_true this⟩
  | num i => exact absurd this (by simp)
  | wd x => exact absurd this (by simp)
section
variable {P : Program} {w : World} {K : PySem.W.Frag} {mg : Str → Option Value} {base : Heap} {t1 t2 t3 t4 : Tok} {cP cT cR cM cA cS : Addr}
theorem sc__law_tree : FnScope ["_law_cell_here", "_law_way", "_law_record", "_law_main", "_law_more", "_law_fine", "_law_one", "_law_some", "_law_plain", "_law_functions_here", "_law_at", "_law_other", "_law_records_here"] ["_law_cell_here"] (defScope sLawTree) := ⟨rfl, rfl, rfl, by decide +kernel, rfl, by decide +kernel, by decide +kernel⟩
set_option maxHeartbeats 4000000 in
theorem ok_law_tree {f : Addr} {fd : FuncData} (F : Fun K "_law_tree" "_law_tree" sLawTree f fd) (T : Txt0 K mg t1 t2 t3 t4) (F__law_records : FnB P w K mg base 1 "_law_records" ["_law_cell_here"] (spMenu recR recW)) (F__law_functions : FnB P w K mg base 1 "_law_functions" ["_law_cell_here"] (spMenu funR funW)) (F__law_ends : FnB P w K mg base 1 "_law_ends" ["_law_cell_here"] (spMenu endR endW)) (F__law_mains : FnB P w K mg base 1 "_law_mains" ["_law_cell_here"] (spMenu mainR mainW)) :
    FnOk P w K mg base CX0 2 f fd ["_law_cell_here"] spLawTree := by
  refine F.okQ sc__law_tree (fun vs H Q E h => ?_) (fun cdv A outer s H vs Q E hr h => ?_)
  · obtain ⟨c, rfl, _⟩ := h
    rfl
  · obtain ⟨c, rfl, kq⟩ := h
    have nd := sc__law_tree.nd
    refine ⟨_, (qss_cons (qs_set (i := 1) nd rfl (Or.inl rfl) (qe_op op_mod (qv 0) qe_int))
      (qss_cons (qs_asg (qe_lst (qa_cons (qe_th (ρ := rho0) (n := 9) (th := .tup []) hv0 (by kernel_rfl)) (qa_cons (qe_th (ρ := rho0) (n := 9) (th := .tup [.tup [.wd "fun", .wd "main", .tup [], .wd "number", .tup [.wd "give", .num 0]]]) hv0 (by kernel_rfl)) (qa_cons (qe_th (ρ := rho0) (n := 9) (th := .tup []) hv0 (by kernel_rfl)) (qa_cons qe_bl qa_nil))))) (qg_lst rfl (qgs_cons (qg_name (i := 2) nd rfl (Or.inl rfl)) (qgs_cons (qg_name (i := 3) nd rfl (Or.inl rfl)) (qgs_cons (qg_name (i := 4) nd rfl (Or.inl rfl)) (qgs_cons (qg_name (i := 5) nd rfl (Or.inl rfl)) qgs_nil))))))
      (qss_cons (qs_if (qt_cmpR op_eq (qv 1) qe_int (nomark _)) (qss_cons (qs_asg (qe_fn F__law_records (hr.mono (by first | decide | omega)) rfl (qa_cons (qe_op op_fdiv (qv 0) qe_int) qa_nil)) (qg_lst rfl (qgs_cons (qg_name (i := 6) nd rfl (Or.inl rfl)) (qgs_cons (qg_name (i := 5) nd rfl (Or.inl rfl)) qgs_nil))))
      (qss_one (qs_set (i := 2) nd rfl (Or.inl rfl) (qe_tup (qa_cons (qv 6) qa_nil))))) (qss_one (qs_if (qt_cmpR op_eq (qv 1) qe_int (nomark _)) (qss_cons (qs_asg (qe_fn F__law_functions (hr.mono (by first | decide | omega)) rfl (qa_cons (qe_op op_fdiv (qv 0) qe_int) qa_nil)) (qg_lst rfl (qgs_cons (qg_name (i := 6) nd rfl (Or.inl rfl)) (qgs_cons (qg_name (i := 5) nd rfl (Or.inl rfl)) qgs_nil))))
      (qss_one (qs_set (i := 4) nd rfl (Or.inl rfl) (qe_tup (qa_cons (qv 6) qa_nil))))) (qss_one (qs_if (qt_cmpR op_eq (qv 1) qe_int (nomark _)) (qss_cons (qs_asg (qe_fn F__law_ends (hr.mono (by first | decide | omega)) rfl (qa_cons (qe_op op_fdiv (qv 0) qe_int) qa_nil)) (qg_lst rfl (qgs_cons (qg_name (i := 7) nd rfl (Or.inl rfl)) (qgs_cons (qg_name (i := 5) nd rfl (Or.inl rfl)) qgs_nil))))
      (qss_one (qs_set (i := 4) nd rfl (Or.inl rfl) (qe_tup (qa_cons (qe_op op_catB (qe_th (ρ := rho0) (n := 9) (th := .tup [.wd "fun", .wd "f", .tup [], .wd "number"]) hv0 (by kernel_rfl)) (qv 7)) qa_nil))))) (qss_one (qs_if (qt_cmpR op_eq (qv 1) qe_int (nomark _)) (qss_cons (qs_asg (qe_fn F__law_mains (hr.mono (by first | decide | omega)) rfl (qa_cons (qe_op op_fdiv (qv 0) qe_int) qa_nil)) (qg_lst rfl (qgs_cons (qg_name (i := 6) nd rfl (Or.inl rfl)) (qgs_cons (qg_name (i := 5) nd rfl (Or.inl rfl)) qgs_nil))))
      (qss_one (qs_set (i := 3) nd rfl (Or.inl rfl) (qe_tup (qa_cons (qv 6) qa_nil))))) (qss_one (qs_asg (qe_lst (qa_cons (qe_th (ρ := rho0) (n := 9) (th := .tup [.tup [.wd "record", .wd "rs", .wd "a"]]) hv0 (by kernel_rfl)) (qa_cons qe_bl qa_nil))) (qg_lst rfl (qgs_cons (qg_name (i := 4) nd rfl (Or.inl rfl)) (qgs_cons (qg_name (i := 5) nd rfl (Or.inl rfl)) qgs_nil))))))))))))
      (qss_cons (qs_set (i := 8) nd rfl (Or.inl rfl) (qe_th (ρ := rho0) (n := 9) (th := .tup [.tup [.wd "fun", .wd "g", .tup [.wd "p", .wd "rr"], .wd "truth", .tup [.wd "give", .wd "no"]]]) hv0 (by kernel_rfl)))
      (qss_cons (qs_set (i := 9) nd rfl (Or.inl rfl) (qe_ix ix_list (qe_lst (qa_cons (qe_op op_catB (qe_op op_catB (qv 3) (qv 8)) (qv 4)) (qa_cons (qe_op op_catB (qe_op op_catB (qv 4) (qv 3)) (qv 8)) (qa_cons (qe_op op_catB (qe_op op_catB (qv 8) (qv 4)) (qv 3)) qa_nil)))) (qe_op op_mod (qe_op op_fdiv (qv 0) qe_int) qe_int) (fun _ _ => rfl)))
      (qss_cons (qs_if (qt_cmpR op_eq (qv 1) qe_int (nomark _)) (qss_cons (qs_set (i := 10) nd rfl (Or.inl rfl) (qe_op op_mod (qe_op op_fdiv (qv 0) qe_int) qe_int))
      (qss_one (qs_set (i := 9) nd rfl (Or.inl rfl) (qe_op op_catB (qe_op op_catB (qe_op op_catB (qv 3) (qe_slice sl_tupB (qv 8) qo_none (qo_some (qv 10)))) (qv 4)) (qe_slice sl_tupB (qv 8) (qo_some (qv 10)) qo_none))))) qss_nil)
      (qss_cons (qs_set (i := 11) nd rfl (Or.inl rfl) (qe_th (ρ := rho0) (n := 9) (th := .tup [.tup [.wd "record", .wd "rr", .wd "f"]]) hv0 (by kernel_rfl)))
      (qss_cons (qs_set (i := 12) nd rfl (Or.inl rfl) (qe_ix ix_list (qe_lst (qa_cons (qe_op op_catB (qv 2) (qv 11)) (qa_cons (qe_op op_catB (qv 11) (qv 2)) qa_nil))) (qe_op op_mod (qe_op op_fdiv (qv 0) qe_int) qe_int) (fun _ _ => rfl)))
      (qss_one (qs_ret (qe_lst (qa_cons (qe_op op_catB (qe_op op_catB (qe_th (ρ := rho0) (n := 9) (th := .tup [.wd "program"]) hv0 (by kernel_rfl)) (qv 12)) (qv 9)) (qa_cons (qv 5) qa_nil))))))))))))), ?_⟩
    refine ⟨_, rfl, _, _, rfl, rfl, (show (0 : Int) < 5 by decide), ?_⟩
    refine ⟨held0, fun v2 H1 s1 i2 => ⟨held0, fun v3 H2 s2 i3 => ⟨held0, fun v4 H3 s3 i4 => ⟨(by show 4 ≤ sizeLine; decide), fun p hp => ⟨p, _, rfl, SqL.of upd_same, rfl, ?_⟩⟩⟩⟩⟩
    have S4 : Same H3 (upd H3 p (.lst [v2, v3, v4, .bl true])) := (Same.refl H3).upd hp
    have S : Same H (upd H3 p (.lst [v2, v3, v4, .bl true])) := s1.trans (s2.trans (s3.trans S4))
    have j4 := i4.mono S4.tups
    have j3 := i3.mono (s3.trans S4).tups
    have j2 := i2.mono (s2.trans (s3.trans S4)).tups
    generalize upd H3 p (.lst [v2, v3, v4, .bl true]) = H4 at *
    refine ⟨_, _, rfl, _, _, rfl, _, _, rfl, _, _, rfl, rfl, ?_⟩
    dsimp only
    refine join (t := tIfS _ _ _) (fun σ' H' => ∃ R M O b r m o u6 u7, σ' = [some (.int c), some (.int (c % 5)), some r, some m, some o, some (.bl b), u6, u7, none, none, none, none, none] ∧ Same H H' ∧ IsTh H' r (.tup R) ∧ IsTh H' m (.tup M) ∧ IsTh H' o (.tup O) ∧ R.length ≤ 1 ∧ M.length ≤ 1 ∧ O.length ≤ 1 ∧ Told R M O b (c % 5)) ?_ (fun go => ?_)
    · rintro σ' H' ⟨R, M, O, b, r, m, o, u6, u7, rfl, S', ir, im, io, lr, lm, lo, told⟩
      refine ⟨held0, fun vp H5 s5 ip => ?_⟩
      have ir5 := ir.mono s5.tups
      have im5 := im.mono s5.tups
      have io5 := io.mono s5.tups
      refine ⟨_, rfl, _, rfl, cat_th im5 ip (by show M.length + 1 ≤ 1000; omega) fun w1 E1 e1 j1 => ⟨_, rfl, cat_th j1 (io5.mono e1.tups) (by rw [List.length_append]; show M.length + 1 + O.length ≤ 1000; omega) fun w2 E2 e2 j2 => ?_⟩⟩
      have e2' := e1.trans e2
      refine ⟨_, rfl, _, rfl, cat_th (io5.mono e2'.tups) (im5.mono e2'.tups) (by omega) fun w3 E3 e3 j3 => ⟨_, rfl, cat_th j3 (ip.mono (e2'.trans e3).tups) (by rw [List.length_append]; show O.length + M.length + 1 ≤ 1000; omega) fun w4 E4 e4 j4 => ?_⟩⟩
      have e4' := (e2'.trans e3).trans e4
      refine ⟨_, rfl, _, rfl, cat_th (ip.mono e4'.tups) (io5.mono e4'.tups) (by show 1 + O.length ≤ 1000; omega) fun w5 E5 e5 j5 => ⟨_, rfl, cat_th j5 (im5.mono (e4'.trans e5).tups) (by rw [List.length_append]; show 1 + O.length + M.length ≤ 1000; omega) fun w6 E6 e6 j6 => ?_⟩⟩
      have e6' := (e4'.trans e5).trans e6
      refine ⟨(by show 3 ≤ sizeLine; decide), fun p hp => ?_⟩
      have gp := upd_same (H := E6) (a := p) (o := .lst [w2, w4, w6])
      have e7 : Same E6 (upd E6 p (.lst [w2, w4, w6])) := (Same.refl E6).upd hp
      have lst3 : IsThL (upd E6 p (.lst [w2, w4, w6])) [w2, w4, w6] ((ordersD M O).map Th.tup) :=
        ⟨_, _, rfl, j2.mono ((e3.trans (e4.trans (e5.trans e6))).trans e7).tups, _, _, rfl, j4.mono ((e5.trans e6).trans e7).tups, _, _, rfl, j6.mono e7.tups, rfl⟩
      have S7 : Same H' (upd E6 p (.lst [w2, w4, w6])) := (s5.trans e6').trans e7
      generalize upd E6 p (.lst [w2, w4, w6]) = H7 at *
      obtain ⟨vF, tF, eF, iF, mF⟩ := pick_step (c / 2560) gp lst3 (by show 0 < 3; decide)
      obtain ⟨Fs, nF, rfl⟩ := List.mem_map.mp mF
      refine ⟨_, rfl, _, _, rfl, rfl, ⟨by decide, by decide⟩, _, _, rfl, rfl, (show (0 : Int) < 3 by decide), p, _, _, vF, rfl, rfl, SqL.of gp, eF, ?_⟩
      have lF : Fs.length ≤ 10 := by
        simp only [ordersD, List.mem_cons, List.not_mem_nil, or_false] at nF
        rcases nF with rfl | rfl | rfl <;> simp <;> omega
      have ip7 := ip.mono (e6'.trans e7).tups
      have im7 := im5.mono (e6'.trans e7).tups
      have io7 := io5.mono (e6'.trans e7).tups
      have ir7 := ir5.mono (e6'.trans e7).tups
      dsimp only
      refine join (t := tIfS _ _ _) (fun σ2 H2 => ∃ Fs vF u10, σ2 = [some (.int c), some (.int (c % 5)), some r, some m, some o, some (.bl b), u6, u7, some vp, some vF, u10, none, none] ∧ Same H7 H2 ∧ IsTh H2 vF (.tup Fs) ∧ Fs.length ≤ 10 ∧ ∀ x ∈ recsD R, (Th.tup ([.wd "program"] ++ x ++ Fs), b) ∈ treesD) ?_ (fun go => ?_)
      · rintro σ2 H2 ⟨Fs, vF, u10, rfl, S2, iF, lF, good⟩
        refine ⟨held0, fun vo H3 s3 jo => ?_⟩
        have ir3 := (ir7.mono S2.tups).mono s3.tups
        refine ⟨_, rfl, _, rfl, cat_th ir3 jo (by show R.length + 1 ≤ 1000; omega) fun x1 G1 g1 k1 => ⟨_, rfl, _, rfl, cat_th (jo.mono g1.tups) (ir3.mono g1.tups) (by show 1 + R.length ≤ 1000; omega) fun x2 G2 g2 k2 => ⟨(by show 2 ≤ sizeLine; decide), fun q hq => ?_⟩⟩⟩
        have gq := upd_same (H := G2) (a := q) (o := .lst [x1, x2])
        have g3 : Same G2 (upd G2 q (.lst [x1, x2])) := (Same.refl G2).upd hq
        have lst2 : IsThL (upd G2 q (.lst [x1, x2])) [x1, x2] ((recsD R).map Th.tup) := ⟨_, _, rfl, k1.mono (g2.trans g3).tups, _, _, rfl, k2.mono g3.tups, rfl⟩
        have S8 : Same H2 (upd G2 q (.lst [x1, x2])) := ((s3.trans g1).trans g2).trans g3
        generalize upd G2 q (.lst [x1, x2]) = H8 at *
        obtain ⟨vr, tr, er, jr, mr⟩ := pick_step (c / 7680) gq lst2 (by show 0 < 2; decide)
        obtain ⟨Rs, nr, rfl⟩ := List.mem_map.mp mr
        have lR : Rs.length ≤ 10 := by
          have nr' := nr
          simp only [recsD, List.mem_cons, List.not_mem_nil, or_false] at nr'
          rcases nr' with rfl | rfl <;> simp <;> omega
        refine ⟨_, rfl, _, _, rfl, rfl, ⟨by decide, by decide⟩, _, _, rfl, rfl, (show (0 : Int) < 2 by decide), q, _, _, vr, rfl, rfl, SqL.of gq, er, ?_⟩
        refine ⟨held0, fun vg G4 g4 kg => ⟨_, rfl, cat_th kg (jr.mono g4.tups) (by show 1 + Rs.length ≤ 1000; omega) fun y1 G5 g5 l1 => ⟨_, rfl, cat_th l1 (((iF.mono S8.tups).mono g4.tups).mono g5.tups) (by rw [List.length_append]; show 1 + Rs.length + Fs.length ≤ 1000; omega) fun y2 G6 g6 l2 => ⟨_, rfl, (by show 2 ≤ sizeLine; decide), fun z hz => ?_⟩⟩⟩⟩
        exact kq z _ y2 _ b (((((((S'.trans S7).trans S2).trans S8).trans g4).trans g5).trans g6).upd hz) upd_same (l2.mono (Same.tups ((Same.refl G6).upd hz))) (good Rs nr)
      · refine ⟨_, rfl, rfl, _, rfl, ite2 (fun h => ?_) (fun h => ?_)⟩
        · have hw : c % 5 = 4 := by
            have := of_decide_eq_true h
            exact V.int.inj this
          have hi : c / 2560 % 2 = 0 ∨ c / 2560 % 2 = 1 := by omega
          refine ⟨_, rfl, _, _, rfl, rfl, ⟨by decide, by decide⟩, _, _, rfl, rfl, (show (0 : Int) < 2 by decide), ?_⟩
          refine ⟨_, rfl, _, rfl, _, rfl, _, rfl, cut_to ip7 hi fun w1 E1 e1 j1 => cat_th (im7.mono e1.tups) j1 (by rw [List.length_take]; show M.length + min _ 1 ≤ 1000; omega) fun w2 E2 e2 j2 => ⟨_, rfl, cat_th j2 (io7.mono (e1.trans e2).tups) (by rw [List.length_append, List.length_take]; show M.length + min _ 1 + O.length ≤ 1000; omega) fun w3 E3 e3 j3 => ?_⟩⟩
          have e3' := (e1.trans e2).trans e3
          refine ⟨_, rfl, _, rfl, _, rfl, cut_from (ip7.mono e3'.tups) hi fun w4 E4 e4 j4 => cat_th (j3.mono e4.tups) j4 (by rw [List.length_append, List.length_append, List.length_take, List.length_drop]; show M.length + min _ 1 + O.length + (1 - _) ≤ 1000; omega) fun w5 E5 e5 j5 => go _ _ ⟨_, w5, _, rfl, (e3'.trans e4).trans e5, j5, ?_, told_behind told hw hi⟩⟩
          rw [List.length_append, List.length_append, List.length_append, List.length_take, List.length_drop]
          show M.length + min _ 1 + O.length + (1 - _) ≤ 10
          omega
        · have hw : c % 5 ≠ 4 := fun q => h (decide_eq_true (congrArg V.int q))
          exact go _ _ ⟨Fs, vF, none, rfl, Same.refl H7, iF, lF, told_orders told hw nF⟩
    · have ways : c % 5 = 0 ∨ c % 5 = 1 ∨ c % 5 = 2 ∨ c % 5 = 3 ∨ c % 5 = 4 := by omega
      refine ⟨_, rfl, rfl, _, rfl, ite2 (fun h => ?_) (fun h0 => ⟨_, rfl, rfl, _, rfl, ite2 (fun h => ?_) (fun h1 => ⟨_, rfl, rfl, _, rfl, ite2 (fun h => ?_) (fun h2 => ⟨_, rfl, rfl, _, rfl, ite2 (fun h => ?_) (fun h3 => ?_)⟩)⟩)⟩)⟩
      · have hw : c % 5 = 0 := V.int.inj (of_decide_eq_true h)
        refine ⟨_, rfl, _, _, rfl, rfl, ⟨by decide, by decide⟩, c / 5, rfl, fun l H5 v t b s5 g5 i5 mem => ⟨l, _, rfl, SqL.of g5, rfl, _, _, rfl, _, _, rfl, rfl, ?_⟩⟩
        refine ⟨_, rfl, (by show 1 ≤ sizeLine; decide), fun p hp => ?_⟩
        have u5 := (Same.refl H5).upd (o := .tup [v]) hp
        exact go _ _ ⟨[t], [mainD], [], b, .ref p, v3, v4, some v, none, rfl, (S.trans s5).trans u5, ⟨p, [v], rfl, upd_same, v, [], rfl, i5.mono u5.tups, rfl⟩, j3.mono (s5.trans u5).tups, j4.mono (s5.trans u5).tups, Nat.le_refl 1, Nat.le_refl 1, Nat.zero_le 1, .inl ⟨by omega, parts_rec mem⟩⟩
      · have hw : c % 5 = 1 := V.int.inj (of_decide_eq_true h)
        refine ⟨_, rfl, _, _, rfl, rfl, ⟨by decide, by decide⟩, c / 5, rfl, fun l H5 v t b s5 g5 i5 mem => ⟨l, _, rfl, SqL.of g5, rfl, _, _, rfl, _, _, rfl, rfl, ?_⟩⟩
        refine ⟨_, rfl, (by show 1 ≤ sizeLine; decide), fun p hp => ?_⟩
        have u5 := (Same.refl H5).upd (o := .tup [v]) hp
        exact go _ _ ⟨[], [mainD], [t], b, v2, v3, .ref p, some v, none, rfl, (S.trans s5).trans u5, j2.mono (s5.trans u5).tups, j3.mono (s5.trans u5).tups, ⟨p, [v], rfl, upd_same, v, [], rfl, i5.mono u5.tups, rfl⟩, Nat.zero_le 1, Nat.le_refl 1, Nat.le_refl 1, .inl ⟨by omega, parts_fun mem⟩⟩
      · have hw : c % 5 = 2 := V.int.inj (of_decide_eq_true h)
        refine ⟨_, rfl, _, _, rfl, rfl, ⟨by decide, by decide⟩, c / 5, rfl, fun l H5 v t b s5 g5 i5 mem => ⟨l, _, rfl, SqL.of g5, rfl, _, _, rfl, _, _, rfl, rfl, ?_⟩⟩
        obtain ⟨L, rfl, lL⟩ := ends_tup mem
        refine ⟨held0, fun vh H6 s6 jh => ⟨_, rfl, cat_th jh (i5.mono s6.tups) (by show 4 + L.length ≤ 1000; omega) fun x1 H7 s7 k1 => ⟨(by show 1 ≤ sizeLine; decide), fun p hp => ?_⟩⟩⟩
        have u7 := (Same.refl H7).upd (o := .tup [x1]) hp
        have w5 := (s5.trans s6).trans s7
        exact go _ _ ⟨[], [mainD], [.tup ([.wd "fun", .wd "f", .tup [], .wd "number"] ++ L)], b, v2, v3, .ref p, none, some v, rfl, (S.trans w5).trans u7, j2.mono (w5.trans u7).tups, j3.mono (w5.trans u7).tups, ⟨p, [x1], rfl, upd_same, x1, [], rfl, k1.mono u7.tups, rfl⟩, by decide, by decide, by show 1 ≤ 1; decide, .inl ⟨by omega, parts_end mem⟩⟩
      · have hw : c % 5 = 3 := V.int.inj (of_decide_eq_true h)
        refine ⟨_, rfl, _, _, rfl, rfl, ⟨by decide, by decide⟩, c / 5, rfl, fun l H5 v t b s5 g5 i5 mem => ⟨l, _, rfl, SqL.of g5, rfl, _, _, rfl, _, _, rfl, rfl, ?_⟩⟩
        refine ⟨_, rfl, (by show 1 ≤ sizeLine; decide), fun p hp => ?_⟩
        have u5 := (Same.refl H5).upd (o := .tup [v]) hp
        exact go _ _ ⟨[], [t], [], b, v2, .ref p, v4, some v, none, rfl, (S.trans s5).trans u5, j2.mono (s5.trans u5).tups, ⟨p, [v], rfl, upd_same, v, [], rfl, i5.mono u5.tups, rfl⟩, j4.mono (s5.trans u5).tups, Nat.zero_le 1, Nat.le_refl 1, Nat.zero_le 1, .inl ⟨by omega, parts_main mem⟩⟩
      · have n0 : c % 5 ≠ 0 := fun q => h0 (decide_eq_true (congrArg V.int q))
        have n1 : c % 5 ≠ 1 := fun q => h1 (decide_eq_true (congrArg V.int q))
        have n2 : c % 5 ≠ 2 := fun q => h2 (decide_eq_true (congrArg V.int q))
        have n3 : c % 5 ≠ 3 := fun q => h3 (decide_eq_true (congrArg V.int q))
        refine ⟨held0, fun v5 H5 s5 j5 => ⟨(by show 2 ≤ sizeLine; decide), fun p hp => ⟨p, _, rfl, SqL.of upd_same, rfl, _, _, rfl, _, _, rfl, rfl, ?_⟩⟩⟩
        have u5 := (Same.refl H5).upd (o := .lst [v5, .bl false]) hp
        exact go _ _ ⟨[], [mainD], [behindD], false, v2, v3, v5, none, none, rfl, (S.trans s5).trans u5, j2.mono (s5.trans u5).tups, j3.mono (s5.trans u5).tups, j5.mono u5.tups, by decide, by decide, by decide, .inr ⟨by omega, rfl, rfl, rfl, rfl⟩⟩
end
end K08

namespace K08
open PySem PySem.Spec PyProof.Rows L2
def spLaw (K : PySem.W.Frag) : Sp := fun vs H Q _ => ∃ (a : Addr) (ns : List Int), vs = [.ref a] ∧ SqL K H a (ns.map V.int) ∧ ns.length ≤ 63 ∧ ∀ H', Q (.bl true) H'
theorem cut_ints (ns : List Int) (lo hi : Option Int) : ∃ ms : List Int, cutV (ns.map V.int) lo hi = ms.map V.int := by
  refine ⟨(ns.drop (HT.sIx (ns.map V.int).length 0 lo)).take (HT.sIx (ns.map V.int).length (ns.map V.int).length hi - HT.sIx (ns.map V.int).length 0 lo), ?_⟩
  unfold cutV
  rw [List.map_take, List.map_drop]
theorem iteBF {b : Bool} {A B : Prop} (hb : b = false) (h : B) : if b = true then A else B := by
  rw [hb]; exact iteF h
theorem told_ok (b : Bool) : ∀ x ∈ told b, PyData.strOk x = true := by
  cases b <;> decide +kernel
theorem tree_is {t : Th} {b : Bool} (h : (t, b) ∈ treesD) : treeOk 5 t = true ∧ treeP 5 t = b := by
  have := List.all_eq_true.mp trees_good (t, b) h
  rw [Bool.and_eq_true] at this
  exact ⟨this.1, eq_of_beq this.2⟩
section
variable {P : Program} {w : World} {K : PySem.W.Frag} {mg : Str → Option Value} {base : Heap} {t1 t2 t3 t4 : Tok} {cP cT cR cM cA cS : Addr}
theorem sc_law : FnScope ["_law_script", "_law_cell_here", "_law_tree_here", "_law_fine"] ["_law_script"] (defScope sLaw) := ⟨rfl, rfl, rfl, by decide +kernel, rfl, by decide +kernel, by decide +kernel⟩
set_option maxHeartbeats 4000000 in
theorem ok_law {f : Addr} {fd : FuncData} (F : Fun K "law" "law" sLaw f fd) (T : Txt0 K mg t1 t2 t3 t4) (F__law_cell : FnB P w K mg base 1 "_law_cell" ["_law_script", "_law_k"] (spCell K)) (F__law_tree : FnB P w K mg base 2 "_law_tree" ["_law_cell_here"] spLawTree) (F__law_refused : FnB P w K mg base 19 "_law_refused" ["_law_tree_here"] (spRefused 5)) :
    FnOk P w K mg base CX0 20 f fd ["_law_script"] (spLaw K) := by
  refine F.okQ sc_law (fun vs H Q E h => ?_) (fun cdv A outer s H vs Q E hr h => ?_)
  · obtain ⟨a, ns, rfl, _⟩ := h
    rfl
  · obtain ⟨a, ns, rfl, hS, hlen, k⟩ := h
    have nd := sc_law.nd
    have hsl : (16000000 : Nat) ≤ sizeLine := by rw [sizeLine_eq]; omega
    refine ⟨_, (qss_cons (qs_for PassesOwn.never rfl (qi_list (qe_op op_cat (qe_lst (qa_cons (qe_fn F__law_cell (hr.mono (by first | decide | omega)) rfl (qa_cons (qv 0) (qa_cons qe_int qa_nil))) (qa_cons (qe_fn F__law_cell (hr.mono (by first | decide | omega)) rfl (qa_cons (qv 0) (qa_cons qe_int qa_nil))) qa_nil))) (qe_slice sl_list (qv 0) (qo_some qe_int) (qo_some qe_int)))) (qg_name (i := 1) nd rfl (Or.inl rfl)) (qss_cons (qs_asg (qe_fn F__law_tree (hr.mono (by first | decide | omega)) rfl (qa_cons (qv 1) qa_nil)) (qg_lst rfl (qgs_cons (qg_name (i := 2) nd rfl (Or.inl rfl)) (qgs_cons (qg_name (i := 3) nd rfl (Or.inl rfl)) qgs_nil))))
      (qss_one (qs_if (qt_cmpR (op_neLS hr.units) (qe_fn F__law_refused (hr.mono (by first | decide | omega)) rfl (qa_cons (qv 2) qa_nil)) (qe_ix ix_list (qe_lst (qa_cons (qe_lst (qa_cons qe_str qa_nil)) (qa_cons (qe_lst qa_nil) qa_nil))) (qe_callTy call_int1 rfl T.n_int boot_int (qa_cons (qv 3) qa_nil)) (fun _ _ => rfl)) (nomark _)) (qss_one (qs_ret qe_bl)) qss_nil))))
      (qss_one (qs_ret qe_bl))), ?_⟩
    refine ⟨_, rfl, a, ns, 0, rfl, hS, by decide, by decide, fun c0 => ⟨_, rfl, a, ns, 1, rfl, hS, by decide, by decide, fun c1 => ⟨(by show 2 ≤ sizeLine; omega), fun p1 h1 => ?_⟩⟩⟩
    refine ⟨_, rfl, _, rfl, _, rfl, a, _, rfl, ((Same.refl H).upd h1).seq hS, fun p2 h2 => ?_⟩
    obtain ⟨ms, em⟩ := cut_ints ns (some 2) (some 16)
    have cl := cutV_length (ns.map V.int) (some 2) (some 16)
    rw [List.length_map] at cl
    refine ⟨p1, p2, _, _, rfl, rfl, ((Same.refl _).upd h2) _ _ upd_same, upd_same, (by show 2 + _ ≤ sizeLine; omega), fun p3 h3 => ⟨p3, rfl, ⟨_, SqL.of upd_same⟩, ?_⟩⟩
    rw [em] at *
    have gp := upd_same (H := upd (upd H p1 (.lst [V.int c0, V.int c1])) p2 (.lst (ms.map V.int))) (a := p3) (o := .lst ([V.int c0, V.int c1] ++ ms.map V.int))
    generalize upd (upd (upd H p1 (.lst [V.int c0, V.int c1])) p2 (.lst (ms.map V.int))) p3 (.lst ([V.int c0, V.int c1] ++ ms.map V.int)) = H4 at *
    refine for_list (xs := [V.int c0, V.int c1] ++ ms.map V.int) (fun i σ H' => (∃ o1 o2 o3, σ = [some (.ref a), o1, o2, o3]) ∧ Same H4 H') ⟨⟨_, _, _, rfl⟩, Same.refl _⟩ (fun i σ H' _ ⟨_, sm⟩ => sm.seq (SqL.of gp)) ?_ ?_
    · rintro i x σ H' hx ⟨⟨o1, o2, o3, rfl⟩, sm⟩
      obtain ⟨m, rfl⟩ : ∃ m : Int, x = V.int m := by
        have : x ∈ [V.int c0, V.int c1] ++ ms.map V.int := List.mem_of_getElem? hx
        rcases List.mem_append.mp this with z | z
        · rcases List.mem_cons.mp z with z | z
          · exact ⟨c0, z⟩
          · exact ⟨c1, by simpa using z⟩
        · obtain ⟨m, _, e⟩ := List.mem_map.mp z
          exact ⟨m, e.symm⟩
      refine ⟨_, rfl, m, rfl, fun l H5 v t b s5 g5 i5 mem => ?_⟩
      obtain ⟨tok, tp⟩ := tree_is mem
      refine ⟨l, _, rfl, SqL.of g5, rfl, _, _, rfl, _, _, rfl, rfl, ?_⟩
      refine ⟨_, rfl, v, t, rfl, i5, tok, fun l6 H6 s6 f6 g6 => ?_⟩
      rw [tp] at g6
      refine ⟨(by show 1 ≤ sizeLine; omega), fun e1 f1 => ⟨(by show 0 ≤ sizeLine; omega), fun e0 f0 => ⟨(by show 2 ≤ sizeLine; omega), fun e2 f2 => ?_⟩⟩⟩
      have s7 : Same H6 (upd (upd (upd H6 e1 (.lst [V.str "NoTree"])) e0 (.lst [])) e2 (.lst [V.ref e1, V.ref e0])) := (((Same.refl H6).upd f1).upd f0).upd f2
      have k0 := ((Same.refl _).upd (o := .lst [V.ref e1, V.ref e0]) f2) _ _ (upd_same (H := upd H6 e1 (.lst [V.str "NoTree"])) (a := e0) (o := .lst []))
      have k1 := (((Same.refl _).upd (o := .lst []) f0).upd (o := .lst [V.ref e1, V.ref e0]) f2) _ _ (upd_same (H := H6) (a := e1) (o := .lst [V.str "NoTree"]))
      have k2 := upd_same (H := upd (upd H6 e1 (.lst [V.str "NoTree"])) e0 (.lst [])) (a := e2) (o := .lst [V.ref e1, V.ref e0])
      generalize upd (upd (upd H6 e1 (.lst [V.str "NoTree"])) e0 (.lst [])) e2 (.lst [V.ref e1, V.ref e0]) = H7 at *
      have g7 := s7 _ _ g6
      refine ⟨_, rfl, .inr ⟨b, rfl, ?_⟩⟩
      have sA : Same H4 H7 := ((sm.trans s5).trans s6).trans s7
      cases b with
      | true => exact ⟨e2, _, _, .ref e0, rfl, rfl, SqL.of k2, rfl, l6, e0, told true, told true, rfl, rfl, SqL.of g7, SqL.of k0, told_ok _, told_ok _, _, rfl, iteBF (by rw [decide_eq_true rfl]; rfl) ⟨⟨_, _, _, rfl⟩, sA⟩⟩
      | false => exact ⟨e2, _, _, .ref e1, rfl, rfl, SqL.of k2, rfl, l6, e1, told false, told false, rfl, rfl, SqL.of g7, SqL.of k1, told_ok _, told_ok _, _, rfl, iteBF (by rw [decide_eq_true rfl]; rfl) ⟨⟨_, _, _, rfl⟩, sA⟩⟩
    · rintro σ H' ⟨⟨o1, o2, o3, rfl⟩, sm⟩
      exact k H'
end
end K08

namespace K08
open PySem PySem.Spec PyProof.Rows L2
theorem FnOk.noneX {P : Program} {w : World} {K : PySem.W.Frag} {mg : Str → Option Value} {base : Heap} {CX : CXT} {k : Nat} {ps : List Str} {sp : Sp} {f : Addr} {fd : FuncData} (h : ∀ vs H Q E, ¬ sp vs H Q E) : FnOk P w K mg base CX k f fd ps sp :=
  ⟨fun vs H Q E z => absurd z (h _ _ _ _), fun A outer s H args us vs Q E _ _ _ _ z => absurd z (h _ _ _ _)⟩
theorem spA_zero {C cR : Addr} {h : Str} : ∀ vs H Q E, ¬ spA 0 C cR h vs H Q E := by
  rintro vs H Q E ⟨o, r, kn, kd, ns, g, kns, ks, v, rest, _, _, _, _, hb, _⟩
  exact hb rfl
section
variable {P : Program} {w : World} {K : PySem.W.Frag} {mg : Str → Option Value} {base : Heap} {t1 t2 t3 t4 : Tok} {cP cT cR cM cA cS aO C aT aU aS aL fL fI fW fK fG fF fD fS : Addr} {dL dI dW dK dG dF dD dS : FuncData}
/-- the actions, and how each is called -/
structure Acts (K : PySem.W.Frag) (fL fI fW fK fG fF fD : Addr) (dL dI dW dK dG dF dD : FuncData) : Prop where
  FL : Fun K "look_at_let" "look_at_let" sLookAtLet fL dL
  FI : Fun K "look_at_if" "look_at_if" sLookAtIf fI dI
  FW : Fun K "look_at_while" "look_at_while" sLookAtWhile fW dW
  FK : Fun K "look_at_known" "look_at_known" sLookAtKnown fK dK
  FG : Fun K "look_at_give" "look_at_give" sLookAtGive fG dG
  FF : Fun K "look_at_fail" "look_at_fail" sLookAtFail fF dF
  FD : Fun K "look_at_do" "look_at_do" sLookAtDo fD dD
  bL : Binds K dL ["look", "statement", "kinds"] []
  bI : Binds K dI ["look", "statement", "kinds"] []
  bW : Binds K dW ["look", "statement", "kinds"] []
  bK : Binds K dK ["look", "statement", "kinds"] []
  bG : Binds K dG ["look", "statement", "kinds"] []
  bF : Binds K dF ["look", "statement", "kinds"] []
  bD : Binds K dD ["look", "statement", "kinds"] []
def Fam (P : Program) (w : World) (K : PySem.W.Frag) (mg : Str → Option Value) (base : Heap) (k n : Nat) (C cR fL fI fW fK fG fF fD : Addr) : Prop :=
  ∀ h f, (h, V.ref f) ∈ acts fL fI fW fK fG fF fD → ∃ fd, FnOk P w K mg base (CX1 P w) k f fd ["look", "statement", "kinds"] (spA n C cR h) ∧ PySem.W.keepIn K (.ref f) = true ∧ Binds K fd ["look", "statement", "kinds"] []
theorem acts_mem {h : Str} {f : Addr} (m : (h, V.ref f) ∈ acts fL fI fW fK fG fF fD) : (h = "let" ∧ f = fL) ∨ (h = "if" ∧ f = fI) ∨ (h = "while" ∧ f = fW) ∨ (h = "out" ∧ f = fK) ∨ (h = "give" ∧ f = fG) ∨ (h = "fail" ∧ f = fF) ∨ (h = "do" ∧ f = fD) := by
  simpa only [acts, List.mem_cons, Prod.mk.injEq, List.not_mem_nil, or_false, V.ref.injEq] using m
theorem fam_zero {k : Nat} (A : Acts K fL fI fW fK fG fF fD dL dI dW dK dG dF dD) : Fam P w K mg base k 0 C cR fL fI fW fK fG fF fD := by
  intro h f m
  rcases acts_mem m with ⟨rfl, rfl⟩ | ⟨rfl, rfl⟩ | ⟨rfl, rfl⟩ | ⟨rfl, rfl⟩ | ⟨rfl, rfl⟩ | ⟨rfl, rfl⟩ | ⟨rfl, rfl⟩
  · exact ⟨dL, FnOk.noneX spA_zero, A.FL.kp, A.bL⟩
  · exact ⟨dI, FnOk.noneX spA_zero, A.FI.kp, A.bI⟩
  · exact ⟨dW, FnOk.noneX spA_zero, A.FW.kp, A.bW⟩
  · exact ⟨dK, FnOk.noneX spA_zero, A.FK.kp, A.bK⟩
  · exact ⟨dG, FnOk.noneX spA_zero, A.FG.kp, A.bG⟩
  · exact ⟨dF, FnOk.noneX spA_zero, A.FF.kp, A.bF⟩
  · exact ⟨dD, FnOk.noneX spA_zero, A.FD.kp, A.bD⟩
theorem fam_succ {k n : Nat} (hk : 4 ≤ k) (A : Acts K fL fI fW fK fG fF fD dL dI dW dK dG dF dD) (LT : LookT K C) (TT : TxT K w mg aT aU) (F_want : FnB1 P w K mg base 1 "want" ["so", "why"] (spWant cR)) (F_is_name : FnB P w K mg base 2 "is_name" ["thing"] spName) (F_is_of_language : FnB P w K mg base 2 "is_of_language" ["thing"] spIsL)
    (F_kind_looked : FnB1 P w K mg base 3 "kind_looked" ["look", "e", "kinds"] (spKL C cR)) (F_look_at_parts : FnB1 P w K mg base 4 "look_at_parts" ["look", "parts", "wanted", "kinds"] (spLP K C cR)) (F_look_at_statements : FnB1 P w K mg base k "look_at_statements" ["look", "statements", "around"] (spS n C cR)) : Fam P w K mg base (k + 1) (n + 1) C cR fL fI fW fK fG fF fD := by
  intro h f m
  rcases acts_mem m with ⟨rfl, rfl⟩ | ⟨rfl, rfl⟩ | ⟨rfl, rfl⟩ | ⟨rfl, rfl⟩ | ⟨rfl, rfl⟩ | ⟨rfl, rfl⟩ | ⟨rfl, rfl⟩
  · exact ⟨dL, ok_look_at_let hk A.FL LT F_want F_is_name F_kind_looked, A.FL.kp, A.bL⟩
  · exact ⟨dI, ok_look_at_if hk A.FI F_look_at_parts F_look_at_statements, A.FI.kp, A.bI⟩
  · exact ⟨dW, ok_look_at_while hk A.FW F_look_at_parts F_look_at_statements, A.FW.kp, A.bW⟩
  · exact ⟨dK, ok_look_at_known hk A.FK TT F_look_at_parts, A.FK.kp, A.bK⟩
  · exact ⟨dG, ok_look_at_give hk A.FG LT F_look_at_parts, A.FG.kp, A.bG⟩
  · exact ⟨dF, ok_look_at_fail hk A.FF F_want F_is_of_language, A.FF.kp, A.bF⟩
  · exact ⟨dD, ok_look_at_do hk A.FD F_kind_looked, A.FD.kp, A.bD⟩
theorem stats_all (A : Acts K fL fI fW fK fG fF fD dL dI dW dK dG dF dD) (LT : LookT K C) (T : Txt0 K mg t1 t2 t3 t4) (TT : TxT K w mg aT aU) (TS : TxS K w mg aS aL fL fI fW fK fG fF fD) (F_want : FnB1 P w K mg base 1 "want" ["so", "why"] (spWant cR)) (F_is_name : FnB P w K mg base 2 "is_name" ["thing"] spName) (F_is_of_language : FnB P w K mg base 2 "is_of_language" ["thing"] spIsL)
    (F_kind_looked : FnB1 P w K mg base 3 "kind_looked" ["look", "e", "kinds"] (spKL C cR)) (F_look_at_parts : FnB1 P w K mg base 4 "look_at_parts" ["look", "parts", "wanted", "kinds"] (spLP K C cR))
    (FS : Fun K "look_at_statements" "look_at_statements" sLookAtStatements fS dS) (mS : mg "look_at_statements" = some (.ref fS)) (bS : Binds K dS ["look", "statements", "around"] []) : ∀ n, FnB1 P w K mg base (6 + 2 * n) "look_at_statements" ["look", "statements", "around"] (spS n C cR)
  | 0 => ⟨fS, dS, ok_look_at_statements (k := 5) (by decide) FS T TS F_want (fam_zero A), mS, FS.kp, bS⟩
  | n + 1 => ⟨fS, dS, ok_look_at_statements (k := 6 + 2 * n + 1) (by omega) FS T TS F_want (fam_succ (k := 6 + 2 * n) (by omega) A LT TT F_want F_is_name F_is_of_language F_kind_looked F_look_at_parts (stats_all A LT T TT TS F_want F_is_name F_is_of_language F_kind_looked F_look_at_parts FS mS bS n)), mS, FS.kp, bS⟩
/-- tables of the module, from what the top has written -/
theorem tab_takes {es : Array DictEntry} {n : Nat} (l : K.lookup aT = some ⟨.type "dict", none, .dict es n, #[]⟩) (k : PySem.W.KeysLit w.params es.toList) (o : (aT == sysModules) = false) (u : PySem.W.nsIn K aT "out" = some (some (.ref aU))) : KTab K w aT [("out", .ref aU)] := by
  refine ⟨⟨es, n, l, k⟩, o, fun x v m => ?_⟩
  simp only [List.mem_cons, Prod.mk.injEq, List.not_mem_nil, or_false] at m
  obtain ⟨rfl, rfl⟩ := m
  exact ⟨_, rfl, u⟩
theorem tab_acts {es : Array DictEntry} {n : Nat} (l : K.lookup aS = some ⟨.type "dict", none, .dict es n, #[]⟩) (k : PySem.W.KeysLit w.params es.toList) (o : (aS == sysModules) = false) (u1 : PySem.W.nsIn K aS "let" = some (some (.ref fL))) (u2 : PySem.W.nsIn K aS "if" = some (some (.ref fI))) (u3 : PySem.W.nsIn K aS "while" = some (some (.ref fW)))
    (u4 : PySem.W.nsIn K aS "out" = some (some (.ref fK))) (u5 : PySem.W.nsIn K aS "give" = some (some (.ref fG))) (u6 : PySem.W.nsIn K aS "fail" = some (some (.ref fF))) (u7 : PySem.W.nsIn K aS "do" = some (some (.ref fD))) : KTab K w aS (acts fL fI fW fK fG fF fD) := by
  refine ⟨⟨es, n, l, k⟩, o, fun x v m => ?_⟩
  simp only [acts, List.mem_cons, Prod.mk.injEq, List.not_mem_nil, or_false] at m
  rcases m with ⟨rfl, rfl⟩ | ⟨rfl, rfl⟩ | ⟨rfl, rfl⟩ | ⟨rfl, rfl⟩ | ⟨rfl, rfl⟩ | ⟨rfl, rfl⟩ | ⟨rfl, rfl⟩
  · exact ⟨_, rfl, u1⟩
  · exact ⟨_, rfl, u2⟩
  · exact ⟨_, rfl, u3⟩
  · exact ⟨_, rfl, u4⟩
  · exact ⟨_, rfl, u5⟩
  · exact ⟨_, rfl, u6⟩
  · exact ⟨_, rfl, u7⟩
theorem tab_lens {es : Array DictEntry} {n : Nat} {s1 s2 s3 s4 s5 s6 s7 : Tok} (l : K.lookup aL = some ⟨.type "dict", none, .dict es n, #[]⟩) (k : PySem.W.KeysLit w.params es.toList) (o : (aL == sysModules) = false) (u1 : PySem.W.nsIn K aL "let" = some (some (.int 3 s1))) (u2 : PySem.W.nsIn K aL "if" = some (some (.int 4 s2))) (u3 : PySem.W.nsIn K aL "while" = some (some (.int 3 s3)))
    (u4 : PySem.W.nsIn K aL "out" = some (some (.int 2 s4))) (u5 : PySem.W.nsIn K aL "give" = some (some (.int 2 s5))) (u6 : PySem.W.nsIn K aL "fail" = some (some (.int 2 s6))) (u7 : PySem.W.nsIn K aL "do" = some (some (.int 2 s7))) : KTab K w aL lens := by
  refine ⟨⟨es, n, l, k⟩, o, fun x v m => ?_⟩
  simp only [lens, List.mem_cons, Prod.mk.injEq, List.not_mem_nil, or_false] at m
  rcases m with ⟨rfl, rfl⟩ | ⟨rfl, rfl⟩ | ⟨rfl, rfl⟩ | ⟨rfl, rfl⟩ | ⟨rfl, rfl⟩ | ⟨rfl, rfl⟩ | ⟨rfl, rfl⟩
  · exact ⟨_, ⟨_, rfl⟩, u1⟩
  · exact ⟨_, ⟨_, rfl⟩, u2⟩
  · exact ⟨_, ⟨_, rfl⟩, u3⟩
  · exact ⟨_, ⟨_, rfl⟩, u4⟩
  · exact ⟨_, ⟨_, rfl⟩, u5⟩
  · exact ⟨_, ⟨_, rfl⟩, u6⟩
  · exact ⟨_, ⟨_, rfl⟩, u7⟩
theorem tup_top {a : Addr} {xs : List V} {dd : Option Addr} {its : Array Value} {n : Nat} {sl : Array (Option Value)} (l : K.lookup a = some ⟨.type "tuple", dd, .seq its n, sl⟩) (z : its.size ≤ 1000) (v : Vals xs its.toList) : ∀ H, SqT K H a xs :=
  fun H => .inr ⟨_, its, n, l, rfl, rfl, Nat.le_trans z (by decide), v⟩
end
end K08

namespace K08
open PySem PySem.Spec PyProof.Rows L2
set_option maxHeartbeats 4000000 in
theorem all_mk {l : PySem.W.OpenLaw} {w : World} {K : PySem.W.Frag} {h : Heap} {mg : Str → Option Value} {fa f0 f1 f2 f3 f4 f5 f6 f7 f8 f9 f10 f11 f12 f13 f14 f15 f16 f17 f18 f19 f20 f21 f22 f23 f24 f25 f26 f27 f28 f29 f30 f31 f32 f33 : Addr} (X : K.In h) (G : h.Ns mainGlobals mg) (hfa : mg "law" = some (.ref fa))
    {od0 an0 od1 an1 od2 an2 od3 an3 od4 an4 od5 an5 od6 an6 od7 an7 od8 an8 od9 an9 od10 an10 od11 an11 od12 an12 od13 an13 od14 an14 od15 an15 od16 an16 od17 an17 od18 an18 od19 an19 od20 an20 od21 an21 od22 an22 od23 an23 od24 an24 od25 an25 od26 an26 od27 an27 od28 an28 od29 an29 od30 an30 od31 an31 od32 an32 od33 an33 odi ani dO dU : Option Addr} {sl0 sl1 sl2 sl3 sl4 sl5 sl6 sl7 sl8 sl9 sl10 sl11 sl12 sl13 sl14 sl15 sl16 sl17 sl18 sl19 sl20 sl21 sl22 sl23 sl24 sl25 sl26 sl27 sl28 sl29 sl30 sl31 sl32 sl33 sli sO sU : Array (Option Value)} {oc0 kV0 dc0 pm0 cd0 ct0 oc1 kV1 dc1 pm1 cd1 ct1 oc2 kV2 dc2 pm2 cd2 ct2 oc3 kV3 dc3 pm3 cd3 ct3 oc4 kV4 dc4 pm4 cd4 ct4 oc5 kV5 dc5 pm5 cd5 ct5 oc6 kV6 dc6 pm6 cd6 ct6 oc7 kV7 dc7 pm7 cd7 ct7 oc8 kV8 dc8 pm8 cd8 ct8 oc9 kV9 dc9 pm9 cd9 ct9 oc10 kV10 dc10 pm10 cd10 ct10 oc11 kV11 dc11 pm11 cd11 ct11 oc12 kV12 dc12 pm12 cd12 ct12 oc13 kV13 dc13 pm13 cd13 ct13 oc14 kV14 dc14 pm14 cd14 ct14 oc15 kV15 dc15 pm15 cd15 ct15 oc16 kV16 dc16 pm16 cd16 ct16 oc17 kV17 dc17 pm17 cd17 ct17 oc18 kV18 dc18 pm18 cd18 ct18 oc19 kV19 dc19 pm19 cd19 ct19 oc20 kV20 dc20 pm20 cd20 ct20 oc21 kV21 dc21 pm21 cd21 ct21 oc22 kV22 dc22 pm22 cd22 ct22 oc23 kV23 dc23 pm23 cd23 ct23 oc24 kV24 dc24 pm24 cd24 ct24 oc25 kV25 dc25 pm25 cd25 ct25 oc26 kV26 dc26 pm26 cd26 ct26 oc27 kV27 dc27 pm27 cd27 ct27 oc28 kV28 dc28 pm28 cd28 ct28 oc29 kV29 dc29 pm29 cd29 ct29 oc30 kV30 dc30 pm30 cd30 ct30 oc31 kV31 dc31 pm31 cd31 ct31 oc32 kV32 dc32 pm32 cd32 ct32 oc33 kV33 dc33 pm33 cd33 ct33 oci kVi dci pmi cdi cti : Value} {t0 t1 t2 t3 s0 s1 s2 s3 s4 s5 s6 : Tok} {cP cT cR cM cA cS C fi aO aT aU aS aL : Addr} {iO iU : Array Value} {eT eS eL : Array DictEntry} {nO nU nT nS nL : Nat}
    (a0 : PySem.W.nsIn K mainGlobals "want" = some (some (.ref f0))) (l0 : K.lookup f0 = some ⟨oc0, od0, .func (PySem.W.fnOf "want" "want" (defArgs sWant) (defBody sWant) (defScope sWant) .none kV0 dc0 pm0 an0 cd0 ct0), sl0⟩) (c0 : PySem.W.codeIn K cd0 "want" = true) (k0 : PySem.W.keepIn K (.ref f0) = true)
    (a1 : PySem.W.nsIn K mainGlobals "is_number" = some (some (.ref f1))) (l1 : K.lookup f1 = some ⟨oc1, od1, .func (PySem.W.fnOf "is_number" "is_number" (defArgs sIsNumber) (defBody sIsNumber) (defScope sIsNumber) .none kV1 dc1 pm1 an1 cd1 ct1), sl1⟩) (c1 : PySem.W.codeIn K cd1 "is_number" = true) (k1 : PySem.W.keepIn K (.ref f1) = true)
    (a2 : PySem.W.nsIn K mainGlobals "is_of_language" = some (some (.ref f2))) (l2 : K.lookup f2 = some ⟨oc2, od2, .func (PySem.W.fnOf "is_of_language" "is_of_language" (defArgs sIsOfLanguage) (defBody sIsOfLanguage) (defScope sIsOfLanguage) .none kV2 dc2 pm2 an2 cd2 ct2), sl2⟩) (c2 : PySem.W.codeIn K cd2 "is_of_language" = true) (k2 : PySem.W.keepIn K (.ref f2) = true)
    (a3 : PySem.W.nsIn K mainGlobals "is_word" = some (some (.ref f3))) (l3 : K.lookup f3 = some ⟨oc3, od3, .func (PySem.W.fnOf "is_word" "is_word" (defArgs sIsWord) (defBody sIsWord) (defScope sIsWord) .none kV3 dc3 pm3 an3 cd3 ct3), sl3⟩) (c3 : PySem.W.codeIn K cd3 "is_word" = true) (k3 : PySem.W.keepIn K (.ref f3) = true)
    (a4 : PySem.W.nsIn K mainGlobals "is_name" = some (some (.ref f4))) (l4 : K.lookup f4 = some ⟨oc4, od4, .func (PySem.W.fnOf "is_name" "is_name" (defArgs sIsName) (defBody sIsName) (defScope sIsName) .none kV4 dc4 pm4 an4 cd4 ct4), sl4⟩) (c4 : PySem.W.codeIn K cd4 "is_name" = true) (k4 : PySem.W.keepIn K (.ref f4) = true)
    (a5 : PySem.W.nsIn K mainGlobals "is_headed" = some (some (.ref f5))) (l5 : K.lookup f5 = some ⟨oc5, od5, .func (PySem.W.fnOf "is_headed" "is_headed" (defArgs sIsHeaded) (defBody sIsHeaded) (defScope sIsHeaded) .none kV5 dc5 pm5 an5 cd5 ct5), sl5⟩) (c5 : PySem.W.codeIn K cd5 "is_headed" = true) (k5 : PySem.W.keepIn K (.ref f5) = true)
    (a6 : PySem.W.nsIn K mainGlobals "first_again" = some (some (.ref f6))) (l6 : K.lookup f6 = some ⟨oc6, od6, .func (PySem.W.fnOf "first_again" "first_again" (defArgs sFirstAgain) (defBody sFirstAgain) (defScope sFirstAgain) .none kV6 dc6 pm6 an6 cd6 ct6), sl6⟩) (c6 : PySem.W.codeIn K cd6 "first_again" = true) (k6 : PySem.W.keepIn K (.ref f6) = true)
    (a7 : PySem.W.nsIn K mainGlobals "all_unlike" = some (some (.ref f7))) (l7 : K.lookup f7 = some ⟨oc7, od7, .func (PySem.W.fnOf "all_unlike" "all_unlike" (defArgs sAllUnlike) (defBody sAllUnlike) (defScope sAllUnlike) .none kV7 dc7 pm7 an7 cd7 ct7), sl7⟩) (c7 : PySem.W.codeIn K cd7 "all_unlike" = true) (k7 : PySem.W.keepIn K (.ref f7) = true)
    (a8 : PySem.W.nsIn K mainGlobals "look_at_record" = some (some (.ref f8))) (l8 : K.lookup f8 = some ⟨oc8, od8, .func (PySem.W.fnOf "look_at_record" "look_at_record" (defArgs sLookAtRecord) (defBody sLookAtRecord) (defScope sLookAtRecord) .none kV8 dc8 pm8 an8 cd8 ct8), sl8⟩) (c8 : PySem.W.codeIn K cd8 "look_at_record" = true) (k8 : PySem.W.keepIn K (.ref f8) = true)
    (a9 : PySem.W.nsIn K mainGlobals "is_kind" = some (some (.ref f9))) (l9 : K.lookup f9 = some ⟨oc9, od9, .func (PySem.W.fnOf "is_kind" "is_kind" (defArgs sIsKind) (defBody sIsKind) (defScope sIsKind) .none kV9 dc9 pm9 an9 cd9 ct9), sl9⟩) (c9 : PySem.W.codeIn K cd9 "is_kind" = true) (k9 : PySem.W.keepIn K (.ref f9) = true)
    (a10 : PySem.W.nsIn K mainGlobals "look_at_head" = some (some (.ref f10))) (l10 : K.lookup f10 = some ⟨oc10, od10, .func (PySem.W.fnOf "look_at_head" "look_at_head" (defArgs sLookAtHead) (defBody sLookAtHead) (defScope sLookAtHead) .none kV10 dc10 pm10 an10 cd10 ct10), sl10⟩) (c10 : PySem.W.codeIn K cd10 "look_at_head" = true) (k10 : PySem.W.keepIn K (.ref f10) = true)
    (a11 : PySem.W.nsIn K mainGlobals "look_at_main" = some (some (.ref f11))) (l11 : K.lookup f11 = some ⟨oc11, od11, .func (PySem.W.fnOf "look_at_main" "look_at_main" (defArgs sLookAtMain) (defBody sLookAtMain) (defScope sLookAtMain) .none kV11 dc11 pm11 an11 cd11 ct11), sl11⟩) (c11 : PySem.W.codeIn K cd11 "look_at_main" = true) (k11 : PySem.W.keepIn K (.ref f11) = true)
    (a12 : PySem.W.nsIn K mainGlobals "kind_of_parts" = some (some (.ref f12))) (l12 : K.lookup f12 = some ⟨oc12, od12, .func (PySem.W.fnOf "kind_of_parts" "kind_of_parts" (defArgs sKindOfParts) (defBody sKindOfParts) (defScope sKindOfParts) .none kV12 dc12 pm12 an12 cd12 ct12), sl12⟩) (c12 : PySem.W.codeIn K cd12 "kind_of_parts" = true) (k12 : PySem.W.keepIn K (.ref f12) = true)
    (a13 : PySem.W.nsIn K mainGlobals "kind_looked" = some (some (.ref f13))) (l13 : K.lookup f13 = some ⟨oc13, od13, .func (PySem.W.fnOf "kind_looked" "kind_looked" (defArgs sKindLooked) (defBody sKindLooked) (defScope sKindLooked) .none kV13 dc13 pm13 an13 cd13 ct13), sl13⟩) (c13 : PySem.W.codeIn K cd13 "kind_looked" = true) (k13 : PySem.W.keepIn K (.ref f13) = true)
    (a14 : PySem.W.nsIn K mainGlobals "look_at_parts" = some (some (.ref f14))) (l14 : K.lookup f14 = some ⟨oc14, od14, .func (PySem.W.fnOf "look_at_parts" "look_at_parts" (defArgs sLookAtParts) (defBody sLookAtParts) (defScope sLookAtParts) .none kV14 dc14 pm14 an14 cd14 ct14), sl14⟩) (c14 : PySem.W.codeIn K cd14 "look_at_parts" = true) (k14 : PySem.W.keepIn K (.ref f14) = true)
    (a15 : PySem.W.nsIn K mainGlobals "look_at_let" = some (some (.ref f15))) (l15 : K.lookup f15 = some ⟨oc15, od15, .func (PySem.W.fnOf "look_at_let" "look_at_let" (defArgs sLookAtLet) (defBody sLookAtLet) (defScope sLookAtLet) .none kV15 dc15 pm15 an15 cd15 ct15), sl15⟩) (c15 : PySem.W.codeIn K cd15 "look_at_let" = true) (k15 : PySem.W.keepIn K (.ref f15) = true)
    (a16 : PySem.W.nsIn K mainGlobals "look_at_if" = some (some (.ref f16))) (l16 : K.lookup f16 = some ⟨oc16, od16, .func (PySem.W.fnOf "look_at_if" "look_at_if" (defArgs sLookAtIf) (defBody sLookAtIf) (defScope sLookAtIf) .none kV16 dc16 pm16 an16 cd16 ct16), sl16⟩) (c16 : PySem.W.codeIn K cd16 "look_at_if" = true) (k16 : PySem.W.keepIn K (.ref f16) = true)
    (a17 : PySem.W.nsIn K mainGlobals "look_at_while" = some (some (.ref f17))) (l17 : K.lookup f17 = some ⟨oc17, od17, .func (PySem.W.fnOf "look_at_while" "look_at_while" (defArgs sLookAtWhile) (defBody sLookAtWhile) (defScope sLookAtWhile) .none kV17 dc17 pm17 an17 cd17 ct17), sl17⟩) (c17 : PySem.W.codeIn K cd17 "look_at_while" = true) (k17 : PySem.W.keepIn K (.ref f17) = true)
    (a18 : PySem.W.nsIn K mainGlobals "look_at_known" = some (some (.ref f18))) (l18 : K.lookup f18 = some ⟨oc18, od18, .func (PySem.W.fnOf "look_at_known" "look_at_known" (defArgs sLookAtKnown) (defBody sLookAtKnown) (defScope sLookAtKnown) .none kV18 dc18 pm18 an18 cd18 ct18), sl18⟩) (c18 : PySem.W.codeIn K cd18 "look_at_known" = true) (k18 : PySem.W.keepIn K (.ref f18) = true)
    (a19 : PySem.W.nsIn K mainGlobals "look_at_give" = some (some (.ref f19))) (l19 : K.lookup f19 = some ⟨oc19, od19, .func (PySem.W.fnOf "look_at_give" "look_at_give" (defArgs sLookAtGive) (defBody sLookAtGive) (defScope sLookAtGive) .none kV19 dc19 pm19 an19 cd19 ct19), sl19⟩) (c19 : PySem.W.codeIn K cd19 "look_at_give" = true) (k19 : PySem.W.keepIn K (.ref f19) = true)
    (a20 : PySem.W.nsIn K mainGlobals "look_at_fail" = some (some (.ref f20))) (l20 : K.lookup f20 = some ⟨oc20, od20, .func (PySem.W.fnOf "look_at_fail" "look_at_fail" (defArgs sLookAtFail) (defBody sLookAtFail) (defScope sLookAtFail) .none kV20 dc20 pm20 an20 cd20 ct20), sl20⟩) (c20 : PySem.W.codeIn K cd20 "look_at_fail" = true) (k20 : PySem.W.keepIn K (.ref f20) = true)
    (a21 : PySem.W.nsIn K mainGlobals "look_at_do" = some (some (.ref f21))) (l21 : K.lookup f21 = some ⟨oc21, od21, .func (PySem.W.fnOf "look_at_do" "look_at_do" (defArgs sLookAtDo) (defBody sLookAtDo) (defScope sLookAtDo) .none kV21 dc21 pm21 an21 cd21 ct21), sl21⟩) (c21 : PySem.W.codeIn K cd21 "look_at_do" = true) (k21 : PySem.W.keepIn K (.ref f21) = true)
    (a22 : PySem.W.nsIn K mainGlobals "look_at_statements" = some (some (.ref f22))) (l22 : K.lookup f22 = some ⟨oc22, od22, .func (PySem.W.fnOf "look_at_statements" "look_at_statements" (defArgs sLookAtStatements) (defBody sLookAtStatements) (defScope sLookAtStatements) .none kV22 dc22 pm22 an22 cd22 ct22), sl22⟩) (c22 : PySem.W.codeIn K cd22 "look_at_statements" = true) (k22 : PySem.W.keepIn K (.ref f22) = true)
    (a23 : PySem.W.nsIn K mainGlobals "look_at_body" = some (some (.ref f23))) (l23 : K.lookup f23 = some ⟨oc23, od23, .func (PySem.W.fnOf "look_at_body" "look_at_body" (defArgs sLookAtBody) (defBody sLookAtBody) (defScope sLookAtBody) .none kV23 dc23 pm23 an23 cd23 ct23), sl23⟩) (c23 : PySem.W.codeIn K cd23 "look_at_body" = true) (k23 : PySem.W.keepIn K (.ref f23) = true)
    (a24 : PySem.W.nsIn K mainGlobals "look_at_tree" = some (some (.ref f24))) (l24 : K.lookup f24 = some ⟨oc24, od24, .func (PySem.W.fnOf "look_at_tree" "look_at_tree" (defArgs sLookAtTree) (defBody sLookAtTree) (defScope sLookAtTree) .none kV24 dc24 pm24 an24 cd24 ct24), sl24⟩) (c24 : PySem.W.codeIn K cd24 "look_at_tree" = true) (k24 : PySem.W.keepIn K (.ref f24) = true)
    (a25 : PySem.W.nsIn K mainGlobals "_law_cell" = some (some (.ref f25))) (l25 : K.lookup f25 = some ⟨oc25, od25, .func (PySem.W.fnOf "_law_cell" "_law_cell" (defArgs sLawCell) (defBody sLawCell) (defScope sLawCell) .none kV25 dc25 pm25 an25 cd25 ct25), sl25⟩) (c25 : PySem.W.codeIn K cd25 "_law_cell" = true) (k25 : PySem.W.keepIn K (.ref f25) = true)
    (a26 : PySem.W.nsIn K mainGlobals "_law_kinds" = some (some (.ref f26))) (l26 : K.lookup f26 = some ⟨oc26, od26, .func (PySem.W.fnOf "_law_kinds" "_law_kinds" (defArgs sLawKinds) (defBody sLawKinds) (defScope sLawKinds) .none kV26 dc26 pm26 an26 cd26 ct26), sl26⟩) (c26 : PySem.W.codeIn K cd26 "_law_kinds" = true) (k26 : PySem.W.keepIn K (.ref f26) = true)
    (a27 : PySem.W.nsIn K mainGlobals "_law_refused" = some (some (.ref f27))) (l27 : K.lookup f27 = some ⟨oc27, od27, .func (PySem.W.fnOf "_law_refused" "_law_refused" (defArgs sLawRefused) (defBody sLawRefused) (defScope sLawRefused) .none kV27 dc27 pm27 an27 cd27 ct27), sl27⟩) (c27 : PySem.W.codeIn K cd27 "_law_refused" = true) (k27 : PySem.W.keepIn K (.ref f27) = true)
    (a28 : PySem.W.nsIn K mainGlobals "_law_records" = some (some (.ref f28))) (l28 : K.lookup f28 = some ⟨oc28, od28, .func (PySem.W.fnOf "_law_records" "_law_records" (defArgs sLawRecords) (defBody sLawRecords) (defScope sLawRecords) .none kV28 dc28 pm28 an28 cd28 ct28), sl28⟩) (c28 : PySem.W.codeIn K cd28 "_law_records" = true) (k28 : PySem.W.keepIn K (.ref f28) = true)
    (a29 : PySem.W.nsIn K mainGlobals "_law_functions" = some (some (.ref f29))) (l29 : K.lookup f29 = some ⟨oc29, od29, .func (PySem.W.fnOf "_law_functions" "_law_functions" (defArgs sLawFunctions) (defBody sLawFunctions) (defScope sLawFunctions) .none kV29 dc29 pm29 an29 cd29 ct29), sl29⟩) (c29 : PySem.W.codeIn K cd29 "_law_functions" = true) (k29 : PySem.W.keepIn K (.ref f29) = true)
    (a30 : PySem.W.nsIn K mainGlobals "_law_ends" = some (some (.ref f30))) (l30 : K.lookup f30 = some ⟨oc30, od30, .func (PySem.W.fnOf "_law_ends" "_law_ends" (defArgs sLawEnds) (defBody sLawEnds) (defScope sLawEnds) .none kV30 dc30 pm30 an30 cd30 ct30), sl30⟩) (c30 : PySem.W.codeIn K cd30 "_law_ends" = true) (k30 : PySem.W.keepIn K (.ref f30) = true)
    (a31 : PySem.W.nsIn K mainGlobals "_law_mains" = some (some (.ref f31))) (l31 : K.lookup f31 = some ⟨oc31, od31, .func (PySem.W.fnOf "_law_mains" "_law_mains" (defArgs sLawMains) (defBody sLawMains) (defScope sLawMains) .none kV31 dc31 pm31 an31 cd31 ct31), sl31⟩) (c31 : PySem.W.codeIn K cd31 "_law_mains" = true) (k31 : PySem.W.keepIn K (.ref f31) = true)
    (a32 : PySem.W.nsIn K mainGlobals "_law_tree" = some (some (.ref f32))) (l32 : K.lookup f32 = some ⟨oc32, od32, .func (PySem.W.fnOf "_law_tree" "_law_tree" (defArgs sLawTree) (defBody sLawTree) (defScope sLawTree) .none kV32 dc32 pm32 an32 cd32 ct32), sl32⟩) (c32 : PySem.W.codeIn K cd32 "_law_tree" = true) (k32 : PySem.W.keepIn K (.ref f32) = true)
    (a33 : PySem.W.nsIn K mainGlobals "law" = some (some (.ref f33))) (l33 : K.lookup f33 = some ⟨oc33, od33, .func (PySem.W.fnOf "law" "law" (defArgs sLaw) (defBody sLaw) (defScope sLaw) .none kV33 dc33 pm33 an33 cd33 ct33), sl33⟩) (c33 : PySem.W.codeIn K cd33 "law" = true) (k33 : PySem.W.keepIn K (.ref f33) = true)
    (i0 : PySem.W.nsIn K mainGlobals "LEAST" = some (some (.int (-32768) t0)))
    (i1 : PySem.W.nsIn K mainGlobals "MOST" = some (some (.int (32767) t1)))
    (i2 : PySem.W.nsIn K mainGlobals "MOST_FIELDS" = some (some (.int (4) t2)))
    (i3 : PySem.W.nsIn K mainGlobals "MOST_VARIABLES" = some (some (.int (4) t3)))
    (z0 : PySem.W.nsIn K mainGlobals "len" = some none)
    (z1 : PySem.W.nsIn K mainGlobals "isinstance" = some none)
    (z2 : PySem.W.nsIn K mainGlobals "int" = some none)
    (z3 : PySem.W.nsIn K mainGlobals "bool" = some none)
    (z4 : PySem.W.nsIn K mainGlobals "str" = some none)
    (z5 : PySem.W.nsIn K mainGlobals "tuple" = some none)
    (z6 : PySem.W.nsIn K mainGlobals "all" = some none)
    (z7 : PySem.W.nsIn K mainGlobals "enumerate" = some none)
    (z8 : PySem.W.nsIn K mainGlobals "dict" = some none)
    (z9 : PySem.W.nsIn K mainGlobals "zip" = some none)
    (z10 : PySem.W.nsIn K mainGlobals "ValueError" = some none)
    (ncP : PySem.W.nsIn K mainGlobals "PassError" = some (some (.ref cP)))
    (ncT : PySem.W.nsIn K mainGlobals "NoText" = some (some (.ref cT)))
    (ncR : PySem.W.nsIn K mainGlobals "NoTree" = some (some (.ref cR)))
    (ncM : PySem.W.nsIn K mainGlobals "NoMiddle" = some (some (.ref cM)))
    (ncA : PySem.W.nsIn K mainGlobals "NoMachine" = some (some (.ref cA)))
    (ncS : PySem.W.nsIn K mainGlobals "NoPass" = some (some (.ref cS)))
    (nC : PySem.W.nsIn K mainGlobals "Look" = some (some (.ref C)))
    (xex : PySem.W.excIn K cR [.type "ValueError", .type "Exception", .type "BaseException", .type "object"] "ValueError.__new__" = true)
    (xga : PySem.W.findIn K (.ref cR) "__getattribute__" = some (some (.builtin "BaseException.__getattribute__")))
    (xgt : PySem.W.findIn K (.ref cR) "__getattr__" = some none)
    (xcl : PySem.W.findIn K (.ref cR) "__class__" = some (some (.builtin "object.__class__")))
    (xsb : PySem.W.subIn K (.ref cR) (.type "BaseException") = some true)
    (xob : PySem.W.subIn K (.ref cR) (.type "object") = some true)
    (xis : PySem.W.isClsIn K cR = true)
    (xmt : PySem.W.exmOne K (.ref cR) (.ref cP) = some true)
    (xi3 : PySem.W.kitAny K (.ref cR) [.ref cA, .ref cM, .ref cS] = some false)
    (xiT : PySem.W.kitOne K (.ref cR) (.ref cT) = some false)
    (xiR : PySem.W.kitOne K (.ref cR) (.ref cR) = some true)
    (xiV : PySem.W.kitOne K (.ref cR) (.type "ValueError") = some true)
    (ypg : PySem.W.plainGet K C Str.empty = true)
    (yhd : PySem.W.hasDictIn K C = true)
    (ypo : PySem.W.plainOver K C = true)
    (ysa : PySem.W.findIn K (.ref C) "__setattr__" = some (some (.builtin "object.__setattr__")))
    (yn1 : PySem.W.findIn K (.ref C) "records" = some none)
    (yn2 : PySem.W.findIn K (.ref C) "functions" = some none)
    (yn3 : PySem.W.findIn K (.ref C) "gives" = some none)
    (yn4 : PySem.W.findIn K (.ref C) "known" = some none)
    (ymk : PySem.W.makesIn K C = true)
    (yin : PySem.W.findIn K (.ref C) "__init__" = some (some (.ref fi)))
    (yfn : PySem.W.isFn K (.ref fi) = true)
    (ykp : PySem.W.keepIn K (.ref C) = true)
    (ylk : K.lookup fi = some ⟨oci, odi, .func (PySem.W.fnOf "__init__" "Look.__init__" (defArgs sLookInit) (defBody sLookInit) (defScope sLookInit) .none kVi dci pmi ani cdi cti), sli⟩)
    (yco : PySem.W.codeIn K cdi "Look.__init__" = true)
    (yki : PySem.W.keepIn K (.ref fi) = true)
    (gO : PySem.W.nsIn K mainGlobals "OWN_KINDS" = some (some (.ref aO)))
    (lO : K.lookup aO = some ⟨.type "tuple", dO, .seq iO nO, sO⟩)
    (wO : iO.size ≤ 1000)
    (vO : Vals [.str "number", .str "truth", .str "list"] iO.toList)
    (gT : PySem.W.nsIn K mainGlobals "TAKES" = some (some (.ref aT)))
    (lT : K.lookup aT = some ⟨.type "dict", none, .dict eT nT, #[]⟩)
    (kT : PySem.W.KeysLit w.params eT.toList)
    (oT : (aT == sysModules) = false)
    (uT : PySem.W.nsIn K aT "out" = some (some (.ref aU)))
    (lU : K.lookup aU = some ⟨.type "tuple", dU, .seq iU nU, sU⟩)
    (wU : iU.size ≤ 1000)
    (vU : Vals [.str "number"] iU.toList)
    (gS : PySem.W.nsIn K mainGlobals "STATEMENTS" = some (some (.ref aS)))
    (lS : K.lookup aS = some ⟨.type "dict", none, .dict eS nS, #[]⟩)
    (kS : PySem.W.KeysLit w.params eS.toList)
    (oS : (aS == sysModules) = false)
    (p0 : PySem.W.nsIn K aS "let" = some (some (.ref f15)))
    (p1 : PySem.W.nsIn K aS "if" = some (some (.ref f16)))
    (p2 : PySem.W.nsIn K aS "while" = some (some (.ref f17)))
    (p3 : PySem.W.nsIn K aS "out" = some (some (.ref f18)))
    (p4 : PySem.W.nsIn K aS "give" = some (some (.ref f19)))
    (p5 : PySem.W.nsIn K aS "fail" = some (some (.ref f20)))
    (p6 : PySem.W.nsIn K aS "do" = some (some (.ref f21)))
    (gL : PySem.W.nsIn K mainGlobals "LENGTHS" = some (some (.ref aL)))
    (lL : K.lookup aL = some ⟨.type "dict", none, .dict eL nL, #[]⟩)
    (kL : PySem.W.KeysLit w.params eL.toList)
    (oL : (aL == sysModules) = false)
    (q0 : PySem.W.nsIn K aL "let" = some (some (.int 3 s0)))
    (q1 : PySem.W.nsIn K aL "if" = some (some (.int 4 s1)))
    (q2 : PySem.W.nsIn K aL "while" = some (some (.int 3 s2)))
    (q3 : PySem.W.nsIn K aL "out" = some (some (.int 2 s3)))
    (q4 : PySem.W.nsIn K aL "give" = some (some (.int 2 s4)))
    (q5 : PySem.W.nsIn K aL "fail" = some (some (.int 2 s5)))
    (q6 : PySem.W.nsIn K aL "do" = some (some (.int 2 s6)))
    : ∃ fd : FuncData, (∀ (s : Shared) (v : Value), BindsTo s fd ⟨[v], []⟩ [("_law_script", v)]) ∧ ∀ base : Heap, K.In base → base.Ns mainGlobals mg → FnOk l.prog w K mg base CX0 20 fa fd ["_law_script"] (spLaw K) := by
  have e := hfa.symm.trans (PySem.W.mg_of X G a33)
  cases e
  have T : Txt0 K mg t0 t1 t2 t3 := ⟨PySem.W.mg_of X G i0, PySem.W.mg_of X G i1, PySem.W.mg_of X G i2, PySem.W.mg_of X G i3, PySem.W.mg_none_of X G z0, PySem.W.mg_none_of X G z1, PySem.W.mg_none_of X G z2, PySem.W.mg_none_of X G z3, PySem.W.mg_none_of X G z4, PySem.W.mg_none_of X G z5, PySem.W.mg_none_of X G z6, PySem.W.mg_none_of X G z7, PySem.W.mg_none_of X G z8, PySem.W.mg_none_of X G z9, PySem.W.mg_none_of X G z10⟩
  have TX : TxX K mg cP cT cR cM cA cS := ⟨PySem.W.mg_of X G ncP, PySem.W.mg_of X G ncT, PySem.W.mg_of X G ncR, PySem.W.mg_of X G ncM, PySem.W.mg_of X G ncA, PySem.W.mg_of X G ncS, xex, ⟨xga, xgt, xcl, xsb, xob, xis⟩, xmt, xi3, xiT, xiR, xiV⟩
  have TK : TxK K mg aO := ⟨PySem.W.mg_of X G gO, tup_top lO wO vO⟩
  have LT : LookT K C := ⟨⟨ypg, yhd, ypo, ysa⟩, yn1, yn2, yn3, yn4⟩
  have TT : TxT K w mg aT aU := ⟨PySem.W.mg_of X G gT, tab_takes lT kT oT uT, tup_top lU wU vU⟩
  have TS : TxS K w mg aS aL f15 f16 f17 f18 f19 f20 f21 := ⟨PySem.W.mg_of X G gS, PySem.W.mg_of X G gL, tab_acts lS kS oS p0 p1 p2 p3 p4 p5 p6, tab_lens lL kL oL q0 q1 q2 q3 q4 q5 q6⟩
  have F0 := fun_mk (st := sWant) l0 c0 k0
  have b0 := F0.binds (ps := ["so", "why"]) fun _ _ _ _ _ _ us hl => match us, hl with | [_, _], _ => rfl
  have F1 := fun_mk (st := sIsNumber) l1 c1 k1
  have b1 := F1.binds (ps := ["thing"]) fun _ _ _ _ _ _ us hl => match us, hl with | [_], _ => rfl
  have F2 := fun_mk (st := sIsOfLanguage) l2 c2 k2
  have b2 := F2.binds (ps := ["thing"]) fun _ _ _ _ _ _ us hl => match us, hl with | [_], _ => rfl
  have F3 := fun_mk (st := sIsWord) l3 c3 k3
  have b3 := F3.binds (ps := ["thing"]) fun _ _ _ _ _ _ us hl => match us, hl with | [_], _ => rfl
  have F4 := fun_mk (st := sIsName) l4 c4 k4
  have b4 := F4.binds (ps := ["thing"]) fun _ _ _ _ _ _ us hl => match us, hl with | [_], _ => rfl
  have F5 := fun_mk (st := sIsHeaded) l5 c5 k5
  have b5 := F5.binds (ps := ["thing", "word"]) fun _ _ _ _ _ _ us hl => match us, hl with | [_, _], _ => rfl
  have F6 := fun_mk (st := sFirstAgain) l6 c6 k6
  have b6 := F6.binds (ps := ["things"]) fun _ _ _ _ _ _ us hl => match us, hl with | [_], _ => rfl
  have F7 := fun_mk (st := sAllUnlike) l7 c7 k7
  have b7 := F7.binds (ps := ["things"]) fun _ _ _ _ _ _ us hl => match us, hl with | [_], _ => rfl
  have F8 := fun_mk (st := sLookAtRecord) l8 c8 k8
  have b8 := F8.binds (ps := ["record"]) fun _ _ _ _ _ _ us hl => match us, hl with | [_], _ => rfl
  have F9 := fun_mk (st := sIsKind) l9 c9 k9
  have b9 := F9.binds (ps := ["thing", "records"]) fun _ _ _ _ _ _ us hl => match us, hl with | [_, _], _ => rfl
  have F10 := fun_mk (st := sLookAtHead) l10 c10 k10
  have b10 := F10.binds (ps := ["fun", "records"]) fun _ _ _ _ _ _ us hl => match us, hl with | [_, _], _ => rfl
  have F11 := fun_mk (st := sLookAtMain) l11 c11 k11
  have b11 := F11.binds (ps := ["fun"]) fun _ _ _ _ _ _ us hl => match us, hl with | [_], _ => rfl
  have F12 := fun_mk (st := sKindOfParts) l12 c12 k12
  have b12 := F12.binds (ps := ["look", "e", "kinds"]) fun _ _ _ _ _ _ us hl => match us, hl with | [_, _, _], _ => rfl
  have F13 := fun_mk (st := sKindLooked) l13 c13 k13
  have b13 := F13.binds (ps := ["look", "e", "kinds"]) fun _ _ _ _ _ _ us hl => match us, hl with | [_, _, _], _ => rfl
  have F14 := fun_mk (st := sLookAtParts) l14 c14 k14
  have b14 := F14.binds (ps := ["look", "parts", "wanted", "kinds"]) fun _ _ _ _ _ _ us hl => match us, hl with | [_, _, _, _], _ => rfl
  have F15 := fun_mk (st := sLookAtLet) l15 c15 k15
  have b15 := F15.binds (ps := ["look", "statement", "kinds"]) fun _ _ _ _ _ _ us hl => match us, hl with | [_, _, _], _ => rfl
  have F16 := fun_mk (st := sLookAtIf) l16 c16 k16
  have b16 := F16.binds (ps := ["look", "statement", "kinds"]) fun _ _ _ _ _ _ us hl => match us, hl with | [_, _, _], _ => rfl
  have F17 := fun_mk (st := sLookAtWhile) l17 c17 k17
  have b17 := F17.binds (ps := ["look", "statement", "kinds"]) fun _ _ _ _ _ _ us hl => match us, hl with | [_, _, _], _ => rfl
  have F18 := fun_mk (st := sLookAtKnown) l18 c18 k18
  have b18 := F18.binds (ps := ["look", "statement", "kinds"]) fun _ _ _ _ _ _ us hl => match us, hl with | [_, _, _], _ => rfl
  have F19 := fun_mk (st := sLookAtGive) l19 c19 k19
  have b19 := F19.binds (ps := ["look", "statement", "kinds"]) fun _ _ _ _ _ _ us hl => match us, hl with | [_, _, _], _ => rfl
  have F20 := fun_mk (st := sLookAtFail) l20 c20 k20
  have b20 := F20.binds (ps := ["look", "statement", "kinds"]) fun _ _ _ _ _ _ us hl => match us, hl with | [_, _, _], _ => rfl
  have F21 := fun_mk (st := sLookAtDo) l21 c21 k21
  have b21 := F21.binds (ps := ["look", "statement", "kinds"]) fun _ _ _ _ _ _ us hl => match us, hl with | [_, _, _], _ => rfl
  have F22 := fun_mk (st := sLookAtStatements) l22 c22 k22
  have b22 := F22.binds (ps := ["look", "statements", "around"]) fun _ _ _ _ _ _ us hl => match us, hl with | [_, _, _], _ => rfl
  have F23 := fun_mk (st := sLookAtBody) l23 c23 k23
  have b23 := F23.binds (ps := ["look", "fun"]) fun _ _ _ _ _ _ us hl => match us, hl with | [_, _], _ => rfl
  have F24 := fun_mk (st := sLookAtTree) l24 c24 k24
  have b24 := F24.binds (ps := ["thing"]) fun _ _ _ _ _ _ us hl => match us, hl with | [_], _ => rfl
  have F25 := fun_mk (st := sLawCell) l25 c25 k25
  have b25 := F25.binds (ps := ["_law_script", "_law_k"]) fun _ _ _ _ _ _ us hl => match us, hl with | [_, _], _ => rfl
  have F26 := fun_mk (st := sLawKinds) l26 c26 k26
  have b26 := F26.binds (ps := ["_law_e"]) fun _ _ _ _ _ _ us hl => match us, hl with | [_], _ => rfl
  have F27 := fun_mk (st := sLawRefused) l27 c27 k27
  have b27 := F27.binds (ps := ["_law_tree_here"]) fun _ _ _ _ _ _ us hl => match us, hl with | [_], _ => rfl
  have F28 := fun_mk (st := sLawRecords) l28 c28 k28
  have b28 := F28.binds (ps := ["_law_cell_here"]) fun _ _ _ _ _ _ us hl => match us, hl with | [_], _ => rfl
  have F29 := fun_mk (st := sLawFunctions) l29 c29 k29
  have b29 := F29.binds (ps := ["_law_cell_here"]) fun _ _ _ _ _ _ us hl => match us, hl with | [_], _ => rfl
  have F30 := fun_mk (st := sLawEnds) l30 c30 k30
  have b30 := F30.binds (ps := ["_law_cell_here"]) fun _ _ _ _ _ _ us hl => match us, hl with | [_], _ => rfl
  have F31 := fun_mk (st := sLawMains) l31 c31 k31
  have b31 := F31.binds (ps := ["_law_cell_here"]) fun _ _ _ _ _ _ us hl => match us, hl with | [_], _ => rfl
  have F32 := fun_mk (st := sLawTree) l32 c32 k32
  have b32 := F32.binds (ps := ["_law_cell_here"]) fun _ _ _ _ _ _ us hl => match us, hl with | [_], _ => rfl
  have F33 := fun_mk (st := sLaw) l33 c33 k33
  have Fi := fun_mk (st := sLookInit) ylk yco yki
  have bi := Fi.binds (ps := ["self", "records", "functions", "fun"]) fun _ _ _ _ _ _ us hl => match us, hl with | [_, _, _, _], _ => rfl
  have TM : TxL K mg C fi _ := ⟨PySem.W.mg_of X G nC, bi, ⟨ymk, yin, yfn, ykp⟩⟩
  refine ⟨PySem.W.fnOf "law" "law" (defArgs sLaw) (defBody sLaw) (defScope sLaw) .none kV33 dc33 pm33 an33 cd33 ct33, fun s v => .of_eq rfl, fun base _ _ => ?_⟩
  have Bwant : FnB1 l.prog w K mg base 1 "want" ["so", "why"] (spWant cR) := ⟨_, _, ok_want F0 TX, PySem.W.mg_of X G a0, k0, b0⟩
  have Bis_number : FnB l.prog w K mg base 1 "is_number" ["thing"] (spIsN) := ⟨_, _, ok_is_number F1 T, PySem.W.mg_of X G a1, k1, b1⟩
  have Bis_of_language : FnB l.prog w K mg base 2 "is_of_language" ["thing"] (spIsL) := ⟨_, _, ok_is_of_language F2 T Bis_number, PySem.W.mg_of X G a2, k2, b2⟩
  have Bis_word : FnB l.prog w K mg base 1 "is_word" ["thing"] (spWord) := ⟨_, _, ok_is_word F3 T, PySem.W.mg_of X G a3, k3, b3⟩
  have Bis_name : FnB l.prog w K mg base 2 "is_name" ["thing"] (spName) := ⟨_, _, ok_is_name F4 Bis_word, PySem.W.mg_of X G a4, k4, b4⟩
  have Bis_headed : FnB l.prog w K mg base 1 "is_headed" ["thing", "word"] (spHead) := ⟨_, _, ok_is_headed F5 T, PySem.W.mg_of X G a5, k5, b5⟩
  have Bfirst_again : FnB l.prog w K mg base 1 "first_again" ["things"] (spUnl K) := ⟨_, _, ok_first_again F6 T, PySem.W.mg_of X G a6, k6, b6⟩
  have Ball_unlike : FnB l.prog w K mg base 2 "all_unlike" ["things"] (spAll K) := ⟨_, _, ok_all_unlike F7 Bfirst_again, PySem.W.mg_of X G a7, k7, b7⟩
  have Blook_at_record : FnB1 l.prog w K mg base 4 "look_at_record" ["record"] (spRec cR) := ⟨_, _, ok_look_at_record F8 T TK Bwant Bis_headed Bis_name Ball_unlike, PySem.W.mg_of X G a8, k8, b8⟩
  have Bis_kind : FnB l.prog w K mg base 1 "is_kind" ["thing", "records"] (spKind) := ⟨_, _, ok_is_kind F9 T TK, PySem.W.mg_of X G a9, k9, b9⟩
  have Blook_at_head : FnB1 l.prog w K mg base 4 "look_at_head" ["fun", "records"] (spHd cR) := ⟨_, _, ok_look_at_head F10 T Bwant Bis_name Ball_unlike Bis_kind, PySem.W.mg_of X G a10, k10, b10⟩
  have Blook_at_main : FnB1 l.prog w K mg base 2 "look_at_main" ["fun"] (spMain cR) := ⟨_, _, ok_look_at_main F11 T Bwant, PySem.W.mg_of X G a11, k11, b11⟩
  have Bkind_of_parts : FnB1 l.prog w K mg base 2 "kind_of_parts" ["look", "e", "kinds"] (spKP C cR) := ⟨_, _, ok_kind_of_parts F12 T LT Bwant, PySem.W.mg_of X G a12, k12, b12⟩
  have Bkind_looked : FnB1 l.prog w K mg base 3 "kind_looked" ["look", "e", "kinds"] (spKL C cR) := ⟨_, _, ok_kind_looked F13 T Bwant Bis_of_language Bkind_of_parts, PySem.W.mg_of X G a13, k13, b13⟩
  have Blook_at_parts : FnB1 l.prog w K mg base 4 "look_at_parts" ["look", "parts", "wanted", "kinds"] (spLP K C cR) := ⟨_, _, ok_look_at_parts F14 T Bwant Bkind_looked, PySem.W.mg_of X G a14, k14, b14⟩
  have A : Acts K f15 f16 f17 f18 f19 f20 f21 _ _ _ _ _ _ _ := ⟨F15, F16, F17, F18, F19, F20, F21, b15, b16, b17, b18, b19, b20, b21⟩
  have Blook_at_statements : FnB1 l.prog w K mg base 16 "look_at_statements" ["look", "statements", "around"] (spS 5 C cR) := stats_all A LT T TT TS Bwant Bis_name Bis_of_language Bkind_looked Blook_at_parts F22 (PySem.W.mg_of X G a22) b22 5
  have FI_Look := ok_Look_init (P := l.prog) (w := w) (mg := mg) (base := base) (CX := CX0) Fi LT
  have Blook_at_body : FnB1 l.prog w K mg base 17 "look_at_body" ["look", "fun"] (spBody 5 C cR) := ⟨_, _, ok_look_at_body (by decide) F23 T Bwant Blook_at_statements, PySem.W.mg_of X G a23, k23, b23⟩
  have Blook_at_tree : FnB1 l.prog w K mg base 18 "look_at_tree" ["thing"] (spTree 5 cR) := ⟨_, _, ok_look_at_tree (by decide) F24 T TM Bwant Bis_headed Ball_unlike Blook_at_record Blook_at_head Blook_at_main Blook_at_body FI_Look, PySem.W.mg_of X G a24, k24, b24⟩
  have B_law_cell : FnB l.prog w K mg base 1 "_law_cell" ["_law_script", "_law_k"] (spCell K) := ⟨_, _, ok_law_cell F25 T, PySem.W.mg_of X G a25, k25, b25⟩
  have B_law_kinds : FnBH l.prog w K mg base 1 "_law_kinds" ["_law_e"] (spKinds cR) := ⟨_, _, ok_law_kinds F26 T TX, PySem.W.mg_of X G a26, k26, b26⟩
  have B_law_refused : FnB l.prog w K mg base 19 "_law_refused" ["_law_tree_here"] (spRefused 5) := ⟨_, _, ok_law_refused (by decide) F27 T TX Blook_at_tree B_law_kinds, PySem.W.mg_of X G a27, k27, b27⟩
  have B_law_records : FnB l.prog w K mg base 1 "_law_records" ["_law_cell_here"] (spMenu recR recW) := ⟨_, _, ok_law_records F28 T, PySem.W.mg_of X G a28, k28, b28⟩
  have B_law_functions : FnB l.prog w K mg base 1 "_law_functions" ["_law_cell_here"] (spMenu funR funW) := ⟨_, _, ok_law_functions F29 T, PySem.W.mg_of X G a29, k29, b29⟩
  have B_law_ends : FnB l.prog w K mg base 1 "_law_ends" ["_law_cell_here"] (spMenu endR endW) := ⟨_, _, ok_law_ends F30 T, PySem.W.mg_of X G a30, k30, b30⟩
  have B_law_mains : FnB l.prog w K mg base 1 "_law_mains" ["_law_cell_here"] (spMenu mainR mainW) := ⟨_, _, ok_law_mains F31 T, PySem.W.mg_of X G a31, k31, b31⟩
  have B_law_tree : FnB l.prog w K mg base 2 "_law_tree" ["_law_cell_here"] (spLawTree) := ⟨_, _, ok_law_tree F32 T B_law_records B_law_functions B_law_ends B_law_mains, PySem.W.mg_of X G a32, k32, b32⟩
  exact ok_law F33 T B_law_cell B_law_tree B_law_refused
theorem walk {l : PySem.W.OpenLaw} {q : Program} {loose : List Str} {XP : (Str → Option Value) → Heap → Prop} {YP : World → Heap → Prop} {d : DefRec} {K : Params → PySem.W.Frag} (hn : l.most = some 63) (hdf : d.params.defaults = [])
    (hY : ∀ (w : World) (h : Heap), YP w h → (K w.params).In h)
    (F : ∀ (w : World) (mg : Str → Option Value) (fa : Addr) (h : Heap), (K w.params).In h → h.Ns mainGlobals mg → mg d.name = some (.ref fa) →
      ∃ fd : FuncData, (∀ (s : Shared) (u : Value), BindsTo s fd ⟨[u], []⟩ [("_law_script", u)]) ∧ ∀ base : Heap, (K w.params).In base → base.Ns mainGlobals mg → FnOk l.prog w (K w.params) mg base CX0 20 fa fd ["_law_script"] (spLaw (K w.params))) :
    PySem.W.WalkO q loose XP YP l.row.toRowW d [] (fun f vs => PySem.call f vs) :=
  L2.walk_of (n := 63) (k := 20) (x := "_law_script") (CX := fun _ => CX0) (sp := fun w => spLaw (K w.params)) hn (by decide) hdf ⟨rfl, by decide, by decide⟩ hY F (fun _ _ a ns hl _ hS => ⟨a, ns, rfl, hS, hl, fun _ => rfl⟩) fun _ _ _ _ _ z => z
end K08

def PySem.W.Fast.tw12108962883638304738 : Unit := ()
def PySem.W.Fast.tw5150702820117063481 : Unit := ()
def PySem.W.Fast.tw140970261043547636 : Unit := ()
def PySem.W.Fast.tw13940323771047895251 : Unit := ()
def PySem.W.Fast.tw14128430836831048991 : Unit := ()
def PySem.W.Fast.tw6062743460128269621 : Unit := ()
def PySem.W.Fast.tw2305717577332600603 : Unit := ()
def PySem.W.Fast.tw447674313473603149 : Unit := ()
def PySem.W.Fast.tw11349987870721299939 : Unit := ()
def PySem.W.Fast.tw2529339076555028513 : Unit := ()
def PySem.W.Fast.tw16453167406217013600 : Unit := ()
def PySem.W.Fast.tw251485147489632550 : Unit := ()
def PySem.W.Fast.tw13887207540956375839 : Unit := ()
open PySem PySem.W PyProof.Rows
set_option maxRecDepth 100000 in
set_option maxHeartbeats 0 in
theorem PySem.Challenge.cw_passpapers_k08_heads_and_ends_holds : PySem.Challenge.rw_passpapers_k08_heads_and_ends.Holds := by
  w_on; o_law; k_head; (case hw => w_witness2)
  k_fill
  refine K08.walk (l := PySem.Challenge.rw_passpapers_k08_heads_and_ends) rfl rfl (fun w h Y => PySem.W.kIn_of Y) ?F
  case F =>
    intro w mg fa h KX G hmg
    refine' K08.all_mk KX G hmg ?a0 ?l0 ?c0 ?k0 ?a1 ?l1 ?c1 ?k1 ?a2 ?l2 ?c2 ?k2 ?a3 ?l3 ?c3 ?k3 ?a4 ?l4 ?c4 ?k4 ?a5 ?l5 ?c5 ?k5 ?a6 ?l6 ?c6 ?k6 ?a7 ?l7 ?c7 ?k7 ?a8 ?l8 ?c8 ?k8 ?a9 ?l9 ?c9 ?k9 ?a10 ?l10 ?c10 ?k10 ?a11 ?l11 ?c11 ?k11 ?a12 ?l12 ?c12 ?k12 ?a13 ?l13 ?c13 ?k13 ?a14 ?l14 ?c14 ?k14 ?a15 ?l15 ?c15 ?k15 ?a16 ?l16 ?c16 ?k16 ?a17 ?l17 ?c17 ?k17 ?a18 ?l18 ?c18 ?k18 ?a19 ?l19 ?c19 ?k19 ?a20 ?l20 ?c20 ?k20 ?a21 ?l21 ?c21 ?k21 ?a22 ?l22 ?c22 ?k22 ?a23 ?l23 ?c23 ?k23 ?a24 ?l24 ?c24 ?k24 ?a25 ?l25 ?c25 ?k25 ?a26 ?l26 ?c26 ?k26 ?a27 ?l27 ?c27 ?k27 ?a28 ?l28 ?c28 ?k28 ?a29 ?l29 ?c29 ?k29 ?a30 ?l30 ?c30 ?k30 ?a31 ?l31 ?c31 ?k31 ?a32 ?l32 ?c32 ?k32 ?a33 ?l33 ?c33 ?k33 ?i0 ?i1 ?i2 ?i3 ?z0 ?z1 ?z2 ?z3 ?z4 ?z5 ?z6 ?z7 ?z8 ?z9 ?z10 ?ncP ?ncT ?ncR ?ncM ?ncA ?ncS ?nC ?xex ?xga ?xgt ?xcl ?xsb ?xob ?xis ?xmt ?xi3 ?xiT ?xiR ?xiV ?ypg ?yhd ?ypo ?ysa ?yn1 ?yn2 ?yn3 ?yn4 ?ymk ?yin ?yfn ?ykp ?ylk ?yco ?yki ?gO ?lO ?wO ?vO ?gT ?lT ?kT ?oT ?uT ?lU ?wU ?vU ?gS ?lS ?kS ?oS ?p0 ?p1 ?p2 ?p3 ?p4 ?p5 ?p6 ?gL ?lL ?kL ?oL ?q0 ?q1 ?q2 ?q3 ?q4 ?q5 ?q6
    (case a0 => k_is)
    (case l0 => k_is)
    (case c0 => k_is)
    (case k0 => k_is)
    (case a1 => k_is)
    (case l1 => k_is)
    (case c1 => k_is)
    (case k1 => k_is)
    (case a2 => k_is)
    (case l2 => k_is)
    (case c2 => k_is)
    (case k2 => k_is)
    (case a3 => k_is)
    (case l3 => k_is)
    (case c3 => k_is)
    (case k3 => k_is)
    (case a4 => k_is)
    (case l4 => k_is)
    (case c4 => k_is)
    (case k4 => k_is)
    (case a5 => k_is)
    (case l5 => k_is)
    (case c5 => k_is)
    (case k5 => k_is)
    (case a6 => k_is)
    (case l6 => k_is)
    (case c6 => k_is)
    (case k6 => k_is)
    (case a7 => k_is)
    (case l7 => k_is)
    (case c7 => k_is)
    (case k7 => k_is)
    (case a8 => k_is)
    (case l8 => k_is)
    (case c8 => k_is)
    (case k8 => k_is)
    (case a9 => k_is)
    (case l9 => k_is)
    (case c9 => k_is)
    (case k9 => k_is)
    (case a10 => k_is)
    (case l10 => k_is)
    (case c10 => k_is)
    (case k10 => k_is)
    (case a11 => k_is)
    (case l11 => k_is)
    (case c11 => k_is)
    (case k11 => k_is)
    (case a12 => k_is)
    (case l12 => k_is)
    (case c12 => k_is)
    (case k12 => k_is)
    (case a13 => k_is)
    (case l13 => k_is)
    (case c13 => k_is)
    (case k13 => k_is)
    (case a14 => k_is)
    (case l14 => k_is)
    (case c14 => k_is)
    (case k14 => k_is)
    (case a15 => k_is)
    (case l15 => k_is)
    (case c15 => k_is)
    (case k15 => k_is)
    (case a16 => k_is)
    (case l16 => k_is)
    (case c16 => k_is)
    (case k16 => k_is)
    (case a17 => k_is)
    (case l17 => k_is)
    (case c17 => k_is)
    (case k17 => k_is)
    (case a18 => k_is)
    (case l18 => k_is)
    (case c18 => k_is)
    (case k18 => k_is)
    (case a19 => k_is)
    (case l19 => k_is)
    (case c19 => k_is)
    (case k19 => k_is)
    (case a20 => k_is)
    (case l20 => k_is)
    (case c20 => k_is)
    (case k20 => k_is)
    (case a21 => k_is)
    (case l21 => k_is)
    (case c21 => k_is)
    (case k21 => k_is)
    (case a22 => k_is)
    (case l22 => k_is)
    (case c22 => k_is)
    (case k22 => k_is)
    (case a23 => k_is)
    (case l23 => k_is)
    (case c23 => k_is)
    (case k23 => k_is)
    (case a24 => k_is)
    (case l24 => k_is)
    (case c24 => k_is)
    (case k24 => k_is)
    (case a25 => k_is)
    (case l25 => k_is)
    (case c25 => k_is)
    (case k25 => k_is)
    (case a26 => k_is)
    (case l26 => k_is)
    (case c26 => k_is)
    (case k26 => k_is)
    (case a27 => k_is)
    (case l27 => k_is)
    (case c27 => k_is)
    (case k27 => k_is)
    (case a28 => k_is)
    (case l28 => k_is)
    (case c28 => k_is)
    (case k28 => k_is)
    (case a29 => k_is)
    (case l29 => k_is)
    (case c29 => k_is)
    (case k29 => k_is)
    (case a30 => k_is)
    (case l30 => k_is)
    (case c30 => k_is)
    (case k30 => k_is)
    (case a31 => k_is)
    (case l31 => k_is)
    (case c31 => k_is)
    (case k31 => k_is)
    (case a32 => k_is)
    (case l32 => k_is)
    (case c32 => k_is)
    (case k32 => k_is)
    (case a33 => k_is)
    (case l33 => k_is)
    (case c33 => k_is)
    (case k33 => k_is)
    (case i0 => k_is)
    (case i1 => k_is)
    (case i2 => k_is)
    (case i3 => k_is)
    (case z0 => k_is)
    (case z1 => k_is)
    (case z2 => k_is)
    (case z3 => k_is)
    (case z4 => k_is)
    (case z5 => k_is)
    (case z6 => k_is)
    (case z7 => k_is)
    (case z8 => k_is)
    (case z9 => k_is)
    (case z10 => k_is)
    (case ncP => k_is)
    (case ncT => k_is)
    (case ncR => k_is)
    (case ncM => k_is)
    (case ncA => k_is)
    (case ncS => k_is)
    (case nC => k_is)
    (case xex => kernel_rfl)
    (case xga => k_is)
    (case xgt => k_is)
    (case xcl => k_is)
    (case xsb => k_is)
    (case xob => k_is)
    (case xis => k_is)
    (case xmt => kernel_rfl)
    (case xi3 => kernel_rfl)
    (case xiT => kernel_rfl)
    (case xiR => kernel_rfl)
    (case xiV => kernel_rfl)
    (case ypg => k_is)
    (case yhd => k_is)
    (case ypo => k_is)
    (case ysa => k_is)
    (case yn1 => k_is)
    (case yn2 => k_is)
    (case yn3 => k_is)
    (case yn4 => k_is)
    (case ymk => k_is)
    (case yin => k_is)
    (case yfn => k_is)
    (case ykp => k_is)
    (case ylk => k_is)
    (case yco => k_is)
    (case yki => k_is)
    (case gO => k_is)
    (case lO => k_is)
    (case wO => decide)
    (case vO => exact .cons ⟨_, rfl⟩ (.cons ⟨_, rfl⟩ (.cons ⟨_, rfl⟩ .nil)))
    (case gT => k_is)
    (case lT => k_is)
    (case kT => k_keys)
    (case oT => decide)
    (case uT => k_is)
    (case lU => k_is)
    (case wU => decide)
    (case vU => exact .cons ⟨_, rfl⟩ .nil)
    (case gS => k_is)
    (case lS => k_is)
    (case kS => k_keys)
    (case oS => decide)
    (case p0 => k_is)
    (case p1 => k_is)
    (case p2 => k_is)
    (case p3 => k_is)
    (case p4 => k_is)
    (case p5 => k_is)
    (case p6 => k_is)
    (case gL => k_is)
    (case lL => k_is)
    (case kL => k_keys)
    (case oL => decide)
    (case q0 => k_is)
    (case q1 => k_is)
    (case q2 => k_is)
    (case q3 => k_is)
    (case q4 => k_is)
    (case q5 => k_is)
    (case q6 => k_is)

