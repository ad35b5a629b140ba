import PyProof.Rows.All
import Wide.All
import OpenK.AllK
import Wide.FinOn
import Lean
import PyProof.EqAt
import PyProof.EqKinds
import PyProof.TupleCall
import PyProof.ZipIter
import PyProof.TupleIter
import PyProof.WalksMore
import KE.KWords
import PyProof.MinMaxWalk
import PyProof.SeqI3
import PyProof.MaxThree
import PyProof.AttrMissHeap
import PyProof.DictList
import PyProof.DictIter
import KE.KDictOf
import KE.KDictList
import PyProof.Rows.CallKwBuiltin
import PyProof.Rows.Range3
import PyProof.Rows.StrNews2
import PyProof.StrLawsIdx
import PyProof.StrBlockI
import KE.KRevSl
import PyProof.AutoListH
import PyProof.DictWalks
import PyProof.Draws
import PyProof.EnumMake
import PyProof.NeKinds
import PyProof.Rows.SetFrom
import PySem.Challenge.RW_twainkeep_k26_begun
set_option Elab.async false
set_option linter.all false
set_option maxRecDepth 100000
/-! THE HAND LAYER, for ints, bools, texts, own classes, LISTS and tuples (index, slices, in, append, pop ..), calls, loops. Paste it whole ahead of your own text; what your proof does not reach may be deleted. -/
namespace L2
open PySem PySem.Spec PyProof.Rows

/-- a key: an int or a str -/
abbrev Key := Sum Int Str
def keyIs : Key → Value → Bool
  | .inl k, v => Value.isInt k v
  | .inr x, v => Value.isStrOf x v
def keyH (w : World) : Key → Int
  | .inl k => hashInt k
  | .inr x => hashStr w x
theorem keyIs_shape : ∀ {k : Key} {v : Value}, keyIs k v = true → (∃ i t, k = Sum.inl i ∧ v = Value.int i t) ∨ (∃ x t, k = Sum.inr x ∧ v = Value.str x t)
  | .inl i, v, h => by
    obtain ⟨t, e⟩ := Value.isInt_shape (k := i) (v := v) h
    exact .inl ⟨i, t, rfl, e⟩
  | .inr x, v, h => by
    obtain ⟨t, e⟩ := Value.isStrOf_shape (x := x) (v := v) h
    exact .inr ⟨x, t, rfl, e⟩
theorem keyIs_int (i : Int) (t : Tok) : keyIs (.inl i) (.int i t) = true := by simp [keyIs, Value.isInt]
theorem keyIs_str (x : Str) (t : Tok) : keyIs (.inr x) (.str x t) = true := by simp [keyIs, Value.isStrOf]
theorem key_ll (a b : Int) : decide ((Sum.inl a : Key) = Sum.inl b) = (a == b) := by
  by_cases e : a = b
  · subst e; simp
  · have h : ¬ (Sum.inl a : Key) = Sum.inl b := fun q => e (Sum.inl.inj q)
    rw [decide_eq_false h]
    exact (beq_eq_false_iff_ne.mpr e).symm
theorem key_rr (a b : Str) : decide ((Sum.inr a : Key) = Sum.inr b) = decide (a = b) := by
  by_cases e : a = b
  · subst e; simp
  · have h : ¬ (Sum.inr a : Key) = Sum.inr b := fun q => e (Sum.inr.inj q)
    rw [decide_eq_false h, decide_eq_false e]
theorem key_lr (a : Int) (b : Str) : decide ((Sum.inl a : Key) = Sum.inr b) = false := decide_eq_false (fun q => nomatch q)
theorem key_rl (a : Str) (b : Int) : decide ((Sum.inr a : Key) = Sum.inl b) = false := decide_eq_false (fun q => nomatch q)

def mixKind (prog : Program) (w : World) : PySem.KeyKind prog w Key where
  is := keyIs
  hash := keyH w
  inj := fun v a b ha hb => by
    rcases keyIs_shape ha with ⟨i, t, rfl, rfl⟩ | ⟨x, t, rfl, rfl⟩
    · rcases keyIs_shape hb with ⟨j, u, rfl, e⟩ | ⟨y, u, rfl, e⟩
      · injection e with e1 _; rw [e1]
      · exact nomatch e
    · rcases keyIs_shape hb with ⟨j, u, rfl, e⟩ | ⟨y, u, rfl, e⟩
      · exact nomatch e
      · injection e with e1 _; rw [e1]
  byValue := fun k v h => by
    rcases keyIs_shape h with ⟨i, t, rfl, rfl⟩ | ⟨x, t, rfl, rfl⟩ <;> rfl
  pyHash := fun hv h => by
    rcases keyIs_shape hv with ⟨i, t, rfl, rfl⟩ | ⟨x, t, rfl, rfl⟩
    · exact wpAny_pyHash_int h
    · exact wpAny_pyHash_str h
  eqBool := fun hu hv h => by
    rcases keyIs_shape hu with ⟨i, t, rfl, rfl⟩ | ⟨x, t, rfl, rfl⟩
    · rcases keyIs_shape hv with ⟨j, u, rfl, rfl⟩ | ⟨y, u, rfl, rfl⟩
      · rw [key_ll] at h; exact wpAny_eqBool_int h
      · rw [key_lr] at h; exact SeqAt.EqAt.int_str i t y u _ _ _ _ h
    · rcases keyIs_shape hv with ⟨j, u, rfl, rfl⟩ | ⟨y, u, rfl, rfl⟩
      · rw [key_rl] at h; exact SeqAt.EqAt.str_int x t j u _ _ _ _ h
      · rw [key_rr] at h; exact wpAny_eqBool_str h
  «strs» := fun k x t v h => by
    rcases keyIs_shape h with ⟨i, u, rfl, e⟩ | ⟨y, u, rfl, e⟩
    · exact nomatch e
    · injection e with e1 _
      subst e1
      cases v <;> rfl

theorem mixKind_is (prog : Program) (w : World) (k : Key) (v : Value) : (mixKind prog w).is k v = keyIs k v := rfl
theorem mixKind_int (prog : Program) (w : World) (i : Int) (t : Tok) : (mixKind prog w).is (.inl i) (.int i t) = true := keyIs_int i t
theorem mixKind_str (prog : Program) (w : World) (x : Str) (t : Tok) : (mixKind prog w).is (.inr x) (.str x t) = true := keyIs_str x t
end L2

namespace L2
open PySem PySem.Spec PyProof.Rows

/-- a value, without the heap -/
inductive V where
  | non | bl (b : Bool) | int (i : Int) | str (x : Str) | byt (b : Array UInt8) | flt (b : UInt64) | ref (a : Addr) | ty (n : String)
  deriving DecidableEq

def RelV : V → Value → Prop
  | .non, u => u = Value.none
  | .bl b, u => u = Value.bool b
  | .int i, u => ∃ t, u = Value.int i t
  | .str x, u => ∃ t, u = Value.str x t
  | .byt b, u => ∃ t, u = Value.bytes b t
  | .flt b, u => ∃ t, u = Value.float b t
  | .ref a, u => u = Value.ref a
  | .ty n, u => u = Value.type n

abbrev Vals : List V → List Value → Prop := Paired RelV
theorem Vals.length {xs : List V} {us : List Value} (r : Vals xs us) : xs.length = us.length := Paired.length r
theorem Vals.get : ∀ {xs : List V} {us : List Value} {i : Nat} {x : V}, Vals xs us → xs[i]? = some x → ∃ u, us[i]? = some u ∧ RelV x u
  | _, _, _, _, .nil, e => by simp at e
  | _, _, 0, _, .cons r _, e => by simp at e; subst e; exact ⟨_, rfl, r⟩
  | _, _, i + 1, x, .cons _ t, e => by
    obtain ⟨u, h1, h2⟩ := Vals.get (i := i) (x := x) t (by simpa using e)
    exact ⟨u, by simpa using h1, h2⟩
theorem Vals.set {x : V} {u : Value} (r : RelV x u) : ∀ {xs : List V} {us : List Value} (i : Nat), Vals xs us → Vals (xs.set i x) (us.set i u)
  | _, _, _, .nil => .nil
  | _, _, 0, .cons _ t => .cons r t
  | _, _, i + 1, .cons q t => .cons q (Vals.set r i t)
theorem Vals.append : ∀ {xs ys : List V} {us ws : List Value}, Vals xs us → Vals ys ws → Vals (xs ++ ys) (us ++ ws)
  | _, _, _, _, .nil, s => s
  | _, _, _, _, .cons r t, s => .cons r (Vals.append t s)
theorem Vals.take : ∀ {xs : List V} {us : List Value} (n : Nat), Vals xs us → Vals (xs.take n) (us.take n)
  | _, _, 0, _ => .nil
  | _, _, _ + 1, .nil => .nil
  | _, _, n + 1, .cons r t => .cons r (Vals.take n t)
theorem Vals.drop : ∀ {xs : List V} {us : List Value} (n : Nat), Vals xs us → Vals (xs.drop n) (us.drop n)
  | _, _, 0, r => r
  | _, _, _ + 1, .nil => .nil
  | _, _, n + 1, .cons _ t => Vals.drop n t
theorem Vals.none_of : ∀ {xs : List V} {us : List Value} {i : Nat}, Vals xs us → xs[i]? = none → us[i]? = none := fun {xs us i} r e => by
  have h1 := r.length
  have h2 : xs.length ≤ i := List.getElem?_eq_none_iff.mp e
  exact List.getElem?_eq_none_iff.mpr (by omega)

def RelO : Option V → Option Value → Prop
  | some v, some u => RelV v u
  | none, none => True
  | _, _ => False
def KV {κ : Type} : List (κ × V) → List (κ × Value) → Prop := Paired fun (p : κ × V) (q : κ × Value) => p.1 = q.1 ∧ RelV p.2 q.2

/-- a key of a dict (00_mix): an int or a text -/
def kV : Key → V
  | .inl i => .int i
  | .inr x => .str x

/-- what stands at a tracked address -/
inductive HO where
  /-- a list -/
  | lst (xs : List V)
  /-- a tuple (never changes) -/
  | tup (xs : List V)
  /-- a dict whose keys are ints and texts; one whose keys are tuples of ints and texts (the empty one is both) -/
  | dK (kvs : List (Key × V)) | dT (kvs : List (List Key × V))
  /-- a set of ints: its members, its size -/
  | set (S : Int → Bool) (n : Nat)
  /-- an instance of the class at C, its dict at dx, its attributes -/
  | ins (C dx : Addr) (fs : List (Str × V))
  /-- the dict of the instance at x -/
  | own (x : Addr)
  /-- the dict of an exception -/
  | xd (fs : List (Str × V))
  /-- a bound method, f of x -/
  | met (f x : Addr)
  /-- a range object lo, lo + 1, .. below hi -/
  | rng (lo hi : Int)
  /-- a thing that is known to the object (the script; a dict while a loop walks it): read, never written while it is so -/
  | frz (o : Obj) (u : HO)
  /-- a code object's table -/
  | tbl (ps : Array Value)
  /-- any other thing, by what is true of its one object (a def of one's own: SetO a S n := HO.ext fun h => ..) -/
  | ext (φ : Heap → Prop)

abbrev Hp := Addr → Option HO
def upd (H : Hp) (a : Addr) (o : HO) : Hp := fun b => if b = a then some o else H b
theorem upd_same {H : Hp} {a : Addr} {o : HO} : upd H a o a = some o := by unfold upd; rw [if_pos rfl]
theorem upd_ne {H : Hp} {a b : Addr} {o : HO} (h : b ≠ a) : upd H a o b = H b := by unfold upd; rw [if_neg h]
theorem upd_upd {H : Hp} {a : Addr} {o u : HO} : upd (upd H a o) a u = upd H a u := by
  funext b; unfold upd; split <;> rfl
/-- two objects of different content stand apart -/
theorem ne_of {H : Hp} {a b : Addr} {o u : HO} (h : H a = some o) (h' : H b = some u) (d : o ≠ u) : a ≠ b := by
  intro e; subst e; rw [h] at h'; exact d (Option.some.inj h')
theorem ne_of_none {H : Hp} {a b : Addr} {o : HO} (h : H a = some o) (h' : H b = none) : a ≠ b := by
  intro e; subst e; rw [h] at h'; cases h'

section
variable (P : Program) (w : World)
def ObjOk (H : Hp) (h : Heap) (a : Addr) : HO → Prop
  | .lst xs => xs.length ≤ sizeLine ∧ ∃ (its : List Value) (n : Nat), Vals xs its ∧ h.get? a = some { cls := .type "list", data := .seq its.toArray n }
  | .tup xs => xs.length ≤ sizeLine ∧ ∃ its : List Value, Vals xs its ∧ IsTup h a its.toArray
  | .dK kvs => kvs.length ≤ sizeLine ∧ (a == sysModules) = false ∧ ∃ vs, KV kvs vs ∧ h.DictOf (mixKind P w) a vs
  | .dT kvs => kvs.length ≤ sizeLine ∧ (a == sysModules) = false ∧ ∃ xs : List (List Key × Addr × Value),
      Paired (fun (p : List Key × V) (q : List Key × Addr × Value) => p.1 = q.1 ∧ H q.2.1 = some (.tup (p.1.map kV)) ∧ RelV p.2 q.2.2) kvs xs ∧
      ∃ o es ep, h.get? a = some o ∧ o.ExactDict ∧ o.data = .dict es ep ∧ es.toList = xs.map (entryOfKey (tupleKind (mixKind P w))) ∧ (xs.map (·.1)).Nodup
  | .set S n => h.SetOf (intKind P w) a S n
  | .ins C dx fs => H dx = some (.own a) ∧ fs.length ≤ 1000 ∧ dx ≠ a ∧ h.get? a = some (PySem.W.instObj C dx) ∧
      ∃ mA, h.Ns1 dx mA ∧ (∀ f, RelO (fs.lookup f) (mA f)) ∧ PySem.Within mA (fs.map (·.1))
  | .own _ => ∃ o, h.get? a = some o
  | .xd fs => ∃ mA, h.Ns1 a mA ∧ ∀ f, RelO (fs.lookup f) (mA f)
  | .rng lo hi => ∃ t u v, h.get? a = some { cls := .type "range", data := .fields #[.int lo t, .int hi u, .int 1 v] }
  | .frz o u => h.get? a = some o ∧ ObjOk H h a u
  | .tbl ps => h.get? a = some { cls := .none, data := .fields ps }
  | .met f x => h.get? a = some (PySem.W.methodObj (.ref f) (.ref x))
  | .ext φ => φ h ∧ (∃ o, h.get? a = some o) ∧ ∀ h1 h2 : Heap, φ h1 → (∀ o, h1.get? a = some o → h2.get? a = some o) → φ h2
/-- the abstract heap is held -/
def HOk (H : Hp) (h : Heap) : Prop := ∀ a o, H a = some o → ObjOk P w H h a o
end

section
variable {P : Program} {w : World} {H H' : Hp} {h h' : Heap} {a : Addr} {o : HO}
theorem ObjOk.lt (x : ObjOk P w H h a o) : a < h.objs.size := by
  cases o with
  | lst xs => obtain ⟨_, _, _, _, e⟩ := x; exact Heap.lt_size e
  | tup xs => obtain ⟨_, _, _, p⟩ := x; exact p.lt
  | dK kvs => obtain ⟨_, _, _, _, o, _, _, e, _⟩ := x; exact Heap.lt_size e
  | dT kvs => obtain ⟨_, _, _, _, o, _, _, e, _⟩ := x; exact Heap.lt_size e
  | set S n => obtain ⟨o, _, _, _, e, _⟩ := x; exact Heap.lt_size e
  | ins C dx fs => obtain ⟨_, _, _, e, _⟩ := x; exact Heap.lt_size e
  | own y => obtain ⟨_, e⟩ := x; exact Heap.lt_size e
  | xd fs => obtain ⟨_, ⟨_, _, _, e, _⟩, _⟩ := x; exact Heap.lt_size e
  | rng lo hi => obtain ⟨_, _, _, e⟩ := x; exact Heap.lt_size e
  | frz ob u => obtain ⟨e, _⟩ := x; exact Heap.lt_size e
  | tbl ps => exact Heap.lt_size (show h.get? a = some _ from x)
  | met f y => exact Heap.lt_size (show h.get? a = some _ from x)
  | ext φ => obtain ⟨_, ⟨_, e⟩, _⟩ := x; exact Heap.lt_size e
theorem Paired.mapP {α β : Type} {F G : α → β → Prop} : ∀ {l₁ : List α} {l₂ : List β}, Paired F l₁ l₂ → (∀ a b, F a b → G a b) → Paired G l₁ l₂
  | _, _, .nil, _ => .nil
  | _, _, .cons r t, f => .cons (f _ _ r) (Paired.mapP t f)
theorem Paired.imp' {α β : Type} {F G : α → β → Prop} (f : ∀ a b, F a b → G a b) {l₁ : List α} {l₂ : List β} (r : Paired F l₁ l₂) : Paired G l₁ l₂ := Paired.mapP r f
/-- what an object's description leans on: its own object, its own dict, the tuples -/
theorem ObjOk.stay (x : ObjOk P w H h a o) (k : ∀ b u, (b = a ∨ H b = some (.own a)) → h.get? b = some u → h'.get? b = some u)
    (ho : ∀ b, H b = some (.own a) → H' b = some (.own a)) (ht : ∀ b xs, H b = some (.tup xs) → H' b = some (.tup xs)) : ObjOk P w H' h' a o := by
  induction o with
  | lst xs => obtain ⟨z, its, n, r, e⟩ := x; exact ⟨z, its, n, r, k _ _ (.inl rfl) e⟩
  | tup xs => obtain ⟨z, its, r, ob, e, c⟩ := x; exact ⟨z, its, r, ob, k _ _ (.inl rfl) e, c⟩
  | dK kvs => obtain ⟨z, y, vs, r, ob, es, ep, e, c⟩ := x; exact ⟨z, y, vs, r, ob, es, ep, k _ _ (.inl rfl) e, c⟩
  | dT kvs =>
    obtain ⟨z, y, xs, r, ob, es, ep, e, c⟩ := x
    exact ⟨z, y, xs, Paired.mapP r fun p q z => ⟨z.1, ht _ _ z.2.1, z.2.2⟩, ob, es, ep, k _ _ (.inl rfl) e, c⟩
  | set S n => obtain ⟨ob, es, ep, t, e, c⟩ := x; exact ⟨ob, es, ep, t, k _ _ (.inl rfl) e, c⟩
  | ins C dx fs =>
    obtain ⟨d, z, ne, e, mA, ⟨od, es, ep, e2, c⟩, r⟩ := x
    exact ⟨ho _ d, z, ne, k _ _ (.inl rfl) e, mA, ⟨od, es, ep, k _ _ (.inr d) e2, c⟩, r⟩
  | own y => obtain ⟨ob, e⟩ := x; exact ⟨ob, k _ _ (.inl rfl) e⟩
  | xd fs => obtain ⟨mA, ⟨od, es, ep, e, c⟩, r⟩ := x; exact ⟨mA, ⟨od, es, ep, k _ _ (.inl rfl) e, c⟩, r⟩
  | rng lo hi => obtain ⟨t, u, v, e⟩ := x; exact ⟨t, u, v, k _ _ (.inl rfl) e⟩
  | frz ob u ih => obtain ⟨e, q⟩ := x; exact ⟨k _ _ (.inl rfl) e, ih q⟩
  | tbl ps =>
    have e : h.get? a = some { cls := .none, data := .fields ps } := x
    show h'.get? a = some { cls := .none, data := .fields ps }
    exact k a _ (.inl rfl) e
  | met f y =>
    have e : h.get? a = some (PySem.W.methodObj (.ref f) (.ref y)) := x
    show h'.get? a = some (PySem.W.methodObj (.ref f) (.ref y))
    exact k a _ (.inl rfl) e
  | ext φ => obtain ⟨p, ⟨o, e⟩, st⟩ := x; exact ⟨st _ _ p fun o q => k _ _ (.inl rfl) q, ⟨o, k _ _ (.inl rfl) e⟩, st⟩
theorem HOk.lt (x : HOk P w H h) (e : H a = some o) : a < h.objs.size := (x a o e).lt
theorem HOk.fresh (x : HOk P w H h) (e : h.objs.size ≤ a) : H a = none := by
  cases q : H a with
  | none => rfl
  | some u => exact absurd (Nat.lt_of_lt_of_le (x.lt q) e) (Nat.lt_irrefl _)
/-- every object of the heap is kept -/
theorem HOk.kept (x : HOk P w H h) (k : ∀ b u, h.get? b = some u → h'.get? b = some u) : HOk P w H h' := fun a o e =>
  (x a o e).stay (fun b u _ q => k b u q) (fun _ q => q) fun _ _ q => q
/-- a new object is laid and tracked -/
theorem HOk.laid (x : HOk P w H h) (k : ∀ b u, h.get? b = some u → h'.get? b = some u) (hp : h.objs.size ≤ a) (new : ObjOk P w (upd H a o) h' a o) : HOk P w (upd H a o) h' := fun b u e => by
  have hn := x.fresh hp
  by_cases hb : b = a
  · subst hb; rw [upd_same] at e; cases e; exact new
  · rw [upd_ne hb] at e
    exact (x b u e).stay (fun c v _ q => k c v q) (fun c q => by rw [upd_ne (ne_of_none q hn)]; exact q) fun c xs q => by rw [upd_ne (ne_of_none q hn)]; exact q
end

/-- what may be read as u: it is u, or a known u -/
def Rd (H : Hp) (a : Addr) (u : HO) : Prop := H a = some u ∨ ∃ o, H a = some (.frz o u)
theorem Rd.of {H : Hp} {a : Addr} {u : HO} (h : H a = some u) : Rd H a u := .inl h
theorem Rd.ok {P : Program} {w : World} {H : Hp} {h : Heap} {a : Addr} {u : HO} (r : Rd H a u) (x : HOk P w H h) : ObjOk P w H h a u := by
  rcases r with r | ⟨o, r⟩
  · exact x a u r
  · obtain ⟨_, q⟩ := x a _ r
    exact q
/-- what may be written -/
def Mut : Option HO → Prop
  | some (.lst _) => True
  | some (.dK _) => True
  | some (.dT _) => True
  | some (.set _ _) => True
  | some (.ins _ _ _) => True
  | some (.ext _) => True
  | _ => False
section
variable {P : Program} {w : World} {H : Hp} {h h' : Heap} {x e : Addr} {o' : HO}
/-- the object at e is changed: x itself, or the dict of the instance x -/
theorem HOk.write (ok : HOk P w H h) (mu : Mut (H x)) (he : e = x ∨ H e = some (.own x)) (k : ∀ b u, b ≠ e → h.get? b = some u → h'.get? b = some u) (heo : ∃ u, h'.get? e = some u)
    (new : ObjOk P w (upd H x o') h' x o') : HOk P w (upd H x o') h' := fun b u q => by
  have nown : ∀ c y, H c = some (.own y) → c ≠ x := fun c y r z => by subst z; rw [r] at mu; exact mu
  have ntup : ∀ c xs, H c = some (.tup xs) → c ≠ x := fun c xs r z => by subst z; rw [r] at mu; exact mu
  by_cases hb : b = x
  · subst hb; rw [upd_same] at q; cases q; exact new
  · rw [upd_ne hb] at q
    by_cases hbe : b = e
    · have q' : H b = some (.own x) := by
        rcases he with z | z
        · exact absurd (hbe.trans z) hb
        · rw [hbe]; exact z
      rw [q] at q'; cases q'
      obtain ⟨v, hv⟩ := heo
      exact ⟨v, by rw [hbe]; exact hv⟩
    · refine (ok b u q).stay (fun c v hc r => k c v ?_ r) (fun c r => by rw [upd_ne (nown c b r)]; exact r) fun c xs r => by rw [upd_ne (ntup c xs r)]; exact r
      rcases hc with rfl | hc
      · exact hbe
      · rintro rfl
        rcases he with z | z
        · exact nown c b hc z
        · rw [hc] at z; cases z; exact hb rfl
end

/-! ### kept unless tracked; of the frames at fs (the callers') the slots may change (an exception that passes writes there); of the records at ex (iterators) nothing is said -/
structure Un (fs ex : List Addr) (H H' : Hp) (h h' : Heap) : Prop where
  keep : ∀ b o, h.get? b = some o → H b = none → b ∉ fs → b ∉ ex → h'.get? b = some o
  slot : ∀ b o, h.get? b = some o → H b = none → b ∈ fs → b ∉ ex → ∃ sl, h'.get? b = some { o with slots := sl }
  free : ∀ b o, h.get? b = some o → H b = none → b ∉ ex → H' b = none
  there : ∀ b o, h.get? b = some o → b ∉ ex → ∃ o', h'.get? b = some o'
  tups : ∀ b xs, H b = some (.tup xs) → H' b = some (.tup xs)
  frzs : ∀ b o u, H b = some (.frz o u) → H' b = some (.frz o u)
  tbls : ∀ b ps, H b = some (.tbl ps) → ∃ more, H' b = some (.tbl (ps ++ more))
section
variable {fs fs' ex ex' : List Addr} {H H1 H2 : Hp} {h h1 h2 h' : Heap} {a x e : Addr} {o : HO}
theorem Un.any (u : Un fs ex H H1 h h1) {b : Addr} {ob : Obj} (q : h.get? b = some ob) (n : H b = none) (hx : b ∉ ex) : ∃ sl, h1.get? b = some { ob with slots := sl } := by
  by_cases hb : b ∈ fs
  · exact u.slot b ob q n hb hx
  · exact ⟨ob.slots, u.keep b ob q n hb hx⟩
theorem Un.trans (a : Un fs ex H H1 h h1) (b : Un fs ex H1 H2 h1 h2) : Un fs ex H H2 h h2 where
  keep := fun c ob q n hc hx => b.keep c ob (a.keep c ob q n hc hx) (a.free c ob q n hx) hc hx
  slot := fun c ob q n hc hx => by
    obtain ⟨sl, e1⟩ := a.slot c ob q n hc hx
    obtain ⟨sl', e2⟩ := b.slot c _ e1 (a.free c ob q n hx) hc hx
    exact ⟨sl', e2⟩
  free := fun c ob q n hx => by
    obtain ⟨o', e1⟩ := a.there c ob q hx
    exact b.free c o' e1 (a.free c ob q n hx) hx
  there := fun c ob q hx => by
    obtain ⟨o', e1⟩ := a.there c ob q hx
    exact b.there c o' e1 hx
  tups := fun c xs q => b.tups c xs (a.tups c xs q)
  frzs := fun c ob xs q => b.frzs c ob xs (a.frzs c ob xs q)
  tbls := fun c ps q => by
    obtain ⟨m1, e1⟩ := a.tbls c ps q
    obtain ⟨m2, e2⟩ := b.tbls c _ e1
    exact ⟨m1 ++ m2, by rw [e2, Array.append_assoc]⟩
theorem Un.kept (k : ∀ b u, h.get? b = some u → h'.get? b = some u) : Un fs ex H H h h' :=
  ⟨fun b ob q _ _ _ => k b ob q, fun b ob q _ _ _ => ⟨ob.slots, k b ob q⟩, fun _ _ _ n _ => n, fun b ob q _ => ⟨ob, k b ob q⟩, fun _ _ q => q, fun _ _ _ q => q, fun _ ps q => ⟨#[], by rw [q]; simp⟩⟩
theorem Un.refl : Un fs ex H H h h := Un.kept fun _ _ q => q
theorem Un.laid (k : ∀ b u, h.get? b = some u → h'.get? b = some u) (hp : h.objs.size ≤ a) (hn : H a = none) : Un fs ex H (upd H a o) h h' where
  keep := fun b u q _ _ _ => k b u q
  slot := fun b u q _ _ _ => ⟨u.slots, k b u q⟩
  free := fun b u q n _ => by rw [upd_ne (Nat.ne_of_lt (Nat.lt_of_lt_of_le (Heap.lt_size q) hp))]; exact n
  there := fun b u q _ => ⟨u, k b u q⟩
  tups := fun b xs q => by rw [upd_ne (ne_of_none q hn)]; exact q
  frzs := fun b u xs q => by rw [upd_ne (ne_of_none q hn)]; exact q
  tbls := fun b ps q => ⟨#[], by rw [upd_ne (ne_of_none q hn), q]; simp⟩
theorem Un.write (mu : Mut (H x)) (he : e = x ∨ H e = some (.own x)) (k : ∀ b u, b ≠ e → h.get? b = some u → h'.get? b = some u) (heo : ∃ u, h'.get? e = some u) : Un fs ex H (upd H x o) h h' := by
  have hx : ∀ b, H b = none → b ≠ x := fun b n z => by subst z; rw [n] at mu; exact mu
  have hb : ∀ b, H b = none → b ≠ e := fun b n z => by
    subst z
    rcases he with r | r
    · exact hx b n r
    · rw [n] at r; cases r
  have hm : ∀ b u, H b = some u → ¬ Mut (some u) → b ≠ x := fun b u q nm z => by subst z; rw [q] at mu; exact nm mu
  refine ⟨fun b u q n _ _ => k b u (hb b n) q, fun b u q n _ _ => ⟨u.slots, k b u (hb b n) q⟩, fun b u q n _ => by rw [upd_ne (hx b n)]; exact n, fun b u q _ => ?_,
    fun b xs q => by rw [upd_ne (hm b _ q fun z => z)]; exact q, fun b u xs q => by rw [upd_ne (hm b _ q fun z => z)]; exact q, fun b ps q => ⟨#[], by rw [upd_ne (hm b _ q fun z => z), q]; simp⟩⟩
  by_cases hbe : b = e
  · subst hbe; exact heo
  · exact ⟨u, k b u hbe q⟩
theorem Un.mono (u : Un fs ex H H1 h h1) (hs : ∀ b ∈ fs, b ∈ fs') (hx : ∀ b ∈ ex, b ∈ ex') : Un fs' ex' H H1 h h1 :=
  ⟨fun b ob q n hb he => u.keep b ob q n (fun z => hb (hs b z)) fun z => he (hx b z), fun _ _ q n _ he => u.any q n fun z => he (hx _ z), fun b ob q n he => u.free b ob q n fun z => he (hx b z), fun b ob q he => u.there b ob q fun z => he (hx b z), u.tups, u.frzs, u.tbls⟩
end

/-! ### the heap without what is tracked -/
def trk (h : Heap) (H : Hp) : List Addr := (List.range h.objs.size).filter fun a => (H a).isSome
def hidT (h : Heap) (H : Hp) : Heap := PySem.W.hideAll h (trk h H)
theorem hidT_size (h : Heap) (H : Hp) : (hidT h H).objs.size = h.objs.size := PySem.W.hideAll_size _ _
theorem hidT_get {h : Heap} {H : Hp} {b : Addr} {o : Obj} (e : h.get? b = some o) (n : H b = none) : (hidT h H).get? b = some o :=
  PySem.W.hideAll_get _ e fun hm => by
    have q : (H b).isSome = true := (List.mem_filter.mp hm).2
    rw [n] at q; simp at q
theorem of_hidT {h : Heap} {H : Hp} {b : Addr} {o : Obj} (e : (hidT h H).get? b = some o) : h.get? b = some o ∧ H b = none := by
  have e' : h.get? b = some o := PySem.W.of_hideAll (trk h H) e
  refine ⟨e', ?_⟩
  cases q : H b with
  | none => rfl
  | some x =>
    have hm : b ∈ trk h H := List.mem_filter.mpr ⟨List.mem_range.mpr (Heap.lt_size e'), by simp [q]⟩
    have z : (hidT h H).get? b = none := PySem.W.hideAll_none (trk h H) hm
    rw [z] at e; cases e

/-! ### OpenK's ledger, filled with every new object but one -/
def allNews (g h : Heap) (L : Addr) : List (Addr × Obj) := (List.range h.objs.size).filterMap fun a => if a = L ∨ (g.get? a).isSome = true then none else (h.get? a).map fun o => (a, o)
theorem mem_allNews {g h : Heap} {L a : Addr} {o : Obj} (h1 : a ≠ L) (h2 : g.get? a = none) (h3 : h.get? a = some o) : (a, o) ∈ allNews g h L :=
  List.mem_filterMap.mpr ⟨a, List.mem_range.mpr (Heap.lt_size h3), by simp [h1, h2, h3]⟩
theorem of_mem_allNews {g h : Heap} {L : Addr} {p : Addr × Obj} (hp : p ∈ allNews g h L) : p.1 ≠ L ∧ g.get? p.1 = none ∧ h.get? p.1 = some p.2 := by
  obtain ⟨b, _, e⟩ := List.mem_filterMap.mp hp
  split at e
  · cases e
  · rename_i hn
    cases q : h.get? b with
    | none => rw [q] at e; simp at e
    | some u =>
      rw [q] at e
      simp only [Option.map_some, Option.some.injEq] at e
      subst e
      refine ⟨fun z => hn (.inl z), ?_, q⟩
      show g.get? b = none
      cases r : g.get? b with
      | none => rfl
      | some v => exact (hn (.inr (by simp [r]))).elim
def rest (g h : Heap) (L d : Addr) : List (Addr × Obj) := (allNews g h L).filter fun p => decide (p.1 ≠ d)
theorem rest_ne {g h : Heap} {L d : Addr} : ∀ p ∈ rest g h L d, p.1 ≠ d := fun p hp => of_decide_eq_true (List.mem_filter.mp hp).2
theorem mem_rest {g h : Heap} {L d a : Addr} {o : Obj} (h1 : a ≠ L) (h2 : g.get? a = none) (h3 : h.get? a = some o) (h4 : a ≠ d) : (a, o) ∈ rest g h L d :=
  List.mem_filter.mpr ⟨mem_allNews h1 h2 h3, decide_eq_true h4⟩
theorem news_all {g h : Heap} {L : Addr} : News g L h (allNews g h L) := fun p hp => let ⟨a, b, c⟩ := of_mem_allNews hp; ⟨c, a, b⟩
theorem news_at {g h : Heap} {L d : Addr} {o : Obj} (h1 : d ≠ L) (h2 : g.get? d = none) (h3 : h.get? d = some o) : News g L h ((d, o) :: rest g h L d) := fun p hp => by
  rcases List.mem_cons.mp hp with rfl | hp
  · exact ⟨h3, h1, h2⟩
  · exact news_all p (List.mem_filter.mp hp).1
/-- behind a rule that changed d alone: all else but the frame is kept -/
theorem kept_of_news {g h h' : Heap} {L d : Addr} {m : Str → Option Value} (k : ∀ b o, g.get? b = some o → h.get? b = some o) (F : Fr g L h' m) (N : News g L h' (rest g h L d)) :
    ∀ b o, b ≠ L → b ≠ d → h.get? b = some o → h'.get? b = some o := fun b o h1 h2 e => by
  cases q : g.get? b with
  | some u =>
    have := k b u q
    rw [e] at this; cases this
    exact F.keep b _ q
  | none => exact (N (b, o) (mem_rest h1 q e h2)).1
end L2

namespace L2
open PySem PySem.Spec PyProof.Rows

/-- the module's facts, over the base: the heap at the law's entry without what is tracked there -/
structure Mod (K : PySem.W.Frag) (mg : Str → Option Value) (base : Heap) : Prop where
  kin : K.In base
  glob : base.Ns mainGlobals mg
  blt : ∃ mb, base.Ns builtinsNs mb ∧ ∀ x : Str, x ≠ "__name__" → mb x = bootBuiltins x
  nolimit : base.NoLimit

/-- the context: a def's body (or a comprehension's block) running. base: fixed through the whole law; s₀, H₀: the entry; outer: the frames whose slots others may change (a def's callers); stack: all frames that run;
   ex: iterators that were made ahead of the entry and are walked here (a comprehension's); fn: the names whose cells were made at the entry (a def: all; a comprehension's block: its own); calm: not within an except suite; pn: pins that every state bears; xe: what is wanted of an exception that leaves the code -/
structure Cx where
  prog : Program
  w : World
  K : PySem.W.Frag
  mg : Str → Option Value
  base : Heap
  A : Around
  N : List Str
  s₀ : Shared
  H₀ : Hp
  env : Env
  outer : List Env
  stack : List Env
  ex : List Addr
  fn : Str → Bool
  calm : Bool
  pn : List (Addr × Obj)
  xe : Value → Shared → Prop
/-- the callers' frames -/
def frs (l : List Env) : List Addr := l.filterMap (·.frame)
abbrev Cx.fs (X : Cx) : List Addr := frs X.outer

def Vis (sc : Scope) (x : Str) : Prop := sc.names.lookup x = some .local ∨ sc.names.lookup x = some .cell ∨ sc.names.lookup x = some .free
def Loc (sc : Scope) (x : Str) : Prop := sc.names.lookup x = some .local ∨ sc.names.lookup x = some .cell
def Look (env : Env) (h : Heap) (m : Str → Option Value) (x : Str) (u : Value) : Prop :=
  (env.kindOf x = some .local ∧ m x = some u) ∨ ((env.kindOf x = some .cell ∨ env.kindOf x = some .free) ∧ ∃ c, env.cells.lookup x = some c ∧ h.IsCell c (some u))

structure Cx.Ok (X : Cx) : Prop where
  mod : Mod X.K X.mg X.base
  kind : X.env.scope.kind = .function
  glob : X.env.globals = mainGlobals
  blt : X.env.builtins = builtinsNs
  above : X.s₀.heap.objs.size ≤ X.env.locals
  inj : ∀ x y c, X.env.cells.lookup x = some c → X.env.cells.lookup y = some c → x = y
  has : ∀ x, (X.env.kindOf x = some .cell ∨ X.env.kindOf x = some .free) → ∃ c, X.env.cells.lookup x = some c
  cab : ∀ x c, X.fn x = true → X.env.cells.lookup x = some c → X.s₀.heap.objs.size ≤ c
  hd : X.calm = true → X.A.handled = none
  frames : X.A.frames = some X.stack
  stk : X.stack = X.outer ∨ (X.stack = X.env :: X.outer ∧ X.env.frame = some X.env.locals)
  exf : ∀ b ∈ X.ex, b ≠ X.env.locals ∧ ∀ x c, X.env.cells.lookup x = some c → c ≠ b
  bs : ∀ b o, X.base.get? b = some o → X.s₀.heap.get? b = some o ∧ X.H₀ b = none
  bsz : X.base.objs.size ≤ X.s₀.heap.objs.size
  noex : ∀ b o, X.base.get? b = some o → b ∉ X.ex
  exfs : ∀ b ∈ X.ex, b ∉ X.fs
  funs : X.s₀.heap.FunFrames X.base X.outer
  frf : ∀ b ∈ X.fs, X.H₀ b = none

structure Inv (X : Cx) (pins : List (Addr × Obj)) (σ : List (Option V)) (H : Hp) (s : Shared) : Prop where
  ok : X.Ok
  os : s.os = X.s₀.os
  bare : AllBare s.gens
  base : Un X.fs X.ex X.H₀ H X.s₀.heap s.heap
  loc : ∃ m, s.heap.Ns X.env.locals m ∧ ∀ (i : Nat) (x : Str) (v : V), X.N[i]? = some x → σ[i]? = some (some v) → Vis X.env.scope x → ∃ u, RelV v u ∧ Look X.env s.heap m x u
  cell : ∀ x c, X.env.cells.lookup x = some c → ∃ v, s.heap.IsCell c v
  free : H X.env.locals = none
  freeC : ∀ x c, X.env.cells.lookup x = some c → H c = none
  pin : ∀ p ∈ X.pn ++ pins, s.heap.get? p.1 = some p.2 ∧ H p.1 = none ∧ p.1 ≠ X.env.locals ∧ p.1 ∉ X.fs ∧ ∀ v, p.2.data ≠ .cell v
  hok : HOk X.prog X.w H s.heap
  len : σ.length = X.N.length

section
variable {X : Cx} {pins : List (Addr × Obj)} {σ : List (Option V)} {H H' : Hp} {s : Shared} {h' : Heap}

theorem Cx.Ok.nofr (ok : X.Ok) {b : Addr} {o : Obj} (e : X.base.get? b = some o) : b ∉ X.fs := fun hb => by
  have := (ok.funs.mem hb).1
  rw [e] at this; cases this
theorem Inv.bs (I : Inv X pins σ H s) : ∀ b o, X.base.get? b = some o → s.heap.get? b = some o ∧ H b = none := fun b o e =>
  ⟨I.base.keep b o (I.ok.bs b o e).1 (I.ok.bs b o e).2 (I.ok.nofr e) (I.ok.noex b o e), I.base.free b o (I.ok.bs b o e).1 (I.ok.bs b o e).2 (I.ok.noex b o e)⟩
theorem Inv.bk (I : Inv X pins σ H s) : ∀ b o, X.base.get? b = some o → s.heap.get? b = some o := fun b o e => (I.bs b o e).1
theorem Inv.mod (I : Inv X pins σ H s) : Mod X.K X.mg X.base := I.ok.mod
theorem Inv.kIn (I : Inv X pins σ H s) : X.K.In s.heap := I.ok.mod.kin.keeps I.bk
theorem Inv.nolimit (I : Inv X pins σ H s) : s.heap.NoLimit := I.ok.mod.nolimit.keeps I.bk
/-- the frame over the base: for OpenK's rules (K.In X.base is I.mod.kin) -/
theorem Inv.fr (I : Inv X pins σ H s) : ∃ m, Fr X.base X.env.locals s.heap m :=
  let ⟨m, hn, _⟩ := I.loc
  ⟨m, hn, I.bk, Nat.le_trans I.ok.bsz I.ok.above⟩
theorem Inv.lt (I : Inv X pins σ H s) : X.env.locals < s.heap.objs.size := let ⟨_, hn, _⟩ := I.loc; hn.lt
theorem Inv.sz (I : Inv X pins σ H s) : X.s₀.heap.objs.size ≤ s.heap.objs.size := Nat.le_trans I.ok.above (Nat.le_of_lt I.lt)
theorem Inv.nofs (I : Inv X pins σ H s) {a : Addr} (h : s.heap.objs.size ≤ a) : a ∉ X.fs := fun hb => by
  obtain ⟨_, o, ho, _⟩ := I.ok.funs.mem hb
  exact absurd (Nat.lt_of_lt_of_le (Heap.lt_size ho) (Nat.le_trans I.sz h)) (Nat.lt_irrefl _)
theorem Inv.cne (I : Inv X pins σ H s) : ∀ x c, X.env.cells.lookup x = some c → c ≠ X.env.locals := fun x c e z => by
  obtain ⟨v, o, ho, hd⟩ := I.cell x c e
  obtain ⟨m, ⟨o', es, ep, ho', hd', _⟩, _⟩ := I.loc
  rw [z, ho'] at ho; cases ho; rw [hd'] at hd; cases hd
theorem Inv.funs (I : Inv X pins σ H s) : s.heap.FunFrames X.base X.outer := by
  have all : ∀ (l : List Env), (∀ b ∈ frs l, b ∈ X.fs) → X.s₀.heap.FunFrames X.base l → s.heap.FunFrames X.base l := by
    intro l
    induction l with
    | nil => intro _ _; trivial
    | cons env r ih =>
      intro hs hl
      obtain ⟨hk, ⟨L, o, hf, hn, ho, hd⟩, hr⟩ := hl
      have hL : L ∈ X.fs := hs L (by unfold frs; rw [List.filterMap_cons, hf]; exact List.mem_cons_self)
      obtain ⟨sl, e⟩ := I.base.slot L o ho (I.ok.frf L hL) hL fun z => I.ok.exfs L z hL
      exact ⟨hk, ⟨L, _, hf, hn, e, hd⟩, ih (fun b hb => hs b (by unfold frs; rw [List.filterMap_cons, hf]; exact List.mem_cons_of_mem _ hb)) hr⟩
  exact all X.outer (fun _ hb => hb) I.ok.funs

/-- the frames that run, for a call -/
theorem Inv.stack (I : Inv X pins σ H s) : s.heap.FunFrames X.base X.stack := by
  rcases I.ok.stk with e | ⟨e, hf⟩
  · rw [e]; exact I.funs
  · rw [e]
    obtain ⟨m, hn, _⟩ := I.loc
    refine .cons (by rw [I.ok.kind]; decide) hf hn ?_ I.funs
    exact Heap.get?_none_of_le (Nat.le_trans I.ok.bsz I.ok.above)
theorem Inv.stkSub (I : Inv X pins σ H s) : ∀ b ∈ frs X.stack, b ∈ X.env.locals :: X.fs := fun b hb => by
  rcases I.ok.stk with e | ⟨e, hf⟩
  · rw [e] at hb; exact List.mem_cons_of_mem _ hb
  · rw [e] at hb
    unfold frs at hb
    rw [List.filterMap_cons, hf] at hb
    exact hb
theorem Inv.stkFree (I : Inv X pins σ H s) : ∀ b ∈ frs X.stack, H b = none := fun b hb => by
  rcases List.mem_cons.mp (I.stkSub b hb) with e | hb
  · rw [e]; exact I.free
  · obtain ⟨_, o, ho, _⟩ := I.ok.funs.mem hb
    exact I.base.free b o ho (I.ok.frf b hb) fun z => I.ok.exfs b z hb

/-- THE STEP: the untracked objects but the frame and the records at ch are kept (the callers' frames up to slots), the frame's map is kept, the new abstract heap is held -/
theorem Inv.step {g' : Array GenState} {t' : Nat} {d' : Drawn} {ch : List Addr} (I : Inv X pins σ H s)
    (hch : ∀ b ∈ ch, (b ∈ X.ex ∨ X.s₀.heap.objs.size ≤ b) ∧ b ≠ X.env.locals ∧ (∀ x c, X.env.cells.lookup x = some c → c ≠ b) ∧ ∀ p ∈ X.pn ++ pins, p.1 ≠ b)
    (keep : ∀ b o, b ≠ X.env.locals → b ∉ X.fs → b ∉ ch → s.heap.get? b = some o → H b = none → h'.get? b = some o)
    (slot : ∀ b o, b ≠ X.env.locals → b ∈ X.fs → b ∉ ch → s.heap.get? b = some o → H b = none → ∃ sl, h'.get? b = some { o with slots := sl }) (free : ∀ b o, b ∉ ch → s.heap.get? b = some o → H b = none → H' b = none)
    (there : ∀ b o, b ∉ ch → s.heap.get? b = some o → ∃ o', h'.get? b = some o')
    (tups : ∀ b xs, H b = some (.tup xs) → H' b = some (.tup xs)) (frzs : ∀ b o u, H b = some (.frz o u) → H' b = some (.frz o u)) (tbls : ∀ b ps, H b = some (.tbl ps) → ∃ more, H' b = some (.tbl (ps ++ more)))
    (ns : ∀ m, s.heap.Ns X.env.locals m → h'.Ns X.env.locals m) (hok : HOk X.prog X.w H' h') (hg : AllBare g') :
    Inv X pins σ H' { s with heap := h', gens := g', drawn := d', toks := t' } := by
  have neL : ∀ b o, X.s₀.heap.get? b = some o → b ≠ X.env.locals := fun b o e => Nat.ne_of_lt (Nat.lt_of_lt_of_le (Heap.lt_size e) I.ok.above)
  have neC : ∀ b o, X.s₀.heap.get? b = some o → b ∉ X.ex → b ∉ ch := fun b o e hx hb => by
    rcases (hch b hb).1 with z | z
    · exact hx z
    · exact absurd (Nat.lt_of_lt_of_le (Heap.lt_size e) z) (Nat.lt_irrefl _)
  have cellK : ∀ x c, X.env.cells.lookup x = some c → ∀ v, s.heap.IsCell c v → h'.IsCell c v := fun x c e v ⟨o, ho, hd⟩ => by
    have nch : c ∉ ch := fun z => (hch c z).2.2.1 x c e rfl
    by_cases hc : c ∈ X.fs
    · obtain ⟨sl, q⟩ := slot c o (I.cne x c e) hc nch ho (I.freeC x c e)
      exact ⟨_, q, hd⟩
    · exact ⟨o, keep c o (I.cne x c e) hc nch ho (I.freeC x c e), hd⟩
  refine ⟨I.ok, I.os, hg, ⟨fun b o e n hb hx => ?_, fun b o e n hb hx => ?_, fun b o e n hx => ?_, fun b o e hx => ?_, fun b xs e => tups b xs (I.base.tups b xs e), fun b o xs e => frzs b o xs (I.base.frzs b o xs e), fun b ps e => ?_⟩, ?_, fun x c e => ?_, ?_, fun x c e => ?_, fun p hp => ?_, hok, I.len⟩
  · exact keep b o (neL b o e) hb (neC b o e hx) (I.base.keep b o e n hb hx) (I.base.free b o e n hx)
  · obtain ⟨sl, e1⟩ := I.base.slot b o e n hb hx
    obtain ⟨sl', e2⟩ := slot b _ (neL b o e) hb (neC b o e hx) e1 (I.base.free b o e n hx)
    exact ⟨sl', e2⟩
  · obtain ⟨o', e1⟩ := I.base.there b o e hx
    exact free b o' (neC b o e hx) e1 (I.base.free b o e n hx)
  · obtain ⟨o', e1⟩ := I.base.there b o e hx
    exact there b o' (neC b o e hx) e1
  · obtain ⟨m1, e1⟩ := I.base.tbls b ps e
    obtain ⟨m2, e2⟩ := tbls b _ e1
    exact ⟨m1 ++ m2, by rw [e2, Array.append_assoc]⟩
  · obtain ⟨m, hn, hl⟩ := I.loc
    refine ⟨m, ns m hn, fun i x v e1 e2 e3 => ?_⟩
    obtain ⟨u, r, l⟩ := hl i x v e1 e2 e3
    refine ⟨u, r, ?_⟩
    rcases l with l | ⟨k, c, e, z⟩
    · exact .inl l
    · exact .inr ⟨k, c, e, cellK x c e _ z⟩
  · obtain ⟨v, z⟩ := I.cell x c e
    exact ⟨v, cellK x c e v z⟩
  · obtain ⟨m, ⟨o, _, _, ho, _⟩, _⟩ := I.loc
    exact free _ o (fun z => (hch _ z).2.1 rfl) ho I.free
  · obtain ⟨v, o, ho, hd⟩ := I.cell x c e
    exact free c o (fun z => (hch c z).2.2.1 x c e rfl) ho (I.freeC x c e)
  · obtain ⟨e, n, ne, nf, d⟩ := I.pin p hp
    have nch : p.1 ∉ ch := fun z => (hch p.1 z).2.2.2 p hp rfl
    exact ⟨keep p.1 p.2 ne nf nch e n, free p.1 p.2 nch e n, ne, nf, d⟩
/-- .. where the frame's own object is kept too -/
theorem Inv.un {t' : Nat} (I : Inv X pins σ H s) (u : Un X.fs [] H H' s.heap h') (hok : HOk X.prog X.w H' h') : Inv X pins σ H' { s with heap := h', toks := t' } := by
  obtain ⟨m, ⟨o, es, ep, ho, r⟩, _⟩ := id I.loc
  obtain ⟨sl, hL⟩ := u.any ho I.free (by simp)
  exact I.step (g' := s.gens) (d' := s.drawn) (ch := []) (fun _ z => nomatch z) (fun b o _ hb _ e n => u.keep b o e n hb (by simp)) (fun b o _ hb _ e n => u.slot b o e n hb (by simp)) (fun b o _ e n => u.free b o e n (by simp)) (fun b o _ e => u.there b o e (by simp)) u.tups u.frzs u.tbls (fun m' hm => by
    obtain ⟨o', es', ep', ho', r'⟩ := hm
    rw [ho] at ho'; cases ho'
    exact ⟨_, es', ep', hL, r'⟩) hok I.bare
/-- behind a call (or a comprehension's block): the slots of this frame may have changed too, the records at ch may have turned -/
theorem Inv.call {g' : Array GenState} {t' : Nat} {d' : Drawn} {ch : List Addr} (I : Inv X pins σ H s) (u : Un (frs X.stack) ch H H' s.heap h') (hok : HOk X.prog X.w H' h') (hg : AllBare g')
    (hch : ∀ b ∈ ch, (b ∈ X.ex ∨ X.s₀.heap.objs.size ≤ b) ∧ b ≠ X.env.locals ∧ (∀ x c, X.env.cells.lookup x = some c → c ≠ b) ∧ ∀ p ∈ X.pn ++ pins, p.1 ≠ b) :
    Inv X pins σ H' { s with heap := h', gens := g', drawn := d', toks := t' } := by
  obtain ⟨m, ⟨o, es, ep, ho, r⟩, _⟩ := id I.loc
  obtain ⟨sl, hL⟩ := u.any ho I.free fun z => (hch _ z).2.1 rfl
  exact I.step (ch := ch) hch (fun b o hL hb hc e n => u.keep b o e n (fun z => (List.mem_cons.mp (I.stkSub b z)).elim hL hb) hc) (fun b o _ _ hc e n => u.any e n hc) (fun b o hc e n => u.free b o e n hc) (fun b o hc e => u.there b o e hc) u.tups u.frzs u.tbls (fun m' hm => by
    obtain ⟨o', es', ep', ho', r'⟩ := hm
    rw [ho] at ho'; cases ho'
    exact ⟨_, es', ep', hL, r'⟩) hok hg
/-- an untracked record of ours (an iterator) has turned -/
theorem Inv.turned {t' : Nat} {it : Addr} (I : Inv X pins σ H s) (k : ∀ b o, b ≠ it → s.heap.get? b = some o → h'.get? b = some o) (hn : H it = none) (hL : it ≠ X.env.locals)
    (h1 : it ∈ X.ex ∨ X.s₀.heap.objs.size ≤ it) (h2 : ∀ x c, X.env.cells.lookup x = some c → c ≠ it) (h3 : ∀ p ∈ X.pn ++ pins, p.1 ≠ it) : Inv X pins σ H { s with heap := h', toks := t' } := by
  have nit : ∀ b u, H b = some u → b ≠ it := fun b u e z => by rw [z, hn] at e; cases e
  refine I.step (g' := s.gens) (d' := s.drawn) (ch := [it]) (fun b hb => ?_) (fun b o _ _ hc e _ => k b o (fun z => hc (by simp [z])) e) (fun b o _ _ hc e _ => ⟨o.slots, k b o (fun z => hc (by simp [z])) e⟩) (fun _ _ _ _ n => n)
    (fun b o hc e => ⟨o, k b o (fun z => hc (by simp [z])) e⟩) (fun _ _ e => e) (fun _ _ _ e => e) (fun b ps e => ⟨#[], by rw [e]; simp⟩) (fun m hm => ?_) (fun b u e => ?_) I.bare
  · have e : b = it := by simpa using hb
    subst e
    exact ⟨h1, hL, h2, h3⟩
  · obtain ⟨o, es, ep, ho, r⟩ := hm
    exact ⟨o, es, ep, k _ o (Ne.symm hL) ho, r⟩
  · refine (I.hok b u e).stay (fun c v hc q => k c v ?_ q) (fun _ q => q) fun _ _ q => q
    rcases hc with z | z
    · rw [z]; exact nit b u e
    · exact nit c _ z
theorem Inv.tok (I : Inv X pins σ H s) (t : Nat) : Inv X pins σ H { s with toks := t } := I.un (h' := s.heap) (t' := t) Un.refl I.hok
/-- all objects kept -/
theorem Inv.kept {t' : Nat} (I : Inv X pins σ H s) (k : ∀ b u, s.heap.get? b = some u → h'.get? b = some u) : Inv X pins σ H { s with heap := h', toks := t' } := I.un (Un.kept k) (I.hok.kept k)
/-- a new object laid and tracked -/
theorem Inv.laid {a : Addr} {o : HO} {t' : Nat} (I : Inv X pins σ H s) (k : ∀ b u, s.heap.get? b = some u → h'.get? b = some u) (hp : s.heap.objs.size ≤ a) (new : ObjOk X.prog X.w (upd H a o) h' a o) :
    Inv X pins σ (upd H a o) { s with heap := h', toks := t' } := I.un (Un.laid k hp (I.hok.fresh hp)) (I.hok.laid k hp new)
/-- an object written -/
theorem Inv.write {x e : Addr} {o : HO} {t' : Nat} (I : Inv X pins σ H s) (mu : Mut (H x)) (he : e = x ∨ H e = some (.own x)) (k : ∀ b u, b ≠ e → s.heap.get? b = some u → h'.get? b = some u) (heo : ∃ u, h'.get? e = some u)
    (new : ObjOk X.prog X.w (upd H x o) h' x o) : Inv X pins σ (upd H x o) { s with heap := h', toks := t' } := I.un (Un.write mu he k heo) (I.hok.write mu he k heo new)
/-- forgetting slots, pins -/
theorem Inv.weak {σ' : List (Option V)} (I : Inv X pins σ H s) (hl : σ'.length = σ.length) (w : ∀ (i : Nat) v, σ'[i]? = some (some v) → σ[i]? = some (some v)) : Inv X pins σ' H s :=
  ⟨I.ok, I.os, I.bare, I.base, let ⟨m, hn, hl'⟩ := I.loc; ⟨m, hn, fun i x v e1 e2 e3 => hl' i x v e1 (w i v e2) e3⟩, I.cell, I.free, I.freeC, I.pin, I.hok, hl.trans I.len⟩
theorem Inv.pins_of {pins' : List (Addr × Obj)} (I : Inv X pins σ H s) (h : ∀ p ∈ pins', s.heap.get? p.1 = some p.2 ∧ H p.1 = none ∧ p.1 ≠ X.env.locals ∧ p.1 ∉ X.fs ∧ ∀ v, p.2.data ≠ .cell v) : Inv X pins' σ H s :=
  ⟨I.ok, I.os, I.bare, I.base, I.loc, I.cell, I.free, I.freeC, fun p hp => (List.mem_append.mp hp).elim (fun z => I.pin p (List.mem_append_left _ z)) (h p), I.hok, I.len⟩

theorem nodup_ix {N : List Str} (hN : N.Nodup) {i j : Nat} {x : Str} (a : N[i]? = some x) (b : N[j]? = some x) : i = j := by
  obtain ⟨h1, e1⟩ := List.getElem?_eq_some_iff.mp a
  obtain ⟨h2, e2⟩ := List.getElem?_eq_some_iff.mp b
  exact (List.getElem_inj hN).mp (e1.trans e2.symm)

/-- a name is stored; what changed -/
theorem store_ok2 {M : Model} {A : Around} {E : Value → Shared → Prop} {i : Nat} {x : Str} {v : V} {u : Value} {Q : Unit → Shared → Prop} (I : Inv X pins σ H s) (hN : X.N.Nodup) (hi : X.N[i]? = some x) (hx : Loc X.env.scope x) (r : RelV v u)
    (h : ∀ s', Inv X pins (σ.set i (some v)) H s' → (∃ a, Heap.SameBut a s.heap s'.heap ∧ (a = X.env.locals ∨ X.env.cells.lookup x = some a)) → Q () s') (hf : X.fn x = true ∨ X.env.scope.names.lookup x = some .local := by first | exact .inl rfl | exact .inr rfl | assumption) : wpAny M A (storeName X.env x u) Q E s := by
  obtain ⟨m, hn, hl⟩ := id I.loc
  have hcls : (X.env.scope.kind == .class || (X.env.scope.kind == .module && X.env.locals != X.env.globals)) = false := by rw [I.ok.kind]; rfl
  have hiσ : i < σ.length := by rw [I.len]; exact (List.getElem?_eq_some_iff.mp hi).1
  have cne := I.cne
  have tracked : ∀ {a : Addr} {h' : Heap}, (∃ o, s.heap.get? a = some o ∧ H a = none) → Heap.SameBut a s.heap h' → HOk X.prog X.w H h' := fun {a h'} ha hs b ob e => by
    obtain ⟨_, _, hfree⟩ := ha
    refine (I.hok b ob e).stay (fun c w' hc q => (hs.2 c ?_).trans q) (fun _ q => q) fun _ _ q => q
    rintro rfl
    rcases hc with rfl | hc
    · rw [hfree] at e; cases e
    · rw [hfree] at hc; cases hc
  rcases hx with hk | hk
  · refine wpAny_storeName_local hk hn (fun h' hn' hs => ?_) hcls
    obtain ⟨oL, _, _, hoL, _⟩ := id hn
    refine h _ ⟨I.ok, I.os, I.bare, ⟨fun b o e n hb hx => ?_, fun b o e n hb hx => ?_, I.base.free, fun b o e hx => ?_, I.base.tups, I.base.frzs, I.base.tbls⟩, ⟨_, hn', fun j y v' e1 e2 e3 => ?_⟩, fun y c e => ?_, I.free, I.freeC, fun p hp => ?_, tracked ⟨oL, hoL, I.free⟩ hs, by simpa using I.len⟩ ⟨_, hs, .inl rfl⟩
    · exact (hs.2 b (Nat.ne_of_lt (Nat.lt_of_lt_of_le (Heap.lt_size e) I.ok.above))).trans (I.base.keep b o e n hb hx)
    · obtain ⟨sl, e1⟩ := I.base.slot b o e n hb hx
      exact ⟨sl, (hs.2 b (Nat.ne_of_lt (Nat.lt_of_lt_of_le (Heap.lt_size e) I.ok.above))).trans e1⟩
    · obtain ⟨o', e1⟩ := I.base.there b o e hx
      exact ⟨o', (hs.2 b (Nat.ne_of_lt (Nat.lt_of_lt_of_le (Heap.lt_size e) I.ok.above))).trans e1⟩
    · by_cases hj : j = i
      · subst hj
        rw [hi] at e1; cases e1
        rw [List.getElem?_set_self hiσ] at e2
        cases e2
        exact ⟨u, r, .inl ⟨hk, by simp⟩⟩
      · rw [List.getElem?_set_ne (Ne.symm hj)] at e2
        obtain ⟨u', r', q⟩ := hl j y v' e1 e2 e3
        refine ⟨u', r', ?_⟩
        rcases q with ⟨k, e⟩ | ⟨k, c, e, z⟩
        · refine .inl ⟨k, ?_⟩
          have : y ≠ x := fun e => hj (nodup_ix hN e1 (e ▸ hi))
          simp [this, e]
        · exact .inr ⟨k, c, e, z.sameBut hs (cne y c e)⟩
    · obtain ⟨w', z⟩ := I.cell y c e
      exact ⟨w', z.sameBut hs (cne y c e)⟩
    · obtain ⟨e, n, ne, nf, d⟩ := I.pin p hp
      exact ⟨(hs.2 p.1 ne).trans e, n, ne, nf, d⟩
  · have hfn : X.fn x = true := by
      rcases hf with z | z
      · exact z
      · rw [z] at hk; cases hk
    obtain ⟨c, hc⟩ := I.ok.has x (.inl hk)
    obtain ⟨w', z⟩ := I.cell x c hc
    refine wpAny_storeName_cell I.ok.kind hk hc z (fun h' hc' hs => ?_)
    obtain ⟨oc, hoc, hocd⟩ := id z
    refine h { s with heap := h' } ⟨I.ok, I.os, I.bare, ⟨fun b o e n hb hx => ?_, fun b o e n hb hx => ?_, I.base.free, fun b o e hx => ?_, I.base.tups, I.base.frzs, I.base.tbls⟩, ⟨m, hn.sameBut hs (Ne.symm (cne x c hc)), fun j y v' e1 e2 e3 => ?_⟩, fun y c' e => ?_, I.free, I.freeC, fun p hp => ?_, tracked ⟨oc, hoc, I.freeC x c hc⟩ hs, by simpa using I.len⟩ ⟨c, hs, .inr hc⟩
    · exact (hs.2 b (Nat.ne_of_lt (Nat.lt_of_lt_of_le (Heap.lt_size e) (I.ok.cab x c hfn hc)))).trans (I.base.keep b o e n hb hx)
    · obtain ⟨sl, e1⟩ := I.base.slot b o e n hb hx
      exact ⟨sl, (hs.2 b (Nat.ne_of_lt (Nat.lt_of_lt_of_le (Heap.lt_size e) (I.ok.cab x c hfn hc)))).trans e1⟩
    · obtain ⟨o', e1⟩ := I.base.there b o e hx
      exact ⟨o', (hs.2 b (Nat.ne_of_lt (Nat.lt_of_lt_of_le (Heap.lt_size e) (I.ok.cab x c hfn hc)))).trans e1⟩
    · by_cases hj : j = i
      · subst hj
        rw [hi] at e1; cases e1
        rw [List.getElem?_set_self hiσ] at e2
        cases e2
        exact ⟨u, r, .inr ⟨.inl hk, c, hc, hc'⟩⟩
      · rw [List.getElem?_set_ne (Ne.symm hj)] at e2
        obtain ⟨u', r', q⟩ := hl j y v' e1 e2 e3
        refine ⟨u', r', ?_⟩
        rcases q with q | ⟨k, c', e, z'⟩
        · exact .inl q
        · refine .inr ⟨k, c', e, z'.sameBut hs ?_⟩
          rintro rfl
          exact hj (nodup_ix hN e1 (I.ok.inj _ _ _ e hc ▸ hi))
    · by_cases hcc : c' = c
      · subst hcc; exact ⟨_, hc'⟩
      · obtain ⟨w2, z2⟩ := I.cell y c' e
        exact ⟨w2, z2.sameBut hs hcc⟩
    · obtain ⟨e, n, ne, nf, d⟩ := I.pin p hp
      refine ⟨(hs.2 p.1 ?_).trans e, n, ne, nf, d⟩
      intro q
      rw [q, hoc] at e
      have q' : oc = p.2 := Option.some.inj e
      exact d w' (by rw [← q']; exact hocd)
theorem store_ok {M : Model} {A : Around} {E : Value → Shared → Prop} {i : Nat} {x : Str} {v : V} {u : Value} {Q : Unit → Shared → Prop} (I : Inv X pins σ H s) (hN : X.N.Nodup) (hi : X.N[i]? = some x) (hx : Loc X.env.scope x) (r : RelV v u)
    (h : ∀ s', Inv X pins (σ.set i (some v)) H s' → Q () s') (hf : X.fn x = true ∨ X.env.scope.names.lookup x = some .local := by first | exact .inl rfl | exact .inr rfl | assumption) : wpAny M A (storeName X.env x u) Q E s :=
  store_ok2 I hN hi hx r (fun s' I' _ => h s' I') hf
/-- behind a call or a block, the state as it is -/
theorem Inv.call' {s' : Shared} {ch : List Addr} (I : Inv X pins σ H s) (ho : s'.os = s.os) (u : Un (frs X.stack) ch H H' s.heap s'.heap) (hok : HOk X.prog X.w H' s'.heap) (hg : AllBare s'.gens)
    (hch : ∀ b ∈ ch, (b ∈ X.ex ∨ X.s₀.heap.objs.size ≤ b) ∧ b ≠ X.env.locals ∧ (∀ x c, X.env.cells.lookup x = some c → c ≠ b) ∧ ∀ p ∈ X.pn ++ pins, p.1 ≠ b) : Inv X pins σ H' s' := by
  obtain ⟨h', g', d', t', o'⟩ := s'
  have e : o' = s.os := ho
  subst e
  exact I.call (g' := g') (t' := t') (d' := d') u hok hg hch
end

/-! ### the judgements -/
/-- an exception: its class, its own dict's address (where it has one), the abstract heap behind it -/
abbrev XK := Value → Option Addr → Hp → Prop
abbrev St := List (Option V)
abbrev VK := V → Hp → Prop
/-- an expression's reading; a test's; an argument list's -/
abbrev TE := St → Hp → VK → Prop
abbrev TT := St → Hp → (Bool → Hp → Prop) → Prop
abbrev TA := St → Hp → (List V → Hp → Prop) → Prop
/-- what is wanted behind a statement -/
structure Ends where
  nx : St → Hp → Prop
  rt : VK
  bk : St → Hp → Prop := fun _ _ => False
  ct : St → Hp → Prop := fun _ _ => False
abbrev TS := Ends → St → Hp → Prop

def EP (X : Cx) (pins : List (Addr × Obj)) (σ : St) (Q : VK) (u : Value) (s' : Shared) : Prop := ∃ v H', Inv X pins σ H' s' ∧ RelV v u ∧ Q v H'
def TP (X : Cx) (pins : List (Addr × Obj)) (σ : St) (Q : Bool → Hp → Prop) (b : Bool) (s' : Shared) : Prop := ∃ H', Inv X pins σ H' s' ∧ Q b H'
def AP (X : Cx) (pins : List (Addr × Obj)) (σ : St) (Q : List V → Hp → Prop) (us : List Value) (s' : Shared) : Prop := ∃ vs H', Inv X pins σ H' s' ∧ Vals vs us ∧ Q vs H'
def SP (X : Cx) (pins : List (Addr × Obj)) (D : Ends) (f : Flow) (s' : Shared) : Prop :=
  match f with
  | .next => ∃ σ' H', Inv X pins σ' H' s' ∧ D.nx σ' H'
  | .brk => ∃ σ' H', Inv X pins σ' H' s' ∧ D.bk σ' H'
  | .cont => ∃ σ' H', Inv X pins σ' H' s' ∧ D.ct σ' H'
  | .ret u => ∃ v σ' H', Inv X pins σ' H' s' ∧ RelV v u ∧ D.rt v H'

def PE (X : Cx) (e : Expr) (t : TE) : Prop :=
  ∀ (pins : List (Addr × Obj)) (s : Shared) (σ : St) (H : Hp) (Q : VK), Inv X pins σ H s → t σ H Q → wpAny (model X.prog X.w) X.A (eval e X.env) (EP X pins σ Q) X.xe s
def PT (X : Cx) (e : Expr) (t : TT) : Prop :=
  ∀ (pins : List (Addr × Obj)) (s : Shared) (σ : St) (H : Hp) (Q : Bool → Hp → Prop), Inv X pins σ H s → t σ H Q → wpAny (model X.prog X.w) X.A (isTrue e X.env (eval e X.env)) (TP X pins σ Q) X.xe s
/-- a test whatever its 'whole' is (and, or) -/
def PW (X : Cx) (e : Expr) (t : TT) : Prop :=
  ∀ (whole : Sem Value) (pins : List (Addr × Obj)) (s : Shared) (σ : St) (H : Hp) (Q : Bool → Hp → Prop), Inv X pins σ H s → t σ H Q → wpAny (model X.prog X.w) X.A (isTrue e X.env whole) (TP X pins σ Q) X.xe s
theorem PW.pt {X : Cx} {e : Expr} {t : TT} (h : PW X e t) : PT X e t := h _
/-- an argument list (no star), from the left -/
def PA (X : Cx) (es : List Expr) (t : TA) : Prop :=
  ∀ (pos : Pos) (pins : List (Addr × Obj)) (s : Shared) (σ : St) (H : Hp) (Q : List V → Hp → Prop), Inv X pins σ H s → t σ H Q → wpAny (model X.prog X.w) X.A (spliced (backTo pos (starEach es X.env))) (AP X pins σ Q) X.xe s
def PS (X : Cx) (st : Stmt) (t : TS) : Prop :=
  ∀ (pins : List (Addr × Obj)) (s : Shared) (σ : St) (H : Hp) (D : Ends), Inv X pins σ H s → t D σ H → wpAny (model X.prog X.w) X.A (exec st X.env) (SP X pins D) X.xe s
def PSs (X : Cx) (st : List Stmt) (t : TS) : Prop :=
  ∀ (pins : List (Addr × Obj)) (s : Shared) (σ : St) (H : Hp) (D : Ends), Inv X pins σ H s → t D σ H → wpAny (model X.prog X.w) X.A (execs st X.env) (SP X pins D) X.xe s
/-- weaken the end -/
theorem thn {α : Type} {t : Sem α} {Q Q' : α → Shared → Prop} {M : Model} {A : Around} {E : Value → Shared → Prop} {s : Shared} (h : wpAny M A t Q E s) (hQ : ∀ a s, Q a s → Q' a s) : wpAny M A t Q' E s := wpAny_mono h hQ fun _ _ x => x
end L2

namespace L2
open PySem PySem.Spec PyProof.Rows
section
variable {X : Cx}

/-- two expressions in a row -/
theorem bin {a b : Expr} {ta tb : TE} (ha : PE X a ta) (hb : PE X b tb) {pins : List (Addr × Obj)} {s : Shared} {σ : St} {H : Hp} {R : V → V → Hp → Prop} (I : Inv X pins σ H s) (h : ta σ H fun x H1 => tb σ H1 fun y H2 => R x y H2)
    {α : Type} {Q : α → Shared → Prop} {f : Value → Value → Sem α}
    (hf : ∀ v u s2 x y H2, Inv X pins σ H2 s2 → RelV x v → RelV y u → R x y H2 → wpAny (model X.prog X.w) X.A (f v u) Q X.xe s2) :
    wpAny (model X.prog X.w) X.A (eval a X.env) (fun v s₁ => wpAny (model X.prog X.w) X.A (eval b X.env) (fun u s₂ => wpAny (model X.prog X.w) X.A (f v u) Q X.xe s₂) X.xe s₁) X.xe s := by
  refine thn (ha pins s σ H _ I h) fun v s1 ⟨x, H1, I1, r1, q1⟩ => ?_
  refine thn (hb pins s1 σ H1 _ I1 q1) fun u s2 ⟨y, H2, I2, r2, q2⟩ => ?_
  exact hf v u s2 x y H2 I2 r1 r2 q2

/-! ### names and constants -/
def tVar (i : Nat) : TE := fun σ H Q => ∃ v, σ[i]? = some (some v) ∧ Q v H
def tC (v : V) : TE := fun _ H Q => Q v H
theorem pe_var {i : Nat} {x : Str} {pos : Pos} (hN : X.N[i]? = some x) (hv : Vis X.env.scope x) (hd : (x == ("__debug__" : Str)) = false := by decide) (hcd : (x == ("__classdict__" : Str)) = false := by decide) : PE X (.Name x pos) (tVar i) := by
  intro pins s σ H Q I h
  obtain ⟨v, e, h⟩ := h
  obtain ⟨m, hn, hl⟩ := I.loc
  obtain ⟨u, r, l⟩ := hl i x v hN e hv
  have fin : EP X pins σ Q u s := ⟨v, H, I, r, h⟩
  rcases l with ⟨hk, hm⟩ | ⟨hk, c, hc, hcell⟩
  · exact wpAny_Name (wpAny_loadName_local I.ok.kind hk hn hm fin) hd
  · rcases hk with hk | hk
    · exact wpAny_Name (wpAny_loadName_cell I.ok.kind hk hc hcell fin) hd
    · exact wpAny_Name (wpAny_loadName_free I.ok.kind hk hc hcell fin hcd) hd
theorem pe_int {i j pos} : PE X (.Constant (.int i) j pos) (tC (.int i)) := fun _ _ _ H _ I h => wpAny_Constant_int ⟨.int i, H, I.tok _, ⟨_, rfl⟩, h⟩
theorem pe_bl {b j pos} : PE X (.Constant (.bool b) j pos) (tC (.bl b)) := fun _ _ _ H _ I h => Constant_bool ⟨.bl b, H, I, rfl, h⟩
theorem pe_non {j pos} : PE X (.Constant .none j pos) (tC .non) := fun _ _ _ H _ I h => Constant_none ⟨.non, H, I, rfl, h⟩
theorem pe_str {x j pos} : PE X (.Constant (.str x) j pos) (tC (.str x)) := fun _ _ _ H _ I h => Calls.Constant_str ⟨.str x, H, I.tok _, ⟨_, rfl⟩, h⟩

/-- a global name of the def -/
def Gl (X : Cx) (x : Str) : Prop := X.env.kindOf x = some .globalImplicit
theorem ld_glob {E : Value → Shared → Prop} {pins : List (Addr × Obj)} {s : Shared} {σ : St} {H : Hp} {x : Str} {u : Value} {pos : Pos} {Q : Value → Shared → Prop} (I : Inv X pins σ H s) (hg : Gl X x) (hm : X.mg x = some u) (h : Q u s)
    (hd : (x == ("__debug__" : Str)) = false := by decide) : wpAny (model X.prog X.w) X.A (eval (.Name x pos) X.env) Q E s :=
  Calls.Name_function_global I.ok.kind hg (Calls.loadGlobal_global (by rw [I.ok.glob]; exact I.mod.glob.keeps I.bk) hm h) hd
theorem ld_blt {E : Value → Shared → Prop} {pins : List (Addr × Obj)} {s : Shared} {σ : St} {H : Hp} {x : Str} {u : Value} {pos : Pos} {Q : Value → Shared → Prop} (I : Inv X pins σ H s) (hg : Gl X x) (hm : X.mg x = none) (hv : bootBuiltins x = some u) (h : Q u s)
    (hn : x ≠ "__name__" := by decide) (hd : (x == ("__debug__" : Str)) = false := by decide) : wpAny (model X.prog X.w) X.A (eval (.Name x pos) X.env) Q E s := by
  obtain ⟨mb, h1, h2⟩ := I.mod.blt
  exact Calls.Name_function_global I.ok.kind hg (Calls.loadGlobal_builtin (by rw [I.ok.glob]; exact I.mod.glob.keeps I.bk) hm (by rw [I.ok.blt]; exact h1.keeps I.bk) ((h2 x hn).trans hv) h) hd
/-- a module's constant, a class, a function, as a value -/
theorem pe_glob {x : Str} {v : V} {u : Value} {pos : Pos} (hg : Gl X x) (hm : X.mg x = some u) (r : RelV v u) (hd : (x == ("__debug__" : Str)) = false := by decide) : PE X (.Name x pos) (tC v) :=
  fun _ _ _ H _ I h => ld_glob I hg hm ⟨v, H, I, r, h⟩ hd
theorem pe_bltn {x : Str} {v : V} {u : Value} {pos : Pos} (hg : Gl X x) (hm : X.mg x = none) (hv : bootBuiltins x = some u) (r : RelV v u) (hn : x ≠ "__name__" := by decide) (hd : (x == ("__debug__" : Str)) = false := by decide) : PE X (.Name x pos) (tC v) :=
  fun _ _ _ H _ I h => ld_blt I hg hm hv ⟨v, H, I, r, h⟩ hn hd

/-! ### arithmetic -/
/-- two ints -/
def t2I (ta tb : TE) (k : Int → Int → Hp → Prop) : St → Hp → Prop := fun σ H => ta σ H fun x H1 => tb σ H1 fun y H2 => ∃ i j, x = .int i ∧ y = .int j ∧ k i j H2
def tAdd (ta tb : TE) : TE := fun σ H Q => t2I ta tb (fun i j H2 => Q (.int (i + j)) H2) σ H
def tSub (ta tb : TE) : TE := fun σ H Q => t2I ta tb (fun i j H2 => Q (.int (i - j)) H2) σ H
/-- the left factor below 2^64 -/
def tMul (ta tb : TE) : TE := fun σ H Q => t2I ta tb (fun i j H2 => (-(2 ^ 64) < i ∧ i < 2 ^ 64) ∧ Q (.int (i * j)) H2) σ H
variable {a b : Expr} {ta tb : TE} {pos : Pos}
theorem pe_add (ha : PE X a ta) (hb : PE X b tb) : PE X (.BinOp a .Add b pos) (tAdd ta tb) := by
  intro pins s σ H Q I h
  refine wpAny_BinOp (bin ha hb I h fun v u s2 x y H2 I2 rx ry q => ?_)
  obtain ⟨i, j, rfl, rfl, q⟩ := q
  obtain ⟨t, rfl⟩ := rx
  obtain ⟨t', rfl⟩ := ry
  exact add_int ⟨.int _, H2, I2.tok _, ⟨_, rfl⟩, q⟩
theorem pe_sub (ha : PE X a ta) (hb : PE X b tb) : PE X (.BinOp a .Sub b pos) (tSub ta tb) := by
  intro pins s σ H Q I h
  refine wpAny_BinOp (bin ha hb I h fun v u s2 x y H2 I2 rx ry q => ?_)
  obtain ⟨i, j, rfl, rfl, q⟩ := q
  obtain ⟨t, rfl⟩ := rx
  obtain ⟨t', rfl⟩ := ry
  exact sub_int ⟨.int _, H2, I2.tok _, ⟨_, rfl⟩, q⟩
theorem pe_mul (ha : PE X a ta) (hb : PE X b tb) : PE X (.BinOp a .Mult b pos) (tMul ta tb) := by
  intro pins s σ H Q I h
  refine wpAny_BinOp (bin ha hb I h fun v u s2 x y H2 I2 rx ry q => ?_)
  obtain ⟨i, j, rfl, rfl, ⟨q1, q2⟩, q⟩ := q
  obtain ⟨t, rfl⟩ := rx
  obtain ⟨t', rfl⟩ := ry
  exact mul_int ⟨.int _, H2, I2.tok _, ⟨_, rfl⟩, q⟩ (.of_left (intBits_le_64 q1 q2))

/-! ### comparisons -/
def PC (X : Cx) (op : CmpOp) (a b : Expr) (t : TE) : Prop :=
  ∀ (pins : List (Addr × Obj)) (s : Shared) (σ : St) (H : Hp) (Q : VK), Inv X pins σ H s → t σ H Q →
    wpAny (model X.prog X.w) X.A (eval a X.env) (fun v s₁ => wpAny (model X.prog X.w) X.A (eval b X.env) (fun u s₂ => wpAny (model X.prog X.w) X.A (compareOp op v u) (EP X pins σ Q) X.xe s₂) X.xe s₁) X.xe s
theorem nobehind (b : Expr) {op : CmpOp} (h : op ≠ .In) (h2 : op ≠ .NotIn) : behindInMarks op b = false := by
  have e1 : (op == CmpOp.In) = false := by cases op <;> first | rfl | exact absurd rfl h
  have e2 : (op == CmpOp.NotIn) = false := by cases op <;> first | rfl | exact absurd rfl h2
  cases b <;> simp [behindInMarks, e1, e2]
def tCmp (p : Int → Int → Bool) (ta tb : TE) : TE := fun σ H Q => t2I ta tb (fun i j H2 => Q (.bl (p i j)) H2) σ H
abbrev tLt : TE → TE → TE := tCmp fun i j => decide (i < j)
abbrev tLe : TE → TE → TE := tCmp fun i j => decide (i ≤ j)
abbrev tGt : TE → TE → TE := tCmp fun i j => decide (j < i)
abbrev tGe : TE → TE → TE := tCmp fun i j => decide (j ≤ i)
abbrev tEqI : TE → TE → TE := tCmp fun i j => decide (i = j)
abbrev tNeI : TE → TE → TE := tCmp fun i j => !decide (i = j)
/-- a comparison of two ints, by its rule -/
theorem pc_int {op : CmpOp} {p : Int → Int → Bool} (ha : PE X a ta) (hb : PE X b tb)
    (rule : ∀ (i j : Int) (t u : Tok) (Q : Value → Shared → Prop) (s : Shared), Q (.bool (p i j)) s → wpAny (model X.prog X.w) X.A (compareOp op (.int i t) (.int j u)) Q X.xe s) : PC X op a b (tCmp p ta tb) := by
  intro pins s σ H Q I h
  refine bin ha hb I h fun v u s2 x y H2 I2 rx ry q => ?_
  obtain ⟨i, j, rfl, rfl, q⟩ := q
  obtain ⟨t, rfl⟩ := rx
  obtain ⟨t', rfl⟩ := ry
  exact rule i j t t' _ s2 ⟨.bl _, H2, I2, rfl, q⟩
theorem pc_lt (ha : PE X a ta) (hb : PE X b tb) : PC X .Lt a b (tLt ta tb) := pc_int ha hb fun _ _ _ _ _ _ h => lt_int h
theorem pc_le (ha : PE X a ta) (hb : PE X b tb) : PC X .LtE a b (tLe ta tb) := pc_int ha hb fun _ _ _ _ _ _ h => le_int h
theorem pc_gt (ha : PE X a ta) (hb : PE X b tb) : PC X .Gt a b (tGt ta tb) := pc_int ha hb fun _ _ _ _ _ _ h => gt_int h
theorem pc_ge (ha : PE X a ta) (hb : PE X b tb) : PC X .GtE a b (tGe ta tb) := pc_int ha hb fun _ _ _ _ _ _ h => ge_int h
theorem pc_eqI (ha : PE X a ta) (hb : PE X b tb) : PC X .Eq a b (tEqI ta tb) := pc_int ha hb fun _ _ _ _ _ _ h => eq_int (by rw [Bool.beq_eq_decide_eq]; exact h)
theorem pc_neI (ha : PE X a ta) (hb : PE X b tb) : PC X .NotEq a b (tNeI ta tb) := pc_int ha hb fun _ _ _ _ _ _ h => ne_int (by rw [bne, Bool.beq_eq_decide_eq]; exact h)
/-- is None -/
def tIsN (ta : TE) : TE := fun σ H Q => ta σ H fun x H1 => Q (.bl (decide (x = .non))) H1
def tNotN (ta : TE) : TE := fun σ H Q => ta σ H fun x H1 => Q (.bl (!decide (x = .non))) H1
theorem RelV.none_iff {x : V} {v : Value} (r : RelV x v) : (v == Value.none) = decide (x = .non) := by
  cases x with
  | non => cases r; rfl
  | bl _ => cases r; rfl
  | int _ => obtain ⟨t, rfl⟩ := r; rfl
  | str _ => obtain ⟨t, rfl⟩ := r; rfl
  | byt _ => obtain ⟨t, rfl⟩ := r; rfl
  | flt _ => obtain ⟨t, rfl⟩ := r; rfl
  | ref _ => cases r; rfl
  | ty _ => cases r; rfl
theorem pc_isN {j pos'} (ha : PE X a ta) : PC X .Is a (.Constant .none j pos') (tIsN ta) := by
  intro pins s σ H Q I h
  refine thn (ha pins s σ H _ I h) fun v s1 ⟨x, H1, I1, r1, q1⟩ => ?_
  exact Constant_none (is_none_gen ⟨.bl _, H1, I1, by rw [r1.none_iff]; rfl, q1⟩)
theorem pc_notN {j pos'} (ha : PE X a ta) : PC X .IsNot a (.Constant .none j pos') (tNotN ta) := by
  intro pins s σ H Q I h
  refine thn (ha pins s σ H _ I h) fun v s1 ⟨x, H1, I1, r1, q1⟩ => ?_
  exact Constant_none (isnot_none_gen ⟨.bl _, H1, I1, by rw [r1.none_iff]; rfl, q1⟩)
/-- a comparison as a value, as a test -/
def tB (t : TE) : TT := fun σ H Q => t σ H fun x H1 => ∃ c, x = .bl c ∧ Q c H1
theorem pe_cmp {op : CmpOp} {t : TE} (h : PC X op a b t) (h1 : behindInMarks op b = false := by first | exact nobehind _ (by decide) (by decide) | rfl) : PE X (.Compare a [op] [b] pos) t := fun pins s σ H Q I hw => wpAny_Compare1 (h pins s σ H Q I hw) h1
theorem pt_cmp {op : CmpOp} {t : TE} (h : PC X op a b t) (h1 : behindInMarks op b = false := by first | exact nobehind _ (by decide) (by decide) | rfl) : PT X (.Compare a [op] [b] pos) (tB t) := by
  intro pins s σ H Q I hw
  refine wpAny_isTrue_Compare1 (thn (h pins s σ H _ I hw) fun v s1 h1 => thn h1 fun u s2 h2 => thn h2 fun c s3 ⟨x, H1, I1, r1, q1⟩ => ?_) h1
  obtain ⟨d, rfl, q⟩ := q1
  cases r1
  exact wpAny_truthy_bool ⟨H1, I1, q⟩
/-- an expression whose value is a bool, as a test -/
theorem pt_val {e : Expr} {t : TE} (h : PE X e t) (he : ∀ whole, isTrue e X.env whole = (do let v ← whole; standAt e.pos; holding [v] (truthy v)) := by intro _; rfl) : PT X e (tB t) := by
  intro pins s σ H Q I hw
  refine isTrue_plain (thn (h pins s σ H _ I hw) fun v s1 ⟨x, H1, I1, r1, q1⟩ => ?_) (he _)
  obtain ⟨d, rfl, q⟩ := q1
  cases r1
  exact wpAny_truthy_bool ⟨H1, I1, q⟩

/-! ### and, or, not -/
variable {tA tB' : TT} {rest : List Expr}
def tAnd (t u : TT) : TT := fun σ H Q => t σ H fun c H1 => if c = true then u σ H1 Q else Q false H1
def tOr (t u : TT) : TT := fun σ H Q => t σ H fun c H1 => if c = true then Q true H1 else u σ H1 Q
def tNot (t : TT) : TT := fun σ H Q => t σ H fun c H1 => Q (!c) H1
theorem pw_and1 (ha : PT X a tA) : PW X (.BoolOp .And [a] pos) tA := by
  intro wh pins s σ H Q I h
  refine isTrue_and (thn (ha pins s σ H Q I h) fun c s1 e => ?_)
  cases c with
  | true => exact isTrue_and_nil e
  | false => exact e
theorem pw_or1 (ha : PT X a tA) : PW X (.BoolOp .Or [a] pos) tA := by
  intro wh pins s σ H Q I h
  refine isTrue_or (thn (ha pins s σ H Q I h) fun c s1 e => ?_)
  cases c with
  | false => exact isTrue_or_nil e
  | true => exact e
theorem pw_and (ha : PT X a tA) (hb : PW X (.BoolOp .And (b :: rest) pos) tB') : PW X (.BoolOp .And (a :: b :: rest) pos) (tAnd tA tB') := by
  intro wh pins s σ H Q I h
  refine isTrue_and (thn (ha pins s σ H _ I h) fun c s1 ⟨H1, I1, q1⟩ => ?_)
  cases c with
  | true => exact hb wh pins s1 σ H1 Q I1 q1
  | false => exact ⟨H1, I1, q1⟩
theorem pw_or (ha : PT X a tA) (hb : PW X (.BoolOp .Or (b :: rest) pos) tB') : PW X (.BoolOp .Or (a :: b :: rest) pos) (tOr tA tB') := by
  intro wh pins s σ H Q I h
  refine isTrue_or (thn (ha pins s σ H _ I h) fun c s1 ⟨H1, I1, q1⟩ => ?_)
  cases c with
  | true => exact ⟨H1, I1, q1⟩
  | false => exact hb wh pins s1 σ H1 Q I1 q1
theorem pt_not (ha : PT X a tA) : PT X (.UnaryOp .Not a pos) (tNot tA) := by
  intro pins s σ H Q I h
  exact isTrue_not (ha pins s σ H (fun c H1 => Q (!c) H1) I h)
/-- .. as values (bools) -/
def tAndV (ta tb : TE) : TE := fun σ H Q => ta σ H fun x H1 => ∃ c, x = .bl c ∧ if c = true then tb σ H1 Q else Q (.bl false) H1
def tOrV (ta tb : TE) : TE := fun σ H Q => ta σ H fun x H1 => ∃ c, x = .bl c ∧ if c = true then Q (.bl true) H1 else tb σ H1 Q
def tNotV (ta : TE) : TE := fun σ H Q => ta σ H fun x H1 => ∃ c, x = .bl c ∧ Q (.bl (!c)) H1
theorem pe_one {op} {t : TE} (h : PE X a t) : PE X (.BoolOp op [a] pos) t := fun pins s σ H Q I hw => BoolOp_one (h pins s σ H Q I hw)
theorem pe_and (ha : PE X a ta) (hb : PE X (.BoolOp .And (b :: rest) pos) tb) : PE X (.BoolOp .And (a :: b :: rest) pos) (tAndV ta tb) := by
  intro pins s σ H Q I h
  refine BoolOp_and (thn (ha pins s σ H _ I h) fun v s1 ⟨x, H1, I1, r1, q1⟩ => ?_)
  obtain ⟨c, rfl, q1⟩ := q1
  cases r1
  refine wpAny_truthy_bool ?_
  cases c with
  | true => exact hb pins s1 σ H1 Q I1 q1
  | false => exact ⟨.bl false, H1, I1, rfl, q1⟩
theorem pe_or (ha : PE X a ta) (hb : PE X (.BoolOp .Or (b :: rest) pos) tb) : PE X (.BoolOp .Or (a :: b :: rest) pos) (tOrV ta tb) := by
  intro pins s σ H Q I h
  refine BoolOp_or (thn (ha pins s σ H _ I h) fun v s1 ⟨x, H1, I1, r1, q1⟩ => ?_)
  obtain ⟨c, rfl, q1⟩ := q1
  cases r1
  refine wpAny_truthy_bool ?_
  cases c with
  | false => exact hb pins s1 σ H1 Q I1 q1
  | true => exact ⟨.bl true, H1, I1, rfl, q1⟩
theorem pe_not (ha : PE X a ta) : PE X (.UnaryOp .Not a pos) (tNotV ta) := by
  intro pins s σ H Q I h
  refine UnaryOp_ (thn (ha pins s σ H _ I h) fun v s1 ⟨x, H1, I1, r1, q1⟩ => ?_)
  obtain ⟨c, rfl, q1⟩ := q1
  cases r1
  exact not_of (wpAny_truthy_bool ⟨.bl (!c), H1, I1, rfl, q1⟩)
/-- a if t else b -/
def tIf (t : TT) (ta tb : TE) : TE := fun σ H Q => t σ H fun c H1 => if c = true then ta σ H1 Q else tb σ H1 Q
theorem pe_ifExp {c : Expr} (hc : PT X c tA) (ha : PE X a ta) (hb : PE X b tb) : PE X (.IfExp c a b pos) (tIf tA ta tb) := by
  intro pins s σ H Q I h
  refine wpAny_IfExp (thn (hc pins s σ H _ I h) fun d s1 ⟨H1, I1, q1⟩ => ?_)
  cases d with
  | true => exact ha pins s1 σ H1 Q I1 q1
  | false => exact hb pins s1 σ H1 Q I1 q1
end
end L2

namespace L2
open PySem PySem.Spec PyProof.Rows

/-! ### a list, a tuple that is read: tracked, frozen, or an object of the module -/
def SqL (K : PySem.W.Frag) (H : Hp) (a : Addr) (xs : List V) : Prop :=
  Rd H a (.lst xs) ∨
    ∃ (o : Obj) (its : Array Value) (n : Nat), K.lookup a = some o ∧ o.cls = .type "list" ∧ o.dict = none ∧ o.data = .seq its n ∧ its.size ≤ sizeLine ∧ Vals xs its.toList
def SqT (K : PySem.W.Frag) (H : Hp) (a : Addr) (xs : List V) : Prop :=
  Rd H a (.tup xs) ∨
    ∃ (o : Obj) (its : Array Value) (n : Nat), K.lookup a = some o ∧ o.cls = .type "tuple" ∧ o.data = .seq its n ∧ its.size ≤ sizeLine ∧ Vals xs its.toList
def absV : Value → Option V
  | .none => some .non
  | .bool b => some (.bl b)
  | .int i _ => some (.int i)
  | .str x _ => some (.str x)
  | .bytes b _ => some (.byt b)
  | .float b _ => some (.flt b)
  | .ref a => some (.ref a)
  | .type n => some (.ty n)
  | _ => none
theorem RelV.abs {x : V} {u : Value} (r : RelV x u) : absV u = some x := by
  cases x with
  | non => cases r; rfl
  | bl _ => cases r; rfl
  | int _ => obtain ⟨t, rfl⟩ := r; rfl
  | str _ => obtain ⟨t, rfl⟩ := r; rfl
  | byt _ => obtain ⟨t, rfl⟩ := r; rfl
  | flt _ => obtain ⟨t, rfl⟩ := r; rfl
  | ref _ => cases r; rfl
  | ty _ => cases r; rfl
theorem RelV.inj {x y : V} {u : Value} (r : RelV x u) (q : RelV y u) : x = y := Option.some.inj (r.abs.symm.trans q.abs)
theorem Vals.inj : ∀ {xs ys : List V} {us : List Value}, Vals xs us → Vals ys us → xs = ys
  | _, _, _, .nil, .nil => rfl
  | _, _, _, .cons r t, .cons r' t' => by rw [r.inj r', Vals.inj t t']
section
variable {X : Cx} {pins : List (Addr × Obj)} {σ : St} {H : Hp} {s : Shared} {a : Addr} {xs ys : List V}
theorem SqL.of {K : PySem.W.Frag} (h : H a = some (.lst xs)) : SqL K H a xs := .inl (.inl h)
theorem SqT.of {K : PySem.W.Frag} (h : H a = some (.tup xs)) : SqT K H a xs := .inl (.inl h)
theorem Inv.list (I : Inv X pins σ H s) (h : SqL X.K H a xs) : ∃ its : List Value, Vals xs its ∧ PlainL s.heap a its.toArray ∧ xs.length ≤ sizeLine := by
  rcases h with h | ⟨o, its, n, hk, hc, hd, hs, hz, r⟩
  · obtain ⟨z, its, n, r, e⟩ := h.ok I.hok
    exact ⟨its, r, ⟨_, n, e, rfl, rfl, rfl⟩, z⟩
  · refine ⟨its.toList, r, ⟨o, n, I.kIn a o hk, hc, hd, by simpa using hs⟩, ?_⟩
    have e := r.length
    simp only [Array.length_toList] at e
    omega
theorem Inv.tuple (I : Inv X pins σ H s) (h : SqT X.K H a xs) : ∃ its : List Value, Vals xs its ∧ IsTup s.heap a its.toArray ∧ xs.length ≤ sizeLine := by
  rcases h with h | ⟨o, its, n, hk, hc, hs, hz, r⟩
  · obtain ⟨z, its, r, p⟩ := h.ok I.hok
    exact ⟨its, r, p, z⟩
  · refine ⟨its.toList, r, ⟨o, I.kIn a o hk, hc, n, by simpa using hs⟩, ?_⟩
    have e := r.length
    simp only [Array.length_toList] at e
    omega
theorem Inv.list_inj (I : Inv X pins σ H s) (h : SqL X.K H a xs) (h' : SqL X.K H a ys) : xs = ys := by
  obtain ⟨its, r, ⟨o, n, e, _, _, d⟩, _⟩ := I.list h
  obtain ⟨its', r', ⟨o', n', e', _, _, d'⟩, _⟩ := I.list h'
  rw [e] at e'; cases e'
  rw [d] at d'
  injection d' with d1 _
  have : its = its' := by simpa using congrArg Array.toList d1
  subst this
  exact r.inj r'
theorem Inv.tuple_inj (I : Inv X pins σ H s) (h : SqT X.K H a xs) (h' : SqT X.K H a ys) : xs = ys := by
  obtain ⟨its, r, ⟨o, e, _, n, d⟩, _⟩ := I.tuple h
  obtain ⟨its', r', ⟨o', e', _, n', d'⟩, _⟩ := I.tuple h'
  rw [e] at e'; cases e'
  rw [d] at d'
  injection d' with d1 _
  have : its = its' := by simpa using congrArg Array.toList d1
  subst this
  exact r.inj r'
end

/-! ### another wish about exceptions -/
abbrev Cx.wish (X : Cx) (E : Value → Shared → Prop) : Cx := { X with xe := E }
/-- no exception leaves -/
abbrev Cx.nox (X : Cx) : Cx := X.wish fun _ _ => False
theorem Cx.Ok.wish {X : Cx} (ok : X.Ok) (E : Value → Shared → Prop) : (X.wish E).Ok :=
  ⟨ok.mod, ok.kind, ok.glob, ok.blt, ok.above, ok.inj, ok.has, ok.cab, ok.hd, ok.frames, ok.stk, ok.exf, ok.bs, ok.bsz, ok.noex, ok.exfs, ok.funs, ok.frf⟩
theorem Cx.Ok.unwish {X : Cx} {E : Value → Shared → Prop} (ok : (X.wish E).Ok) : X.Ok :=
  ⟨ok.mod, ok.kind, ok.glob, ok.blt, ok.above, ok.inj, ok.has, ok.cab, ok.hd, ok.frames, ok.stk, ok.exf, ok.bs, ok.bsz, ok.noex, ok.exfs, ok.funs, ok.frf⟩
section
variable {X : Cx} {pins : List (Addr × Obj)} {σ : St} {H : Hp} {s : Shared} {E : Value → Shared → Prop}
theorem Inv.wish (I : Inv X pins σ H s) (E : Value → Shared → Prop) : Inv (X.wish E) pins σ H s := ⟨I.ok.wish E, I.os, I.bare, I.base, I.loc, I.cell, I.free, I.freeC, I.pin, I.hok, I.len⟩
theorem Inv.unwish (I : Inv (X.wish E) pins σ H s) : Inv X pins σ H s := ⟨I.ok.unwish, I.os, I.bare, I.base, I.loc, I.cell, I.free, I.freeC, I.pin, I.hok, I.len⟩
theorem SP.unwish {D : Ends} {f : Flow} {s' : Shared} (h : SP (X.wish E) pins D f s') : SP X pins D f s' := by
  cases f with
  | next => obtain ⟨σ', H', I, q⟩ := h; exact ⟨σ', H', I.unwish, q⟩
  | brk => obtain ⟨σ', H', I, q⟩ := h; exact ⟨σ', H', I.unwish, q⟩
  | cont => obtain ⟨σ', H', I, q⟩ := h; exact ⟨σ', H', I.unwish, q⟩
  | ret u => obtain ⟨v, σ', H', I, r, q⟩ := h; exact ⟨v, σ', H', I.unwish, r, q⟩
theorem PE.nox {e : Expr} {t : TE} (h : PE X.nox e t) : PE X e t := fun pins s σ H Q I hw =>
  wpAny_mono (h pins s σ H Q (I.wish _) hw) (fun _ _ ⟨v, H', I', r, q⟩ => ⟨v, H', I'.unwish, r, q⟩) fun _ _ z => False.elim z
theorem PT.nox {e : Expr} {t : TT} (h : PT X.nox e t) : PT X e t := fun pins s σ H Q I hw =>
  wpAny_mono (h pins s σ H Q (I.wish _) hw) (fun _ _ ⟨H', I', q⟩ => ⟨H', I'.unwish, q⟩) fun _ _ z => False.elim z
theorem PSs.nox {st : List Stmt} {t : TS} (h : PSs X.nox st t) : PSs X st t := fun pins s σ H D I hw =>
  wpAny_mono (h pins s σ H D (I.wish _) hw) (fun _ _ q => q.unwish) fun _ _ z => False.elim z
end

/-! ### blocks and small statements -/
section
variable {X : Cx} {st : Stmt} {rest : List Stmt} {t u : TS} {e : Expr} {te : TE} {pos : Pos}
def tNext : TS := fun D σ H => D.nx σ H
def tSeq (t u : TS) : TS := fun D σ H => t { D with nx := u D } σ H
theorem pss_nil : PSs X [] tNext := fun _ _ σ H _ I h => wpAny_execs_nil ⟨σ, H, I, h⟩
theorem pss_cons (h1 : PS X st t) (h2 : PSs X rest u) : PSs X (st :: rest) (tSeq t u) := by
  intro pins s σ H D I h
  refine wpAny_execs_cons (thn (h1 pins s σ H { D with nx := u D } I h) fun f s1 q => ?_)
  cases f with
  | next =>
    obtain ⟨σ', H', I', q⟩ := q
    exact h2 pins s1 σ' H' D I' q
  | ret v => exact q
  | brk => exact q
  | cont => exact q
theorem pss_one (h1 : PS X st t) : PSs X [st] t := by
  intro pins s σ H D I h
  refine wpAny_execs_cons (thn (h1 pins s σ H D I h) fun f s1 q => ?_)
  cases f with
  | next => exact wpAny_execs_nil q
  | ret v => exact q
  | brk => exact q
  | cont => exact q
def tBreak : TS := fun D σ H => D.bk σ H
def tCont : TS := fun D σ H => D.ct σ H
theorem ps_pass : PS X (.Pass pos) tNext := fun _ _ σ H _ I h => wpAny_Pass ⟨σ, H, I, h⟩
theorem ps_break : PS X (.Break pos) tBreak := fun _ _ σ H _ I h => wpAny_Break ⟨σ, H, I, h⟩
theorem ps_continue : PS X (.Continue pos) tCont := fun _ _ σ H _ I h => wpAny_Continue ⟨σ, H, I, h⟩
/-- in a def's body nothing is shown -/
theorem Inv.quiet {pins : List (Addr × Obj)} {σ : St} {H : Hp} {s : Shared} (I : Inv X pins σ H s) : interactive X.env = false := by simp [interactive, I.ok.kind]
/-- a docstring -/
theorem ps_doc {x j pos pos'} : PS X (.Expr (.Constant (.str x) j pos) pos') tNext := fun _ s σ H _ I h => wpAny_Expr (Calls.Constant_str (show SP X _ _ .next { s with toks := s.toks + 1 } from ⟨σ, H, I.tok _, h⟩)) I.quiet
/-- an expression whose value is dropped -/
def tDrop (te : TE) : TS := fun D σ H => te σ H fun _ H1 => D.nx σ H1
theorem ps_expr (he : PE X e te) (hs : swapsWith e none pos.line X.env = pure false := by rfl) : PS X (.Expr e pos) (tDrop te) := by
  intro pins s σ H D I h
  exact wpAny_Expr_any (thn (he pins s σ H _ I h) fun v s1 ⟨x, H1, I1, r1, q1⟩ => ⟨σ, H1, I1, q1⟩) I.quiet hs
def tRet (te : TE) : TS := fun D σ H => te σ H D.rt
theorem ps_ret (he : PE X e te) : PS X (.Return (some e) pos) (tRet te) := by
  intro pins s σ H D I h
  exact wpAny_Return_some (thn (he pins s σ H _ I h) fun v s1 ⟨x, H1, I1, r1, q1⟩ => ⟨x, σ, H1, I1, r1, q1⟩)
def tRetN : TS := fun D _ H => D.rt .non H
theorem ps_retN : PS X (.Return none pos) tRetN := fun _ _ σ H _ I h => wpAny_Return_none ⟨.non, σ, H, I, rfl, h⟩
def tIfS (c : TT) (t u : TS) : TS := fun D σ H => c σ H fun b H1 => if b = true then t D σ H1 else u D σ H1
theorem ps_if {c : Expr} {a b : List Stmt} {tc : TT} (hc : PT X c tc) (ha : PSs X a t) (hb : PSs X b u) : PS X (.If c a b pos) (tIfS tc t u) := by
  intro pins s σ H D I h
  refine wpAny_If (thn (hc pins s σ H _ I h) fun d s1 ⟨H1, I1, q1⟩ => ?_)
  cases d with
  | true => exact ha pins s1 σ H1 D I1 q1
  | false => exact hb pins s1 σ H1 D I1 q1
/-- code that the proof never comes to -/
def tNever : TS := fun _ _ _ => False
theorem ps_never : PS X st tNever := fun _ _ _ _ _ _ h => h.elim
theorem pss_never {sts : List Stmt} : PSs X sts tNever := fun _ _ _ _ _ _ h => h.elim
end

/-! ### targets -/
abbrev TG := V → St → Hp → (St → Hp → Prop) → Prop
abbrev TGs := List V → St → Hp → (St → Hp → Prop) → Prop
def PG (X : Cx) (target : Expr) (t : TG) : Prop :=
  ∀ (pins : List (Addr × Obj)) (s : Shared) (σ : St) (H : Hp) (v : V) (u : Value) (Q : St → Hp → Prop), Inv X pins σ H s → RelV v u → t v σ H Q →
    wpAny (model X.prog X.w) X.A (assign target X.env u) (fun _ s' => ∃ σ' H', Inv X pins σ' H' s' ∧ Q σ' H') X.xe s
/-- several targets, one after another -/
def PGs (X : Cx) (ts : List Expr) (t : TGs) : Prop :=
  ∀ (pins : List (Addr × Obj)) (s : Shared) (σ : St) (H : Hp) (vs : List V) (us : List Value) (Q : St → Hp → Prop), Inv X pins σ H s → Vals vs us → t vs σ H Q →
    wpAny (model X.prog X.w) X.A (assignInOrder ((assignEach ts X.env).map (·.2)) us) (fun _ s' => ∃ σ' H', Inv X pins σ' H' s' ∧ Q σ' H') X.xe s
/-- o[i] = v, by values -/
abbrev TSet := V → V → V → Hp → (Hp → Prop) → Prop
def PSet (X : Cx) (t : TSet) : Prop :=
  ∀ (pins : List (Addr × Obj)) (s : Shared) (σ : St) (H : Hp) (o i v : V) (ov iv u : Value) (Q : Hp → Prop), Inv X pins σ H s → RelV o ov → RelV i iv → RelV v u → t o i v H Q →
    wpAny (model X.prog X.w) X.A (setItem ov iv u) (fun _ s' => ∃ H', Inv X pins σ H' s' ∧ Q H') X.xe s
/-- a op= b, by values -/
abbrev TIp := V → V → Hp → VK → Prop
def PIp (X : Cx) (op : Operator) (t : TIp) : Prop :=
  ∀ (pins : List (Addr × Obj)) (s : Shared) (σ : St) (H : Hp) (x y : V) (v u : Value) (Q : VK), Inv X pins σ H s → RelV x v → RelV y u → t x y H Q →
    wpAny (model X.prog X.w) X.A (inplaceOp op v u) (EP X pins σ Q) X.xe s
section
variable {X : Cx} {pos : Pos}
def gName (i : Nat) : TG := fun v σ H Q => Q (σ.set i (some v)) H
theorem pg_name {i : Nat} {x : Str} (hN : X.N.Nodup) (hi : X.N[i]? = some x) (hx : Loc X.env.scope x) (hf : X.fn x = true ∨ X.env.scope.names.lookup x = some .local := by first | exact .inl rfl | exact .inr rfl | assumption) : PG X (.Name x pos) (gName i) := by
  intro pins s σ H v u Q I r h
  exact wpAny_assign_Name (store_ok I hN hi hx r (fun s' I' => ⟨_, H, I', h⟩) hf)
def gNil : TGs := fun vs σ H Q => vs = [] ∧ Q σ H
def gCons (t : TG) (u : TGs) : TGs := fun vs σ H Q => ∃ v r, vs = v :: r ∧ t v σ H fun σ' H' => u r σ' H' Q
theorem pgs_nil : PGs X [] gNil := by
  intro pins s σ H vs us Q I r h
  obtain ⟨e, h⟩ := h
  subst e
  cases r
  exact assignInOrder_nil ⟨σ, H, I, h⟩
theorem pgs_cons {e : Expr} {es : List Expr} {t : TG} {u : TGs} (h1 : PG X e t) (h2 : PGs X es u)
    (hs : (assignEach (e :: es) X.env).map (·.2) = assign e X.env :: (assignEach es X.env).map (·.2) := by rfl) : PGs X (e :: es) (gCons t u) := by
  intro pins s σ H vs us Q I r h
  obtain ⟨v, vr, e1, h⟩ := h
  subst e1
  cases r with
  | cons r rr =>
    rw [hs]
    refine assignInOrder_cons (thn (h1 pins s σ H _ _ _ I r h) fun _ s1 ⟨σ1, H1, I1, q1⟩ => ?_)
    exact h2 pins s1 σ1 H1 _ _ Q I1 rr q1
/-- (a, b, ..) = a tuple of that length -/
def gTup (K : PySem.W.Frag) (n : Nat) (t : TGs) : TG := fun v σ H Q => ∃ a xs, v = .ref a ∧ SqT K H a xs ∧ xs.length = n ∧ t xs σ H Q
theorem pg_tup {es : List Expr} {k : Nat} {t : TGs} {n : Nat} (hc : X.calm = true) (h : PGs X es t)
    (hn : (assignEach es X.env).length = n := by rfl) (hst : (assignEach es X.env).findIdx? (·.1) = none := by rfl) : PG X (.Tuple es k pos) (gTup X.K n t) := by
  intro pins s σ H v u Q I r hw
  obtain ⟨a, xs, e1, hq, hl, hw⟩ := hw
  subst e1
  cases r
  obtain ⟨its, rv, ht, hz⟩ := I.tuple hq
  refine assign_Tuple_tuple (I.ok.hd hc) ht (by simp [hn, ← hl, rv.length]) hst fun h' hx => ?_
  have I1 : Inv X pins σ H { s with heap := h' } := I.kept (t' := s.toks) fun b o e => hx b o (Nat.ne_of_lt (Heap.lt_size e)) e
  exact h pins _ σ H xs _ Q I1 (by simpa using rv) hw
/-- o[i] = .. -/
def gSub (to ti : TE) (t : TSet) : TG := fun v σ H Q => to σ H fun o H1 => ti σ H1 fun i H2 => t o i v H2 fun H3 => Q σ H3
theorem pg_sub {o i : Expr} {to ti : TE} {t : TSet} (ho : PE X o to) (hi : PE X i ti) (hs : PSet X t)
    (ha : ∀ v, assign (.Subscript o i pos) X.env v = (do
      let ov ← holding [v] (eval o X.env)
      let iv ← holding [v, ov] (eval i X.env)
      standAt pos
      holding [v, ov, iv] (setItem ov iv v)
      release [v, ov, iv] []) := by intro _; rfl) : PG X (.Subscript o i pos) (gSub to ti t) := by
  intro pins s σ H v u Q I r h
  rw [ha]
  refine wpAny_bind (wpAny_holding (thn (ho pins s σ H _ I h) fun ov s1 ⟨x, H1, I1, r1, q1⟩ => ?_))
  refine wpAny_bind (wpAny_holding (thn (hi pins s1 σ H1 _ I1 q1) fun iv s2 ⟨y, H2, I2, r2, q2⟩ => ?_))
  refine wpAny_bind (wpAny_standAt (wpAny_bind (wpAny_holding (thn (hs pins s2 σ H2 x y v ov iv u _ I2 r1 r2 r q2) fun _ s3 ⟨H3, I3, q3⟩ => ?_))))
  exact wpAny_release ⟨σ, H3, I3, q3⟩
/-- target = value -/
def tAsg (te : TE) (g : TG) : TS := fun D σ H => te σ H fun x H1 => g x σ H1 D.nx
theorem ps_asg {tg e : Expr} {te : TE} {g : TG} (he : PE X e te) (hg : PG X tg g) (hs : swapsWithSole [tg] e pos.line X.env = pure false := by rfl) (hw : swappedStores [tg] e X.env = pure none := by rfl)
    (h1 : (assignEach [tg] X.env).map (·.2) = [assign tg X.env] := by rfl) : PS X (.Assign [tg] e pos) (tAsg te g) := by
  intro pins s σ H D I h
  refine wpAny_Assign_stores (thn (he pins s σ H _ I h) fun v s1 ⟨x, H1, I1, r1, q1⟩ => ?_) hs hw
  rw [h1]
  exact thn (hg pins s1 σ H1 x v _ I1 r1 q1) fun _ s2 q => q
/-- name = value -/
theorem ps_set {i : Nat} {x : Str} {e : Expr} {te : TE} {pos' : Pos} (hN : X.N.Nodup) (hi : X.N[i]? = some x) (hx : Loc X.env.scope x) (he : PE X e te) (hs : swapsWith e (some (.Name x pos')) pos.line X.env = pure false := by rfl) (hf : X.fn x = true ∨ X.env.scope.names.lookup x = some .local := by first | exact .inl rfl | exact .inr rfl | assumption) :
    PS X (.Assign [.Name x pos'] e pos) (tAsg te (gName i)) := by
  intro pins s σ H D I h
  refine wpAny_Assign_Name (thn (he pins s σ H _ I h) fun v s1 ⟨y, H1, I1, r1, q1⟩ => ?_) hs
  exact store_ok I1 hN hi hx r1 (fun s2 I2 => ⟨_, H1, I2, q1⟩) hf
/-- a, b = x, y with plain local names: stored from the right; the pair itself is not tracked (the opening rows as in PyProof/Rows/TupAssign.lean:23) -/
def tPar (i j : Nat) (ta : TA) : TS := fun D σ H => ta σ H fun vs H1 => ∃ v w, vs = [v, w] ∧ D.nx ((σ.set i (some v)).set j (some w)) H1
theorem ps_par {i j : Nat} {x y : Str} {a b : Expr} {ta : TA} {px py pt : Pos} {kt k2 pt2} (hc : X.calm = true) (hN : X.N.Nodup) (hi : X.N[i]? = some x) (hj : X.N[j]? = some y) (hij : i ≠ j)
    (hx : X.env.scope.names.lookup x = some .local) (hy : X.env.scope.names.lookup y = some .local) (ha : PA X [a, b] ta)
    (hw : swappedStores [.Tuple [.Name x px, .Name y py] kt pt] (.Tuple [a, b] k2 pt2) X.env = pure (some [x, y]))
    (hs : swapsWithSole [.Tuple [.Name x px, .Name y py] kt pt] (.Tuple [a, b] k2 pt2) pos.line X.env = pure false := by rfl) :
    PS X (.Assign [.Tuple [.Name x px, .Name y py] kt pt] (.Tuple [a, b] k2 pt2) pos) (tPar i j ta) := by
  intro pins s σ H D I h
  rw [exec_Assign_arm]
  refine wpAny_bind (wpAny_standAt ?_)
  rw [hs]
  refine wpAny_bind (wpAny_pure ?_)
  rw [if_neg (by decide)]
  refine wpAny_bind (Tuple_ (thn (ha _ pins s σ H _ I h) fun us s1 ⟨vs, H1, I1, r1, q1⟩ => ?_))
  obtain ⟨v, w, e1, q1⟩ := q1
  subst e1
  obtain ⟨u1, u2, rfl, rv, rw'⟩ : ∃ u1 u2, us = [u1, u2] ∧ RelV v u1 ∧ RelV w u2 := by
    cases r1 with
    | cons p q =>
      cases q with
      | cons p' q' =>
        cases q'
        exact ⟨_, _, rfl, p, p'⟩
  refine wpAny_newObj_type ?_ (by show 2 ≤ sizeLine; decide)
  have I2 : Inv X pins σ H1 { s1 with heap := s1.heap.push { cls := .type "tuple", data := .seq [u1, u2].toArray } } := I1.kept (t' := s1.toks) fun b o e => Heap.get?_push_of_some _ e
  rw [hw]
  refine wpAny_bind (wpAny_pure ?_)
  show wpAny (model X.prog X.w) X.A (do rule "assign.swapped-stores"; let items ← unpackItems (.ref s1.heap.objs.size) 2 none; assignInOrder [fun v => bindName X.env y v, fun v => bindName X.env x v] items.reverse; pure Flow.next) _ _ _
  refine wpAny_bind (wpAny_rule (wpAny_bind (unpackItems_tuple (items := #[u1, u2]) (I.ok.hd hc) (IsTup.new s1.heap _) fun h' hx' => ?_)))
  have I3 := I2.kept (h' := h') (t' := s1.toks) fun b o e => hx' b o (Nat.ne_of_lt (Heap.lt_size e)) e
  show wpAny _ _ (assignInOrder [fun v => bindName X.env y v, fun v => bindName X.env x v] [u2, u1] >>= fun _ => pure Flow.next) _ _ _
  refine wpAny_bind (assignInOrder_cons (wpAny_bindName (store_ok I3 hN hj (.inl hy) rw' (fun s2 I4 => ?_) (.inr hy))))
  refine assignInOrder_cons (wpAny_bindName (store_ok I4 hN hi (.inl hx) rv (fun s3 I5 => assignInOrder_nil (wpAny_pure ?_)) (.inr hx)))
  rw [List.set_comm _ _ (Ne.symm hij)] at I5
  exact ⟨_, H1, I5, q1⟩
/-- name op= e -/
def tAug (i : Nat) (te : TE) (ti : TIp) : TS := fun D σ H => ∃ x, σ[i]? = some (some x) ∧ te σ H fun y H1 => ti x y H1 fun z H2 => D.nx (σ.set i (some z)) H2
theorem ps_aug {i : Nat} {x : Str} {e : Expr} {te : TE} {op : Operator} {ti : TIp} {pos' : Pos} (hN : X.N.Nodup) (hi : X.N[i]? = some x) (hx : Loc X.env.scope x) (he : PE X e te) (ho : PIp X op ti) (hf : X.fn x = true ∨ X.env.scope.names.lookup x = some .local := by first | exact .inl rfl | exact .inr rfl | assumption) :
    PS X (.AugAssign (.Name x pos') op e pos) (tAug i te ti) := by
  intro pins s σ H D I h
  obtain ⟨v, e1, h⟩ := h
  obtain ⟨m, hn, hl⟩ := I.loc
  have vis : Vis X.env.scope x := by rcases hx with k | k; exact .inl k; exact .inr (.inl k)
  obtain ⟨u, r, l⟩ := hl i x v hi e1 vis
  refine wpAny_AugAssign_Name ?_
  have go : wpAny (model X.prog X.w) X.A (eval e X.env) (fun w s₂ => wpAny (model X.prog X.w) X.A (inplaceOp op u w) (fun r s₃ => wpAny (model X.prog X.w) X.A (storeName X.env x r) (fun _ => SP X pins D .next) X.xe s₃) X.xe s₂) X.xe s := by
    refine thn (he pins s σ H _ I h) fun w s1 ⟨y, H1, I1, r1, q1⟩ => ?_
    refine thn (ho pins s1 σ H1 v y u w _ I1 r r1 q1) fun z s2 ⟨zv, H2, I2, r2, q2⟩ => ?_
    exact store_ok I2 hN hi hx r2 (fun s3 I3 => ⟨_, H2, I3, q2⟩) hf
  rcases l with ⟨hk, hm⟩ | ⟨hk, c, hc, hcell⟩
  · exact wpAny_loadName_local I.ok.kind hk hn hm go
  · rcases hk with hk | hk
    · exact wpAny_loadName_cell I.ok.kind hk hc hcell go
    · rcases hx with k | k
      · have : X.env.scope.names.lookup x = some .free := hk
        rw [k] at this; cases this
      · have : X.env.scope.names.lookup x = some .free := hk
        rw [k] at this; cases this
/-- o[i] op= e -/
def tAugS (to ti te : TE) (tget : V → V → Hp → VK → Prop) (tip : TIp) (tset : TSet) : TS := fun D σ H => to σ H fun o H1 => ti σ H1 fun i H2 => tget o i H2 fun x H3 => te σ H3 fun y H4 => tip x y H4 fun z H5 => tset o i z H5 fun H6 => D.nx σ H6
/-- o[i], by values -/
def PGet (X : Cx) (t : V → V → Hp → VK → Prop) : Prop :=
  ∀ (pins : List (Addr × Obj)) (s : Shared) (σ : St) (H : Hp) (o i : V) (ov iv : Value) (Q : VK), Inv X pins σ H s → RelV o ov → RelV i iv → t o i H Q →
    wpAny (model X.prog X.w) X.A (getItem ov iv) (EP X pins σ Q) X.xe s
theorem ps_augS {o i e : Expr} {to ti te : TE} {tget : V → V → Hp → VK → Prop} {tip : TIp} {tset : TSet} {op : Operator} {tpos : Pos} (ho : PE X o to) (hi : PE X i ti) (hg : PGet X tget) (he : PE X e te) (hp : PIp X op tip) (hs : PSet X tset)
    (ha : ∀ ov iv new, augStore i ov iv new = (do holding [new, ov, iv] (setItem ov iv new); release [new, ov, iv] []; pure .next) := by intros; rfl) : PS X (.AugAssign (.Subscript o i tpos) op e pos) (tAugS to ti te tget tip tset) := by
  intro pins s σ H D I h
  refine wpAny_AugAssign_SubscriptAny (thn (ho pins s σ H _ I h) fun ov s1 ⟨x1, H1, I1, r1, q1⟩ => ?_) ha
  refine thn (hi pins s1 σ H1 _ I1 q1) fun iv s2 ⟨x2, H2, I2, r2, q2⟩ => ?_
  refine thn (hg pins s2 σ H2 x1 x2 ov iv _ I2 r1 r2 q2) fun old s3 ⟨x3, H3, I3, r3, q3⟩ => ?_
  refine thn (he pins s3 σ H3 _ I3 q3) fun v s4 ⟨x4, H4, I4, r4, q4⟩ => ?_
  refine thn (hp pins s4 σ H4 x3 x4 old v _ I4 r3 r4 q4) fun new s5 ⟨x5, H5, I5, r5, q5⟩ => ?_
  exact thn (hs pins s5 σ H5 x1 x2 x5 ov iv new _ I5 r1 r2 r5 q5) fun _ s6 ⟨H6, I6, q6⟩ => ⟨σ, H6, I6, q6⟩
/-- ints -/
def ipI (f : Int → Int → Int) : TIp := fun x y H Q => ∃ i j, x = .int i ∧ y = .int j ∧ Q (.int (f i j)) H
theorem ip_add : PIp X .Add (ipI fun i j => i + j) := by
  intro pins s σ H x y v u Q I r1 r2 h
  obtain ⟨i, j, e1, e2, q⟩ := h
  subst e1; subst e2
  obtain ⟨t, rfl⟩ := r1
  obtain ⟨t', rfl⟩ := r2
  exact iadd_int ⟨.int _, H, I.tok _, ⟨_, rfl⟩, q⟩
theorem ip_sub : PIp X .Sub (ipI fun i j => i - j) := by
  intro pins s σ H x y v u Q I r1 r2 h
  obtain ⟨i, j, e1, e2, q⟩ := h
  subst e1; subst e2
  obtain ⟨t, rfl⟩ := r1
  obtain ⟨t', rfl⟩ := r2
  exact isub_int ⟨.int _, H, I.tok _, ⟨_, rfl⟩, q⟩
end

/-! ### while -/
section
variable {X : Cx} {pos : Pos}
/-- the invariant W with its measure -/
def tWhile (c : TT) (tb : TS) : TS := fun D σ H => ∃ W : Nat → St → Hp → Prop, (∃ m, W m σ H) ∧ ∀ m σ H, W m σ H →
  c σ H fun b H1 => if b = true then ∃ N : St → Hp → Prop, (∀ σ' H', N σ' H' → ∃ m', m' < m ∧ W m' σ' H') ∧ tb { D with nx := N, ct := N, bk := D.nx } σ H1 else D.nx σ H1
theorem ps_while {c : Expr} {body : List Stmt} {tc : TT} {tb : TS} (hp : PassesOwn (model X.prog X.w) X.A X.env X.xe) (hc : PT X c tc) (hb : PSs X body tb) : PS X (.While c body [] pos) (tWhile tc tb) := by
  intro pins s σ H D I h
  obtain ⟨W, ⟨m0, w0⟩, turn⟩ := h
  refine wpAny_While (codeAny_whileLoop (fun n s' => ∃ σ' H', Inv X pins σ' H' s' ∧ W n σ' H') ?_ m0 ⟨σ, H, I, w0⟩)
  rintro n s1 ⟨σ1, H1, I1, w1⟩
  refine wpAny_passesOwn hp (thn (hc pins s1 σ1 H1 _ I1 (turn n σ1 H1 w1)) fun b s2 ⟨H2, I2, q2⟩ => ?_)
  cases b with
  | true =>
    obtain ⟨N, hN, q2⟩ := q2
    rw [if_pos rfl]
    refine wpAny_passesOwn hp (thn (hb pins s2 σ1 H2 _ I2 q2) fun f s3 q3 => ?_)
    cases f with
    | next =>
      obtain ⟨σ3, H3, I3, n3⟩ := q3
      obtain ⟨m', hm, w3⟩ := hN σ3 H3 n3
      exact ⟨m', hm, σ3, H3, I3, w3⟩
    | cont =>
      obtain ⟨σ3, H3, I3, n3⟩ := q3
      obtain ⟨m', hm, w3⟩ := hN σ3 H3 n3
      exact ⟨m', hm, σ3, H3, I3, w3⟩
    | brk => exact q3
    | ret v => exact q3
  | false =>
    rw [if_neg Bool.false_ne_true]
    exact wpAny_execs_nil ⟨σ1, H2, I2, q2⟩
end

/-! ### what a loop or a comprehension walks -/
/-- at turn i: it yields x (the heap may grow), or it stops -/
structure It where
  go : Nat → Hp → Prop
  yld : Nat → Hp → V → Hp → Prop
  stop : Nat → Hp → Prop
/-- the iterator's own objects may turn: they are not the frame's, not pinned, younger than the entry (or a comprehension's own) -/
def FpOk (X : Cx) (pins : List (Addr × Obj)) (H : Hp) (b : Addr) : Prop :=
  H b = none ∧ b ≠ X.env.locals ∧ b ∉ X.fs ∧ (b ∈ X.ex ∨ X.s₀.heap.objs.size ≤ b) ∧ (∀ x c, X.env.cells.lookup x = some c → c ≠ b) ∧ ∀ p ∈ X.pn ++ pins, p.1 ≠ b
theorem Inv.fpOk {X : Cx} {pins : List (Addr × Obj)} {σ : St} {H H' : Hp} {s : Shared} {b : Addr} (I : Inv X pins σ H s) (hb : s.heap.objs.size ≤ b) (hn : H' b = none) : FpOk X pins H' b := by
  refine ⟨hn, Nat.ne_of_gt (Nat.lt_of_lt_of_le I.lt hb), I.nofs hb, .inr (Nat.le_trans I.sz hb), fun x c e z => ?_, fun p hp z => ?_⟩
  · obtain ⟨v, q⟩ := I.cell x c e
    exact absurd (Nat.lt_of_lt_of_le q.lt (by rw [z]; exact hb)) (Nat.lt_irrefl _)
  · exact absurd (Nat.lt_of_lt_of_le (Heap.lt_size (I.pin p hp).1) (by rw [z]; exact hb)) (Nat.lt_irrefl _)
structure Turn (P : Program) (w : World) (K : PySem.W.Frag) (tg : Expr) (J : It) (fp : List Addr) (it : Addr) (tn : Nat → Heap → Prop) : Prop where
  mem : it ∈ fp
  obj : ∀ i h, tn i h → ∀ b ∈ fp, ∃ o, h.get? b = some o ∧ ∀ v, o.data ≠ .cell v
  keep : ∀ i h h', tn i h → (∀ b ∈ fp, ∀ o, h.get? b = some o → h'.get? b = some o) → tn i h'
  item : ∀ (X : Cx), X.prog = P → X.w = w → X.K = K → X.calm = true → ∀ (i : Nat) (pins : List (Addr × Obj)) (s : Shared) (σ : St) (H : Hp) (E : Value → Shared → Prop), Inv X pins σ H s → (∀ b ∈ fp, FpOk X pins H b) → tn i s.heap → J.go i H →
    wpAny (model P w) X.A (pyNext (.ref it)) (fun r s1 => ∃ u, r = some u ∧
      wpAny (model P w) X.A (letOwnedTupleGo tg (.ref it) u) (fun _ s2 => ∃ x H', Inv X pins σ H' s2 ∧ RelV x u ∧ J.yld i H x H' ∧ tn (i + 1) s2.heap ∧ ∀ b ∈ fp, H' b = none) E s1) E s
  done : ∀ (X : Cx), X.prog = P → X.w = w → X.K = K → X.calm = true → ∀ (i : Nat) (pins : List (Addr × Obj)) (s : Shared) (σ : St) (H : Hp) (E : Value → Shared → Prop), Inv X pins σ H s → (∀ b ∈ fp, FpOk X pins H b) → tn i s.heap → J.stop i H →
    wpAny (model P w) X.A (pyNext (.ref it)) (fun r s1 => r = none ∧ Inv X pins σ H s1) E s
  self : ∀ (A : Around) (i : Nat) (s : Shared) (Q : Value → Shared → Prop) (E : Value → Shared → Prop), tn i s.heap → Q (.ref it) s → wpAny (model P w) A (pyIter (.ref it)) Q E s
abbrev TI := St → Hp → (It → Hp → Prop) → Prop
/-- an iterator has come -/
def PIE (X : Cx) (pins : List (Addr × Obj)) (σ : St) (tg : Expr) (R : It → Hp → Prop) (itv : Value) (s2 : Shared) : Prop :=
  ∃ (it : Addr) (fp : List Addr) (tn : Nat → Heap → Prop) (J : It) (H' : Hp), itv = .ref it ∧ Inv X pins σ H' s2 ∧ Turn X.prog X.w X.K tg J fp it tn ∧ tn 0 s2.heap ∧ (∀ b ∈ fp, FpOk X pins H' b) ∧ R J H'
def PI (X : Cx) (tg iter : Expr) (wi : TI) : Prop :=
  ∀ (pins : List (Addr × Obj)) (s : Shared) (σ : St) (H : Hp) (R : It → Hp → Prop), Inv X pins σ H s → wi σ H R →
    wpAny (model X.prog X.w) X.A (eval iter X.env) (fun v s1 => wpAny (model X.prog X.w) X.A (pyIter v) (PIE X pins σ tg R) X.xe s1) X.xe s

/-- the step ahead of the store is nothing for an iterator that keeps no tuple -/
theorem go_of {M : Model} {A : Around} {E : Value → Shared → Prop} {s : Shared} {tg : Expr} {it : Addr} {u : Value} {o : Obj} {n : String} {vs : Array Value} {Q : Unit → Shared → Prop} (ho : s.heap.get? it = some o) (hc : o.cls = .type n) (hd : o.data = .fields vs)
    (hn : ["enumerate", "zip", "dict_itemiterator", "dict_reverseitemiterator", "odict_iterator", "itertools.zip_longest", "itertools.pairwise"].contains n = false) (hQ : Q () s) : wpAny M A (letOwnedTupleGo tg (.ref it) u) Q E s := by
  unfold letOwnedTupleGo
  cases tg <;> first
    | exact wpAny_pure hQ
    | (cases u <;> first
        | exact wpAny_pure hQ
        | (refine wpAny_bind (wpAny_load ho ?_)
           rw [hc, hd]
           show wpAny M A (if (["enumerate", "zip", "dict_itemiterator", "dict_reverseitemiterator", "odict_iterator", "itertools.zip_longest", "itertools.pairwise"].contains n && vs[0]? == some (rawInt _)) = true then _ else _) Q E s
           rw [if_neg (by intro h; rw [hn, Bool.false_and] at h; cases h)]
           exact wpAny_pure hQ))

/-- the list at a, as it stands at each turn (a loop may append to it) -/
def Itl (K : PySem.W.Frag) (a : Addr) : It :=
  ⟨fun i H => ∃ xs x, SqL K H a xs ∧ xs[i]? = some x, fun i H x H' => H' = H ∧ ∀ xs, SqL K H a xs → xs[i]? = some x, fun i H => ∃ xs, SqL K H a xs ∧ xs.length ≤ i⟩
def Itt (K : PySem.W.Frag) (a : Addr) : It :=
  ⟨fun i H => ∃ xs x, SqT K H a xs ∧ xs[i]? = some x, fun i H x H' => H' = H ∧ ∀ xs, SqT K H a xs → xs[i]? = some x, fun i H => ∃ xs, SqT K H a xs ∧ xs.length ≤ i⟩
/-- lo, lo + 1, .. (n of them) -/
def Itr (lo : Int) (n : Nat) : It := ⟨fun i _ => i < n, fun i H x H' => H' = H ∧ x = .int (lo + i), fun i _ => n ≤ i⟩
theorem turn_list {P : Program} {w : World} {K : PySem.W.Frag} {tg : Expr} (a it : Addr) : Turn P w K tg (Itl K a) [it] it (fun i h => h.IsListIter it a i) where
  mem := by simp
  obj := fun i h st b hb => by
    have e : b = it := by simpa using hb
    subst e
    obtain ⟨o, e, c, d⟩ := st
    exact ⟨o, e, fun v z => by rw [d] at z; cases z⟩
  keep := fun i h h' st k => st.at fun o e => k it (by simp) o e
  item := by
    intro X hP hw hK hc i pins s σ H E I hf st hg
    subst hP hw hK
    obtain ⟨xs, x, hq, hx⟩ := hg
    obtain ⟨its, rv, p, hz⟩ := I.list hq
    obtain ⟨u, hu, ru⟩ := rv.get hx
    obtain ⟨f0, f1, f2, f3, f4, f5⟩ := hf it (by simp)
    refine wpAny_pyNext_list_item st p.isList (x := u) (by simpa using hu) fun h' st' sb => ?_
    have I1 : Inv X pins σ H { s with heap := h' } := I.turned (t' := s.toks) (fun b o hb e => (sb.2 b hb).trans e) f0 f1 f3 f4 f5
    obtain ⟨o, e, c, d⟩ := id st'
    exact ⟨u, rfl, go_of (s := { s with heap := h' }) e c d (by decide) ⟨x, H, I1, ru, ⟨rfl, fun ys hy => by rw [I.list_inj hy hq]; exact hx⟩, st', fun b hb => (hf b hb).1⟩⟩
  done := by
    intro X hP hw hK hc i pins s σ H E I hf st hg
    subst hP hw hK
    obtain ⟨xs, hq, hx⟩ := hg
    obtain ⟨its, rv, p, hz⟩ := I.list hq
    obtain ⟨f0, f1, f2, f3, f4, f5⟩ := hf it (by simp)
    have hl := rv.length
    exact wpAny_pyNext_list_end (I.ok.hd hc) st p.isList (by simp; omega) fun h' eb => ⟨rfl, I.turned (t' := s.toks) (fun b o hb e => eb b o hb e) f0 f1 f3 f4 f5⟩
  self := fun _ _ _ _ _ st h => wpAny_pyIter_listiter st h
theorem turn_tuple {P : Program} {w : World} {K : PySem.W.Frag} {tg : Expr} (a it : Addr) : Turn P w K tg (Itt K a) [it] it (fun i h => h.IsTupleIter it a i) where
  mem := by simp
  obj := fun i h st b hb => by
    have e : b = it := by simpa using hb
    subst e
    obtain ⟨o, e, c, d⟩ := st
    exact ⟨o, e, fun v z => by rw [d] at z; cases z⟩
  keep := fun i h h' st k => st.at fun o e => k it (by simp) o e
  item := by
    intro X hP hw hK hc i pins s σ H E I hf st hg
    subst hP hw hK
    obtain ⟨xs, x, hq, hx⟩ := hg
    obtain ⟨its, rv, p, hz⟩ := I.tuple hq
    obtain ⟨u, hu, ru⟩ := rv.get hx
    obtain ⟨f0, f1, f2, f3, f4, f5⟩ := hf it (by simp)
    refine wpAny_pyNext_tuple_item st (show s.heap.IsTuple a its.toArray from p) (x := u) (by simpa using hu) fun h' st' sb => ?_
    have I1 : Inv X pins σ H { s with heap := h' } := I.turned (t' := s.toks) (fun b o hb e => (sb.2 b hb).trans e) f0 f1 f3 f4 f5
    obtain ⟨o, e, c, d⟩ := id st'
    exact ⟨u, rfl, go_of (s := { s with heap := h' }) e c d (by decide) ⟨x, H, I1, ru, ⟨rfl, fun ys hy => by rw [I.tuple_inj hy hq]; exact hx⟩, st', fun b hb => (hf b hb).1⟩⟩
  done := by
    intro X hP hw hK hc i pins s σ H E I hf st hg
    subst hP hw hK
    obtain ⟨xs, hq, hx⟩ := hg
    obtain ⟨its, rv, p, hz⟩ := I.tuple hq
    obtain ⟨f0, f1, f2, f3, f4, f5⟩ := hf it (by simp)
    have hl := rv.length
    exact wpAny_pyNext_tuple_end (I.ok.hd hc) st (show s.heap.IsTuple a its.toArray from p) (by simp; omega) fun h' eb => ⟨rfl, I.turned (t' := s.toks) (fun b o hb e => eb b o hb e) f0 f1 f3 f4 f5⟩
  self := fun _ _ _ _ _ st h => wpAny_pyIter_tupleiter st h
theorem turn_range {P : Program} {w : World} {K : PySem.W.Frag} {tg : Expr} (it : Addr) (lo : Int) (n : Nat) : Turn P w K tg (Itr lo n) [it] it (fun i h => IsRangeIter h it (lo + (i : Nat) * 1) ((n : Int) - (i : Nat)) 1) where
  mem := by simp
  obj := fun i h st b hb => by
    have e : b = it := by simpa using hb
    subst e
    exact ⟨_, st, fun v z => by
      have z' : Data.fields _ = Data.cell v := z
      cases z'⟩
  keep := fun i h h' st k => k it (by simp) _ st
  item := by
    intro X hP hw hK hc i pins s σ H E I hf st hg
    subst hP hw hK
    obtain ⟨f0, f1, f2, f3, f4, f5⟩ := hf it (by simp)
    have W := Walks.range (prog := X.prog) (w := X.w) (I.ok.hd hc) it lo 1 n
    refine W.item i s _ _ hg st fun v h' tk hv st' kk => ?_
    obtain ⟨t, rfl⟩ := hv
    have I1 : Inv X pins σ H { s with heap := h', toks := tk } := I.turned (fun b o hb e => kk b o (by simpa using hb) e) f0 f1 f3 f4 f5
    refine ⟨_, rfl, go_of (s := { s with heap := h', toks := tk }) (n := "range_iterator") st' rfl rfl (by decide) ⟨.int (lo + i), H, I1, ⟨t, ?_⟩, ⟨rfl, rfl⟩, st', fun b hb => (hf b hb).1⟩⟩
    rw [Int.mul_one]
  done := by
    intro X hP hw hK hc i pins s σ H E I hf st hg
    subst hP hw hK
    obtain ⟨f0, f1, f2, f3, f4, f5⟩ := hf it (by simp)
    exact wpAny_pyNext_range_end (I.ok.hd hc) st (by have : n ≤ i := hg; omega) fun h' eb => ⟨rfl, I.turned (t' := s.toks) (fun b o hb e => eb b o hb e) f0 f1 f3 f4 f5⟩
  self := fun _ _ _ _ _ st h => wpAny_pyIter_rangeiter st h
end L2

namespace L2
open PySem PySem.Spec PyProof.Rows
section
variable {X : Cx} {tg : Expr}
def iList (K : PySem.W.Frag) (tl : TE) : TI := fun σ H R => tl σ H fun x H1 => ∃ a, x = .ref a ∧ (∃ xs, SqL K H1 a xs) ∧ R (Itl K a) H1
def iTup (K : PySem.W.Frag) (tl : TE) : TI := fun σ H R => tl σ H fun x H1 => ∃ a, x = .ref a ∧ (∃ xs, SqT K H1 a xs) ∧ R (Itt K a) H1
theorem pi_list {l : Expr} {tl : TE} (hl : PE X l tl) : PI X tg l (iList X.K tl) := by
  intro pins s σ H R I h
  refine thn (hl pins s σ H _ I h) fun v s1 ⟨x, H1, I1, r1, q1⟩ => ?_
  obtain ⟨a, e, ⟨xs, hq⟩, q⟩ := q1
  subst e
  cases r1
  obtain ⟨its, rv, p, hz⟩ := I1.list hq
  refine wpAny_pyIter_list p.isList ?_
  refine ⟨s1.heap.objs.size, [s1.heap.objs.size], _, _, H1, rfl, I1.kept (t' := s1.toks) fun b o e => Heap.get?_push_of_some _ e, turn_list a _, ⟨_, Heap.get?_push_size _ rfl, rfl, rfl⟩, fun b hb => ?_, q⟩
  have e : b = s1.heap.objs.size := by simpa using hb
  subst e
  exact I1.fpOk (Nat.le_refl _) (I1.hok.fresh (Nat.le_refl _))
theorem pi_tup {l : Expr} {tl : TE} (hl : PE X l tl) : PI X tg l (iTup X.K tl) := by
  intro pins s σ H R I h
  refine thn (hl pins s σ H _ I h) fun v s1 ⟨x, H1, I1, r1, q1⟩ => ?_
  obtain ⟨a, e, ⟨xs, hq⟩, q⟩ := q1
  subst e
  cases r1
  obtain ⟨its, rv, p, hz⟩ := I1.tuple hq
  refine wpAny_pyIter_tuple (show s1.heap.IsTuple a its.toArray from p) ?_
  refine ⟨s1.heap.objs.size, [s1.heap.objs.size], _, _, H1, rfl, I1.kept (t' := s1.toks) fun b o e => Heap.get?_push_of_some _ e, turn_tuple a _, ⟨_, Heap.get?_push_size _ rfl, rfl, rfl⟩, fun b hb => ?_, q⟩
  have e : b = s1.heap.objs.size := by simpa using hb
  subst e
  exact I1.fpOk (Nat.le_refl _) (I1.hok.fresh (Nat.le_refl _))
/-- a range object just made, walked -/
theorem range_it {pins : List (Addr × Obj)} {σ : St} {H : Hp} {s : Shared} {R : It → Hp → Prop} {E : Value → Shared → Prop} {lo hi : Int} {t u v : Tok} {tk : Nat} (I : Inv X pins σ H s) (h1 : -(2 ^ 62) ≤ lo) (h2 : lo < 2 ^ 62) (h3 : -(2 ^ 62) ≤ hi) (h4 : hi < 2 ^ 62)
    (q : R (Itr lo (hi - lo).toNat) H) : wpAny (model X.prog X.w) X.A (pyIter (.ref s.heap.objs.size)) (PIE X pins σ tg R) E { s with heap := s.heap.push { cls := .type "range", data := .fields #[.int lo t, .int hi u, .int 1 v] }, toks := tk } := by
  refine wpAny_pyIter_range (IsRange.new ..) (small_one h1 h2 h3 h4) ?_
  have I1 : Inv X pins σ H { s with heap := s.heap.push { cls := .type "range", data := .fields #[.int lo t, .int hi u, .int 1 v] }, toks := tk } := I.kept fun b o e => Heap.get?_push_of_some _ e
  refine ⟨(s.heap.push { cls := .type "range", data := .fields #[.int lo t, .int hi u, .int 1 v] }).objs.size, [(s.heap.push { cls := .type "range", data := .fields #[.int lo t, .int hi u, .int 1 v] }).objs.size], _, _, H, rfl,
    I1.kept (t' := tk) fun b o e => Heap.get?_push_of_some _ e, turn_range _ lo (hi - lo).toNat, ?_, fun b hb => ?_, q⟩
  · have e1 : lo + ((0 : Nat) : Int) * 1 = lo := by simp
    have e2 : (((hi - lo).toNat : Nat) : Int) - ((0 : Nat) : Int) = Builtin.Range.rangeSize lo hi 1 := by rw [rangeSize_one]; split <;> omega
    show IsRangeIter _ _ (lo + ((0 : Nat) : Int) * 1) ((((hi - lo).toNat : Nat) : Int) - ((0 : Nat) : Int)) 1
    rw [e1, e2]
    exact Heap.get?_push_size _ rfl
  · have e : b = (s.heap.push { cls := .type "range", data := .fields #[.int lo t, .int hi u, .int 1 v] }).objs.size := by simpa using hb
    subst e
    exact I1.fpOk (Nat.le_refl _) (I1.hok.fresh (Nat.le_refl _))
def iRng1 (ta : TA) : TI := fun σ H R => ta σ H fun vs H1 => ∃ j : Int, vs = [.int j] ∧ -(2 ^ 62) ≤ j ∧ j < 2 ^ 62 ∧ R (Itr 0 j.toNat) H1
def iRng2 (ta : TA) : TI := fun σ H R => ta σ H fun vs H1 => ∃ i j : Int, vs = [.int i, .int j] ∧ (-(2 ^ 62) ≤ i ∧ i < 2 ^ 62 ∧ -(2 ^ 62) ≤ j ∧ j < 2 ^ 62) ∧ R (Itr i (j - i).toNat) H1
theorem pi_range1 {a : Expr} {ta : TA} {p pos : Pos} (hg : Gl X "range") (hm : X.mg "range" = none) (ha : PA X [a] ta) (hs : starEach [a] X.env = [(false, eval a X.env)] := by rfl) : PI X tg (.Call (.Name "range" p) [a] [] pos) (iRng1 ta) := by
  intro pins s σ H R I h
  refine Call_ (ld_blt I hg hm boot_range (PyProof.Rows.callWith_type1 (thn (ha pos pins s σ H _ I h) fun us s1 ⟨vs, H1, I1, r1, q1⟩ => ?_) hs rfl))
  obtain ⟨j, e, q1, q2, q⟩ := q1
  subst e
  cases r1 with
  | cons r rr =>
    cases rr
    obtain ⟨t, rfl⟩ := r
    exact call_range_1 (range_it I1 (by omega) (by omega) q1 q2 (by simpa using q))
theorem pi_range2 {a b : Expr} {ta : TA} {p pos : Pos} (hg : Gl X "range") (hm : X.mg "range" = none) (ha : PA X [a, b] ta) (hs : starEach [a, b] X.env = [(false, eval a X.env), (false, eval b X.env)] := by rfl) (hs2 : starEach [b] X.env = [(false, eval b X.env)] := by rfl) :
    PI X tg (.Call (.Name "range" p) [a, b] [] pos) (iRng2 ta) := by
  intro pins s σ H R I h
  refine Call_ (ld_blt I hg hm boot_range (PyProof.Rows.callWith_type1 (thn (ha pos pins s σ H _ I h) fun us s1 ⟨vs, H1, I1, r1, q1⟩ => ?_) (by rw [hs, hs2]) (by rw [hs2]; rfl)))
  obtain ⟨i, j, e, ⟨q1, q2, q3, q4⟩, q⟩ := q1
  subst e
  cases r1 with
  | cons r rr =>
    cases rr with
    | cons r' rr =>
      cases rr
      obtain ⟨t, rfl⟩ := r
      obtain ⟨t', rfl⟩ := r'
      exact call_range_2 (range_it I1 q1 q2 q3 q4 q)

/-! ### for -/
/-- W: the invariant by the turn and a measure; N: what the body is to reach -/
def tFor (wi : TI) (g : TG) (tb : TS) : TS := fun D σ H => wi σ H fun J H1 => ∃ W : Nat → Nat → St → Hp → Prop, (∃ m, W 0 m σ H1) ∧ ∀ i m σ H, W i m σ H →
  (J.stop i H ∧ D.nx σ H) ∨ (J.go i H ∧ ∃ N : St → Hp → Prop, (∀ σ' H', N σ' H' → ∃ m', m' < m ∧ W (i + 1) m' σ' H') ∧ ∀ x H', J.yld i H x H' → g x σ H' fun σ2 H2 => tb { D with nx := N, ct := N, bk := D.nx } σ2 H2)
/-- the records at fp as they stand -/
def pinsAt (fp : List Addr) (h : Heap) : List (Addr × Obj) := fp.filterMap fun b => (h.get? b).map fun o => (b, o)
theorem mem_pinsAt {fp : List Addr} {h : Heap} {b : Addr} {o : Obj} (hb : b ∈ fp) (e : h.get? b = some o) : (b, o) ∈ pinsAt fp h := List.mem_filterMap.mpr ⟨b, hb, by rw [e]; rfl⟩
theorem of_pinsAt {fp : List Addr} {h : Heap} {p : Addr × Obj} (hp : p ∈ pinsAt fp h) : p.1 ∈ fp ∧ h.get? p.1 = some p.2 := by
  obtain ⟨b, hb, e⟩ := List.mem_filterMap.mp hp
  cases q : h.get? b with
  | none => rw [q] at e; cases e
  | some o =>
    rw [q] at e
    have e' : (b, o) = p := Option.some.inj e
    subst e'
    exact ⟨hb, q⟩
theorem Inv.pinned {pins : List (Addr × Obj)} {σ : St} {H : Hp} {s : Shared} {fp : List Addr} (I : Inv X pins σ H s) (hf : ∀ b ∈ fp, FpOk X pins H b) (ho : ∀ b ∈ fp, ∃ o, s.heap.get? b = some o ∧ ∀ v, o.data ≠ .cell v) : Inv X (pins ++ pinsAt fp s.heap) σ H s :=
  I.pins_of fun p hp => (List.mem_append.mp hp).elim (fun z => I.pin p (List.mem_append_right _ z)) fun z => by
    obtain ⟨hb, e⟩ := of_pinsAt z
    obtain ⟨f0, f1, f2, _⟩ := hf p.1 hb
    obtain ⟨o, e', d⟩ := ho p.1 hb
    rw [e] at e'; cases e'
    exact ⟨e, f0, f1, f2, d⟩
theorem Inv.unpinned {pins pl : List (Addr × Obj)} {σ : St} {H : Hp} {s : Shared} (I : Inv X (pins ++ pl) σ H s) : Inv X pins σ H s := I.pins_of fun p hp => I.pin p (List.mem_append_right _ (List.mem_append_left _ hp))
theorem ps_for {iter : Expr} {body : List Stmt} {wi : TI} {g : TG} {tb : TS} {pos : Pos} (hp : PassesOwn (model X.prog X.w) X.A X.env X.xe) (hc : X.calm = true) (hi : PI X tg iter wi) (hg : PG X tg g) (hb : PSs X body tb)
    (hs : ∀ x, foldedSetIterable iter X.env x = pure x := by intro _; rfl) : PS X (.For tg iter body [] pos) (tFor wi g tb) := by
  intro pins s σ H D I h
  refine wpAny_For (thn (hi pins s σ H _ I h) fun v s1 h1 => thn h1 fun itv s2 h2 => ?_) hs
  obtain ⟨it, fp, tn, J, H2, e, I2, T, st2, f2, W, ⟨m0, w0⟩, turn⟩ := h2
  subst e
  -- what stays true of the iterator's objects through the loop
  have stat : ∀ {H' : Hp}, (∀ b ∈ fp, H' b = none) → ∀ b ∈ fp, FpOk X pins H' b := fun hn b hb => ⟨hn b hb, (f2 b hb).2⟩
  refine codeAny_forLoop_any (fun n s' => ∃ i σ' H', Inv X pins σ' H' s' ∧ tn i s'.heap ∧ (∀ b ∈ fp, H' b = none) ∧ W i n σ' H') ?_ m0 ⟨0, σ, H2, I2, st2, fun b hb => (f2 b hb).1, w0⟩
  rintro n s3 ⟨i, σ3, H3, I3, st3, fr3, w3⟩
  rcases turn i n σ3 H3 w3 with ⟨stop, qn⟩ | ⟨go, N, hN, step⟩
  · refine wpAny_passesOwn hp (thn (T.done X rfl rfl rfl hc i pins s3 σ3 H3 X.xe I3 (stat fr3) st3 stop) fun r s4 ⟨hr, I4⟩ => ?_)
    subst hr
    exact wpAny_execs_nil ⟨σ3, H3, I4, qn⟩
  · refine wpAny_passesOwn hp (thn (T.item X rfl rfl rfl hc i pins s3 σ3 H3 X.xe I3 (stat fr3) st3 go) fun r s4 ⟨u, hr, h4⟩ => ?_)
    subst hr
    refine wpAny_passesOwn hp (thn h4 fun _ s5 ⟨x, H5, I5, r5, y5, st5, fr5⟩ => ?_)
    have I5' := I5.pinned (stat fr5) (T.obj _ _ st5)
    refine wpAny_passesOwn hp (thn (hg _ s5 σ3 H5 x u _ I5' r5 (step x H5 y5)) fun _ s6 ⟨σ6, H6, I6, q6⟩ => ?_)
    refine wpAny_passesOwn hp (thn (hb _ s6 σ6 H6 _ I6 q6) fun f s7 q7 => ?_)
    have again : ∀ {σ7 : St} {H7 : Hp}, Inv X (pins ++ pinsAt fp s5.heap) σ7 H7 s7 → N σ7 H7 → ∃ m, m < n ∧ ∃ i σ' H', Inv X pins σ' H' s7 ∧ tn i s7.heap ∧ (∀ b ∈ fp, H' b = none) ∧ W i m σ' H' := fun {σ7 H7} I7 n7 => by
      obtain ⟨m', hm, w7⟩ := hN σ7 H7 n7
      refine ⟨m', hm, i + 1, σ7, H7, I7.unpinned, T.keep _ _ _ st5 fun b hb o e => (I7.pin (b, o) (List.mem_append_right _ (List.mem_append_right _ (mem_pinsAt hb e)))).1, fun b hb => ?_, w7⟩
      obtain ⟨o, e, d⟩ := T.obj _ _ st5 b hb
      exact (I7.pin (b, o) (List.mem_append_right _ (List.mem_append_right _ (mem_pinsAt hb e)))).2.1
    cases f with
    | next => obtain ⟨σ7, H7, I7, n7⟩ := q7; exact again I7 n7
    | cont => obtain ⟨σ7, H7, I7, n7⟩ := q7; exact again I7 n7
    | brk => obtain ⟨σ7, H7, I7, q7⟩ := q7; exact ⟨σ7, H7, I7.unpinned, q7⟩
    | ret v => obtain ⟨x7, σ7, H7, I7, r7, q7⟩ := q7; exact ⟨x7, σ7, H7, I7.unpinned, r7, q7⟩
end

/-! ### the forms one uses -/
/-- over a list that the body leaves as it is -/
theorem for_list {K : PySem.W.Frag} {a : Addr} {xs : List V} {g : TG} {tb : TS} {D : Ends} {σ : St} {H : Hp} (Pv : Nat → St → Hp → Prop) (h0 : Pv 0 σ H) (hl : ∀ i σ H, i ≤ xs.length → Pv i σ H → SqL K H a xs)
    (hs : ∀ i x σ H, xs[i]? = some x → Pv i σ H → g x σ H fun σ2 H2 => tb { D with nx := Pv (i + 1), ct := Pv (i + 1), bk := D.nx } σ2 H2) (hd : ∀ σ H, Pv xs.length σ H → D.nx σ H) :
    ∃ W : Nat → Nat → St → Hp → Prop, (∃ m, W 0 m σ H) ∧ ∀ i m σ H, W i m σ H →
      ((Itl K a).stop i H ∧ D.nx σ H) ∨ ((Itl K a).go i H ∧ ∃ N : St → Hp → Prop, (∀ σ' H', N σ' H' → ∃ m', m' < m ∧ W (i + 1) m' σ' H') ∧ ∀ x H', (Itl K a).yld i H x H' → g x σ H' fun σ2 H2 => tb { D with nx := N, ct := N, bk := D.nx } σ2 H2) := by
  refine ⟨fun i m σ H => m = xs.length - i ∧ i ≤ xs.length ∧ Pv i σ H, ⟨xs.length, by simp, Nat.zero_le _, h0⟩, ?_⟩
  rintro i m σ H ⟨rfl, hi, p⟩
  have q := hl i σ H hi p
  by_cases hlt : i < xs.length
  · refine .inr ⟨⟨xs, xs[i], q, by simp [hlt]⟩, Pv (i + 1), fun σ' H' p' => ⟨xs.length - (i + 1), by omega, rfl, hlt, p'⟩, fun x H' y => ?_⟩
    obtain ⟨e, y⟩ := y
    subst e
    exact hs i x σ _ (y xs q) p
  · have e : i = xs.length := by omega
    subst e
    exact .inl ⟨⟨xs, q, Nat.le_refl _⟩, hd σ H p⟩
theorem for_tup {K : PySem.W.Frag} {a : Addr} {xs : List V} {g : TG} {tb : TS} {D : Ends} {σ : St} {H : Hp} (Pv : Nat → St → Hp → Prop) (h0 : Pv 0 σ H) (hl : ∀ i σ H, i ≤ xs.length → Pv i σ H → SqT K H a xs)
    (hs : ∀ i x σ H, xs[i]? = some x → Pv i σ H → g x σ H fun σ2 H2 => tb { D with nx := Pv (i + 1), ct := Pv (i + 1), bk := D.nx } σ2 H2) (hd : ∀ σ H, Pv xs.length σ H → D.nx σ H) :
    ∃ W : Nat → Nat → St → Hp → Prop, (∃ m, W 0 m σ H) ∧ ∀ i m σ H, W i m σ H →
      ((Itt K a).stop i H ∧ D.nx σ H) ∨ ((Itt K a).go i H ∧ ∃ N : St → Hp → Prop, (∀ σ' H', N σ' H' → ∃ m', m' < m ∧ W (i + 1) m' σ' H') ∧ ∀ x H', (Itt K a).yld i H x H' → g x σ H' fun σ2 H2 => tb { D with nx := N, ct := N, bk := D.nx } σ2 H2) := by
  refine ⟨fun i m σ H => m = xs.length - i ∧ i ≤ xs.length ∧ Pv i σ H, ⟨xs.length, by simp, Nat.zero_le _, h0⟩, ?_⟩
  rintro i m σ H ⟨rfl, hi, p⟩
  have q := hl i σ H hi p
  by_cases hlt : i < xs.length
  · refine .inr ⟨⟨xs, xs[i], q, by simp [hlt]⟩, Pv (i + 1), fun σ' H' p' => ⟨xs.length - (i + 1), by omega, rfl, hlt, p'⟩, fun x H' y => ?_⟩
    obtain ⟨e, y⟩ := y
    subst e
    exact hs i x σ _ (y xs q) p
  · have e : i = xs.length := by omega
    subst e
    exact .inl ⟨⟨xs, q, Nat.le_refl _⟩, hd σ H p⟩
theorem for_range {lo : Int} {n : Nat} {g : TG} {tb : TS} {D : Ends} {σ : St} {H : Hp} (Pv : Nat → St → Hp → Prop) (h0 : Pv 0 σ H)
    (hs : ∀ i σ H, i < n → Pv i σ H → g (.int (lo + i)) σ H fun σ2 H2 => tb { D with nx := Pv (i + 1), ct := Pv (i + 1), bk := D.nx } σ2 H2) (hd : ∀ σ H, Pv n σ H → D.nx σ H) :
    ∃ W : Nat → Nat → St → Hp → Prop, (∃ m, W 0 m σ H) ∧ ∀ i m σ H, W i m σ H →
      ((Itr lo n).stop i H ∧ D.nx σ H) ∨ ((Itr lo n).go i H ∧ ∃ N : St → Hp → Prop, (∀ σ' H', N σ' H' → ∃ m', m' < m ∧ W (i + 1) m' σ' H') ∧ ∀ x H', (Itr lo n).yld i H x H' → g x σ H' fun σ2 H2 => tb { D with nx := N, ct := N, bk := D.nx } σ2 H2) := by
  refine ⟨fun i m σ H => m = n - i ∧ i ≤ n ∧ Pv i σ H, ⟨n, by simp, Nat.zero_le _, h0⟩, ?_⟩
  rintro i m σ H ⟨rfl, hi, p⟩
  by_cases hlt : i < n
  · refine .inr ⟨hlt, Pv (i + 1), fun σ' H' p' => ⟨n - (i + 1), by omega, rfl, hlt, p'⟩, fun x H' y => ?_⟩
    obtain ⟨e, y⟩ := y
    subst e y
    exact hs i σ _ hlt p
  · have e : i = n := by omega
    subst e
    exact .inl ⟨Nat.le_refl _, hd σ H p⟩
/-- while, by a word and a measure of the state -/
theorem while_by {c : TT} {tb : TS} {D : Ends} {σ : St} {H : Hp} (Pv : St → Hp → Prop) (μ : St → Hp → Nat) (h0 : Pv σ H)
    (hs : ∀ σ H, Pv σ H → c σ H fun b H1 => if b = true then tb { D with nx := fun σ' H' => Pv σ' H' ∧ μ σ' H' < μ σ H, ct := fun σ' H' => Pv σ' H' ∧ μ σ' H' < μ σ H, bk := D.nx } σ H1 else D.nx σ H1)
    (mono : ∀ σ H Q Q', (∀ b H1, Q b H1 → Q' b H1) → c σ H Q → c σ H Q') : tWhile c tb D σ H := by
  refine ⟨fun m σ H => m = μ σ H ∧ Pv σ H, ⟨_, rfl, h0⟩, ?_⟩
  rintro m σ H ⟨rfl, p⟩
  refine mono σ H _ _ (fun b H1 q => ?_) (hs σ H p)
  cases b with
  | true => exact ⟨_, fun σ' H' ⟨p', l⟩ => ⟨_, l, rfl, p'⟩, q⟩
  | false => exact q
end L2

namespace L2
open PySem PySem.Spec PyProof.Rows

abbrev R2 := V → V → Hp → VK → Prop
/-- a two-place operation on values: f is binaryOp op, inplaceOp op or compareOp op -/
def OpR (X : Cx) (f : Value → Value → Sem Value) (r : R2) : Prop :=
  ∀ (pins : List (Addr × Obj)) (s : Shared) (σ : St) (H : Hp) (x y : V) (v u : Value) (Q : VK), Inv X pins σ H s → RelV x v → RelV y u → r x y H Q →
    wpAny (model X.prog X.w) X.A (f v u) (EP X pins σ Q) X.xe s
/-- a one-place operation -/
def UnR (X : Cx) (f : Value → Sem Value) (r : V → Hp → VK → Prop) : Prop :=
  ∀ (pins : List (Addr × Obj)) (s : Shared) (σ : St) (H : Hp) (x : V) (v : Value) (Q : VK), Inv X pins σ H s → RelV x v → r x H Q →
    wpAny (model X.prog X.w) X.A (f v) (EP X pins σ Q) X.xe s
/-- a call of a value that is known (a builtin, a type) with values -/
def CallR (X : Cx) (f : Value) (r : List V → Hp → VK → Prop) : Prop :=
  ∀ (pins : List (Addr × Obj)) (s : Shared) (σ : St) (H : Hp) (xs : List V) (us : List Value) (Q : VK), Inv X pins σ H s → Vals xs us → r xs H Q →
    wpAny (model X.prog X.w) X.A (call f us) (EP X pins σ Q) X.xe s
/-- a value's truth -/
def TruR (X : Cx) (r : V → Hp → (Bool → Hp → Prop) → Prop) : Prop :=
  ∀ (pins : List (Addr × Obj)) (s : Shared) (σ : St) (H : Hp) (x : V) (v : Value) (Q : Bool → Hp → Prop), Inv X pins σ H s → RelV x v → r x H Q →
    wpAny (model X.prog X.w) X.A (truthy v) (TP X pins σ Q) X.xe s

def tOp (r : R2) (ta tb : TE) : TE := fun σ H Q => ta σ H fun x H1 => tb σ H1 fun y H2 => r x y H2 Q
def tUn (r : V → Hp → VK → Prop) (ta : TE) : TE := fun σ H Q => ta σ H fun x H1 => r x H1 Q
/-- ints in, under C, and a value out -/
def rI (C : Int → Int → Prop) (g : Int → Int → V) : R2 := fun x y H Q => ∃ i j, x = .int i ∧ y = .int j ∧ C i j ∧ Q (g i j) H
def rI0 (g : Int → Int → V) : R2 := fun x y H Q => ∃ i j, x = .int i ∧ y = .int j ∧ Q (g i j) H
def rU (g : Int → V) : V → Hp → VK → Prop := fun x H Q => ∃ i, x = .int i ∧ Q (g i) H

section
variable {X : Cx} {a b c : Expr} {ta tb tc : TE} {pos : Pos}

theorem binT (ha : PE X a ta) (hb : PE X b tb) {pins : List (Addr × Obj)} {s : Shared} {σ : St} {H : Hp} {R : V → V → Hp → Prop} (I : Inv X pins σ H s)
    (h : ta σ H fun x H1 => tb σ H1 fun y H2 => R x y H2) {Q : Value → Shared → Prop} {f : Value → Value → Sem Value}
    (hf : ∀ v u s2 x y H2, Inv X pins σ H2 s2 → RelV x v → RelV y u → R x y H2 → wpAny (model X.prog X.w) X.A (f v u) Q X.xe s2) :
    wpAny (model X.prog X.w) X.A (eval a X.env) (fun v s₁ => wpAny (model X.prog X.w) X.A (eval b X.env) (fun u s₂ => wpAny (model X.prog X.w) X.A (f v u) Q X.xe s₂) X.xe s₁) X.xe s := by
  refine thn (ha pins s σ H _ I h) fun v s1 ⟨x, H1, I1, r1, q1⟩ => ?_
  refine thn (hb pins s1 σ H1 _ I1 q1) fun u s2 ⟨y, H2, I2, r2, q2⟩ => ?_
  exact hf v u s2 x y H2 I2 r1 r2 q2

theorem pe_op {op : Operator} {r : R2} (ho : OpR X (binaryOp op) r) (ha : PE X a ta) (hb : PE X b tb) : PE X (.BinOp a op b pos) (tOp r ta tb) := by
  intro pins s σ H Q I h
  exact wpAny_BinOp (binT ha hb I h fun v u s2 x y H2 I2 rx ry q => ho pins s2 σ H2 x y v u Q I2 rx ry q)
theorem pe_un {op : UnaryOp} {r : V → Hp → VK → Prop} (ho : UnR X (unaryOp op) r) (ha : PE X a ta) : PE X (.UnaryOp op a pos) (tUn r ta) := by
  intro pins s σ H Q I h
  exact UnaryOp_ (thn (ha pins s σ H _ I h) fun v s1 ⟨x, H1, I1, r1, q1⟩ => ho pins s1 σ H1 x v Q I1 r1 q1)
/-- a op= e at a name: the name's slot i -/
theorem augR {op : Operator} {r : R2} (ho : OpR X (inplaceOp op) r) {pins : List (Addr × Obj)} {s : Shared} {σ : St} {H : Hp} {x y : V} {v u : Value} {Q : VK} (I : Inv X pins σ H s)
    (rx : RelV x v) (ry : RelV y u) (q : r x y H Q) : wpAny (model X.prog X.w) X.A (inplaceOp op v u) (EP X pins σ Q) X.xe s := ho pins s σ H x y v u Q I rx ry q

/-! ### ints -/
theorem opI {f : Value → Value → Sem Value} {C : Int → Int → Prop} {g : Int → Int → Int}
    (rule : ∀ (i j : Int) (t u : Tok) (s : Shared) (Q : Value → Shared → Prop) (E : Value → Shared → Prop), C i j → Q (.int (g i j) s.toks) { s with toks := s.toks + 1 } → wpAny (model X.prog X.w) X.A (f (.int i t) (.int j u)) Q E s) :
    OpR X f (rI C fun i j => .int (g i j)) := by
  intro pins s σ H x y v u Q I rx ry h
  obtain ⟨i, j, rfl, rfl, hc, q⟩ := h
  obtain ⟨t, rfl⟩ := rx
  obtain ⟨t', rfl⟩ := ry
  exact rule i j t t' s _ _ hc ⟨.int (g i j), H, I.tok _, ⟨_, rfl⟩, q⟩
theorem opI0 {f : Value → Value → Sem Value} {g : Int → Int → Int}
    (rule : ∀ (i j : Int) (t u : Tok) (s : Shared) (Q : Value → Shared → Prop) (E : Value → Shared → Prop), Q (.int (g i j) s.toks) { s with toks := s.toks + 1 } → wpAny (model X.prog X.w) X.A (f (.int i t) (.int j u)) Q E s) :
    OpR X f (rI0 fun i j => .int (g i j)) := by
  intro pins s σ H x y v u Q I rx ry h
  obtain ⟨i, j, rfl, rfl, q⟩ := h
  obtain ⟨t, rfl⟩ := rx
  obtain ⟨t', rfl⟩ := ry
  exact rule i j t t' s _ _ ⟨.int (g i j), H, I.tok _, ⟨_, rfl⟩, q⟩
theorem opB0 {f : Value → Value → Sem Value} {g : Int → Int → Bool}
    (rule : ∀ (i j : Int) (t u : Tok) (s : Shared) (Q : Value → Shared → Prop) (E : Value → Shared → Prop), Q (.bool (g i j)) s → wpAny (model X.prog X.w) X.A (f (.int i t) (.int j u)) Q E s) :
    OpR X f (rI0 fun i j => .bl (g i j)) := by
  intro pins s σ H x y v u Q I rx ry h
  obtain ⟨i, j, rfl, rfl, q⟩ := h
  obtain ⟨t, rfl⟩ := rx
  obtain ⟨t', rfl⟩ := ry
  exact rule i j t t' s _ _ ⟨.bl (g i j), H, I, rfl, q⟩

def CDiv (i j : Int) : Prop := 0 < j ∧ j < 1073741824
def CDivN (i j : Int) : Prop := j ≠ 0 ∧ j.natAbs < 1073741824
def CPow (i j : Int) : Prop := 0 ≤ j ∧ j ≤ 1000000 ∧ i.natAbs < 2 ^ 64
def CMul (i j : Int) : Prop := (-(2 ^ 64) < i ∧ i < 2 ^ 64) ∨ (-(2 ^ 64) < j ∧ j < 2 ^ 64)
theorem CMul.ok {i j : Int} (h : CMul i j) : IntMulOk i j := by
  rcases h with ⟨h1, h2⟩ | ⟨h1, h2⟩
  · exact .of_left (intBits_le_64 h1 h2)
  · exact .of_right (intBits_le_64 h1 h2)
theorem two_pow_nn (k : Nat) : (0 : Int) ≤ 2 ^ k := by
  rw [two_pow_cast]
  exact Int.natCast_nonneg _

theorem op_add : OpR X (binaryOp .Add) (rI0 fun i j => .int (i + j)) := opI0 fun _ _ _ _ _ _ _ q => add_int q
theorem op_sub : OpR X (binaryOp .Sub) (rI0 fun i j => .int (i - j)) := opI0 fun _ _ _ _ _ _ _ q => sub_int q
theorem op_mul : OpR X (binaryOp .Mult) (rI CMul fun i j => .int (i * j)) := opI fun _ _ _ _ _ _ _ hc q => mul_int q hc.ok
/-- // by a positive divisor -/
theorem op_fdiv : OpR X (binaryOp .FloorDiv) (rI CDiv fun i j => .int (i / j)) := opI fun i j _ _ _ _ _ hc q => by
  have h1 : (0 : Int) < j := hc.1
  have h2 : j < 1073741824 := hc.2
  exact floordiv_int (by omega) (by rw [Int.fdiv_eq_ediv_of_nonneg i (by omega)]; exact q) (.inl (PyProof.noPylong_small (by omega)))
theorem op_fdivN : OpR X (binaryOp .FloorDiv) (rI CDivN fun i j => .int (i.fdiv j)) := opI fun _ _ _ _ _ _ _ hc q => floordiv_int hc.1 q (.inl (PyProof.noPylong_small hc.2))
/-- % by a positive divisor of any size -/
theorem op_mod : OpR X (binaryOp .Mod) (rI (fun _ j => 0 < j) fun i j => .int (i % j)) := opI fun i j _ _ _ _ _ hc q => by
  have h1 : (0 : Int) < j := hc
  exact mod_int' (by omega) (by rw [Int.fmod_eq_emod_of_nonneg i (by omega)]; exact q)
theorem op_modN : OpR X (binaryOp .Mod) (rI (fun _ j => j ≠ 0) fun i j => .int (i.fmod j)) := opI fun _ _ _ _ _ _ _ hc q => mod_int' hc q
theorem op_pow : OpR X (binaryOp .Pow) (rI CPow fun i j => .int (i ^ j.toNat)) := opI fun _ _ _ _ _ _ _ hc q => pow_int_small hc.1 hc.2.1 hc.2.2 q
theorem op_shl : OpR X (binaryOp .LShift) (rI CPow fun i j => .int (i * 2 ^ j.toNat)) := opI fun _ _ _ _ _ _ _ hc q => lshift_int_small hc.1 hc.2.1 hc.2.2 q
theorem op_shr : OpR X (binaryOp .RShift) (rI (fun _ j => 0 ≤ j) fun i j => .int (i / 2 ^ j.toNat)) := opI fun i j _ _ _ _ _ hc q =>
  rshift_int hc (by rw [Int.fdiv_eq_ediv_of_nonneg i (two_pow_nn _)]; exact q)
theorem op_and : OpR X (binaryOp .BitAnd) (rI0 fun i j => .int (Builtin.bitAnd i j)) := opI0 fun _ _ _ _ _ _ _ q => and_int q
theorem op_or : OpR X (binaryOp .BitOr) (rI0 fun i j => .int (Builtin.bitOr i j)) := opI0 fun _ _ _ _ _ _ _ q => or_int q
theorem op_xor : OpR X (binaryOp .BitXor) (rI0 fun i j => .int (Builtin.bitXor i j)) := opI0 fun _ _ _ _ _ _ _ q => xor_int q

theorem iop_add : OpR X (inplaceOp .Add) (rI0 fun i j => .int (i + j)) := opI0 fun _ _ _ _ _ _ _ q => iadd_int q
theorem iop_sub : OpR X (inplaceOp .Sub) (rI0 fun i j => .int (i - j)) := opI0 fun _ _ _ _ _ _ _ q => isub_int q
theorem iop_mul : OpR X (inplaceOp .Mult) (rI CMul fun i j => .int (i * j)) := opI fun _ _ _ _ _ _ _ hc q => imul_int q hc.ok
theorem iop_fdiv : OpR X (inplaceOp .FloorDiv) (rI CDiv fun i j => .int (i / j)) := opI fun i j _ _ _ _ _ hc q => by
  have h1 : (0 : Int) < j := hc.1
  have h2 : j < 1073741824 := hc.2
  exact ifloordiv_int (by omega) (by rw [Int.fdiv_eq_ediv_of_nonneg i (by omega)]; exact q) (.inl (PyProof.noPylong_small (by omega)))
theorem iop_mod : OpR X (inplaceOp .Mod) (rI (fun _ j => 0 < j) fun i j => .int (i % j)) := opI fun i j _ _ _ _ _ hc q => by
  have h1 : (0 : Int) < j := hc
  exact imod_int (by omega) (by rw [Int.fmod_eq_emod_of_nonneg i (by omega)]; exact q)
theorem iop_shl : OpR X (inplaceOp .LShift) (rI CPow fun i j => .int (i * 2 ^ j.toNat)) := opI fun _ _ _ _ _ _ _ hc q => ilshift_int_small hc.1 hc.2.1 hc.2.2 q
theorem iop_shr : OpR X (inplaceOp .RShift) (rI (fun _ j => 0 ≤ j) fun i j => .int (i / 2 ^ j.toNat)) := opI fun i j _ _ _ _ _ hc q =>
  irshift_int hc (by rw [Int.fdiv_eq_ediv_of_nonneg i (two_pow_nn _)]; exact q)
theorem iop_and : OpR X (inplaceOp .BitAnd) (rI0 fun i j => .int (Builtin.bitAnd i j)) := opI0 fun _ _ _ _ _ _ _ q => iand_int q
theorem iop_or : OpR X (inplaceOp .BitOr) (rI0 fun i j => .int (Builtin.bitOr i j)) := opI0 fun _ _ _ _ _ _ _ q => ior_int q
theorem iop_xor : OpR X (inplaceOp .BitXor) (rI0 fun i j => .int (Builtin.bitXor i j)) := opI0 fun _ _ _ _ _ _ _ q => ixor_int q

theorem unI {f : Value → Sem Value} {g : Int → Int}
    (rule : ∀ (i : Int) (t : Tok) (s : Shared) (Q : Value → Shared → Prop) (E : Value → Shared → Prop), Q (.int (g i) s.toks) { s with toks := s.toks + 1 } → wpAny (model X.prog X.w) X.A (f (.int i t)) Q E s) :
    UnR X f (rU fun i => .int (g i)) := by
  intro pins s σ H x v Q I rx h
  obtain ⟨i, rfl, q⟩ := h
  obtain ⟨t, rfl⟩ := rx
  exact rule i t s _ _ ⟨.int (g i), H, I.tok _, ⟨_, rfl⟩, q⟩
theorem un_neg : UnR X (unaryOp .USub) (rU fun i => .int (-i)) := unI fun _ _ _ _ _ q => neg_int q
theorem un_inv : UnR X (unaryOp .Invert) (rU fun i => .int (Builtin.bitNot i)) := unI fun _ _ _ _ _ q => invert_int q

/-! ### bools among ints: n += (a < b) -/
theorem op_add_ib : OpR X (binaryOp .Add) (fun x y H Q => ∃ i k, x = .int i ∧ y = .bl k ∧ Q (.int (i + b2i k)) H) := by
  intro pins s σ H x y v u Q I rx ry h
  obtain ⟨i, k, rfl, rfl, q⟩ := h
  obtain ⟨t, rfl⟩ := rx
  cases ry
  exact add_int_bool ⟨.int (i + b2i k), H, I.tok _, ⟨_, rfl⟩, q⟩
end

/-! ### comparisons -/
/-- the scalars that == tells apart as data does -/
def scal : V → V → Bool
  | .non, .non => true | .non, .int _ => true | .int _, .non => true | .non, .bl _ => true | .bl _, .non => true | .non, .str _ => true | .str _, .non => true
  | .int _, .int _ => true | .bl _, .bl _ => true | .str _, .str _ => true | .byt _, .byt _ => true
  | .int _, .str _ => true | .str _, .int _ => true | .bl _, .str _ => true | .str _, .bl _ => true
  | _, _ => false
def rEq : R2 := fun x y H Q => scal x y = true ∧ Q (.bl (decide (x = y))) H
def rNe : R2 := fun x y H Q => scal x y = true ∧ Q (.bl (!decide (x = y))) H

theorem dec_int {i j : Int} : decide (V.int i = V.int j) = (i == j) := by
  rw [Bool.eq_iff_iff]
  simp
theorem dec_bl {i j : Bool} : decide (V.bl i = V.bl j) = (i == j) := by
  rw [Bool.eq_iff_iff]
  simp
theorem dec_str {i j : Str} : decide (V.str i = V.str j) = (i == j) := by
  rw [Bool.eq_iff_iff]
  simp
theorem dec_byt {i j : Array UInt8} : decide (V.byt i = V.byt j) = (i.toList == j.toList) := by
  rw [Bool.eq_iff_iff]
  cases i
  cases j
  simp

section
variable {X : Cx} {a b c : Expr} {ta tb tc : TE} {pos : Pos}
theorem fin_bl {pins : List (Addr × Obj)} {σ : St} {H : Hp} {s : Shared} {Q : VK} {k k' : Bool} (I : Inv X pins σ H s) (q : Q (.bl k) H) (e : k = k') : EP X pins σ Q (.bool k') s := by
  subst e
  exact ⟨.bl k, H, I, rfl, q⟩
theorem op_eq : OpR X (compareOp .Eq) rEq := by
  intro pins s σ H x y v u Q I rx ry h
  obtain ⟨hs, q⟩ := h
  cases x with
  | non =>
    cases rx
    cases y with
    | non => cases ry; exact PySem.EqNone.eq_none_none (fin_bl I q (by simp))
    | bl j => cases ry; exact PySem.EqNone.eq_none_bool (fin_bl I q (by simp))
    | int j => obtain ⟨t', rfl⟩ := ry; exact PySem.EqNone.eq_none_int (fin_bl I q (by simp))
    | str j => obtain ⟨t', rfl⟩ := ry; exact PySem.EqNone.eq_none_str (fin_bl I q (by simp))
    | _ => exact absurd (show false = true from hs) Bool.false_ne_true
  | bl i =>
    cases rx
    cases y with
    | non => cases ry; exact PySem.EqNone.eq_bool_none (fin_bl I q (by simp))
    | bl j => cases ry; exact eq_bool (fin_bl I q dec_bl)
    | str j => obtain ⟨t', rfl⟩ := ry; exact PySem.EqMixed.eq_bool_str (fin_bl I q (by simp))
    | _ => exact absurd (show false = true from hs) Bool.false_ne_true
  | int i =>
    obtain ⟨t, rfl⟩ := rx
    cases y with
    | non => cases ry; exact PySem.EqNone.eq_int_none (fin_bl I q (by simp))
    | int j => obtain ⟨t', rfl⟩ := ry; exact eq_int (fin_bl I q dec_int)
    | str j => obtain ⟨t', rfl⟩ := ry; exact PySem.EqMixed.eq_int_str (fin_bl I q (by simp))
    | _ => exact absurd (show false = true from hs) Bool.false_ne_true
  | str i =>
    obtain ⟨t, rfl⟩ := rx
    cases y with
    | non => cases ry; exact PySem.EqNone.eq_str_none (fin_bl I q (by simp))
    | bl j => cases ry; exact PySem.EqMixed.eq_str_bool (fin_bl I q (by simp))
    | int j => obtain ⟨t', rfl⟩ := ry; exact PySem.EqMixed.eq_str_int (fin_bl I q (by simp))
    | str j => obtain ⟨t', rfl⟩ := ry; exact eq_str (fin_bl I q dec_str)
    | _ => exact absurd (show false = true from hs) Bool.false_ne_true
  | byt i =>
    obtain ⟨t, rfl⟩ := rx
    cases y with
    | byt j => obtain ⟨t', rfl⟩ := ry; exact PySem.W.eq_bytes (fin_bl I q dec_byt)
    | _ => exact absurd (show false = true from hs) Bool.false_ne_true
  | _ => cases y <;> exact absurd (show false = true from hs) Bool.false_ne_true
theorem op_ne : OpR X (compareOp .NotEq) rNe := by
  intro pins s σ H x y v u Q I rx ry h
  obtain ⟨hs, q⟩ := h
  cases x with
  | non =>
    cases rx
    cases y with
    | non => cases ry; exact PySem.EqNone.ne_none_none (fin_bl I q (by simp))
    | bl j => cases ry; exact PySem.EqNone.ne_none_bool (fin_bl I q (by simp))
    | int j => obtain ⟨t', rfl⟩ := ry; exact PySem.EqNone.ne_none_int (fin_bl I q (by simp))
    | str j => obtain ⟨t', rfl⟩ := ry; exact PySem.EqNone.ne_none_str (fin_bl I q (by simp))
    | _ => exact absurd (show false = true from hs) Bool.false_ne_true
  | bl i =>
    cases rx
    cases y with
    | non => cases ry; exact PySem.EqNone.ne_bool_none (fin_bl I q (by simp))
    | bl j => cases ry; exact ne_bool (fin_bl I q (congrArg not dec_bl))
    | str j => obtain ⟨t', rfl⟩ := ry; exact PySem.EqMixed.ne_bool_str (fin_bl I q (by simp))
    | _ => exact absurd (show false = true from hs) Bool.false_ne_true
  | int i =>
    obtain ⟨t, rfl⟩ := rx
    cases y with
    | non => cases ry; exact PySem.EqNone.ne_int_none (fin_bl I q (by simp))
    | int j => obtain ⟨t', rfl⟩ := ry; exact ne_int (fin_bl I q (congrArg not dec_int))
    | str j => obtain ⟨t', rfl⟩ := ry; exact PySem.EqMixed.ne_int_str (fin_bl I q (by simp))
    | _ => exact absurd (show false = true from hs) Bool.false_ne_true
  | str i =>
    obtain ⟨t, rfl⟩ := rx
    cases y with
    | non => cases ry; exact PySem.EqNone.ne_str_none (fin_bl I q (by simp))
    | bl j => cases ry; exact PySem.EqMixed.ne_str_bool (fin_bl I q (by simp))
    | int j => obtain ⟨t', rfl⟩ := ry; exact PySem.EqMixed.ne_str_int (fin_bl I q (by simp))
    | str j => obtain ⟨t', rfl⟩ := ry; exact ne_str (fin_bl I q (congrArg not dec_str))
    | _ => exact absurd (show false = true from hs) Bool.false_ne_true
  | byt i =>
    obtain ⟨t, rfl⟩ := rx
    cases y with
    | byt j => obtain ⟨t', rfl⟩ := ry; exact PySem.W.ne_bytes (fin_bl I q (congrArg not dec_byt))
    | _ => exact absurd (show false = true from hs) Bool.false_ne_true
  | _ => cases y <;> exact absurd (show false = true from hs) Bool.false_ne_true

theorem op_lt : OpR X (compareOp .Lt) (rI0 fun i j => .bl (decide (i < j))) := opB0 fun _ _ _ _ _ _ _ q => lt_int q
theorem op_le : OpR X (compareOp .LtE) (rI0 fun i j => .bl (decide (i ≤ j))) := opB0 fun _ _ _ _ _ _ _ q => le_int q
theorem op_gt : OpR X (compareOp .Gt) (rI0 fun i j => .bl (decide (j < i))) := opB0 fun _ _ _ _ _ _ _ q => gt_int q
theorem op_ge : OpR X (compareOp .GtE) (rI0 fun i j => .bl (decide (j ≤ i))) := opB0 fun _ _ _ _ _ _ _ q => ge_int q
theorem op_lt_str : OpR X (compareOp .Lt) (fun x y H Q => ∃ i j, x = .str i ∧ y = .str j ∧ Q (.bl (decide (i.cps.toList < j.cps.toList))) H) := by
  intro pins s σ H x y v u Q I rx ry h
  obtain ⟨i, j, rfl, rfl, q⟩ := h
  obtain ⟨t, rfl⟩ := rx
  obtain ⟨t', rfl⟩ := ry
  exact lt_str (fin_bl I q rfl)
/-- the one string within the other -/
theorem op_in_str : OpR X (compareOp .In) (fun x y H Q => ∃ i j, x = .str i ∧ y = .str j ∧ Q (.bl (!(Builtin.Str.occurrences j i 0 j.length 1).isEmpty)) H) := by
  intro pins s σ H x y v u Q I rx ry h
  obtain ⟨i, j, rfl, rfl, q⟩ := h
  obtain ⟨t, rfl⟩ := rx
  obtain ⟨t', rfl⟩ := ry
  exact in_str (fin_bl I q rfl)

/-- is None, is not None: the right side a value none -/
theorem op_isN : OpR X (compareOp .Is) (fun x y H Q => y = .non ∧ Q (.bl (decide (x = .non))) H) := by
  intro pins s σ H x y v u Q I rx ry h
  obtain ⟨rfl, q⟩ := h
  cases ry
  refine is_none_gen (fin_bl I q ?_)
  cases x <;> first
    | (cases rx; rfl)
    | (obtain ⟨t, rfl⟩ := rx; rfl)
theorem op_notN : OpR X (compareOp .IsNot) (fun x y H Q => y = .non ∧ Q (.bl (!decide (x = .non))) H) := by
  intro pins s σ H x y v u Q I rx ry h
  obtain ⟨rfl, q⟩ := h
  cases ry
  refine isnot_none_gen (fin_bl I q ?_)
  cases x <;> first
    | (cases rx; rfl)
    | (obtain ⟨t, rfl⟩ := rx; rfl)

theorem op_notin_str : OpR X (compareOp .NotIn) (fun x y H Q => ∃ i j, x = .str i ∧ y = .str j ∧ Q (.bl (!(!(Builtin.Str.occurrences j i 0 j.length 1).isEmpty))) H) := by
  intro pins s σ H x y v u Q I rx ry h
  obtain ⟨i, j, rfl, rfl, q⟩ := h
  obtain ⟨t, rfl⟩ := rx
  obtain ⟨t', rfl⟩ := ry
  exact notIn_str (fin_bl I q rfl)
/-- is, is not of two objects that are tracked lists or instances -/
def isObj : HO → Bool
  | .lst _ => true
  | .ins _ _ _ => true
  | _ => false
theorem obj_there {pins : List (Addr × Obj)} {s : Shared} {σ : St} {H : Hp} {a : Addr} {o : HO} (I : Inv X pins σ H s) (h : H a = some o) (p : isObj o = true) : ∃ ob, s.heap.get? a = some ob ∧ ob.cls ≠ .type "tuple" := by
  cases o with
  | lst xs =>
    obtain ⟨_, its, n, _, e⟩ : xs.length ≤ sizeLine ∧ ∃ (its : List Value) (n : Nat), Vals xs its ∧ s.heap.get? a = some { cls := .type "list", data := .seq its.toArray n } := I.hok a _ h
    exact ⟨_, e, (by show Value.type "list" ≠ .type "tuple"; decide +kernel)⟩
  | ins C dx fs =>
    have x := I.hok a _ h
    obtain ⟨_, _, _, e, _⟩ := x
    exact ⟨_, e, (by show Value.ref C ≠ .type "tuple"; exact fun z => by cases z)⟩
  | _ => exact absurd (show false = true from p) Bool.false_ne_true
theorem op_is_ref : OpR X (compareOp .Is) (fun x y H Q => ∃ a b oa ob, x = .ref a ∧ y = .ref b ∧ H a = some oa ∧ isObj oa = true ∧ H b = some ob ∧ isObj ob = true ∧ Q (.bl (decide (a = b))) H) := by
  intro pins s σ H x y v u Q I rx ry h
  obtain ⟨a, b, oa, ob, rfl, rfl, ha, pa, hb, pb, q⟩ := h
  cases rx
  cases ry
  obtain ⟨o1, e1, n1⟩ := obj_there I ha pa
  obtain ⟨o2, e2, _⟩ := obj_there I hb pb
  by_cases z : a = b
  · subst z
    exact wpAny_is_ref_self (fin_bl I q (by simp))
  · exact wpAny_is_ref_other z e1 e2 n1 (fin_bl I q (by simp [z]))
theorem op_isnot_ref : OpR X (compareOp .IsNot) (fun x y H Q => ∃ a b oa ob, x = .ref a ∧ y = .ref b ∧ H a = some oa ∧ isObj oa = true ∧ H b = some ob ∧ isObj ob = true ∧ Q (.bl (!decide (a = b))) H) := by
  intro pins s σ H x y v u Q I rx ry h
  obtain ⟨a, b, oa, ob, rfl, rfl, ha, pa, hb, pb, q⟩ := h
  cases rx
  cases ry
  obtain ⟨o1, e1, n1⟩ := obj_there I ha pa
  obtain ⟨o2, e2, _⟩ := obj_there I hb pb
  by_cases z : a = b
  · subst z
    exact wpAny_isNot_ref_self (fin_bl I q (by simp))
  · exact wpAny_isNot_ref_other z e1 e2 n1 (fin_bl I q (by simp [z]))

/-- two rules for one operation: by cases -/
theorem OpR.or {f : Value → Value → Sem Value} {r r' : R2} (h : OpR X f r) (h' : OpR X f r') : OpR X f (fun x y H Q => r x y H Q ∨ r' x y H Q) := by
  intro pins s σ H x y v u Q I rx ry q
  rcases q with q | q
  · exact h pins s σ H x y v u Q I rx ry q
  · exact h' pins s σ H x y v u Q I rx ry q

theorem nomark (b : Expr) {op : CmpOp} (h : op ≠ .In := by decide) (h2 : op ≠ .NotIn := by decide) : behindInMarks op b = false := by
  have e1 : (op == CmpOp.In) = false := by cases op <;> first | rfl | exact absurd rfl h
  have e2 : (op == CmpOp.NotIn) = false := by cases op <;> first | rfl | exact absurd rfl h2
  cases b <;> simp [behindInMarks, e1, e2]
/-- a comparison as a value; hm: nomark b, or (for in, not in) by with_unfolding_all rfl -/
theorem pe_cmpR {op : CmpOp} {r : R2} (ho : OpR X (compareOp op) r) (ha : PE X a ta) (hb : PE X b tb) (hm : behindInMarks op b = false) : PE X (.Compare a [op] [b] pos) (tOp r ta tb) := by
  intro pins s σ H Q I h
  exact wpAny_Compare1 (binT ha hb I h fun v u s2 x y H2 I2 rx ry q => ho pins s2 σ H2 x y v u Q I2 rx ry q) hm
/-- a reading of a value as a test -/
def tTest (t : TE) : TT := fun σ H Q => t σ H fun x H' => ∃ k, x = .bl k ∧ Q k H'
theorem pt_cmpR {op : CmpOp} {r : R2} (ho : OpR X (compareOp op) r) (ha : PE X a ta) (hb : PE X b tb) (hm : behindInMarks op b = false) : PT X (.Compare a [op] [b] pos) (tTest (tOp r ta tb)) := by
  intro pins s σ H Q I h
  refine wpAny_isTrue_Compare1 (thn (ha pins s σ H _ I h) fun v s1 ⟨x, H1, I1, r1, q1⟩ => thn (hb pins s1 σ H1 _ I1 q1) fun u s2 ⟨y, H2, I2, r2, q2⟩ =>
    thn (ho pins s2 σ H2 x y v u _ I2 r1 r2 q2) fun c s3 ⟨z, H3, I3, r3, k, e, q3⟩ => ?_) hm
  subst e
  cases r3
  exact wpAny_truthy_bool ⟨H3, I3, q3⟩
/-- a op1 b op2 c -/
def tChain (r r' : R2) (ta tb tc : TE) : TE := fun σ H Q => ta σ H fun x H1 => tb σ H1 fun y H2 => r x y H2 fun z H3 => ∃ k, z = .bl k ∧
  (if k = true then tc σ H3 fun w' H4 => r' y w' H4 Q else Q (.bl false) H3)
theorem pe_chain {op op' : CmpOp} {r r' : R2} (ho : OpR X (compareOp op) r) (ho' : OpR X (compareOp op') r') (ha : PE X a ta) (hb : PE X b tb) (hc : PE X c tc)
    (hm : lastMarks [op, op'] [b, c] = false := by with_unfolding_all rfl) : PE X (.Compare a [op, op'] [b, c] pos) (tChain r r' ta tb tc) := by
  intro pins s σ H Q I h
  refine Compare_chain (thn (ha pins s σ H _ I h) fun v s1 ⟨x, H1, I1, r1, q1⟩ => chain_link (thn (hb pins s1 σ H1 _ I1 q1) fun u s2 ⟨y, H2, I2, r2, q2⟩ =>
    thn (ho pins s2 σ H2 x y v u _ I2 r1 r2 q2) fun d s3 ⟨z, H3, I3, r3, k, e, q3⟩ => ?_)) hm
  subst e
  cases r3
  refine wpAny_truthy_bool ?_
  cases k with
  | false => exact ite_ff ⟨.bl false, H3, I3, rfl, q3⟩
  | true => exact ite_tt (chain_last (thn (hc pins s3 σ H3 _ I3 q3) fun w' s4 ⟨z', H4, I4, r4, q4⟩ => ho' pins s4 σ H4 y z' u w' Q I4 r2 r4 q4))
theorem pt_chain {op op' : CmpOp} {r r' : R2} (ho : OpR X (compareOp op) r) (ho' : OpR X (compareOp op') r') (ha : PE X a ta) (hb : PE X b tb) (hc : PE X c tc)
    (hm : lastMarks [op, op'] [b, c] = false := by with_unfolding_all rfl) : PT X (.Compare a [op, op'] [b, c] pos) (tTest (tChain r r' ta tb tc)) := by
  intro pins s σ H Q I h
  refine isTrue_chain (thn (ha pins s σ H _ I h) fun v s1 ⟨x, H1, I1, r1, q1⟩ => test_link (thn (hb pins s1 σ H1 _ I1 q1) fun u s2 ⟨y, H2, I2, r2, q2⟩ =>
    thn (ho pins s2 σ H2 x y v u _ I2 r1 r2 q2) fun d s3 ⟨z, H3, I3, r3, k, e, q3⟩ => ?_)) hm
  subst e
  cases r3
  refine wpAny_truthy_bool ?_
  cases k with
  | false =>
    obtain ⟨k', e', q'⟩ := q3
    cases e'
    exact ite_ff ⟨H3, I3, q'⟩
  | true =>
    refine ite_tt (test_last (thn (hc pins s3 σ H3 _ I3 q3) fun w' s4 ⟨z', H4, I4, r4, q4⟩ => thn (ho' pins s4 σ H4 y z' u w' _ I4 r2 r4 q4) fun d' s5 ⟨z2, H5, I5, r5, k2, e2, q5⟩ => ?_))
    subst e2
    cases r5
    exact wpAny_truthy_bool ⟨H5, I5, q5⟩

/-! ### truth -/
/-- a value's truth by the abstract heap -/
def TruV (K : PySem.W.Frag) (x : V) (H : Hp) (k : Bool) : Prop :=
  match x with
  | .non => k = false
  | .bl b => k = b
  | .int i => k = (i != 0)
  | .str y => y.length ≤ sizeLine ∧ k = ((y.length : Int) != 0)
  | .byt y => y.size ≤ sizeLine ∧ k = ((y.size : Int) != 0)
  | .ref p => (∃ xs, SqL K H p xs ∧ k = !xs.isEmpty) ∨ (∃ xs, SqT K H p xs ∧ k = !xs.isEmpty) ∨ ∃ kvs, H p = some (.dK kvs) ∧ k = !kvs.isEmpty
  | _ => False
theorem isEmpty_kv {κ : Type} {kvs : List (κ × V)} {vs : List (κ × Value)} (r : KV kvs vs) : (!vs.isEmpty) = !kvs.isEmpty := by
  cases r <;> rfl
theorem isEmpty_of {xs : List V} {its : List Value} (r : Vals xs its) : (!its.toArray.isEmpty) = !xs.isEmpty := by
  cases r <;> simp
theorem line63 : (sizeLine : Nat) < 2 ^ 63 := by rw [sizeLine_eq]; decide
theorem tru_ok : TruR X (fun x H Q => ∃ k, TruV X.K x H k ∧ Q k H) := by
  intro pins s σ H x v Q I rx h
  obtain ⟨k, e, q⟩ := h
  have hl := line63
  have hs : sizeLine = 16777216 := sizeLine_eq
  cases x with
  | non =>
    cases rx
    have e' : k = false := e
    subst e'
    exact truthy_none ⟨H, I, q⟩
  | bl b =>
    cases rx
    have e' : k = b := e
    subst e'
    exact wpAny_truthy_bool ⟨H, I, q⟩
  | int i =>
    obtain ⟨t, rfl⟩ := rx
    have e' : k = (i != 0) := e
    subst e'
    exact PySem.P.truthy_int ⟨H, I, q⟩
  | str y =>
    obtain ⟨t, rfl⟩ := rx
    obtain ⟨hy, e'⟩ : y.length ≤ sizeLine ∧ k = ((y.length : Int) != 0) := e
    subst e'
    exact PySem.P.truthy_str (by omega) ⟨H, I.tok _, q⟩
  | byt y =>
    obtain ⟨t, rfl⟩ := rx
    obtain ⟨hy, e'⟩ : y.size ≤ sizeLine ∧ k = ((y.size : Int) != 0) := e
    subst e'
    exact PySem.W.truthy_bytes (by omega) ⟨H, I.tok _, q⟩
  | ref p =>
    cases rx
    have e' : (∃ xs, SqL X.K H p xs ∧ k = !xs.isEmpty) ∨ (∃ xs, SqT X.K H p xs ∧ k = !xs.isEmpty) ∨ ∃ kvs, H p = some (.dK kvs) ∧ k = !kvs.isEmpty := e
    rcases e' with ⟨xs, hx, e'⟩ | ⟨xs, hx, e'⟩ | ⟨kvs, hx, e'⟩
    · subst e'
      obtain ⟨its, r, pl, hz⟩ := I.list hx
      have hlen := r.length
      exact wpAny_truthy_list pl.isList (by simp only [List.size_toArray]; omega) ⟨H, I.tok _, by rw [isEmpty_of r]; exact q⟩
    · subst e'
      obtain ⟨its, r, pl, hz⟩ := I.tuple hx
      have hlen := r.length
      exact truthy_tuple pl (by simp only [List.size_toArray]; omega) ⟨H, I.tok _, by rw [isEmpty_of r]; exact q⟩
    · subst e'
      obtain ⟨hz, hS, vs, r, m⟩ : kvs.length ≤ sizeLine ∧ (p == sysModules) = false ∧ ∃ vs, KV kvs vs ∧ s.heap.DictOf (mixKind X.prog X.w) p vs := I.hok p _ hx
      have hlen : kvs.length = vs.length := Paired.length r
      exact wpAny_truthy_dict hS m (by omega) ⟨H, I.tok _, by rw [isEmpty_kv r]; exact q⟩
  | _ => exact (show False from e).elim
/-- any expression whose test is its value's truth (a name, a call, a subscript, a field ..: he by fun _ => rfl) -/
theorem pt_truth (ha : PE X a ta) (he : ∀ whole, isTrue a X.env whole = (do let v ← whole; standAt a.pos; holding [v] (truthy v))) :
    PT X a (fun σ H Q => ta σ H fun x H' => ∃ k, TruV X.K x H' k ∧ Q k H') := by
  intro pins s σ H Q I h
  exact isTrue_plain (thn (ha pins s σ H _ I h) fun v s1 ⟨x, H1, I1, r1, q1⟩ => tru_ok pins s1 σ H1 x v Q I1 r1 q1) (he _)

/-! ### strs and bytes -/
theorem pe_byt {x : List UInt8} {k : Nat} : PE X (.Constant (.bytes x) k pos) (fun _ H Q => Q (.byt x.toArray) H) := fun _ _ _ H _ I h => PySem.W.Constant_bytes ⟨.byt x.toArray, H, I.tok _, ⟨_, rfl⟩, h⟩
theorem op_add_str : OpR X (binaryOp .Add) (fun x y H Q => ∃ i j, x = .str i ∧ y = .str j ∧ i.length + j.length ≤ sizeLine ∧ Q (.str (i ++ j)) H) := by
  intro pins s σ H x y v u Q I rx ry h
  obtain ⟨i, j, rfl, rfl, hz, q⟩ := h
  obtain ⟨t, rfl⟩ := rx
  obtain ⟨t', rfl⟩ := ry
  exact add_str (fun t' tk => ⟨.str (i ++ j), H, I.tok _, ⟨_, rfl⟩, q⟩) hz
theorem iop_add_str : OpR X (inplaceOp .Add) (fun x y H Q => ∃ i j, x = .str i ∧ y = .str j ∧ i.length + j.length ≤ sizeLine ∧ Q (.str (i ++ j)) H) := by
  intro pins s σ H x y v u Q I rx ry h
  obtain ⟨i, j, rfl, rfl, hz, q⟩ := h
  obtain ⟨t, rfl⟩ := rx
  obtain ⟨t', rfl⟩ := ry
  exact iadd_str (fun t' tk => ⟨.str (i ++ j), H, I.tok _, ⟨_, rfl⟩, q⟩) hz
theorem op_add_byt : OpR X (binaryOp .Add) (fun x y H Q => ∃ i j, x = .byt i ∧ y = .byt j ∧ i.size + j.size ≤ 16777216 ∧ Q (.byt (i ++ j)) H) := by
  intro pins s σ H x y v u Q I rx ry h
  obtain ⟨i, j, rfl, rfl, hz, q⟩ := h
  obtain ⟨t, rfl⟩ := rx
  obtain ⟨t', rfl⟩ := ry
  exact PySem.W.KBy.add_bytes hz (fun t' tk => ⟨.byt (i ++ j), H, I.tok _, ⟨_, rfl⟩, q⟩)

def PlainIxT (b : Expr) : Prop := ∀ o i, subscripted b false o i = operate [o, i] (getItem o i)
/-- s[i], 0 ≤ i < len -/
theorem pe_item_str (ha : PE X a ta) (hb : PE X b tb) (hs : PlainIxT b) :
    PE X (.Subscript a b pos) (tOp (fun x y H Q => ∃ z i c, x = .str z ∧ y = .int i ∧ 0 ≤ i ∧ i < 2 ^ 63 ∧ i < z.length ∧ z.cps[i.toNat]? = some c ∧ Q (.str ⟨#[c]⟩) H) ta tb) := by
  intro pins s σ H Q I h
  refine Subscript_ (binT ha hb I h fun v u s2 x y H2 I2 rx ry q => ?_)
  obtain ⟨z, i, c, rfl, rfl, h0, h63, h1, hc, q⟩ := q
  obtain ⟨t, rfl⟩ := rx
  obtain ⟨t', rfl⟩ := ry
  have e : seqIndex? i z.length = some i.toNat := PySem.StrLaws.seqIndex_nonneg h0 h1
  exact tail_any (typeIs_str s2 z t) slot_str_getitem.lookup (getItem_str (c := c) (by
    have e1 : decide (i < -(2 ^ 63 : Int)) = false := decide_eq_false (by omega)
    have e2 : decide (i ≥ 2 ^ 63) = false := decide_eq_false (by omega)
    rw [e1, e2] <;> rfl) (by rw [e]; exact hc) ⟨.str ⟨#[c]⟩, H2, I2.tok _, ⟨_, rfl⟩, q⟩) (hs _ _)
/-- b[i], 0 ≤ i < len -/
theorem pe_item_byt (ha : PE X a ta) (hb : PE X b tb) (hs : PlainIxT b) :
    PE X (.Subscript a b pos) (tOp (fun x y H Q => ∃ (z : List UInt8) (i : Int), x = .byt z.toArray ∧ y = .int i ∧ z.length ≤ sizeLine ∧ 0 ≤ i ∧ i < z.length ∧ Q (.int ((z.getD i.toNat 0).toNat : Nat)) H) ta tb) := by
  intro pins s σ H Q I h
  refine Subscript_ (binT ha hb I h fun v u s2 x y H2 I2 rx ry q => ?_)
  obtain ⟨z, i, rfl, rfl, hz, h0, h1, q⟩ := q
  obtain ⟨t, rfl⟩ := rx
  obtain ⟨t', rfl⟩ := ry
  have hl : sizeLine = 16777216 := sizeLine_eq
  exact tail_any (PySem.W.typeIs_bytes s2 z.toArray t) PySem.W.FB.slot_bytes_getitem.lookup (PySem.W.getItem_bytes (by omega) h0 h1 ⟨.int ((z.getD i.toNat 0).toNat : Nat), H2, I2.tok _, ⟨_, rfl⟩, q⟩) (hs _ _)

/-! ### scalar builtins, by CallR -/
theorem vals1 {x : V} {us : List Value} (r : Vals [x] us) : ∃ u, us = [u] ∧ RelV x u := by
  cases r with
  | cons r1 r2 => cases r2; exact ⟨_, rfl, r1⟩
theorem vals2 {x y : V} {us : List Value} (r : Vals [x, y] us) : ∃ u w', us = [u, w'] ∧ RelV x u ∧ RelV y w' := by
  cases r with
  | cons r1 r2 =>
    cases r2 with
    | cons r3 r4 => cases r4; exact ⟨_, _, rfl, r1, r3⟩
theorem call_abs : CallR X (.builtin "abs") (fun xs H Q => ∃ i, xs = [.int i] ∧ Q (.int (if i < 0 then -i else i)) H) := by
  intro pins s σ H xs us Q I r h
  obtain ⟨i, rfl, q⟩ := h
  obtain ⟨u, rfl, t, rfl⟩ := vals1 r
  exact call_abs_int fun u tk => ⟨.int (if i < 0 then -i else i), H, I.tok _, ⟨_, rfl⟩, q⟩
theorem call_max2 (hc : X.calm = true) : CallR X (.builtin "max") (fun xs H Q => ∃ i j, xs = [.int i, .int j] ∧ Q (.int (if j > i then j else i)) H) := by
  intro pins s σ H xs us Q I r h
  obtain ⟨i, j, rfl, q⟩ := h
  obtain ⟨u, w', rfl, ⟨t, rfl⟩, ⟨t', rfl⟩⟩ := vals2 r
  refine max_two_ints (I.ok.hd hc) fun h' tk k => ⟨_, H, I.kept k, ?_, q⟩
  by_cases hj : j > i
  · rw [if_pos hj, if_pos hj]; exact ⟨_, rfl⟩
  · rw [if_neg hj, if_neg hj]; exact ⟨_, rfl⟩
theorem call_min2 (hc : X.calm = true) : CallR X (.builtin "min") (fun xs H Q => ∃ i j, xs = [.int i, .int j] ∧ Q (.int (if j < i then j else i)) H) := by
  intro pins s σ H xs us Q I r h
  obtain ⟨i, j, rfl, q⟩ := h
  obtain ⟨u, w', rfl, ⟨t, rfl⟩, ⟨t', rfl⟩⟩ := vals2 r
  refine min_two_ints (I.ok.hd hc) fun h' tk k => ⟨_, H, I.kept k, ?_, q⟩
  by_cases hj : j < i
  · rw [if_pos hj, if_pos hj]; exact ⟨_, rfl⟩
  · rw [if_neg hj, if_neg hj]; exact ⟨_, rfl⟩
theorem call_int1 : CallR X (.type "int") (fun xs H Q => (∃ i, xs = [.int i] ∧ Q (.int i) H) ∨ ∃ k, xs = [.bl k] ∧ Q (.int (if k then 1 else 0)) H) := by
  intro pins s σ H xs us Q I r h
  rcases h with ⟨i, rfl, q⟩ | ⟨k, rfl, q⟩
  · obtain ⟨u, rfl, t, rfl⟩ := vals1 r
    exact call_int_int ⟨.int i, H, I, ⟨_, rfl⟩, q⟩
  · obtain ⟨u, rfl, r1⟩ := vals1 r
    cases r1
    exact call_int_bool ⟨.int (if k then 1 else 0), H, I.tok _, ⟨_, rfl⟩, q⟩
theorem call_bool1 : CallR X (.type "bool") (fun xs H Q => (∃ i, xs = [.int i] ∧ Q (.bl (i != 0)) H) ∨ ∃ k, xs = [.bl k] ∧ Q (.bl k) H) := by
  intro pins s σ H xs us Q I r h
  rcases h with ⟨i, rfl, q⟩ | ⟨k, rfl, q⟩
  · obtain ⟨u, rfl, t, rfl⟩ := vals1 r
    exact call_bool_int ⟨.bl (i != 0), H, I, rfl, q⟩
  · obtain ⟨u, rfl, r1⟩ := vals1 r
    cases r1
    exact call_bool_bool ⟨.bl k, H, I, rfl, q⟩
theorem call_str_int : CallR X (.type "str") (fun xs H Q => ∃ i, xs = [.int i] ∧ i.natAbs.log2 < 1920 ∧ Q (.str (toString i)) H) := by
  intro pins s σ H xs us Q I r h
  obtain ⟨i, rfl, hz, q⟩ := h
  obtain ⟨u, rfl, t, rfl⟩ := vals1 r
  exact PySem.P.str_of_int hz ⟨.str _, H, I.tok _, ⟨_, rfl⟩, q⟩
theorem call_ord : CallR X (.builtin "ord") (fun xs H Q => ∃ x, xs = [.str x] ∧ x.length = 1 ∧ Q (.int (x.cps.getD 0 0 : Nat)) H) := by
  intro pins s σ H xs us Q I r h
  obtain ⟨x, rfl, hz, q⟩ := h
  obtain ⟨u, rfl, t, rfl⟩ := vals1 r
  exact ord_of_one hz ⟨.int _, H, I.tok _, ⟨_, rfl⟩, q⟩
theorem call_chr : CallR X (.builtin "chr") (fun xs H Q => ∃ i, xs = [.int i] ∧ 0 ≤ i ∧ i ≤ 1114111 ∧ Q (.str ⟨#[i.toNat]⟩) H) := by
  intro pins s σ H xs us Q I r h
  obtain ⟨i, rfl, h0, h1, q⟩ := h
  obtain ⟨u, rfl, t, rfl⟩ := vals1 r
  exact chr_of_range h0 h1 ⟨.str _, H, I.tok _, ⟨_, rfl⟩, q⟩
/-- len of a str, a bytes, a list, a tuple -/
def LenV (K : PySem.W.Frag) (x : V) (H : Hp) (n : Nat) : Prop :=
  match x with
  | .str y => y.length ≤ sizeLine ∧ n = y.length
  | .byt y => y.size ≤ sizeLine ∧ n = y.size
  | .ref p => (∃ xs, SqL K H p xs ∧ n = xs.length) ∨ ∃ xs, SqT K H p xs ∧ n = xs.length
  | _ => False
theorem call_len : CallR X (.builtin "len") (fun xs H Q => ∃ x n, xs = [x] ∧ LenV X.K x H n ∧ Q (.int n) H) := by
  intro pins s σ H xs us Q I r h
  obtain ⟨x, n, rfl, e, q⟩ := h
  obtain ⟨u, rfl, rx⟩ := vals1 r
  have hl := line63
  have hs : sizeLine = 16777216 := sizeLine_eq
  cases x with
  | str y =>
    obtain ⟨t, rfl⟩ := rx
    obtain ⟨hy, e'⟩ : y.length ≤ sizeLine ∧ n = y.length := e
    subst e'
    exact len_str (by omega) ⟨.int _, H, I.tok _, ⟨_, rfl⟩, q⟩
  | byt y =>
    obtain ⟨t, rfl⟩ := rx
    obtain ⟨hy, e'⟩ : y.size ≤ sizeLine ∧ n = y.size := e
    subst e'
    exact PySem.W.len_bytes (by omega) ⟨.int _, H, I.tok _, ⟨_, rfl⟩, q⟩
  | ref p =>
    cases rx
    have e' : (∃ xs, SqL X.K H p xs ∧ n = xs.length) ∨ ∃ xs, SqT X.K H p xs ∧ n = xs.length := e
    rcases e' with ⟨xs, hx, e'⟩ | ⟨xs, hx, e'⟩
    · subst e'
      obtain ⟨its, r', pl, hz⟩ := I.list hx
      have hlen := r'.length
      exact Calls.call_len_list pl.isList (by simp only [List.size_toArray]; omega) ⟨.int xs.length, H, I.tok _, ⟨_, by simp only [List.size_toArray]; rw [hlen]⟩, q⟩
    · subst e'
      obtain ⟨its, r', pl, hz⟩ := I.tuple hx
      have hlen := r'.length
      exact len_tuple pl (by simp only [List.size_toArray]; omega) ⟨.int xs.length, H, I.tok _, ⟨_, by simp only [List.size_toArray]; rw [hlen]⟩, q⟩
  | _ => exact (show False from e).elim
/-- divmod: a new tuple -/
theorem call_divmod : CallR X (.builtin "divmod") (fun xs H Q => ∃ i j, xs = [.int i, .int j] ∧ CDiv i j ∧ ∀ p, H p = none → Q (.ref p) (upd H p (.tup [.int (i / j), .int (i % j)]))) := by
  intro pins s σ H xs us Q I r h
  obtain ⟨i, j, rfl, ⟨h1, h2⟩, q⟩ := h
  obtain ⟨u, w', rfl, ⟨t, rfl⟩, ⟨t', rfl⟩⟩ := vals2 r
  refine divmod_int (by omega) ?_ (.inl (PyProof.noPylong_small (by omega)))
  rw [Int.fdiv_eq_ediv_of_nonneg i (by omega), Int.fmod_eq_emod_of_nonneg i (by omega)]
  have hn : H s.heap.objs.size = none := I.hok.fresh (Nat.le_refl _)
  refine ⟨.ref s.heap.objs.size, _, ?_, rfl, q _ hn⟩
  refine I.laid (fun b o e => Heap.get?_push_of_some _ e) (Nat.le_refl _) ⟨by simp only [List.length_cons, List.length_nil]; rw [sizeLine_eq]; decide, [.int (i / j) s.toks, .int (i % j) (s.toks + 1)], .cons ⟨_, rfl⟩ (.cons ⟨_, rfl⟩ .nil), ?_⟩
  exact ⟨_, Heap.get?_push_size s.heap rfl, rfl, 0, rfl⟩
end
end L2

namespace L2
open PySem PySem.Spec PyProof.Rows

/-! ### an instance, its attributes a map -/
structure ObjM (h : Heap) (x dx C : Addr) (mA : Str → Option Value) : Prop where
  obj : h.get? x = some (PySem.W.instObj C dx)
  ns : h.Ns1 dx mA
  ne : dx ≠ x

theorem lookIn_ns {h : Heap} {dx : Addr} {mA : Str → Option Value} (n : h.Ns1 dx mA) : ∃ od, h.get? dx = some od ∧ ∀ name, PySem.W.lookIn name od = some (mA name) := by
  obtain ⟨o, es, ep, ho, hd, hk, _, hm⟩ := n
  refine ⟨o, ho, fun name => ?_⟩
  have e := hm name
  unfold nsFind findBy at e
  rw [← Array.find?_toList] at e
  unfold PySem.W.lookIn
  rw [hd]
  dsimp only
  split
  · rename_i y q
    rw [q] at e
    exact congrArg some e
  · rename_i q
    rw [q] at e
    have a : es.toList.any (·.refKey) = false := by
      rw [List.any_eq_false]
      intro y hy
      obtain ⟨z, t, hkey⟩ := hk y (Array.mem_toList_iff.mp hy)
      simp [DictEntry.refKey, hkey]
    have a' : ¬ es.toList.any (·.refKey) = true := by rw [a]; exact Bool.false_ne_true
    rw [if_neg a']
    exact congrArg some e

theorem ObjM.look {h : Heap} {x dx C : Addr} {mA : Str → Option Value} (I : ObjM h x dx C mA) : ∃ od, PySem.W.InstAt h x (PySem.W.instObj C dx) C (some od) ∧ ∀ name, PySem.W.lookIn name od = some (mA name) :=
  let ⟨od, ho, hl⟩ := lookIn_ns I.ns
  ⟨od, ⟨I.obj, rfl, rfl, ho⟩, hl⟩

section
variable {prog : Program} {w : World} {A : Around} {E : Value → Shared → Prop} {s : Shared} {K : PySem.W.Frag} {x dx C f : Addr} {mA : Str → Option Value} {name : Str} {v : Value}

theorem get_map {expr : Bool} {Q : Value → Shared → Prop} (X : K.In s.heap) (I : ObjM s.heap x dx C mA) (hg : PySem.W.plainGet K C name = true) (hh : PySem.W.hasDictIn K C = true)
    (ha : PySem.W.findIn K (.ref C) name = some none) (hv : mA name = some v) (hv' : PySem.W.handedIn v = true) (h : Q v { s with toks := s.toks + 1 }) :
    wpAny (model prog w) A (getAttr (.ref x) name expr) Q E s := by
  obtain ⟨od, J, hl⟩ := I.look
  exact PySem.W.get_value X J (PySem.W.plainGet_of hg).1 (PySem.W.findObj_own hh ha rfl (by rw [hl, hv])) hv' h

theorem get_const {expr : Bool} {a : Value} {Q : Value → Shared → Prop} (X : K.In s.heap) (I : ObjM s.heap x dx C mA) (hg : PySem.W.plainGet K C name = true) (hh : PySem.W.hasDictIn K C = true)
    (ha : PySem.W.findIn K (.ref C) name = some (some a)) (hn : PySem.W.specialIn K a "__get__" = some none) (hc : PySem.W.copiedNames.contains name = false) (hv : mA name = none) (hv' : PySem.W.handedIn a = true)
    (h : Q a { s with toks := s.toks + 1 }) : wpAny (model prog w) A (getAttr (.ref x) name expr) Q E s := by
  obtain ⟨od, J, hl⟩ := I.look
  exact PySem.W.get_value X J (PySem.W.plainGet_of hg).1 (PySem.W.findObj_cls hh ha hn hv' hc (by rw [hl, hv])) hv' h

theorem get_meth {pl : Sem Bool} {Q : Value × List Value → Shared → Prop} (X : K.In s.heap) (I : ObjM s.heap x dx C mA) (hg : PySem.W.plainGet K C name = true)
    (hf : PySem.W.findIn K (.ref C) name = some (some (.ref f))) (ht : PySem.W.isFn K (.ref f) = true) (hv : mA name = none) (h : Q (.ref f, [.ref x]) s) :
    wpAny (model prog w) A (getMethod (.ref x) name pl) Q E s := by
  obtain ⟨od, J, hl⟩ := I.look
  exact PySem.W.method_fn X J (PySem.W.plainGet_of hg).1 (PySem.W.plainGet_of hg).2 hf (beq_iff_eq.mp ht) (by show (PySem.W.lookIn name od).map (·.isSome) = some false; rw [hl, hv]; rfl) h

theorem set_map {ns : List Str} {Q : Unit → Shared → Prop} (X : K.In s.heap) (I : ObjM s.heap x dx C mA)
    (hs : PySem.W.findIn K (.ref C) "__setattr__" = some (some (.builtin "object.__setattr__"))) (hp : PySem.W.plainOver K C = true) (ht : PySem.W.takerIn K C name = some none) (hh : PySem.W.hasDictIn K C = true)
    (hw : PySem.Within mA ns) (hsz : ns.length ≤ sizeLine)
    (h : ∀ h', ObjM h' x dx C (fun y => if y = name then some v else mA y) → Heap.SameBut dx s.heap h' → Q () { s with heap := h', toks := s.toks + 2 }) :
    wpAny (model prog w) A (setAttr (.ref x) name v) Q E s := by
  obtain ⟨od, J, hl⟩ := I.look
  refine PySem.W.set_plain X J hs (PySem.W.osa_open (s := { s with toks := s.toks + 1 }) (r := none) X J hp ht fun b => ?_)
  obtain ⟨cd, hc, hd'⟩ := PySem.W.any_some hh
  have hx : s.heap.get? x = some ⟨.ref C, some dx, .plain, #[]⟩ := I.obj
  refine wpAny_bind (wpAny_pure (wpAny_bind (wpAny_bind (wpAny_loadPart hx (wpAny_bind (PySem.W.Looks.here (s := { s with toks := s.toks + 1 }) (PySem.W.looks_clsIn X hc) ?_))))))
  rw [hd']
  refine wpAny_pure (a := some dx) (wpAny_bind (wpAny_pure (wpAny_bind ?_)))
  refine wpAny_nsSet1 (s := { s with toks := s.toks + 1 }) I.ns fun h' hn2 hs2 => ?_
  obtain ⟨oD, esD, epD, hoD, hdD, hcD⟩ := hn2.count (PySem.Within.cons name v hw)
  refine wpAny_bind (wpAny_lookBehind hoD (by rw [hdD]; exact pastItsLine_dict (Nat.le_trans hcD (by rw [List.length_cons]; omega))) ?_)
  exact wpAny_pure (h _ ⟨(hs2.2 _ (Ne.symm I.ne)).trans I.obj, hn2, I.ne⟩ hs2)

/-- C(..): the dict at the heap's end, the instance behind it; then its __init__ -/
theorem make_map {R : Result → Shared → Prop} {vs : List Value} {kw : List (Str × Value)} (X : K.In s.heap) (hm : PySem.W.makesIn K C = true)
    (hi : PySem.W.findIn K (.ref C) "__init__" = some (some (.ref f))) (hf : PySem.W.typeIn K (.ref f) = some (.type "function"))
    (h : codeAny (model prog w) (A.under (.builtin "type.__call__" ⟨.ref C :: vs, kw⟩)) (.call (.ref f) ⟨.ref (s.heap.objs.size + 1) :: vs, kw⟩) (PySem.W.InitBack (s.heap.objs.size + 1) R)
      { s with heap := (s.heap.push PySem.W.emptyDict).push (PySem.W.instObj C s.heap.objs.size) }) :
    codeAny (model prog w) A (.call (.ref C) ⟨vs, kw⟩) R s := by
  obtain ⟨hh, g, d, t, os⟩ := s
  exact PySem.W.make_core (PySem.W.makes_of X hm) (PySem.W.looks_findIn X hi) (fun self => PySem.W.bind_fn X self hf) (.inl rfl) h
/-- C() where there is no __init__ but object's -/
theorem make_map0 {R : Result → Shared → Prop} (X : K.In s.heap) (hm : PySem.W.makesIn K C = true)
    (hi : PySem.W.findIn K (.ref C) "__init__" = some (some (.builtin "object.__init__")))
    (hb : ∀ self, PySem.W.Looks (model prog w) s.heap (bindSpecial (.builtin "object.__init__") self) (.builtin "object.__init__", [self]))
    (h : codeAny (model prog w) (A.under (.builtin "type.__call__" ⟨[.ref C], []⟩)) (.call (.builtin "object.__init__") ⟨[.ref (s.heap.objs.size + 1)], []⟩) (PySem.W.InitBack (s.heap.objs.size + 1) R)
      { s with heap := (s.heap.push PySem.W.emptyDict).push (PySem.W.instObj C s.heap.objs.size) }) :
    codeAny (model prog w) A (.call (.ref C) ⟨[], []⟩) R s := by
  obtain ⟨hh, g, d, t, os⟩ := s
  exact PySem.W.make_core (PySem.W.makes_of X hm) (PySem.W.looks_findIn X hi) hb (.inr ⟨rfl, rfl⟩) h
end

/-! ### the attributes as a list of pairs -/
def putF (f : Str) (v : V) : List (Str × V) → List (Str × V)
  | [] => [(f, v)]
  | (g, x) :: r => if g = f then (g, v) :: r else (g, x) :: putF f v r
theorem lookup_putF (f g : Str) (v : V) : ∀ fs : List (Str × V), (putF f v fs).lookup g = if g = f then some v else fs.lookup g
  | [] => by
    show List.lookup g [(f, v)] = _
    by_cases h : g = f
    · have hb : (g == f) = true := beq_iff_eq.mpr h
      simp only [List.lookup, hb, if_pos h]
    · have hb : (g == f) = false := beq_eq_false_iff_ne.mpr h
      simp only [List.lookup, hb, if_neg h]
  | (k, x) :: r => by
    have ih := lookup_putF f g v r
    rw [show putF f v ((k, x) :: r) = (if k = f then (k, v) :: r else (k, x) :: putF f v r) from rfl]
    by_cases hk : k = f
    · rw [if_pos hk]
      by_cases h : g = k
      · have hb : (g == k) = true := beq_iff_eq.mpr h
        simp only [List.lookup, hb, if_pos (h.trans hk)]
      · have hb : (g == k) = false := beq_eq_false_iff_ne.mpr h
        simp only [List.lookup, hb, if_neg (fun e : g = f => h (e.trans hk.symm))]
    · rw [if_neg hk]
      by_cases h : g = k
      · have hb : (g == k) = true := beq_iff_eq.mpr h
        simp only [List.lookup, hb, if_neg (fun e : g = f => hk (h.symm.trans e))]
      · have hb : (g == k) = false := beq_eq_false_iff_ne.mpr h
        simp only [List.lookup, hb]
        exact ih
theorem keys_putF (f : Str) (v : V) : ∀ fs : List (Str × V), f ∈ (putF f v fs).map (·.1) ∧ ∀ g, g ∈ fs.map (·.1) → g ∈ (putF f v fs).map (·.1)
  | [] => ⟨by simp [putF], fun g h => by simp at h⟩
  | (k, x) :: r => by
    obtain ⟨i1, i2⟩ := keys_putF f v r
    rw [show putF f v ((k, x) :: r) = (if k = f then (k, v) :: r else (k, x) :: putF f v r) from rfl]
    by_cases hk : k = f
    · rw [if_pos hk]
      subst hk
      exact ⟨by simp, fun g h => by simpa using h⟩
    · rw [if_neg hk]
      refine ⟨?_, fun g h => ?_⟩
      · rw [List.map_cons]
        exact List.mem_cons_of_mem _ i1
      · rw [List.map_cons] at h ⊢
        rcases List.mem_cons.mp h with e | e
        · exact List.mem_cons.mpr (.inl e)
        · exact List.mem_cons_of_mem _ (i2 g e)
theorem length_putF (f : Str) (v : V) : ∀ fs : List (Str × V), (putF f v fs).length ≤ fs.length + 1
  | [] => by simp [putF]
  | (k, x) :: r => by
    have ih := length_putF f v r
    rw [show putF f v ((k, x) :: r) = (if k = f then (k, v) :: r else (k, x) :: putF f v r) from rfl]
    by_cases hk : k = f
    · rw [if_pos hk, List.length_cons, List.length_cons]; omega
    · rw [if_neg hk, List.length_cons, List.length_cons]; omega

theorem RelO.some_of {v : V} {o : Option Value} (r : RelO (some v) o) : ∃ u, o = some u ∧ RelV v u := by
  cases o with
  | none => exact (show False from r).elim
  | some u => exact ⟨u, rfl, r⟩
theorem RelO.none_of {o : Option Value} (r : RelO none o) : o = none := by
  cases o with
  | none => rfl
  | some u => exact (show False from r).elim
theorem handed_of {v : V} {u : Value} (r : RelV v u) : PySem.W.handedIn u = true := by
  cases v with
  | non => cases (show u = Value.none from r); rfl
  | bl b => cases (show u = Value.bool b from r); rfl
  | int i => obtain ⟨t, e⟩ := (show ∃ t, u = Value.int i t from r); cases e; rfl
  | str x => obtain ⟨t, e⟩ := (show ∃ t, u = Value.str x t from r); cases e; rfl
  | byt b => obtain ⟨t, e⟩ := (show ∃ t, u = Value.bytes b t from r); cases e; rfl
  | flt b => obtain ⟨t, e⟩ := (show ∃ t, u = Value.float b t from r); cases e; rfl
  | ref a => cases (show u = Value.ref a from r); rfl
  | ty n => cases (show u = Value.type n from r); rfl

section
variable {P : Program} {w : World} {H H' : Hp} {h h' : Heap} {a C dx : Addr} {fs fs' : List (Str × V)}
theorem ins_get (hok : HOk P w H h) (e : H a = some (.ins C dx fs)) : ∃ mA, ObjM h a dx C mA ∧ (∀ f, RelO (fs.lookup f) (mA f)) ∧ PySem.Within mA (fs.map (·.1)) ∧ fs.length ≤ 1000 ∧ H dx = some (.own a) := by
  obtain ⟨d, z, ne, ob, mA, n, r, q⟩ := (show ObjOk P w H h a (.ins C dx fs) from hok a _ e)
  exact ⟨mA, ⟨ob, n, ne⟩, r, q, z, d⟩
end

/-! ### what of the text a class must have -/
structure Cls (K : PySem.W.Frag) (C : Addr) : Prop where
  pg : PySem.W.plainGet K C Str.empty = true
  hd : PySem.W.hasDictIn K C = true
  po : PySem.W.plainOver K C = true
  sa : PySem.W.findIn K (.ref C) "__setattr__" = some (some (.builtin "object.__setattr__"))
theorem Cls.get {K : PySem.W.Frag} {C : Addr} (c : Cls K C) (f : Str) : PySem.W.plainGet K C f = true := c.pg
/-- no class of it has the name -/
def NoAttr (K : PySem.W.Frag) (C : Addr) (f : Str) : Prop := PySem.W.findIn K (.ref C) f = some none
theorem NoAttr.taker {K : PySem.W.Frag} {C : Addr} {f : Str} (n : NoAttr K C f) : PySem.W.takerIn K C f = some none := by
  unfold PySem.W.takerIn
  rw [show PySem.W.findIn K (.ref C) f = some none from n]
  rfl
/-- a constant of the class -/
structure Con (K : PySem.W.Frag) (C : Addr) (f : Str) (v : V) (u : Value) : Prop where
  at_ : PySem.W.findIn K (.ref C) f = some (some u)
  rel : RelV v u
  get : PySem.W.specialIn K u "__get__" = some none
  cp : PySem.W.copiedNames.contains f = false
/-- a method: a plain def of the class or of one above it -/
structure Meth (K : PySem.W.Frag) (C : Addr) (m : Str) (f : Addr) : Prop where
  at_ : PySem.W.findIn K (.ref C) m = some (some (.ref f))
  fn : PySem.W.isFn K (.ref f) = true
  kp : PySem.W.keepIn K (.ref f) = true

section
variable {X : Cx} {pins : List (Addr × Obj)} {σ : St} {H : Hp} {s : Shared} {a C dx : Addr} {fs : List (Str × V)} {f : Str} {v : V} {A : Around} {E : Value → Shared → Prop}

theorem getattr_ok {b : Bool} {Q : Value → Shared → Prop} (I : Inv X pins σ H s) (e : H a = some (.ins C dx fs)) (c : Cls X.K C) (n : NoAttr X.K C f) (l : fs.lookup f = some v)
    (h : ∀ u s', Inv X pins σ H s' → RelV v u → Q u s') : wpAny (model X.prog X.w) A (getAttr (.ref a) f b) Q E s := by
  obtain ⟨mA, O, r, _, _, _⟩ := ins_get I.hok e
  obtain ⟨u, hu, ru⟩ := RelO.some_of (v := v) (o := mA f) (by rw [← l]; exact r f)
  exact get_map I.kIn O (c.get f) c.hd n hu (handed_of ru) (h u _ (I.tok _) ru)

theorem getcon_ok {b : Bool} {u : Value} {Q : Value → Shared → Prop} (I : Inv X pins σ H s) (e : H a = some (.ins C dx fs)) (c : Cls X.K C) (k : Con X.K C f v u) (l : fs.lookup f = none)
    (h : ∀ s', Inv X pins σ H s' → Q u s') : wpAny (model X.prog X.w) A (getAttr (.ref a) f b) Q E s := by
  obtain ⟨mA, O, r, _, _, _⟩ := ins_get I.hok e
  have hn : mA f = none := RelO.none_of (by rw [← l]; exact r f)
  exact get_const I.kIn O (c.get f) c.hd k.at_ k.get k.cp hn (handed_of k.rel) (h _ (I.tok _))

theorem getmeth_ok {m : Str} {g : Addr} {pl : Sem Bool} {Q : Value × List Value → Shared → Prop} (I : Inv X pins σ H s) (e : H a = some (.ins C dx fs)) (c : Cls X.K C) (k : Meth X.K C m g) (l : fs.lookup m = none)
    (h : Q (.ref g, [.ref a]) s) : wpAny (model X.prog X.w) A (getMethod (.ref a) m pl) Q E s := by
  obtain ⟨mA, O, r, _, _, _⟩ := ins_get I.hok e
  have hn : mA m = none := RelO.none_of (by rw [← l]; exact r m)
  exact get_meth I.kIn O (c.get m) k.at_ k.fn hn h

theorem setattr_ok {y : V} {u : Value} {Q : Unit → Shared → Prop} (I : Inv X pins σ H s) (e : H a = some (.ins C dx fs)) (c : Cls X.K C) (n : NoAttr X.K C f) (hl : fs.length < 1000) (ry : RelV y u)
    (h : ∀ s', Inv X pins σ (upd H a (.ins C dx (putF f y fs))) s' → Q () s') : wpAny (model X.prog X.w) A (setAttr (.ref a) f u) Q E s := by
  obtain ⟨mA, O, r, wi, _, ho⟩ := ins_get I.hok e
  have hz : (fs.map (·.1)).length ≤ sizeLine := by rw [List.length_map, sizeLine_eq]; omega
  refine set_map I.kIn O c.sa c.po n.taker c.hd wi hz fun h' O' sb => h _ ?_
  have hd : ∃ o, h'.get? dx = some o := let ⟨o, _, _, e', _⟩ := O'.ns; ⟨o, e'⟩
  refine I.write (x := a) (e := dx) (by rw [e]; exact True.intro) (.inr ho) (fun b q hb z => (sb.2 b hb).trans z) hd ?_
  refine ⟨by rw [upd_ne O.ne]; exact ho, ?_, O.ne, O'.obj, _, O'.ns, fun g => ?_, fun g hg => ?_⟩
  · have := length_putF f y fs; omega
  · show RelO ((putF f y fs).lookup g) (if g = f then some u else mA g)
    rw [lookup_putF]
    by_cases q : g = f
    · rw [if_pos q, if_pos q]; exact ry
    · rw [if_neg q, if_neg q]; exact r g
  · by_cases q : g = f
    · rw [q]; exact (keys_putF f y fs).1
    · refine (keys_putF f y fs).2 g (wi g fun z => hg ?_)
      show (if g = f then some u else mA g) = none
      rw [if_neg q]; exact z

/-- a new instance, tracked, without attributes -/
theorem Inv.made (I : Inv X pins σ H s) : Inv X pins σ (upd (upd H s.heap.objs.size (.own (s.heap.objs.size + 1))) (s.heap.objs.size + 1) (.ins C s.heap.objs.size []))
    { s with heap := (s.heap.push PySem.W.emptyDict).push (PySem.W.instObj C s.heap.objs.size) } := by
  have e1 : (s.heap.push PySem.W.emptyDict).get? s.heap.objs.size = some PySem.W.emptyDict := Heap.get?_push_size s.heap rfl
  have e2 : ((s.heap.push PySem.W.emptyDict).push (PySem.W.instObj C s.heap.objs.size)).get? (s.heap.objs.size + 1) = some (PySem.W.instObj C s.heap.objs.size) := by
    have := Heap.get?_push_size (s.heap.push PySem.W.emptyDict) (o := PySem.W.instObj C s.heap.objs.size) rfl
    rwa [Heap.size_push] at this
  have e3 : (s.heap.push PySem.W.emptyDict).Ns s.heap.objs.size (fun _ => none) := ⟨PySem.W.emptyDict, #[], _, e1, rfl, (fun e he => absurd he (by simp)), fun _ => rfl⟩
  have I1 := I.laid (a := s.heap.objs.size) (o := .own (s.heap.objs.size + 1)) (h' := s.heap.push PySem.W.emptyDict) (t' := s.toks) (fun b u q => Heap.get?_push_of_some _ q) (Nat.le_refl _) ⟨_, e1⟩
  refine I1.laid (a := s.heap.objs.size + 1) (o := .ins C s.heap.objs.size []) (t' := s.toks) (fun b u q => Heap.get?_push_of_some _ q) (Nat.le_of_eq (Heap.size_push _ _)) ?_
  have ne : s.heap.objs.size ≠ s.heap.objs.size + 1 := Nat.ne_of_lt (Nat.lt_succ_self _)
  refine ⟨by rw [upd_ne ne, upd_same], Nat.zero_le _, ne, e2, fun _ => none, (Heap.Ns1.of_empty e3).at fun o q => Heap.get?_push_of_some _ q, fun _ => True.intro, fun y hy => absurd rfl hy⟩

/-- e.f where nothing but the object is asked: through attributeBase (super) and the last hold -/
theorem attr_of {prog : Program} {w : World} {env : Env} {e : Expr} {f : Str} {pos : Pos} {s : Shared} {Q : Value → Shared → Prop} (hb : attributeBase e f env (eval e env) = eval e env)
    (h : wpAny (model prog w) A (eval e env) (fun o s₁ => wpAny (model prog w) A (getAttr o f true) Q E s₁) E s) : wpAny (model prog w) A (eval (.Attribute e f pos) env) Q E s :=
  Attribute_any_ h (by rw [arm_eval_Attribute, hb])
end

/-! ### readings and rules -/
/-- e.f, an attribute of the instance -/
def tFld (K : PySem.W.Frag) (ta : TE) (f : Str) : TE := fun σ H Q => ta σ H fun x H1 => ∃ a C dx fs v, x = .ref a ∧ H1 a = some (.ins C dx fs) ∧ Cls K C ∧ NoAttr K C f ∧ fs.lookup f = some v ∧ Q v H1
/-- e.f, a constant of the class -/
def tCon (K : PySem.W.Frag) (ta : TE) (f : Str) : TE := fun σ H Q => ta σ H fun x H1 => ∃ a C dx fs v u, x = .ref a ∧ H1 a = some (.ins C dx fs) ∧ Cls K C ∧ Con K C f v u ∧ fs.lookup f = none ∧ Q v H1
/-- e.f = value -/
def sFld (K : PySem.W.Frag) (ta tv : TE) (f : Str) : TS := fun D σ H => tv σ H fun y H1 => ta σ H1 fun x H2 => ∃ a C dx fs, x = .ref a ∧ H2 a = some (.ins C dx fs) ∧ Cls K C ∧ NoAttr K C f ∧ fs.length < 1000 ∧
  D.nx σ (upd H2 a (.ins C dx (putF f y fs)))
/-- an augmented operator on two values -/
def InOp (X : Cx) (op : Operator) (rd : V → V → Hp → VK → Prop) : Prop :=
  ∀ (pins : List (Addr × Obj)) (s : Shared) (σ : St) (H : Hp) (x y : V) (u v : Value) (Q : VK), Inv X pins σ H s → RelV x u → RelV y v → rd x y H Q → wpAny (model X.prog X.w) X.A (inplaceOp op u v) (EP X pins σ Q) X.xe s
/-- e.f op= value -/
def sFldAug (K : PySem.W.Frag) (ta tv : TE) (rd : V → V → Hp → VK → Prop) (f : Str) : TS := fun D σ H => ta σ H fun x H1 => ∃ a C dx fs v, x = .ref a ∧ H1 a = some (.ins C dx fs) ∧ Cls K C ∧ NoAttr K C f ∧ fs.lookup f = some v ∧
  tv σ H1 fun y H2 => rd v y H2 fun z H3 => ∃ dx' fs', H3 a = some (.ins C dx' fs') ∧ fs'.length < 1000 ∧ D.nx σ (upd H3 a (.ins C dx' (putF f z fs')))

section
variable {X : Cx} {o e value : Expr} {f : Str} {pos pos' tpos : Pos} {ta tv : TE}
theorem pe_fld (he : PE X e ta) (hb : attributeBase e f X.env (eval e X.env) = eval e X.env) : PE X (.Attribute e f pos) (tFld X.K ta f) := by
  intro pins s σ H Q I h
  refine attr_of hb (thn (he pins s σ H _ I h) fun u s1 ⟨x, H1, I1, rx, a, C, dx, fs, v, ex, ea, c, n, l, q⟩ => ?_)
  subst ex
  obtain rfl : u = Value.ref a := rx
  exact getattr_ok I1 ea c n l fun u' s2 I2 ru => ⟨v, H1, I2, ru, q⟩
theorem pe_con (he : PE X e ta) (hb : attributeBase e f X.env (eval e X.env) = eval e X.env) : PE X (.Attribute e f pos) (tCon X.K ta f) := by
  intro pins s σ H Q I h
  refine attr_of hb (thn (he pins s σ H _ I h) fun u s1 ⟨x, H1, I1, rx, a, C, dx, fs, v, u0, ex, ea, c, k, l, q⟩ => ?_)
  subst ex
  obtain rfl : u = Value.ref a := rx
  exact getcon_ok I1 ea c k l fun s2 I2 => ⟨v, H1, I2, k.rel, q⟩
theorem ps_fld (ha : PE X o ta) (hv : PE X value tv) (hs : swapsWith value (some (.Attribute o f pos')) pos.line X.env = pure false) : PS X (.Assign [.Attribute o f pos'] value pos) (sFld X.K ta tv f) := by
  intro pins s σ H D I h
  refine plainObj_wpAny_Assign_Attribute (thn (hv pins s σ H _ I h) fun u s1 ⟨y, H1, I1, ry, q⟩ => thn (ha pins s1 σ H1 _ I1 q) fun ov s2 ⟨x, H2, I2, rx, a, C, dx, fs, ex, ea, c, n, l, q2⟩ => ?_) hs
  subst ex
  obtain rfl : ov = Value.ref a := rx
  exact setattr_ok I2 ea c n l ry fun s3 I3 => ⟨σ, _, I3, q2⟩
theorem ps_fldaug {op : Operator} {rd : V → V → Hp → VK → Prop} (ha : PE X o ta) (hv : PE X value tv) (hop : InOp X op rd) : PS X (.AugAssign (.Attribute o f tpos) op value pos) (sFldAug X.K ta tv rd f) := by
  intro pins s σ H D I h
  refine wpAny_AugAssign_AttributeAny (thn (ha pins s σ H _ I h) fun ov s1 ⟨x, H1, I1, rx, a, C, dx, fs, v, ex, ea, c, n, l, q⟩ => ?_)
  subst ex
  obtain rfl : ov = Value.ref a := rx
  refine getattr_ok I1 ea c n l fun u s2 I2 ru => thn (hv pins s2 σ H1 _ I2 q) fun w3 s3 ⟨y, H2, I3, ry, q3⟩ => thn (hop pins s3 σ H2 v y u w3 _ I3 ru ry q3) fun w4 s4 ⟨z, H3, I4, rz, dx', fs', ea', l', q4⟩ => ?_
  exact setattr_ok I4 ea' c n l' rz fun s5 I5 => ⟨σ, _, I5, q4⟩
def rAdd : V → V → Hp → VK → Prop := fun x y H Q => ∃ i j, x = .int i ∧ y = .int j ∧ Q (.int (i + j)) H
def rSub : V → V → Hp → VK → Prop := fun x y H Q => ∃ i j, x = .int i ∧ y = .int j ∧ Q (.int (i - j)) H
theorem in_add : InOp X .Add rAdd := by
  rintro pins s σ H x y u v Q I rx ry ⟨i, j, rfl, rfl, q⟩
  obtain ⟨t, rfl⟩ := (show ∃ t, u = Value.int i t from rx)
  obtain ⟨t', rfl⟩ := (show ∃ t', v = Value.int j t' from ry)
  exact PyProof.Rows.iadd_int ⟨.int (i + j), H, I.tok _, ⟨_, rfl⟩, q⟩
theorem in_sub : InOp X .Sub rSub := by
  rintro pins s σ H x y u v Q I rx ry ⟨i, j, rfl, rfl, q⟩
  obtain ⟨t, rfl⟩ := (show ∃ t, u = Value.int i t from rx)
  obtain ⟨t', rfl⟩ := (show ∃ t', v = Value.int j t' from ry)
  exact PyProof.Rows.isub_int ⟨.int (i - j), H, I.tok _, ⟨_, rfl⟩, q⟩

/-- what is between an instance and its method: the tree of a method call -/
theorem methcall_of {pl : Sem Bool} {m : Str} {apos : Pos} {args : List Expr} {pins : List (Addr × Obj)} {s : Shared} {σ : St} {H : Hp} {Q : Value → Shared → Prop} {te : TE} (he : PE X e te) (I : Inv X pins σ H s)
    (h : te σ H fun x H1 => ∃ a C dx fs g, x = .ref a ∧ H1 a = some (.ins C dx fs) ∧ Cls X.K C ∧ Meth X.K C m g ∧ fs.lookup m = none ∧
      ∀ s1, Inv X pins σ H1 s1 → wpAny (model X.prog X.w) X.A (callWith pos (.ref g) [.ref a] (backTo pos (starEach args X.env)) (backToKw pos (keywordEach [] X.env))) Q X.xe s1)
    (ht : eval (.Call (.Attribute e m apos) args [] pos) X.env = (do
      let ov ← eval e X.env
      standAt apos.atName
      let (f, first) ← holding [ov] (getMethod ov m pl)
      callWith pos f first (backTo pos (starEach args X.env)) (backToKw pos (keywordEach [] X.env)))) :
    wpAny (model X.prog X.w) X.A (eval (.Call (.Attribute e m apos) args [] pos) X.env) Q X.xe s := by
  refine PySem.W.methodCall_KW (pl := pl) (thn (he pins s σ H _ I h) fun u s1 ⟨x, H1, I1, rx, a, C, dx, fs, g, ex, ea, c, k, l, q⟩ => ?_) ht
  subst ex
  obtain rfl : u = Value.ref a := rx
  exact getmeth_ok I1 ea c k l (q s1 I1)
end

/-! ### isinstance -/
section
variable {X : Cx} {pins : List (Addr × Obj)} {σ : St} {H : Hp} {s : Shared} {A : Around} {E : Value → Shared → Prop} {Q : Value → Shared → Prop} {c : Value} {b : Bool}
/-- the type of a value, as the fragment's deciders take it; for an instance its class -/
inductive TyOf (K : PySem.W.Frag) (H : Hp) : V → Value → Prop where
  | non : TyOf K H .non (.type "NoneType")
  | bl (x : Bool) : TyOf K H (.bl x) (.type "bool")
  | int (i : Int) : TyOf K H (.int i) (.type "int")
  | str (x : Str) : TyOf K H (.str x) (.type "str")
  | flt (x : UInt64) : TyOf K H (.flt x) (.type "float")
  | lst {a : Addr} {xs : List V} (e : H a = some (.lst xs)) : TyOf K H (.ref a) (.type "list")
  | frz {a : Addr} {o : Obj} {xs : List V} (e : H a = some (.frz o (.lst xs))) : TyOf K H (.ref a) (.type "list")
  | tup {a : Addr} {xs : List V} (e : H a = some (.tup xs)) : TyOf K H (.ref a) (.type "tuple")
  | dK {a : Addr} {kvs : List (Key × V)} (e : H a = some (.dK kvs)) : TyOf K H (.ref a) (.type "dict")
  | dT {a : Addr} {kvs : List (List Key × V)} (e : H a = some (.dT kvs)) : TyOf K H (.ref a) (.type "dict")
  | ins {a C dx : Addr} {fs : List (Str × V)} (e : H a = some (.ins C dx fs)) (cl : Cls K C) (ha : PySem.W.findIn K (.ref C) "__class__" = some (some (.builtin "object.__class__")))
      (hn : PySem.W.specialIn K (.builtin "object.__class__") "__get__" = some (some (.builtin "getset_descriptor.__get__"))) (htk : PySem.W.takesIn K (.builtin "object.__class__") = some true)
      (hm : PySem.W.mroIn K C (.type "object") = some true) : TyOf K H (.ref a) (.ref C)
/-- isinstance(x, c) for one class c, a built-in or an own one: kitOne's answer -/
theorem isinst_ok {x : V} {u t : Value} (I : Inv X pins σ H s) (rx : RelV x u) (ty : TyOf X.K H x t) (e : PySem.W.kitOne X.K t c = some b) (h : ∀ tk, Q (.bool b) { s with toks := tk }) :
    wpAny (model X.prog X.w) A (call (.builtin "isinstance") [u, c]) Q E s := by
  cases ty with
  | non => cases (show u = Value.none from rx); exact PySem.W.kia_one PySem.W.kitx_none I.kIn True.intro e (fun z => nomatch z) h
  | bl y => cases (show u = Value.bool y from rx); exact PySem.W.kia_one PySem.W.kitx_bool I.kIn True.intro e (fun z => nomatch z) h
  | int i => obtain ⟨t, q⟩ := (show ∃ t, u = Value.int i t from rx); cases q; exact PySem.W.kia_one PySem.W.kitx_int I.kIn True.intro e (fun z => nomatch z) h
  | str y => obtain ⟨t, q⟩ := (show ∃ t, u = Value.str y t from rx); cases q; exact PySem.W.kia_one PySem.W.kitx_str I.kIn True.intro e (fun z => nomatch z) h
  | flt y => obtain ⟨t, q⟩ := (show ∃ t, u = Value.float y t from rx); cases q; exact PySem.W.kia_one PySem.W.kitx_float I.kIn True.intro e (fun z => nomatch z) h
  | @lst a xs ea =>
    cases (show u = Value.ref a from rx)
    obtain ⟨_, _, n, _, h1⟩ := (show ObjOk X.prog X.w H s.heap a (.lst xs) from I.hok a _ ea)
    exact PySem.W.kia_one PySem.W.kitx_list I.kIn ⟨_, h1, rfl⟩ e (fun z => nomatch z) h
  | @frz a ob xs ea =>
    cases (show u = Value.ref a from rx)
    obtain ⟨_, _, _, n, _, h1⟩ := (show ObjOk X.prog X.w H s.heap a (.frz ob (.lst xs)) from I.hok a _ ea)
    exact PySem.W.kia_one PySem.W.kitx_list I.kIn ⟨_, h1, rfl⟩ e (fun z => nomatch z) h
  | @tup a xs ea =>
    cases (show u = Value.ref a from rx)
    obtain ⟨_, _, _, p⟩ := (show ObjOk X.prog X.w H s.heap a (.tup xs) from I.hok a _ ea)
    obtain ⟨o, h1, h2, _⟩ := p
    exact PySem.W.kia_one PySem.W.kitx_tuple I.kIn ⟨o, h1, h2⟩ e (fun z => nomatch z) h
  | @dK a kvs ea =>
    cases (show u = Value.ref a from rx)
    obtain ⟨_, _, vs, _, p⟩ := (show ObjOk X.prog X.w H s.heap a (.dK kvs) from I.hok a _ ea)
    obtain ⟨o, es, ep, h1, h2, _⟩ := p
    exact PySem.W.kia_one PySem.W.kitx_dict I.kIn ⟨o, h1, h2.1⟩ e (fun z => nomatch z) h
  | @dT a kvs ea =>
    cases (show u = Value.ref a from rx)
    obtain ⟨_, _, xs, _, o, es, ep, h1, h2, _⟩ := (show ObjOk X.prog X.w H s.heap a (.dT kvs) from I.hok a _ ea)
    exact PySem.W.kia_one PySem.W.kitx_dict I.kIn ⟨o, h1, h2.1⟩ e (fun z => nomatch z) h
  | @ins a C dx fs ea cl ha hn htk hm =>
    cases (show u = Value.ref a from rx)
    obtain ⟨mA, O, _⟩ := ins_get I.hok ea
    obtain ⟨od, J, _⟩ := O.look
    exact PySem.W.kia_one (PySem.W.kitx_own (cl.get _) cl.hd ha hn htk hm) I.kIn J e (fun z => nomatch z) h
end
end L2

namespace L2
open PySem PySem.Spec PyProof.Rows

/-! ### room -/
structure Room (k : Nat) (A : Around) : Prop where
  hd : A.handled = none
  dp : A.depth + 3 * k + 5 < recursionLimit
  un : A.units + 16 * k + 200 < cLine
theorem Room.mono {j k : Nat} {A : Around} (r : Room k A) (h : j ≤ k) : Room j A := ⟨r.hd, by have := r.dp; omega, by have := r.un; omega⟩
theorem Room.deeper {k : Nat} {A : Around} (r : Room (k + 1) A) (env : Env) : Room k (A.deeper env) :=
  ⟨r.hd, by have := r.dp; show A.depth + 1 + 3 * k + 5 < _; omega, by have := r.un; show A.units + 3 + 16 * k + 200 < _; omega⟩
theorem Room.in1 {k : Nat} {A : Around} (r : Room (k + 1) A) : Room k A.in1 :=
  ⟨r.hd, by have := r.dp; show A.depth + 3 * k + 5 < _; omega, by have := r.un; show A.units + 1 + 16 * k + 200 < _; omega⟩
theorem make_depth {A : Around} {C : Addr} {us : List Value} {kw : List (Str × Value)} : (A.under (.builtin "type.__call__" ⟨.ref C :: us, kw⟩)).depth = A.depth + 1 := by
  first | rfl | simp [Around.under, Code.weight, Code.isCreation, Code.isGuard, Code.isCaller, Code.frames, Code.isFrame, guardIds]
theorem make_units {A : Around} {C : Addr} {us : List Value} {kw : List (Str × Value)} : (A.under (.builtin "type.__call__" ⟨.ref C :: us, kw⟩)).units = A.units + 1 := by
  first | rfl | simp [Around.under, Code.cUnits, Code.frames, Code.isFrame]
theorem Room.make {k : Nat} {A : Around} (r : Room (k + 1) A) (C : Addr) (us : List Value) (kw : List (Str × Value)) : Room k (A.under (.builtin "type.__call__" ⟨.ref C :: us, kw⟩)) :=
  ⟨r.hd, by have := r.dp; rw [make_depth]; omega, by have := r.un; rw [make_units]; omega⟩
theorem Room.depth {k : Nat} {A : Around} (r : Room k A) : A.depth < recursionLimit := by have := r.dp; omega
theorem Room.units {k : Nat} {A : Around} (r : Room k A) : A.units + 64 < cLine := by have := r.un; omega
theorem Room.units0 {k : Nat} {A : Around} (r : Room k A) : A.units < cLine := by have := r.un; omega

/-! ### argument lists and displays -/
def tNil : TA := fun _ H Q => Q [] H
def tCons (ta : TE) (tr : TA) : TA := fun σ H Q => ta σ H fun x H1 => tr σ H1 fun xs H2 => Q (x :: xs) H2
section
variable {X : Cx} {e : Expr} {es : List Expr} {te : TE} {t : TA} {pos : Pos}
theorem pa_nil : PA X [] tNil := fun _ _ _ _ H Q I h => Calls.spliced_nil ⟨[], H, I, .nil, h⟩
theorem pa_cons (ha : PE X e te) (hr : PA X es t) (hs : starEach (e :: es) X.env = (false, eval e X.env) :: starEach es X.env := by rfl) : PA X (e :: es) (tCons te t) := by
  intro pos pins s σ H Q I h
  rw [hs]
  show wpAny _ _ (spliced ((false, eval e X.env) :: backTo pos (starEach es X.env))) _ _ s
  refine Calls.spliced_cons (thn (ha pins s σ H _ I h) fun u s1 ⟨x, H1, I1, r1, q1⟩ => ?_)
  exact thn (hr pos pins s1 σ H1 _ I1 q1) fun us s2 ⟨xs, H2, I2, r2, q2⟩ => ⟨x :: xs, H2, I2, .cons r1 r2, q2⟩

/-- a tuple, a list of written items -/
def tTup (t : TA) : TE := fun σ H Q => t σ H fun xs H1 => xs.length ≤ sizeLine ∧ ∀ p, H1 p = none → Q (.ref p) (upd H1 p (.tup xs))
def tLst (t : TA) : TE := fun σ H Q => t σ H fun xs H1 => xs.length ≤ sizeLine ∧ ∀ p, H1 p = none → Q (.ref p) (upd H1 p (.lst xs))
theorem pe_tup {x1} (h : PA X es t) : PE X (.Tuple es x1 pos) (tTup t) := by
  intro pins s σ H Q I hq
  refine wpAny_Tuple_spliced (thn (h pos pins s σ H _ I hq) fun us s1 ⟨xs, H1, I1, r, z, q⟩ => ⟨by rw [← r.length]; exact z, ?_⟩)
  have hf : H1 s1.heap.objs.size = none := I1.hok.fresh (Nat.le_refl _)
  refine ⟨.ref s1.heap.objs.size, upd H1 s1.heap.objs.size (.tup xs), I1.laid (t' := s1.toks) (fun b u e => Heap.get?_push_of_some _ e) (Nat.le_refl _) ?_, rfl, q _ hf⟩
  exact ⟨z, us, r, ⟨_, Heap.get?_push_size _ rfl, rfl, _, rfl⟩⟩
theorem pe_lst (h : PA X es t) : PE X (.List es pos) (tLst t) := by
  intro pins s σ H Q I hq
  refine wpAny_List_spliced (thn (h pos pins s σ H _ I hq) fun us s1 ⟨xs, H1, I1, r, z, q⟩ => ⟨by rw [← r.length]; exact z, ?_⟩)
  have hf : H1 s1.heap.objs.size = none := I1.hok.fresh (Nat.le_refl _)
  refine ⟨.ref s1.heap.objs.size, upd H1 s1.heap.objs.size (.lst xs), I1.laid (t' := s1.toks) (fun b u e => Heap.get?_push_of_some _ e) (Nat.le_refl _) ?_, rfl, q _ hf⟩
  exact ⟨z, us, 0, r, Heap.get?_push_size _ rfl⟩
end

/-! ### what a def promises -/
/-- a def's promise: the bound arguments in the parameters' order, the heap, the wanted end, the wanted exception -/
abbrev Sp := List V → Hp → VK → XK → Prop
/-- how an exception lies behind a call (file 08 gives it): the callers' frames, abstract heap and state ahead of the call, the wish, the exception, the state -/
abbrev CXT := List Env → Hp → Shared → XK → Value → Shared → Prop

/-- the state at a call -/
structure Env0 (P : Program) (w : World) (K : PySem.W.Frag) (mg : Str → Option Value) (base : Heap) (A : Around) (outer : List Env) (s : Shared) (H : Hp) : Prop where
  frames : A.frames = some outer
  mod : Mod K mg base
  bs : ∀ b o, base.get? b = some o → s.heap.get? b = some o ∧ H b = none
  bsz : base.objs.size ≤ s.heap.objs.size
  funs : s.heap.FunFrames base outer
  frf : ∀ b ∈ frs outer, H b = none
  hok : HOk P w H s.heap
  bare : AllBare s.gens
/-- a call's end -/
def CE (outer : List Env) (P : Program) (w : World) (H : Hp) (s : Shared) (Q : VK) (u : Value) (s' : Shared) : Prop :=
  ∃ v H', s'.os = s.os ∧ AllBare s'.gens ∧ Un (frs outer) [] H H' s.heap s'.heap ∧ HOk P w H' s'.heap ∧ RelV v u ∧ Q v H'
def CR (CX : CXT) (outer : List Env) (P : Program) (w : World) (H : Hp) (s : Shared) (Q : VK) (E : XK) (r : Result) (s' : Shared) : Prop :=
  match r with
  | .ok (.ret u) => CE outer P w H s Q u s'
  | .ok _ => False
  | .error e => CX outer H s E e s'
structure FnOk (P : Program) (w : World) (K : PySem.W.Frag) (mg : Str → Option Value) (base : Heap) (CX : CXT) (k : Nat) (f : Addr) (fd : FuncData) (ps : List Str) (sp : Sp) : Prop where
  len : ∀ vs H Q E, sp vs H Q E → vs.length = ps.length
  run : ∀ (A : Around) (outer : List Env) (s : Shared) (H : Hp) (args : Args) (us : List Value) (vs : List V) (Q : VK) (E : XK), Room k A → Env0 P w K mg base A outer s H → BindsTo s fd args (ps.zip us) → Vals vs us → sp vs H Q E →
    codeAny (model P w) A (.call (.ref f) args) (CR CX outer P w H s Q E) s
theorem FnOk.mono {P : Program} {w : World} {K : PySem.W.Frag} {mg : Str → Option Value} {base : Heap} {CX : CXT} {j k : Nat} {f : Addr} {fd : FuncData} {ps : List Str} {sp : Sp} (F : FnOk P w K mg base CX j f fd ps sp) (h : j ≤ k) :
    FnOk P w K mg base CX k f fd ps sp := ⟨F.len, fun A outer s H args us vs Q E hr => F.run A outer s H args us vs Q E (hr.mono h)⟩
/-- a weaker promise -/
theorem FnOk.imp {P : Program} {w : World} {K : PySem.W.Frag} {mg : Str → Option Value} {base : Heap} {CX : CXT} {k : Nat} {f : Addr} {fd : FuncData} {ps : List Str} {sp sp' : Sp} (F : FnOk P w K mg base CX k f fd ps sp)
    (h : ∀ vs H Q E, sp' vs H Q E → sp vs H Q E) : FnOk P w K mg base CX k f fd ps sp' :=
  ⟨fun vs H Q E q => F.len vs H Q E (h _ _ _ _ q), fun A outer s H args us vs Q E hr he hb hv hs => F.run A outer s H args us vs Q E hr he hb hv (h _ _ _ _ hs)⟩

theorem Env0.make {P : Program} {w : World} {K : PySem.W.Frag} {mg : Str → Option Value} {base : Heap} {A : Around} {outer : List Env} {s : Shared} {H : Hp} (e : Env0 P w K mg base A outer s H) (C : Addr) (us : List Value) (kw : List (Str × Value)) :
    Env0 P w K mg base (A.under (.builtin "type.__call__" ⟨.ref C :: us, kw⟩)) outer s H := ⟨by first | exact e.frames | (simpa [Around.under, Code.envs, Code.isFrame, pushEnvs] using e.frames), e.mod, e.bs, e.bsz, e.funs, e.frf, e.hok, e.bare⟩
theorem Env0.in1 {P : Program} {w : World} {K : PySem.W.Frag} {mg : Str → Option Value} {base : Heap} {A : Around} {outer : List Env} {s : Shared} {H : Hp} (e : Env0 P w K mg base A outer s H) :
    Env0 P w K mg base A.in1 outer s H := ⟨e.frames, e.mod, e.bs, e.bsz, e.funs, e.frf, e.hok, e.bare⟩

section
variable {X : Cx} {pins : List (Addr × Obj)} {σ : St} {H : Hp} {s s' : Shared}
/-- from a body: what a callee wants -/
theorem Inv.env0 (I : Inv X pins σ H s) : Env0 X.prog X.w X.K X.mg X.base X.A X.stack s H :=
  ⟨I.ok.frames, I.ok.mod, I.bs, Nat.le_trans I.ok.bsz I.sz, I.stack, I.stkFree, I.hok, I.bare⟩
/-- behind a call -/
theorem Inv.after {Q : VK} {u : Value} (I : Inv X pins σ H s) (h : CE X.stack X.prog X.w H s Q u s') : EP X pins σ Q u s' := by
  obtain ⟨v, H', os, bare, un, hok, r, q⟩ := h
  obtain ⟨hh, g, d, t, os'⟩ := s'
  obtain rfl : os' = s.os := os
  exact ⟨v, H', I.call (h' := hh) (g' := g) (d' := d) (t' := t) (ch := []) un hok bare (fun b z => absurd z (by simp)), r, q⟩
end

/-! ### calls -/
/-- f(..): the written arguments, then the defaults dvs; E: what is wanted of an exception -/
def tCall (sp : Sp) (dvs : List V) (E : XK) (t : TA) : TE := fun σ H Q => t σ H fun vs H1 => sp (vs ++ dvs) H1 Q E
/-- o.m(..) of an instance of the class at C -/
def tMeth (C : Addr) (m : Str) (sp : Sp) (dvs : List V) (E : XK) (ta : TE) (t : TA) : TE := fun σ H Q => ta σ H fun x H1 => ∃ a dx fs, x = .ref a ∧ H1 a = some (.ins C dx fs) ∧ fs.lookup m = none ∧
  t σ H1 fun vs H2 => sp (x :: (vs ++ dvs)) H2 Q E
/-- C(..): a new instance and its dict, then __init__ -/
def tMake (C : Addr) (sp : Sp) (dvs : List V) (E : XK) (t : TA) : TE := fun σ H Q => t σ H fun vs H1 => ∀ x dx, H1 x = none → H1 dx = none → dx ≠ x →
  sp (.ref x :: (vs ++ dvs)) (upd (upd H1 dx (.own x)) x (.ins C dx [])) (fun v H2 => v = .non ∧ Q (.ref x) H2) E

/-- how the parameters are bound: us the positional arguments, kw the keywords' values by name, ds the defaults that fill up -/
def Binds (K : PySem.W.Frag) (fd : FuncData) (ps : List Str) (ds : List Value) : Prop :=
  ∀ (s : Shared) (us : List Value), K.In s.heap → (us ++ ds).length = ps.length → BindsTo s fd ⟨us, []⟩ (ps.zip (us ++ ds))
/-- every parameter is given -/
theorem Binds.all {K : PySem.W.Frag} {fd : FuncData} {ps : List Str} (h : ∀ us : List Value, us.length = ps.length → bindArgs fd ⟨us, []⟩ = pure (ps.zip us)) : Binds K fd ps [] := fun s us _ hl => by
  rw [List.append_nil] at hl ⊢
  exact .of_eq (h us hl)

/-- an exception of a callee reaches what this body wants of exceptions -/
def Passes (CX : CXT) (X : Cx) (E : XK) : Prop := ∀ (pins : List (Addr × Obj)) (σ : St) (H : Hp) (s : Shared) (e : Value) (s' : Shared), Inv X pins σ H s → CX X.stack H s E e s' → X.xe e s'

section
variable {X : Cx} {CX : CXT} {k : Nat} {f C : Addr} {fd : FuncData} {ps : List Str} {sp : Sp} {dvs : List V} {ds : List Value} {E : XK} {x m : Str} {p pos apos : Pos} {e o : Expr} {es : List Expr} {ta : TE} {t : TA}

/-- the callee runs -/
theorem run_fn {pins : List (Addr × Obj)} {σ : St} {H : Hp} {s : Shared} {Q : VK} {us : List Value} {vs : List V} (F : FnOk X.prog X.w X.K X.mg X.base CX k f fd ps sp) (hr : Room k X.A) (hb : Binds X.K fd ps ds) (hd : Vals dvs ds) (hx : Passes CX X E)
    (I : Inv X pins σ H s) (r : Vals vs us) (h : sp (vs ++ dvs) H Q E) : wpAny (model X.prog X.w) X.A (call (.ref f) us) (EP X pins σ Q) X.xe s := by
  have r2 : Vals (vs ++ dvs) (us ++ ds) := r.append hd
  have hl : (us ++ ds).length = ps.length := by rw [← r2.length]; exact F.len _ _ _ _ h
  refine wpAny_call (codeAny_mono (F.run X.A X.stack s H ⟨us, []⟩ (us ++ ds) (vs ++ dvs) Q E hr I.env0 (hb s us I.kIn hl) r2 h) fun r s' hq => ?_)
  cases r with
  | error e => exact hx pins σ H s e s' I hq
  | ok fl =>
    cases fl with
    | ret u => exact I.after hq
    | next => exact False.elim hq
    | brk => exact False.elim hq
    | cont => exact False.elim hq

theorem pe_call (F : FnOk X.prog X.w X.K X.mg X.base CX k f fd ps sp) (hr : Room k X.A) (hg : Gl X x) (hm : X.mg x = some (.ref f)) (hk : PySem.W.keepIn X.K (.ref f) = true) (hb : Binds X.K fd ps ds) (hd : Vals dvs ds) (hx : Passes CX X E)
    (ha : PA X (e :: es) t) (hdb : (x == ("__debug__" : Str)) = false := by decide) (he : starEach (e :: es) X.env = (false, eval e X.env) :: starEach es X.env := by rfl) (hpl : (backTo pos (starEach es X.env)).any (·.1) = false := by rfl) :
    PE X (.Call (.Name x p) (e :: es) [] pos) (tCall sp dvs E t) := by
  intro pins s σ H Q I h
  refine wpAny_Call_Name_kw (ld_glob I hg hm ?_ hdb)
  refine PySem.W.callWith_K (h₀ := X.base) I.ok.mod.kin hk (thn (ha pos pins s σ H _ I h) fun us s1 ⟨vs, H1, I1, r, q⟩ => ⟨I1.kIn, ?_⟩) he hpl
  exact run_fn F hr hb hd hx I1 r q
theorem pe_call0 (F : FnOk X.prog X.w X.K X.mg X.base CX k f fd ps sp) (hr : Room k X.A) (hg : Gl X x) (hm : X.mg x = some (.ref f)) (hk : PySem.W.keepIn X.K (.ref f) = true) (hb : Binds X.K fd ps ds) (hd : Vals dvs ds) (hx : Passes CX X E)
    (hdb : (x == ("__debug__" : Str)) = false := by decide) : PE X (.Call (.Name x p) [] [] pos) (tCall sp dvs E tNil) := by
  intro pins s σ H Q I h
  refine wpAny_Call_Name_kw (ld_glob I hg hm ?_ hdb)
  exact PySem.W.callWith_K0 I.kIn hk (run_fn (us := []) F hr hb hd hx I .nil h)

/-- o.m(e, ..) -/
theorem pe_meth {pl : Sem Bool} (he : PE X o ta) (c : Cls X.K C) (hm : Meth X.K C m f) (F : FnOk X.prog X.w X.K X.mg X.base CX k f fd ps sp) (hr : Room k X.A) (hb : Binds X.K fd ps ds) (hd : Vals dvs ds) (hx : Passes CX X E) (ha : PA X (e :: es) t)
    (hst : starEach (e :: es) X.env = (false, eval e X.env) :: starEach es X.env := by rfl) (hpl : (backTo pos (starEach es X.env)).any (·.1) = false := by rfl)
    (ht : eval (.Call (.Attribute o m apos) (e :: es) [] pos) X.env = (do
      let ov ← eval o X.env
      standAt apos.atName
      let (f, first) ← holding [ov] (getMethod ov m pl)
      callWith pos f first (backTo pos (starEach (e :: es) X.env)) (backToKw pos (keywordEach [] X.env))) := by rfl) :
    PE X (.Call (.Attribute o m apos) (e :: es) [] pos) (tMeth C m sp dvs E ta t) := by
  intro pins s σ H Q I h
  refine PySem.W.methodCall_KW (pl := pl) (thn (he pins s σ H _ I h) fun u s1 ⟨x, H1, I1, rx, a, dx, fs, ex, ea, l, q⟩ => ?_) ht
  subst ex
  obtain rfl : u = Value.ref a := rx
  refine getmeth_ok I1 ea c hm l ?_
  refine PySem.W.callWith_K (first := [.ref a]) (h₀ := X.base) I.ok.mod.kin hm.kp (thn (ha pos pins s1 σ H1 _ I1 q) fun us s2 ⟨vs, H2, I2, r, q2⟩ => ⟨I2.kIn, ?_⟩) hst hpl
  exact run_fn (us := .ref a :: us) (vs := .ref a :: vs) F hr hb hd hx I2 (.cons rfl r) q2
/-- o.m() -/
theorem pe_meth0 {pl : Sem Bool} (he : PE X o ta) (c : Cls X.K C) (hm : Meth X.K C m f) (F : FnOk X.prog X.w X.K X.mg X.base CX k f fd ps sp) (hr : Room k X.A) (hb : Binds X.K fd ps ds) (hd : Vals dvs ds) (hx : Passes CX X E)
    (ht : eval (.Call (.Attribute o m apos) [] [] pos) X.env = (do
      let ov ← eval o X.env
      standAt apos.atName
      let (f, first) ← holding [ov] (getMethod ov m pl)
      callWith pos f first (backTo pos (starEach [] X.env)) (backToKw pos (keywordEach [] X.env))) := by rfl) :
    PE X (.Call (.Attribute o m apos) [] [] pos) (tMeth C m sp dvs E ta tNil) := by
  intro pins s σ H Q I h
  refine PySem.W.methodCall_KW (pl := pl) (thn (he pins s σ H _ I h) fun u s1 ⟨x, H1, I1, rx, a, dx, fs, ex, ea, l, q⟩ => ?_) ht
  subst ex
  obtain rfl : u = Value.ref a := rx
  refine getmeth_ok I1 ea c hm l ?_
  exact PySem.W.callWith_K0 (first := [.ref a]) I1.kIn hm.kp (run_fn (us := [.ref a]) (vs := [.ref a]) F hr hb hd hx I1 (.cons rfl .nil) q)

/-- what a class must have to be made -/
structure Mk (K : PySem.W.Frag) (C f : Addr) : Prop where
  makes : PySem.W.makesIn K C = true
  init : PySem.W.findIn K (.ref C) "__init__" = some (some (.ref f))
  fn : PySem.W.isFn K (.ref f) = true
  kp : PySem.W.keepIn K (.ref C) = true

theorem run_make {pins : List (Addr × Obj)} {σ : St} {H : Hp} {s : Shared} {Q : VK} {us : List Value} {vs : List V} (M : Mk X.K C f) (F : FnOk X.prog X.w X.K X.mg X.base CX k f fd ps sp) (hr : Room (k + 1) X.A) (hb : Binds X.K fd ps ds) (hd : Vals dvs ds)
    (hx : Passes CX X E) (I : Inv X pins σ H s) (r : Vals vs us)
    (h : ∀ x dx, H x = none → H dx = none → dx ≠ x → sp (.ref x :: (vs ++ dvs)) (upd (upd H dx (.own x)) x (.ins C dx [])) (fun v H2 => v = .non ∧ Q (.ref x) H2) E) :
    wpAny (model X.prog X.w) X.A (call (.ref C) us) (EP X pins σ Q) X.xe s := by
  have hq := h (s.heap.objs.size + 1) s.heap.objs.size (I.hok.fresh (Nat.le_succ _)) (I.hok.fresh (Nat.le_refl _)) (Nat.ne_of_lt (Nat.lt_succ_self _))
  have I2 := Inv.made (C := C) I
  have r2 : Vals (V.ref (s.heap.objs.size + 1) :: (vs ++ dvs)) (Value.ref (s.heap.objs.size + 1) :: (us ++ ds)) := .cons rfl (r.append hd)
  have hl : (Value.ref (s.heap.objs.size + 1) :: us ++ ds).length = ps.length := by
    have e := r2.length
    rw [F.len _ _ _ _ hq] at e
    exact e.symm
  refine wpAny_call (make_map (f := f) I.kIn M.makes M.init (beq_iff_eq.mp M.fn) (codeAny_mono (F.run _ X.stack _ _ ⟨Value.ref (s.heap.objs.size + 1) :: us, []⟩ (Value.ref (s.heap.objs.size + 1) :: (us ++ ds)) _ _ E (hr.make C us [])
    (I2.env0.make C us []) (hb _ (Value.ref (s.heap.objs.size + 1) :: us) I2.kIn hl) r2 hq) fun r s' hq' => ?_))
  cases r with
  | error e => exact hx pins σ _ _ e s' I2 hq'
  | ok fl =>
    cases fl with
    | ret u =>
      obtain ⟨v, H', I3, rv, ev, q3⟩ := I2.after hq'
      subst ev
      exact ⟨rv, ⟨V.ref (s.heap.objs.size + 1), H', I3, rfl, q3⟩⟩
    | next => exact False.elim hq'
    | brk => exact False.elim hq'
    | cont => exact False.elim hq'
theorem pe_make (M : Mk X.K C f) (F : FnOk X.prog X.w X.K X.mg X.base CX k f fd ps sp) (hr : Room (k + 1) X.A) (hg : Gl X x) (hm : X.mg x = some (.ref C)) (hb : Binds X.K fd ps ds) (hd : Vals dvs ds) (hx : Passes CX X E)
    (ha : PA X (e :: es) t) (hdb : (x == ("__debug__" : Str)) = false := by decide) (he : starEach (e :: es) X.env = (false, eval e X.env) :: starEach es X.env := by rfl) (hpl : (backTo pos (starEach es X.env)).any (·.1) = false := by rfl) :
    PE X (.Call (.Name x p) (e :: es) [] pos) (tMake C sp dvs E t) := by
  intro pins s σ H Q I h
  refine wpAny_Call_Name_kw (ld_glob I hg hm ?_ hdb)
  refine PySem.W.callWith_K (h₀ := X.base) I.ok.mod.kin M.kp (thn (ha pos pins s σ H _ I h) fun us s1 ⟨vs, H1, I1, r, q⟩ => ⟨I1.kIn, ?_⟩) he hpl
  exact run_make M F hr hb hd hx I1 r q
theorem pe_make0 (M : Mk X.K C f) (F : FnOk X.prog X.w X.K X.mg X.base CX k f fd ps sp) (hr : Room (k + 1) X.A) (hg : Gl X x) (hm : X.mg x = some (.ref C)) (hb : Binds X.K fd ps ds) (hd : Vals dvs ds) (hx : Passes CX X E)
    (hdb : (x == ("__debug__" : Str)) = false := by decide) : PE X (.Call (.Name x p) [] [] pos) (tMake C sp dvs E tNil) := by
  intro pins s σ H Q I h
  refine wpAny_Call_Name_kw (ld_glob I hg hm ?_ hdb)
  exact PySem.W.callWith_K0 I.kIn M.kp (run_make (us := []) M F hr hb hd hx I .nil h)
end

/-! ### keywords -/
/-- the values of the keywords, from the left -/
def PK (X : Cx) (kws : List Keyword) (t : TA) : Prop :=
  ∀ (pos : Pos) (pins : List (Addr × Obj)) (s : Shared) (σ : St) (H : Hp) (Q : List V → Hp → Prop), Inv X pins σ H s → t σ H Q → wpAny (model X.prog X.w) X.A (evalAll ((backToKw pos (keywordEach kws X.env)).map (·.2))) (AP X pins σ Q) X.xe s
section
variable {X : Cx} {CX : CXT} {k : Nat} {f C : Addr} {fd : FuncData} {ps ks : List Str} {sp : Sp} {E : XK} {x m : Str} {p pos apos kpos : Pos} {e o : Expr} {es : List Expr} {kws : List Keyword} {te ta : TE} {t tk : TA} {nm : Option Str}
theorem pk_nil : PK X [] tNil := fun _ _ _ _ H Q I h => wpAny_evalAll_nil ⟨[], H, I, .nil, h⟩
theorem pk_cons (ha : PE X e te) (hr : PK X kws t) : PK X (⟨nm, e, kpos⟩ :: kws) (tCons te t) := by
  intro pos pins s σ H Q I h
  show wpAny _ _ (evalAll ((do let v ← eval e X.env; standAt pos; pure v) :: (backToKw pos (keywordEach kws X.env)).map (·.2))) _ _ s
  refine wpAny_evalAll_cons (wpAny_bind (thn (ha pins s σ H _ I h) fun u s1 ⟨x, H1, I1, r1, q1⟩ => wpAny_bind (wpAny_standAt (wpAny_pure ?_))))
  exact thn (hr pos pins s1 σ H1 _ I1 q1) fun us s2 ⟨xs, H2, I2, r2, q2⟩ => ⟨x :: xs, H2, I2, .cons r1 r2, q2⟩

/-- how a call with keywords binds: g puts the positional values us and the keywords' values ws (names ks) in the parameters' order, defaults among them -/
structure KBinds (K : PySem.W.Frag) (fd : FuncData) (ps ks : List Str) (g : List Value → List Value → List Value) (gV : List V → List V → List V) : Prop where
  to : ∀ (s : Shared) (us ws : List Value), K.In s.heap → (g us ws).length = ps.length → BindsTo s fd ⟨us, ks.zip ws⟩ (ps.zip (g us ws))
  rel : ∀ {vs : List V} {us : List Value} {zs : List V} {ws : List Value}, Vals vs us → Vals zs ws → Vals (gV vs zs) (g us ws)
def tCallK (sp : Sp) (gV : List V → List V → List V) (E : XK) (t tk : TA) : TE := fun σ H Q => t σ H fun vs H1 => tk σ H1 fun zs H2 => sp (gV vs zs) H2 Q E
variable {g : List Value → List Value → List Value} {gV : List V → List V → List V}
theorem run_fnk {pins : List (Addr × Obj)} {σ : St} {H : Hp} {s : Shared} {Q : VK} {us ws : List Value} {vs zs : List V} (F : FnOk X.prog X.w X.K X.mg X.base CX k f fd ps sp) (hr : Room k X.A) (hb : KBinds X.K fd ps ks g gV) (hx : Passes CX X E)
    (I : Inv X pins σ H s) (r : Vals vs us) (rz : Vals zs ws) (h : sp (gV vs zs) H Q E) : wpAny (model X.prog X.w) X.A (call (.ref f) us (ks.zip ws)) (EP X pins σ Q) X.xe s := by
  have r2 := hb.rel r rz
  have hl : (g us ws).length = ps.length := by rw [← r2.length]; exact F.len _ _ _ _ h
  refine wpAny_call (codeAny_mono (F.run X.A X.stack s H ⟨us, ks.zip ws⟩ (g us ws) (gV vs zs) Q E hr I.env0 (hb.to s us ws I.kIn hl) r2 h) fun r s' hq => ?_)
  cases r with
  | error e => exact hx pins σ H s e s' I hq
  | ok fl =>
    cases fl with
    | ret u => exact I.after hq
    | next => exact False.elim hq
    | brk => exact False.elim hq
    | cont => exact False.elim hq
/-- f(e, .., k = v, ..) -/
theorem pe_callK (F : FnOk X.prog X.w X.K X.mg X.base CX k f fd ps sp) (hr : Room k X.A) (hg : Gl X x) (hm : X.mg x = some (.ref f)) (hk : PySem.W.keepIn X.K (.ref f) = true) (hb : KBinds X.K fd ps ks g gV) (hx : Passes CX X E)
    (ha : PA X (e :: es) t) (hkw : PK X kws tk) (hall : (backToKw pos (keywordEach kws X.env)).all (·.1.isSome) = true := by rfl) (hks : (backToKw pos (keywordEach kws X.env)).filterMap (·.1) = ks := by rfl)
    (hdb : (x == ("__debug__" : Str)) = false := by decide) (he : starEach (e :: es) X.env = (false, eval e X.env) :: starEach es X.env := by rfl)
    (hpl : ((backTo pos (starEach (e :: es) X.env)).any (·.1) || (backToKw pos (keywordEach kws X.env)).any (·.1.isNone)) = false := by rfl) :
    PE X (.Call (.Name x p) (e :: es) kws pos) (tCallK sp gV E t tk) := by
  intro pins s σ H Q I h
  refine wpAny_Call_Name_kw (ld_glob I hg hm ?_ hdb)
  refine PySem.W.callWith_KW (h₀ := X.base) I.ok.mod.kin hk hall (thn (ha pos pins s σ H _ I h) fun us s1 ⟨vs, H1, I1, r, q⟩ => ?_) hpl he
  refine thn (hkw pos pins s1 σ H1 _ I1 q) fun ws s2 ⟨zs, H2, I2, rz, q2⟩ => ⟨I2.kIn, ?_⟩
  rw [hks]
  exact run_fnk F hr hb hx I2 r rz q2
end

/-! ### a def's body keeps its promise -/
/-- names: the parameters first -/
structure FnScope (N P : List Str) (sc : Scope) : Prop where
  kind : sc.kind = .function
  co : sc.isCoroutine = false
  gen : sc.isGenerator = false
  nd : N.Nodup
  pre : N.take P.length = P
  par : ∀ x ∈ P, sc.names.lookup x = some .local ∨ sc.names.lookup x = some .cell
  nofree : ∀ y ∈ sc.names, y.2 ≠ .free

theorem bindL_out {kindOf : Str → Option NameKind} {x : Str} : ∀ {binds : List (Str × Value)} {m : Str → Option Value}, (∀ v, (x, v) ∉ binds) → bindL kindOf binds m x = m x
  | [], _, _ => rfl
  | (n, v) :: r, m, h => by
    unfold bindL
    rw [bindL_out fun w hw => h w (List.mem_cons_of_mem _ hw)]
    split
    · have : x ≠ n := by rintro rfl; exact h v List.mem_cons_self
      simp [this]
    · rfl
theorem bindC_out {kindOf : Str → Option NameKind} {x : Str} : ∀ {binds : List (Str × Value)} {m : Str → Option Value}, (∀ v, (x, v) ∉ binds) → bindC kindOf binds m x = m x
  | [], _, _ => rfl
  | (n, v) :: r, m, h => by
    unfold bindC
    rw [bindC_out fun w hw => h w (List.mem_cons_of_mem _ hw)]
    split
    · rfl
    · have : x ≠ n := by rintro rfl; exact h v List.mem_cons_self
      simp [this]
theorem bindL_get {kindOf : Str → Option NameKind} {x : Str} {v : Value} : ∀ {P : List Str} {vs : List Value} {i : Nat} {m : Str → Option Value}, P.Nodup → P[i]? = some x → vs[i]? = some v → kindOf x = some .local →
    bindL kindOf (P.zip vs) m x = some v
  | [], _, _, _, _, h, _, _ => by simp at h
  | _ :: _, [], _, _, _, _, h, _ => by simp at h
  | p :: P, w :: vs, 0, m, nd, h1, h2, hk => by
    simp at h1 h2; subst h1; subst h2
    show bindL kindOf ((p, w) :: P.zip vs) m p = _
    unfold bindL
    rw [bindL_out fun v hv => (List.nodup_cons.mp nd).1 (List.of_mem_zip hv).1, if_pos hk]
    simp
  | p :: P, w :: vs, i + 1, m, nd, h1, h2, hk => by
    show bindL kindOf ((p, w) :: P.zip vs) m x = _
    unfold bindL
    exact bindL_get (i := i) (List.nodup_cons.mp nd).2 (by simpa using h1) (by simpa using h2) hk
theorem bindC_get {kindOf : Str → Option NameKind} {x : Str} {v : Value} : ∀ {P : List Str} {vs : List Value} {i : Nat} {m : Str → Option Value}, P.Nodup → P[i]? = some x → vs[i]? = some v → kindOf x ≠ some .local →
    bindC kindOf (P.zip vs) m x = some v
  | [], _, _, _, _, h, _, _ => by simp at h
  | _ :: _, [], _, _, _, _, h, _ => by simp at h
  | p :: P, w :: vs, 0, m, nd, h1, h2, hk => by
    simp at h1 h2; subst h1; subst h2
    show bindC kindOf ((p, w) :: P.zip vs) m p = _
    unfold bindC
    rw [bindC_out fun v hv => (List.nodup_cons.mp nd).1 (List.of_mem_zip hv).1, if_neg hk]
    simp
  | p :: P, w :: vs, i + 1, m, nd, h1, h2, hk => by
    show bindC kindOf ((p, w) :: P.zip vs) m x = _
    unfold bindC
    exact bindC_get (i := i) (List.nodup_cons.mp nd).2 (by simpa using h1) (by simpa using h2) hk

/-- the names' values at the entry -/
def start (N : List Str) (vs : List V) : St := vs.map some ++ List.replicate (N.length - vs.length) none

/-- the context of a def's body, at its entry; an exception leaves the frame, then lies as CX says -/
def cxOf (CX : CXT) (P : Program) (w : World) (K : PySem.W.Frag) (mg : Str → Option Value) (base : Heap) (N : List Str) (qual : Str) (scope : Scope) (f : Addr) (cd : Value) (A : Around) (outer : List Env) (s : Shared) (H : Hp) (E : XK) : Cx where
  prog := P
  w := w
  K := K
  mg := mg
  base := base
  A := A.deeper (envOfC qual scope s.heap.objs.size f cd)
  N := N
  s₀ := s
  H₀ := H
  env := envOfC qual scope s.heap.objs.size f cd
  outer := outer
  stack := envOfC qual scope s.heap.objs.size f cd :: outer
  ex := []
  calm := true
  fn := fun _ => true
  pn := []
  xe := fun e s' => wpAny (model P w) (A.deeper (envOfC qual scope s.heap.objs.size f cd)) (leaving (envOfC qual scope s.heap.objs.size f cd) e) (fun _ s'' => CX outer H s E e s'') (fun e' s'' => CX outer H s E e' s'') s'

theorem cell_has {sc : Scope} {n : Nat} {x : Str} (h : sc.names.lookup x = some .cell) : ∃ c, (cellsFrom n sc.names []).lookup x = some c := by
  have q := PySem.W.cellsFrom_some sc.names n [] (.inl h)
  exact Option.isSome_iff_exists.mp q

theorem inv_start {CX : CXT} {P : Program} {w : World} {K : PySem.W.Frag} {mg : Str → Option Value} {base : Heap} {N ps : List Str} {qual : Str} {scope : Scope} {f : Addr} {cd : Value} {A : Around} {outer : List Env} {s s1 : Shared} {H : Hp} {E : XK} {us : List Value} {vs : List V}
    (S : FnScope N ps scope) (hd : A.handled = none) (e0 : Env0 P w K mg base A outer s H) (hl : vs.length = ps.length) (r : Vals vs us)
    (x : InCallC s s.heap.objs.size (bindL (envOfC qual scope s.heap.objs.size f cd).kindOf (ps.zip us) fun _ => none) (cellsFrom (s.heap.objs.size + 1) scope.names []) (bindC (envOfC qual scope s.heap.objs.size f cd).kindOf (ps.zip us) fun _ => none) s1) :
    Inv (cxOf CX P w K mg base N qual scope f cd A outer s H E) [] (start N vs) H s1 := by
  have hpl : ps.length ≤ N.length := by have := congrArg List.length S.pre; rw [List.length_take] at this; omega
  obtain ⟨h1, tk, rfl, hk⟩ := x.done
  have noA : ∀ b : Addr, b ∉ (cxOf CX P w K mg base N qual scope f cd A outer s H E).ex := fun b z => absurd (show b ∈ ([] : List Addr) from z) (by simp)
  refine ⟨⟨e0.mod, S.kind, rfl, rfl, Nat.le_refl _, fun y z c h1 h2 => ?_, fun y hy => ?_, fun y c _ h => ?_, fun _ => hd, Around.frames_deeper e0.frames, .inr ⟨rfl, rfl⟩, fun b z => absurd z (noA b), e0.bs, e0.bsz, fun b _ _ => noA b, fun b z => absurd z (noA b), e0.funs, e0.frf⟩,
    rfl, e0.bare, Un.kept hk, ⟨_, x.toInCall.ns, fun i y v h1 h2 h3 => ?_⟩, fun y c h => ⟨_, x.cell y c h⟩, e0.hok.fresh (Nat.le_refl _), fun y c h => ?_, fun p hp => absurd (show p ∈ ([] : List (Addr × Obj)) from hp) (by simp), e0.hok.kept hk, ?_⟩
  · exact name_of_addr x.apart (PySem.mem_of_lookup h1) (PySem.mem_of_lookup h2)
  · have hy : scope.names.lookup y = some .cell ∨ scope.names.lookup y = some .free := hy
    rcases hy with hy | hy
    · exact cell_has hy
    · exact absurd rfl (S.nofree _ (PySem.mem_of_lookup hy))
  · exact Nat.le_of_lt (x.above y c (PySem.mem_of_lookup h))
  · have hi : i < vs.length := by
      unfold start at h2
      by_cases hi : i < vs.length
      · exact hi
      · rw [List.getElem?_append_right (by simpa using hi)] at h2
        rw [List.getElem?_replicate] at h2
        split at h2 <;> cases h2
    have ha : vs[i]? = some v := by
      unfold start at h2
      rw [List.getElem?_append_left (by simpa using hi), List.getElem?_map] at h2
      cases e : vs[i]? with
      | none => rw [e] at h2; cases h2
      | some a => rw [e] at h2; cases h2; rfl
    obtain ⟨u, hu, rv⟩ := r.get ha
    have hp : ps[i]? = some y := by
      rw [← S.pre, List.getElem?_take_of_lt (by omega)]; exact h1
    have ndP : ps.Nodup := by rw [← S.pre]; exact S.nd.sublist (List.take_sublist _ _)
    refine ⟨u, rv, ?_⟩
    rcases S.par y (List.mem_of_getElem? hp) with k | k
    · exact .inl ⟨k, bindL_get ndP hp hu k⟩
    · obtain ⟨c, e⟩ := cell_has (n := s.heap.objs.size + 1) k
      refine .inr ⟨.inl k, c, e, ?_⟩
      have q := x.cell y c e
      rw [bindC_get ndP hp hu (by show scope.names.lookup y ≠ _; rw [k]; decide)] at q
      exact q
  · exact e0.hok.fresh (Nat.le_of_lt (x.above y c (PySem.mem_of_lookup h)))
  · unfold start
    show _ = N.length
    rw [List.length_append, List.length_map, List.length_replicate]
    omega

/-- THE RULE: a def (or a method) of the text, by its body. The body's reading t is chosen for each entry; it is run at the parameters' values -/
theorem fn_of {CX : CXT} {P : Program} {w : World} {K : PySem.W.Frag} {mg : Str → Option Value} {base : Heap} {k : Nat} {f : Addr} {name qual : Str} {params : Arguments} {body : List Stmt} {scope : Scope} {dV kV doc pm cdv ct oc : Value} {an od : Option Addr}
    {osl : Array (Option Value)} {N ps : List Str} {sp : Sp} (lk : K.lookup f = some ⟨oc, od, .func (PySem.W.fnOf name qual params body scope dV kV doc pm an cdv ct), osl⟩) (hcd : PySem.W.codeIn K cdv qual = true) (S : FnScope N ps scope)
    (len : ∀ vs H Q E, sp vs H Q E → vs.length = ps.length)
    (hbody : ∀ (A : Around) (outer : List Env) (s : Shared) (H : Hp) (vs : List V) (Q : VK) (E : XK), Room k (A.deeper (envOfC qual scope s.heap.objs.size f cdv)) → sp vs H Q E →
      ∃ t, PSs (cxOf CX P w K mg base N qual scope f cdv A outer s H E) body t ∧ t { nx := fun _ H' => Q .non H', rt := Q } (start N vs) H) :
    FnOk P w K mg base CX (k + 1) f (PySem.W.fnOf name qual params body scope dV kV doc pm an cdv ct) ps sp := by
  refine ⟨len, fun A outer s H args us vs Q E hr e0 hb r hsp => ?_⟩
  have hl := len _ _ _ _ hsp
  have KX : K.In s.heap := e0.mod.kin.keeps fun b o e => (e0.bs b o e).1
  have lim : s.heap.NoLimit := e0.mod.nolimit.keeps fun b o e => (e0.bs b o e).1
  have hkind : ∀ y ∈ ps.zip us, scope.names.lookup y.1 = some .local ∨ (scope.names.lookup y.1 = some .cell ∧ ((cellsFrom (s.heap.objs.size + 1) scope.names []).lookup y.1).isSome = true) := fun ⟨n, v⟩ hy => by
    rcases S.par n (List.of_mem_zip hy).1 with q | q
    · exact .inl q
    · exact .inr ⟨q, PySem.W.cellsFrom_some _ _ _ (.inl q)⟩
  refine codeAny_call_function hr.depth (KX _ _ lk) rfl S.co S.gen rfl (PySem.W.codeRec_of KX hcd) (hb _ _ _ _ ?_)
  refine wpAny_newFunctionEnv_cells S.kind hkind fun env he s1 x => ?_
  subst he
  refine ⟨lim.keeps x.toInCall.keep, codeAny_func ?_⟩
  obtain ⟨t, ht, hq⟩ := hbody A outer s H vs Q E (hr.deeper _) hsp
  have I : Inv (cxOf CX P w K mg base N qual scope f cdv A outer s H E) [] (start N vs) H s1 := inv_start S hr.hd e0 hl r x
  refine wpAny_mono (ht [] s1 (start N vs) H _ I hq) (fun fl s' hs => ?_) fun e s' hs => hs
  have fin : ∀ {σ' : St} {H' : Hp} {v : V} {u : Value}, Inv (cxOf CX P w K mg base N qual scope f cdv A outer s H E) [] σ' H' s' → RelV v u → Q v H' → CE outer P w H s Q u s' :=
    fun {σ' H' v u} J rv q => ⟨v, H', J.os, J.bare, J.base, J.hok, rv, q⟩
  cases fl with
  | ret u =>
    obtain ⟨v, σ', H', J, rv, q⟩ := hs
    exact fin J rv q
  | next =>
    obtain ⟨σ', H', J, q⟩ := hs
    exact fin (v := V.non) (u := Value.none) J rfl q
  | brk =>
    obtain ⟨_, _, _, q⟩ := hs
    exact False.elim q
  | cont =>
    obtain ⟨_, _, _, q⟩ := hs
    exact False.elim q
end L2

namespace L2
open PySem PySem.Spec PyProof.Rows
section
variable {X : Cx} {x : Str} {p pos : Pos} {e : Expr} {es : List Expr} {t : TA} {id T : String} {r : List V → Hp → VK → Prop}

def tCB (r : List V → Hp → VK → Prop) (t : TA) : TE := fun σ H Q => t σ H fun vs H1 => r vs H1 Q
/-- f(e, ..), f a built-in function -/
theorem pe_callB (hc : CallR X (.builtin id) r) (hg : Gl X x) (hm : X.mg x = none) (hv : bootBuiltins x = some (.builtin id)) (ha : PA X (e :: es) t) (hn : x ≠ "__name__" := by decide) (hdb : (x == ("__debug__" : Str)) = false := by decide)
    (he : starEach (e :: es) X.env = (false, eval e X.env) :: starEach es X.env := by rfl) (hpl : (backTo pos (starEach es X.env)).any (·.1) = false := by rfl) : PE X (.Call (.Name x p) (e :: es) [] pos) (tCB r t) := by
  intro pins s σ H Q I h
  refine wpAny_Call_Name_kw (ld_blt I hg hm hv ?_ hn hdb)
  exact PyProof.Rows.callWith_builtin1 (thn (ha pos pins s σ H _ I h) fun us s1 ⟨vs, H1, I1, r1, q1⟩ => hc pins s1 σ H1 vs us Q I1 r1 q1) he hpl
/-- T(e, ..), T a built-in type -/
theorem pe_callTy (hc : CallR X (.type T) r) (hg : Gl X x) (hm : X.mg x = none) (hv : bootBuiltins x = some (.type T)) (ha : PA X (e :: es) t) (hn : x ≠ "__name__" := by decide) (hdb : (x == ("__debug__" : Str)) = false := by decide)
    (he : starEach (e :: es) X.env = (false, eval e X.env) :: starEach es X.env := by rfl) (hpl : (backTo pos (starEach es X.env)).any (·.1) = false := by rfl) : PE X (.Call (.Name x p) (e :: es) [] pos) (tCB r t) := by
  intro pins s σ H Q I h
  refine wpAny_Call_Name_kw (ld_blt I hg hm hv ?_ hn hdb)
  exact PyProof.Rows.callWith_type1 (thn (ha pos pins s σ H _ I h) fun us s1 ⟨vs, H1, I1, r1, q1⟩ => hc pins s1 σ H1 vs us Q I1 r1 q1) he hpl
/-- T() -/
theorem pe_callTy0 (hc : CallR X (.type T) r) (hg : Gl X x) (hm : X.mg x = none) (hv : bootBuiltins x = some (.type T)) (hn : x ≠ "__name__" := by decide) (hdb : (x == ("__debug__" : Str)) = false := by decide) :
    PE X (.Call (.Name x p) [] [] pos) (tCB r tNil) := by
  intro pins s σ H Q I h
  refine wpAny_Call_Name_kw (ld_blt I hg hm hv ?_ hn hdb)
  exact PyProof.Rows.callWith_type0 (hc pins s σ H [] [] Q I .nil h)
end
end L2

namespace HT
open PySem PyProof.Rows

/-- t < u of tuples of ints -/
def lexLt : List Int → List Int → Bool
  | [], [] => false
  | [], _ :: _ => true
  | _ :: _, [] => false
  | x :: xs, y :: ys => if x = y then lexLt xs ys else decide (x < y)
theorem lexLt_cons (x y : Int) (xs ys : List Int) : lexLt (x :: xs) (y :: ys) = if x = y then lexLt xs ys else decide (x < y) := rfl
theorem lexLt_nil_nil : lexLt [] [] = false := rfl
theorem lexLt_nil_cons (y : Int) (ys : List Int) : lexLt [] (y :: ys) = true := rfl
theorem lexLt_cons_nil (x : Int) (xs : List Int) : lexLt (x :: xs) [] = false := rfl

theorem eqAt_int (A : Around) (s : Shared) (a : Int) (t : Tok) (c : Int) (u : Tok) : ∃ e, SeqAt.EqAt A s (.int a t) (.int c u) e ∧ (e = true ↔ a = c) :=
  ⟨(a == c), SeqAt.EqAt.int_int a t c u, by simp⟩
theorem rcLt_int (A : Around) (s : Shared) (a : Int) (t : Tok) (c : Int) (u : Tok) (prog : Program) (w : World) (E : Value → Shared → Prop) (Q : Value → Shared → Prop) (h : Q (.bool (decide (a < c))) s) :
    wpAny (model prog w) A (richCompare .Lt (.int a t) (.int c u)) Q E s :=
  (PyProof.Rows.lt_int h : wpAny (model prog w) A (compareOp .Lt (.int a t) (.int c u)) Q E s)

section
open PySem.SeqAt
open PySem.AutoSeq1 (wpAny_loadPart')
open PySem.MeetsSeq PySem.MeetsSeq2 PySem.MeetsSeq3

theorem tuple_lt_ints (l b : Addr) (items items2 : Array Value) (n n2 : Nat) (dd dd2 : Option Addr) (sl sl2 : Array (Option Value)) (ns ms : List Int) (hi : IntsAre items.toList ns) (hj : IntsAre items2.toList ms) :
    Meets (Builtin.«tuple.__lt__» ⟨[.ref l, .ref b], []⟩)
      (fun _ R s => s.heap.get? l = some { cls := .type "tuple", dict := dd, data := .seq items n, slots := sl } ∧ s.heap.get? b = some { cls := .type "tuple", dict := dd2, data := .seq items2 n2, slots := sl2 } ∧
        R (.ok (.ret (.bool (lexLt ns ms)))) s) :=
  .of_wp fun prog w A R s h => by
    obtain ⟨hp, g, d, tk, os⟩ := s; obtain ⟨hl, hb, h⟩ := h
    have f2 := AutoSeq1.sub_tuple_tuple
    have z1 : items.size = ns.length := by rw [← hi.length]; simp
    have z2 : items2.size = ms.length := by rw [← hj.length]; simp
    wp_walk using wpAny_loadPart' hl, wpAny_loadPart' hb, wpAny_forIn_list _ (fun rest b s' => b.1 = none ∧ s' = ⟨hp, g, d, tk, os⟩ ∧ ∃ (vs ws : List Value) (ns' ms' : List Int), rest = vs.zip ws ∧
      IntsAre vs ns' ∧ IntsAre ws ms' ∧ ns'.length + items2.size = ms'.length + items.size ∧ R (.ok (.ret (.bool (lexLt ns' ms')))) ⟨hp, g, d, tk, os⟩) _
    case turn =>
      rintro ⟨y, x⟩ rest b s' ⟨hb', rfl, vs, ws, ns', ms', hz, hvi, hwi, hlen, hR⟩
      cases hvi with
      | nil => rw [List.zip_nil_left] at hz; cases hz
      | cons a t hvi' =>
        cases hwi with
        | nil => rw [List.zip_nil_right] at hz; cases hz
        | cons c u hwi' =>
          rw [List.zip_cons_cons] at hz
          injection hz with hyx hrest
          injection hyx with hy hx
          subst hy hx
          rw [lexLt_cons] at hR
          simp only [List.length_cons] at hlen
          obtain ⟨e, he, hiff⟩ := eqAt_int A.in1 ⟨hp, g, d, tk, os⟩ a t c u
          refine wpAny_bind (he prog w _ _ ?_)
          cases e with
          | true =>
            rw [if_pos (hiff.mp rfl)] at hR
            wp_walk
            exact ⟨rfl, rfl, _, _, _, _, hrest, hvi', hwi', by omega, hR⟩
          | false =>
            rw [if_neg (fun q => absurd (hiff.mpr q) Bool.false_ne_true)] at hR
            have hri := rcLt_int A.in1 ⟨hp, g, d, tk, os⟩ a t c u prog w
            wp_walk using hri
            exact ⟨_, rfl, by simpa using hR⟩
    case fin =>
      rintro ⟨b1, b2⟩ s' ⟨hb', rfl, vs, ws, ns', ms', hz, hvi, hwi, hlen, hR⟩
      simp only at hb'
      subst hb'
      have hv : lexLt ns' ms' = decide (items.size < items2.size) := by
        cases hvi with
        | nil =>
          cases hwi with
          | nil =>
            simp only [List.length_nil] at hlen
            rw [lexLt_nil_nil]
            exact (decide_eq_false (by omega)).symm
          | cons c u hw =>
            simp only [List.length_nil, List.length_cons] at hlen
            rw [lexLt_nil_cons]
            exact (decide_eq_true (by omega)).symm
        | cons a t hv =>
          cases hwi with
          | nil =>
            simp only [List.length_nil, List.length_cons] at hlen
            rw [lexLt_cons_nil]
            exact (decide_eq_false (by omega)).symm
          | cons c u hw =>
            rw [List.zip_cons_cons] at hz
            cases hz
      rw [hv] at hR
      wp_walk
      exact ⟨_, rfl, by simpa [Builtin.Tuple.tupleCompareSizes] using hR⟩
    case h =>
      exact ⟨rfl, rfl, items.toList, items2.toList, ns, ms, rfl, hi, hj, by omega, h⟩
end

section
variable {prog : Program} {w : World} {A : Around} {E : Value → Shared → Prop} {s : Shared}

theorem lt_tupInts {l b : Addr} {items items2 : Array Value} {ns ms : List Int} {Q : Value → Shared → Prop} (hl : IsTup s.heap l items) (hb : IsTup s.heap b items2) (hi : IntsAre items.toList ns) (hj : IntsAre items2.toList ms)
    (hu : A.units < cLine) (h : Q (.bool (lexLt ns ms)) s) : wpAny (model prog w) A (compareOp .Lt (.ref l) (.ref b)) Q E s := by
  obtain ⟨⟨cls, dd, data, sl⟩, ho, hc, n, hd⟩ := id hl
  obtain ⟨⟨cls2, dd2, data2, sl2⟩, ho2, hc2, n2, hd2⟩ := id hb
  simp only at hc hd hc2 hd2
  subst hc hd hc2 hd2
  exact richCompare_meets_room (op := .Lt) ⟨_, ho, rfl⟩ ⟨_, ho2, rfl⟩ PySem.F.slot_tuple_lt PySem.F.entry_tuple_lt (PySem.F.args_tuple_lt_2 _ _) (tuple_lt_ints l b items items2 n n2 dd dd2 sl sl2 ns ms hi hj)
    ⟨ho, ho2, show Value.bool (lexLt ns ms) ≠ Value.notImplemented ∧ Q (.bool (lexLt ns ms)) s from ⟨(fun x => nomatch x), h⟩⟩ hu

/-- t + u, t not empty -/
theorem cat_tup {t b : Addr} {vs ws : List Value} {Q : Value → Shared → Prop} (ht : IsTup s.heap t vs.toArray) (hb : IsTup s.heap b ws.toArray) (hv : vs ≠ [])
    (h1 : ws = [] → Q (.ref t) s) (h2 : ws ≠ [] → Q (.ref s.heap.objs.size) { s with heap := s.heap.push { cls := .type "tuple", data := .seq (vs ++ ws).toArray } })
    (hsz : vs.length + ws.length ≤ sizeLine) : wpAny (model prog w) A (binaryOp .Add (.ref t) (.ref b)) Q E s := by
  obtain ⟨⟨cls, dd, data, sl⟩, ho, hc, n, hd⟩ := id ht
  obtain ⟨⟨cls2, dd2, data2, sl2⟩, ho2, hc2, n2, hd2⟩ := id hb
  simp only at hc hd hc2 hd2
  subst hc hd hc2 hd2
  have e : vs.toArray ++ ws.toArray = (vs ++ ws).toArray := by simp
  by_cases hw : ws = []
  · exact concat_meets ⟨_, ho, rfl⟩ ⟨_, ho2, rfl⟩ noFill_tuple_add seq_tuple_add PySem.F.slot_tuple_add PySem.F.entry_tuple_add (PySem.F.args_tuple_add_2 _ _)
      (tuple_addW1 t b vs.toArray ws.toArray n n2 dd dd2 sl sl2 (by simpa using hv) (by simp [hw])) ⟨ho, ho2, h1 hw⟩
  · refine concat_meets ⟨_, ho, rfl⟩ ⟨_, ho2, rfl⟩ noFill_tuple_add seq_tuple_add PySem.F.slot_tuple_add PySem.F.entry_tuple_add (PySem.F.args_tuple_add_2 _ _)
      (tuple_addW2 t b vs.toArray ws.toArray n n2 dd dd2 sl sl2 (by simpa using hv) (by simpa using hw) (by rw [List.size_toArray, List.size_toArray]; exact hsz)) ⟨ho, ho2, ?_⟩
    rw [e]
    exact h2 hw

/-! ### t[a:b], not the whole -/
/-- a slice's bound as a place among n (d where it is left out) -/
def sIx (n d : Nat) : Option Int → Nat
  | none => d
  | some v => if v < 0 then (v + (n : Int)).toNat else min v.toNat n
theorem sIx_none (n d : Nat) : sIx n d none = d := rfl
theorem sIx_nat (n d k : Nat) : sIx n d (some (k : Int)) = min k n := by
  show (if (k : Int) < 0 then ((k : Int) + (n : Int)).toNat else min (k : Int).toNat n) = min k n
  rw [if_neg (by omega), Int.toNat_natCast]
theorem sIx_le (n d : Nat) (hd : d ≤ n) (o : Option Int) : sIx n d o ≤ n := by
  cases o with
  | none => exact hd
  | some v =>
    show (if v < 0 then (v + (n : Int)).toNat else min v.toNat n) ≤ n
    by_cases hv : v < 0
    · rw [if_pos hv]; omega
    · rw [if_neg hv]; exact Nat.min_le_right _ _
theorem clip_eq (v : Int) (n d : Nat) : (if v < 0 then max (v + (n : Int)) 0 else min v (n : Int)) = ((sIx n d (some v) : Nat) : Int) := by
  show (if v < 0 then max (v + (n : Int)) 0 else min v (n : Int)) = (((if v < 0 then (v + (n : Int)).toNat else min v.toNat n) : Nat) : Int)
  by_cases hv : v < 0
  · simp only [if_pos hv]; omega
  · simp only [if_neg hv]; omega
theorem adjust_gen (lo hi : Option Int) (n : Nat) : Builtin.Slice.sliceAdjust lo hi 1 (n : Int) = (((sIx n 0 lo : Nat) : Int), ((sIx n n hi : Nat) : Int)) := by
  have h1 : ¬ ((1 : Int) < 0) := by omega
  unfold Builtin.Slice.sliceAdjust
  simp only [h1, if_false]
  refine Prod.ext ?_ ?_
  · cases lo with
    | none => rfl
    | some v => exact clip_eq v n 0
  · cases hi with
    | none => rfl
    | some v => exact clip_eq v n n
theorem places_gen (i j : Nat) : Builtin.Slice.slicePlaces (i : Int) (j : Int) 1 = j - i := by
  unfold Builtin.Slice.slicePlaces
  have h1 : (1 : Int) > 0 := by omega
  simp only [h1, if_true, Int.ediv_one]
  split <;> omega
theorem slicePart_ {v : Value} {o : Option Int} {Q : Option Int → Shared → Prop} (p : IsPart v o) (h : Q o s) : wpAny (model prog w) A (Builtin.Slice.slicePartIndex v) Q E s := by
  cases p with
  | none => exact slicePart_none h
  | int i t => exact slicePart_int h
theorem sliceApplied_gen {sl : Addr} {vl vu : Value} {lo hi : Option Int} {n : Nat} {Q : Int × Int × Nat → Shared → Prop} (hs : s.heap.IsSliceOf sl vl vu .none) (pl : IsPart vl lo) (pu : IsPart vu hi)
    (h : Q (((sIx n 0 lo : Nat) : Int), 1, sIx n n hi - sIx n 0 lo) s) : wpAny (model prog w) A (Builtin.Slice.sliceApplied (.ref sl) (pure (n : Int))) Q E s := by
  obtain ⟨os, hos, hcs, hds⟩ := id hs
  unfold Builtin.Slice.sliceApplied Builtin.Slice.sliceFields
  refine wpAny_bind (wpAny_bind (wpAny_field hos hds (x := vl) rfl (wpAny_bind (wpAny_field hos hds (x := vu) rfl (wpAny_bind (wpAny_field hos hds (x := .none) rfl (wpAny_pure ?_)))))))
  refine wpAny_bind (slicePart_none ?_)
  show wpAny _ _ (if ((1 : Int) == 0) = true then _ else _) _ _ s
  rw [if_neg (by decide)]
  refine wpAny_bind (slicePart_ pl (wpAny_bind (slicePart_ pu (wpAny_bind (wpAny_pure ?_)))))
  show wpAny _ _ (match Builtin.Slice.sliceAdjust lo hi 1 (n : Int) with | (lo, hi) => pure (lo, (1 : Int), Builtin.Slice.slicePlaces lo hi 1)) _ _ s
  rw [adjust_gen lo hi n]
  show wpAny _ _ (pure (((sIx n 0 lo : Nat) : Int), (1 : Int), Builtin.Slice.slicePlaces ((sIx n 0 lo : Nat) : Int) ((sIx n n hi : Nat) : Int) 1)) _ _ s
  rw [places_gen]
  exact wpAny_pure h
theorem pick_gen (xs : Array Value) (i k : Nat) : ((List.range k).filterMap fun (m : Nat) => xs[((i : Int) + (m : Int) * 1).toNat]?).toArray = ((xs.toList.drop i).take k).toArray := by
  have e : (fun (m : Nat) => xs[((i : Int) + (m : Int) * 1).toNat]?) = fun m => xs[i + m]? := by
    funext m
    have : ((i : Int) + (m : Int) * 1).toNat = i + m := by omega
    rw [this]
  rw [e]
  have := pick_run xs i k
  rw [List.filterMap_map] at this
  have e2 : ((fun x => xs[x]?) ∘ fun x => i + x) = fun m => xs[i + m]? := rfl
  rw [e2] at this
  rw [this]

theorem getItem_tuple_cut {t sl : Addr} {items : Array Value} {vl vu : Value} {lo hi : Option Int} {Q : Value → Shared → Prop} (ht : IsTup s.heap t items) (hs : s.heap.IsSliceOf sl vl vu .none) (pl : IsPart vl lo) (pu : IsPart vu hi)
    (hw : ¬ (sIx items.size 0 lo = 0 ∧ sIx items.size items.size hi = items.size))
    (h : Q (.ref s.heap.objs.size) { s with heap := s.heap.push { cls := .type "tuple", data := .seq ((items.toList.drop (sIx items.size 0 lo)).take (sIx items.size items.size hi - sIx items.size 0 lo)).toArray } })
    (hsz : items.size ≤ sizeLine) : wpAny (model prog w) A (getItem (.ref t) (.ref sl)) Q E s := by
  have htake : sizeOk (.seq ((items.toList.drop (sIx items.size 0 lo)).take (sIx items.size items.size hi - sIx items.size 0 lo)).toArray) := by
    show ((items.toList.drop (sIx items.size 0 lo)).take (sIx items.size items.size hi - sIx items.size 0 lo)).toArray.size ≤ sizeLine
    rw [List.size_toArray, List.length_take, List.length_drop, Array.length_toList]
    omega
  have hj : sIx items.size items.size hi ≤ items.size := sIx_le _ _ (Nat.le_refl _) hi
  obtain ⟨os, hos, hcs, hds⟩ := id hs
  have hTs : s.TypeIs (.ref sl) "slice" := ⟨os, hos, hcs⟩
  unfold getItem
  try with_reducible refine wpAny_holding ?_
  first | refine wpAny_bind (wpAny_pure ?_) | skip
  refine wpAny_bind (wpAny_sequenceKey ht.typeIs (by decide) ?_)
  refine wpAny_bind (wpAny_callSpecial?_slot (name := Str.ofString "__getitem__") ht.typeIs PyProof.Rows.slot_tuple_getitem
    (wpAny_call_entry PyProof.Rows.slot_tuple_getitem ht.typeIs entry_tuple_getitem ?_ (args_tuple_getitem _ _)))
  show wpAny _ _ (Builtin.Tuple.tupleItemsOf (.ref t) >>= _) _ _ s
  refine wpAny_bind (tupleItemsOf_ ht ?_)
  refine wpAny_bind (wpAny_typeOf hTs ?_)
  rw [if_pos (by decide)]
  refine wpAny_bind (sliceApplied_gen hs pl pu ?_)
  have hno : ¬ ((((sIx items.size 0 lo : Nat) : Int) == 0 && (1 : Int) == 1 && (sIx items.size items.size hi - sIx items.size 0 lo) == items.size) = true) := by
    intro q
    rw [Bool.and_eq_true, Bool.and_eq_true] at q
    have q1 : ((sIx items.size 0 lo : Nat) : Int) = 0 := eq_of_beq q.1.1
    have q2 : sIx items.size items.size hi - sIx items.size 0 lo = items.size := eq_of_beq q.2
    exact hw ⟨by omega, by omega⟩
  show wpAny _ _ (if (((sIx items.size 0 lo : Nat) : Int) == 0 && (1 : Int) == 1 && (sIx items.size items.size hi - sIx items.size 0 lo) == items.size) = true then _ else _) _ _ s
  rw [if_neg hno, pick_gen]
  first
    | exact wpAny_bind (m := Builtin.Tuple.tupleExact _) (wpAny_newObj_type (wpAny_pure ⟨_, rfl, wpAny_pure h⟩) htake)
    | exact wpAny_bind (m := Builtin.Tuple.tupleExact _) (wpAny_newObj_type (wpAny_bind (wpAny_pure (wpAny_pure ⟨_, rfl, wpAny_pure h⟩))) htake)
    | exact wpAny_bind (wpAny_bind (m := Builtin.Tuple.tupleExact _) (wpAny_newObj_type (wpAny_pure (wpAny_pure ⟨_, rfl, wpAny_pure h⟩)) htake))
    | exact wpAny_bind (wpAny_bind (m := Builtin.Tuple.tupleExact _) (wpAny_newObj_type (wpAny_pure ⟨_, rfl, wpAny_pure h⟩) htake))
end
end HT

namespace L2
open PySem PySem.Spec PyProof.Rows

/-! ### the parts of a slice -/
abbrev TO := St → Hp → (Option Int → Hp → Prop) → Prop
/-- a slice's part (left out, or an int) -/
def PO (X : Cx) (e : Option Expr) (t : TO) : Prop :=
  ∀ (pins : List (Addr × Obj)) (s : Shared) (σ : St) (H : Hp) (Q : Option Int → Hp → Prop), Inv X pins σ H s → t σ H Q →
    wpAny (model X.prog X.w) X.A (evalPart e X.env) (fun u s' => ∃ o H', Inv X pins σ H' s' ∧ IsPart u o ∧ Q o H') X.xe s
def tNoPart : TO := fun _ H Q => Q none H
def tPart (t : TE) : TO := fun σ H Q => t σ H fun x H1 => ∃ i, x = .int i ∧ Q (some i) H1

theorem intsAre_of {ns : List Int} : ∀ {us : List Value}, Vals (ns.map V.int) us → IntsAre us ns := by
  induction ns with
  | nil => intro us r; rw [List.map_nil] at r; cases r; exact .nil
  | cons n ns ih =>
    intro us r
    rw [List.map_cons] at r
    cases r with
    | cons r1 r2 =>
      obtain ⟨t, e⟩ := r1
      subst e
      exact .cons n t (ih r2)

section
variable {X : Cx} {e : Expr} {te : TE} {lo hi : Option Expr} {tl th : TO} {pos p2 : Pos}

theorem po_none : PO X none tNoPart := by
  intro pins s σ H Q I h
  rw [evalPart_none]
  exact wpAny_pure ⟨none, H, I, .none, h⟩
theorem po_some (h : PE X e te) : PO X (some e) (tPart te) := by
  intro pins s σ H Q I hw
  rw [evalPart_some]
  refine thn (h pins s σ H _ I hw) fun u s1 ⟨x, H1, I1, r1, q1⟩ => ?_
  obtain ⟨i, rfl, q⟩ := q1
  obtain ⟨t, rfl⟩ := r1
  exact ⟨some i, H1, I1, .int i t, q⟩

/-- what a slice of a value is, by values: the slice object stands at sl -/
def SlR (X : Cx) (r : V → Option Int → Option Int → Hp → VK → Prop) : Prop :=
  ∀ (pins : List (Addr × Obj)) (s : Shared) (σ : St) (H : Hp) (x : V) (v vl vu : Value) (lo hi : Option Int) (sl : Addr) (Q : VK), Inv X pins σ H s → RelV x v → s.heap.IsSliceOf sl vl vu .none → IsPart vl lo → IsPart vu hi → r x lo hi H Q →
    ∃ T id, typeLookup (.type T) "__getitem__" = pure (some (.builtin id)) ∧ s.TypeIs v T ∧ wpAny (model X.prog X.w) X.A (getItem v (.ref sl)) (EP X pins σ Q) X.xe s
theorem SlR.or {r r' : V → Option Int → Option Int → Hp → VK → Prop} (h : SlR X r) (h' : SlR X r') : SlR X (fun x lo hi H Q => r x lo hi H Q ∨ r' x lo hi H Q) := by
  intro pins s σ H x v vl vu lo hi sl Q I rx hs pl pu q
  rcases q with q | q
  · exact h pins s σ H x v vl vu lo hi sl Q I rx hs pl pu q
  · exact h' pins s σ H x v vl vu lo hi sl Q I rx hs pl pu q
def tSl (r : V → Option Int → Option Int → Hp → VK → Prop) (te : TE) (tl th : TO) : TE := fun σ H Q => te σ H fun x H1 => tl σ H1 fun l H2 => th σ H2 fun u H3 => r x l u H3 Q
/-- a[lo:hi], any a -/
theorem pe_slice {r : V → Option Int → Option Int → Hp → VK → Prop} (hr : SlR X r) (he : PE X e te) (hl : PO X lo tl) (hu : PO X hi th) : PE X (.Subscript e (.Slice lo hi none p2) pos) (tSl r te tl th) := by
  intro pins s σ H Q I h
  refine Subscript_ (thn (he pins s σ H _ I h) fun v s1 ⟨x, H1, I1, r1, q1⟩ => ?_)
  refine wpAny_Slice (thn (hl pins s1 σ H1 _ I1 q1) fun vl s2 ⟨l, H2, I2, pl, q2⟩ => thn (hu pins s2 σ H2 _ I2 q2) fun vu s3 ⟨u, H3, I3, pu, q3⟩ => ?_)
  rw [evalPart_none]
  refine wpAny_pure ?_
  have I4 : Inv X pins σ H3 { s3 with heap := s3.heap.push { cls := .type "slice", data := .fields #[vl, vu, .none] } } := I3.kept (t' := s3.toks) fun b ob q => Heap.get?_push_of_some _ q
  obtain ⟨T, id, hT, ht, hg⟩ := hr pins { s3 with heap := s3.heap.push { cls := .type "slice", data := .fields #[vl, vu, .none] } } σ H3 x v vl vu l u s3.heap.objs.size Q I4 r1 (Heap.IsSliceOf.new ..) pl pu q3
  show wpAny (model X.prog X.w) X.A (subscriptTail e (.Slice lo hi none p2) v (.ref s3.heap.objs.size)) (EP X pins σ Q) X.xe { s3 with heap := s3.heap.push { cls := .type "slice", data := .fields #[vl, vu, .none] } }
  exact tail_any (ops := [.ref s3.heap.objs.size, v]) ht hT hg (by with_unfolding_all rfl)

/-- the items of xs[lo:hi] -/
def cutV (xs : List V) (lo hi : Option Int) : List V := (xs.drop (HT.sIx xs.length 0 lo)).take (HT.sIx xs.length xs.length hi - HT.sIx xs.length 0 lo)
theorem cutV_length (xs : List V) (lo hi : Option Int) : (cutV xs lo hi).length ≤ xs.length := by
  unfold cutV
  rw [List.length_take, List.length_drop]
  omega
/-- t[lo:hi], not the whole of it (the whole would be t itself) -/
def rSlT (K : PySem.W.Frag) : V → Option Int → Option Int → Hp → VK → Prop := fun x lo hi H Q => ∃ a xs, x = .ref a ∧ SqT K H a xs ∧
  ¬ (HT.sIx xs.length 0 lo = 0 ∧ HT.sIx xs.length xs.length hi = xs.length) ∧ ∀ p, H p = none → Q (.ref p) (upd H p (.tup (cutV xs lo hi)))
theorem sl_tup : SlR X (rSlT X.K) := by
  intro pins s σ H x v vl vu lo hi sl Q I rx hs pl pu h
  obtain ⟨a, xs, rfl, hx, hw, q⟩ := h
  cases rx
  obtain ⟨its, r, ht, hz⟩ := I.tuple hx
  have hlen : its.toArray.size = xs.length := by rw [List.size_toArray]; exact r.length.symm
  refine ⟨"tuple", _, PyProof.Rows.slot_tuple_getitem.lookup, ht.typeIs, ?_⟩
  refine HT.getItem_tuple_cut ht hs pl pu (by rw [hlen]; exact hw) ?_ (by rw [hlen]; exact hz)
  rw [hlen]
  refine ⟨.ref s.heap.objs.size, _, I.laid (t' := s.toks) (o := .tup (cutV xs lo hi)) (fun b ob q => Heap.get?_push_of_some _ q) (Nat.le_refl _) ?_, rfl, q _ (I.hok.fresh (Nat.le_refl _))⟩
  exact ⟨Nat.le_trans (cutV_length xs lo hi) hz, _, (r.drop (HT.sIx xs.length 0 lo)).take (HT.sIx xs.length xs.length hi - HT.sIx xs.length 0 lo), IsTup.new _ _⟩

/-! ### t < u, t + u -/
def rLtT (K : PySem.W.Frag) : R2 := fun x y H Q => ∃ a b ns ms, x = .ref a ∧ y = .ref b ∧ SqT K H a (ns.map V.int) ∧ SqT K H b (ms.map V.int) ∧ Q (.bl (HT.lexLt ns ms)) H
theorem op_ltT (hu : X.A.units < cLine) : OpR X (compareOp .Lt) (rLtT X.K) := by
  intro pins s σ H x y v u Q I rx ry h
  obtain ⟨a, b, ns, ms, rfl, rfl, ha, hb, q⟩ := h
  cases rx
  cases ry
  obtain ⟨its, r1, p1, _⟩ := I.tuple ha
  obtain ⟨its2, r2, p2, _⟩ := I.tuple hb
  have i1 : IntsAre its.toArray.toList ns := intsAre_of r1
  have i2 : IntsAre its2.toArray.toList ms := intsAre_of r2
  exact HT.lt_tupInts p1 p2 i1 i2 hu ⟨.bl (HT.lexLt ns ms), H, I, rfl, q⟩
/-- t + u, t not empty: u empty gives t itself -/
def rCatT (K : PySem.W.Frag) : R2 := fun x y H Q => ∃ a b xs ys, x = .ref a ∧ y = .ref b ∧ SqT K H a xs ∧ SqT K H b ys ∧ xs ≠ [] ∧ xs.length + ys.length ≤ sizeLine ∧
  (ys = [] → Q (.ref a) H) ∧ (ys ≠ [] → ∀ p, H p = none → Q (.ref p) (upd H p (.tup (xs ++ ys))))
theorem Vals.nil_iff {xs : List V} {us : List Value} (r : Vals xs us) : us = [] ↔ xs = [] := by
  cases r with
  | nil => simp
  | cons _ _ => simp
theorem op_catT : OpR X (binaryOp .Add) (rCatT X.K) := by
  intro pins s σ H x y v u Q I rx ry h
  obtain ⟨a, b, xs, ys, rfl, rfl, ha, hb, hx, hz, q1, q2⟩ := h
  cases rx
  cases ry
  obtain ⟨its, r1, p1, _⟩ := I.tuple ha
  obtain ⟨its2, r2, p2, _⟩ := I.tuple hb
  refine HT.cat_tup p1 p2 (fun z => hx (r1.nil_iff.mp z)) (fun z => ⟨.ref a, H, I, rfl, q1 (r2.nil_iff.mp z)⟩) (fun z => ?_) (by rw [← r1.length, ← r2.length]; exact hz)
  refine ⟨.ref s.heap.objs.size, _, I.laid (t' := s.toks) (o := .tup (xs ++ ys)) (fun b ob q => Heap.get?_push_of_some _ q) (Nat.le_refl _) ?_, rfl, q2 (fun w => z (r2.nil_iff.mpr w)) _ (I.hok.fresh (Nat.le_refl _))⟩
  exact ⟨by rw [List.length_append]; exact hz, _, r1.append r2, IsTup.new _ _⟩
/-- tuple(t) -/
theorem call_tupleT : CallR X (.type "tuple") (fun xs H Q => ∃ a ys, xs = [.ref a] ∧ SqT X.K H a ys ∧ Q (.ref a) H) := by
  intro pins s σ H xs us Q I r h
  obtain ⟨a, ys, rfl, ha, q⟩ := h
  obtain ⟨u, rfl, ru⟩ := vals1 r
  cases ru
  obtain ⟨its, _, p1, _⟩ := I.tuple ha
  exact call_tuple_same (items := its.toArray) p1 ⟨.ref a, H, I, rfl, q⟩
end
end L2

namespace L2
open PySem PySem.Spec PyProof.Rows

/-! ### places -/
/-- the place that an index of any sign means -/
def ixN (n : Nat) (i : Int) : Option Nat := if 0 ≤ i then (if i < n then some i.toNat else none) else if -(n : Int) ≤ i then some (i + n).toNat else none
def atI {α : Type} (xs : List α) (i : Int) : Option α := (ixN xs.length i).bind fun j => xs[j]?
theorem ixN_seq {n : Nat} {i : Int} {j : Nat} (h : ixN n i = some j) : seqIndex? i n = some j ∧ j < n ∧ -(n : Int) ≤ i ∧ i < n := by
  unfold ixN at h
  by_cases h0 : 0 ≤ i
  · rw [if_pos h0] at h
    by_cases h1 : i < n
    · rw [if_pos h1] at h
      have e : i.toNat = j := Option.some.inj h
      exact ⟨by rw [seqIndex_of h0 h1, e], by omega, by omega, h1⟩
    · rw [if_neg h1] at h; cases h
  · rw [if_neg h0] at h
    by_cases h1 : -(n : Int) ≤ i
    · rw [if_pos h1] at h
      have e : (i + n).toNat = j := Option.some.inj h
      exact ⟨by rw [seqIndex_neg (by omega) h1, e], by omega, h1, by omega⟩
    · rw [if_neg h1] at h; cases h
theorem atI_get {α : Type} {xs : List α} {i : Int} {v : α} (h : atI xs i = some v) : ∃ j, seqIndex? i xs.length = some j ∧ xs[j]? = some v ∧ j < xs.length ∧ -(xs.length : Int) ≤ i ∧ i < xs.length := by
  unfold atI at h
  cases e : ixN xs.length i with
  | none => rw [e] at h; cases h
  | some j =>
    rw [e] at h
    obtain ⟨h1, h2, h3, h4⟩ := ixN_seq e
    exact ⟨j, h1, h, h2, h3, h4⟩
theorem atI_nat {α : Type} {xs : List α} {j : Nat} {v : α} (h : xs[j]? = some v) : atI xs (j : Int) = some v := by
  have hj : j < xs.length := (List.getElem?_eq_some_iff.mp h).1
  have e : ixN xs.length (j : Int) = some j := by
    unfold ixN
    rw [if_pos (by omega), if_pos (by omega)]; simp
  unfold atI; rw [e]; exact h
theorem atI_last {α : Type} (xs : List α) (v : α) : atI (xs ++ [v]) (-1) = some v := by
  have hl : (xs ++ [v]).length = xs.length + 1 := by simp
  have e : ixN (xs ++ [v]).length (-1) = some xs.length := by
    unfold ixN
    rw [hl, if_neg (by decide), if_pos (by omega)]
    congr 1
    omega
  unfold atI
  rw [e]
  show (xs ++ [v])[xs.length]? = some v
  simp

/-! ### what may be subscripted -/
/-- what stands as an index of a plain subscript -/
def PlainIx (b : Expr) : Prop := ∀ o i, subscripted b false o i = operate [o, i] (getItem o i)
/-- a subscript by values -/
def IxR (X : Cx) (r : R2) : Prop :=
  ∀ (value slice : Expr) (pins : List (Addr × Obj)) (s : Shared) (σ : St) (H : Hp) (x y : V) (v u : Value) (Q : VK), Inv X pins σ H s → RelV x v → RelV y u → r x y H Q →
    subscripted slice false v u = operate [v, u] (getItem v u) → wpAny (model X.prog X.w) X.A (subscriptTail value slice v u) (EP X pins σ Q) X.xe s
/-- a call of a builtin's method by values: the receiver, the arguments -/
def MtR (X : Cx) (id : String) (r : V → List V → Hp → VK → Prop) : Prop :=
  ∀ (pins : List (Addr × Obj)) (s : Shared) (σ : St) (H : Hp) (x : V) (xs : List V) (v : Value) (us : List Value) (Q : VK), Inv X pins σ H s → RelV x v → Vals xs us → r x xs H Q →
    wpAny (model X.prog X.w) X.A (call (.builtin id) (v :: us)) (EP X pins σ Q) X.xe s
section
variable {X : Cx} {a b : Expr} {ta tb : TE} {pos : Pos}
theorem IxR.or {r r' : R2} (h : IxR X r) (h' : IxR X r') : IxR X (fun x y H Q => r x y H Q ∨ r' x y H Q) := by
  intro value slice pins s σ H x y v u Q I rx ry q hs
  rcases q with q | q
  · exact h value slice pins s σ H x y v u Q I rx ry q hs
  · exact h' value slice pins s σ H x y v u Q I rx ry q hs
theorem MtR.or {id : String} {r r' : V → List V → Hp → VK → Prop} (h : MtR X id r) (h' : MtR X id r') : MtR X id (fun x xs H Q => r x xs H Q ∨ r' x xs H Q) := by
  intro pins s σ H x xs v us Q I rx rs q
  rcases q with q | q
  · exact h pins s σ H x xs v us Q I rx rs q
  · exact h' pins s σ H x xs v us Q I rx rs q
/-- a[b] -/
theorem pe_ix {r : R2} (hr : IxR X r) (ha : PE X a ta) (hb : PE X b tb) (hs : PlainIx b) : PE X (.Subscript a b pos) (tOp r ta tb) := by
  intro pins s σ H Q I h
  exact Subscript_ (binT ha hb I h fun v u s2 x y H2 I2 rx ry q => hr a b pins s2 σ H2 x y v u Q I2 rx ry q (hs _ _))

def rIxL (K : PySem.W.Frag) : R2 := fun x y H Q => ∃ p xs i v, x = .ref p ∧ y = .int i ∧ SqL K H p xs ∧ atI xs i = some v ∧ Q v H
def rIxT (K : PySem.W.Frag) : R2 := fun x y H Q => ∃ p xs i v, x = .ref p ∧ y = .int i ∧ SqT K H p xs ∧ atI xs i = some v ∧ Q v H
def rIxS : R2 := fun x y H Q => ∃ z i c, x = .str z ∧ y = .int i ∧ z.length ≤ sizeLine ∧ atI z.cps.toList i = some c ∧ Q (.str ⟨#[c]⟩) H
theorem ix_list : IxR X (rIxL X.K) := by
  intro value slice pins s σ H x y v u Q I rx ry h hs
  obtain ⟨p, xs, i, z, rfl, rfl, hq, he, q⟩ := h
  cases rx
  obtain ⟨t, rfl⟩ := ry
  obtain ⟨its, r, pl, hz⟩ := I.list hq
  obtain ⟨j, h1, h2, h3, h4, h5⟩ := atI_get he
  obtain ⟨w, ew, rw'⟩ := r.get h2
  have hl := r.length
  have hn := line63
  have fin : EP X pins σ Q w s := ⟨z, H, I, rw', q⟩
  by_cases h0 : 0 ≤ i
  · have hj : i.toNat = j := by
      rw [seqIndex_of h0 h5] at h1
      exact Option.some.inj h1
    exact item_listR pl.isList h0 (by omega) (by rw [hj]; simpa using ew) fin hs
  · have hj : (i + (its.toArray.size : Int)).toNat = j := by
      rw [seqIndex_neg (by omega) h4] at h1
      rw [List.size_toArray, ← hl]
      exact Option.some.inj h1
    exact subscriptTail_builtinR (x := w) pl.isList.typeIs slot_list_getitem.lookup
      (wpAny_getItem_list_neg (Q := fun r s' => r = w ∧ EP X pins σ Q r s') pl.isList (by omega) (by rw [List.size_toArray] <;> omega) (by omega) (by rw [hj]; simpa using ew) ⟨rfl, fin⟩) hs
theorem ix_tup : IxR X (rIxT X.K) := by
  intro value slice pins s σ H x y v u Q I rx ry h hs
  obtain ⟨p, xs, i, z, rfl, rfl, hq, he, q⟩ := h
  cases rx
  obtain ⟨t, rfl⟩ := ry
  obtain ⟨its, r, pl, hz⟩ := I.tuple hq
  obtain ⟨j, h1, h2, h3, h4, h5⟩ := atI_get he
  obtain ⟨w, ew, rw'⟩ := r.get h2
  have hl := r.length
  have hn := line63
  have fin : EP X pins σ Q w s := ⟨z, H, I, rw', q⟩
  exact subscriptTail_builtinR (x := w) pl.typeIs slot_tuple_getitem.lookup
    (getItem_tuple (j := j) (Q := fun r s' => r = w ∧ EP X pins σ Q r s') pl (by omega) (by omega) (by rw [List.size_toArray, ← hl]; exact h1) (by simpa using ew) ⟨rfl, fin⟩) hs
theorem ix_str : IxR X rIxS := by
  intro value slice pins s σ H x y v u Q I rx ry h hs
  obtain ⟨z, i, c, rfl, rfl, hz, he, q⟩ := h
  obtain ⟨t, rfl⟩ := rx
  obtain ⟨t', rfl⟩ := ry
  obtain ⟨j, h1, h2, h3, h4, h5⟩ := atI_get he
  have hl : z.cps.toList.length = z.length := by simp [Str.length]
  rw [hl] at h1 h4 h5
  have hn := line63
  exact tail_any (typeIs_str s z t) slot_str_getitem.lookup (getItem_str (c := c) (by
    have e1 : decide (i < -(2 ^ 63 : Int)) = false := decide_eq_false (by omega)
    have e2 : decide (i ≥ 2 ^ 63) = false := decide_eq_false (by omega)
    rw [e1, e2, Bool.or_false]) (by rw [h1]; simpa using h2) ⟨.str ⟨#[c]⟩, H, I.tok _, ⟨_, rfl⟩, q⟩) hs
/-- list, tuple or str -/
def rIx (K : PySem.W.Frag) : R2 := fun x y H Q => rIxL K x y H Q ∨ rIxT K x y H Q ∨ rIxS x y H Q
theorem ix_seq : IxR X (rIx X.K) := ix_list.or (ix_tup.or ix_str)

/-! ### xs[i] = v, any sign -/
/-- the list's object behind a store -/
theorem mapSeq_set (its : List Value) (n j : Nat) (u : Value) : Obj.mapSeq (·.setIfInBounds j u) { cls := .type "list", data := .seq its.toArray n } = { cls := .type "list", data := .seq (its.set j u).toArray n } := by
  simp [Obj.mapSeq]
theorem Inv.lst {pins : List (Addr × Obj)} {σ : St} {H : Hp} {s : Shared} {p : Addr} {xs : List V} (I : Inv X pins σ H s) (h : H p = some (.lst xs)) :
    ∃ (its : List Value) (n : Nat), Vals xs its ∧ s.heap.get? p = some { cls := .type "list", data := .seq its.toArray n } ∧ xs.length ≤ sizeLine := by
  obtain ⟨z, its, n, r, e⟩ := I.hok p _ h
  exact ⟨its, n, r, e, z⟩
/-- the list at p is written by an update of its object -/
theorem Inv.lstUpd {pins : List (Addr × Obj)} {σ : St} {H : Hp} {s : Shared} {p : Addr} {xs ys : List V} {its its' : List Value} {n n' : Nat} {f : Obj → Obj} (I : Inv X pins σ H s) (h : H p = some (.lst xs))
    (ho : s.heap.get? p = some { cls := .type "list", data := .seq its.toArray n }) (hf : f { cls := .type "list", data := .seq its.toArray n } = { cls := .type "list", data := .seq its'.toArray n' }) (r : Vals ys its') (hz : ys.length ≤ sizeLine) (t : Nat) :
    Inv X pins σ (upd H p (.lst ys)) { s with heap := s.heap.update p f, toks := t } := by
  have e : (s.heap.update p f).get? p = some { cls := .type "list", data := .seq its'.toArray n' } := by
    rw [Heap.get?_update_self f ho (by rw [hf] <;> rfl), hf]
  refine I.write (x := p) (e := p) (by rw [h]; trivial) (.inl rfl) (fun b u hb q => (Heap.get?_update_other _ _ (Ne.symm hb)).trans q) ⟨_, e⟩ ?_
  exact ⟨hz, its', n', r, e⟩
def rSetL : V → V → V → Hp → (Hp → Prop) → Prop := fun o i v H Q => ∃ p xs k j, o = .ref p ∧ i = .int k ∧ H p = some (.lst xs) ∧ ixN xs.length k = some j ∧ Q (upd H p (.lst (xs.set j v)))
theorem set_list : PSet X rSetL := by
  intro pins s σ H o i v ov iv u Q I ro ri rv h
  obtain ⟨p, xs, k, j, rfl, rfl, hp, hj, q⟩ := h
  cases ro
  obtain ⟨t, rfl⟩ := ri
  obtain ⟨its, n, r, ho, hz⟩ := I.lst hp
  obtain ⟨h1, h2, h3, h4⟩ := ixN_seq hj
  have hl := r.length
  have hn := line63
  have I' : Inv X pins σ (upd H p (.lst (xs.set j v))) { s with heap := s.heap.update p (Obj.mapSeq (·.setIfInBounds j u)) } :=
    I.lstUpd hp ho (mapSeq_set its n j u) (r.set rv j) (by rw [List.length_set]; exact hz) s.toks
  by_cases h0 : 0 ≤ k
  · have hk : k.toNat = j := by
      rw [seqIndex_of h0 h4] at h1
      exact Option.some.inj h1
    exact PySem.W.ki_setAt ho h0 (by omega) (by rw [List.size_toArray, ← hl]; exact h4) (by rw [hk]; exact ⟨_, I', q⟩)
  · have hk : (k + (its.toArray.size : Int)).toNat = j := by
      rw [seqIndex_neg (by omega) h3] at h1
      rw [List.size_toArray, ← hl]
      exact Option.some.inj h1
    exact PySem.W.ki_setBack ho (by omega) (by rw [List.size_toArray, ← hl]; exact h3) (by omega) (by rw [hk]; exact ⟨_, I', q⟩)

/-! ### slices -/
theorem slice_bounds (lo hi : Option Int) (n : Nat) : (sliceBounds lo hi none n).1 = ((HT.sIx n 0 lo : Nat) : Int) ∧ (sliceBounds lo hi none n).2.1 = ((HT.sIx n n hi : Nat) : Int) ∧ (sliceBounds lo hi none n).2.2 = 1 := by
  refine ⟨?_, ?_, rfl⟩
  · cases lo with
    | none => simp [sliceBounds, HT.sIx]
    | some i =>
      simp only [sliceBounds, HT.sIx, Option.getD_none, show (1 : Int) > 0 by decide, if_true]
      by_cases h : i < 0
      · simp only [h, if_true] <;> omega
      · simp only [h, if_false] <;> omega
  · cases hi with
    | none => simp [sliceBounds, HT.sIx]
    | some i =>
      simp only [sliceBounds, HT.sIx, Option.getD_none, show (1 : Int) > 0 by decide, if_true]
      by_cases h : i < 0
      · simp only [h, if_true] <;> omega
      · simp only [h, if_false] <;> omega
theorem slicePick_cut (its : List Value) (lo hi : Option Int) : slicePick its.toArray lo hi none = ((its.drop (HT.sIx its.length 0 lo)).take (HT.sIx its.length its.length hi - HT.sIx its.length 0 lo)).toArray := by
  obtain ⟨h1, h2, h3⟩ := slice_bounds lo hi its.toArray.size
  unfold slicePick
  rw [h1, h2, h3]
  simp only [sliceRange_one, pick_run, List.size_toArray] <;> rfl
/-- xs[lo:hi] of a list: a new list -/
def rSlL (K : PySem.W.Frag) : V → Option Int → Option Int → Hp → VK → Prop := fun x lo hi H Q => ∃ a xs, x = .ref a ∧ SqL K H a xs ∧ ∀ p, H p = none → Q (.ref p) (upd H p (.lst (cutV xs lo hi)))
theorem sl_list : SlR X (rSlL X.K) := by
  intro pins s σ H x v vl vu lo hi sl Q I rx hs pl pu h
  obtain ⟨a, xs, rfl, hx, q⟩ := h
  cases rx
  obtain ⟨its, r, ht, hz⟩ := I.list hx
  have hlen := r.length
  refine ⟨"list", _, slot_list_getitem.lookup, ht.isList.typeIs, ?_⟩
  refine wpAny_getItem_list_slice ht.isList hs pl pu .none (by simp) ?_ (by rw [List.size_toArray] <;> omega)
  rw [slicePick_cut, ← hlen]
  refine ⟨.ref s.heap.objs.size, _, I.laid (t' := s.toks) (o := .lst (cutV xs lo hi)) (fun b ob q => Heap.get?_push_of_some _ q) (Nat.le_refl _) ?_, rfl, q _ (I.hok.fresh (Nat.le_refl _))⟩
  exact ⟨Nat.le_trans (cutV_length xs lo hi) hz, _, 0, (r.drop (HT.sIx xs.length 0 lo)).take (HT.sIx xs.length xs.length hi - HT.sIx xs.length 0 lo), Heap.get?_push_size _ rfl⟩

/-! ### in, not in: flat items -/
def flatV : V → Bool
  | .non => true
  | .bl _ => true
  | .int _ => true
  | .str _ => true
  | _ => false
/-- == of flat values -/
def eqV : V → V → Bool
  | .non, .non => true
  | .bl a, .bl b => a == b
  | .bl a, .int b => (if a then 1 else 0) == b
  | .int a, .bl b => a == (if b then 1 else 0)
  | .int a, .int b => a == b
  | .str a, .str b => a == b
  | _, _ => false
theorem eqAt_V {A : Around} {s : Shared} {y x : V} {u v : Value} (ry : RelV y u) (rx : RelV x v) (fy : flatV y = true) (fx : flatV x = true) : SeqAt.EqAt A s u v (eqV y x) := by
  cases y with
  | non =>
    cases ry
    cases x with
    | non => cases rx; exact SeqAt.EqAt.same _
    | bl b => cases rx; exact SeqAt.EqAt.none_bool b
    | int b => obtain ⟨t, rfl⟩ := rx; exact SeqAt.EqAt.none_int b t
    | str b => obtain ⟨t, rfl⟩ := rx; exact SeqAt.EqAt.none_str b t
    | _ => exact absurd (show false = true from fx) Bool.false_ne_true
  | bl a =>
    cases ry
    cases x with
    | non => cases rx; exact SeqAt.EqAt.bool_none a
    | bl b => cases rx; exact SeqAt.EqAt.bool_bool a b
    | int b => obtain ⟨t, rfl⟩ := rx; exact SeqAt.EqAt.bool_int a b t
    | str b => obtain ⟨t, rfl⟩ := rx; exact SeqAt.EqAt.bool_str a b t
    | _ => exact absurd (show false = true from fx) Bool.false_ne_true
  | int a =>
    obtain ⟨t', rfl⟩ := ry
    cases x with
    | non => cases rx; exact SeqAt.EqAt.int_none a t'
    | bl b => cases rx; exact SeqAt.EqAt.int_bool a t' b
    | int b => obtain ⟨t, rfl⟩ := rx; exact SeqAt.EqAt.int_int a t' b t
    | str b => obtain ⟨t, rfl⟩ := rx; exact SeqAt.EqAt.int_str a t' b t
    | _ => exact absurd (show false = true from fx) Bool.false_ne_true
  | str a =>
    obtain ⟨t', rfl⟩ := ry
    cases x with
    | non => cases rx; exact SeqAt.EqAt.str_none a t'
    | bl b => cases rx; exact SeqAt.EqAt.str_bool a t' b
    | int b => obtain ⟨t, rfl⟩ := rx; exact SeqAt.EqAt.str_int a t' b t
    | str b => obtain ⟨t, rfl⟩ := rx; exact SeqAt.EqAt.str_str a t' b t
    | _ => exact absurd (show false = true from fx) Bool.false_ne_true
  | _ => exact absurd (show false = true from fy) Bool.false_ne_true
/-- the items' answers, read off the values (a value's own answer does not lean on its token) -/
def eqU (x : V) (u : Value) : Bool := match u with
  | .none => eqV .non x
  | .bool b => eqV (.bl b) x
  | .int i _ => eqV (.int i) x
  | .str z _ => eqV (.str z) x
  | _ => false
theorem eqU_of {x y : V} {u : Value} (r : RelV y u) (f : flatV y = true) : eqU x u = eqV y x := by
  cases y with
  | non => cases r; rfl
  | bl b => cases r; rfl
  | int i => obtain ⟨t, rfl⟩ := r; rfl
  | str z => obtain ⟨t, rfl⟩ := r; rfl
  | _ => exact absurd (show false = true from f) Bool.false_ne_true
theorem any_eqU {x : V} : ∀ {xs : List V} {us : List Value}, Vals xs us → xs.all flatV = true → us.any (eqU x) = xs.any fun y => eqV y x
  | _, _, .nil, _ => rfl
  | y :: xs, u :: us, .cons r t, f => by
    rw [List.all_cons, Bool.and_eq_true] at f
    rw [List.any_cons, List.any_cons, eqU_of r f.1, any_eqU t f.2]
theorem mem_eqAt {A : Around} {s : Shared} {x : V} {v : Value} (rx : RelV x v) (fx : flatV x = true) : ∀ {xs : List V} {us : List Value}, Vals xs us → xs.all flatV = true → ∀ u ∈ us, SeqAt.EqAt A s u v (eqU x u)
  | _, _, .nil, _ => fun u hu => by cases hu
  | y :: xs, u :: us, .cons r t, f => fun u' hu => by
    rw [List.all_cons, Bool.and_eq_true] at f
    rcases List.mem_cons.mp hu with rfl | hu
    · rw [eqU_of r f.1]; exact eqAt_V r rx f.1 fx
    · exact mem_eqAt rx fx t f.2 u' hu
def inV (x : V) (xs : List V) : Bool := xs.any fun y => eqV y x
/-- x in a list or tuple of flat items -/
def rIn (K : PySem.W.Frag) (neg : Bool) : R2 := fun x y H Q => ∃ p xs, y = .ref p ∧ (SqL K H p xs ∨ SqT K H p xs) ∧ flatV x = true ∧ xs.all flatV = true ∧ Q (.bl (if neg then !inV x xs else inV x xs)) H
theorem op_in_seq : OpR X (compareOp .In) (rIn X.K false) := by
  intro pins s σ H x y v u Q I rx ry h
  obtain ⟨p, xs, rfl, hq, fx, fs, q⟩ := h
  cases ry
  rcases hq with hq | hq
  · obtain ⟨its, r, pl, hz⟩ := I.list hq
    refine SeqAt.in_listAt (eqU x) pl.isList (fun w hw => mem_eqAt rx fx r fs w (by simpa using hw)) ⟨.bl _, H, I, rfl, ?_⟩
    rw [show its.toArray.any (eqU x) = its.any (eqU x) by simp, any_eqU r fs]
    exact q
  · obtain ⟨its, r, pl, hz⟩ := I.tuple hq
    refine SeqAt.in_tupleAt (eqU x) pl (fun w hw => mem_eqAt rx fx r fs w (by simpa using hw)) ⟨.bl _, H, I, rfl, ?_⟩
    rw [show its.toArray.any (eqU x) = its.any (eqU x) by simp, any_eqU r fs]
    exact q
theorem op_notIn_seq : OpR X (compareOp .NotIn) (rIn X.K true) := by
  intro pins s σ H x y v u Q I rx ry h
  obtain ⟨p, xs, rfl, hq, fx, fs, q⟩ := h
  cases ry
  rcases hq with hq | hq
  · obtain ⟨its, r, pl, hz⟩ := I.list hq
    refine SeqAt.notIn_listAt (eqU x) pl.isList (fun w hw => mem_eqAt rx fx r fs w (by simpa using hw)) ⟨.bl _, H, I, rfl, ?_⟩
    rw [show its.toArray.any (eqU x) = its.any (eqU x) by simp, any_eqU r fs]
    exact q
  · obtain ⟨its, r, pl, hz⟩ := I.tuple hq
    refine SeqAt.notIn_tupleAt (eqU x) pl (fun w hw => mem_eqAt rx fx r fs w (by simpa using hw)) ⟨.bl _, H, I, rfl, ?_⟩
    rw [show its.toArray.any (eqU x) = its.any (eqU x) by simp, any_eqU r fs]
    exact q
theorem op_notIn_str : OpR X (compareOp .NotIn) (fun x y H Q => ∃ i j, x = .str i ∧ y = .str j ∧ Q (.bl (!(!(Builtin.Str.occurrences j i 0 j.length 1).isEmpty))) H) := by
  intro pins s σ H x y v u Q I rx ry h
  obtain ⟨i, j, rfl, rfl, q⟩ := h
  obtain ⟨t, rfl⟩ := rx
  obtain ⟨t', rfl⟩ := ry
  exact notIn_str ⟨.bl _, H, I, rfl, q⟩

/-! ### len, list(x), tuple(x) of any list or tuple that is read -/
theorem call_len_seq : CallR X (.builtin "len") (fun xs H Q => ∃ p ys, xs = [.ref p] ∧ (SqL X.K H p ys ∨ SqT X.K H p ys) ∧ Q (.int ys.length) H) := by
  intro pins s σ H xs us Q I r h
  obtain ⟨p, ys, rfl, hq, q⟩ := h
  obtain ⟨u, rfl, rx⟩ := vals1 r
  cases rx
  have hn := line63
  rcases hq with hq | hq
  · obtain ⟨its, r', pl, hz⟩ := I.list hq
    have hlen := r'.length
    exact Calls.call_len_list pl.isList (by simp only [List.size_toArray] <;> omega) ⟨.int ys.length, H, I.tok _, ⟨s.toks + 1, by rw [List.size_toArray, hlen]⟩, q⟩
  · obtain ⟨its, r', pl, hz⟩ := I.tuple hq
    have hlen := r'.length
    exact len_tuple pl (by simp only [List.size_toArray] <;> omega) ⟨.int ys.length, H, I.tok _, ⟨s.toks + 1, by rw [List.size_toArray, hlen]⟩, q⟩
theorem call_len_str : CallR X (.builtin "len") (fun xs H Q => ∃ z, xs = [.str z] ∧ z.length ≤ sizeLine ∧ Q (.int z.length) H) := by
  intro pins s σ H xs us Q I r h
  obtain ⟨z, rfl, hz, q⟩ := h
  obtain ⟨u, rfl, t, rfl⟩ := vals1 r
  have hn := line63
  exact len_str (by omega) ⟨.int z.length, H, I.tok _, ⟨_, rfl⟩, q⟩
theorem CallR.or {f : Value} {r r' : List V → Hp → VK → Prop} (h : CallR X f r) (h' : CallR X f r') : CallR X f (fun xs H Q => r xs H Q ∨ r' xs H Q) := by
  intro pins s σ H xs us Q I rs q
  rcases q with q | q
  · exact h pins s σ H xs us Q I rs q
  · exact h' pins s σ H xs us Q I rs q
theorem call_list_of : CallR X (.type "list") (fun xs H Q => ∃ p ys, xs = [.ref p] ∧ (SqL X.K H p ys ∨ SqT X.K H p ys) ∧ ∀ l, H l = none → Q (.ref l) (upd H l (.lst ys))) := by
  intro pins s σ H xs us Q I r h
  obtain ⟨p, ys, rfl, hq, q⟩ := h
  obtain ⟨u, rfl, rx⟩ := vals1 r
  cases rx
  have fin : ∀ (its : List Value), Vals ys its → ys.length ≤ sizeLine → ∀ (h' : Heap) (c' : Nat), (∀ b o', s.heap.get? b = some o' → h'.get? b = some o') →
      h'.get? s.heap.objs.size = some { cls := .type "list", dict := none, data := .seq its.toArray c', slots := #[] } → EP X pins σ Q (.ref s.heap.objs.size) { s with heap := h' } := fun its r' hz h' c' kp e =>
    ⟨.ref s.heap.objs.size, _, I.laid (t' := s.toks) kp (Nat.le_refl _) (show ObjOk X.prog X.w _ h' _ (.lst ys) from ⟨hz, its, c', r', e⟩), rfl, q _ (I.hok.fresh (Nat.le_refl _))⟩
  rcases hq with hq | hq
  · obtain ⟨its, r', pl, hz⟩ := I.list hq
    have hlen := r'.length
    obtain ⟨o, ho, hc, n, hd⟩ := pl.isList
    exact call_list_seq p (.inl rfl) ho hc hd (fun h' c' kp e => fin its r' hz h' c' kp e) (by simp only [List.size_toArray] <;> omega)
  · obtain ⟨its, r', pl, hz⟩ := I.tuple hq
    have hlen := r'.length
    obtain ⟨o, ho, hc, n, hd⟩ := pl
    exact call_list_seq p (.inr rfl) ho hc hd (fun h' c' kp e => fin its r' hz h' c' kp e) (by simp only [List.size_toArray] <;> omega)
theorem call_tuple_of : CallR X (.type "tuple") (fun xs H Q => ∃ p ys, xs = [.ref p] ∧ ((SqL X.K H p ys ∧ ∀ l, H l = none → Q (.ref l) (upd H l (.tup ys))) ∨ (SqT X.K H p ys ∧ Q (.ref p) H))) := by
  intro pins s σ H xs us Q I r h
  obtain ⟨p, ys, rfl, h⟩ := h
  obtain ⟨u, rfl, rx⟩ := vals1 r
  cases rx
  rcases h with ⟨hq, q⟩ | ⟨hq, q⟩
  · obtain ⟨its, r', pl, hz⟩ := I.list hq
    have hlen := r'.length
    refine call_tuple_list pl.isList (fun h' kp => ?_) (by simp only [List.size_toArray] <;> omega)
    have I1 : Inv X pins σ H { s with heap := h' } := I.kept (t' := s.toks) kp
    have I2 : Inv X pins σ (upd H h'.objs.size (.tup ys)) { s with heap := h'.push { cls := .type "tuple", data := .seq its.toArray } } :=
      I1.laid (t' := s.toks) (fun b o e => Heap.get?_push_of_some _ e) (Nat.le_refl _) (show ObjOk X.prog X.w _ _ _ (.tup ys) from ⟨hz, its, r', IsTup.new _ _⟩)
    exact ⟨.ref h'.objs.size, _, I2, rfl, q _ (I1.hok.fresh (Nat.le_refl _))⟩
  · obtain ⟨its, r', pl, hz⟩ := I.tuple hq
    exact call_tuple_same pl ⟨.ref p, H, I, rfl, q⟩

/-! ### the call of a builtin's method: o.m(..) -/
/-- the value is of that builtin type -/
def tyV (K : PySem.W.Frag) (T : String) (x : V) (H : Hp) : Prop := match x with
  | .str _ => T = "str"
  | .int _ => T = "int"
  | .ref p => (T = "list" ∧ ∃ xs, SqL K H p xs) ∨ (T = "tuple" ∧ ∃ o, K.lookup p = some o ∧ o.cls = .type "tuple" ∧ o.dict = none) ∨
      (T = "dict" ∧ ((∃ kvs, H p = some (.dK kvs)) ∨ ∃ kvs, H p = some (.dT kvs))) ∨ (T = "set" ∧ ∃ S n, H p = some (.set S n))
  | _ => False
theorem tyV_is {pins : List (Addr × Obj)} {σ : St} {H : Hp} {s : Shared} {T : String} {x : V} {v : Value} (I : Inv X pins σ H s) (r : RelV x v) (ty : tyV X.K T x H) :
    s.TypeIs v T ∧ ∀ a, v = .ref a → ∃ ob, s.heap.get? a = some ob ∧ ob.dict = none := by
  cases x with
  | str z =>
    obtain ⟨t, rfl⟩ := r
    cases (show T = "str" from ty)
    exact ⟨typeIs_str s z t, fun _ e => nomatch e⟩
  | int i =>
    obtain ⟨t, rfl⟩ := r
    cases (show T = "int" from ty)
    exact ⟨typeIs_int s i t, fun _ e => nomatch e⟩
  | ref p =>
    cases r
    rcases ty with ⟨rfl, xs, hq⟩ | ⟨rfl, o, hk, hc, hd⟩ | ⟨rfl, hk⟩ | ⟨rfl, S, n, hk⟩
    · obtain ⟨its, _, pl, _⟩ := I.list hq
      refine ⟨pl.isList.typeIs, fun a e => ?_⟩
      cases e
      obtain ⟨o, n, e, c, hd, _⟩ := pl
      exact ⟨o, e, hd⟩
    · refine ⟨⟨o, I.kIn p o hk, hc⟩, fun a e => ?_⟩
      cases e
      exact ⟨o, I.kIn _ o hk, hd⟩
    · have z : ∃ o, s.heap.get? p = some o ∧ o.ExactDict := by
        rcases hk with ⟨kvs, hk⟩ | ⟨kvs, hk⟩
        · obtain ⟨_, _, _, _, o, _, _, e, ex, _⟩ := I.hok p _ hk
          exact ⟨o, e, ex⟩
        · obtain ⟨_, _, _, _, o, _, _, e, ex, _⟩ := I.hok p _ hk
          exact ⟨o, e, ex⟩
      obtain ⟨o, e, ex⟩ := z
      refine ⟨⟨o, e, ex.1⟩, fun a e2 => ?_⟩
      cases e2
      exact ⟨o, e, ex.2.1⟩
    · obtain ⟨o, _, _, _, e, ex, _⟩ := I.hok p _ hk
      refine ⟨⟨o, e, ex.1⟩, fun a e2 => ?_⟩
      cases e2
      exact ⟨o, e, ex.2.1⟩
  | _ => exact False.elim ty
def tBM0 (K : PySem.W.Frag) (T : String) (r : V → List V → Hp → VK → Prop) (to : TE) : TE := fun σ H Q => to σ H fun x H1 => tyV K T x H1 ∧ r x [] H1 Q
def tBM (K : PySem.W.Frag) (T : String) (r : V → List V → Hp → VK → Prop) (to : TE) (t : TA) : TE := fun σ H Q => to σ H fun x H1 => tyV K T x H1 ∧ t σ H1 fun xs H2 => r x xs H2 Q
variable {o e : Expr} {es : List Expr} {to : TE} {t : TA} {name : Str} {apos cpos : Pos} {T id : String} {r : V → List V → Hp → VK → Prop}
theorem pe_bm0 (pa : PlainAttrs T) (slot : Slot T name id) (hty : typeOf (.builtin id) = pure (.type "method_descriptor")) (hm : MtR X id r) (ho : PE X o to)
    (hbase : attributeBase o name X.env (eval o X.env) = eval o X.env := by rfl) (hline : (apos.endLine == cpos.line) = true := by rfl) : PE X (.Call (.Attribute o name apos) [] [] cpos) (tBM0 X.K T r to) := by
  intro pins s σ H Q I h
  refine wpAny_Call_method0_late hbase hline (thn (ho pins s σ H _ I h) fun v s1 ⟨x, H1, I1, r1, ty, q1⟩ => ?_)
  obtain ⟨h1, h2⟩ := tyV_is I1 r1 ty
  exact ⟨T, id, pa, slot, hty, h1, h2, Calls.callWith_builtin rfl (PySem.evalArgs_none (hm pins s1 σ H1 x [] v [] Q I1 r1 .nil q1))⟩
theorem pe_bm (pa : PlainAttrs T) (slot : Slot T name id) (hty : typeOf (.builtin id) = pure (.type "method_descriptor")) (hm : MtR X id r) (ho : PE X o to) (ha : PA X (e :: es) t)
    (hbase : attributeBase o name X.env (eval o X.env) = eval o X.env := by rfl)
    (hfew : ((backTo cpos (starEach (e :: es) X.env)).all (fun x => !x.1) && (backToKw cpos (keywordEach [] X.env)).all (fun x => x.1.isSome)
      && decide ((e :: es).length + ([] : List Keyword).length + (if ([] : List Keyword).isEmpty then 0 else 1) < 30)) = true := by rfl)
    (hline : (apos.endLine == cpos.line) = true := by rfl) (hs : starEach (e :: es) X.env = (false, eval e X.env) :: starEach es X.env := by rfl) (hplain : (backTo cpos (starEach es X.env)).any (·.1) = false := by rfl) :
    PE X (.Call (.Attribute o name apos) (e :: es) [] cpos) (tBM X.K T r to t) := by
  intro pins s σ H Q I h
  refine wpAny_Call_method_late hbase hfew hline rfl (thn (ho pins s σ H _ I h) fun v s1 ⟨x, H1, I1, r1, ty, q1⟩ => ?_)
  obtain ⟨h1, h2⟩ := tyV_is I1 r1 ty
  refine ⟨T, id, pa, slot, hty, h1, h2, ?_⟩
  have hA := ha cpos pins s1 σ H1 _ I1 q1
  rw [hs] at hA ⊢
  refine Calls.callWith_builtin (by show (false || (backTo cpos (starEach es X.env)).any (·.1)) = false; rw [hplain] <;> rfl) (Calls.evalArgs_plain ?_)
  exact thn hA fun us s2 ⟨vs, H2, I2, r2, q2⟩ => hm pins s2 σ H2 x vs v us Q I2 r1 r2 q2
/- xs.append(e), list.index on a module's tuple .. are MtR facts of 06m -/
end
end L2

namespace L2
open PySem PySem.Spec PyProof.Rows

def MtM (X : Cx) (id : String) (r : V → List V → Hp → VK → Prop) : Prop :=
  ∀ (pins : List (Addr × Obj)) (s : Shared) (σ : St) (H : Hp) (x : V) (xs : List V) (v : Value) (us : List Value) (Q : VK), Inv X pins σ H s → RelV x v → Vals xs us → r x xs H Q →
    wpAny (model X.prog X.w) X.A (call (.builtin id) (v :: us)) (EP X pins σ Q) X.xe s

/-! ### lists of values -/
theorem Vals.one : ∀ {x : V} {us : List Value}, Vals [x] us → ∃ u, us = [u] ∧ RelV x u
  | _, _, .cons r .nil => ⟨_, rfl, r⟩
theorem Vals.two : ∀ {x y : V} {us : List Value}, Vals [x, y] us → ∃ u v, us = [u, v] ∧ RelV x u ∧ RelV y v
  | _, _, _, .cons r (.cons q .nil) => ⟨_, _, rfl, r, q⟩
theorem Vals.zero : ∀ {us : List Value}, Vals [] us → us = []
  | _, .nil => rfl
theorem Vals.dropLast {xs : List V} {us : List Value} (h : Vals xs us) : Vals xs.dropLast us.dropLast := by
  induction h with
  | nil => exact .nil
  | cons r t ih =>
    cases t with
    | nil => exact .nil
    | cons q t' => exact .cons r ih
theorem Vals.eraseIdx : ∀ {xs : List V} {us : List Value} (i : Nat), Vals xs us → Vals (xs.eraseIdx i) (us.eraseIdx i)
  | _, _, _, .nil => .nil
  | _, _, 0, .cons _ t => t
  | _, _, i + 1, .cons r t => .cons r (Vals.eraseIdx i t)
theorem Vals.reverse {xs : List V} {us : List Value} (h : Vals xs us) : Vals xs.reverse us.reverse := by
  induction h with
  | nil => exact .nil
  | cons r t ih => rw [List.reverse_cons, List.reverse_cons]; exact Vals.append ih (.cons r .nil)
theorem Vals.rep {xs : List V} {us : List Value} (h : Vals xs us) : ∀ k : Nat, Vals (List.replicate k xs).flatten (List.replicate k us).flatten
  | 0 => .nil
  | k + 1 => by
    rw [List.replicate_succ, List.replicate_succ, List.flatten_cons, List.flatten_cons]
    exact Vals.append h (Vals.rep h k)
theorem erase_last {α : Type} (l : List α) : l.eraseIdx (l.length - 1) = l.dropLast := by
  induction l with
  | nil => rfl
  | cons a r ih =>
    cases r with
    | nil => rfl
    | cons b r =>
      have e : (a :: b :: r).length - 1 = ((b :: r).length - 1) + 1 := by
        have h1 : (a :: b :: r).length = r.length + 2 := rfl
        have h2 : (b :: r).length = r.length + 1 := rfl
        omega
      rw [e, List.eraseIdx_cons_succ, ih]
      all_goals rfl
theorem len_erase {α : Type} : ∀ (l : List α) (i : Nat), (l.eraseIdx i).length ≤ l.length
  | [], _ => Nat.le_refl _
  | _ :: _, 0 => Nat.le_succ _
  | _ :: r, i + 1 => Nat.succ_le_succ (len_erase r i)
theorem foldl_rep (its : List Value) : ∀ (k : Nat) (acc : List Value),
    List.foldl (fun x1 x2 => x1 ++ x2) acc.toArray (List.replicate k its.toArray) = (acc ++ (List.replicate k its).flatten).toArray
  | 0, acc => by simp
  | k + 1, acc => by
    have e : acc.toArray ++ its.toArray = (acc ++ its).toArray := by simp
    have e2 : (acc ++ its) ++ (List.replicate k its).flatten = acc ++ (List.replicate (k + 1) its).flatten := by
      rw [List.replicate_succ, List.flatten_cons, List.append_assoc]
    rw [← e2, ← foldl_rep its k (acc ++ its), ← e, List.replicate_succ, List.foldl_cons]

section
variable {X : Cx} {pins : List (Addr × Obj)} {σ : St} {H : Hp} {s : Shared} {l b : Addr} {xs ys zs : List V}

/-! ### the two steps: a tracked list is rewritten, a new list is laid -/
theorem Inv.lset {its its' : List Value} {n : Nat} {f : Array Value → Array Value} {t' : Nat} (I : Inv X pins σ H s) (hH : H l = some (.lst xs))
    (e : s.heap.get? l = some { cls := .type "list", data := .seq its.toArray n }) (hf : f its.toArray = its'.toArray) (hv : Vals ys its') (hz : ys.length ≤ sizeLine) :
    Inv X pins σ (upd H l (.lst ys)) { s with heap := s.heap.update l (Obj.mapSeq f), toks := t' } := by
  have q := PySem.IsL.update e f
  rw [hf] at q
  refine I.write (x := l) (e := l) (by rw [hH]; exact trivial) (.inl rfl) (fun b' u hb hu => (Heap.get?_update_other s.heap (Obj.mapSeq f) (Ne.symm hb)).trans hu) ⟨_, q⟩ ?_
  exact ⟨hz, its', _, hv, q⟩
theorem Inv.lnew {its : List Value} {t' : Nat} (I : Inv X pins σ H s) (hv : Vals ys its) (hz : ys.length ≤ sizeLine) :
    Inv X pins σ (upd H s.heap.objs.size (.lst ys)) { s with heap := s.heap.push { cls := .type "list", data := .seq its.toArray }, toks := t' } :=
  I.laid (fun _ _ q => Heap.get?_push_of_some _ q) (Nat.le_refl _) ⟨hz, its, 0, hv, Heap.get?_push_size _ rfl⟩
theorem Inv.fresh (I : Inv X pins σ H s) : H s.heap.objs.size = none := I.hok.fresh (Nat.le_refl _)
theorem Inv.lstM (I : Inv X pins σ H s) (hH : H l = some (.lst xs)) : xs.length ≤ sizeLine ∧ ∃ (its : List Value) (n : Nat), Vals xs its ∧ xs.length = its.length ∧ s.heap.get? l = some { cls := .type "list", data := .seq its.toArray n } := by
  obtain ⟨z, its, n, r, e⟩ := I.hok l _ hH
  exact ⟨z, its, n, r, r.length, e⟩

theorem notLongL {n : Nat} (h : n ≤ sizeLine) : Builtin.List.listTooLong n = false := by
  unfold Builtin.List.listTooLong
  exact decide_eq_false (by omega)
end

section
variable {X : Cx}

/-! ### methods -/
def rAppend : V → List V → Hp → VK → Prop := fun x vs H Q => ∃ l xs y, x = .ref l ∧ vs = [y] ∧ H l = some (.lst xs) ∧ xs.length < sizeLine ∧ Q .non (upd H l (.lst (xs ++ [y])))
theorem mt_append : MtM X "list.append" rAppend := by
  intro pins s σ H x vs v us Q I rx rv h
  obtain ⟨l, xs, y, rfl, rfl, hH, hz, q⟩ := h
  cases rx
  obtain ⟨u, rfl, ru⟩ := rv.one
  obtain ⟨z, its, n, r, hl, e⟩ := I.lstM hH
  refine call_meets F.slot_list_append ⟨_, e, rfl⟩ F.entry_list_append (F.args_list_append_2 _ _) (PySem.list_append l its.toArray n u (by rw [List.size_toArray]; omega)) ⟨e, ?_⟩
  refine ⟨.non, _, I.lset (its' := its ++ [u]) hH e (by simp) (r.append (.cons ru .nil)) ?_, rfl, q⟩
  rw [List.length_append, List.length_singleton]
  omega

def rExtend : V → List V → Hp → VK → Prop := fun x vs H Q => ∃ l b xs zs, x = .ref l ∧ vs = [.ref b] ∧ H l = some (.lst xs) ∧ H b = some (.lst zs) ∧ xs.length + zs.length ≤ sizeLine ∧ Q .non (upd H l (.lst (xs ++ zs)))
theorem mt_extend : MtM X "list.extend" rExtend := by
  intro pins s σ H x vs v us Q I rx rv h
  obtain ⟨l, b, xs, zs, rfl, rfl, hH, hB, hz, q⟩ := h
  cases rx
  obtain ⟨u, rfl, ru⟩ := rv.one
  cases ru
  obtain ⟨z, its, n, r, hl, e⟩ := I.lstM hH
  obtain ⟨z2, its2, n2, r2, hl2, e2⟩ := I.lstM hB
  have hsz : its.toArray.size + its2.toArray.size ≤ sizeLine := by rw [List.size_toArray, List.size_toArray]; omega
  have hlong : ¬ (!its.toArray.isEmpty && Builtin.List.listTooLong (its.toArray.size + its2.toArray.size)) = true := by
    rw [notLongL hsz, Bool.and_false]
    exact Bool.false_ne_true
  refine call_meets F.slot_list_extend ⟨_, e, rfl⟩ F.entry_list_extend (F.args_list_extend_2 _ _)
    (AutoSeq1.list_extend_list_list_0 l its.toArray n b its2.toArray n2 hlong (by rw [List.size_toArray]; omega) (by omega)) ⟨e, e2, ?_⟩
  refine ⟨.non, _, I.lset (its' := its ++ its2) hH e (by simp) (r.append r2) ?_, rfl, q⟩
  rw [List.length_append]
  omega

def rPop : V → List V → Hp → VK → Prop := fun x vs H Q => ∃ l xs y, x = .ref l ∧ vs = [] ∧ H l = some (.lst xs) ∧ xs[xs.length - 1]? = some y ∧ Q y (upd H l (.lst xs.dropLast))
theorem mt_pop : MtM X "list.pop" rPop := by
  intro pins s σ H x vs v us Q I rx rv h
  obtain ⟨l, xs, y, rfl, rfl, hH, hy, q⟩ := h
  cases rx
  have hus := rv.zero
  subst hus
  obtain ⟨z, its, n, r, hl, e⟩ := I.lstM hH
  obtain ⟨u, hu, ru⟩ := r.get hy
  have hy' : its.toArray[its.toArray.size - 1]? = some u := by
    show its.toArray[its.length - 1]? = some u
    rw [← Array.getElem?_toList, ← hl]
    exact hu
  refine call_meets F.slot_list_pop ⟨_, e, rfl⟩ F.entry_list_pop (F.args_list_pop_1 _) (MeetsSeq.list_pop_last l its.toArray n u hy' (by rw [List.size_toArray]; omega)) ⟨e, ?_⟩
  refine ⟨y, _, I.lset (its' := its.dropLast) hH e ?_ r.dropLast ?_, ru, q⟩
  · show its.toArray.eraseIdxIfInBounds (its.toArray.size - 1) = its.dropLast.toArray
    rw [List.size_toArray, List.eraseIdxIfInBounds_toArray, erase_last]
  · rw [List.length_dropLast]
    omega

def rPopAt : V → List V → Hp → VK → Prop := fun x vs H Q => ∃ l xs i k y, x = .ref l ∧ vs = [.int i] ∧ H l = some (.lst xs) ∧ -(2 ^ 63) ≤ i ∧ i < 2 ^ 63 ∧ seqIndex? i xs.length = some k ∧ xs[k]? = some y ∧ Q y (upd H l (.lst (xs.eraseIdx k)))
theorem mt_popAt : MtM X "list.pop" rPopAt := by
  intro pins s σ H x vs v us Q I rx rv h
  obtain ⟨l, xs, i, k, y, rfl, rfl, hH, h1, h2, hk, hy, q⟩ := h
  cases rx
  obtain ⟨u, rfl, ru⟩ := rv.one
  obtain ⟨t, rfl⟩ := ru
  obtain ⟨z, its, n, r, hl, e⟩ := I.lstM hH
  obtain ⟨w, hw, rw'⟩ := r.get hy
  refine call_meets F.slot_list_pop ⟨_, e, rfl⟩ F.entry_list_pop (F.args_list_pop_2 _ _)
    (MeetsSeq.list_pop_at l its.toArray n i t k w (fitsIndex_both h1 h2) (by rw [List.size_toArray, ← hl]; exact hk) (by rw [← Array.getElem?_toList]; exact hw) (by rw [List.size_toArray]; omega)) ⟨e, ?_⟩
  refine ⟨y, _, I.lset (its' := its.eraseIdx k) hH e ?_ (r.eraseIdx k) ?_, rw', q⟩
  · show its.toArray.eraseIdxIfInBounds k = (its.eraseIdx k).toArray
    rw [List.eraseIdxIfInBounds_toArray]
  · have := len_erase xs k
    omega

def rReverse : V → List V → Hp → VK → Prop := fun x vs H Q => ∃ l xs, x = .ref l ∧ vs = [] ∧ H l = some (.lst xs) ∧ Q .non (upd H l (.lst xs.reverse))
theorem mt_reverse : MtM X "list.reverse" rReverse := by
  intro pins s σ H x vs v us Q I rx rv h
  obtain ⟨l, xs, rfl, rfl, hH, q⟩ := h
  cases rx
  have hus := rv.zero
  subst hus
  obtain ⟨z, its, n, r, hl, e⟩ := I.lstM hH
  refine call_meets F.slot_list_reverse ⟨_, e, rfl⟩ F.entry_list_reverse (F.args_list_reverse_1 _) (AutoSeq1.list_reverse_list_0 l its.toArray n (by rw [List.size_toArray]; omega)) ⟨e, ?_⟩
  refine ⟨.non, _, I.lset (its' := its.reverse) hH e (by simp) r.reverse ?_, rfl, q⟩
  rw [List.length_reverse]
  omega

def rClear : V → List V → Hp → VK → Prop := fun x vs H Q => ∃ l xs, x = .ref l ∧ vs = [] ∧ H l = some (.lst xs) ∧ Q .non (upd H l (.lst []))
theorem mt_clear : MtM X "list.clear" rClear := by
  intro pins s σ H x vs v us Q I rx rv h
  obtain ⟨l, xs, rfl, rfl, hH, q⟩ := h
  cases rx
  have hus := rv.zero
  subst hus
  obtain ⟨z, its, n, r, hl, e⟩ := I.lstM hH
  refine call_meets F.slot_list_clear ⟨_, e, rfl⟩ F.entry_list_clear (F.args_list_clear_1 _) (AutoSeq1.list_clear_list_0 l its.toArray n (by rw [List.size_toArray]; omega)) ⟨e, ?_⟩
  exact ⟨.non, _, I.lset (its' := []) (ys := []) hH e rfl .nil (Nat.zero_le _), rfl, q⟩

/-! ### list + list, list += list, list * int -/
def rCat : R2 := fun x y H Q => ∃ l b xs zs, x = .ref l ∧ y = .ref b ∧ H l = some (.lst xs) ∧ H b = some (.lst zs) ∧ xs.length + zs.length ≤ sizeLine ∧ ∀ p, H p = none → Q (.ref p) (upd H p (.lst (xs ++ zs)))
theorem op_cat : OpR X (binaryOp .Add) rCat := by
  intro pins s σ H x y v u Q I rx ry h
  obtain ⟨l, b, xs, zs, rfl, rfl, hH, hB, hz, q⟩ := h
  cases rx
  cases ry
  obtain ⟨z, its, n, r, hl, e⟩ := I.lstM hH
  obtain ⟨z2, its2, n2, r2, hl2, e2⟩ := I.lstM hB
  refine PySem.P.add_list e e2 ?_ (by rw [List.size_toArray, List.size_toArray]; omega)
  have ea : its.toArray ++ its2.toArray = (its ++ its2).toArray := by simp
  rw [ea]
  exact ⟨.ref _, _, I.lnew (t' := s.toks) (r.append r2) (by rw [List.length_append]; omega), rfl, q _ I.fresh⟩
/-- a list times an int (a negative one is nothing) -/
def rRep : R2 := fun x y H Q => ∃ l k xs, x = .ref l ∧ y = .int k ∧ H l = some (.lst xs) ∧ -(2 ^ 63) ≤ k ∧ k < 2 ^ 63 ∧ xs.length * k.toNat ≤ sizeLine ∧
  ∀ p, H p = none → Q (.ref p) (upd H p (.lst (List.replicate k.toNat xs).flatten))
theorem len_rep {α : Type} (xs : List α) (k : Nat) : (List.replicate k xs).flatten.length = k * xs.length := by
  induction k with
  | zero => simp
  | succ k ih => rw [List.replicate_succ, List.flatten_cons, List.length_append, ih, Nat.succ_mul, Nat.add_comm]
theorem op_rep : OpR X (binaryOp .Mult) rRep := by
  intro pins s σ H x y v u Q I rx ry h
  obtain ⟨l, k, xs, rfl, rfl, hH, h1, h2, hz, q⟩ := h
  cases rx
  obtain ⟨t, rfl⟩ := ry
  obtain ⟨z, its, n, r, hl, e⟩ := I.lstM hH
  have hlen : its.toArray.size * k.toNat ≤ sizeLine := by rw [List.size_toArray, ← hl]; exact hz
  have hcap : ¬ its.toArray.size * k.toNat > (2 ^ 63 - 1) / 8 := by
    have : (sizeLine : Nat) ≤ (2 ^ 63 - 1) / 8 := by decide
    omega
  have hfit : ¬ (!Builtin.List.listFitsIndex k) = true := by
    rw [fitsIndex_both h1 h2]
    exact Bool.false_ne_true
  have hlong : ¬ Builtin.List.listTooLong (its.toArray.size * k.toNat) = true := by
    rw [notLongL hlen]
    exact Bool.false_ne_true
  have hnew : List.foldl (fun x1 x2 => x1 ++ x2) #[] (List.replicate (if its.toArray.isEmpty = true then 0 else k.toNat) its.toArray) = (List.replicate k.toNat its).flatten.toArray := by
    have f0 : ∀ m : Nat, List.foldl (fun x1 x2 => x1 ++ x2) #[] (List.replicate m its.toArray) = (List.replicate m its).flatten.toArray := fun m => by
      have := foldl_rep its m []
      rw [List.nil_append] at this
      exact this
    rw [f0]
    cases its with
    | nil => simp
    | cons a r' => rw [if_neg (by simp)]
  refine wpAny_binaryOp_repeat_ref (T := "list") (U := "int") (by decide) ⟨_, e, rfl⟩ (fun s' => typeIs_int s' k t) noFill_list_mul F.fills_int_mul F.slot_int_rmul repeat_list F.slot_int_index.lookup
    (call_meets F.slot_int_rmul (typeIs_int s k t) F.entry_int_rmul (F.args_int_rmul_2 _ _) (int___rmul___int_list k t l its.toArray n)
      ⟨e, rfl, ⟨_, e, rfl⟩, call_meets F.slot_list_mul ⟨_, e, rfl⟩ F.entry_list_mul (F.args_list_mul_2 _ _) (AutoListH.list___mul___list_int_3 l its.toArray n k t hfit hcap hlong) ⟨e, ?_⟩⟩)
  rw [hnew]
  exact ⟨.ref _, _, I.lnew (t' := s.toks) (r.rep k.toNat) (by rw [len_rep, Nat.mul_comm]; exact hz), rfl, q _ I.fresh⟩

/-! ### del xs[i] -/
theorem del_list {pins : List (Addr × Obj)} {s : Shared} {σ : St} {H : Hp} {l : Addr} {xs : List V} {i : Int} {t : Tok} {k : Nat} {Q : Unit → Shared → Prop} (I : Inv X pins σ H s) (hH : H l = some (.lst xs))
    (h1 : -(2 ^ 63) ≤ i) (h2 : i < 2 ^ 63) (hk : seqIndex? i xs.length = some k) (h : ∀ s', Inv X pins σ (upd H l (.lst (xs.eraseIdx k))) s' → Q () s') :
    wpAny (model X.prog X.w) X.A (delItem (.ref l) (.int i t)) Q X.xe s := by
  obtain ⟨z, its, n, r, hl, e⟩ := I.lstM hH
  refine PySem.P.delItem_list (k := k) e (fitsIndex_both h1 h2) (by rw [List.size_toArray, ← hl]; exact hk) (h _ ?_) (by rw [List.size_toArray]; omega)
  refine I.lset (its' := its.eraseIdx k) (t' := s.toks) hH e ?_ (r.eraseIdx k) ?_
  · show its.toArray.eraseIdxIfInBounds k = (its.eraseIdx k).toArray
    rw [List.eraseIdxIfInBounds_toArray]
  · have := len_erase xs k
    omega
end

/-! ### xs[a:b] = ys -/
section
variable {prog : Program} {w : World} {A : Around} {E : Value → Shared → Prop} {s : Shared}
theorem splice_eq (its its2 : List Value) (a c : Nat) : its.toArray.extract 0 a ++ its2.toArray ++ its.toArray.extract c its.toArray.size = (its.take a ++ its2 ++ its.drop c).toArray := by
  apply Array.toList_inj.mp
  first
    | (simp
       exact List.take_of_length_le (by simp))
    | simp [List.take_of_length_le]
    | simp
theorem bounds_run {a c n : Nat} (hac : a ≤ c) (hc : c ≤ n) : sliceBounds (some (a : Int)) (some (c : Int)) none n = ((a : Int), (c : Int), 1) := by
  simp only [sliceBounds, Option.getD_none]
  have h1 : ¬ ((a : Int) < 0) := by omega
  have h2 : ¬ ((c : Int) < 0) := by omega
  simp only [h1, h2, if_false, show (1 : Int) > 0 by decide, if_true]
  congr 1
  · omega
  · congr 1; omega
set_option maxRecDepth 100000 in
/-- list.__setitem__ with a slice of step one and another list -/
theorem setItem_slice {l b sl : Addr} {items new : Array Value} {n n2 : Nat} {vl vu : Value} {a c : Nat} {Q : Unit → Shared → Prop}
    (e : s.heap.get? l = some { cls := .type "list", data := .seq items n }) (e2 : s.heap.get? b = some { cls := .type "list", data := .seq new n2 }) (hne : l ≠ b)
    (hs : s.heap.IsSliceOf sl vl vu .none) (pl : IsPart vl (some (a : Int))) (pu : IsPart vu (some (c : Int))) (hac : a ≤ c) (hc : c ≤ items.size)
    (hsz : items.size + new.size ≤ sizeLine) (h : Q () { s with heap := s.heap.update l (Obj.mapSeq fun xs => xs.extract 0 a ++ new ++ xs.extract c xs.size) }) :
    wpAny (model prog w) A (setItem (.ref l) (.ref sl) (.ref b)) Q E s := by
  have hl : s.heap.IsList l items := PySem.IsL.isList e
  have hb : s.heap.IsList b new := PySem.IsL.isList e2
  obtain ⟨os, hos, hcs, hds⟩ := id hs
  have hTs : s.TypeIs (.ref sl) "slice" := ⟨os, hos, hcs⟩
  have hstep : ¬ ((rawPart none == rawInt 0) = true) := Bool.false_ne_true
  have hsame : Builtin.List.listSameRef (.ref l) (.ref b) = false := by
    unfold Builtin.List.listSameRef
    exact beq_eq_false_iff_ne.mpr hne
  have hmax : (max (a : Int) (c : Int)).toNat = c := by omega
  have hz' : ((fun xs : Array Value => xs.extract 0 a ++ new ++ xs.extract c xs.size) items).size ≤ sizeLine + 1 := by
    simp only [Array.size_append, Array.size_extract]
    omega
  unfold setItem
  try with_reducible refine wpAny_holding ?_
  first | refine wpAny_bind (wpAny_pure ?_) | skip
  refine wpAny_bind (wpAny_sequenceKey hl.typeIs (by decide) ?_)
  refine wpAny_bind (wpAny_callSpecial?_slot (name := Str.ofString "__setitem__") hl.typeIs slot_list_setitem
    (wpAny_call_entry slot_list_setitem hl.typeIs entry_list_setitem ?_ (args_list_setitem _ _ _)))
  show wpAny _ _ (Builtin.List.listSubscript? (.ref sl) >>= _) _ _ s
  refine wpAny_bind ?_
  unfold Builtin.List.listSubscript?
  refine wpAny_bind (wpAny_specialOf hTs slice_no_index ?_)
  simp only [Option.isNone_none, if_true]
  refine wpAny_pure ?_
  show wpAny _ _ (typeOf (.ref sl) >>= _) _ _ s
  refine wpAny_bind (wpAny_typeOf hTs ?_)
  first
    | rw [if_neg (by decide)]
    | refine PySem.W.KFB.if_not (by decide) ?_
  rw [listSliceParts_eq]
  refine wpAny_bind (wpAny_bind (wpAny_field hos hds (x := .none) rfl (wpAny_bind (wpAny_listPart .none ?_))))
  rw [if_neg hstep]
  refine wpAny_bind (wpAny_field hos hds (x := vl) rfl (wpAny_bind (wpAny_listPart pl ?_)))
  refine wpAny_bind (wpAny_field hos hds (x := vu) rfl (wpAny_bind (wpAny_listPart pu (wpAny_pure ?_))))
  first
    | simp only [hsame, Bool.false_eq_true, if_false]
    | refine PySem.W.KFB.if_not hsame ?_
    | (dsimp only
       rw [if_neg (by rw [hsame]; exact Bool.false_ne_true)])
  refine wpAny_bind (m := Builtin.List.listAllItems (.ref b) "must assign iterable to extended slice") ?_
  unfold Builtin.List.listAllItems
  refine wpAny_bind (wpAny_typeOf hb.typeIs ?_)
  first
    | refine PySem.W.KFB.if_so (by decide) ?_
    | rw [if_pos (by decide)]
    | simp only [beq_self_eq_true, Bool.true_or, if_true]
  unfold Builtin.List.listItems
  refine wpAny_bind (wpAny_seqItems e2 rfl (wpAny_pure ?_))
  refine wpAny_bind (wpAny_bind (wpAny_seqItems e rfl (wpAny_pure ?_)))
  refine wpAny_bind (wpAny_of_eq ((sliceIndices_raw (some (a : Int)) (some (c : Int)) none items.size (by simp)).trans (congrArg (pure : Int × Int × Int → Sem (Int × Int × Int)) (bounds_run hac hc))) ?_)
  show wpAny _ _ (if ((1 : Int) == 1) = true then _ else _) _ _ s
  rw [if_pos (by decide)]
  refine wpAny_bind (wpAny_rule ?_)
  first
    | simp only [notLongL hsz, Bool.false_eq_true, if_false]
    | refine PySem.W.KFB.if_not (notLongL hsz) ?_
  first | refine wpAny_bind (wpAny_pure ?_) | skip
  show wpAny _ _ (updateSeq l (fun xs => xs.extract 0 ((a : Int)).toNat ++ new ++ xs.extract (max (a : Int) (c : Int)).toNat xs.size) >>= _) _ _ s
  rw [hmax, Int.toNat_natCast]
  refine wpAny_bind (wpAny_updateSeq (hz := Nat.le_trans (Nat.le_add_right _ _) hsz) (_hz' := hz') e rfl ?_)
  refine wpAny_bind (wpAny_letGo ?_)
  first
    | exact wpAny_bind (wpAny_pure (wpAny_pure ⟨.none, rfl, wpAny_pure h⟩))
    | exact wpAny_pure ⟨.none, rfl, wpAny_pure h⟩
end

section
variable {X : Cx}
/-- xs[a:c] = ys of another list, at the value level: sl is the slice object that was just made -/
theorem set_slice {pins : List (Addr × Obj)} {s : Shared} {σ : St} {H : Hp} {l b sl : Addr} {xs ys : List V} {a c : Int} {vl vu : Value} {Q : Unit → Shared → Prop} (I : Inv X pins σ H s)
    (hH : H l = some (.lst xs)) (hB : H b = some (.lst ys)) (hne : l ≠ b) (hs : s.heap.IsSliceOf sl vl vu .none) (ra : RelV (.int a) vl) (rc : RelV (.int c) vu) (h0 : 0 ≤ a) (hac : a ≤ c) (hc : c ≤ xs.length)
    (hz : xs.length + ys.length ≤ sizeLine) (h : ∀ s', Inv X pins σ (upd H l (.lst (xs.take a.toNat ++ ys ++ xs.drop c.toNat))) s' → Q () s') :
    wpAny (model X.prog X.w) X.A (setItem (.ref l) (.ref sl) (.ref b)) Q X.xe s := by
  obtain ⟨ta, rfl⟩ := ra
  obtain ⟨tc, rfl⟩ := rc
  obtain ⟨z, its, n, r, hl, e⟩ := I.lstM hH
  obtain ⟨z2, its2, n2, r2, hl2, e2⟩ := I.lstM hB
  obtain ⟨a', rfl⟩ := Int.eq_ofNat_of_zero_le h0
  obtain ⟨c', rfl⟩ := Int.eq_ofNat_of_zero_le (Int.le_trans h0 hac)
  simp only [Int.toNat_natCast] at h
  refine setItem_slice (a := a') (c := c') e e2 hne hs (.int _ _) (.int _ _) (by omega) (by rw [List.size_toArray]; omega) (by rw [List.size_toArray, List.size_toArray]; omega) (h _ ?_)
  refine I.lset (its' := its.take a' ++ its2 ++ its.drop c') (t' := s.toks) hH e ?_ (Vals.append (Vals.append (r.take _) r2) (r.drop _)) ?_
  · exact splice_eq its its2 a' c'
  · rw [List.length_append, List.length_append, List.length_take, List.length_drop]
    omega
end
end L2

namespace Att
open PySem PySem.W PySem.Calls PyProof.Rows

/-! ### the script -/
theorem ints_of_wellAll {P : Params} {h : Heap} : ∀ (ns : List Int) (vs : List Value), WellAll P h vs (ns.map WData.int) → IntsAre vs ns := by
  intro ns
  induction ns with
  | nil =>
    intro vs w
    rw [List.map_nil] at w
    cases w
    exact .nil
  | cons n ns ih =>
    intro vs w
    rw [List.map_cons] at w
    cases w with
    | cons a b =>
      cases a
      exact .cons _ _ (ih _ b)

theorem script_of {l : OpenLaw} {n : Nat} (hn : l.most = some n) {P : Params} {h : Heap} {args : List WData} {vals : List Value}
    (hpre : l.row.toRowW.claim.pre args = true) (hwl : WellAll P h vals args) :
    ∃ a vs ns, vals = [Value.ref a] ∧ args = [WData.list (ns.map WData.int)] ∧ h.get? a = some { cls := .type "list", data := .seq vs.toArray } ∧ IntsAre vs ns ∧ ns.length ≤ n := by
  have hsh : WShape.hasAll [] args [.list .int] = true := (pre_splitW hpre).1
  have hc : l.pre.holds [] { args := args } = true := (pre_splitW hpre).2
  obtain ⟨d, r, rfl, h1, h2⟩ := hasAllW_cons hsh
  obtain rfl := hasAllW_nil h2
  obtain ⟨xs, rfl, h3⟩ := hasW_list h1
  obtain ⟨ns, rfl⟩ := items_int h3
  have hlen : ns.length ≤ n := by
    unfold OpenLaw.pre at hc
    have h4 : (WTm.not (.lt (.lit (.int (n : Int))) (.len (.arg 0)))).holds [] { args := [.list (ns.map .int)] } = true := by
      have h4 := (holds_andW hc).1
      rw [hn] at h4
      exact h4
    have h5 := condW_of h4 (w_not (w_lt w_lit (w_len_list (w_arg rfl))))
    rw [List.length_map] at h5
    refine Nat.le_of_not_lt fun q => ?_
    have q' : (n : Int) < ((ns.length : Nat) : Int) := by omega
    first
      | (rw [decide_eq_true q'] at h5; exact absurd h5 (by decide))
      | (simp at h5; omega)
  cases hwl with
  | cons w1 w2 =>
    cases w2
    cases w1 with
    | list ho hall => exact ⟨_, _, ns, rfl, rfl, ho, ints_of_wellAll ns _ hall, hlen⟩

theorem post_true (l : OpenLaw) (args : List WData) : l.row.toRowW.claim.post args (.bool true) args = true :=
  postW_of (r := l.row.toRowW) (X := (true == true))
    (show WShape.has [] (.bool true) .bool = true by first | rfl | decide | simp [WShape.has, WShape.arms, WShape.armsAll])
    (show (WTm.eq .res (.lit (.bool true))).value [] { args := args, res := some (.bool true), after := args } = some (.bool (true == true)) from w_eq_bool (w_res rfl) w_lit) rfl

/-! ### the attachment: holds_open's last premise (the goal 'hc' behind k_head) from a wpAny of the law's body -/
theorem attach {l : OpenLaw} {n : Nat} {q : Program} {loose : List Str} {XP : (Str → Option Value) → Heap → Prop} {YP : World → Heap → Prop} {d : DefRec} {x : Str}
    (hn : l.most = some n) (hdf : d.params.defaults = [])
    (hbind : ∀ pm cd doc v : Value, bindArgs (docDef d.name d.params d.body d.scope pm cd doc) ⟨[v], []⟩ = pure [(x, v)])
    (hx : d.scope.names.lookup x = some .local ∨ d.scope.names.lookup x = some .cell)
    (hk : d.scope.kind = .function) (hco : d.scope.isCoroutine = false) (hgen : d.scope.isGenerator = false)
    (body : ∀ (w : World) (s₀ s₁ s : Shared) (mg mb : Str → Option Value) (fa : Addr) (o : Obj) (pm cd doc : Value) (a : Addr) (vs : List Value) (ns : List Int),
      Ground q loose [] XP w s₀ mg mb s₁.heap → YP w s₁.heap →
      s₁.heap.get? fa = some o → o.data = .func (docDef d.name d.params d.body d.scope pm cd doc) → s₁.heap.CodeRec cd d.name → mg d.name = some (.ref fa) →
      s₁.heap.get? a = some { cls := .type "list", data := .seq vs.toArray } → IntsAre vs ns → ns.length ≤ n →
      s.gens = #[] → s.os = s₁.os →
      Fr s₁.heap s₁.heap.objs.size s.heap (bindL (envOfC d.name d.scope s₁.heap.objs.size fa cd).kindOf [(x, .ref a)] fun _ => none) →
      Cl s₁.heap.objs.size (cellsFrom (s₁.heap.objs.size + 1) d.scope.names []) s.heap (bindC (envOfC d.name d.scope s₁.heap.objs.size fa cd).kindOf [(x, .ref a)] fun _ => none) →
      wpAny (model l.prog w) (callerA.deeper (envOfC d.name d.scope s₁.heap.objs.size fa cd)) (execs d.body (envOfC d.name d.scope s₁.heap.objs.size fa cd))
        (fun f s' => f = .ret (.bool true) ∧ OldK s₁.heap s'.heap ∧ s'.os = s₁.os ∧ AllBare s'.gens) (fun _ _ => False) s) :
    WalkO q loose XP YP l.row.toRowW d [] (fun f vs => PySem.call f vs) := by
  intro w s₀ s₁ mg mb G Y fa o pm cd doc dV kV ho hd hcd hD hmg hg args vals as hpre hlay hrd hwl hlo
  obtain rfl : dV = .none := Dflts.none hD hdf
  obtain rfl : kV = .none := Dflts.noKw hD
  obtain ⟨a, vs, ns, rfl, rfl, hobj, hints, hlen⟩ := script_of hn hpre hwl
  refine enter_call ?_
  refine call_cells_ret (o := o) (by rw [depth_caller]; decide) ho (fd_plain hd) G.T.nolimit hcd (hbind pm cd doc (.ref a)) (fun y hy => ?_) (fun h₁ tk F X => ?_) hco hgen hk
  · obtain rfl : y = (x, Value.ref a) := List.mem_singleton.mp hy
    rcases hx with e | e
    · exact .inl e
    · exact .inr ⟨e, cellsFrom_some _ _ _ (.inl e)⟩
  · refine wpAny_mono (body w s₀ s₁ { s₁ with heap := h₁, toks := tk } mg mb fa o pm cd doc a vs ns G Y ho (fd_plain hd) hcd hmg hobj hints hlen hg rfl F X) (fun f s' hq => ?_) (fun _ _ hq => hq)
    obtain ⟨rfl, h2, h3, h4⟩ := hq
    exact ⟨.inl ⟨.bool true, .bool true, [], rfl, fun _ => rfl, .bool true, post_true l _, fun _ => ⟨List.Pairwise.nil, fun _ hm => (nomatch hm)⟩⟩, h2, h3, h4⟩

/-- the same from a codeAny of the CALL (for a layer whose function contracts speak of calls) -/
theorem attach_call {l : OpenLaw} {n : Nat} {q : Program} {loose : List Str} {XP : (Str → Option Value) → Heap → Prop} {YP : World → Heap → Prop} {d : DefRec}
    (hn : l.most = some n) (hdf : d.params.defaults = [])
    (call : ∀ (w : World) (s₀ s₁ : Shared) (mg mb : Str → Option Value) (fa : Addr) (o : Obj) (pm cd doc : Value) (a : Addr) (vs : List Value) (ns : List Int),
      Ground q loose [] XP w s₀ mg mb s₁.heap → YP w s₁.heap →
      s₁.heap.get? fa = some o → o.data = .func (docDef d.name d.params d.body d.scope pm cd doc) → s₁.heap.CodeRec cd d.name → mg d.name = some (.ref fa) →
      s₁.heap.get? a = some { cls := .type "list", data := .seq vs.toArray } → IntsAre vs ns → ns.length ≤ n → s₁.gens = #[] →
      codeAny (model l.prog w) callerA (.call (.ref fa) ⟨[.ref a], []⟩) (fun r s' => r = .ok (.ret (.bool true)) ∧ OldK s₁.heap s'.heap ∧ s'.os = s₁.os ∧ AllBare s'.gens) s₁) :
    WalkO q loose XP YP l.row.toRowW d [] (fun f vs => PySem.call f vs) := by
  intro w s₀ s₁ mg mb G Y fa o pm cd doc dV kV ho hd hcd hD hmg hg args vals as hpre hlay hrd hwl hlo
  obtain rfl : dV = .none := Dflts.none hD hdf
  obtain rfl : kV = .none := Dflts.noKw hD
  obtain ⟨a, vs, ns, rfl, rfl, hobj, hints, hlen⟩ := script_of hn hpre hwl
  refine enter_call (codeAny_mono (call w s₀ s₁ mg mb fa o pm cd doc a vs ns G Y ho (fd_plain hd) hcd hmg hobj hints hlen hg) fun r s' hq => ?_)
  obtain ⟨rfl, h2, h3, h4⟩ := hq
  exact ⟨.inl ⟨.bool true, .bool true, [], rfl, fun _ => rfl, .bool true, post_true l _, fun _ => ⟨List.Pairwise.nil, fun _ hm => (nomatch hm)⟩⟩, h2, h3, h4⟩

/-- the same where the top left finished generators (o_head chose holds_openN): nothing may have changed at all and no generator may be left -/
theorem attachN {l : OpenLaw} {n : Nat} {q : Program} {loose : List Str} {XP : (Str → Option Value) → Heap → Prop} {YP : World → Heap → Prop} {d : DefRec} {x : Str}
    (hn : l.most = some n) (hdf : d.params.defaults = [])
    (hbind : ∀ pm cd doc v : Value, bindArgs (docDef d.name d.params d.body d.scope pm cd doc) ⟨[v], []⟩ = pure [(x, v)])
    (hx : d.scope.names.lookup x = some .local ∨ d.scope.names.lookup x = some .cell)
    (hk : d.scope.kind = .function) (hco : d.scope.isCoroutine = false) (hgen : d.scope.isGenerator = false)
    (body : ∀ (w : World) (s₀ s₁ s : Shared) (mg mb : Str → Option Value) (fa : Addr) (o : Obj) (pm cd doc : Value) (a : Addr) (vs : List Value) (ns : List Int),
      Ground q loose [] XP w s₀ mg mb s₁.heap → YP w s₁.heap →
      s₁.heap.get? fa = some o → o.data = .func (docDef d.name d.params d.body d.scope pm cd doc) → s₁.heap.CodeRec cd d.name → mg d.name = some (.ref fa) →
      s₁.heap.get? a = some { cls := .type "list", data := .seq vs.toArray } → IntsAre vs ns → ns.length ≤ n →
      s.gens = #[] → s.os = s₁.os →
      Fr s₁.heap s₁.heap.objs.size s.heap (bindL (envOfC d.name d.scope s₁.heap.objs.size fa cd).kindOf [(x, .ref a)] fun _ => none) →
      Cl s₁.heap.objs.size (cellsFrom (s₁.heap.objs.size + 1) d.scope.names []) s.heap (bindC (envOfC d.name d.scope s₁.heap.objs.size fa cd).kindOf [(x, .ref a)] fun _ => none) →
      wpAny (model l.prog w) (callerA.deeper (envOfC d.name d.scope s₁.heap.objs.size fa cd)) (execs d.body (envOfC d.name d.scope s₁.heap.objs.size fa cd))
        (fun f s' => f = .ret (.bool true) ∧ (∀ b o, s₁.heap.get? b = some o → s'.heap.get? b = some o) ∧ s'.os = s₁.os ∧ s'.gens = #[]) (fun _ _ => False) s) :
    WalkN q loose XP YP l.row.toRowW d [] (fun f vs => PySem.call f vs) := by
  intro w s₀ s₁ mg mb G Y fa o pm cd doc dV kV ho hd hcd hD hmg hg args vals as hpre hlay hrd hwl hlo
  obtain rfl : dV = .none := Dflts.none hD hdf
  obtain rfl : kV = .none := Dflts.noKw hD
  obtain ⟨a, vs, ns, rfl, rfl, hobj, hints, hlen⟩ := script_of hn hpre hwl
  refine enter_callW ?_
  refine call_cells_ret (o := o) (by rw [depth_caller]; decide) ho (fd_plain hd) G.T.nolimit hcd (hbind pm cd doc (.ref a)) (fun y hy => ?_) (fun h₁ tk F X => ?_) hco hgen hk
  · obtain rfl : y = (x, Value.ref a) := List.mem_singleton.mp hy
    rcases hx with e | e
    · exact .inl e
    · exact .inr ⟨e, cellsFrom_some _ _ _ (.inl e)⟩
  · refine wpAny_mono (body w s₀ s₁ { s₁ with heap := h₁, toks := tk } mg mb fa o pm cd doc a vs ns G Y ho (fd_plain hd) hcd hmg hobj hints hlen hg rfl F X) (fun f s' hq => ?_) (fun _ _ hq => hq)
    obtain ⟨rfl, h2, h3, h4⟩ := hq
    exact ⟨.inl ⟨.bool true, .bool true, [], rfl, fun _ => rfl, .bool true, post_true l _, fun _ => ⟨List.Pairwise.nil, fun _ hm => (nomatch hm)⟩⟩, h2, h3, h4⟩

/-! ### rules over ANY heap (no ledger) from facts about the written part K: the library's own take a ledger (News) for what they write -/
section
variable {prog : Program} {w : World} {A : Around} {E : Value → Shared → Prop} {s : Shared} {K : Frag}

/-- a def of the module, or a method (qual 'C.m'), entered: the frame is the next address; cells behind it -/
theorem call_fn {R : Result → Shared → Prop} {name qual : Str} {params : Arguments} {body : List Stmt} {scope : Scope} {dV kV doc pm cdv ct oc : Value} {an od : Option Addr} {osl : Array (Option Value)} {f : Addr} {args : Args} {binds : List (Str × Value)}
    (X : K.In s.heap) (hlim : s.heap.NoLimit) (ho : K.lookup f = some ⟨oc, od, .func (fnOf name qual params body scope dV kV doc pm an cdv ct), osl⟩) (hcd : codeIn K cdv qual = true) (hroom : A.depth < recursionLimit)
    (hbind : BindsTo s (fnOf name qual params body scope dV kV doc pm an cdv ct) args binds)
    (hkind : (binds.all fun y => scope.names.lookup y.1 == some .local || scope.names.lookup y.1 == some .cell) = true)
    (h : ∀ s₁, InCallC s s.heap.objs.size (bindL (envOfC qual scope s.heap.objs.size f cdv).kindOf binds fun _ => none) (cellsFrom (s.heap.objs.size + 1) scope.names [])
        (bindC (envOfC qual scope s.heap.objs.size f cdv).kindOf binds fun _ => none) s₁ →
      wpAny (model prog w) (A.deeper (envOfC qual scope s.heap.objs.size f cdv)) (execs body (envOfC qual scope s.heap.objs.size f cdv))
        (fun fl s' => R (.ok (.ret (match fl with | .ret v => v | _ => .none))) s')
        (fun e s' => wpAny (model prog w) (A.deeper (envOfC qual scope s.heap.objs.size f cdv)) (leaving (envOfC qual scope s.heap.objs.size f cdv) e) (fun _ s'' => R (.error e) s'') (fun e' s'' => R (.error e') s'') s') s₁)
    (hco : scope.isCoroutine = false) (hgen : scope.isGenerator = false) (hk : scope.kind = .function) : codeAny (model prog w) A (.call (.ref f) args) R s := by
  refine codeAny_call_function hroom (X _ _ ho) rfl hco hgen rfl (codeRec_of X hcd) (hbind _ _ _ _ ?_)
  refine wpAny_newFunctionEnv_cells hk (kindsX hkind _) fun env he s₁ x => ?_
  subst he
  exact ⟨hlim.keeps x.toInCall.keep, codeAny_func (h s₁ x)⟩

/-- C(..): dict at size, instance at size + 1, then __init__ -/
theorem make_obj {R : Result → Shared → Prop} {C fI : Addr} {rest : List Value} {kw : List (Str × Value)}
    (X : K.In s.heap) (hm : makesIn K C = true) (hi : findIn K (.ref C) "__init__" = some (some (.ref fI))) (hf : isFn K (.ref fI) = true)
    (h : codeAny (model prog w) (A.under (.builtin "type.__call__" ⟨.ref C :: rest, kw⟩)) (.call (.ref fI) ⟨.ref (s.heap.objs.size + 1) :: rest, kw⟩) (InitBack (s.heap.objs.size + 1) R)
      { s with heap := (s.heap.push emptyDict).push (instObj C s.heap.objs.size) }) : codeAny (model prog w) A (.call (.ref C) ⟨rest, kw⟩) R s := by
  obtain ⟨hh, g, d, t, os⟩ := s
  exact make_core (makes_of X hm) (looks_findIn X hi) (fun self => bind_fn X self (beq_iff_eq.mp hf)) (.inl rfl) h

/-- x.name where the instance's dict holds the name and the class does not -/
theorem get_field {x C : Addr} {ox : Obj} {es : List DictEntry} {n : Nat} {name : Str} {expr : Bool} {v : Value} {Q : Value → Shared → Prop}
    (X : K.In s.heap) (I : PySem.W.InstAt s.heap x ox C (some (dictOf es n))) (hg : plainGet K C name = true) (hh : hasDictIn K C = true) (ha : findIn K (.ref C) name = some none)
    (hl : getL name es = some (some v)) (hv : handedIn v = true) (h : Q v { s with toks := s.toks + 1 }) : wpAny (model prog w) A (getAttr (.ref x) name expr) Q E s :=
  get_value X I (plainGet_of hg).1 (findObj_own hh ha rfl hl) hv h

/-- x.m(..): the method found in the class -/
theorem get_method {x C f : Addr} {ox : Obj} {es : List DictEntry} {n : Nat} {name : Str} {pl : Sem Bool} {Q : Value × List Value → Shared → Prop}
    (X : K.In s.heap) (I : PySem.W.InstAt s.heap x ox C (some (dictOf es n))) (hg : plainGet K C name = true) (hf : findIn K (.ref C) name = some (some (.ref f))) (ht : isFn K (.ref f) = true)
    (hl : getL name es = some none) (h : Q (.ref f, [.ref x]) s) : wpAny (model prog w) A (getMethod (.ref x) name pl) Q E s :=
  method_fn X I (plainGet_of hg).1 (plainGet_of hg).2 hf (beq_iff_eq.mp ht) (by show (lookIn name (dictOf es n)).map _ = _; rw [lookIn_dict, hl]; rfl) h

/-! the whole heap as the ledger: makes every rule that writes through a ledger a rule over any heap -/
def noObjs (h : Heap) : Heap := { h with objs := #[] }
theorem noObjs_get (h : Heap) (b : Addr) : (noObjs h).get? b = none := by
  cases e : (noObjs h).get? b with
  | none => rfl
  | some o => exact absurd (Heap.lt_size e) (Nat.not_lt_zero _)
def ledger (h : Heap) (L d : Addr) : List (Addr × Obj) := (List.range h.objs.size).filterMap fun a => if a = L ∨ a = d then none else (h.get? a).map fun o => (a, o)
theorem mem_ledger {h : Heap} {L d a : Addr} {o : Obj} : (a, o) ∈ ledger h L d ↔ a ≠ L ∧ a ≠ d ∧ h.get? a = some o := by
  unfold ledger
  rw [List.mem_filterMap]
  constructor
  · rintro ⟨b, _, e⟩
    split at e
    · cases e
    · rename_i hb
      obtain ⟨o', ho, e'⟩ := Option.map_eq_some_iff.mp e
      cases e'
      exact ⟨fun q => hb (.inl q), fun q => hb (.inr q), ho⟩
  · rintro ⟨n1, n2, ho⟩
    refine ⟨a, List.mem_range.mpr (Heap.lt_size ho), ?_⟩
    rw [if_neg (show ¬ (a = L ∨ a = d) from fun q => q.elim n1 n2), ho] <;> rfl
theorem news_ledger {h : Heap} {L d : Addr} {od : Obj} (hne : d ≠ L) (ho : h.get? d = some od) : News (noObjs h) L h ([] ++ (d, od) :: ledger h L d) := by
  rintro ⟨a, o⟩ hp
  rcases List.mem_cons.mp hp with e | hp
  · cases e
    exact ⟨ho, hne, noObjs_get _ _⟩
  · obtain ⟨n1, n2, e⟩ := mem_ledger.mp hp
    exact ⟨e, n1, noObjs_get _ _⟩
theorem fr_all {h : Heap} {L : Addr} {m : Str → Option Value} (n : h.Ns L m) : Fr (noObjs h) L h m :=
  ⟨n, fun b o e => (by rw [noObjs_get] at e; cases e), Nat.zero_le _⟩
/-- Upd of the head entry (for append_K, setItem_K ..) -/
theorem upd_ledger {h : Heap} {L d : Addr} {o o' : Obj} : Upd d o o' ((d, o) :: ledger h L d) ((d, o') :: ledger h L d) :=
  .head fun ⟨_, _⟩ hp => (mem_ledger.mp hp).2.1

/-- x.name = v over any heap: L is any namespace of the heap (the frame's, say): its map stays, its object is not told; all else but the dict stays -/
theorem set_field {x C dx L : Addr} {ox : Obj} {m : Str → Option Value} {es es' : List DictEntry} {n n' : Nat} {name : Str} {v : Value} {Q : Unit → Shared → Prop}
    (X : K.In s.heap) (I : PySem.W.InstAt s.heap x ox C (some (dictOf es n))) (hd : ox.dict = some dx) (hL : s.heap.Ns L m) (hne : dx ≠ L)
    (hs : findIn K (.ref C) "__setattr__" = some (some (.builtin "object.__setattr__"))) (hp : plainOver K C = true) (ht : takerIn K C name = some none) (hh : hasDictIn K C = true) (hl : (getL name es).isSome = true)
    (e : (putL name (PyData.keyHash w.params name) (.str name (s.toks + 1)) v es, putN name es n) = (es', n')) (hz : es'.length ≤ 1000)
    (h : ∀ h' : Heap, h'.Ns L m → h'.get? dx = some (dictOf es' n') → (∀ b o, b ≠ dx → b ≠ L → s.heap.get? b = some o → h'.get? b = some o) → Q () { s with heap := h', toks := s.toks + 2 }) :
    wpAny (model prog w) A (setAttr (.ref x) name v) Q E s := by
  obtain ⟨e1, e2⟩ := Prod.mk.inj e
  have hdx : s.heap.get? dx = some (dictOf es n) := by
    have := I.dict
    rw [hd] at this
    exact this
  refine set_plain X I hs (osa_dict (s := { s with toks := s.toks + 1 }) (h₀ := noObjs s.heap) (L := L) (m := m) (od := dictOf es n) (od' := dictOf es' n') (es := es') (n := n') (pre := []) (post := ledger s.heap L dx)
    (fr_all hL) (news_ledger hne hdx) X I hd hp ht hh hl (fun _ q => nomatch q) (fun ⟨_, _⟩ q => (mem_ledger.mp q).2.1) (by rw [putName_dict, e1, e2]) rfl hz fun h' F' N' => ?_)
  exact h h' F'.ns (N'.get (List.Mem.head _)) fun b o n1 n2 ho => N'.get (List.Mem.tail _ (mem_ledger.mpr ⟨n2, n1, ho⟩))
end
end Att

namespace L2
open PySem PySem.Spec PyProof.Rows

theorem vals_ints : ∀ {vs : List Value} {ns : List Int}, IntsAre vs ns → Vals (ns.map V.int) vs
  | _, _, .nil => .nil
  | _, _, .cons n t h => .cons ⟨t, rfl⟩ (vals_ints h)

/-- nothing is tracked but the script, known to the object (or it is an object of the module) -/
def Only (H : Hp) : Prop := ∀ b, H b = none ∨ ∃ o xs, H b = some (.frz o (.lst xs))

/-- THE HEAD: the law's promise, at the heap behind the top. F, the promise of the law's def, may use that base is part of the heap (so K.In base, base.Ns mainGlobals mg stand in Mod) -/
theorem law_call {P : Program} {w : World} {K : PySem.W.Frag} {mg mb : Str → Option Value} {CX : CXT} {k : Nat} {fa a : Addr} {fd : FuncData} {x : Str} {sp : Sp} {s₁ : Shared} {vs : List Value} {ns : List Int}
    (KX : K.In s₁.heap) (hns : s₁.heap.Ns mainGlobals mg) (hb : s₁.heap.Ns builtinsNs mb) (hbb : ∀ x : Str, x ≠ "__name__" → mb x = bootBuiltins x) (hlim : s₁.heap.NoLimit) (hg : s₁.gens = #[])
    (ha : s₁.heap.get? a = some { cls := .type "list", data := .seq vs.toArray }) (hi : IntsAre vs ns) (hl : ns.length ≤ sizeLine) (hr : Room k callerA)
    (F : ∀ base : Heap, K.In base → base.Ns mainGlobals mg → FnOk P w K mg base CX k fa fd [x] sp) (hbind : ∀ (s : Shared) (u : Value), BindsTo s fd ⟨[u], []⟩ [(x, u)])
    (hsp : ∀ H : Hp, Only H → SqL K H a (ns.map V.int) → sp [.ref a] H (fun v _ => v = .bl true) fun _ _ _ => False)
    (hCX : ∀ H e s', CX [] H s₁ (fun _ _ _ => False) e s' → False) :
    codeAny (model P w) callerA (.call (.ref fa) ⟨[.ref a], []⟩) (fun r s' => r = .ok (.ret (.bool true)) ∧ OldK s₁.heap s'.heap ∧ s'.os = s₁.os ∧ AllBare s'.gens) s₁ := by
  have rv := vals_ints hi
  have lenV := hi.length
  -- from an abstract heap in which nothing but the script may be tracked
  have core : ∀ H : Hp, Only H → SqL K H a (ns.map V.int) → HOk P w H s₁.heap → (∀ b, H b ≠ none → b = a) → (H a ≠ none → K.lookup a = none) →
      codeAny (model P w) callerA (.call (.ref fa) ⟨[.ref a], []⟩) (fun r s' => r = .ok (.ret (.bool true)) ∧ OldK s₁.heap s'.heap ∧ s'.os = s₁.os ∧ AllBare s'.gens) s₁ := by
    intro H hO hS hok hA hK
    have base_of : ∀ {b : Addr} {o : Obj}, s₁.heap.get? b = some o → H b = none → (hidT s₁.heap H).get? b = some o := fun e n => hidT_get e n
    have noA : ∀ {b : Addr} {o : Obj} {es : Array DictEntry} {ep : Nat}, s₁.heap.get? b = some o → o.data = .dict es ep → H b = none := fun {b o es ep} e d => by
      cases q : H b with
      | none => rfl
      | some u =>
        have e' : b = a := hA b (by rw [q]; simp)
        subst e'
        rw [ha] at e; cases e
        have d' : Data.seq vs.toArray _ = Data.dict es ep := d
        cases d'
    have nsK : ∀ {b : Addr} {m : Str → Option Value}, s₁.heap.Ns b m → (hidT s₁.heap H).Ns b m := fun {b m} ⟨o, es, ep, e, d, r⟩ => ⟨o, es, ep, base_of e (noA e d), d, r⟩
    have hKb : K.In (hidT s₁.heap H) := fun b o e => base_of (KX b o e) (by
      cases q : H b with
      | none => rfl
      | some u =>
        have e' : b = a := hA b (by rw [q]; simp)
        subst e'
        rw [hK (by rw [q]; simp)] at e; cases e)
    have hM : Mod K mg (hidT s₁.heap H) := ⟨hKb, nsK hns, ⟨mb, nsK hb, hbb⟩, let ⟨mc, h1, h2⟩ := hlim; ⟨mc, nsK h1, h2⟩⟩
    have e0 : Env0 P w K mg (hidT s₁.heap H) callerA [] s₁ H := ⟨rfl, hM, fun b o e => of_hidT e, Nat.le_of_eq (hidT_size _ _), trivial, fun b hb => absurd (show b ∈ ([] : List Addr) from hb) (by simp), hok, .of_eq hg⟩
    refine codeAny_mono ((F _ hKb (nsK hns)).run callerA [] s₁ H ⟨[.ref a], []⟩ [.ref a] [.ref a] _ _ hr e0 (hbind s₁ (.ref a)) (.cons rfl .nil) (hsp H hO hS)) fun r s' h => ?_
    cases r with
    | error e => exact (hCX H e s' h).elim
    | ok fl =>
      cases fl with
      | next => exact False.elim h
      | brk => exact False.elim h
      | cont => exact False.elim h
      | ret u =>
        obtain ⟨v, H', os, bare, un, hok', r', q⟩ := h
        have q' : v = .bl true := q
        subst q'
        obtain rfl : u = Value.bool true := r'
        refine ⟨rfl, OldK.of_keep fun b o e => ?_, os, bare⟩
        cases q : H b with
        | none => exact un.keep b o e q (by intro z; exact absurd (show b ∈ ([] : List Addr) from z) (by simp)) (by simp)
        | some u =>
          rcases hO b with z | ⟨ob, xs, z⟩
          · rw [q] at z; cases z
          · have z2 := un.frzs b ob _ z
            obtain ⟨e1, _⟩ := hok b _ z
            obtain ⟨e2, _⟩ := hok' b _ z2
            rw [e] at e1; cases e1
            exact e2
  cases hk : K.lookup a with
  | some o =>
    -- the script is one of the module's own objects
    have e := KX a o hk
    rw [ha] at e
    cases e
    refine core (fun _ => none) (fun _ => .inl rfl) (.inr ⟨_, vs.toArray, _, hk, rfl, rfl, rfl, by rw [List.size_toArray, lenV]; exact hl, by simpa using rv⟩) (fun b u z => by have z' : (none : Option HO) = some u := z; cases z') (fun b z => absurd rfl z) fun z => absurd rfl z
  | none =>
    refine core (fun b => if b = a then some (.frz { cls := .type "list", data := .seq vs.toArray } (.lst (ns.map V.int))) else none) (fun b => ?_) (.inl (.inr ⟨{ cls := .type "list", data := .seq vs.toArray }, if_pos rfl⟩)) (fun b u z => ?_) (fun b z => ?_) fun _ => hk
    · by_cases hb : b = a
      · exact .inr ⟨_, _, if_pos hb⟩
      · exact .inl (if_neg hb)
    · by_cases hb : b = a
      · have z' := (if_pos hb).symm.trans z
        cases z'
        subst hb
        exact ⟨ha, by rw [List.length_map]; exact hl, vs, _, rv, ha⟩
      · have z' := (if_neg hb).symm.trans z
        cases z'
    · by_cases hb : b = a
      · exact hb
      · exact absurd (if_neg hb) z
end L2

namespace L2
open PySem PySem.Spec PyProof.Rows

abbrev KOf {K : PySem.W.Frag} {h : Heap} (_ : K.In h) : PySem.W.Frag := K

/-- the goal that k_head leaves (case hc), from the law's promise. F gives the function object fd (K's own) once, then the promise over every base -/
theorem walk_of {l : PySem.W.OpenLaw} {n k : Nat} {q : Program} {loose : List Str} {XP : (Str → Option Value) → Heap → Prop} {YP : World → Heap → Prop} {d : DefRec} {K : Params → PySem.W.Frag} {CX : World → CXT} {sp : World → Sp} {x : Str}
    (hn : l.most = some n) (hn2 : n ≤ sizeLine) (hdf : d.params.defaults = []) (hr : Room k callerA)
    (hY : ∀ (w : World) (h : Heap), YP w h → (K w.params).In h)
    (F : ∀ (w : World) (mg : Str → Option Value) (fa : Addr) (h : Heap), (K w.params).In h → h.Ns mainGlobals mg → mg d.name = some (.ref fa) →
      ∃ fd : FuncData, (∀ (s : Shared) (u : Value), BindsTo s fd ⟨[u], []⟩ [(x, u)]) ∧
        ∀ base : Heap, (K w.params).In base → base.Ns mainGlobals mg → FnOk l.prog w (K w.params) mg base (CX w) k fa fd [x] (sp w))
    (hsp : ∀ (w : World) (H : Hp) (a : Addr) (ns : List Int), ns.length ≤ n → Only H → SqL (K w.params) H a (ns.map V.int) → sp w [.ref a] H (fun v _ => v = .bl true) fun _ _ _ => False)
    (hCX : ∀ (w : World) (H : Hp) (s : Shared) (e : Value) (s' : Shared), CX w [] H s (fun _ _ _ => False) e s' → False) :
    PySem.W.WalkO q loose XP YP l.row.toRowW d [] (fun f vs => PySem.call f vs) := by
  refine Att.attach_call hn hdf fun w s₀ s₁ mg mb fa o pm cd doc a vs ns G Y ho hd hcd hmg hobj hints hlen hg => ?_
  have KX := hY w _ Y
  obtain ⟨fd, hb, hF⟩ := F w mg fa _ KX G.T.g hmg
  exact law_call KX G.T.g G.T.b G.T.builtins G.T.nolimit hg hobj hints (Nat.le_trans hlen hn2) hr hF hb (fun H hO hS => hsp w H a ns hlen hO hS) fun H e s' => hCX w H s₁ e s'
/-- the same where the promise hangs on the written part alone: (sp := My.sp_law), no hole under a binder -/
theorem walk_ofK {l : PySem.W.OpenLaw} {n k : Nat} {q : Program} {loose : List Str} {XP : (Str → Option Value) → Heap → Prop} {YP : World → Heap → Prop} {d : DefRec} {K : Params → PySem.W.Frag} {CX : CXT} {sp : PySem.W.Frag → Sp} {x : Str}
    (hn : l.most = some n) (hn2 : n ≤ sizeLine) (hdf : d.params.defaults = []) (hr : Room k callerA)
    (hY : ∀ (w : World) (h : Heap), YP w h → (K w.params).In h)
    (F : ∀ (w : World) (mg : Str → Option Value) (fa : Addr) (h : Heap), (K w.params).In h → h.Ns mainGlobals mg → mg d.name = some (.ref fa) →
      ∃ fd : FuncData, (∀ (s : Shared) (u : Value), BindsTo s fd ⟨[u], []⟩ [(x, u)]) ∧
        ∀ base : Heap, (K w.params).In base → base.Ns mainGlobals mg → FnOk l.prog w (K w.params) mg base CX k fa fd [x] (sp (K w.params)))
    (hsp : ∀ (K : PySem.W.Frag) (H : Hp) (a : Addr) (ns : List Int), ns.length ≤ n → Only H → SqL K H a (ns.map V.int) → sp K [.ref a] H (fun v _ => v = .bl true) fun _ _ _ => False)
    (hCX : ∀ (H : Hp) (s : Shared) (e : Value) (s' : Shared), CX [] H s (fun _ _ _ => False) e s' → False) :
    PySem.W.WalkO q loose XP YP l.row.toRowW d [] (fun f vs => PySem.call f vs) :=
  walk_of (K := K) (CX := fun _ => CX) (sp := fun w => sp (K w.params)) hn hn2 hdf hr hY F (fun w H a ns h1 h2 h3 => hsp (K w.params) H a ns h1 h2 h3) fun _ H s e s' => hCX H s e s'
end L2

/- THE LAST THEOREM (shape; LID, My.* are yours):
   My.Adr: a structure of the addresses that your layer names (classes, functions); My.Txt K t: a structure (Prop) of the equations over K;
   My.txt_mk : {K} {implicit addresses ..} (e1 : nsIn K mainGlobals "law" = some (some (.ref f))) (e2 : K.lookup f = some ⟨oc, od, .func (fnOf "law" "law" params body scope dV kV doc pm an cdv ct), sl⟩) (e3 : codeIn K cdv "law" = true) .. : ∃ t, My.Txt K t

set_option maxRecDepth 100000 in
set_option maxHeartbeats 0 in
theorem PySem.Challenge.cw_LID_holds : PySem.Challenge.rw_LID.Holds := by
  w_on; o_law; k_head; (case hw => w_witness2)
  k_fill
  refine L2.walk_of (l := PySem.Challenge.rw_LID) (n := 63) (k := 40) (x := "script") (CX := fun w => ..) (sp := fun _ => My.sp_law) rfl (by decide) rfl ⟨rfl, by decide, by decide⟩ (fun w h Y => PySem.W.kIn_of Y) ?F ?S ?C
  case F =>
    intro w mg fa h KX G hmg
    have T : ∃ t, My.Txt (L2.KOf KX) t := by
      dsimp only [L2.KOf]                          -- K must stand as «<heap const> w.params» for k_is
      refine' My.txt_mk ?e1 ?e2 ?e3 ..
      (case e1 => PySem.W.k_is)                    -- in the order: a name -> its address -> its object -> its parts
      (case e2 => PySem.W.k_is)
      ..
    obtain ⟨t, T⟩ := T
    have e0 := hmg.symm.trans (PySem.W.mg_of KX G T.law)
    cases e0                                       -- fa is the law's own address
    exact ⟨_, fun s u => .of_eq rfl, fun base kb nb => My.law_fn T kb nb⟩     -- if «.of_eq rfl» comes too early: refine' ⟨_, ?b, fun base kb nb => My.law_fn T kb nb⟩; exact fun s u => .of_eq rfl
  case S => exact fun w H a ns hl hO hS => ..
  case C => exact ..
(the tactic k_is has no namespace: write k_is) -/

/-! SHORT WORDS over the layer: a def of the text, its body, what a loop and a test want. -/
namespace L2
open PySem PySem.Spec PyProof.Rows

/-! ### the text by places -/
/-- the j-th statement of a class's body -/
def inClass (s : Stmt) (j : Nat) : Stmt := match s with
  | .ClassDef _ _ _ body _ _ _ _ _ _ _ => body.getD j (.Pass ⟨0, 0, 0, 0⟩)
  | _ => .Pass ⟨0, 0, 0, 0⟩
def defArgs (s : Stmt) : Arguments := match s with
  | .FunctionDef _ a _ _ _ _ _ _ _ _ => a
  | _ => { posonlyargs := [], args := [], vararg := none, kwonlyargs := [], kw_defaults := [], kwarg := none, defaults := [] }
def defBody (s : Stmt) : List Stmt := match s with
  | .FunctionDef _ _ b _ _ _ _ _ _ _ => b
  | _ => []
def defScope (s : Stmt) : Scope := match s with
  | .FunctionDef _ _ _ _ _ _ sc _ _ _ => sc
  | _ => { kind := .function, names := [], isGenerator := false, isCoroutine := false }

/-! ### no exception leaves a def -/
abbrev CX0 : CXT := fun _ _ _ _ _ _ => False
abbrev E0 : XK := fun _ _ _ => False
theorem pass0 {X : Cx} : Passes CX0 X E0 := fun _ _ _ _ _ _ _ h => h.elim

/-! ### a def (or method) of the text as it stands behind the top -/
structure Fun (K : PySem.W.Frag) (x qual : Str) (st : Stmt) (f : Addr) (fd : FuncData) : Prop where
  ex : ∃ (oc : Value) (od : Option Addr) (kV doc pm : Value) (an : Option Addr) (cdv ct : Value) (osl : Array (Option Value)),
    fd = PySem.W.fnOf x qual (defArgs st) (defBody st) (defScope st) .none kV doc pm an cdv ct ∧ K.lookup f = some ⟨oc, od, .func fd, osl⟩ ∧ PySem.W.codeIn K cdv qual = true
  kp : PySem.W.keepIn K (.ref f) = true
section
variable {P : Program} {w : World} {K : PySem.W.Frag} {mg : Str → Option Value} {base : Heap}
/-- THE RULE for a def: its body as a term of rules, and the reading of that term -/
theorem Fun.ok {x qual : Str} {st : Stmt} {f : Addr} {fd : FuncData} {N ps : List Str} {k : Nat} {sp : Sp} (F : Fun K x qual st f fd) (S : FnScope N ps (defScope st)) (len : ∀ vs H Q E, sp vs H Q E → vs.length = ps.length)
    (hbody : ∀ (cdv : Value) (A : Around) (outer : List Env) (s : Shared) (H : Hp) (vs : List V) (Q : VK) (E : XK), Room k (A.deeper (envOfC qual (defScope st) s.heap.objs.size f cdv)) → sp vs H Q E →
      ∃ t, PSs (cxOf CX0 P w K mg base N qual (defScope st) f cdv A outer s H E).nox (defBody st) t ∧ t { nx := fun _ H' => Q .non H', rt := Q } (start N vs) H) : FnOk P w K mg base CX0 (k + 1) f fd ps sp := by
  obtain ⟨oc, od, kV, doc, pm, an, cdv, ct, osl, rfl, lk, hcd⟩ := F.ex
  refine fn_of lk hcd S len fun A outer s H vs Q E hr hsp => ?_
  obtain ⟨t, h, q⟩ := hbody cdv A outer s H vs Q E hr hsp
  exact ⟨t, h.nox, q⟩
/-- how its arguments bind (no defaults): h is «fun _ _ _ _ _ _ us hl => match us, hl with | [_, _], _ => rfl», one _ a parameter -/
theorem Fun.binds {x qual : Str} {st : Stmt} {f : Addr} {fd : FuncData} {ps : List Str} (F : Fun K x qual st f fd)
    (h : ∀ (kV doc pm : Value) (an : Option Addr) (cdv ct : Value) (us : List Value), us.length = ps.length → bindArgs (PySem.W.fnOf x qual (defArgs st) (defBody st) (defScope st) .none kV doc pm an cdv ct) ⟨us, []⟩ = pure (ps.zip us)) : Binds K fd ps [] := by
  obtain ⟨oc, od, kV, doc, pm, an, cdv, ct, osl, rfl, lk, hcd⟩ := F.ex
  exact .all (h kV doc pm an cdv ct)
theorem fun_mk {x qual : Str} {st : Stmt} {f : Addr} {oc : Value} {od an : Option Addr} {osl : Array (Option Value)} {kV doc pm cdv ct : Value} (l : K.lookup f = some ⟨oc, od, .func (PySem.W.fnOf x qual (defArgs st) (defBody st) (defScope st) .none kV doc pm an cdv ct), osl⟩)
    (c : PySem.W.codeIn K cdv qual = true) (k : PySem.W.keepIn K (.ref f) = true) : Fun K x qual st f (PySem.W.fnOf x qual (defArgs st) (defBody st) (defScope st) .none kV doc pm an cdv ct) := ⟨⟨oc, od, kV, doc, pm, an, cdv, ct, osl, rfl, l, c⟩, k⟩
end
theorem hu_of {A : Around} {k : Nat} (hr : Room k A) : A.units + 1 < cLine := Nat.lt_of_le_of_lt (Nat.add_le_add_left (by decide : 1 ≤ 64) _) hr.units
theorem small1000 {n : Nat} (h : n ≤ 1000) : n < sizeLine := Nat.lt_of_le_of_lt h (by decide)

/-! ### expressions in short: the name that stands in the i-th slot -/
section
variable {X : Cx}
theorem pv (i : Nat) {x : Str} {pos : Pos} (hN : X.N[i]? = some x := by rfl) (hv : Vis X.env.scope x := by first | exact Or.inl rfl | exact Or.inr (Or.inl rfl) | exact Or.inr (Or.inr rfl)) (hd : (x == ("__debug__" : Str)) = false := by decide)
    (hcd : (x == ("__classdict__" : Str)) = false := by decide) : PE X (.Name x pos) (tVar i) := pe_var hN hv hd hcd
end

/-! ### tests -/
theorem iteF {A B : Prop} (h : B) : if false = true then A else B := by
  rw [if_neg Bool.false_ne_true]
  exact h
theorem iteT {A B : Prop} (h : A) : if true = true then A else B := by
  rw [if_pos rfl]
  exact h
theorem ite2 {c A B : Prop} [Decidable c] (h1 : c → A) (h2 : ¬ c → B) : if c then A else B := by
  by_cases h : c
  · rw [if_pos h]
    exact h1 h
  · rw [if_neg h]
    exact h2 h
theorem iteNS {c A B : Prop} [Decidable c] (hc : c) (h : B) : if (!decide c) = true then A else B := by
  rw [decide_eq_true hc]
  exact iteF h

/-! ### heaps -/
/-- all that was tracked is as it was -/
def Same (H H' : Hp) : Prop := ∀ b o, H b = some o → H' b = some o
theorem Same.refl (H : Hp) : Same H H := fun _ _ h => h
theorem Same.trans {H H1 H2 : Hp} (a : Same H H1) (b : Same H1 H2) : Same H H2 := fun c o h => b c o (a c o h)
theorem Same.free {H H' : Hp} (e : Same H H') {l : Addr} (h : H' l = Option.none) : H l = Option.none := by
  cases q : H l with
  | none => rfl
  | some o =>
    rw [e l o q] at h
    cases h
theorem Same.seq {K : PySem.W.Frag} {H H' : Hp} {a : Addr} {xs : List V} (e : Same H H') (h : SqL K H a xs) : SqL K H' a xs := by
  rcases h with (h | ⟨o, h⟩) | h
  · exact .inl (.inl (e _ _ h))
  · exact .inl (.inr ⟨o, e _ _ h⟩)
  · exact .inr h

end L2

set_option Elab.async false
set_option linter.all false
set_option maxRecDepth 100000
set_option maxHeartbeats 4000000
namespace L2
open PySem PySem.Spec PyProof.Rows

/-! ### the closure of a comprehension's block -/
theorem closure_walk {env : Env} : ∀ (names : List (Str × NameKind)) (acc : List (Str × Addr)), (∀ y ∈ names, y.2 = .free → ∃ c, env.cells.lookup y.1 = some c) →
    ∃ cl, (forIn names acc (fun (x : Str × NameKind) (cs : List (Str × Addr)) => (if x.2 == .free then (do let c ← cellOf env x.1; pure (ForInStep.yield ((x.1, c) :: cs))) else pure (ForInStep.yield cs) : Sem (ForInStep (List (Str × Addr)))))) = pure cl ∧
      (∀ y ∈ names, y.2 = .free → ∃ c, cl.lookup y.1 = some c) ∧ (∀ y c, acc.lookup y = some c → ∃ d, cl.lookup y = some d) ∧ (∀ y c, cl.lookup y = some c → env.cells.lookup y = some c ∨ acc.lookup y = some c)
  | [], acc, _ => ⟨acc, rfl, (fun _ h => nomatch h), (fun y c h => ⟨c, h⟩), (fun y c h => .inr h)⟩
  | (n, k) :: r, acc, h => by
    rw [List.forIn_cons]
    by_cases hk : k = .free
    · subst hk
      obtain ⟨c, hc⟩ := h (n, .free) List.mem_cons_self rfl
      obtain ⟨cl, e, h1, h2, h3⟩ := closure_walk r ((n, c) :: acc) fun y hy => h y (List.mem_cons_of_mem _ hy)
      refine ⟨cl, ?_, ?_, ?_, ?_⟩
      · have e0 : cellOf env n = pure c := by unfold cellOf; rw [hc]
        simp only [beq_self_eq_true, if_true, e0, pure_bind]
        exact e
      · intro y hy hf
        rcases List.mem_cons.mp hy with rfl | hy
        · exact h2 n c (by simp)
        · exact h1 y hy hf
      · intro y d hd
        by_cases e1 : y = n
        · subst e1; exact h2 y c (by simp)
        · exact h2 y d (by rw [List.lookup_cons, beq_eq_false_iff_ne.mpr e1]; exact hd)
      · intro y d hd
        rcases h3 y d hd with q | q
        · exact .inl q
        · by_cases e1 : y = n
          · subst e1
            simp at q
            exact .inl (by rw [← q]; exact hc)
          · rw [List.lookup_cons, beq_eq_false_iff_ne.mpr e1] at q
            exact .inr q
    · have hb : (k == NameKind.free) = false := by simpa using hk
      obtain ⟨cl, e, h1, h2, h3⟩ := closure_walk r acc fun y hy => h y (List.mem_cons_of_mem _ hy)
      refine ⟨cl, ?_, ?_, h2, h3⟩
      · simp only [hb, Bool.false_eq_true, if_false, pure_bind]
        exact e
      · intro y hy hf
        rcases List.mem_cons.mp hy with rfl | hy
        · exact absurd hf hk
        · exact h1 y hy hf
theorem closure_of {scope : Scope} {env : Env} (h : ∀ y ∈ scope.names, y.2 = .free → ∃ c, env.cells.lookup y.1 = some c) :
    ∃ cl, closureFor scope env = pure cl ∧ (∀ y ∈ scope.names, y.2 = .free → ∃ c, cl.lookup y.1 = some c) ∧ ∀ y c, cl.lookup y = some c → env.cells.lookup y = some c := by
  obtain ⟨cl, e, h1, _, h3⟩ := closure_walk scope.names [] h
  refine ⟨cl, ?_, h1, fun y c q => (h3 y c q).elim id fun z => by simp at z⟩
  rw [← e]
  unfold closureFor
  simp only [bind_pure]

theorem relabel_free {env : Env} : ∀ {names : List (Str × NameKind)} {x : Str}, names.lookup x = some .free →
    (names.map fun (n, k) => if (k == NameKind.free && env.scope.kind == .function && env.kindOf n == some .cell) then (n, NameKind.cell) else (n, k)).lookup x = some .cell ∨
    (names.map fun (n, k) => if (k == NameKind.free && env.scope.kind == .function && env.kindOf n == some .cell) then (n, NameKind.cell) else (n, k)).lookup x = some .free
  | [], _, h => by simp at h
  | (n, k) :: r, x, h => by
    have ih := @relabel_free env r x
    rw [List.map_cons]
    cases hx : x == n with
    | true =>
      simp only [List.lookup_cons, hx] at h
      cases h
      by_cases hc : (NameKind.free == NameKind.free && env.scope.kind == .function && env.kindOf n == some .cell) = true
      · left; simp only [if_pos hc, List.lookup_cons, hx]
      · right; simp only [if_neg hc, List.lookup_cons, hx]
    | false =>
      simp only [List.lookup_cons, hx] at h
      by_cases hc : (k == NameKind.free && env.scope.kind == .function && env.kindOf n == some .cell) = true
      · simp only [if_pos hc, List.lookup_cons, hx]; exact ih h
      · simp only [if_neg hc, List.lookup_cons, hx]; exact ih h
theorem relabel_inv {env : Env} : ∀ {names : List (Str × NameKind)} {x : Str} {k' : NameKind},
    (names.map fun (n, k) => if (k == NameKind.free && env.scope.kind == .function && env.kindOf n == some .cell) then (n, NameKind.cell) else (n, k)).lookup x = some k' → (k' = .cell ∨ k' = .free) →
    ∃ k, (x, k) ∈ names ∧ (k = .cell ∨ k = .free)
  | [], _, _, h, _ => by simp at h
  | (n, k) :: r, x, k', h, hk => by
    have ih := @relabel_inv env r x k'
    rw [List.map_cons] at h
    cases hx : x == n with
    | true =>
      have e : x = n := by simpa using hx
      subst e
      by_cases hc : (k == NameKind.free && env.scope.kind == .function && env.kindOf x == some .cell) = true
      · refine ⟨k, List.mem_cons_self, .inr ?_⟩
        simp only [Bool.and_eq_true, beq_iff_eq] at hc
        exact hc.1.1
      · simp only [if_neg hc, List.lookup_cons, beq_self_eq_true] at h
        cases h
        exact ⟨k, List.mem_cons_self, hk⟩
    | false =>
      have h' : (r.map fun (n, k) => if (k == NameKind.free && env.scope.kind == .function && env.kindOf n == some .cell) then (n, NameKind.cell) else (n, k)).lookup x = some k' := by
        by_cases hc : (k == NameKind.free && env.scope.kind == .function && env.kindOf n == some .cell) = true
        · simpa only [if_pos hc, List.lookup_cons, hx] using h
        · simpa only [if_neg hc, List.lookup_cons, hx] using h
      obtain ⟨q, m, z⟩ := ih h' hk
      exact ⟨q, List.mem_cons_of_mem _ m, z⟩

/-- the context of a comprehension's block: its own names beside those of the def -/
abbrev blockCx (X : Cx) (scope : Scope) (N : List Str) (cl : List (Str × Addr)) (C : Addr) (s : Shared) (H : Hp) (ex : List Addr) (pn : List (Addr × Obj)) (E : Value → Shared → Prop) : Cx :=
  { X with N := N, s₀ := s, H₀ := H, env := compEnvC scope cl C X.env, outer := X.stack, stack := X.stack, ex := ex, fn := fun _ => false, pn := pn, xe := E }

theorem block_ok {X : Cx} {pins : List (Addr × Obj)} {σ σ' : St} {H : Hp} {s : Shared} {scope : Scope} {N : List Str} {cl : List (Str × Addr)} {fp : List Addr} {E : Value → Shared → Prop} {h1 : Heap} {t : Nat}
    (I : Inv X pins σ H s) (hkind : scope.kind = .function) (hcell : ∀ y ∈ scope.names, y.2 ≠ .cell) (hfree : ∀ y ∈ scope.names, y.2 = .free → X.env.kindOf y.1 = some .cell ∨ X.env.kindOf y.1 = some .free)
    (hcl1 : ∀ y ∈ scope.names, y.2 = .free → ∃ c, cl.lookup y.1 = some c) (hcl2 : ∀ y c, cl.lookup y = some c → X.env.cells.lookup y = some c)
    (hf : ∀ b ∈ fp, FpOk X pins H b) (hfo : ∀ b ∈ fp, ∃ o, s.heap.get? b = some o)
    (hl : σ'.length = N.length) (hσ : ∀ (i : Nat) (x : Str) (v : V), N[i]? = some x → σ'[i]? = some (some v) → scope.names.lookup x = some .free ∧ ∃ j : Nat, X.N[j]? = some x ∧ σ[j]? = some (some v))
    (hns : h1.Ns s.heap.objs.size (fun _ => none)) (hold : ∀ b o, s.heap.get? b = some o → h1.get? b = some o) :
    Inv (blockCx X scope N cl s.heap.objs.size s H fp (X.pn ++ pins) E) [] σ' H { s with heap := h1, toks := t } := by
  have szc : ∀ b o, s.heap.get? b = some o → b ≠ s.heap.objs.size := fun b o e => Nat.ne_of_lt (Heap.lt_size e)
  have okY : (blockCx X scope N cl s.heap.objs.size s H fp (X.pn ++ pins) E).Ok := by
    refine ⟨I.ok.mod, hkind, I.ok.glob, I.ok.blt, Nat.le_refl _, fun x y c e1 e2 => I.ok.inj x y c (hcl2 _ _ e1) (hcl2 _ _ e2), fun x hx => ?_, fun x c hfn _ => ?_, I.ok.hd, I.ok.frames, .inl rfl, fun b hb => ⟨?_, fun x c e z => ?_⟩, I.bs, Nat.le_trans I.ok.bsz I.sz, fun b o e hb => ?_, fun b hb z => ?_, I.stack, I.stkFree⟩
    · have hx' : (relabel scope X.env).names.lookup x = some .cell ∨ (relabel scope X.env).names.lookup x = some .free := hx
      have q : ∃ k, (x, k) ∈ scope.names ∧ (k = .cell ∨ k = .free) := by
        rcases hx' with z | z
        · exact relabel_inv z (.inl rfl)
        · exact relabel_inv z (.inr rfl)
      obtain ⟨k, hm, hk⟩ := q
      rcases hk with rfl | rfl
      · exact absurd rfl (hcell _ hm)
      · exact hcl1 _ hm rfl
    · exact absurd (show false = true from hfn) (by decide)
    · obtain ⟨o, e⟩ := hfo b hb
      exact szc b o e
    · exact (hf b hb).2.2.2.2.1 x c (hcl2 _ _ e) z
    · rcases (hf b hb).2.2.2.1 with z | z
      · exact I.ok.noex b o e z
      · exact absurd (Nat.lt_of_lt_of_le (Heap.lt_size e) (Nat.le_trans I.ok.bsz z)) (Nat.lt_irrefl _)
    · rcases List.mem_cons.mp (I.stkSub b z) with q | q
      · exact (hf b hb).2.1 q
      · exact (hf b hb).2.2.1 q
  obtain ⟨m, hn, hlook⟩ := id I.loc
  refine ⟨okY, rfl, I.bare, Un.kept hold, ⟨_, hns, fun i x v e1 e2 _ => ?_⟩, fun x c e => ?_, I.hok.fresh (Nat.le_refl _), fun x c e => I.freeC x c (hcl2 _ _ e), fun p hp => ?_, I.hok.kept hold, hl⟩
  · obtain ⟨hfr, j, ej, es⟩ := hσ i x v e1 e2
    have hm : (x, NameKind.free) ∈ scope.names := PySem.mem_of_lookup hfr
    have hk := hfree _ hm rfl
    have hv : Vis X.env.scope x := by
      rcases hk with z | z
      · exact .inr (.inl z)
      · exact .inr (.inr z)
    obtain ⟨u, r, l⟩ := hlook j x v ej es hv
    refine ⟨u, r, .inr ⟨?_, ?_⟩⟩
    · exact relabel_free hfr
    · rcases l with ⟨k, _⟩ | ⟨_, c, ec, hc⟩
      · rcases hk with z | z <;> (rw [k] at z; cases z)
      · obtain ⟨d, hd⟩ := hcl1 _ hm rfl
        have e := hcl2 _ _ hd
        have ec' : X.env.cells.lookup x = some d := e
        rw [ec] at ec'; cases ec'
        obtain ⟨o, ho, hod⟩ := hc
        exact ⟨c, hd, o, hold c o ho, hod⟩
  · obtain ⟨v, o, ho, hod⟩ := I.cell x c (hcl2 _ _ e)
    exact ⟨v, o, hold c o ho, hod⟩
  · have hp' : p ∈ X.pn ++ pins := by simpa using hp
    obtain ⟨a1, a2, a3, a4, a5⟩ := I.pin p hp'
    refine ⟨hold _ _ a1, a2, szc _ _ a1, fun z => ?_, a5⟩
    rcases List.mem_cons.mp (I.stkSub _ z) with q | q
    · exact a3 q
    · exact a4 q

/-! ### the tests of a comprehension -/
def PIfs (X : Cx) (ifs : List Expr) (t : TT) : Prop :=
  ∀ (pins : List (Addr × Obj)) (s : Shared) (σ : St) (H : Hp) (Q : Bool → Hp → Prop), Inv X pins σ H s → t σ H Q →
    wpAny (model X.prog X.w) X.A (forIn ifs true fun c r => if r = true then do let ok ← isTrue c X.env (eval c X.env); pure (ForInStep.yield ok) else pure (ForInStep.yield r)) (TP X pins σ Q) X.xe s
def tYes : TT := fun _ H Q => Q true H
theorem pifs_nil {X : Cx} : PIfs X [] tYes := fun _ _ _ H _ I h => wpAny_tests_nil ⟨H, I, h⟩
theorem pifs_one {X : Cx} {c : Expr} {t : TT} (h : PT X c t) : PIfs X [c] t := fun pins s σ H Q I hw => wpAny_tests_one (h pins s σ H Q I hw)

section
variable {prog : Program} {w : World} {A : Around} {R : Result → Shared → Prop} {s : Shared}
theorem codeAny_compLoop_any {elt target iter : Expr} {ifs : List Expr} {scope : Scope} {pos : Pos} {it acc : Value} {env : Env} (I : Nat → Shared → Prop)
    (turn : ∀ n s, I n s → wpAny (model prog w) A (pyNext it) (fun r s₁ => match r with
      | none => R (.ok .next) s₁
      | some v => wpAny (model prog w) A (letOwnedTupleGo target it v) (fun _ s₁' => wpAny (model prog w) A (assign target env v) (fun _ s₂ =>
          wpAny (model prog w) A (forIn ifs true fun c r => if r = true then do let ok ← isTrue c env (eval c env); pure (ForInStep.yield ok) else pure (ForInStep.yield r)) (fun ok s₃ =>
            if ok = true then wpAny (model prog w) A (eval elt env) (fun x s₄ =>
              wpAny (model prog w) A (call (.builtin "list.append") [acc, x]) (fun _ s₅ => ∃ m, m < n ∧ I m s₅) (notedBy (model prog w) A env fun e s' => R (.error e) s') s₄) (notedBy (model prog w) A env fun e s' => R (.error e) s') s₃
            else ∃ m, m < n ∧ I m s₃) (notedBy (model prog w) A env fun e s' => R (.error e) s') s₂) (notedBy (model prog w) A env fun e s' => R (.error e) s') s₁') (notedBy (model prog w) A env fun e s' => R (.error e) s') s₁)
        (notedBy (model prog w) A env fun e s' => R (.error e) s') s)
    (n : Nat) (h : I n s) :
    codeAny (model prog w) A (.compLoop (.ListComp elt [⟨target, iter, ifs, 0⟩] scope pos) 0 it acc env) R s := by
  refine codeAny_loop rfl I (fun n s hI => ?_) n h
  show wpAny _ A ((compTurn (.ListComp elt [⟨target, iter, ifs, 0⟩] scope pos) 0 it acc env).onRaise (fun x => do noteFrame x env; theTreesLotGoes x)) _ _ s
  refine wpAny_noted ?_
  rw [compTurn_list]
  refine wpAny_bind (wpAny_standAt (wpAny_bind (wpAny_mono (turn n s hI) (fun r s₁ h₁ => ?_) fun _ _ h' => h')))
  cases r with
  | none => exact wpAny_pure h₁
  | some v =>
    refine wpAny_bind (wpAny_mono h₁ (fun _ s₁' h₁' => ?_) fun _ _ h' => h')
    refine wpAny_bind (wpAny_mono h₁' (fun _ s₂ h₂ => wpAny_bind (wpAny_mono h₂ (fun ok s₃ h₃ => ?_) fun _ _ h' => h')) fun _ _ h' => h')
    cases ok with
    | false => exact wpAny_pure ⟨rfl, h₃⟩
    | true =>
      exact wpAny_bind (wpAny_bind (wpAny_mono h₃ (fun x s₄ h₄ => wpAny_bind (wpAny_mono h₄ (fun _ s₅ h₅ => wpAny_pure (wpAny_pure ⟨rfl, h₅⟩)) fun _ _ h' => h')) fun _ _ h' => h'))
end

/-! ### [e for target in iter if ..] -/
def tComp (wi : TI) (g : TG) (tc : TT) (te : TE) (lift : St → St) : TE := fun σ H Q => wi σ H fun J H1 => ∀ l, H1 l = none → ∃ W : Nat → Nat → St → Hp → Prop, (∃ m, W 0 m (lift σ) (upd H1 l (.lst []))) ∧ ∀ i m σ H, W i m σ H →
  (J.stop i H ∧ Q (.ref l) H) ∨ (J.go i H ∧ ∃ N : St → Hp → Prop, (∀ σ' H', N σ' H' → ∃ m', m' < m ∧ W (i + 1) m' σ' H') ∧
    ∀ x H', J.yld i H x H' → g x σ H' fun σ2 H2 => tc σ2 H2 fun b H3 => if b = true then te σ2 H3 fun v H4 => ∃ ys, H4 l = some (.lst ys) ∧ ys.length < sizeLine ∧ N σ2 (upd H4 l (.lst (ys ++ [v]))) else N σ2 H3)

theorem pe_comp {X : Cx} {elt tg iter : Expr} {ifs : List Expr} {scope : Scope} {pos : Pos} {wi : TI} {g : TG} {tc : TT} {te : TE} (N : List Str) (lift : St → St) (hc : X.calm = true) (hi : PI X tg iter wi)
    (hkind : scope.kind = .function) (hcell : ∀ y ∈ scope.names, y.2 ≠ .cell) (hfree : ∀ y ∈ scope.names, y.2 = .free → X.env.kindOf y.1 = some .cell ∨ X.env.kindOf y.1 = some .free)
    (hnames : ∀ y ∈ scope.names, y.2 = .local → scope.names.lookup y.1 = some .local)
    (hlen : ∀ σ : St, σ.length = X.N.length → (lift σ).length = N.length)
    (hσ : ∀ (σ : St) (i : Nat) (x : Str) (v : V), σ.length = X.N.length → N[i]? = some x → (lift σ)[i]? = some (some v) → scope.names.lookup x = some .free ∧ ∃ j : Nat, X.N[j]? = some x ∧ σ[j]? = some (some v))
    (hg : ∀ cl C s H ex pn E, PG (blockCx X scope N cl C s H ex pn E) tg g) (ht : ∀ cl C s H ex pn E, PIfs (blockCx X scope N cl C s H ex pn E) ifs tc) (he : ∀ cl C s H ex pn E, PE (blockCx X scope N cl C s H ex pn E) elt te)
    (hs : ∀ x, foldedSetIterable iter X.env x = pure x := by intro _; rfl) :
    PE X (.ListComp elt [⟨tg, iter, ifs, 0⟩] scope pos) (tComp wi g tc te lift) := by
  intro pins s σ H Q I h
  rw [eval_ListComp]
  obtain ⟨cl, hclos, hcl1, hcl2⟩ := closure_of (scope := scope) (env := X.env) fun y hy hf => I.ok.has y.1 (hfree y hy hf)
  refine wpAny_comprehension_free (use := none) rfl hs hclos hkind hnames (thn (hi pins s σ H _ I h) fun v s1 h1 => thn h1 fun itv s2 h2 => ?_)
  obtain ⟨it, fp, tn, J, H2, e, I2, T, st2, f2, q⟩ := h2
  subst e
  refine wpAny_newObj_type (wpAny_newFunctionEnv hcell (by intro y hy; simp at hy) (fun h₁ hns₁ hsb₁ => ?_) hkind)
  have I3 : Inv X pins σ (upd H2 s2.heap.objs.size (.lst [])) { s2 with heap := s2.heap.push { cls := .type "list", data := .seq ([] : List Value).toArray } } := I2.lnew (its := []) (t' := s2.toks) .nil (Nat.zero_le _)
  have fr : H2 s2.heap.objs.size = none := I2.fresh
  have hold : ∀ b o, (s2.heap.push { cls := .type "list", data := .seq ([] : List Value).toArray }).get? b = some o → h₁.get? b = some o := fun b o e => hsb₁.extBut b o (Nat.ne_of_lt (Heap.lt_size e)) (Heap.get?_push_of_some _ e)
  have f3 : ∀ b ∈ fp, FpOk X pins (upd H2 s2.heap.objs.size (.lst [])) b := fun b hb => by
    obtain ⟨o, eo, _⟩ := T.obj 0 _ st2 b hb
    exact ⟨by rw [upd_ne (Nat.ne_of_lt (Heap.lt_size eo))]; exact (f2 b hb).1, (f2 b hb).2⟩
  have fo : ∀ b ∈ fp, ∃ o, (s2.heap.push { cls := .type "list", data := .seq ([] : List Value).toArray }).get? b = some o := fun b hb => by
    obtain ⟨o, eo, _⟩ := T.obj 0 _ st2 b hb
    exact ⟨o, Heap.get?_push_of_some _ eo⟩
  generalize hP : s2.heap.push { cls := .type "list", data := .seq ([] : List Value).toArray } = P at *
  obtain ⟨W, ⟨m0, w0⟩, turn⟩ := q s2.heap.objs.size fr
  generalize hL : s2.heap.objs.size = L at *
  let R : Result → Shared → Prop := compPost (model X.prog X.w) X.A X.xe none (EP X pins σ Q) (.ref L) P.objs.size
  let Y : Cx := blockCx X scope N cl P.objs.size { s2 with heap := P } (upd H2 L (.lst [])) fp (X.pn ++ pins) (notedBy (model X.prog X.w) X.A (compEnvC scope cl P.objs.size X.env) fun e s' => R (.error e) s')
  have IY : Inv Y [] (lift σ) (upd H2 L (.lst [])) { s2 with heap := h₁, toks := s2.toks + ([] : List (Str × Value)).length } :=
    block_ok (s := { s2 with heap := P }) I3 hkind hcell hfree hcl1 hcl2 f3 fo (hlen σ I.len) (fun i x v => hσ σ i x v I.len) hns₁ hold
  have stY : tn 0 h₁ := T.keep _ _ _ st2 fun b hb o e => hold b o (by rw [← hP]; exact Heap.get?_push_of_some _ e)
  have fC : ∀ b ∈ fp, b ≠ P.objs.size ∧ (b ∈ fp) := fun b hb => by
    obtain ⟨o, eo⟩ := fo b hb
    exact ⟨Nat.ne_of_lt (Heap.lt_size eo), hb⟩
  have fpY : ∀ {H' : Hp}, (∀ b ∈ fp, H' b = none) → ∀ b ∈ fp, FpOk Y [] H' b := fun {H'} hn b hb => by
    refine ⟨hn b hb, (fC b hb).1, fun z => ?_, .inl hb, fun x c ex => (f3 b hb).2.2.2.2.1 x c (hcl2 _ _ ex), fun p hp => ?_⟩
    · rcases List.mem_cons.mp (I3.stkSub b z) with y | y
      · exact (f3 b hb).2.1 y
      · exact (f3 b hb).2.2.1 y
    · have hp' : p ∈ (X.pn ++ pins) ++ [] := hp
      rw [List.append_nil] at hp'
      exact (f3 b hb).2.2.2.2.2 p hp'
  have loop : ∀ s4 : Shared, s4 = { s2 with heap := h₁, toks := s2.toks + ([] : List (Str × Value)).length } →
      codeAny (model X.prog X.w) X.A (.compLoop (.ListComp elt [⟨tg, iter, ifs, 0⟩] scope pos) 0 (.ref it) (.ref L) (compEnvC scope cl P.objs.size X.env)) R s4 := by
    rintro s4 rfl
    refine codeAny_compLoop_any (fun n s' => ∃ i σ' H', Inv Y [] σ' H' s' ∧ tn i s'.heap ∧ (∀ b ∈ fp, H' b = none) ∧ W i n σ' H') ?_ m0 ⟨0, _, _, IY, stY, fun b hb => (f3 b hb).1, w0⟩
    rintro n s5 ⟨i, σ5, H5, I5, st5, fr5, w5⟩
    rcases turn i n σ5 H5 w5 with ⟨stop, qn⟩ | ⟨go, Nx, hNx, step⟩
    · refine thn (T.done Y rfl rfl rfl hc i [] s5 σ5 H5 Y.xe I5 (fpY fr5) st5 stop) fun r s6 ⟨hr, I6⟩ => ?_
      subst hr
      show R (.ok .next) s6
      obtain ⟨m6, hn6, _⟩ := id I6.loc
      have IX : Inv X pins σ H5 s6 := I3.call' (s' := s6) (ch := fp) I6.os I6.base I6.hok I6.bare fun b hb => ⟨(f3 b hb).2.2.2.1, (f3 b hb).2.1, (f3 b hb).2.2.2.2.1, (f3 b hb).2.2.2.2.2⟩
      refine ⟨m6, hn6, fun h' sb => ⟨.ref L, H5, IX.turned (t' := s6.toks) (it := P.objs.size) (fun b o hb e => (sb.2 b hb).trans e) I6.free (Nat.ne_of_gt I3.lt) (.inr I3.sz) (fun x c ec z => ?_) fun p hp z => ?_, rfl, qn⟩⟩
      · obtain ⟨v0, qv⟩ := I3.cell x c ec
        exact absurd qv.lt (by rw [z]; exact Nat.lt_irrefl _)
      · have z0 := Heap.lt_size (I3.pin p hp).1
        exact absurd z0 (by rw [z]; exact Nat.lt_irrefl _)
    · refine thn (T.item Y rfl rfl rfl hc i [] s5 σ5 H5 Y.xe I5 (fpY fr5) st5 go) fun r s6 ⟨u, hr, h6⟩ => ?_
      subst hr
      refine thn h6 fun _ s7 ⟨x, H7, I7, r7, y7, st7, fr7⟩ => ?_
      have I7' := I7.pinned (fpY fr7) (T.obj _ _ st7)
      refine thn (hg _ _ _ _ _ _ _ _ s7 σ5 H7 x u _ I7' r7 (step x H7 y7)) fun _ s8 ⟨σ8, H8, I8, q8⟩ => ?_
      refine thn (ht _ _ _ _ _ _ _ _ s8 σ8 H8 _ I8 q8) fun ok s9 ⟨H9, I9, q9⟩ => ?_
      have again : ∀ {sx : Shared} {Hx : Hp}, Inv Y ([] ++ pinsAt fp s7.heap) σ8 Hx sx → Nx σ8 Hx → ∃ m, m < n ∧ ∃ i σ' H', Inv Y [] σ' H' sx ∧ tn i sx.heap ∧ (∀ b ∈ fp, H' b = none) ∧ W i m σ' H' := fun {sx Hx} Ix nx => by
        obtain ⟨m', hm, wx⟩ := hNx σ8 Hx nx
        refine ⟨m', hm, i + 1, σ8, Hx, Ix.unpinned, T.keep _ _ _ st7 fun b hb o e => (Ix.pin (b, o) (List.mem_append_right _ (List.mem_append_right _ (mem_pinsAt hb e)))).1, fun b hb => ?_, wx⟩
        obtain ⟨o, e, d⟩ := T.obj _ _ st7 b hb
        exact (Ix.pin (b, o) (List.mem_append_right _ (List.mem_append_right _ (mem_pinsAt hb e)))).2.1
      cases ok with
      | false =>
        rw [if_neg Bool.false_ne_true] at q9 ⊢
        exact again I9 q9
      | true =>
        rw [if_pos rfl] at q9 ⊢
        refine thn (he _ _ _ _ _ _ _ _ s9 σ8 H9 _ I9 q9) fun y s10 ⟨v10, H10, I10, r10, ys, hys, hz, q10⟩ => ?_
        refine thn (mt_append (X := Y) _ s10 σ8 H10 (.ref L) [v10] (.ref L) [y] (fun _ H' => Nx σ8 H') I10 rfl (.cons r10 .nil) ⟨L, ys, v10, rfl, rfl, hys, hz, q10⟩) fun _ s11 ⟨_, H11, I11, _, q11⟩ => ?_
        exact again I11 q11
  exact codeAny_compStart_list (loop _ rfl) (T.self X.A 0 _ _ _ stY (loop _ rfl))
end L2
set_option Elab.async false
set_option linter.all false
set_option maxRecDepth 100000
set_option maxHeartbeats 4000000
namespace L2
open PySem PySem.Spec PyProof.Rows

/-! ### the forms of a comprehension that one uses -/
theorem comp_by {J : It} {g : TG} {tc : TT} {te : TE} {R : Hp → Prop} {l : Addr} {σ0 : St} {H0 : Hp} (n : Nat) (Pv : Nat → St → Hp → Prop) (h0 : Pv 0 σ0 H0) (hstop : ∀ σ H, Pv n σ H → J.stop n H ∧ R H)
    (hgo : ∀ i σ H, i < n → Pv i σ H → J.go i H ∧ ∀ x H', J.yld i H x H' → g x σ H' fun σ2 H2 => tc σ2 H2 fun b H3 => if b = true then te σ2 H3 fun v H4 => ∃ ys, H4 l = some (.lst ys) ∧ ys.length < sizeLine ∧ Pv (i + 1) σ2 (upd H4 l (.lst (ys ++ [v]))) else Pv (i + 1) σ2 H3) :
    ∃ W : Nat → Nat → St → Hp → Prop, (∃ m, W 0 m σ0 H0) ∧ ∀ i m σ H, W i m σ H →
      (J.stop i H ∧ R H) ∨ (J.go i H ∧ ∃ N : St → Hp → Prop, (∀ σ' H', N σ' H' → ∃ m', m' < m ∧ W (i + 1) m' σ' H') ∧
        ∀ x H', J.yld i H x H' → g x σ H' fun σ2 H2 => tc σ2 H2 fun b H3 => if b = true then te σ2 H3 fun v H4 => ∃ ys, H4 l = some (.lst ys) ∧ ys.length < sizeLine ∧ N σ2 (upd H4 l (.lst (ys ++ [v]))) else N σ2 H3) := by
  refine ⟨fun i m σ H => m = n - i ∧ i ≤ n ∧ Pv i σ H, ⟨n, by simp, Nat.zero_le _, h0⟩, ?_⟩
  rintro i m σ H ⟨rfl, hi, p⟩
  by_cases hlt : i < n
  · obtain ⟨go, st⟩ := hgo i σ H hlt p
    exact .inr ⟨go, Pv (i + 1), fun σ' H' p' => ⟨n - (i + 1), by omega, rfl, hlt, p'⟩, st⟩
  · have e : i = n := by omega
    subst e
    exact .inl (hstop σ H p)

theorem yesT {σ : St} {H : Hp} {F : Bool → Hp → Prop} (h : F true H) : tYes σ H F := h
theorem gN {i : Nat} {v : V} {σ : St} {H : Hp} {Q : St → Hp → Prop} (h : Q (σ.set i (some v)) H) : gName i v σ H Q := h
/-! ### the signs of a text -/
def Its (x : Str) : It := ⟨fun i _ => i < x.cps.size, fun i H v H' => H' = H ∧ ∃ c, x.cps[i]? = some c ∧ v = .str ⟨#[c]⟩, fun i _ => x.cps.size ≤ i⟩
theorem turn_str {P : Program} {w : World} {K : PySem.W.Frag} {tg : Expr} {it : Addr} {x : Str} {t : Tok} {ty : String} (hty : ty = "str_ascii_iterator" ∨ ty = "str_iterator") :
    Turn P w K tg (Its x) [it] it (fun i h => i ≤ x.cps.size ∧ h.IsStrIter it ty x t i) where
  mem := by simp
  obj := fun i h st b hb => by
    have e : b = it := by simpa using hb
    subst e
    obtain ⟨_, o, e, c, d⟩ := st
    exact ⟨o, e, fun v z => by rw [d] at z; cases z⟩
  keep := fun i h h' st k => by
    obtain ⟨hi, o, e, r⟩ := st
    exact ⟨hi, o, k it (by simp) o e, r⟩
  item := by
    intro X hP hw hK hc i pins s σ H E I hf st hg
    subst hP hw hK
    obtain ⟨f0, f1, f2, f3, f4, f5⟩ := hf it (by simp)
    have hlt : i < x.cps.size := hg
    obtain ⟨_, st⟩ := st
    have W : Walks X.prog X.w X.A it [it] [it] x.cps.size (SignAt x) (fun i h => h.IsStrIter it ty x t i) := by
      rcases hty with rfl | rfl
      · exact Walks.strAscii (I.ok.hd hc) it x t
      · exact Walks.strWide (I.ok.hd hc) it x t
    refine W.item i s _ _ hlt st fun v h' tk hv st' kk => ?_
    obtain ⟨c, u, hc', rfl⟩ := hv
    have I1 : Inv X pins σ H { s with heap := h', toks := tk } := I.turned (fun b o hb e => kk b o (by simpa using hb) e) f0 f1 f3 f4 f5
    obtain ⟨o, e, c2, d⟩ := id st'
    refine ⟨_, rfl, go_of (s := { s with heap := h', toks := tk }) (n := ty) e c2 d ?_ ⟨.str ⟨#[c]⟩, H, I1, ⟨u, rfl⟩, ⟨rfl, c, hc', rfl⟩, ⟨by omega, st'⟩, fun b hb => (hf b hb).1⟩⟩
    rcases hty with rfl | rfl <;> decide
  done := by
    intro X hP hw hK hc i pins s σ H E I hf st hg
    subst hP hw hK
    obtain ⟨f0, f1, f2, f3, f4, f5⟩ := hf it (by simp)
    have hge : x.cps.size ≤ i := hg
    obtain ⟨hi, st⟩ := st
    have e : i = x.cps.size := by omega
    subst e
    have W : Walks X.prog X.w X.A it [it] [it] x.cps.size (SignAt x) (fun i h => h.IsStrIter it ty x t i) := by
      rcases hty with rfl | rfl
      · exact Walks.strAscii (I.ok.hd hc) it x t
      · exact Walks.strWide (I.ok.hd hc) it x t
    exact W.done s _ _ st fun h' tk kk => ⟨rfl, I.turned (fun b o hb e => kk b o (by simpa using hb) e) f0 f1 f3 f4 f5⟩
  self := fun A i s Q E st h => by
    obtain ⟨_, st⟩ := st
    rcases hty with rfl | rfl
    · exact wpAny_pyIter_striter_ascii st h
    · exact wpAny_pyIter_striter_wide st h
def iStr (tl : TE) : TI := fun σ H R => tl σ H fun v H1 => ∃ x, v = .str x ∧ R (Its x) H1
theorem pi_str {X : Cx} {tg l : Expr} {tl : TE} (hl : PE X l tl) : PI X tg l (iStr tl) := by
  intro pins s σ H R I h
  refine thn (hl pins s σ H _ I h) fun v s1 ⟨y, H1, I1, r1, q1⟩ => ?_
  obtain ⟨x, e, q⟩ := q1
  subst e
  obtain ⟨t, rfl⟩ := r1
  refine wpAny_pyIter_strU ?_
  have hty : strIterType x = "str_ascii_iterator" ∨ strIterType x = "str_iterator" := by
    unfold strIterType
    split
    · exact .inl rfl
    · exact .inr rfl
  refine ⟨s1.heap.objs.size, [s1.heap.objs.size], _, _, H1, rfl, I1.kept (t' := s1.toks) fun b o e => Heap.get?_push_of_some _ e, turn_str (t := t) hty, ⟨Nat.zero_le _, _, Heap.get?_push_size _ rfl, rfl, rfl⟩, fun b hb => ?_, q⟩
  have e : b = s1.heap.objs.size := by simpa using hb
  subst e
  exact I1.fpOk (Nat.le_refl _) (I1.hok.fresh (Nat.le_refl _))
theorem for_str {x : Str} {g : TG} {tb : TS} {D : Ends} {σ : St} {H : Hp} (Pv : Nat → St → Hp → Prop) (h0 : Pv 0 σ H)
    (hs : ∀ i c σ H, x.cps[i]? = some c → Pv i σ H → g (.str ⟨#[c]⟩) σ H fun σ2 H2 => tb { D with nx := Pv (i + 1), ct := Pv (i + 1), bk := D.nx } σ2 H2) (hd : ∀ σ H, Pv x.cps.size σ H → D.nx σ H) :
    ∃ W : Nat → Nat → St → Hp → Prop, (∃ m, W 0 m σ H) ∧ ∀ i m σ H, W i m σ H →
      ((Its x).stop i H ∧ D.nx σ H) ∨ ((Its x).go i H ∧ ∃ N : St → Hp → Prop, (∀ σ' H', N σ' H' → ∃ m', m' < m ∧ W (i + 1) m' σ' H') ∧ ∀ v H', (Its x).yld i H v H' → g v σ H' fun σ2 H2 => tb { D with nx := N, ct := N, bk := D.nx } σ2 H2) := by
  refine ⟨fun i m σ H => m = x.cps.size - i ∧ i ≤ x.cps.size ∧ Pv i σ H, ⟨x.cps.size, by simp, Nat.zero_le _, h0⟩, ?_⟩
  rintro i m σ H ⟨rfl, hi, p⟩
  by_cases hlt : i < x.cps.size
  · refine .inr ⟨hlt, Pv (i + 1), fun σ' H' p' => ⟨x.cps.size - (i + 1), by omega, rfl, hlt, p'⟩, fun v H' y => ?_⟩
    obtain ⟨e, c, hc, rfl⟩ := y
    subst e
    exact hs i c σ _ hc p
  · have e : i = x.cps.size := by omega
    subst e
    exact .inl ⟨Nat.le_refl _, hd σ H p⟩

/-! ### enumerate over a list -/
def Ite (K : PySem.W.Frag) (a : Addr) : It :=
  ⟨fun i H => ∃ xs x, SqL K H a xs ∧ xs[i]? = some x, fun i H v H' => ∃ t x, v = .ref t ∧ H t = none ∧ H' = upd H t (.tup [.int (i : Nat), x]) ∧ ∀ xs, SqL K H a xs → xs[i]? = some x, fun i H => ∃ xs, SqL K H a xs ∧ xs.length ≤ i⟩
/-- two records turn, a tuple is laid -/
theorem Inv.turnedT {X : Cx} {pins : List (Addr × Obj)} {σ : St} {H : Hp} {s : Shared} {h' : Heap} {t' : Nat} {e it : Addr} {xs : List V} {its : List Value} (I : Inv X pins σ H s) (k : ∀ b o, b ≠ e → b ≠ it → s.heap.get? b = some o → h'.get? b = some o)
    (fe : FpOk X pins H e) (fi : FpOk X pins H it) (he : ∃ o, s.heap.get? e = some o) (hi : ∃ o, s.heap.get? it = some o) (hv : Vals xs its) (hz : xs.length ≤ sizeLine)
    (hn : h'.get? s.heap.objs.size = some { cls := .type "tuple", data := .seq its.toArray }) : Inv X pins σ (upd H s.heap.objs.size (.tup xs)) { s with heap := h', toks := t' } := by
  have fr : H s.heap.objs.size = none := I.fresh
  have nel : ∀ b o, s.heap.get? b = some o → b ≠ s.heap.objs.size := fun b o q => Nat.ne_of_lt (Heap.lt_size q)
  refine I.step (g' := s.gens) (d' := s.drawn) (ch := [e, it]) (fun b hb => ?_) (fun b o _ _ hc q _ => k b o (fun z => hc (by simp [z])) (fun z => hc (by simp [z])) q)
    (fun b o _ _ hc q _ => ⟨o.slots, k b o (fun z => hc (by simp [z])) (fun z => hc (by simp [z])) q⟩) (fun b o _ q n => by rw [upd_ne (nel b o q)]; exact n)
    (fun b o hc q => ⟨o, k b o (fun z => hc (by simp [z])) (fun z => hc (by simp [z])) q⟩) (fun b ys q => by rw [upd_ne (ne_of_none q fr)]; exact q) (fun b o u q => by rw [upd_ne (ne_of_none q fr)]; exact q) (fun b ps q => ⟨#[], by rw [upd_ne (ne_of_none q fr), q]; simp⟩)
    (fun m hm => ?_) (fun b u q => ?_) I.bare
  · have hb' : b = e ∨ b = it := by simpa using hb
    rcases hb' with rfl | rfl
    · exact ⟨fe.2.2.2.1, fe.2.1, fe.2.2.2.2.1, fe.2.2.2.2.2⟩
    · exact ⟨fi.2.2.2.1, fi.2.1, fi.2.2.2.2.1, fi.2.2.2.2.2⟩
  · obtain ⟨o, es, ep, ho, r⟩ := hm
    exact ⟨o, es, ep, k _ o (Ne.symm fe.2.1) (Ne.symm fi.2.1) ho, r⟩
  · by_cases hb : b = s.heap.objs.size
    · subst hb
      rw [upd_same] at q
      cases q
      exact ⟨hz, its, hv, _, hn, rfl, _, rfl⟩
    · rw [upd_ne hb] at q
      refine (I.hok b u q).stay (fun c v hc q' => k c v ?_ ?_ q') (fun c q' => by rw [upd_ne (ne_of_none q' fr)]; exact q') fun c ys q' => by rw [upd_ne (ne_of_none q' fr)]; exact q'
      · rintro rfl
        rcases hc with z | z
        · rw [← z, fe.1] at q; cases q
        · rw [fe.1] at z; cases z
      · rintro rfl
        rcases hc with z | z
        · rw [← z, fi.1] at q; cases q
        · rw [fi.1] at z; cases z
theorem turn_enum {P : Program} {w : World} {K : PySem.W.Frag} {elts : List Expr} {k1 : Nat} {p1 : Pos} (a e it : Addr) (hne : e ≠ it) :
    Turn P w K (.Tuple elts k1 p1) (Ite K a) [e, it] e (fun i h => (∃ old, IsEnum h e it ((i : Nat) : Int) old) ∧ h.IsListIter it a i) where
  mem := by simp
  obj := fun i h st b hb => by
    obtain ⟨⟨old, he⟩, o, ho, c, d⟩ := st
    have hb' : b = e ∨ b = it := by simpa using hb
    rcases hb' with rfl | rfl
    · exact ⟨_, he, fun v z => by
        have z' : Data.fields _ = Data.cell v := z
        cases z'⟩
    · exact ⟨o, ho, fun v z => by rw [d] at z; cases z⟩
  keep := fun i h h' st k => by
    obtain ⟨⟨old, he⟩, hit⟩ := st
    exact ⟨⟨old, k e (by simp) _ he⟩, hit.at fun o q => k it (by simp) o q⟩
  item := by
    intro X hP hw hK hc i pins s σ H E I hf st hg
    subst hP hw hK
    obtain ⟨xs, x, hq, hx⟩ := hg
    obtain ⟨its, rv, p, hz⟩ := I.list hq
    obtain ⟨u, hu, ru⟩ := rv.get hx
    obtain ⟨⟨old, he⟩, hit⟩ := st
    have fe := hf e (by simp)
    have fi := hf it (by simp)
    obtain ⟨oi, hoi, _⟩ := id hit
    refine wpAny_pyNext_enum_item he hit p.isList (x := u) (by simpa using hu) hne fun h1 heo hit1 ht1 hz1 hk1 => ?_
    refine ⟨_, rfl, wpAny_letOwnedTupleGo_enum heo fun h2 he2 hs2 => ?_⟩
    have hs2' : Heap.SameBut e h1 h2 := hs2
    have hel : e < s.heap.objs.size := Heap.lt_size he
    have I1 : Inv X pins σ (upd H s.heap.objs.size (.tup [.int (i : Nat), x])) { s with heap := h2, toks := s.toks + 1 } :=
      I.turnedT (its := [.int i s.toks, u]) (fun b o h1' h2' q => hs2'.extBut b o h1' (hk1 b o h1' h2' q)) fe fi ⟨_, he⟩ ⟨_, hoi⟩ (.cons ⟨_, rfl⟩ (.cons ru .nil)) (by show 2 ≤ sizeLine; decide) ((hs2'.2 _ (Nat.ne_of_gt hel)).trans ht1)
    refine ⟨.ref s.heap.objs.size, _, I1, rfl, ⟨s.heap.objs.size, x, rfl, I.fresh, rfl, fun ys hy => by rw [I.list_inj hy hq]; exact hx⟩, ⟨⟨u, ?_⟩, hit1.extBut hs2'.extBut (Ne.symm hne)⟩, fun b hb => ?_⟩
    · have e3 : (((i + 1 : Nat)) : Int) = (i : Int) + 1 := by push_cast; rfl
      rw [e3]
      exact he2
    · have hb' : b = e ∨ b = it := by simpa using hb
      have hbl : b ≠ s.heap.objs.size := by
        rcases hb' with rfl | rfl
        · exact Nat.ne_of_lt (Heap.lt_size he)
        · exact Nat.ne_of_lt (Heap.lt_size hoi)
      rw [upd_ne hbl]
      exact (hf b hb).1
  done := by
    intro X hP hw hK hc i pins s σ H E I hf st hg
    subst hP hw hK
    obtain ⟨xs, hq, hx⟩ := hg
    obtain ⟨its, rv, p, hz⟩ := I.list hq
    obtain ⟨⟨old, he⟩, hit⟩ := st
    obtain ⟨f0, f1, f2, f3, f4, f5⟩ := hf it (by simp)
    have hl := rv.length
    exact wpAny_pyNext_enum_end (I.ok.hd hc) he hit p.isList (by simp; omega) fun h' eb => ⟨rfl, I.turned (t' := s.toks) (fun b o hb e => eb b o hb e) f0 f1 f3 f4 f5⟩
  self := fun A i s Q E st h => by
    obtain ⟨⟨old, he⟩, hit⟩ := st
    exact wpAny_pyIter_enum he h
def iEnum (K : PySem.W.Frag) (ta : TA) : TI := fun σ H R => ta σ H fun vs H1 => ∃ a, vs = [.ref a] ∧ (∃ xs, SqL K H1 a xs) ∧ R (Ite K a) H1
theorem pi_enum {X : Cx} {elts : List Expr} {k1 : Nat} {p1 : Pos} {a : Expr} {ta : TA} {p pos : Pos} (hg : Gl X "enumerate") (hm : X.mg "enumerate" = none) (ha : PA X [a] ta) (hs : starEach [a] X.env = [(false, eval a X.env)] := by rfl)
    (hb : bootBuiltins "enumerate" = some (.type "enumerate") := by first | exact boot_enumerate | exact PySem.boot_enumerate | rfl) : PI X (.Tuple elts k1 p1) (.Call (.Name "enumerate" p) [a] [] pos) (iEnum X.K ta) := by
  intro pins s σ H R I h
  refine Call_ (ld_blt I hg hm hb (PyProof.Rows.callWith_type1 (thn (ha pos pins s σ H _ I h) fun us s1 ⟨vs, H1, I1, r1, q1⟩ => ?_) hs rfl))
  obtain ⟨l, e, ⟨xs, hq⟩, q⟩ := q1
  subst e
  cases r1 with
  | cons r rr =>
    cases rr
    cases r
    obtain ⟨its, rv, pl, hz⟩ := I1.list hq
    refine call_enumerate_list pl.isList fun h' he hit hsz hk => ?_
    refine wpAny_pyIter_enum he ?_
    have I2 : Inv X pins σ H1 { s1 with heap := h' } := I1.kept (t' := s1.toks) hk
    refine ⟨s1.heap.objs.size + 1, [s1.heap.objs.size + 1, s1.heap.objs.size], _, _, H1, rfl, I2, turn_enum l _ _ (Nat.succ_ne_self _), ⟨⟨_, he⟩, hit⟩, fun b hb => ?_, q⟩
    have hb' : b = s1.heap.objs.size + 1 ∨ b = s1.heap.objs.size := by simpa using hb
    rcases hb' with rfl | rfl
    · exact I1.fpOk (Nat.le_succ _) (I1.hok.fresh (Nat.le_succ _))
    · exact I1.fpOk (Nat.le_refl _) (I1.hok.fresh (Nat.le_refl _))
/-- over a list that the body leaves as it is; the pairs are opened by the target -/
theorem for_enum {K : PySem.W.Frag} {a : Addr} {xs : List V} {g : TG} {tb : TS} {D : Ends} {σ : St} {H : Hp} (Pv : Nat → St → Hp → Prop) (h0 : Pv 0 σ H) (hl : ∀ i σ H, i ≤ xs.length → Pv i σ H → SqL K H a xs)
    (hs : ∀ i x t σ H, xs[i]? = some x → Pv i σ H → H t = none → g (.ref t) σ (upd H t (.tup [.int (i : Nat), x])) fun σ2 H2 => tb { D with nx := Pv (i + 1), ct := Pv (i + 1), bk := D.nx } σ2 H2) (hd : ∀ σ H, Pv xs.length σ H → D.nx σ H) :
    ∃ W : Nat → Nat → St → Hp → Prop, (∃ m, W 0 m σ H) ∧ ∀ i m σ H, W i m σ H →
      ((Ite K a).stop i H ∧ D.nx σ H) ∨ ((Ite K a).go i H ∧ ∃ N : St → Hp → Prop, (∀ σ' H', N σ' H' → ∃ m', m' < m ∧ W (i + 1) m' σ' H') ∧ ∀ x H', (Ite K a).yld i H x H' → g x σ H' fun σ2 H2 => tb { D with nx := N, ct := N, bk := D.nx } σ2 H2) := by
  refine ⟨fun i m σ H => m = xs.length - i ∧ i ≤ xs.length ∧ Pv i σ H, ⟨xs.length, by simp, Nat.zero_le _, h0⟩, ?_⟩
  rintro i m σ H ⟨rfl, hi, p⟩
  have q := hl i σ H hi p
  by_cases hlt : i < xs.length
  · refine .inr ⟨⟨xs, xs[i], q, by simp [hlt]⟩, Pv (i + 1), fun σ' H' p' => ⟨xs.length - (i + 1), by omega, rfl, hlt, p'⟩, fun v H' y => ?_⟩
    obtain ⟨t, x, rfl, ht, rfl, y⟩ := y
    exact hs i x t σ _ (y xs q) p ht
  · have e : i = xs.length := by omega
    subst e
    exact .inl ⟨⟨xs, q, Nat.le_refl _⟩, hd σ H p⟩

/-! ### isinstance against a built-in type -/
theorem call_isinst {X : Cx} : CallR X (.builtin "isinstance") (fun xs H Q => ∃ x n t b, xs = [x, .ty n] ∧ TyOf X.K H x t ∧ PySem.W.kitOne X.K t (.type n) = some b ∧ Q (.bl b) H) := by
  intro pins s σ H xs us Q I r h
  obtain ⟨x, n, t, b, rfl, ty, e, q⟩ := h
  obtain ⟨u, v, rfl, ru, rv⟩ := vals2 r
  cases rv
  exact isinst_ok I ru ty e fun tk => ⟨.bl b, H, I.tok _, rfl, q⟩

/-! ### methods of texts -/
theorem mt_count {X : Cx} : MtR X "str.count" (fun x xs H Q => ∃ y c, x = .str y ∧ xs = [.str ⟨#[c]⟩] ∧ Q (.int (cnt c y.cps.toList)) H) := by
  intro pins s σ H x xs v us Q I rx r h
  obtain ⟨y, c, rfl, rfl, q⟩ := h
  obtain ⟨t, rfl⟩ := rx
  obtain ⟨u, rfl, t', rfl⟩ := vals1 r
  refine SC.count ?_
  rw [count_cnt]
  exact ⟨.int _, H, I.tok _, ⟨_, rfl⟩, q⟩
theorem strsAre_of {ys : List Str} : ∀ {us : List Value}, Vals (ys.map V.str) us → StrsAre us ys := by
  induction ys with
  | nil => intro us r; rw [List.map_nil] at r; cases r; exact .nil
  | cons y ys ih =>
    intro us r
    rw [List.map_cons] at r
    cases r with
    | cons r1 r2 =>
      obtain ⟨t, e⟩ := r1
      subst e
      exact .cons y t (ih r2)
theorem mt_join {X : Cx} : MtR X "str.join" (fun x xs H Q => ∃ y l ys, x = .str y ∧ xs = [.ref l] ∧ SqL X.K H l (ys.map V.str) ∧ (ys.map (·.length)).sum + ys.length * y.length ≤ 16777216 ∧ Q (.str (Str.join y ys)) H) := by
  intro pins s σ H x xs v us Q I rx r h
  obtain ⟨y, l, ys, rfl, rfl, hq, hz, q⟩ := h
  obtain ⟨t, rfl⟩ := rx
  obtain ⟨u, rfl, ru⟩ := vals1 r
  cases ru
  obtain ⟨its, rv, p, _⟩ := I.list hq
  refine join_list p.isList (ys := ys) (by simpa using strsAre_of rv) hz fun t' k => ?_
  have e : Txt.join y ys = Str.join y ys := StrLaws.glued_eq_join y ys
  rw [e]
  exact ⟨.str _, H, I.tok _, ⟨_, rfl⟩, q⟩

/-! ### // by a divisor below 2^64 -/
def CDivB (i j : Int) : Prop := 0 < j ∧ j < 2 ^ 64
theorem op_fdivB {X : Cx} : OpR X (binaryOp .FloorDiv) (rI CDivB fun i j => .int (i / j)) := opI fun i j _ _ _ _ _ hc q => by
  have h1 : (0 : Int) < j := hc.1
  have h2 : j < 2 ^ 64 := hc.2
  refine floordiv_int (by omega) (by rw [Int.fdiv_eq_ediv_of_nonneg i (by omega)]; exact q) (.inl (PyProof.noPylong_of_log2 ?_))
  have h3 : j.natAbs ≠ 0 := by omega
  have h4 : j.natAbs < 2 ^ 64 := by omega
  have h5 : j.natAbs.log2 < 64 := (Nat.log2_lt h3).mpr h4
  omega
end L2
set_option Elab.async false
set_option linter.all false
set_option maxRecDepth 100000
set_option maxHeartbeats 4000000
namespace L2
open PySem PySem.Spec PyProof.Rows

/-! ### a comprehension whose block reads some of the def's names: js tells which slot of the def each of the block's slots begins with -/
def liftBy (js : List (Option Nat)) (σ : St) : St := js.map fun j => match j with | some j => σ.getD j none | none => none
def chkLift (N : List Str) (js : List (Option Nat)) (XN : List Str) (names : List (Str × NameKind)) : Bool :=
  decide (N.length = js.length) && (N.zip js).all fun p => match p.2 with | none => true | some j => decide (XN[j]? = some p.1) && decide (names.lookup p.1 = some .free)
theorem chk_len {N : List Str} {js : List (Option Nat)} {XN : List Str} {names : List (Str × NameKind)} (h : chkLift N js XN names = true) (σ : St) : (liftBy js σ).length = N.length := by
  unfold chkLift at h
  rw [Bool.and_eq_true] at h
  unfold liftBy
  rw [List.length_map]
  exact (of_decide_eq_true h.1).symm
theorem chk_at {N : List Str} {js : List (Option Nat)} {XN : List Str} {names : List (Str × NameKind)} (h : chkLift N js XN names = true) (σ : St) (i : Nat) (x : Str) (v : V) (h1 : N[i]? = some x) (h2 : (liftBy js σ)[i]? = some (some v)) :
    names.lookup x = some .free ∧ ∃ j : Nat, XN[j]? = some x ∧ σ[j]? = some (some v) := by
  unfold chkLift at h
  rw [Bool.and_eq_true, List.all_eq_true] at h
  unfold liftBy at h2
  rw [List.getElem?_map] at h2
  cases e : js[i]? with
  | none => rw [e] at h2; cases h2
  | some j =>
    rw [e] at h2
    cases j with
    | none => cases h2
    | some j =>
      have h3 : σ.getD j none = some v := Option.some.inj h2
      have hm : (x, some j) ∈ N.zip js := by
        refine List.mem_of_getElem? (i := i) ?_
        rw [List.getElem?_zip_eq_some]
        exact ⟨h1, e⟩
      have q := h.2 _ hm
      simp only [Bool.and_eq_true, decide_eq_true_eq] at q
      refine ⟨q.2, j, q.1, ?_⟩
      rw [List.getD_eq_getElem?_getD] at h3
      cases e2 : σ[j]? with
      | none => rw [e2] at h3; cases h3
      | some o => rw [e2] at h3; exact congrArg some h3
theorem pe_compL {X : Cx} {elt tg iter : Expr} {ifs : List Expr} {scope : Scope} {pos : Pos} {wi : TI} {g : TG} {tc : TT} {te : TE} (XN : List Str) (sc : Scope) (N : List Str) (js : List (Option Nat)) (hXN : X.N = XN) (hsc : X.env.scope = sc) (hc : X.calm = true) (hi : PI X tg iter wi)
    (hkind : scope.kind = .function) (hchk : chkLift N js XN scope.names = true) (hcell : ∀ y ∈ scope.names, y.2 ≠ .cell) (hfree : ∀ y ∈ scope.names, y.2 = .free → sc.names.lookup y.1 = some .cell ∨ sc.names.lookup y.1 = some .free)
    (hnames : ∀ y ∈ scope.names, y.2 = .local → scope.names.lookup y.1 = some .local)
    (hg : ∀ cl C s H ex pn E, PG (blockCx X scope N cl C s H ex pn E) tg g) (ht : ∀ cl C s H ex pn E, PIfs (blockCx X scope N cl C s H ex pn E) ifs tc) (he : ∀ cl C s H ex pn E, PE (blockCx X scope N cl C s H ex pn E) elt te)
    (hs : ∀ x, foldedSetIterable iter X.env x = pure x := by intro _; rfl) :
    PE X (.ListComp elt [⟨tg, iter, ifs, 0⟩] scope pos) (tComp wi g tc te (liftBy js)) := by
  subst hXN
  subst hsc
  exact pe_comp N (liftBy js) hc hi hkind hcell hfree hnames (fun σ _ => chk_len hchk σ) (fun σ i x v _ h1 h2 => chk_at hchk σ i x v h1 h2) hg ht he hs

theorem kit_tt (K : PySem.W.Frag) {T U : String} {b : Bool} (h : (if (Value.type T == Value.type U) = true then some true else (if PySem.W.kitMeta U = true then (fastBuiltinMro T).map (·.contains (.type U)) else none)) = some b) :
    PySem.W.kitOne K (.type T) (.type U) = some b := h
theorem kit_int_tuple (K : PySem.W.Frag) : PySem.W.kitOne K (.type "int") (.type "tuple") = some false := kit_tt K (by decide +kernel)
theorem kit_int_bool (K : PySem.W.Frag) : PySem.W.kitOne K (.type "int") (.type "bool") = some false := kit_tt K (by decide +kernel)
theorem kit_int_str (K : PySem.W.Frag) : PySem.W.kitOne K (.type "int") (.type "str") = some false := kit_tt K (by decide +kernel)
theorem kit_int_int (K : PySem.W.Frag) : PySem.W.kitOne K (.type "int") (.type "int") = some true := kit_tt K (by decide +kernel)

/-! ### small things -/
theorem atI_lt {α : Type} {xs : List α} {r : Int} (h0 : 0 ≤ r) (h1 : r < xs.length) : ∃ v, atI xs r = some v ∧ v ∈ xs := by
  have hk : r.toNat < xs.length := by omega
  have ek : r = ((r.toNat : Nat) : Int) := by omega
  refine ⟨xs[r.toNat], ?_, List.getElem_mem hk⟩
  have q : atI xs ((r.toNat : Nat) : Int) = some xs[r.toNat] := atI_nat (List.getElem?_eq_getElem hk)
  rw [← ek] at q
  exact q
theorem cutV_ints (ns : List Int) (lo hi : Option Int) : ∃ ms : List Int, cutV (ns.map V.int) lo hi = ms.map V.int ∧ ms.length ≤ ns.length := by
  refine ⟨(ns.drop (HT.sIx ns.length 0 lo)).take (HT.sIx ns.length ns.length hi - HT.sIx ns.length 0 lo), ?_, ?_⟩
  · unfold cutV
    rw [List.length_map, List.map_take, List.map_drop]
  · rw [List.length_take, List.length_drop]
    omega
theorem same_new {H : Hp} {p : Addr} (h : H p = none) (o : HO) : Same H (upd H p o) := fun b u q => by rw [upd_ne (ne_of_none q h)]; exact q
theorem map_int_at {ns : List Int} {i : Nat} {y : V} (h : (ns.map V.int)[i]? = some y) : ∃ z, y = V.int z := by
  rw [List.getElem?_map] at h
  cases e : ns[i]? with
  | none => rw [e] at h; cases h
  | some z => rw [e] at h; exact ⟨z, (Option.some.inj h).symm⟩
theorem small {n : Nat} (h : n ≤ 1000) : n ≤ sizeLine := Nat.le_of_lt (small1000 h)
theorem smn (n : Nat) (h : n ≤ 1000 := by decide) : n ≤ sizeLine := small h
theorem sizeLine_big : (1000000 : Nat) ≤ sizeLine := by rw [sizeLine_eq]; decide

/-- a pot: a list of two ints at p; all else that was tracked is as it was -/
structure Pot (H0 : Hp) (p : Addr) (H : Hp) : Prop where
  at_ : ∃ a b : Int, H p = some (.lst [.int a, .int b])
  old : ∀ c o, H0 c = some o → c ≠ p → H c = some o
theorem Pot.new {H0 H : Hp} {p l : Addr} {o : HO} (P : Pot H0 p H) (h : H l = none) : Pot H0 p (upd H l o) := by
  obtain ⟨a, b, e⟩ := P.at_
  exact ⟨⟨a, b, by rw [upd_ne (ne_of_none e h)]; exact e⟩, fun c u q hc => by
    have q' := P.old c u q hc
    rw [upd_ne (ne_of_none q' h)]
    exact q'⟩
theorem Pot.turn {H0 H : Hp} {p : Addr} {a b : Int} (P : Pot H0 p H) : Pot H0 p (upd H p (.lst [.int a, .int b])) :=
  ⟨⟨a, b, upd_same⟩, fun c u q hc => by rw [upd_ne hc]; exact P.old c u q hc⟩
end L2
namespace L2
open PySem PySem.Spec PyProof.Rows
theorem Pot.free {H0 H : Hp} {p l : Addr} (P : Pot H0 p H) (h : H l = none) : H0 l = none := by
  cases e : H0 l with
  | none => rfl
  | some o =>
    by_cases hl : l = p
    · obtain ⟨a, b, q⟩ := P.at_
      rw [hl, q] at h
      cases h
    · rw [P.old l o e hl] at h
      cases h
theorem Pot.list {H0 H : Hp} {p l : Addr} {o : HO} (P : Pot H0 p H) (h : H0 l = none) (hl : l ≠ p) : Pot H0 p (upd H l o) := by
  obtain ⟨a, b, e⟩ := P.at_
  exact ⟨⟨a, b, by rw [upd_ne (Ne.symm hl)]; exact e⟩, fun c u q hc => by rw [upd_ne (ne_of_none q h)]; exact P.old c u q hc⟩
theorem Pot.apart {H0 H : Hp} {p l : Addr} (P : Pot H0 p H) (h : H l = none) : l ≠ p := by
  obtain ⟨a, b, e⟩ := P.at_
  exact (ne_of_none e h).symm
theorem menu_str {K : PySem.W.Frag} {H : Hp} {l : Addr} {r : Int} {xs : List V} {Q : VK} (h : H l = some (.lst xs)) (r0 : 0 ≤ r) (r1 : r < (xs.length : Int)) (al : ∀ v ∈ xs, ∃ x : Str, v = .str x ∧ 0 < x.length ∧ x.length ≤ 1000)
    (k : ∀ x : Str, 0 < x.length → x.length ≤ 1000 → Q (.str x) H) : rIxL K (.ref l) (.int r) H Q := by
  obtain ⟨v, hv, hm⟩ := atI_lt r0 r1
  obtain ⟨x, rfl, h0, h1⟩ := al v hm
  exact ⟨l, xs, r, _, rfl, rfl, SqL.of h, hv, k x h0 h1⟩
theorem menu_int {K : PySem.W.Frag} {H : Hp} {l : Addr} {r : Int} {xs : List V} {Q : VK} {lo hi : Int} (h : H l = some (.lst xs)) (r0 : 0 ≤ r) (r1 : r < (xs.length : Int)) (al : ∀ v ∈ xs, ∃ x : Int, v = .int x ∧ lo ≤ x ∧ x ≤ hi)
    (k : ∀ x : Int, lo ≤ x → x ≤ hi → Q (.int x) H) : rIxL K (.ref l) (.int r) H Q := by
  obtain ⟨v, hv, hm⟩ := atI_lt r0 r1
  obtain ⟨x, rfl, h0, h1⟩ := al v hm
  exact ⟨l, xs, r, _, rfl, rfl, SqL.of h, hv, k x h0 h1⟩
theorem join_len {y : Str} (hy : y = ⟨#[]⟩) (cs : List Nat) : (Str.join y (cs.map fun c => (⟨#[c]⟩ : Str))).length = cs.length := by
  subst hy
  rw [join_ones]
  simp [Str.length]
theorem join_fits {y : Str} (hy : y = ⟨#[]⟩) (cs : List Nat) (h : cs.length ≤ 1000000) : ((cs.map fun c => (⟨#[c]⟩ : Str)).map (·.length)).sum + (cs.map fun c => (⟨#[c]⟩ : Str)).length * y.length ≤ 16777216 := by
  subst hy
  have e : ((cs.map fun c => (⟨#[c]⟩ : Str)).map (·.length)).sum = cs.length := by
    clear h
    induction cs with
    | nil => rfl
    | cons c r ih =>
      rw [List.map_cons, List.map_cons, List.sum_cons, ih, List.length_cons]
      show 1 + r.length = r.length + 1
      omega
  rw [e]
  show cs.length + _ * 0 ≤ _
  omega

theorem eq_sign {c : Nat} {y : Str} (hy : y = ⟨#[c]⟩) : decide (V.str ⟨#[c]⟩ = V.str y) = true := by
  subst hy
  exact decide_eq_true rfl
theorem ne_sign {c d : Nat} {y : Str} (hy : y = ⟨#[d]⟩) (h : ¬ c = d) : decide (V.str ⟨#[c]⟩ = V.str y) = false := by
  subst hy
  refine decide_eq_false fun z => h ?_
  injection z with z1
  injection z1 with z2
  simpa using z2
/-- how many signs are neither blanks nor line feeds -/
def sz : List Nat → Int
  | [] => 0
  | c :: r => (if c = 32 ∨ c = 10 then 0 else 1) + sz r
theorem sz_append (a b : List Nat) : sz (a ++ b) = sz a + sz b := by
  induction a with
  | nil => show sz b = 0 + sz b; omega
  | cons c r ih => show (if c = 32 ∨ c = 10 then (0 : Int) else 1) + sz (r ++ b) = (if c = 32 ∨ c = 10 then (0 : Int) else 1) + sz r + sz b; rw [ih]; omega
theorem sz_cnt (l : List Nat) : (l.length : Int) - cnt 32 l - cnt 10 l = sz l := by
  induction l with
  | nil => rfl
  | cons c r ih =>
    rw [cnt_cons, cnt_cons, List.length_cons]
    show _ = (if c = 32 ∨ c = 10 then (0 : Int) else 1) + sz r
    by_cases h1 : c = 32
    · subst h1
      simp only [if_true, true_or]
      rw [if_neg (by decide)]
      omega
    · by_cases h2 : c = 10
      · subst h2
        simp only [or_true, if_true]
        rw [if_neg (by decide)]
        omega
      · rw [if_neg h1, if_neg h2, if_neg (by simp [h1, h2])]
        omega
theorem sz_snoc (l : List Nat) (c : Nat) : sz (l ++ [c]) = sz l + (if c = 32 ∨ c = 10 then 0 else 1) := by
  rw [sz_append]
  show sz l + ((if c = 32 ∨ c = 10 then (0 : Int) else 1) + 0) = _
  omega
end L2
set_option Elab.async false
set_option linter.all false
set_option maxRecDepth 100000
set_option maxHeartbeats 4000000
namespace L2
open PySem PySem.Spec PyProof.Rows

/-! ### all of a list of truths -/
theorem bls_at {bs : List Bool} {its : List Value} (r : Vals (bs.map V.bl) its) {i : Nat} {v : Value} (h : its.toArray[i]? = some v) : v = .bool (bs.getD i true) := by
  have h' : its[i]? = some v := by simpa using h
  have hl := r.length
  have hi : i < its.length := (List.getElem?_eq_some_iff.mp h').1
  have hb : i < bs.length := by rw [List.length_map] at hl; omega
  obtain ⟨u, hu, ru⟩ := r.get (i := i) (x := V.bl bs[i]) (by rw [List.getElem?_map, List.getElem?_eq_getElem hb]; rfl)
  rw [h'] at hu
  cases hu
  have e : bs.getD i true = bs[i] := by rw [List.getD_eq_getElem?_getD, List.getElem?_eq_getElem hb]; rfl
  rw [e]
  exact ru
theorem all_range (bs : List Bool) : (List.range bs.length).all (fun i => bs.getD i true) = bs.all id := by
  rw [Bool.eq_iff_iff, List.all_eq_true, List.all_eq_true]
  constructor
  · intro h b hb
    obtain ⟨i, hi, e⟩ := List.getElem_of_mem hb
    have q := h i (List.mem_range.mpr hi)
    rw [List.getD_eq_getElem?_getD, List.getElem?_eq_getElem hi] at q
    rw [← e]
    exact q
  · intro h i hi
    have hi' := List.mem_range.mp hi
    rw [List.getD_eq_getElem?_getD, List.getElem?_eq_getElem hi']
    exact h _ (List.getElem_mem hi')
theorem call_allB {X : Cx} (hc : X.calm = true) : CallR X (.builtin "all") (fun xs H Q => ∃ (l : Addr) (bs : List Bool), xs = [.ref l] ∧ SqL X.K H l (bs.map V.bl) ∧ Q (.bl (bs.all id)) H) := by
  intro pins s σ H xs us Q I r h
  obtain ⟨l, bs, rfl, hq, q⟩ := h
  obtain ⟨u, rfl, ru⟩ := vals1 r
  cases ru
  obtain ⟨its, rv, p, hz⟩ := I.list hq
  have hd : X.A.in1.handled = none := I.ok.hd hc
  have hl := rv.length
  refine call_all_walk (wpAny_pyIter_list p.isList ?_)
  obtain ⟨o, n, eo, _⟩ := id p
  have hne : l ≠ s.heap.objs.size := Nat.ne_of_lt (Heap.lt_size eo)
  refine ⟨s.heap.objs.size, _, _, _, _, _, fun i => bs.getD i true, rfl, Walks.list hd s.heap.objs.size l hne its.toArray, ⟨⟨_, Heap.get?_push_size _ rfl, rfl, rfl⟩, p.isList.push _⟩, fun i v s' Q' E' hv hQ' => ?_, fun h' tk hk => ?_⟩
  · rw [bls_at rv hv]
    exact wpAny_truthy_bool hQ'
  · have e : its.toArray.size = bs.length := by rw [List.size_toArray, ← hl, List.length_map]
    rw [e, all_range]
    have I1 : Inv X pins σ H { s with heap := s.heap.push { cls := .type "list_iterator", data := .fields #[.ref l, .int 0 0] } } := I.kept (t' := s.toks) fun b o q => Heap.get?_push_of_some _ q
    obtain ⟨f0, f1, f2, f3, f4, f5⟩ := I.fpOk (b := s.heap.objs.size) (Nat.le_refl _) I.fresh
    exact ⟨.bl _, H, I1.turned (it := s.heap.objs.size) (fun b o hb e => hk b o (by simpa using hb) e) f0 f1 f3 f4 f5, rfl, q⟩
theorem op_isnot_bl {X : Cx} : OpR X (compareOp .IsNot) (fun x y H Q => ∃ a b, x = .bl a ∧ y = .bl b ∧ Q (.bl (!(a == b))) H) := by
  intro pins s σ H x y v u Q I rx ry h
  obtain ⟨a, b, rfl, rfl, q⟩ := h
  cases rx
  cases ry
  refine wpAny_isNot_plain rfl ?_
  have e : (Value.bool a == Value.bool b) = (a == b) := by cases a <;> cases b <;> rfl
  rw [e]
  exact ⟨.bl _, H, I, rfl, q⟩
theorem kit_str_tuple (K : PySem.W.Frag) : PySem.W.kitOne K (.type "str") (.type "tuple") = some false := kit_tt K (by decide +kernel)
theorem kit_str_bool (K : PySem.W.Frag) : PySem.W.kitOne K (.type "str") (.type "bool") = some false := kit_tt K (by decide +kernel)
theorem kit_str_str (K : PySem.W.Frag) : PySem.W.kitOne K (.type "str") (.type "str") = some true := kit_tt K (by decide +kernel)
theorem kit_bool_tuple (K : PySem.W.Frag) : PySem.W.kitOne K (.type "bool") (.type "tuple") = some false := kit_tt K (by decide +kernel)
theorem kit_bool_bool (K : PySem.W.Frag) : PySem.W.kitOne K (.type "bool") (.type "bool") = some true := kit_tt K (by decide +kernel)
theorem kit_tuple_tuple (K : PySem.W.Frag) : PySem.W.kitOne K (.type "tuple") (.type "tuple") = some true := kit_tt K (by decide +kernel)

/-! ### the letters -/
def LET : Str := "abcdefghijklmnopqrstuvwxyz"
theorem let_len : LET.length = 26 := by decide +kernel
theorem let_at : ∀ n : Nat, n < 26 → LET.cps.toList[n]? = some (97 + n) := by decide +kernel
theorem let_mem (c : Nat) : c ∈ LET.cps.toList ↔ 97 ≤ c ∧ c ≤ 122 := by
  have e : LET.cps.toList = List.range' 97 26 := by decide +kernel
  rw [e, List.mem_range']
  constructor
  · rintro ⟨i, hi, rfl⟩
    omega
  · rintro ⟨h1, h2⟩
    exact ⟨c - 97, by omega, by omega⟩
theorem cat_one (c : Nat) (t : List Nat) : (⟨#[c]⟩ : Str) ++ ⟨t.toArray⟩ = ⟨(c :: t).toArray⟩ := by
  show Str.mk (#[c] ++ t.toArray) = _
  congr 1
  simp
/-- a name: 1 to 8 small letters -/
def isNm (x : Str) : Bool := decide (1 ≤ x.length) && decide (x.length ≤ 8) && x.cps.toList.all fun c => decide (97 ≤ c ∧ c ≤ 122)
end L2
set_option Elab.async false
set_option linter.all false
set_option maxRecDepth 100000
set_option maxHeartbeats 4000000
namespace ZT
open PySem
open Sem (wp)
section
variable {prog : Program} {w : World} {A : Around} {E : Value → Shared → Prop} {s : Shared}
/-- what the next of a tuple's iterator is, as zip asks it -/
theorem tup_item {it t : Addr} {i : Nat} {its : Array Value} {x : Value} {Q : Value → Shared → Prop} (ti : s.heap.IsTupleIter it t i) (tt : s.heap.IsTuple t its) (tx : its[i]? = some x)
    (k : ∀ g, g.IsTupleIter it t (i + 1) → Heap.SameBut it s.heap g → Q x { s with heap := g }) : wpAny (model prog w) A (Builtin.SmallTypes.nextOf (.ref it)) Q E s := by
  obtain ⟨o, eo, ec, ed⟩ := id ti
  obtain ⟨ol, el, _, nl, dl⟩ := tt
  unfold Builtin.SmallTypes.nextOf
  refine wpAny_bind (wpAny_callSpecial?_slot (name := Str.ofString "__next__") ti.typeIs F.slot_tuple_iterator_next (wpAny_call_entry F.slot_tuple_iterator_next ti.typeIs F.entry_tuple_iterator_next ?_ (F.args_tuple_iterator_next_1 _)))
  show wpAny _ _ (field (.ref it) 0 >>= _) _ _ s
  refine wpAny_bind (wpAny_field eo ed (x := .ref t) rfl ?_)
  show wpAny _ _ (if (Value.ref t == Value.none) = true then _ else _) _ _ s
  rw [if_neg (by intro z; cases z)]
  show wpAny _ _ (field (.ref it) 1 >>= _) _ _ s
  refine wpAny_bind (wpAny_field eo ed (x := .int i 0) rfl ?_)
  show wpAny _ _ (seqItems? (.ref t) >>= _) _ _ s
  refine wpAny_bind (wpAny_seqItems el dl ?_)
  simp only [Int.toNat_natCast, tx]
  refine wpAny_bind (wpAny_setField eo ed (by simp) (wpAny_pure ⟨x, rfl, wpAny_pure (k _ ?_ (Heap.SameBut.update ..))⟩))
  refine ⟨_, Heap.get?_update_self _ eo (Obj.isFreed_of_fields (Obj.data_mapFields ed _)), (Obj.cls_mapFields ..).trans ec, ?_⟩
  rw [Obj.data_mapFields ed]
  simp [rawInt]
theorem tup_end {it t : Addr} {i : Nat} {its : Array Value} {Q : Value → Shared → Prop} (hd : A.handled = none) (ti : s.heap.IsTupleIter it t i) (tt : s.heap.IsTuple t its) (tx : its[i]? = none)
    (k : ∀ g e, Heap.ExtBut it s.heap g → (∃ o, g.get? e = some o ∧ o.cls = .type "StopIteration") → E (.ref e) { s with heap := g }) : wpAny (model prog w) A (Builtin.SmallTypes.nextOf (.ref it)) Q E s := by
  obtain ⟨o, eo, ec, ed⟩ := id ti
  obtain ⟨ol, el, _, nl, dl⟩ := tt
  unfold Builtin.SmallTypes.nextOf
  refine wpAny_bind (wpAny_callSpecial?_slot (name := Str.ofString "__next__") ti.typeIs F.slot_tuple_iterator_next (wpAny_call_entry F.slot_tuple_iterator_next ti.typeIs F.entry_tuple_iterator_next ?_ (F.args_tuple_iterator_next_1 _)))
  show wpAny _ _ (field (.ref it) 0 >>= _) _ _ s
  refine wpAny_bind (wpAny_field eo ed (x := .ref t) rfl ?_)
  show wpAny _ _ (if (Value.ref t == Value.none) = true then _ else _) _ _ s
  rw [if_neg (by intro z; cases z)]
  show wpAny _ _ (field (.ref it) 1 >>= _) _ _ s
  refine wpAny_bind (wpAny_field eo ed (x := .int i 0) rfl ?_)
  show wpAny _ _ (seqItems? (.ref t) >>= _) _ _ s
  refine wpAny_bind (wpAny_seqItems el dl ?_)
  simp only [Int.toNat_natCast, tx]
  refine wpAny_bind (wpAny_rule (wpAny_bind (wpAny_setField eo ed (by simp) ?_)))
  show wpAny _ _ (newExc (.type "StopIteration") [] >>= _) _ _ _
  refine wpAny_bind ?_
  simp only [newExc, newTuple]
  refine wpAny_bind (wpAny_newObj_type ?_ (by size_fits))
  refine wpAny_bind (m := firstArgMember _ _) (wpAny_of_eq (a := Value.none) (by first | rfl | (simp only [firstArgMember]; rfl)) ?_)
  refine wpAny_newObj_type ?_ (by size_fits)
  simp only [raiseNew]
  refine wpAny_bind (wpAny_handled ?_)
  first | rw [show A.in1.handled = none from hd] | rw [hd]
  refine wpAny_bind (wpAny_pure (wpAny_throw ?_))
  exact k _ _ (((Heap.SameBut.update ..).extBut.push _).push _) ⟨_, Heap.get?_push_size _ rfl, rfl⟩

/-- the records of a zip over two tuples stand apart -/
structure Apart (z TI TO i1 i2 t1 t2 : Addr) : Prop where
  a1 : TI ≠ z
  a2 : TO ≠ z
  a3 : i1 ≠ z
  a4 : i2 ≠ z
  b1 : TI ≠ TO
  b2 : TI ≠ i1
  b3 : TI ≠ i2
  b4 : TO ≠ i1
  b5 : TO ≠ i2
  b6 : i1 ≠ i2
  c1 : t1 ≠ z
  c2 : t1 ≠ TO
  c3 : t1 ≠ i1
  c4 : t1 ≠ i2
  d1 : t2 ≠ z
  d2 : t2 ≠ TO
  d3 : t2 ≠ i1
  d4 : t2 ≠ i2
theorem zip_item {z TI TO i1 i2 t1 t2 : Addr} {n1 n2 : Nat} {us vs : Array Value} {x y a b : Value} {Q : Value → Shared → Prop} (D : Apart z TI TO i1 i2 t1 t2) (zz : IsZip s.heap z TI TO .none) (zi : IsPair s.heap TI (.ref i1) (.ref i2)) (zo : IsPair s.heap TO a b)
    (r1 : s.heap.IsTupleIter i1 t1 n1) (r2 : s.heap.IsTupleIter i2 t2 n2) (u1 : s.heap.IsTuple t1 us) (u2 : s.heap.IsTuple t2 vs) (x1 : us[n1]? = some x) (x2 : vs[n2]? = some y)
    (k : ∀ g, IsZip g z TI TO (rawInt s.heap.objs.size) → IsPair g TO x y → g.IsTupleIter i1 t1 (n1 + 1) → g.IsTupleIter i2 t2 (n2 + 1) → IsPair g s.heap.objs.size x y → g.objs.size = s.heap.objs.size + 1 →
      (∀ c o, c ≠ z → c ≠ TO → c ≠ i1 → c ≠ i2 → s.heap.get? c = some o → g.get? c = some o) → Q (.ref s.heap.objs.size) { s with heap := g }) :
    wpAny (model prog w) A (Builtin.«zip.__next__» ⟨[.ref z], []⟩) (fun fin s' => ∃ v, fin = .done (.ret v) ∧ Q v s') E s := by
  show wpAny _ _ (field (.ref z) 2 >>= _) _ _ _
  refine wpAny_bind (wpAny_field zz rfl (x := .bool false) rfl ?_)
  show wpAny _ _ (field (.ref z) 3 >>= _) _ _ _
  refine wpAny_bind (wpAny_field zz rfl (x := .ref TI) rfl ?_)
  refine wpAny_bind (wpAny_seqItems zi rfl ?_)
  show wpAny _ _ (Builtin.SmallTypes.ownedTupleIsFree (.ref z) >>= _) _ _ _
  refine wpAny_bind ?_
  unfold Builtin.SmallTypes.ownedTupleIsFree
  refine wpAny_bind (wpAny_field zz rfl (x := .none) rfl (wpAny_pure ?_))
  simp only [if_true]
  refine wpAny_bind (wpAny_rule ?_)
  refine wpAny_bind (wpAny_field zz rfl (x := .ref TO) rfl ?_)
  refine wpAny_bind (wpAny_setField_rec zz (by simp) fun g1 zg1 s1 => ?_)
  replace zg1 : IsZip g1 z TI TO .ellipsis := zg1
  refine wpAny_bind ?_
  simp only [List.zipIdx_cons, List.zipIdx_nil, List.forIn_cons, List.forIn_nil]
  refine wpAny_bind (wpAny_bind (wpAny_onRaise ?_))
  show wpAny _ _ (Builtin.SmallTypes.nextOf (.ref i1) >>= _) _ _ _
  refine wpAny_bind (tup_item (r1.extBut s1.extBut D.a3) (u1.extBut s1.extBut D.c1) x1 fun g2 rg2 s2 => wpAny_pure ?_)
  have zo2 : IsPair g2 TO a b := s2.extBut _ _ D.b4 (s1.extBut _ _ D.a2 zo)
  refine wpAny_bind (wpAny_seqItems zo2 rfl ?_)
  refine wpAny_bind (wpAny_updateSeq_pair zo2 fun g3 zo3 s3 => ?_)
  replace zo3 : IsPair g3 TO x b := zo3
  refine wpAny_bind (wpAny_letGo (wpAny_pure ?_))
  refine wpAny_bind (wpAny_bind (wpAny_onRaise ?_))
  show wpAny _ _ (Builtin.SmallTypes.nextOf (.ref i2) >>= _) _ _ _
  refine wpAny_bind (tup_item (((r2.extBut s1.extBut D.a4).extBut s2.extBut D.b6.symm).extBut s3.extBut D.b5.symm) (((u2.extBut s1.extBut D.d1).extBut s2.extBut D.d3).extBut s3.extBut D.d2) x2 fun g4 rg4 s4 => wpAny_pure ?_)
  have zo4 : IsPair g4 TO x b := s4.extBut _ _ D.b5 zo3
  refine wpAny_bind (wpAny_seqItems zo4 rfl ?_)
  refine wpAny_bind (wpAny_updateSeq_pair zo4 fun g5 zo5 s5 => ?_)
  replace zo5 : IsPair g5 TO x y := zo5
  refine wpAny_bind (wpAny_letGo (wpAny_pure (wpAny_pure ?_)))
  refine wpAny_bind (wpAny_seqItems zo5 rfl ?_)
  refine wpAny_bind (wpAny_newTuple ?_)
  have sz : g5.objs.size = s.heap.objs.size := by rw [s5.1, s4.1, s3.1, s2.1, s1.1]
  have zg5 : IsZip g5 z TI TO .ellipsis := s5.extBut _ _ D.a2.symm (s4.extBut _ _ D.a4.symm (s3.extBut _ _ D.a2.symm (s2.extBut _ _ D.a3.symm zg1)))
  have kk : ∀ c o, c ≠ z → c ≠ TO → c ≠ i1 → c ≠ i2 → s.heap.get? c = some o → g5.get? c = some o := fun c o e1 e2 e3 e4 e =>
    s5.extBut _ _ e2 (s4.extBut _ _ e4 (s3.extBut _ _ e2 (s2.extBut _ _ e3 (s1.extBut _ _ e1 e))))
  have rg5 : g5.IsTupleIter i1 t1 (n1 + 1) := ((rg2.extBut s3.extBut D.b4.symm).extBut s4.extBut D.b6).extBut s5.extBut D.b4.symm
  have qg5 : g5.IsTupleIter i2 t2 (n2 + 1) := rg4.extBut s5.extBut D.b5.symm
  have lz : z < g5.objs.size := Heap.lt_size zg5
  show wpAny _ _ (Builtin.SmallTypes.ownedTupleHandOut (.ref z) (.ref g5.objs.size) >>= _) _ _ _
  refine wpAny_bind ?_
  unfold Builtin.SmallTypes.ownedTupleHandOut
  have zg6 : IsZip (g5.push { cls := .type "tuple", data := .seq #[x, y] }) z TI TO .ellipsis := Heap.get?_push_of_some _ zg5
  refine wpAny_bind (wpAny_setField_rec zg6 (by simp) fun g7 zg7 s7 => ?_)
  replace zg7 : IsZip g7 z TI TO (rawInt g5.objs.size) := zg7
  refine wpAny_setField_rec zg7 (by simp) fun g8 zg8 s8 => ?_
  replace zg8 : IsZip g8 z TI TO (rawInt g5.objs.size) := zg8
  have up : ∀ c o, c ≠ z → g5.get? c = some o → g8.get? c = some o := fun c o e1 e => s8.extBut _ _ e1 (s7.extBut _ _ e1 (Heap.get?_push_of_some _ e))
  have pg8 : IsPair g8 g5.objs.size x y := s8.extBut _ _ (Nat.ne_of_gt lz) (s7.extBut _ _ (Nat.ne_of_gt lz) (Heap.get?_push_size _ rfl))
  have sz8 : g8.objs.size = g5.objs.size + 1 := by rw [s8.1, s7.1, Heap.size_push]
  rw [sz] at zg8 pg8 sz8
  refine wpAny_pure ⟨_, rfl, ?_⟩
  show Q (.ref g5.objs.size) _
  rw [sz]
  obtain ⟨o1, eo1, q1⟩ := rg5
  obtain ⟨o2, eo2, q2⟩ := qg5
  exact k g8 zg8 (up _ _ D.a2 zo5) ⟨o1, up _ _ D.a3 eo1, q1⟩ ⟨o2, up _ _ D.a4 eo2, q2⟩ pg8 sz8 fun c o e1 e2 e3 e4 e => up c o e1 (kk c o e1 e2 e3 e4 e)
theorem zip_end {z TI TO i1 i2 t1 t2 : Addr} {n1 : Nat} {us : Array Value} {a b : Value} {Q : Fin → Shared → Prop} (hd : A.handled = none) (D : Apart z TI TO i1 i2 t1 t2) (zz : IsZip s.heap z TI TO .none) (zi : IsPair s.heap TI (.ref i1) (.ref i2)) (zo : IsPair s.heap TO a b)
    (r1 : s.heap.IsTupleIter i1 t1 n1) (u1 : s.heap.IsTuple t1 us) (x1 : us[n1]? = none)
    (k : ∀ g e, (∀ c o, c ≠ z → c ≠ TO → c ≠ i1 → c ≠ i2 → s.heap.get? c = some o → g.get? c = some o) → (∃ o, g.get? e = some o ∧ o.cls = .type "StopIteration") → E (.ref e) { s with heap := g }) :
    wpAny (model prog w) A (Builtin.«zip.__next__» ⟨[.ref z], []⟩) Q E s := by
  show wpAny _ _ (field (.ref z) 2 >>= _) _ _ _
  refine wpAny_bind (wpAny_field zz rfl (x := .bool false) rfl ?_)
  show wpAny _ _ (field (.ref z) 3 >>= _) _ _ _
  refine wpAny_bind (wpAny_field zz rfl (x := .ref TI) rfl ?_)
  refine wpAny_bind (wpAny_seqItems zi rfl ?_)
  show wpAny _ _ (Builtin.SmallTypes.ownedTupleIsFree (.ref z) >>= _) _ _ _
  refine wpAny_bind ?_
  unfold Builtin.SmallTypes.ownedTupleIsFree
  refine wpAny_bind (wpAny_field zz rfl (x := .none) rfl (wpAny_pure ?_))
  simp only [if_true]
  refine wpAny_bind (wpAny_rule ?_)
  refine wpAny_bind (wpAny_field zz rfl (x := .ref TO) rfl ?_)
  refine wpAny_bind (wpAny_setField_rec zz (by simp) fun g1 zg1 s1 => ?_)
  replace zg1 : IsZip g1 z TI TO .ellipsis := zg1
  refine wpAny_bind ?_
  simp only [List.zipIdx_cons, List.zipIdx_nil, List.forIn_cons, List.forIn_nil]
  refine wpAny_bind (wpAny_bind (wpAny_onRaise ?_))
  show wpAny _ _ (Builtin.SmallTypes.nextOf (.ref i1) >>= _) _ _ _
  refine wpAny_bind (tup_end hd (r1.extBut s1.extBut D.a3) (u1.extBut s1.extBut D.c1) x1 fun g2 e s2 he => ?_)
  obtain ⟨oe, eoe, ece⟩ := he
  have zg2 : IsZip g2 z TI TO .ellipsis := s2 _ _ D.a3.symm zg1
  have nez : e ≠ z := fun q => by subst q; rw [zg2] at eoe; cases eoe; simp at ece
  exact wpAny_setField_rec zg2 (by simp) fun g3 _ s3 => k g3 e (fun c o e1 _ e3 _ q => s3.extBut _ _ e1 (s2 _ _ e3 (s1.extBut _ _ e1 q))) ⟨oe, s3.extBut _ _ nez eoe, ece⟩
theorem next_item {z TI TO i1 i2 t1 t2 : Addr} {n1 n2 : Nat} {us vs : Array Value} {x y a b : Value} {Q : Option Value → Shared → Prop} (D : Apart z TI TO i1 i2 t1 t2) (zz : IsZip s.heap z TI TO .none) (zi : IsPair s.heap TI (.ref i1) (.ref i2)) (zo : IsPair s.heap TO a b)
    (r1 : s.heap.IsTupleIter i1 t1 n1) (r2 : s.heap.IsTupleIter i2 t2 n2) (u1 : s.heap.IsTuple t1 us) (u2 : s.heap.IsTuple t2 vs) (x1 : us[n1]? = some x) (x2 : vs[n2]? = some y)
    (k : ∀ g, IsZip g z TI TO (rawInt s.heap.objs.size) → IsPair g TO x y → g.IsTupleIter i1 t1 (n1 + 1) → g.IsTupleIter i2 t2 (n2 + 1) → IsPair g s.heap.objs.size x y → g.objs.size = s.heap.objs.size + 1 →
      (∀ c o, c ≠ z → c ≠ TO → c ≠ i1 → c ≠ i2 → s.heap.get? c = some o → g.get? c = some o) → Q (some (.ref s.heap.objs.size)) { s with heap := g }) :
    wpAny (model prog w) A (pyNext (.ref z)) Q E s := by
  have tz : s.TypeIs (.ref z) "zip" := ⟨_, zz, rfl⟩
  unfold pyNext
  exact wpAny_bind (wpAny_attempt (wpAny_callSpecial?_slot (name := Str.ofString "__next__") tz F.slot_zip_next (wpAny_call_entry F.slot_zip_next tz F.entry_zip_next
    (zip_item D zz zi zo r1 r2 u1 u2 x1 x2 fun g p1 p2 p3 p4 p5 p6 p7 => wpAny_pure (k g p1 p2 p3 p4 p5 p6 p7)) (F.args_zip_next_1 _))))
theorem next_end {z TI TO i1 i2 t1 t2 : Addr} {n1 : Nat} {us : Array Value} {a b : Value} {Q : Option Value → Shared → Prop} (hd : A.handled = none) (D : Apart z TI TO i1 i2 t1 t2) (zz : IsZip s.heap z TI TO .none) (zi : IsPair s.heap TI (.ref i1) (.ref i2)) (zo : IsPair s.heap TO a b)
    (r1 : s.heap.IsTupleIter i1 t1 n1) (u1 : s.heap.IsTuple t1 us) (x1 : us[n1]? = none)
    (k : ∀ g, (∀ c o, c ≠ z → c ≠ TO → c ≠ i1 → c ≠ i2 → s.heap.get? c = some o → g.get? c = some o) → Q none { s with heap := g }) : wpAny (model prog w) A (pyNext (.ref z)) Q E s := by
  have tz : s.TypeIs (.ref z) "zip" := ⟨_, zz, rfl⟩
  unfold pyNext
  refine wpAny_bind (wpAny_attempt (wpAny_callSpecial?_slot (name := Str.ofString "__next__") tz F.slot_zip_next (wpAny_call_entry F.slot_zip_next tz F.entry_zip_next (zip_end hd D zz zi zo r1 u1 x1 fun g e kk he => ?_) (F.args_zip_next_1 _))))
  obtain ⟨o, eo, ec⟩ := he
  exact wpAny_bind (wpAny_isInstance (T := "StopIteration") (b := true) ⟨o, eo, ec⟩ isSubtype_stop (wpAny_pure (k _ kk)))
end
abbrev zh1 (h : Heap) (t1 : Addr) : Heap := h.push { cls := .type "tuple_iterator", data := .fields #[.ref t1, .int 0 0] }
abbrev zh2 (h : Heap) (t1 t2 : Addr) : Heap := (zh1 h t1).push { cls := .type "tuple_iterator", data := .fields #[.ref t2, .int 0 0] }
abbrev zh3 (h : Heap) (t1 t2 : Addr) : Heap := (zh2 h t1 t2).push { cls := .type "tuple", data := .seq #[.ref h.objs.size, .ref (zh1 h t1).objs.size] }
abbrev zh4 (h : Heap) (t1 t2 : Addr) : Heap := (zh3 h t1 t2).push { cls := .type "tuple", data := .seq #[.none, .none] }
abbrev zh5 (h : Heap) (t1 t2 : Addr) : Heap := (zh4 h t1 t2).push { cls := .type "zip", data := .fields #[.none, .bool false, .bool false, .ref (zh2 h t1 t2).objs.size, .ref (zh3 h t1 t2).objs.size] }
theorem zip_new (t1 t2 : Addr) (us vs : Array Value) : Meets (Builtin.«zip.__new__» ⟨[.type "zip", .ref t1, .ref t2], []⟩) (fun _ R s => s.heap.IsTuple t1 us ∧ s.heap.IsTuple t2 vs ∧
      R (.ok (.ret (.ref (zh4 s.heap t1 t2).objs.size))) { s with heap := zh5 s.heap t1 t2 }) :=
  .of_wp fun prog w A R s h => by
    obtain ⟨hp, g, d, tk, os⟩ := s; obtain ⟨u1, u2, h⟩ := h
    have hsub := sub_zip
    have v1 : Heap.IsTuple (Shared.heap ⟨hp, g, d, tk, os⟩) t1 us := u1
    have v2 : Heap.IsTuple (Shared.heap ⟨zh1 hp t1, g, d, tk, os⟩) t2 vs := Heap.IsTuple.push u2 _
    wp_walk using wpAny_pyIter_tuple v1, wpAny_pyIter_tuple v2
    exact ⟨_, rfl, h⟩
theorem call_zip {prog : Program} {w : World} {A : Around} {E : Value → Shared → Prop} {s : Shared} {t1 t2 : Addr} {us vs : Array Value} {Q : Value → Shared → Prop} (u1 : s.heap.IsTuple t1 us) (u2 : s.heap.IsTuple t2 vs)
    (k : ∀ g, IsZip g (s.heap.objs.size + 4) (s.heap.objs.size + 2) (s.heap.objs.size + 3) .none → IsPair g (s.heap.objs.size + 2) (.ref s.heap.objs.size) (.ref (s.heap.objs.size + 1)) → IsPair g (s.heap.objs.size + 3) .none .none →
      g.IsTupleIter s.heap.objs.size t1 0 → g.IsTupleIter (s.heap.objs.size + 1) t2 0 → g.objs.size = s.heap.objs.size + 5 → (∀ c o, s.heap.get? c = some o → g.get? c = some o) → Q (.ref (s.heap.objs.size + 4)) { s with heap := g }) :
    wpAny (model prog w) A (call (.type "zip") [.ref t1, .ref t2]) Q E s := by
  refine callType_new F.called_zip (by decide) (F.typeCall_zip_2 _ _) (F.newCall_zip_2 _ _) (fun obj => F.args_object_init_3 obj _ _) F.entry_zip_new (zip_new t1 t2 us vs) ⟨u1, u2, ?_⟩
  have n1 : (zh1 s.heap t1).objs.size = s.heap.objs.size + 1 := Heap.size_push ..
  have n2 : (zh2 s.heap t1 t2).objs.size = s.heap.objs.size + 2 := by rw [Heap.size_push, n1]
  have n3 : (zh3 s.heap t1 t2).objs.size = s.heap.objs.size + 3 := by rw [Heap.size_push, n2]
  have n4 : (zh4 s.heap t1 t2).objs.size = s.heap.objs.size + 4 := by rw [Heap.size_push, n3]
  have n5 : (zh5 s.heap t1 t2).objs.size = s.heap.objs.size + 5 := by rw [Heap.size_push, n4]
  have p5 : (zh5 s.heap t1 t2).get? (zh4 s.heap t1 t2).objs.size = some _ := Heap.get?_push_size _ rfl
  have p4 : (zh5 s.heap t1 t2).get? (zh3 s.heap t1 t2).objs.size = some _ := Heap.get?_push_of_some _ (Heap.get?_push_size _ rfl)
  have p3 : (zh5 s.heap t1 t2).get? (zh2 s.heap t1 t2).objs.size = some _ := Heap.get?_push_of_some _ (Heap.get?_push_of_some _ (Heap.get?_push_size _ rfl))
  have p2 : (zh5 s.heap t1 t2).get? (zh1 s.heap t1).objs.size = some _ := Heap.get?_push_of_some _ (Heap.get?_push_of_some _ (Heap.get?_push_of_some _ (Heap.get?_push_size _ rfl)))
  have p1 : (zh5 s.heap t1 t2).get? s.heap.objs.size = some _ := Heap.get?_push_of_some _ (Heap.get?_push_of_some _ (Heap.get?_push_of_some _ (Heap.get?_push_of_some _ (Heap.get?_push_size _ rfl))))
  show _ ∧ _
  rw [n2, n3, n4] at p5
  rw [n1, n2] at p3
  rw [n3] at p4
  rw [n1] at p2
  rw [n4]
  exact ⟨⟨_, p5, rfl⟩, k _ p5 p3 p4 ⟨_, p1, rfl, rfl⟩ ⟨_, p2, rfl, rfl⟩ n5 fun c o q => Heap.get?_push_of_some _ (Heap.get?_push_of_some _ (Heap.get?_push_of_some _ (Heap.get?_push_of_some _ (Heap.get?_push_of_some _ q))))⟩
end ZT
set_option Elab.async false
set_option linter.all false
set_option maxRecDepth 100000
set_option maxHeartbeats 4000000
namespace L2
open PySem PySem.Spec PyProof.Rows

/-! ### several records turn -/
section
variable {X : Cx} {pins : List (Addr × Obj)} {σ : St} {H : Hp} {s : Shared} {h' : Heap} {t' : Nat} {ch : List Addr}
theorem Inv.turnedL (I : Inv X pins σ H s) (k : ∀ b o, b ∉ ch → s.heap.get? b = some o → h'.get? b = some o) (f : ∀ b ∈ ch, FpOk X pins H b) : Inv X pins σ H { s with heap := h', toks := t' } := by
  refine I.step (g' := s.gens) (d' := s.drawn) (ch := ch) (fun b hb => ?_) (fun b o _ _ hc q _ => k b o hc q) (fun b o _ _ hc q _ => ⟨o.slots, k b o hc q⟩) (fun b o _ q n => n)
    (fun b o hc q => ⟨o, k b o hc q⟩) (fun b ys q => q) (fun b o u q => q) (fun b ps q => ⟨#[], by rw [q]; simp⟩) (fun m hm => ?_) (fun b u q => ?_) I.bare
  · have fe := f b hb
    exact ⟨fe.2.2.2.1, fe.2.1, fe.2.2.2.2.1, fe.2.2.2.2.2⟩
  · obtain ⟨o, es, ep, ho, r⟩ := hm
    exact ⟨o, es, ep, k _ o (fun z => (f _ z).2.1 rfl) ho, r⟩
  · refine (I.hok b u q).stay (fun c v hc q' => k c v (fun z => ?_) q') (fun _ q' => q') fun _ _ q' => q'
    have fz := (f c z).1
    rcases hc with e | e
    · rw [e, q] at fz; cases fz
    · rw [e] at fz; cases fz
theorem Inv.turnedLT {xs : List V} {its : List Value} (I : Inv X pins σ H s) (k : ∀ b o, b ∉ ch → s.heap.get? b = some o → h'.get? b = some o) (f : ∀ b ∈ ch, FpOk X pins H b) (hv : Vals xs its) (hz : xs.length ≤ sizeLine)
    (hn : h'.get? s.heap.objs.size = some { cls := .type "tuple", data := .seq its.toArray }) : Inv X pins σ (upd H s.heap.objs.size (.tup xs)) { s with heap := h', toks := t' } := by
  have fr : H s.heap.objs.size = none := I.fresh
  have nel : ∀ b o, s.heap.get? b = some o → b ≠ s.heap.objs.size := fun b o q => Nat.ne_of_lt (Heap.lt_size q)
  refine I.step (g' := s.gens) (d' := s.drawn) (ch := ch) (fun b hb => ?_) (fun b o _ _ hc q _ => k b o hc q) (fun b o _ _ hc q _ => ⟨o.slots, k b o hc q⟩) (fun b o _ q n => by rw [upd_ne (nel b o q)]; exact n)
    (fun b o hc q => ⟨o, k b o hc q⟩) (fun b ys q => by rw [upd_ne (ne_of_none q fr)]; exact q) (fun b o u q => by rw [upd_ne (ne_of_none q fr)]; exact q) (fun b ps q => ⟨#[], by rw [upd_ne (ne_of_none q fr), q]; simp⟩) (fun m hm => ?_) (fun b u q => ?_) I.bare
  · have fe := f b hb
    exact ⟨fe.2.2.2.1, fe.2.1, fe.2.2.2.2.1, fe.2.2.2.2.2⟩
  · obtain ⟨o, es, ep, ho, r⟩ := hm
    exact ⟨o, es, ep, k _ o (fun z => (f _ z).2.1 rfl) ho, r⟩
  · by_cases hb : b = s.heap.objs.size
    · subst hb
      rw [upd_same] at q
      cases q
      exact ⟨hz, its, hv, _, hn, rfl, _, rfl⟩
    · rw [upd_ne hb] at q
      refine (I.hok b u q).stay (fun c v hc q' => k c v (fun z => ?_) q') (fun c q' => by rw [upd_ne (ne_of_none q' fr)]; exact q') fun c ys q' => by rw [upd_ne (ne_of_none q' fr)]; exact q'
      have fz := (f c z).1
      rcases hc with e | e
      · rw [e, q] at fz; cases fz
      · rw [e] at fz; cases fz
end

/-! ### zip over two tuples -/
theorem ne_nat {a b : Nat} (h : a < b ∨ b < a) : @Ne Addr a b := fun e => by
  have e' : @Eq Nat a b := e
  omega
def Itz (K : PySem.W.Frag) (a b : Addr) : It :=
  ⟨fun i H => ∃ xs ys x y, SqT K H a xs ∧ SqT K H b ys ∧ xs[i]? = some x ∧ ys[i]? = some y,
   fun i H v H' => ∃ t x y, v = .ref t ∧ H t = none ∧ H' = upd H t (.tup [x, y]) ∧ (∀ xs, SqT K H a xs → xs[i]? = some x) ∧ ∀ ys, SqT K H b ys → ys[i]? = some y,
   fun i H => ∃ xs, SqT K H a xs ∧ xs.length ≤ i⟩
theorem turn_zip {P : Program} {w : World} {K : PySem.W.Frag} {elts : List Expr} {k1 : Nat} {p1 : Pos} (a b z TI TO i1 i2 : Addr) (D : ZT.Apart z TI TO i1 i2 a b) :
    Turn P w K (.Tuple elts k1 p1) (Itz K a b) [z, TI, TO, i1, i2] z (fun i h => IsZip h z TI TO .none ∧ IsPair h TI (.ref i1) (.ref i2) ∧ (∃ u v, IsPair h TO u v) ∧ h.IsTupleIter i1 a i ∧ h.IsTupleIter i2 b i) where
  mem := by simp
  obj := fun i h st c hc => by
    obtain ⟨z1, z2, ⟨u, v, z3⟩, ⟨o1, e1, c1, d1⟩, ⟨o2, e2, c2, d2⟩⟩ := st
    have hc' : c = z ∨ c = TI ∨ c = TO ∨ c = i1 ∨ c = i2 := by simpa using hc
    rcases hc' with rfl | rfl | rfl | rfl | rfl
    · exact ⟨_, z1, fun v q => by have q' : Data.fields _ = Data.cell v := q; cases q'⟩
    · exact ⟨_, z2, fun v q => by have q' : Data.seq _ _ = Data.cell v := q; cases q'⟩
    · exact ⟨_, z3, fun v q => by have q' : Data.seq _ _ = Data.cell v := q; cases q'⟩
    · exact ⟨o1, e1, fun v q => by rw [d1] at q; cases q⟩
    · exact ⟨o2, e2, fun v q => by rw [d2] at q; cases q⟩
  keep := fun i h h' st k => by
    obtain ⟨z1, z2, ⟨u, v, z3⟩, ⟨o1, e1, r1⟩, ⟨o2, e2, r2⟩⟩ := st
    exact ⟨k z (by simp) _ z1, k TI (by simp) _ z2, ⟨u, v, k TO (by simp) _ z3⟩, ⟨o1, k i1 (by simp) _ e1, r1⟩, ⟨o2, k i2 (by simp) _ e2, r2⟩⟩
  item := by
    intro X hP hw hK hc i pins s σ H E I hf st hg
    subst hP hw hK
    obtain ⟨xs, ys, x, y, ha, hb, hx, hy⟩ := hg
    obtain ⟨z1, z2, ⟨u, v, z3⟩, r1, r2⟩ := st
    obtain ⟨ita, va, pa, _⟩ := I.tuple ha
    obtain ⟨itb, vb, pb, _⟩ := I.tuple hb
    obtain ⟨ux, eux, rx⟩ := va.get hx
    obtain ⟨uy, euy, ry⟩ := vb.get hy
    refine ZT.next_item D z1 z2 z3 r1 r2 (show s.heap.IsTuple a ita.toArray from pa) (show s.heap.IsTuple b itb.toArray from pb) (x := ux) (y := uy) (by simpa using eux) (by simpa using euy) fun g g1 g2 g3 g4 g5 g6 g7 => ?_
    refine ⟨_, rfl, wpAny_letOwnedTupleGo_zip g1 fun g' q1 q2 => ?_⟩
    have q2' : Heap.SameBut z g g' := q2
    have lz : z < s.heap.objs.size := Heap.lt_size z1
    have I1 : Inv X pins σ (upd H s.heap.objs.size (.tup [x, y])) { s with heap := g', toks := s.toks } :=
      I.turnedLT (ch := [z, TO, i1, i2]) (its := [ux, uy]) (fun c o hc q => by
        have hc' : ¬ (c = z ∨ c = TO ∨ c = i1 ∨ c = i2) := by simpa using hc
        exact q2'.extBut c o (fun e => hc' (.inl e)) (g7 c o (fun e => hc' (.inl e)) (fun e => hc' (.inr (.inl e))) (fun e => hc' (.inr (.inr (.inl e)))) (fun e => hc' (.inr (.inr (.inr e)))) q))
        (fun c hc => hf c (by
          have hc' : c = z ∨ c = TO ∨ c = i1 ∨ c = i2 := by simpa using hc
          rcases hc' with rfl | rfl | rfl | rfl <;> simp)) (.cons rx (.cons ry .nil)) (by show 2 ≤ sizeLine; decide) (q2'.extBut _ _ (Nat.ne_of_gt lz) g5)
    obtain ⟨o1, e1, w1⟩ := id g3
    obtain ⟨o2, e2, w2⟩ := id g4
    have old : ∀ c o, s.heap.get? c = some o → c ≠ s.heap.objs.size := fun c o e => Nat.ne_of_lt (Heap.lt_size e)
    refine ⟨.ref s.heap.objs.size, _, I1, rfl, ⟨s.heap.objs.size, x, y, rfl, I.fresh, rfl, fun xs' h' => by rw [I.tuple_inj h' ha]; exact hx, fun ys' h' => by rw [I.tuple_inj h' hb]; exact hy⟩,
      ⟨q1, q2'.extBut _ _ D.a1 (g7 _ _ D.a1 D.b1 D.b2 D.b3 z2), ⟨_, _, q2'.extBut _ _ D.a2 g2⟩, ⟨o1, q2'.extBut _ _ D.a3 e1, w1⟩, ⟨o2, q2'.extBut _ _ D.a4 e2, w2⟩⟩, fun c hc => ?_⟩
    have hc' : c = z ∨ c = TI ∨ c = TO ∨ c = i1 ∨ c = i2 := by simpa using hc
    have hn : c ≠ s.heap.objs.size := by
      obtain ⟨p1, f1, _⟩ := r1
      obtain ⟨p2, f2, _⟩ := r2
      rcases hc' with rfl | rfl | rfl | rfl | rfl
      · exact old _ _ z1
      · exact old _ _ z2
      · exact old _ _ z3
      · exact old _ _ f1
      · exact old _ _ f2
    rw [upd_ne hn]
    exact (hf c hc).1
  done := by
    intro X hP hw hK hc i pins s σ H E I hf st hg
    subst hP hw hK
    obtain ⟨xs, ha, hx⟩ := hg
    obtain ⟨z1, z2, ⟨u, v, z3⟩, r1, r2⟩ := st
    obtain ⟨ita, va, pa, _⟩ := I.tuple ha
    have hl := va.length
    refine ZT.next_end (I.ok.hd hc) D z1 z2 z3 r1 (show s.heap.IsTuple a ita.toArray from pa) (by simp; omega) fun g g7 => ⟨rfl, ?_⟩
    refine I.turnedL (t' := s.toks) (ch := [z, TO, i1, i2]) (fun c o hc q => ?_) fun c hc => hf c ?_
    · have hc' : ¬ (c = z ∨ c = TO ∨ c = i1 ∨ c = i2) := by simpa using hc
      exact g7 c o (fun e => hc' (.inl e)) (fun e => hc' (.inr (.inl e))) (fun e => hc' (.inr (.inr (.inl e)))) (fun e => hc' (.inr (.inr (.inr e)))) q
    · have hc' : c = z ∨ c = TO ∨ c = i1 ∨ c = i2 := by simpa using hc
      rcases hc' with rfl | rfl | rfl | rfl <;> simp
  self := fun A i s Q E st h => wpAny_pyIter_zip st.1 h
def iZip (K : PySem.W.Frag) (ta : TA) : TI := fun σ H R => ta σ H fun vs H1 => ∃ a b, vs = [.ref a, .ref b] ∧ (∃ xs, SqT K H1 a xs) ∧ (∃ ys, SqT K H1 b ys) ∧ R (Itz K a b) H1
theorem boot_zip' : bootBuiltins "zip" = some (.type "zip") := by decide +kernel
theorem pi_zip {X : Cx} {elts : List Expr} {k1 : Nat} {p1 : Pos} {a b : Expr} {ta : TA} {p pos : Pos} (hg : Gl X "zip") (hm : X.mg "zip" = none) (ha : PA X [a, b] ta) (hs : starEach [a, b] X.env = [(false, eval a X.env), (false, eval b X.env)] := by rfl)
    (hs2 : starEach [b] X.env = [(false, eval b X.env)] := by rfl) : PI X (.Tuple elts k1 p1) (.Call (.Name "zip" p) [a, b] [] pos) (iZip X.K ta) := by
  intro pins s σ H R I h
  refine Call_ (ld_blt I hg hm boot_zip' (PyProof.Rows.callWith_type1 (thn (ha pos pins s σ H _ I h) fun us s1 ⟨vs, H1, I1, r1, q1⟩ => ?_) (by rw [hs, hs2]) (by rw [hs2]; rfl)))
  obtain ⟨l1, l2, e, ⟨xs, hq⟩, ⟨ys, hq'⟩, q⟩ := q1
  subst e
  cases r1 with
  | cons r rr =>
    cases rr with
    | cons r' rr =>
      cases rr
      cases r
      cases r'
      obtain ⟨ita, va, pa, _⟩ := I1.tuple hq
      obtain ⟨itb, vb, pb, _⟩ := I1.tuple hq'
      have la : l1 < s1.heap.objs.size := pa.lt
      have lb : l2 < s1.heap.objs.size := pb.lt
      refine ZT.call_zip (show s1.heap.IsTuple l1 ita.toArray from pa) (show s1.heap.IsTuple l2 itb.toArray from pb) fun g g1 g2 g3 g4 g5 g6 g7 => ?_
      refine wpAny_pyIter_zip g1 ?_
      have I2 : Inv X pins σ H1 { s1 with heap := g } := I1.kept (t' := s1.toks) g7
      have D : ZT.Apart (s1.heap.objs.size + 4) (s1.heap.objs.size + 2) (s1.heap.objs.size + 3) s1.heap.objs.size (s1.heap.objs.size + 1) l1 l2 := by
        constructor <;> (apply ne_nat; first | exact Or.inl (by omega) | exact Or.inr (by omega) | exact Or.inl (Nat.lt_of_lt_of_le (by assumption) (by omega)))
      refine ⟨s1.heap.objs.size + 4, _, _, _, H1, rfl, I2, turn_zip l1 l2 _ _ _ _ _ D, ⟨g1, g2, ⟨_, _, g3⟩, g4, g5⟩, fun c hc => ?_, q⟩
      have hc' : c = s1.heap.objs.size + 4 ∨ c = s1.heap.objs.size + 2 ∨ c = s1.heap.objs.size + 3 ∨ c = s1.heap.objs.size ∨ c = s1.heap.objs.size + 1 := by simpa using hc
      have hle : s1.heap.objs.size ≤ c := by rcases hc' with rfl | rfl | rfl | rfl | rfl <;> omega
      exact I1.fpOk hle (I1.hok.fresh hle)
end L2
set_option linter.all false
namespace M01
open PySem
/-- a letter or a figure -/
def isW (c : Nat) : Bool := decide (97 ≤ c ∧ c ≤ 122) || decide (65 ≤ c ∧ c ≤ 90) || decide (48 ≤ c ∧ c ≤ 57)
abbrev S := List (List Nat) × List Nat
def stp (st : S) (c : Nat) : S := if isW c = true then (st.1, st.2 ++ [c]) else (if st.2 = [] then st else (st.1 ++ [st.2], []))
def scn (l : List Nat) : S := l.foldl stp ([], [])
def fn (st : S) : List (List Nat) := if st.2 = [] then st.1 else st.1 ++ [st.2]
/-- the words of a text, by its signs -/
def wds (l : List Nat) : List (List Nat) := fn (scn l)
theorem scn_snoc (l : List Nat) (c : Nat) : scn (l ++ [c]) = stp (scn l) c := by
  unfold scn
  rw [List.foldl_append]
  rfl
theorem last_scn (l : List Nat) (c : Nat) : (scn (l ++ [c])).2 = [] ↔ isW c = false := by
  rw [scn_snoc]
  unfold stp
  by_cases h : isW c = true
  · rw [if_pos h]
    simp [h]
  · rw [if_neg h]
    have h' : isW c = false := by simpa using h
    by_cases e : (scn l).2 = []
    · rw [if_pos e]
      exact ⟨fun _ => h', fun _ => e⟩
    · rw [if_neg e]
      exact ⟨fun _ => h', fun _ => rfl⟩
/-- the runs begun in the first part, whole -/
def cmp (st : S) (rest : List Nat) : List (List Nat) := if st.2 = [] then st.1 else st.1 ++ [st.2 ++ rest.takeWhile isW]
theorem cmp_nil (st : S) : cmp st [] = fn st := by
  unfold cmp fn
  simp
theorem cmp_new {st : S} {c : Nat} {rest : List Nat} (h : isW c = true) (e : st.2 = []) : cmp (stp st c) rest = cmp st (c :: rest) ++ [(c :: rest).takeWhile isW] := by
  unfold cmp stp
  rw [if_pos h, if_pos e]
  show (if st.2 ++ [c] = [] then st.1 else st.1 ++ [st.2 ++ [c] ++ rest.takeWhile isW]) = _
  rw [e, if_neg (by simp), List.takeWhile_cons, if_pos h]
  rfl
theorem cmp_old {st : S} {c : Nat} {rest : List Nat} (h : ¬ (isW c = true ∧ st.2 = [])) : cmp (stp st c) rest = cmp st (c :: rest) := by
  unfold cmp stp
  by_cases hw : isW c = true
  · have e : ¬ st.2 = [] := fun z => h ⟨hw, z⟩
    rw [if_pos hw, if_neg e]
    show (if st.2 ++ [c] = [] then st.1 else st.1 ++ [st.2 ++ [c] ++ rest.takeWhile isW]) = _
    rw [if_neg (by simp), List.takeWhile_cons, if_pos hw, List.append_assoc]
    rfl
  · rw [if_neg hw]
    by_cases e : st.2 = []
    · rw [if_pos e, if_pos e, if_pos e]
    · rw [if_neg e, if_neg e]
      show (if ([] : List Nat) = [] then st.1 ++ [st.2] else _) = _
      rw [if_pos rfl, List.takeWhile_cons, if_neg hw, List.append_nil]
/-- other signs made blanks -/
def bl (c : Nat) : Nat := if isW c = true then c else 32
theorem sp_of (c : Nat) : Unicode.isSpace (bl c) = !isW c := by
  unfold bl
  by_cases h : isW c = true
  · rw [if_pos h, h]
    have hc : c < 123 := by
      unfold isW at h
      simp only [Bool.or_eq_true, decide_eq_true_eq] at h
      omega
    have all : ∀ d, d < 123 → isW d = true → Unicode.isSpace d = false := by decide +kernel
    rw [all c hc h]
    rfl
  · have h' : isW c = false := by simpa using h
    rw [if_neg h, h']
    decide +kernel
theorem str_len (l : List Nat) : (⟨l.toArray⟩ : Str).length = l.length := by simp [Str.length]
theorem fold_scan : ∀ (l : List Nat) (st : KWd.St) (q : S), st.1 = q.1.map (fun r => (⟨r.toArray⟩ : Str)) → st.2 = ⟨q.2.toArray⟩ →
    ((l.map bl).foldl KWd.step st).1 = ((l.foldl stp q).1).map (fun r => (⟨r.toArray⟩ : Str)) ∧ ((l.map bl).foldl KWd.step st).2 = ⟨(l.foldl stp q).2.toArray⟩
  | [], st, q, h1, h2 => ⟨h1, h2⟩
  | c :: r, st, q, h1, h2 => by
    rw [List.map_cons, List.foldl_cons, List.foldl_cons]
    refine fold_scan r _ _ ?_ ?_
    · unfold KWd.step stp
      rw [sp_of]
      by_cases h : isW c = true
      · rw [h]
        simp only [Bool.not_true, Bool.false_eq_true, if_false, if_true]
        exact h1
      · have h' : isW c = false := by simpa using h
        rw [h']
        simp only [Bool.not_false, if_true, Bool.false_eq_true, if_false]
        by_cases e : q.2 = []
        · rw [if_pos (by rw [h2, e]; rfl), if_pos e]
          exact h1
        · have hl : ¬ st.2.length = 0 := by
            rw [h2, str_len]
            intro z
            exact e (List.length_eq_zero_iff.mp z)
          rw [if_neg hl, if_neg e]
          show st.1 ++ [st.2] = (q.1 ++ [q.2]).map _
          rw [List.map_append, h1, h2]
          rfl
    · unfold KWd.step stp
      rw [sp_of]
      by_cases h : isW c = true
      · rw [h]
        simp only [Bool.not_true, Bool.false_eq_true, if_false, if_true]
        rw [h2]
        show Str.mk (q.2.toArray ++ #[bl c]) = _
        unfold bl
        rw [if_pos h]
        congr 1
        simp
      · have h' : isW c = false := by simpa using h
        rw [h']
        simp only [Bool.not_false, if_true, Bool.false_eq_true, if_false]
        by_cases e : q.2 = []
        · rw [if_pos (by rw [h2, e]; rfl), if_pos e]
          exact h2
        · have hl : ¬ st.2.length = 0 := by
            rw [h2, str_len]
            intro z
            exact e (List.length_eq_zero_iff.mp z)
          rw [if_neg hl, if_neg e]
          rfl
theorem words_wds (l : List Nat) : Txt.words ⟨(l.map bl).toArray⟩ = (wds l).map (fun r => (⟨r.toArray⟩ : Str)) := by
  rw [KWd.words_scan]
  obtain ⟨h1, h2⟩ := fold_scan l ([], Str.empty) ([], []) rfl rfl
  have e : KWd.scan ⟨(l.map bl).toArray⟩ = (l.map bl).foldl KWd.step ([], Str.empty) := by
    unfold KWd.scan
    simp
  unfold KWd.fin wds fn scn
  rw [e, h1, h2, str_len]
  by_cases z : (l.foldl stp ([], [])).2 = []
  · rw [if_pos (by rw [z]; rfl), if_pos z]
  · rw [if_neg (fun q => z (List.length_eq_zero_iff.mp q)), if_neg z, List.map_append]
    rfl
/-- a word is no longer than the text, and there are no more words than signs -/
theorem scn_size : ∀ (l : List Nat) (q : S), (l.foldl stp q).1.length + (l.foldl stp q).2.length ≤ q.1.length + q.2.length + l.length
  | [], q => by simp
  | c :: r, q => by
    rw [List.foldl_cons]
    have ih := scn_size r (stp q c)
    have h : (stp q c).1.length + (stp q c).2.length ≤ q.1.length + q.2.length + 1 := by
      unfold stp
      by_cases h : isW c = true
      · rw [if_pos h]
        simp only [List.length_append, List.length_cons, List.length_nil]
        omega
      · rw [if_neg h]
        by_cases e : q.2 = []
        · rw [if_pos e]; omega
        · rw [if_neg e]
          have : 0 < q.2.length := List.length_pos_iff.mpr e
          simp only [List.length_append, List.length_cons, List.length_nil]
          omega
    rw [List.length_cons]
    omega
theorem wds_le (l : List Nat) : (wds l).length ≤ l.length := by
  have h := scn_size l ([], [])
  simp only [List.length_nil, Nat.zero_add] at h
  unfold wds fn
  show (if (l.foldl stp ([], [])).2 = [] then _ else _ : List (List Nat)).length ≤ _
  by_cases e : (l.foldl stp ([], [])).2 = []
  · rw [if_pos e]
    show (l.foldl stp ([], [])).1.length ≤ _
    omega
  · rw [if_neg e, List.length_append]
    have : 0 < (l.foldl stp ([], [])).2.length := List.length_pos_iff.mpr e
    show (l.foldl stp ([], [])).1.length + 1 ≤ _
    omega
end M01
set_option Elab.async false
set_option linter.all false
set_option maxRecDepth 100000
set_option maxHeartbeats 4000000
namespace L2
open PySem PySem.Spec PyProof.Rows

/-! ### a slice of a text -/
theorem isPart_of {v : Value} {o : Option Int} (h : IsPart v o) : ∃ q : Option (Int × Tok), v = partValue q ∧ o = q.map (·.1) := by
  cases h with
  | none => exact ⟨none, rfl, rfl⟩
  | int i t => exact ⟨some (i, t), rfl, rfl⟩
def rSlS : V → Option Int → Option Int → Hp → VK → Prop := fun x lo hi H Q => ∃ y : Str, x = .str y ∧ y.length ≤ sizeLine ∧ Q (.str (Txt.slice y lo hi)) H
theorem sl_str {X : Cx} : SlR X rSlS := by
  intro pins s σ H x v vl vu lo hi sl Q I rx hs pl pu h
  obtain ⟨y, rfl, hz, q⟩ := h
  obtain ⟨t, rfl⟩ := rx
  obtain ⟨ql, rfl, rfl⟩ := isPart_of pl
  obtain ⟨qu, rfl, rfl⟩ := isPart_of pu
  refine ⟨"str", _, F.slot_str_getitem.lookup, typeIs_str _ _ _, ?_⟩
  refine wpAny_getItem_str_slice (l := ql) (u := qu) (st := none) hs rfl ?_
  exact post_val_or_str ⟨Nat.le_trans (Txt.slice_le y _ _) hz, fun t' k => ⟨.str _, H, I.tok _, ⟨_, rfl⟩, q⟩⟩
theorem slice_at {y : Str} {i j : Nat} (h1 : i ≤ j) (h2 : j ≤ y.cps.toList.length) : Txt.slice y (some (i : Int)) (some (j : Int)) = ⟨((y.cps.toList.drop i).take (j - i)).toArray⟩ := by
  have h := slice_closes (x := y) (i := (i : Int)) (j := (j : Int)) ⟨by omega, by omega, by omega⟩
  have h' := of_decide_eq_true (by simpa using h : decide (Txt.slice y (some (i : Int)) (some (j : Int)) = ⟨((y.cps.toList.drop (i : Int).toNat).take ((j : Int) - i).toNat).toArray⟩) = true)
  rw [h']
  have e1 : ((i : Int)).toNat = i := by omega
  have e2 : ((j : Int) - i).toNat = j - i := by omega
  rw [e1, e2]

/-! ### split at blanks -/
theorem strVals_of (l : List (Str × Tok)) : Vals ((l.map (·.1)).map V.str) (strValues l) := by
  induction l with
  | nil => exact .nil
  | cons p r ih => exact .cons ⟨p.2, rfl⟩ ih
theorem mt_split {X : Cx} : MtR X "str.split" (fun x xs H Q => ∃ y : Str, x = .str y ∧ xs = [] ∧ y.length ≤ 100000 ∧ ∀ l, H l = none → Q (.ref l) (upd H l (.lst ((Txt.words y).map V.str)))) := by
  intro pins s σ H x xs v us Q I rx r h
  obtain ⟨y, rfl, rfl, hz, q⟩ := h
  obtain ⟨t, rfl⟩ := rx
  cases r
  have hb := sizeLine_big
  have e1 := (StrLaws.sw_weight y).1
  have e2 := StrLaws.len_le_wsum (Builtin.Str.spaceWords y (y.length + 1))
  have hn : (Builtin.Str.spaceWords y (y.length + 1)).length ≤ sizeLine := by omega
  refine call_meets F.slot_str_split (typeIs_str _ _ _) F.entry_str_split (F.args_str_split_1 _) (meets_str_split_space y t (by omega) hn) ?_
  have fin : ∀ (l : List (Str × Tok)) (tk : Nat), l.map (·.1) = Txt.words y → l.length ≤ sizeLine → EP X pins σ Q (.ref s.heap.objs.size) { s with heap := s.heap.push { cls := .type "list", data := .seq (strValues l).toArray }, toks := tk } := fun l tk e hl => by
    refine ⟨.ref s.heap.objs.size, _, I.lnew (its := strValues l) (ys := (l.map (·.1)).map V.str) (strVals_of l) (by rw [List.length_map, List.length_map]; exact hl), rfl, ?_⟩
    rw [e]
    exact q _ I.fresh
  cases hw : Builtin.Str.spaceWords y (y.length + 1) == [(0, y.length)]
  · simp only [Bool.false_eq_true, if_false]
    rw [strsFrom_eq]
    have et := numbered_texts s.toks (wordsOf y)
    refine fin (numbered s.toks (wordsOf y)) _ (et.trans (if_neg (ne_true_of_eq_false hw)).symm) ?_
    have el := congrArg List.length et
    rw [List.length_map] at el
    rw [el]
    unfold wordsOf
    rw [List.length_map]
    exact hn
  · simp only [if_true]
    exact fin [(y, t)] s.toks (if_pos hw).symm (by show 1 ≤ sizeLine; omega)

/-! ### signs compared -/
theorem lt_sign (a c : Nat) : decide (([c] : List Nat) < [a]) = decide (c < a) := by
  rw [Bool.eq_iff_iff]
  simp only [decide_eq_true_eq]
  constructor
  · intro h
    cases h with
    | cons h => cases h
    | rel h => exact h
  · intro h
    exact List.Lex.rel h
def rLeS : R2 := fun x y H Q => ∃ a c : Nat, x = .str ⟨#[a]⟩ ∧ y = .str ⟨#[c]⟩ ∧ Q (.bl (decide (a ≤ c))) H
theorem op_leS {X : Cx} : OpR X (compareOp .LtE) rLeS := by
  intro pins s σ H x y v u Q I rx ry h
  obtain ⟨a, c, rfl, rfl, q⟩ := h
  obtain ⟨t, rfl⟩ := rx
  obtain ⟨t', rfl⟩ := ry
  refine PySem.P.le_str ?_
  have e : (!decide (([c] : List Nat) < [a])) = decide (a ≤ c) := by
    rw [lt_sign, Bool.eq_iff_iff]
    simp
  show EP X pins σ Q (.bool (!decide (([c] : List Nat) < [a]))) s
  rw [e]
  exact ⟨.bl _, H, I, rfl, q⟩
theorem chain_sign {i a b c : Nat} {x z : Str} {σ : St} {H : Hp} {Q : VK} (hx : x = ⟨#[a]⟩) (hz : z = ⟨#[b]⟩) (h0 : σ[i]? = some (some (.str ⟨#[c]⟩))) (q : Q (.bl (decide (a ≤ c ∧ c ≤ b))) H) :
    tChain rLeS rLeS (tC (.str x)) (tVar i) (tC (.str z)) σ H Q := by
  subst hx
  subst hz
  refine ⟨_, h0, a, c, rfl, rfl, _, rfl, ?_⟩
  refine ite2 (fun h => ?_) (fun h => ?_)
  · refine ⟨c, b, rfl, rfl, ?_⟩
    have h' : a ≤ c := of_decide_eq_true h
    have e : decide (a ≤ c ∧ c ≤ b) = decide (c ≤ b) := decide_eq_decide.mpr ⟨fun z => z.2, fun z => ⟨h', z⟩⟩
    rw [← e]
    exact q
  · have e : decide (a ≤ c ∧ c ≤ b) = false := decide_eq_false fun z => h (decide_eq_true z.1)
    rw [e] at q
    exact q
end L2
set_option Elab.async false
set_option linter.all false
set_option maxRecDepth 100000
set_option maxHeartbeats 4000000
namespace L2
open PySem PySem.Spec PyProof.Rows

/-! ### a def that may be called, by its name -/
structure Cal (P : Program) (w : World) (K : PySem.W.Frag) (mg : Str → Option Value) (base : Heap) (x : Str) (k : Nat) (ps : List Str) (sp : Sp) : Prop where
  ex : ∃ (f : Addr) (fd : FuncData), FnOk P w K mg base CX0 k f fd ps sp ∧ Binds K fd ps [] ∧ PySem.W.keepIn K (.ref f) = true ∧ mg x = some (.ref f)
structure Has (K : PySem.W.Frag) (mg : Str → Option Value) (x : Str) (st : Stmt) (ps : List Str) : Prop where
  ex : ∃ (f : Addr) (fd : FuncData), Fun K x x st f fd ∧ Binds K fd ps [] ∧ mg x = some (.ref f)
section
variable {P : Program} {w : World} {K : PySem.W.Frag} {mg : Str → Option Value} {base : Heap}
theorem Has.cal {x : Str} {st : Stmt} {ps : List Str} {k : Nat} {sp : Sp} (h : Has K mg x st ps) (ok : ∀ (f : Addr) (fd : FuncData), Fun K x x st f fd → mg x = some (.ref f) → Binds K fd ps [] → FnOk P w K mg base CX0 k f fd ps sp) : Cal P w K mg base x k ps sp := by
  obtain ⟨f, fd, F, b, m⟩ := h.ex
  exact ⟨f, fd, ok f fd F m b, b, F.kp, m⟩
theorem Has.mk' {x : Str} {st : Stmt} {N ps : List Str} {k : Nat} {sp : Sp} (h : Has K mg x st ps) (S : FnScope N ps (defScope st)) (len : ∀ vs H Q E, sp vs H Q E → vs.length = ps.length)
    (hbody : ∀ (f : Addr) (cdv : Value) (A : Around) (outer : List Env) (s : Shared) (H : Hp) (vs : List V) (Q : VK) (E : XK), Room k (A.deeper (envOfC x (defScope st) s.heap.objs.size f cdv)) → sp vs H Q E →
      ∃ t, PSs (cxOf CX0 P w K mg base N x (defScope st) f cdv A outer s H E).nox (defBody st) t ∧ t { nx := fun _ H' => Q .non H', rt := Q } (start N vs) H) : Cal P w K mg base x (k + 1) ps sp :=
  h.cal fun f fd F _ _ => F.ok S len (hbody f)
theorem Cal.mono {x : Str} {j k : Nat} {ps : List Str} {sp : Sp} (C : Cal P w K mg base x j ps sp) (h : j ≤ k) : Cal P w K mg base x k ps sp := by
  obtain ⟨f, fd, F, r⟩ := C.ex
  exact ⟨f, fd, F.mono h, r⟩
end
theorem pe_cal {X : Cx} {x : Str} {k n : Nat} {ps : List Str} {sp : Sp} {e : Expr} {es : List Expr} {t : TA} {p pos : Pos} (C : Cal X.prog X.w X.K X.mg X.base x k ps sp) (hr : Room n X.A) (hk : k ≤ n) (hg : Gl X x) (ha : PA X (e :: es) t)
    (hdb : (x == ("__debug__" : Str)) = false := by decide) (he : starEach (e :: es) X.env = (false, eval e X.env) :: starEach es X.env := by rfl) (hpl : (backTo pos (starEach es X.env)).any (·.1) = false := by rfl) :
    PE X (.Call (.Name x p) (e :: es) [] pos) (tCall sp [] E0 t) := by
  obtain ⟨f, fd, F, b, kp, m⟩ := C.ex
  exact pe_call F (hr.mono hk) hg m kp b .nil pass0 ha hdb he hpl

/-! ### texts in small letters; the place of a sign -/
theorem mt_lower {X : Cx} : MtR X "str.lower" (fun x xs H Q => ∃ r : List Nat, x = .str ⟨r.toArray⟩ ∧ xs = [] ∧ (∀ c ∈ r, c < 128) ∧ r.length ≤ 100000 ∧ Q (.str ⟨(r.map lo1).toArray⟩) H) := by
  intro pins s σ H x xs v us Q I rx r h
  obtain ⟨l, rfl, rfl, hc, hl, q⟩ := h
  obtain ⟨t, rfl⟩ := rx
  cases r
  refine SCL.lower (by show l.toArray.size ≤ _; rw [List.size_toArray]; omega) fun _ => ?_
  rw [lower_ascii (x := ⟨l.toArray⟩) (by simpa using hc)]
  have e : (⟨l.toArray.map lo1⟩ : Str) = ⟨(l.map lo1).toArray⟩ := by rw [List.map_toArray]
  rw [e]
  exact ⟨.str _, H, I.tok _, ⟨_, rfl⟩, q⟩
theorem mt_index {X : Cx} : MtR X "str.index" (fun x xs H Q => ∃ (y z : Str) (i : Nat) (rest : List Nat), x = .str y ∧ xs = [.str z] ∧ Builtin.Str.occurrences y z 0 y.length 1 = i :: rest ∧ Q (.int (i : Nat)) H) := by
  intro pins s σ H x xs v us Q I rx r h
  obtain ⟨y, z, i, rest, rfl, rfl, ho, q⟩ := h
  obtain ⟨t, rfl⟩ := rx
  obtain ⟨u, rfl, t', rfl⟩ := vals1 r
  exact SC.index ho ⟨.int _, H, I.tok _, ⟨_, rfl⟩, q⟩

/-! ### data: what tuples, texts, numbers and truths say -/
inductive D where
  | non | bl (b : Bool) | int (i : Int) | str (x : Str) | tup (ds : List D)
mutual
def Den (H : Hp) : V → D → Prop
  | v, .non => v = .non
  | v, .bl b => v = .bl b
  | v, .int i => v = .int i
  | v, .str x => v = .str x
  | v, .tup ds => ∃ (p : Addr) (vs : List V), v = .ref p ∧ H p = some (.tup vs) ∧ DenL H vs ds
def DenL (H : Hp) : List V → List D → Prop
  | [], [] => True
  | v :: vs, d :: ds => Den H v d ∧ DenL H vs ds
  | _, _ => False
end
mutual
theorem Den.same {H H' : Hp} (e : Same H H') : ∀ {d : D} {v : V}, Den H v d → Den H' v d
  | .non, _, h => h
  | .bl _, _, h => h
  | .int _, _, h => h
  | .str _, _, h => h
  | .tup ds, _, h => by
    obtain ⟨p, vs, rfl, hp, hd⟩ := h
    exact ⟨p, vs, rfl, e _ _ hp, DenL.same e hd⟩
theorem DenL.same {H H' : Hp} (e : Same H H') : ∀ {ds : List D} {vs : List V}, DenL H vs ds → DenL H' vs ds
  | [], [], _ => trivial
  | _ :: _, _ :: _, h => ⟨Den.same e h.1, DenL.same e h.2⟩
  | [], _ :: _, h => h.elim
  | _ :: _, [], h => h.elim
end
theorem DenL.len {H : Hp} : ∀ {ds : List D} {vs : List V}, DenL H vs ds → vs.length = ds.length
  | [], [], _ => rfl
  | _ :: ds, _ :: vs, h => by rw [List.length_cons, List.length_cons, DenL.len h.2]
  | [], _ :: _, h => h.elim
  | _ :: _, [], h => h.elim
theorem DenL.at_ {H : Hp} : ∀ {ds : List D} {vs : List V} {i : Nat} {v : V}, DenL H vs ds → vs[i]? = some v → ∃ d, ds[i]? = some d ∧ Den H v d
  | [], [], i, v, _, h => by simp at h
  | d :: ds, _ :: vs, 0, v, h, e => by
    simp at e
    subst e
    exact ⟨d, rfl, h.1⟩
  | _ :: ds, _ :: vs, i + 1, v, h, e => DenL.at_ (i := i) h.2 (by simpa using e)
  | [], _ :: _, _, _, h, _ => h.elim
  | _ :: _, [], _, _, h, _ => h.elim
theorem DenL.strs {H : Hp} : ∀ xs : List Str, DenL H (xs.map V.str) (xs.map D.str)
  | [] => trivial
  | _ :: r => ⟨rfl, DenL.strs r⟩
theorem DenL.snoc {H : Hp} {v : V} {d : D} (hd : Den H v d) : ∀ {ds : List D} {vs : List V}, DenL H vs ds → DenL H (vs ++ [v]) (ds ++ [d])
  | [], [], _ => ⟨hd, trivial⟩
  | _ :: _, _ :: _, h => ⟨h.1, DenL.snoc hd h.2⟩
  | [], _ :: _, h => h.elim
  | _ :: _, [], h => h.elim
/-- at most n tuples deep, none of them too long, no None -/
def Shal : Nat → D → Prop
  | 0, d => d ≠ .non ∧ ∀ ds, d ≠ .tup ds
  | n + 1, d => d ≠ .non ∧ ∀ ds, d = .tup ds → ds.length ≤ 100000 ∧ ∀ e ∈ ds, Shal n e
theorem Shal.up : ∀ {n : Nat} {d : D}, Shal n d → Shal (n + 1) d
  | 0, d, h => ⟨h.1, fun ds e => absurd e (h.2 ds)⟩
  | n + 1, d, h => ⟨h.1, fun ds e => ⟨(h.2 ds e).1, fun x hx => ((h.2 ds e).2 x hx).up⟩⟩
theorem Shal.ne : ∀ {n : Nat} {d : D}, Shal n d → d ≠ .non
  | 0, _, h => h.1
  | _ + 1, _, h => h.1
theorem shal_strs {xs : List Str} (h : xs.length ≤ 100000) : Shal 1 (.tup (xs.map D.str)) := by
  refine ⟨(fun z => nomatch z), fun ds e => ?_⟩
  injection e with e
  subst e
  refine ⟨by rw [List.length_map]; exact h, fun d hd => ?_⟩
  obtain ⟨x, _, rfl⟩ := List.mem_map.mp hd
  exact ⟨(fun z => nomatch z), fun ds e => nomatch e⟩
theorem shal_bl (b : Bool) : Shal 0 (.bl b) := ⟨(fun z => nomatch z), fun _ z => nomatch z⟩
theorem shal_str (x : Str) : Shal 0 (.str x) := ⟨(fun z => nomatch z), fun _ z => nomatch z⟩
theorem shal_int (x : Int) : Shal 0 (.int x) := ⟨(fun z => nomatch z), fun _ z => nomatch z⟩
/-- the law's own comparison, of two things that say the same -/
def spSame : Nat → Sp
  | 0 => fun _ _ _ _ => False
  | n + 1 => fun vs H Q _ => ∃ (v u : V) (d : D), vs = [v, u] ∧ Den H v d ∧ Den H u d ∧ Shal n d ∧ ∀ H', Same H H' → Q (.bl true) H'
theorem Has.never {P : Program} {w : World} {K : PySem.W.Frag} {mg : Str → Option Value} {base : Heap} {x : Str} {st : Stmt} {ps : List Str} {sp : Sp} (h : Has K mg x st ps) (no : ∀ vs H Q E, ¬ sp vs H Q E) : Cal P w K mg base x 0 ps sp :=
  h.cal fun f fd F _ _ => ⟨fun vs H Q E z => absurd z (no vs H Q E), fun A outer s H args us vs Q E _ _ _ _ z => absurd z (no vs H Q E)⟩
theorem den_tup {H : Hp} {ds : List D} {v : V} (h : Den H v (.tup ds)) : ∃ (p : Addr) (vs : List V), v = .ref p ∧ H p = some (.tup vs) ∧ DenL H vs ds := h

/-! ### what every law walks: [3, 4] + script[:61] -/
theorem enum_head {K : PySem.W.Frag} {a : Addr} {ns : List Int} {σ : St} {H : Hp} {R : It → Hp → Prop} (h0 : σ[0]? = some (some (.ref a))) (hS : SqL K H a (ns.map V.int)) (h63 : ns.length ≤ 63)
    (k : ∀ (l3 : Addr) (ms : List Int) (H' : Hp), Same H H' → H' l3 = some (.lst (ms.map V.int)) → ms.length ≤ 65 → R (Ite K l3) H') :
    iEnum K (tCons (tOp rCat (tLst (tCons (tC (.int 3)) (tCons (tC (.int 4)) tNil))) (tSl (rSlL K) (tVar 0) tNoPart (tPart (tC (.int 61))))) tNil) σ H R := by
  refine ⟨smn 2, fun l hl => ?_⟩
  have hS1 := (same_new hl (.lst [.int 3, .int 4])).seq hS
  refine ⟨_, h0, _, rfl, a, _, rfl, hS1, fun l2 hl2 => ?_⟩
  obtain ⟨ms, em, hms⟩ := cutV_ints ns none (some 61)
  rw [em]
  have npl : l ≠ l2 := ne_of_none upd_same hl2
  refine ⟨l, l2, [.int 3, .int 4], ms.map V.int, rfl, rfl, Eq.trans (upd_ne npl) upd_same, upd_same, (by rw [List.length_map]; exact small (by show 2 + ms.length ≤ 1000; omega)), fun l3 hl3 => ?_⟩
  have ecat : ([.int 3, .int 4] : List V) ++ ms.map V.int = (3 :: 4 :: ms).map V.int := rfl
  rw [ecat]
  refine ⟨l3, rfl, ⟨_, SqL.of upd_same⟩, ?_⟩
  exact k l3 (3 :: 4 :: ms) _ ((same_new hl _).trans ((same_new hl2 _).trans (same_new hl3 _))) upd_same (by simp only [List.length_cons]; omega)
/-- all but p is as it was -/
def Same2 (p : Addr) (H H' : Hp) : Prop := ∀ c o, H c = some o → c ≠ p → H' c = some o
theorem Same2.trans {p : Addr} {H H1 H2 : Hp} (a : Same2 p H H1) (b : Same2 p H1 H2) : Same2 p H H2 := fun c o e n => b c o (a c o e n) n
theorem Same2.of {p : Addr} {H H1 : Hp} (a : Same H H1) : Same2 p H H1 := fun c o e _ => a c o e
theorem Pot.same2 {H0 H H' : Hp} {p : Addr} (P : Pot H0 p H) (s : Same2 p H H') (h : ∃ a b : Int, H' p = some (.lst [.int a, .int b])) : Pot H0 p H' := ⟨h, fun c o e n => s c o (P.old c o e n) n⟩
theorem Pot.same {H0 H H' : Hp} {p : Addr} (P : Pot H0 p H) (s : Same H H') : Pot H0 p H' := by
  obtain ⟨a, b, e⟩ := P.at_
  exact ⟨⟨a, b, s _ _ e⟩, fun c o e n => s c o (P.old c o e n)⟩
theorem Pot.trans {H0 H1 H2 : Hp} {p : Addr} (P : Pot H0 p H1) (R : Pot H1 p H2) : Pot H0 p H2 := ⟨R.at_, fun c o e n => R.old c o (P.old c o e n) n⟩
mutual
theorem Den.keepT {H H' : Hp} (e : ∀ (b : Addr) (vs : List V), H b = some (.tup vs) → H' b = some (.tup vs)) : ∀ {d : D} {v : V}, Den H v d → Den H' v d
  | .non, _, h => h
  | .bl _, _, h => h
  | .int _, _, h => h
  | .str _, _, h => h
  | .tup ds, _, h => by
    obtain ⟨p, vs, rfl, hp, hd⟩ := h
    exact ⟨p, vs, rfl, e _ _ hp, DenL.keepT e hd⟩
theorem DenL.keepT {H H' : Hp} (e : ∀ (b : Addr) (vs : List V), H b = some (.tup vs) → H' b = some (.tup vs)) : ∀ {ds : List D} {vs : List V}, DenL H vs ds → DenL H' vs ds
  | [], [], _ => trivial
  | _ :: _, _ :: _, h => ⟨Den.keepT e h.1, DenL.keepT e h.2⟩
  | [], _ :: _, h => h.elim
  | _ :: _, [], h => h.elim
end
/-! ### the same rules with K as a letter (within a comprehension's block) -/
section
variable {X : Cx} {K : PySem.W.Frag} {o e : Expr} {es : List Expr} {to : TE} {t : TA} {name : Str} {apos cpos : Pos} {T id : String} {r : V → List V → Hp → VK → Prop}
theorem pe_bm0K (hK : X.K = K) (pa : PlainAttrs T) (slot : Slot T name id) (hty : typeOf (.builtin id) = pure (.type "method_descriptor")) (hm : MtR X id r) (ho : PE X o to)
    (hbase : attributeBase o name X.env (eval o X.env) = eval o X.env := by rfl) (hline : (apos.endLine == cpos.line) = true := by rfl) : PE X (.Call (.Attribute o name apos) [] [] cpos) (tBM0 K T r to) := by
  subst hK
  exact pe_bm0 pa slot hty hm ho hbase hline
theorem pe_bmK (hK : X.K = K) (pa : PlainAttrs T) (slot : Slot T name id) (hty : typeOf (.builtin id) = pure (.type "method_descriptor")) (hm : MtR X id r) (ho : PE X o to) (ha : PA X (e :: es) t)
    (hbase : attributeBase o name X.env (eval o X.env) = eval o X.env := by rfl)
    (hfew : ((backTo cpos (starEach (e :: es) X.env)).all (fun x => !x.1) && (backToKw cpos (keywordEach [] X.env)).all (fun x => x.1.isSome) && decide ((e :: es).length + ([] : List Keyword).length + (if ([] : List Keyword).isEmpty then 0 else 1) < 30)) = true := by rfl)
    (hline : (apos.endLine == cpos.line) = true := by rfl) (hs : starEach (e :: es) X.env = (false, eval e X.env) :: starEach es X.env := by rfl) (hplain : (backTo cpos (starEach es X.env)).any (·.1) = false := by rfl) :
    PE X (.Call (.Attribute o name apos) (e :: es) [] cpos) (tBM K T r to t) := by
  subst hK
  exact pe_bm pa slot hty hm ho ha hbase hfew hline hs hplain
theorem sl_tupK (hK : X.K = K) : SlR X (rSlT K) := by subst hK; exact sl_tup
theorem sl_listK (hK : X.K = K) : SlR X (rSlL K) := by subst hK; exact sl_list
theorem ix_listK (hK : X.K = K) : IxR X (rIxL K) := by subst hK; exact ix_list
theorem ix_tupK (hK : X.K = K) : IxR X (rIxT K) := by subst hK; exact ix_tup
theorem call_len_seqK (hK : X.K = K) : CallR X (.builtin "len") (fun xs H Q => ∃ p ys, xs = [.ref p] ∧ (SqL K H p ys ∨ SqT K H p ys) ∧ Q (.int ys.length) H) := by subst hK; exact call_len_seq
theorem call_tuple_ofK (hK : X.K = K) : CallR X (.type "tuple") (fun xs H Q => ∃ p ys, xs = [.ref p] ∧ ((SqL K H p ys ∧ ∀ l, H l = none → Q (.ref l) (upd H l (.tup ys))) ∨ (SqT K H p ys ∧ Q (.ref p) H))) := by subst hK; exact call_tuple_of
theorem call_isinstK (hK : X.K = K) : CallR X (.builtin "isinstance") (fun xs H Q => ∃ x n t b, xs = [x, .ty n] ∧ TyOf K H x t ∧ PySem.W.kitOne K t (.type n) = some b ∧ Q (.bl b) H) := by subst hK; exact call_isinst
theorem op_in_seqK (hK : X.K = K) : OpR X (compareOp .In) (rIn K false) := by subst hK; exact op_in_seq
theorem op_notIn_seqK (hK : X.K = K) : OpR X (compareOp .NotIn) (rIn K true) := by subst hK; exact op_notIn_seq
theorem mt_joinK (hK : X.K = K) : MtR X "str.join" (fun x xs H Q => ∃ y l ys, x = .str y ∧ xs = [.ref l] ∧ SqL K H l (ys.map V.str) ∧ (ys.map (·.length)).sum + ys.length * y.length ≤ 16777216 ∧ Q (.str (Str.join y ys)) H) := by subst hK; exact mt_join
end
end L2
set_option Elab.async false
set_option linter.all false
set_option maxRecDepth 100000
set_option maxHeartbeats 4000000
namespace L2
open PySem PySem.Spec PyProof.Rows

/-! ### lists of pairs as tables -/
section
variable {κ : Type} [DecidableEq κ]
def valV (kvs : List (κ × V)) (k : κ) : Option V := (kvs.find? fun kv => decide (kv.1 = k)).map (·.2)
/-- in its place, or at the end -/
def putK (kvs : List (κ × V)) (k : κ) (v : V) : List (κ × V) :=
  if (kvs.any fun kv => decide (kv.1 = k)) = true then kvs.map (fun kv => if kv.1 = k then (kv.1, v) else kv) else kvs ++ [(k, v)]
def dropK (kvs : List (κ × V)) (k : κ) : List (κ × V) := kvs.filter fun kv => decide (kv.1 ≠ k)

theorem valV_nil {k : κ} : valV ([] : List (κ × V)) k = none := rfl
theorem valV_pos {p : κ × V} {r : List (κ × V)} {k : κ} (e : p.1 = k) : valV (p :: r) k = some p.2 := by simp [valV, List.find?_cons, e]
theorem valV_neg {p : κ × V} {r : List (κ × V)} {k : κ} (e : ¬ p.1 = k) : valV (p :: r) k = valV r k := by simp [valV, List.find?_cons, e]
theorem valV_any (k : κ) : ∀ kvs : List (κ × V), (kvs.any fun kv => decide (kv.1 = k)) = (valV kvs k).isSome
  | [] => rfl
  | p :: r => by
    rw [List.any_cons]
    by_cases e : p.1 = k
    · simp only [valV_pos e, decide_eq_true e, Bool.true_or, Option.isSome_some]
    · rw [valV_neg e, decide_eq_false e, Bool.false_or]; exact valV_any k r
theorem valV_map (k j : κ) (y : V) : ∀ kvs : List (κ × V), valV (kvs.map fun kv => if kv.1 = k then (kv.1, y) else kv) j = (valV kvs j).map fun x => if j = k then y else x
  | [] => rfl
  | p :: r => by
    have ih := valV_map k j y r
    rw [List.map_cons]
    by_cases h : p.1 = k
    · rw [if_pos h]
      by_cases e : p.1 = j
      · rw [valV_pos (p := (p.1, y)) e, valV_pos e, Option.map_some, if_pos (e.symm.trans h)]
      · rw [valV_neg (p := (p.1, y)) e, valV_neg e, ih]
    · rw [if_neg h]
      by_cases e : p.1 = j
      · rw [valV_pos (p := p) e, valV_pos e, Option.map_some, if_neg (fun z => h (e.trans z))]
      · rw [valV_neg (p := p) e, valV_neg e, ih]
theorem valV_snoc (k j : κ) (y : V) : ∀ kvs : List (κ × V), valV kvs k = none → valV (kvs ++ [(k, y)]) j = if j = k then some y else valV kvs j
  | [], _ => by
    by_cases e : k = j
    · rw [if_pos e.symm]; exact valV_pos (p := (k, y)) e
    · rw [if_neg (fun z => e z.symm)]; exact valV_neg (p := (k, y)) e
  | p :: r, hn => by
    rw [List.cons_append]
    have hk : ¬ p.1 = k := fun z => by rw [valV_pos z] at hn; cases hn
    rw [valV_neg hk] at hn
    have ih := valV_snoc k j y r hn
    by_cases e : p.1 = j
    · rw [valV_pos e, valV_pos e, if_neg (fun z => hk (e.trans z))]
    · rw [valV_neg e, valV_neg e, ih]
theorem valV_put (kvs : List (κ × V)) (k j : κ) (y : V) : valV (putK kvs k y) j = if j = k then some y else valV kvs j := by
  unfold putK
  by_cases a : (kvs.any fun kv => decide (kv.1 = k)) = true
  · rw [if_pos a, valV_map]
    rw [valV_any] at a
    by_cases e : j = k
    · obtain ⟨x, hx⟩ := Option.isSome_iff_exists.mp a
      rw [if_pos e, e, hx, Option.map_some, if_pos rfl]
    · rw [if_neg e]
      cases valV kvs j with
      | none => rfl
      | some x => rw [Option.map_some, if_neg e]
  · rw [if_neg a]
    refine valV_snoc k j y kvs ?_
    rw [valV_any] at a
    cases q : valV kvs k with
    | none => rfl
    | some x => rw [q] at a; exact (a rfl).elim
theorem length_putK (kvs : List (κ × V)) (k : κ) (v : V) : (putK kvs k v).length ≤ kvs.length + 1 := by
  unfold putK
  split
  · rw [List.length_map]; omega
  · rw [List.length_append, List.length_cons, List.length_nil]; omega
theorem putK_new {kvs : List (κ × V)} {k : κ} (v : V) (h : valV kvs k = none) : putK kvs k v = kvs ++ [(k, v)] := by
  unfold putK
  rw [valV_any, h]
  exact if_neg (by decide)

theorem RelO.isSome_eq {o : Option V} {u : Option Value} (r : RelO o u) : o.isSome = u.isSome := by
  cases o with
  | none => cases u with
    | none => rfl
    | some _ => exact (show False from r).elim
  | some _ => cases u with
    | none => exact (show False from r).elim
    | some _ => rfl
theorem RelO.getD {o : Option V} {u : Option Value} {d : V} {d' : Value} (r : RelO o u) (rd : RelV d d') : RelV (o.getD d) (u.getD d') := by
  cases o with
  | none => cases u with
    | none => exact rd
    | some _ => exact (show False from r).elim
  | some _ => cases u with
    | none => exact (show False from r).elim
    | some _ => exact r

/-- raw tables of the same keys -/
theorem KV.val {kvs : List (κ × V)} {vs : List (κ × Value)} (r : KV kvs vs) (k : κ) : RelO (valV kvs k) (valueAt vs k) := by
  unfold KV at r
  induction r with
  | nil => exact True.intro
  | @cons p q ps qs h t ih =>
    obtain ⟨h1, h2⟩ := h
    by_cases e : p.1 = k
    · have e' : q.1 = k := h1.symm.trans e
      have b : valueAt (q :: qs) k = some q.2 := by simp [valueAt, List.find?_cons, e']
      rw [valV_pos e, b]; exact h2
    · have e' : ¬ q.1 = k := fun z => e (h1.trans z)
      have b : valueAt (q :: qs) k = valueAt qs k := by simp [valueAt, List.find?_cons, e']
      rw [valV_neg e, b]; exact ih
theorem KV.any {kvs : List (κ × V)} {vs : List (κ × Value)} (r : KV kvs vs) (k : κ) : (kvs.any fun kv => decide (kv.1 = k)) = vs.any fun kv => decide (kv.1 = k) := by
  unfold KV at r
  induction r with
  | nil => rfl
  | cons h t ih => rw [List.any_cons, List.any_cons, ih, h.1]
theorem KV.repl {kvs : List (κ × V)} {vs : List (κ × Value)} (r : KV kvs vs) (k : κ) {y : V} {u : Value} (ry : RelV y u) :
    KV (kvs.map fun kv => if kv.1 = k then (kv.1, y) else kv) (vs.map fun kv => if kv.1 = k then (kv.1, u) else kv) := by
  unfold KV at r ⊢
  induction r with
  | nil => exact .nil
  | @cons p q ps qs h t ih =>
    rw [List.map_cons, List.map_cons]
    refine .cons ?_ ih
    obtain ⟨h1, h2⟩ := h
    by_cases e : p.1 = k
    · rw [if_pos e, if_pos (h1.symm.trans e)]; exact ⟨h1, ry⟩
    · rw [if_neg e, if_neg (fun z => e (h1.trans z))]; exact ⟨h1, h2⟩
theorem KV.put {kvs : List (κ × V)} {vs : List (κ × Value)} (r : KV kvs vs) (k : κ) {y : V} {u : Value} (ry : RelV y u) : KV (putK kvs k y) (stored vs k u) := by
  unfold putK stored
  rw [r.any k]
  by_cases e : (vs.any fun kv => decide (kv.1 = k)) = true
  · rw [if_pos e, if_pos e]; exact r.repl k ry
  · rw [if_neg e, if_neg e]; exact Paired.snoc r ⟨rfl, ry⟩
theorem KV.drop {kvs : List (κ × V)} {vs : List (κ × Value)} (r : KV kvs vs) (k : κ) : KV (dropK kvs k) (without vs k) := by
  unfold KV at r ⊢
  unfold dropK without
  induction r with
  | nil => exact .nil
  | @cons p q ps qs h t ih =>
    obtain ⟨h1, h2⟩ := h
    rw [List.filter_cons, List.filter_cons]
    by_cases e : p.1 = k
    · have a : ¬ decide (p.1 ≠ k) = true := by simp [e]
      have b : ¬ decide (q.1 ≠ k) = true := by simp [h1.symm.trans e]
      rw [if_neg a, if_neg b]; exact ih
    · have e' : ¬ q.1 = k := fun z => e (h1.trans z)
      have a : decide (p.1 ≠ k) = true := by simp [e]
      have b : decide (q.1 ≠ k) = true := by simp [e']
      rw [if_pos a, if_pos b]; exact .cons ⟨h1, h2⟩ ih
theorem KV.keys {kvs : List (κ × V)} {vs : List (κ × Value)} (r : KV kvs vs) : kvs.map (·.1) = vs.map (·.1) := by
  unfold KV at r
  induction r with
  | nil => rfl
  | cons h t ih => rw [List.map_cons, List.map_cons, ih, h.1]
theorem KV.length {kvs : List (κ × V)} {vs : List (κ × Value)} (r : KV kvs vs) : kvs.length = vs.length := Paired.length r
theorem dropK_le (kvs : List (κ × V)) (k : κ) : (dropK kvs k).length ≤ kvs.length := List.length_filter_le _ _
end


/-! ### a tracked dict, its keys ints and texts or tuples of these -/
theorem kV_is {P : Program} {w : World} {k : Key} {u : Value} (r : RelV (kV k) u) : (mixKind P w).is k u = true := by
  cases k with
  | inl i => obtain ⟨t, e⟩ := (show ∃ t, u = Value.int i t from r); subst e; exact mixKind_int P w i t
  | inr x => obtain ⟨t, e⟩ := (show ∃ t, u = Value.str x t from r); subst e; exact mixKind_str P w x t
theorem kV_inj {a b : Key} (e : kV a = kV b) : a = b := by
  cases a with
  | inl i => cases b with
    | inl j => have e' : V.int i = V.int j := e; injection e' with e'; rw [e']
    | inr y => exact nomatch (show V.int i = V.str y from e)
  | inr x => cases b with
    | inl j => exact nomatch (show V.str x = V.int j from e)
    | inr y => have e' : V.str x = V.str y := e; injection e' with e'; rw [e']
theorem kVs_inj : ∀ {a b : List Key}, a.map kV = b.map kV → a = b
  | [], [], _ => rfl
  | [], _ :: _, e => by simp at e
  | _ :: _, [], e => by simp at e
  | x :: xs, y :: ys, e => by
    rw [List.map_cons, List.map_cons] at e
    injection e with e1 e2
    rw [kV_inj e1, kVs_inj e2]
theorem items_are {P : Program} {w : World} : ∀ {ks : List Key} {us : List Value}, Vals (ks.map kV) us → ItemsAre (mixKind P w) ks us
  | [], _, r => by rw [List.map_nil] at r; cases r; exact .nil
  | k :: ks, _, r => by
    rw [List.map_cons] at r
    cases r with
    | cons h t => exact .cons (kV_is h) (items_are t)

/-- raw entries of a dict with tuple keys -/
abbrev KT (H : Hp) : List (List Key × V) → List (List Key × Addr × Value) → Prop := Paired fun p q => p.1 = q.1 ∧ H q.2.1 = some (.tup (p.1.map kV)) ∧ RelV p.2 q.2.2
theorem KT.val {H : Hp} {kvs : List (List Key × V)} {xs : List (List Key × Addr × Value)} (r : KT H kvs xs) (k : List Key) : RelO (valV kvs k) ((atKey xs k).map (·.2)) := by
  induction r with
  | nil => exact True.intro
  | @cons p q ps qs h t ih =>
    obtain ⟨h1, _, h2⟩ := h
    by_cases e : p.1 = k
    · have e' : q.1 = k := h1.symm.trans e
      have b : atKey (q :: qs) k = some q.2 := by simp [atKey, List.find?_cons, e']
      rw [valV_pos e, b]; exact h2
    · have e' : ¬ q.1 = k := fun z => e (h1.trans z)
      have b : atKey (q :: qs) k = atKey qs k := by simp [atKey, List.find?_cons, e']
      rw [valV_neg e, b]; exact ih
theorem KT.repl {H : Hp} {kvs : List (List Key × V)} {xs : List (List Key × Addr × Value)} (r : KT H kvs xs) (k : List Key) {y : V} {u : Value} (ry : RelV y u) :
    KT H (kvs.map fun kv => if kv.1 = k then (kv.1, y) else kv) (xs.map (putAt k u)) := by
  induction r with
  | nil => exact .nil
  | @cons p q ps qs h t ih =>
    rw [List.map_cons, List.map_cons]
    refine .cons ?_ ih
    obtain ⟨h1, h2, h3⟩ := h
    unfold putAt
    by_cases e : p.1 = k
    · rw [if_pos e, if_pos (h1.symm.trans e)]; exact ⟨h1, h2, ry⟩
    · rw [if_neg e, if_neg (fun z => e (h1.trans z))]; exact ⟨h1, h2, h3⟩
theorem KT.put {H : Hp} {kvs : List (List Key × V)} {xs : List (List Key × Addr × Value)} (r : KT H kvs xs) (k : List Key) {b : Addr} {y : V} {u : Value} (hb : H b = some (.tup (k.map kV))) (ry : RelV y u) :
    KT H (putK kvs k y) (storedH xs k b u) := by
  have e : (kvs.any fun kv => decide (kv.1 = k)) = (atKey xs k).isSome := by
    rw [valV_any, (r.val k).isSome_eq, Option.isSome_map]
  unfold putK storedH
  rw [e]
  by_cases q : (atKey xs k).isSome = true
  · rw [if_pos q, if_pos q]; exact r.repl k ry
  · rw [if_neg q, if_neg q]; exact Paired.snoc r ⟨rfl, hb, ry⟩
theorem KT.keeps {H H' : Hp} {kvs : List (List Key × V)} {xs : List (List Key × Addr × Value)} (r : KT H kvs xs) (ht : ∀ b ys, H b = some (.tup ys) → H' b = some (.tup ys)) : KT H' kvs xs :=
  Paired.mapP r fun _ _ z => ⟨z.1, ht _ _ z.2.1, z.2.2⟩

section
variable {P : Program} {w : World} {H : Hp} {h : Heap} {a : Addr}
theorem rd_of {u : HO} (ok : HOk P w H h) (e : Rd H a u) : ObjOk P w H h a u := e.ok ok
theorem dk_rd {kvs : List (Key × V)} (ok : HOk P w H h) (e : Rd H a (.dK kvs)) : kvs.length ≤ sizeLine ∧ (a == sysModules) = false ∧ ∃ vs, KV kvs vs ∧ h.DictOf (mixKind P w) a vs :=
  show ObjOk P w H h a (.dK kvs) from rd_of ok e
theorem dk_of {kvs : List (Key × V)} (ok : HOk P w H h) (e : H a = some (.dK kvs)) : kvs.length ≤ sizeLine ∧ (a == sysModules) = false ∧ ∃ vs, KV kvs vs ∧ h.DictOf (mixKind P w) a vs := dk_rd ok (.inl e)
/-- a tracked tuple of ints and texts is a key -/
theorem key_of {ks : List Key} (ok : HOk P w H h) (e : H a = some (.tup (ks.map kV))) : (tupleKind (mixKind P w)).is h ks a := by
  obtain ⟨_, its, r, o, h1, h2, n, h3⟩ := (show ObjOk P w H h a (.tup (ks.map kV)) from ok a _ e)
  exact ⟨o, its.toArray, n, h1, h2, h3, by simpa using items_are r⟩
theorem dt_rd {kvs : List (List Key × V)} (ok : HOk P w H h) (e : Rd H a (.dT kvs)) : kvs.length ≤ sizeLine ∧ (a == sysModules) = false ∧
    ∃ xs, KT H kvs xs ∧ h.DictOfH (tupleKind (mixKind P w)) a xs := by
  obtain ⟨z, y, xs, r, o, es, ep, h1, h2, h3, h4, h5⟩ := (show ObjOk P w H h a (.dT kvs) from rd_of ok e)
  refine ⟨z, y, xs, r, o, es, ep, h1, h2, h3, h4, fun x hx => ?_, h5⟩
  have all : ∀ {l : List (List Key × V)} {m : List (List Key × Addr × Value)}, KT H l m → ∀ x ∈ m, (tupleKind (mixKind P w)).is h x.1 x.2.1 := by
    intro l m q
    induction q with
    | nil => intro x hx; exact nomatch hx
    | @cons p q ps qs hq t ih =>
      intro x hx
      rcases List.mem_cons.mp hx with e | hx
      · subst e
        exact key_of ok (by rw [← hq.1]; exact hq.2.1)
      · exact ih x hx
  exact all r x hx
theorem dt_of {kvs : List (List Key × V)} (ok : HOk P w H h) (e : H a = some (.dT kvs)) : kvs.length ≤ sizeLine ∧ (a == sysModules) = false ∧
    ∃ xs, KT H kvs xs ∧ h.DictOfH (tupleKind (mixKind P w)) a xs := dt_rd ok (.inl e)
end

/-- what the dict at a holds at the key y -/
def DGet (H : Hp) (a : Addr) (y : V) (r : Option V) : Prop :=
  (∃ kvs k, Rd H a (.dK kvs) ∧ y = kV k ∧ r = valV kvs k) ∨ ∃ kvs k b, Rd H a (.dT kvs) ∧ y = .ref b ∧ H b = some (.tup (k.map kV)) ∧ r = valV kvs k
/-- the heap behind a[y] = v -/
def DPut (H : Hp) (a : Addr) (y v : V) (H' : Hp) : Prop :=
  (∃ kvs k, H a = some (.dK kvs) ∧ y = kV k ∧ kvs.length < sizeLine ∧ H' = upd H a (.dK (putK kvs k v))) ∨
  ∃ kvs k b, H a = some (.dT kvs) ∧ y = .ref b ∧ H b = some (.tup (k.map kV)) ∧ kvs.length < sizeLine ∧ H' = upd H a (.dT (putK kvs k v))
theorem DGet.k {H : Hp} {a : Addr} {kvs : List (Key × V)} {k : Key} (e : H a = some (.dK kvs)) : DGet H a (kV k) (valV kvs k) := .inl ⟨kvs, k, .inl e, rfl, rfl⟩
theorem DGet.t {H : Hp} {a b : Addr} {kvs : List (List Key × V)} {k : List Key} (e : H a = some (.dT kvs)) (eb : H b = some (.tup (k.map kV))) : DGet H a (.ref b) (valV kvs k) := .inr ⟨kvs, k, b, .inl e, rfl, eb, rfl⟩
theorem DPut.k {H : Hp} {a : Addr} {kvs : List (Key × V)} {k : Key} {v : V} (e : H a = some (.dK kvs)) (hl : kvs.length < sizeLine) : DPut H a (kV k) v (upd H a (.dK (putK kvs k v))) := .inl ⟨kvs, k, e, rfl, hl, rfl⟩
theorem DPut.t {H : Hp} {a b : Addr} {kvs : List (List Key × V)} {k : List Key} {v : V} (e : H a = some (.dT kvs)) (eb : H b = some (.tup (k.map kV))) (hl : kvs.length < sizeLine) :
    DPut H a (.ref b) v (upd H a (.dT (putK kvs k v))) := .inr ⟨kvs, k, b, e, rfl, eb, hl, rfl⟩


section
variable {X : Cx} {pins : List (Addr × Obj)} {σ : St} {H : Hp} {s : Shared} {a : Addr} {y v : V} {u r : Value} {o : Option V} {A : Around} {E : Value → Shared → Prop}

theorem Inv.big (I : Inv X pins σ H s) : sysModules < s.heap.objs.size := by
  have h : mainGlobals < s.heap.objs.size := (I.mod.glob.keeps I.bk).lt
  exact Nat.lt_trans (by decide) h

/-- d[y], there -/
theorem d_getItem {Q : Value → Shared → Prop} (hu : A.units + 1 < cLine) (I : Inv X pins σ H s) (g : DGet H a y (some v)) (ry : RelV y u) (h : ∀ w' s', Inv X pins σ H s' → RelV v w' → Q w' s') :
    wpAny (model X.prog X.w) A (getItem (.ref a) u) Q E s := by
  rcases g with ⟨kvs, k, e, ey, l⟩ | ⟨kvs, k, b, e, ey, eb, l⟩
  · subst ey
    obtain ⟨z, hd, vs, rel, dd⟩ := dk_rd I.hok e
    obtain ⟨w', hw, rw'⟩ := RelO.some_of (v := v) (o := valueAt vs k) (by rw [l]; exact rel.val k)
    exact wpAny_getItem_of (kV_is ry) dd.mapOf hw (h w' _ (I.tok _) rw')
  · subst ey
    cases (show u = Value.ref b from ry)
    obtain ⟨z, hd, xs, rel, dd⟩ := dt_rd I.hok e
    obtain ⟨w', hw, rw'⟩ := RelO.some_of (v := v) (o := (atKey xs k).map (·.2)) (by rw [l]; exact rel.val k)
    obtain ⟨p, hp, hp2⟩ := Option.map_eq_some_iff.mp hw
    refine wpAny_getItem_heap (tupleKind_room_in1 hu) (key_of I.hok eb) dd hp ?_
    rw [hp2]
    exact h w' _ (I.tok _) rw'
/-- y in d -/
theorem d_in {Q : Value → Shared → Prop} (hu : A.units + 1 < cLine) (I : Inv X pins σ H s) (g : DGet H a y o) (ry : RelV y u) (h : ∀ s', Inv X pins σ H s' → Q (.bool o.isSome) s') :
    wpAny (model X.prog X.w) A (compareOp .In u (.ref a)) Q E s := by
  rcases g with ⟨kvs, k, e, ey, l⟩ | ⟨kvs, k, b, e, ey, eb, l⟩
  · subst ey
    obtain ⟨z, hd, vs, rel, dd⟩ := dk_rd I.hok e
    refine wpAny_in_of (kV_is ry) hd dd.mapOf ?_
    rw [← (rel.val k).isSome_eq, ← l]
    exact h _ (I.tok _)
  · subst ey
    cases (show u = Value.ref b from ry)
    obtain ⟨z, hd, xs, rel, dd⟩ := dt_rd I.hok e
    refine wpAny_in_heap (tupleKind_room_in1 hu) (key_of I.hok eb) hd dd ?_
    have q := (rel.val k).isSome_eq
    rw [Option.isSome_map] at q
    rw [← q, ← l]
    exact h _ (I.tok _)
theorem d_notIn {Q : Value → Shared → Prop} (hu : A.units + 1 < cLine) (I : Inv X pins σ H s) (g : DGet H a y o) (ry : RelV y u) (h : ∀ s', Inv X pins σ H s' → Q (.bool (!o.isSome)) s') :
    wpAny (model X.prog X.w) A (compareOp .NotIn u (.ref a)) Q E s := by
  rcases g with ⟨kvs, k, e, ey, l⟩ | ⟨kvs, k, b, e, ey, eb, l⟩
  · subst ey
    obtain ⟨z, hd, vs, rel, dd⟩ := dk_rd I.hok e
    refine wpAny_notIn_of (kV_is ry) hd dd.mapOf ?_
    rw [← (rel.val k).isSome_eq, ← l]
    exact h _ (I.tok _)
  · subst ey
    cases (show u = Value.ref b from ry)
    obtain ⟨z, hd, xs, rel, dd⟩ := dt_rd I.hok e
    refine wpAny_notIn_heap (tupleKind_room_in1 hu) (key_of I.hok eb) hd dd ?_
    have q := (rel.val k).isSome_eq
    rw [Option.isSome_map] at q
    rw [← q, ← l]
    exact h _ (I.tok _)
/-- a dict's object is replaced -/
theorem d_write {h' : Heap} {t' : Nat} {ob : HO} (I : Inv X pins σ H s) (mu : Mut (H a)) (hs : Heap.SameBut a s.heap h') (he : ∃ q, h'.get? a = some q) (new : ObjOk X.prog X.w (upd H a ob) h' a ob) :
    Inv X pins σ (upd H a ob) { s with heap := h', toks := t' } :=
  I.write (x := a) (e := a) mu (.inl rfl) (fun b q hb z => (hs.2 b hb).trans z) he new
theorem dk_new {P : Program} {w : World} {H' : Hp} {h' : Heap} {kvs : List (Key × V)} {vs : List (Key × Value)} (z : kvs.length ≤ sizeLine) (hd : (a == sysModules) = false) (rel : KV kvs vs) (dd : h'.DictOf (mixKind P w) a vs) :
    ObjOk P w H' h' a (.dK kvs) := ⟨z, hd, vs, rel, dd⟩
/-- d[y] = v -/
theorem d_setItem {H' : Hp} {Q : Unit → Shared → Prop} (hu : A.units + 1 < cLine) (I : Inv X pins σ H s) (g : DPut H a y v H') (ry : RelV y u) (rv : RelV v r) (h : ∀ s', Inv X pins σ H' s' → Q () s') :
    wpAny (model X.prog X.w) A (setItem (.ref a) u r) Q E s := by
  rcases g with ⟨kvs, k, e, ey, l, eH⟩ | ⟨kvs, k, b, e, ey, eb, l, eH⟩
  · subst ey eH
    obtain ⟨z, hd, vs, rel, dd⟩ := dk_of I.hok e
    have hz : vs.length ≤ sizeLine := by rw [← rel.length]; exact z
    have hl : (putK kvs k v).length ≤ sizeLine := by have := length_putK kvs k v; omega
    refine wpAny_setItem_pairs (hsz := hz) (kV_is ry) dd fun h' dd' hs => h _ ?_
    have he : ∃ q, h'.get? a = some q := let ⟨q, _, _, hq, _⟩ := dd'; ⟨q, hq⟩
    exact d_write I (by rw [e]; exact True.intro) hs he (dk_new hl hd (rel.put k rv) dd')
  · subst ey eH
    cases (show u = Value.ref b from ry)
    obtain ⟨z, hd, xs, rel, dd⟩ := dt_of I.hok e
    have hz : xs.length ≤ sizeLine := by rw [← Paired.length rel]; exact z
    have hl : (putK kvs k v).length ≤ sizeLine := by have := length_putK kvs k v; omega
    refine wpAny_setItem_heap (hsz := hz) (tupleKind_room_in1 hu) (key_of I.hok eb) dd fun h' dd' hs => h _ ?_
    obtain ⟨q, es, ep, hq, h2, h3, h4, _, h5⟩ := dd'
    refine d_write I (by rw [e]; exact True.intro) hs ⟨q, hq⟩ ⟨hl, hd, _, (rel.put k eb rv).keeps fun c ys ec => ?_, q, es, ep, hq, h2, h3, h4, h5⟩
    rw [upd_ne (ne_of ec e (fun z => nomatch z))]
    exact ec
end

section
variable {X : Cx} {pins : List (Addr × Obj)} {σ : St} {H : Hp} {s : Shared} {a : Addr} {kvs : List (Key × V)} {k : Key} {u : Value} {A : Around} {E : Value → Shared → Prop}
/-- del d[k] -/
theorem d_delItem {Q : Unit → Shared → Prop} (I : Inv X pins σ H s) (e : H a = some (.dK kvs)) (ry : RelV (kV k) u) (l : (valV kvs k).isSome = true) (h : ∀ s', Inv X pins σ (upd H a (.dK (dropK kvs k))) s' → Q () s') :
    wpAny (model X.prog X.w) A (delItem (.ref a) u) Q E s := by
  obtain ⟨z, hd, vs, rel, dd⟩ := dk_of I.hok e
  refine wpAny_delItem_slot dd.typeIs (by decide) PySem.F.slot_dict_delitem
    (call_meetsIn PySem.F.slot_dict_delitem dd.typeIs PySem.F.entry_dict_delitem (PySem.F.args_dict_delitem_2 _ _) (meets_dict_delitem_pairs (mixKind X.prog X.w) a (kV_is ry)) ⟨vs, dd, by rw [← rel.length]; exact z, by rw [← (rel.val k).isSome_eq]; exact l, fun h' dd' hs => h _ ?_⟩)
  have he : ∃ q, h'.get? a = some q := let ⟨q, _, _, hq, _⟩ := dd'; ⟨q, hq⟩
  exact d_write I (by rw [e]; exact True.intro) hs he (dk_new (Nat.le_trans (dropK_le kvs k) z) hd (rel.drop k) dd')
/-- d.pop(k[, x]), there -/
theorem d_pop {v : V} {more : List Value} {Q : Value → Shared → Prop} (I : Inv X pins σ H s) (e : H a = some (.dK kvs)) (ry : RelV (kV k) u) (l : valV kvs k = some v) (hm : more = [] ∨ ∃ x, more = [x])
    (h : ∀ w' s', Inv X pins σ (upd H a (.dK (dropK kvs k))) s' → RelV v w' → Q w' s') : wpAny (model X.prog X.w) A (call (.builtin "dict.pop") (.ref a :: u :: more)) Q E s := by
  obtain ⟨z, hd, vs, rel, dd⟩ := dk_of I.hok e
  obtain ⟨w', hw, rw'⟩ := RelO.some_of (v := v) (o := valueAt vs k) (by rw [← l]; exact rel.val k)
  have hp : (keyPart u).isSome = true := by
    cases k with
    | inl i => obtain ⟨t, q⟩ := (show ∃ t, u = Value.int i t from ry); subst q; rfl
    | inr x => obtain ⟨t, q⟩ := (show ∃ t, u = Value.str x t from ry); subst q; rfl
  have ha : argsOk "dict.pop" ⟨.ref a :: u :: more, []⟩ := by
    rcases hm with q | ⟨x, q⟩
    · subst q; exact PySem.F.args_dict_pop_2 _ _
    · subst q; exact PySem.F.args_dict_pop_3 _ _ _
  refine call_meetsIn PySem.F.slot_dict_pop dd.typeIs PySem.F.entry_dict_pop ha (meets_dict_pop_there (mixKind X.prog X.w) a (kV_is ry) more hm hp)
    ⟨vs, w', dd, by rw [← rel.length]; exact z, hw, fun h' dd' hs => h w' _ ?_ rw'⟩
  have he : ∃ q, h'.get? a = some q := let ⟨q, _, _, hq, _⟩ := dd'; ⟨q, hq⟩
  exact d_write I (by rw [e]; exact True.intro) hs he (dk_new (Nat.le_trans (dropK_le kvs k) z) hd (rel.drop k) dd')
/-- d.pop(k, x), not there -/
theorem d_popD {r : Value} {Q : Value → Shared → Prop} (I : Inv X pins σ H s) (e : H a = some (.dK kvs)) (ry : RelV (kV k) u) (l : valV kvs k = none) (h : ∀ s', Inv X pins σ H s' → Q r s') :
    wpAny (model X.prog X.w) A (call (.builtin "dict.pop") [.ref a, u, r]) Q E s := by
  obtain ⟨z, hd, vs, rel, dd⟩ := dk_of I.hok e
  have hn : valueAt vs k = none := RelO.none_of (by rw [← l]; exact rel.val k)
  have hp : (keyPart u).isSome = true := by
    cases k with
    | inl i => obtain ⟨t, q⟩ := (show ∃ t, u = Value.int i t from ry); subst q; rfl
    | inr x => obtain ⟨t, q⟩ := (show ∃ t, u = Value.str x t from ry); subst q; rfl
  exact call_meetsIn PySem.F.slot_dict_pop dd.typeIs PySem.F.entry_dict_pop (PySem.F.args_dict_pop_3 _ _ _) (meets_dict_pop_default (mixKind X.prog X.w) a (kV_is ry) hd hp r) ⟨vs, dd, hn, h _ (I.tok _)⟩
/-- d.clear() -/
theorem d_clear {Q : Value → Shared → Prop} (I : Inv X pins σ H s) (e : H a = some (.dK kvs)) (h : ∀ s', Inv X pins σ (upd H a (.dK [])) s' → Q .none s') : wpAny (model X.prog X.w) A (call (.builtin "dict.clear") [.ref a]) Q E s := by
  obtain ⟨z, hd, vs, rel, dd⟩ := dk_of I.hok e
  refine call_meetsIn PySem.F.slot_dict_clear dd.typeIs PySem.F.entry_dict_clear (PySem.F.args_dict_clear_1 _) (meets_dict_clear (mixKind X.prog X.w) a) ⟨vs, dd, by rw [← rel.length]; exact z, fun h' dd' hs => h _ ?_⟩
  have he : ∃ q, h'.get? a = some q := let ⟨q, _, _, hq, _⟩ := dd'; ⟨q, hq⟩
  exact d_write (t' := s.toks) I (by rw [e]; exact True.intro) hs he (dk_new (Nat.zero_le _) hd .nil dd')
/-- len(d) -/
theorem d_len {Q : Value → Shared → Prop} (I : Inv X pins σ H s) (e : Rd H a (.dK kvs)) (h : ∀ t s', Inv X pins σ H s' → Q (.int kvs.length t) s') : wpAny (model X.prog X.w) A (call (.builtin "len") [.ref a]) Q E s := by
  obtain ⟨z, hd, vs, rel, dd⟩ := dk_rd I.hok e
  refine call_len_dict hd dd (by rw [← rel.length]; rw [sizeLine_eq] at z; omega) ?_
  rw [← rel.length]
  exact h _ _ (I.tok _)
/-- if d -/
theorem d_truth {Q : Bool → Shared → Prop} (I : Inv X pins σ H s) (e : Rd H a (.dK kvs)) (h : ∀ s', Inv X pins σ H s' → Q (!kvs.isEmpty) s') : wpAny (model X.prog X.w) A (truthy (.ref a)) Q E s := by
  obtain ⟨z, hd, vs, rel, dd⟩ := dk_rd I.hok e
  refine wpAny_truthy_dict hd dd (by rw [← rel.length]; rw [sizeLine_eq] at z; omega) ?_
  have q : kvs.isEmpty = vs.isEmpty := by cases rel <;> rfl
  rw [← q]
  exact h _ (I.tok _)
end


/-! ### readings and rules -/
/-- the element of a subscription, not a slice -/
def NoSl (i : Expr) : Prop := ∀ ov iv, subscripted i false ov iv = operate [ov, iv] (getItem ov iv)
theorem subD_of {prog : Program} {w : World} {A : Around} {E : Value → Shared → Prop} {s : Shared} {env : Env} {value slice : Expr} {pos : Pos} {T id : String} {Q : Value → Shared → Prop}
    (hl : typeLookup (.type T) "__getitem__" = pure (some (.builtin id))) (hs : NoSl slice)
    (h : wpAny (model prog w) A (eval value env) (fun o s₁ => wpAny (model prog w) A (eval slice env) (fun i s₂ => s₂.TypeIs o T ∧ wpAny (model prog w) A (getItem o i) Q E s₂) E s₁) E s) :
    wpAny (model prog w) A (eval (.Subscript value slice pos) env) Q E s := by
  refine Subscript_ (wpAny_mono h (fun o s₁ h₁ => wpAny_mono h₁ (fun i s₂ h₂ => ?_) fun _ _ x => x) fun _ _ x => x)
  obtain ⟨hT, h₂⟩ := h₂
  unfold subscriptTail
  refine wpAny_bind ?_
  rw [getitemInPython_of_ne hT.not_modules]
  refine wpAny_bind (wpAny_specialOf hT hl ?_)
  have fin : wpAny (model prog w) A (subscripted slice false o i) (fun r s₃ => wpAny (model prog w) A (letTemporaryGo value o r >>= fun _ => pure r) Q E s₃) E s₂ := by
    rw [hs o i]
    exact wpAny_operating (wpAny_mono h₂ (fun r s₃ h₃ => wpAny_bind (wpAny_letTemporaryGo (wpAny_pure h₃))) fun _ _ x => x)
  first
    | exact wpAny_pure (wpAny_bind fin)
    | exact wpAny_bind (wpAny_pure (wpAny_bind fin))
    | exact wpAny_bind fin

theorem dict_typeIs {X : Cx} {pins : List (Addr × Obj)} {σ : St} {H : Hp} {s : Shared} {a : Addr} {y : V} {o : Option V} (I : Inv X pins σ H s) (g : DGet H a y o) : s.TypeIs (.ref a) "dict" := by
  rcases g with ⟨kvs, k, e, _, _⟩ | ⟨kvs, k, b, e, _, _, _⟩
  · obtain ⟨_, _, vs, _, dd⟩ := dk_rd I.hok e
    exact dd.typeIs
  · obtain ⟨_, _, xs, _, dd⟩ := dt_rd I.hok e
    exact dd.typeIs
theorem dict_noDict {X : Cx} {pins : List (Addr × Obj)} {σ : St} {H : Hp} {s : Shared} {a : Addr} {y : V} {o : Option V} (I : Inv X pins σ H s) (g : DGet H a y o) :
    ∀ b, Value.ref a = .ref b → ∃ ob, s.heap.get? b = some ob ∧ ob.dict = none := fun b q => by
  cases q
  rcases g with ⟨kvs, k, e, _, _⟩ | ⟨kvs, k, b, e, _, _, _⟩
  · obtain ⟨_, _, vs, _, ob, _, _, h1, h2, _⟩ := dk_rd I.hok e
    exact ⟨ob, h1, h2.2.1⟩
  · obtain ⟨_, _, xs, _, ob, _, _, h1, h2, _⟩ := dt_rd I.hok e
    exact ⟨ob, h1, h2.2.1⟩

/-- d[y] -/
def tDGet (td ty : TE) : TE := fun σ H Q => td σ H fun x H1 => ty σ H1 fun y H2 => ∃ a v, x = .ref a ∧ DGet H2 a y (some v) ∧ Q v H2
/-- y in d, y not in d -/
def tDIn (ty td : TE) : TE := fun σ H Q => ty σ H fun y H1 => td σ H1 fun x H2 => ∃ a o, x = .ref a ∧ DGet H2 a y o ∧ Q (.bl o.isSome) H2
def tDNotIn (ty td : TE) : TE := fun σ H Q => ty σ H fun y H1 => td σ H1 fun x H2 => ∃ a o, x = .ref a ∧ DGet H2 a y o ∧ Q (.bl (!o.isSome)) H2
/-- d[y] = v -/
def sDPut (td ty tv : TE) : TS := fun D σ H => tv σ H fun v H1 => td σ H1 fun x H2 => ty σ H2 fun y H3 => ∃ a H4, x = .ref a ∧ DPut H3 a y v H4 ∧ D.nx σ H4
/-- d[y] op= v -/
def sDAug (td ty tv : TE) (rd : V → V → Hp → VK → Prop) : TS := fun D σ H => td σ H fun x H1 => ty σ H1 fun y H2 => ∃ a v, x = .ref a ∧ DGet H2 a y (some v) ∧
  tv σ H2 fun y2 H3 => rd v y2 H3 fun z H4 => ∃ H5, DPut H4 a y z H5 ∧ D.nx σ H5
/-- del d[y] -/
def sDDel (td ty : TE) : TS := fun D σ H => td σ H fun x H1 => ty σ H1 fun y H2 => ∃ a kvs k, x = .ref a ∧ H2 a = some (.dK kvs) ∧ y = kV k ∧ (valV kvs k).isSome = true ∧ D.nx σ (upd H2 a (.dK (dropK kvs k)))

section
variable {X : Cx} {o i e value : Expr} {pos pos' tpos : Pos} {td ty tv : TE}
theorem pe_dget (hu : X.A.units + 1 < cLine) (ho : PE X o td) (hi : PE X i ty) (hs : NoSl i) : PE X (.Subscript o i pos) (tDGet td ty) := by
  intro pins s σ H Q I h
  refine subD_of PySem.F.slot_dict_getitem.lookup hs (thn (ho pins s σ H _ I h) fun u s1 ⟨x, H1, I1, rx, q1⟩ => thn (hi pins s1 σ H1 _ I1 q1) fun iv s2 ⟨y, H2, I2, ry, a, v, ex, g, q2⟩ => ?_)
  subst ex
  obtain rfl : u = Value.ref a := rx
  exact ⟨dict_typeIs I2 g, d_getItem hu I2 g ry fun w' s3 I3 rw' => ⟨v, H2, I3, rw', q2⟩⟩
theorem pc_din (hu : X.A.units + 1 < cLine) (hi : PE X i ty) (ho : PE X o td) : PC X .In i o (tDIn ty td) := by
  intro pins s σ H Q I h
  refine thn (hi pins s σ H _ I h) fun iv s1 ⟨y, H1, I1, ry, q1⟩ => thn (ho pins s1 σ H1 _ I1 q1) fun u s2 ⟨x, H2, I2, rx, a, ov, ex, g, q2⟩ => ?_
  subst ex
  obtain rfl : u = Value.ref a := rx
  exact d_in hu I2 g ry fun s3 I3 => ⟨.bl ov.isSome, H2, I3, rfl, q2⟩
theorem pc_dnotin (hu : X.A.units + 1 < cLine) (hi : PE X i ty) (ho : PE X o td) : PC X .NotIn i o (tDNotIn ty td) := by
  intro pins s σ H Q I h
  refine thn (hi pins s σ H _ I h) fun iv s1 ⟨y, H1, I1, ry, q1⟩ => thn (ho pins s1 σ H1 _ I1 q1) fun u s2 ⟨x, H2, I2, rx, a, ov, ex, g, q2⟩ => ?_
  subst ex
  obtain rfl : u = Value.ref a := rx
  exact d_notIn hu I2 g ry fun s3 I3 => ⟨.bl (!ov.isSome), H2, I3, rfl, q2⟩
theorem ps_dput (hu : X.A.units + 1 < cLine) (ho : PE X o td) (hi : PE X i ty) (hv : PE X value tv) (hs : swapsWith value (some (.Subscript o i pos')) pos.line X.env = pure false) :
    PS X (.Assign [.Subscript o i pos'] value pos) (sDPut td ty tv) := by
  intro pins s σ H D I h
  refine wpAny_Assign_Subscript (thn (hv pins s σ H _ I h) fun r s1 ⟨v, H1, I1, rv, q1⟩ => thn (ho pins s1 σ H1 _ I1 q1) fun u s2 ⟨x, H2, I2, rx, q2⟩ => thn (hi pins s2 σ H2 _ I2 q2) fun iv s3 ⟨y, H3, I3, ry, a, H4, ex, g, q3⟩ => ?_) hs
  subst ex
  obtain rfl : u = Value.ref a := rx
  exact d_setItem hu I3 g ry rv fun s4 I4 => ⟨σ, H4, I4, q3⟩
theorem ps_daug {op : Operator} {rd : V → V → Hp → VK → Prop} (hu : X.A.units + 1 < cLine) (ho : PE X o td) (hi : PE X i ty) (hv : PE X value tv) (hop : InOp X op rd)
    (ha : ∀ ov iv new, augStore i ov iv new = (do holding [new, ov, iv] (setItem ov iv new); release [new, ov, iv] []; pure .next)) : PS X (.AugAssign (.Subscript o i tpos) op value pos) (sDAug td ty tv rd) := by
  intro pins s σ H D I h
  refine wpAny_AugAssign_SubscriptAny (thn (ho pins s σ H _ I h) fun u s1 ⟨x, H1, I1, rx, q1⟩ => thn (hi pins s1 σ H1 _ I1 q1) fun iv s2 ⟨y, H2, I2, ry, a, v, ex, g, q2⟩ => ?_) ha
  subst ex
  obtain rfl : u = Value.ref a := rx
  refine d_getItem hu I2 g ry fun w' s3 I3 rw' => thn (hv pins s3 σ H2 _ I3 q2) fun w2 s4 ⟨y2, H3, I4, ry2, q3⟩ => thn (hop pins s4 σ H3 v y2 w' w2 _ I4 rw' ry2 q3) fun w3 s5 ⟨z, H4, I5, rz, H5, g5, q4⟩ => ?_
  exact d_setItem hu I5 g5 ry rz fun s6 I6 => ⟨σ, H5, I6, q4⟩
theorem ps_ddel (ho : PE X o td) (hi : PE X i ty) : PS X (.Delete [.Subscript o i tpos] pos) (sDDel td ty) := by
  intro pins s σ H D I h
  refine wpAny_Delete (wpAny_deleteEach_cons (wpAny_delete_Subscript (thn (ho pins s σ H _ I h) fun u s1 ⟨x, H1, I1, rx, q1⟩ => thn (hi pins s1 σ H1 _ I1 q1) fun iv s2 ⟨y, H2, I2, ry, a, kvs, k, ex, e, ey, l, q2⟩ => ?_)))
  subst ex ey
  obtain rfl : u = Value.ref a := rx
  exact d_delItem I2 e ry l fun s3 I3 => wpAny_deleteEach_nil ⟨σ, _, I3, q2⟩
end


/-! ### displays -/
theorem dk_empty {P : Program} {w : World} {H : Hp} (h : Heap) (hb : sysModules < h.objs.size) : ObjOk P w H (h.push { cls := .type "dict", data := .dict #[] }) h.objs.size (.dK []) :=
  ⟨Nat.zero_le _, beq_eq_false_iff_ne.mpr (Ne.symm (Nat.ne_of_lt hb)), [], .nil, Heap.DictOf.new h⟩
theorem dt_empty {P : Program} {w : World} {H : Hp} (h : Heap) (hb : sysModules < h.objs.size) : ObjOk P w H (h.push { cls := .type "dict", data := .dict #[] }) h.objs.size (.dT []) :=
  ⟨Nat.zero_le _, beq_eq_false_iff_ne.mpr (Ne.symm (Nat.ne_of_lt hb)), [], .nil, _, #[], 0, Heap.get?_push_size _ rfl, ⟨rfl, rfl, rfl⟩, rfl, rfl, List.nodup_nil⟩
/-- {}, to be a dict of the kind that is wanted -/
def tDNewK : TE := fun _ H Q => ∀ p, H p = none → Q (.ref p) (upd H p (.dK []))
def tDNewT : TE := fun _ H Q => ∀ p, H p = none → Q (.ref p) (upd H p (.dT []))
section
variable {X : Cx} {pos : Pos}
theorem pe_dnewK : PE X (.Dict [] [] pos) tDNewK := fun pins s σ H Q I h =>
  wpAny_Dict_empty ⟨.ref s.heap.objs.size, _, I.laid (a := s.heap.objs.size) (o := .dK []) (t' := s.toks) (fun _ _ q => Heap.get?_push_of_some _ q) (Nat.le_refl _) (dk_empty s.heap I.big), rfl, h _ (I.hok.fresh (Nat.le_refl _))⟩
theorem pe_dnewT : PE X (.Dict [] [] pos) tDNewT := fun pins s σ H Q I h =>
  wpAny_Dict_empty ⟨.ref s.heap.objs.size, _, I.laid (a := s.heap.objs.size) (o := .dT []) (t' := s.toks) (fun _ _ q => Heap.get?_push_of_some _ q) (Nat.le_refl _) (dt_empty s.heap I.big), rfl, h _ (I.hok.fresh (Nat.le_refl _))⟩
end

/-- the pairs of a display, from the left -/
def tPairs : List (TE × TE) → St → Hp → (List (V × V) → Hp → Prop) → Prop
  | [], _, H, Q => Q [] H
  | (tk, tv) :: r, σ, H, Q => tk σ H fun x H1 => tv σ H1 fun y H2 => tPairs r σ H2 fun ps H3 => Q ((x, y) :: ps) H3
abbrev VV : List (V × V) → List (Value × Value) → Prop := Paired fun p q => RelV p.1 q.1 ∧ RelV p.2 q.2
def PPs (X : Cx) (pos : Pos) (keys : List (Option Expr)) (values : List Expr) (trs : List (TE × TE)) : Prop :=
  ∀ (pins : List (Addr × Obj)) (s : Shared) (σ : St) (H : Hp) (Q : List (V × V) → Hp → Prop), Inv X pins σ H s → tPairs trs σ H Q →
    wpAny (model X.prog X.w) X.A (evalPairs (pairTrees keys values X.env pos)) (fun vs s' => ∃ ps H', Inv X pins σ H' s' ∧ VV ps vs ∧ Q ps H') X.xe s
theorem pps_nil {X : Cx} {pos : Pos} : PPs X pos [] [] [] := fun pins s σ H Q I h => pairTrees_nil_walk ⟨[], H, I, .nil, h⟩
theorem pps_cons {X : Cx} {pos : Pos} {k v : Expr} {ks : List (Option Expr)} {vs : List Expr} {tk tv : TE} {trs : List (TE × TE)} (hk : PE X k tk) (hv : PE X v tv) (hr : PPs X pos ks vs trs) :
    PPs X pos (some k :: ks) (v :: vs) ((tk, tv) :: trs) := fun pins s σ H Q I h =>
  pairTrees_cons_walk (thn (hk pins s σ H _ I h) fun u s1 ⟨x, H1, I1, rx, q1⟩ => thn (hv pins s1 σ H1 _ I1 q1) fun w2 s2 ⟨y, H2, I2, ry, q2⟩ =>
    thn (hr pins s2 σ H2 _ I2 q2) fun ws s3 ⟨ps, H3, I3, rel, q3⟩ => ⟨(x, y) :: ps, H3, I3, .cons ⟨rx, ry⟩ rel, q3⟩)

def mergeK (kvs more : List (Key × V)) : List (Key × V) := more.foldl (fun acc kv => putK acc kv.1 kv.2) kvs
theorem KV.merge : ∀ {more : List (Key × V)} {rs : List (Key × Value)} {kvs : List (Key × V)} {vs : List (Key × Value)}, KV more rs → KV kvs vs → KV (mergeK kvs more) (merged vs rs) := by
  intro more rs kvs vs r
  unfold KV at r
  induction r generalizing kvs vs with
  | nil => intro q; exact q
  | @cons p q ps qs h t ih =>
    intro r0
    have e : KV (putK kvs p.1 p.2) (stored vs q.1 q.2) := by
      have := r0.put p.1 h.2
      rw [← h.1]; exact this
    exact ih e
theorem length_mergeK : ∀ (more kvs : List (Key × V)), (mergeK kvs more).length ≤ kvs.length + more.length
  | [], kvs => by show kvs.length ≤ kvs.length + 0; omega
  | p :: r, kvs => by
    have h1 := length_mergeK r (putK kvs p.1 p.2)
    have h2 := length_putK kvs p.1 p.2
    show (mergeK (putK kvs p.1 p.2) r).length ≤ _
    rw [List.length_cons]; omega
theorem carries_of {P : Program} {w : World} : ∀ {kvs : List (Key × V)} {ws : List (Value × Value)}, VV (kvs.map fun kv => (kV kv.1, kv.2)) ws → ∃ rs, Carries (mixKind P w) ws rs ∧ KV kvs rs
  | [], _, r => by rw [List.map_nil] at r; cases r; exact ⟨[], True.intro, .nil⟩
  | p :: kvs, _, r => by
    rw [List.map_cons] at r
    cases r with
    | @cons a b as bs h t =>
      obtain ⟨rs, c, q⟩ := carries_of (P := P) (w := w) t
      obtain ⟨b1, b2⟩ := b
      exact ⟨(p.1, b2) :: rs, ⟨kV_is h.1, rfl, c⟩, .cons ⟨rfl, h.2⟩ q⟩
/-- {k: v, ..} with keys ints and texts; the new dict stands empty while the pairs are made -/
def tDisp (trs : List (TE × TE)) : TE := fun σ H Q => ∀ p, H p = none → tPairs trs σ (upd H p (.dK [])) fun ps H2 => H2 p = some (.dK []) ∧ ∃ kvs : List (Key × V), ps = kvs.map (fun kv => (kV kv.1, kv.2)) ∧ kvs.length ≤ 15 ∧ Q (.ref p) (upd H2 p (.dK (mergeK [] kvs)))
theorem pe_disp {X : Cx} {pos : Pos} {keys : List (Option Expr)} {values : List Expr} {trs : List (TE × TE)} (h : PPs X pos keys values trs) (hall : keys.all (·.isSome) = true) (hl : keys.length = values.length) (h0 : keys ≠ [])
    (h15 : keys.length ≤ 15) : PE X (.Dict keys values pos) (tDisp trs) := by
  intro pins s σ H Q I q
  have hn := I.hok.fresh (Nat.le_refl s.heap.objs.size)
  have I1 := I.laid (a := s.heap.objs.size) (o := .dK []) (h' := s.heap.push { cls := .type "dict", data := .dict #[] }) (t' := s.toks) (fun _ _ q => Heap.get?_push_of_some _ q) (Nat.le_refl _) (dk_empty s.heap I.big)
  refine wpAny_Dict_walk (knd := mixKind X.prog X.w) hall hl h0 h15 (thn (h pins _ σ _ _ I1 (q _ hn)) fun ws s2 ⟨ps, H2, I2, rel, e, kvs, ep, lk, q2⟩ => ?_)
  subst ep
  obtain ⟨rs, c, rk⟩ := carries_of (P := X.prog) (w := X.w) rel
  obtain ⟨z, hd, vs0, r0, dd⟩ := dk_of I2.hok e
  cases r0
  refine ⟨rs, c, dd, fun h' dd' hs => ⟨.ref s.heap.objs.size, _, ?_, rfl, q2⟩⟩
  have hz : (mergeK [] kvs).length ≤ sizeLine := by
    have h1 := length_mergeK kvs []
    rw [List.length_nil] at h1
    rw [sizeLine_eq]; omega
  have he : ∃ q, h'.get? s.heap.objs.size = some q := let ⟨q, _, _, hq, _⟩ := dd'; ⟨q, hq⟩
  exact d_write I2 (by rw [e]; exact True.intro) hs he (dk_new hz hd (rk.merge .nil) dd')


/-! ### methods -/
/-- a method call o.m(e) of a built-in, with one argument: what must be seen of the text -/
structure M1 (X : Cx) (o : Expr) (m : Str) (apos : Pos) (e : Expr) (cpos : Pos) : Prop where
  base : attributeBase o m X.env (eval o X.env) = eval o X.env
  few : ((backTo cpos (starEach [e] X.env)).all (fun x => !x.1) && (backToKw cpos (keywordEach [] X.env)).all (fun x => x.1.isSome)
    && decide (([e] : List Expr).length + ([] : List Keyword).length + (if ([] : List Keyword).isEmpty then 0 else 1) < 30)) = true
  line : (apos.endLine == cpos.line) = true
  trees : backTo cpos (starEach [e] X.env) = [(false, eval e X.env)]
structure M2 (X : Cx) (o : Expr) (m : Str) (apos : Pos) (e f : Expr) (cpos : Pos) : Prop where
  base : attributeBase o m X.env (eval o X.env) = eval o X.env
  few : ((backTo cpos (starEach [e, f] X.env)).all (fun x => !x.1) && (backToKw cpos (keywordEach [] X.env)).all (fun x => x.1.isSome)
    && decide (([e, f] : List Expr).length + ([] : List Keyword).length + (if ([] : List Keyword).isEmpty then 0 else 1) < 30)) = true
  line : (apos.endLine == cpos.line) = true
  trees : backTo cpos (starEach [e, f] X.env) = [(false, eval e X.env), (false, eval f X.env)]

/-- a is a dict, whatever its keys -/
def IsD (H : Hp) (a : Addr) : Prop := (∃ kvs, Rd H a (.dK kvs)) ∨ ∃ kvs, Rd H a (.dT kvs)
theorem isD_at {X : Cx} {pins : List (Addr × Obj)} {σ : St} {H : Hp} {s : Shared} {a : Addr} (I : Inv X pins σ H s) (d : IsD H a) :
    s.TypeIs (.ref a) "dict" ∧ (∀ b, Value.ref a = .ref b → ∃ ob, s.heap.get? b = some ob ∧ ob.dict = none) ∧ (a == sysModules) = false := by
  rcases d with ⟨kvs, e⟩ | ⟨kvs, e⟩
  · obtain ⟨_, hd, vs, _, dd⟩ := dk_rd I.hok e
    refine ⟨dd.typeIs, fun b q => ?_, hd⟩
    cases q
    obtain ⟨ob, _, _, h1, h2, _⟩ := dd
    exact ⟨ob, h1, h2.2.1⟩
  · obtain ⟨_, hd, xs, _, dd⟩ := dt_rd I.hok e
    refine ⟨dd.typeIs, fun b q => ?_, hd⟩
    cases q
    obtain ⟨ob, _, _, h1, h2, _⟩ := dd
    exact ⟨ob, h1, h2.2.1⟩

section
variable {X : Cx} {pins : List (Addr × Obj)} {σ : St} {H : Hp} {s : Shared} {a : Addr} {y d : V} {u r : Value} {o : Option V} {A : Around} {E : Value → Shared → Prop}
/-- d.get(y) -/
theorem d_get1 {Q : Value → Shared → Prop} (hu : A.units + 1 < cLine) (I : Inv X pins σ H s) (g : DGet H a y o) (ry : RelV y u) (h : ∀ w' s', Inv X pins σ H s' → RelV (o.getD .non) w' → Q w' s') :
    wpAny (model X.prog X.w) A (call (.builtin "dict.get") [.ref a, u]) Q E s := by
  rcases g with ⟨kvs, k, e, ey, l⟩ | ⟨kvs, k, b, e, ey, eb, l⟩
  · subst ey
    obtain ⟨z, hd, vs, rel, dd⟩ := dk_rd I.hok e
    refine call_meetsIn PySem.F.slot_dict_get dd.typeIs PySem.F.entry_dict_get (PySem.F.args_dict_get_2 _ _) (meets_dict_get (mixKind X.prog X.w) a (kV_is ry) hd) ⟨_, dd.mapOf, h _ _ (I.tok _) ?_⟩
    rw [l]
    exact (rel.val k).getD rfl
  · subst ey
    cases (show u = Value.ref b from ry)
    obtain ⟨z, hd, xs, rel, dd⟩ := dt_rd I.hok e
    refine call_meetsIn PySem.F.slot_dict_get dd.typeIs PySem.F.entry_dict_get (PySem.F.args_dict_get_2 _ _) (meetsH_dict_get (tupleKind (mixKind X.prog X.w)) a b hd) ⟨tupleKind_room_in1 hu, k, xs, key_of I.hok eb, dd, h _ _ (I.tok _) ?_⟩
    rw [l]
    exact (rel.val k).getD rfl
/-- d.get(y, x) -/
theorem d_get2 {Q : Value → Shared → Prop} (hu : A.units + 1 < cLine) (I : Inv X pins σ H s) (g : DGet H a y o) (ry : RelV y u) (rd : RelV d r) (h : ∀ w' s', Inv X pins σ H s' → RelV (o.getD d) w' → Q w' s') :
    wpAny (model X.prog X.w) A (call (.builtin "dict.get") [.ref a, u, r]) Q E s := by
  rcases g with ⟨kvs, k, e, ey, l⟩ | ⟨kvs, k, b, e, ey, eb, l⟩
  · subst ey
    obtain ⟨z, hd, vs, rel, dd⟩ := dk_rd I.hok e
    refine call_meetsIn PySem.F.slot_dict_get dd.typeIs PySem.F.entry_dict_get (PySem.F.args_dict_get_3 _ _ _) (meets_dict_get_default (mixKind X.prog X.w) a (kV_is ry) hd r) ⟨_, dd.mapOf, h _ _ (I.tok _) ?_⟩
    rw [l]
    exact (rel.val k).getD rd
  · subst ey
    cases (show u = Value.ref b from ry)
    obtain ⟨z, hd, xs, rel, dd⟩ := dt_rd I.hok e
    refine call_meetsIn PySem.F.slot_dict_get dd.typeIs PySem.F.entry_dict_get (PySem.F.args_dict_get_3 _ _ _) (meetsH_dict_get_default (tupleKind (mixKind X.prog X.w)) a b hd r) ⟨tupleKind_room_in1 hu, k, xs, key_of I.hok eb, dd, h _ _ (I.tok _) ?_⟩
    rw [l]
    exact (rel.val k).getD rd
end

def tDGet1 (td ty : TE) : TE := fun σ H Q => td σ H fun x H1 => ∃ a, x = .ref a ∧ IsD H1 a ∧ ty σ H1 fun y H2 => ∃ o, DGet H2 a y o ∧ Q (o.getD .non) H2
def tDGet2 (td ty tx : TE) : TE := fun σ H Q => td σ H fun x H1 => ∃ a, x = .ref a ∧ IsD H1 a ∧ ty σ H1 fun y H2 => tx σ H2 fun z H3 => ∃ o, DGet H3 a y o ∧ Q (o.getD z) H3
/-- d.pop(k): there; d.pop(k, x): there or not -/
def tDPop1 (td ty : TE) : TE := fun σ H Q => td σ H fun x H1 => ∃ a, x = .ref a ∧ IsD H1 a ∧ ty σ H1 fun y H2 => ∃ kvs k v, H2 a = some (.dK kvs) ∧ y = kV k ∧ valV kvs k = some v ∧ Q v (upd H2 a (.dK (dropK kvs k)))
def tDPop2 (td ty tx : TE) : TE := fun σ H Q => td σ H fun x H1 => ∃ a, x = .ref a ∧ IsD H1 a ∧ ty σ H1 fun y H2 => tx σ H2 fun z H3 => ∃ kvs k, H3 a = some (.dK kvs) ∧ y = kV k ∧
  (∀ v, valV kvs k = some v → Q v (upd H3 a (.dK (dropK kvs k)))) ∧ (valV kvs k = none → Q z H3)
section
variable {X : Cx} {o e f : Expr} {apos cpos : Pos} {td ty tx : TE}
theorem pe_dget1 (hu : X.A.units + 1 < cLine) (ho : PE X o td) (he : PE X e ty) (m : M1 X o "get" apos e cpos) : PE X (.Call (.Attribute o "get" apos) [e] [] cpos) (tDGet1 td ty) := by
  intro pins s σ H Q I h
  refine wpAny_Call_method m.base m.few m.line PySem.F.plainAttrs_dict PySem.F.slot_dict_get PySem.F.type_dict_get (thn (ho pins s σ H _ I h) fun u s1 ⟨x, H1, I1, rx, a, ex, d, q1⟩ => ?_)
  subst ex
  obtain rfl : u = Value.ref a := rx
  obtain ⟨t1, t2, _⟩ := isD_at I1 d
  refine ⟨t1, t2, ?_⟩
  rw [m.trees]
  refine Calls.callWith_builtin rfl (Calls.evalArgs_plain (Calls.spliced_cons (thn (he pins s1 σ H1 _ I1 q1) fun iv s2 ⟨y, H2, I2, ry, ov, g, q2⟩ => Calls.spliced_nil ?_)))
  exact d_get1 hu I2 g ry fun w' s3 I3 rw' => ⟨_, H2, I3, rw', q2⟩
theorem pe_dget2 (hu : X.A.units + 1 < cLine) (ho : PE X o td) (he : PE X e ty) (hf : PE X f tx) (m : M2 X o "get" apos e f cpos) : PE X (.Call (.Attribute o "get" apos) [e, f] [] cpos) (tDGet2 td ty tx) := by
  intro pins s σ H Q I h
  refine wpAny_Call_method m.base m.few m.line PySem.F.plainAttrs_dict PySem.F.slot_dict_get PySem.F.type_dict_get (thn (ho pins s σ H _ I h) fun u s1 ⟨x, H1, I1, rx, a, ex, d, q1⟩ => ?_)
  subst ex
  obtain rfl : u = Value.ref a := rx
  obtain ⟨t1, t2, _⟩ := isD_at I1 d
  refine ⟨t1, t2, ?_⟩
  rw [m.trees]
  refine Calls.callWith_builtin rfl (Calls.evalArgs_plain (Calls.spliced_cons (thn (he pins s1 σ H1 _ I1 q1) fun iv s2 ⟨y, H2, I2, ry, q2⟩ =>
    Calls.spliced_cons (thn (hf pins s2 σ H2 _ I2 q2) fun fv s3 ⟨z, H3, I3, rz, ov, g, q3⟩ => Calls.spliced_nil ?_))))
  exact d_get2 hu I3 g ry rz fun w' s4 I4 rw' => ⟨_, H3, I4, rw', q3⟩
theorem pe_dpop1 (ho : PE X o td) (he : PE X e ty) (m : M1 X o "pop" apos e cpos) : PE X (.Call (.Attribute o "pop" apos) [e] [] cpos) (tDPop1 td ty) := by
  intro pins s σ H Q I h
  refine wpAny_Call_method m.base m.few m.line PySem.F.plainAttrs_dict PySem.F.slot_dict_pop PySem.F.type_dict_pop (thn (ho pins s σ H _ I h) fun u s1 ⟨x, H1, I1, rx, a, ex, d, q1⟩ => ?_)
  subst ex
  obtain rfl : u = Value.ref a := rx
  obtain ⟨t1, t2, _⟩ := isD_at I1 d
  refine ⟨t1, t2, ?_⟩
  rw [m.trees]
  refine Calls.callWith_builtin rfl (Calls.evalArgs_plain (Calls.spliced_cons (thn (he pins s1 σ H1 _ I1 q1) fun iv s2 ⟨y, H2, I2, ry, kvs, k, v, ea, ey, l, q2⟩ => Calls.spliced_nil ?_)))
  subst ey
  exact d_pop I2 ea ry l (.inl rfl) fun w' s3 I3 rw' => ⟨v, _, I3, rw', q2⟩
theorem pe_dpop2 (ho : PE X o td) (he : PE X e ty) (hf : PE X f tx) (m : M2 X o "pop" apos e f cpos) : PE X (.Call (.Attribute o "pop" apos) [e, f] [] cpos) (tDPop2 td ty tx) := by
  intro pins s σ H Q I h
  refine wpAny_Call_method m.base m.few m.line PySem.F.plainAttrs_dict PySem.F.slot_dict_pop PySem.F.type_dict_pop (thn (ho pins s σ H _ I h) fun u s1 ⟨x, H1, I1, rx, a, ex, d, q1⟩ => ?_)
  subst ex
  obtain rfl : u = Value.ref a := rx
  obtain ⟨t1, t2, _⟩ := isD_at I1 d
  refine ⟨t1, t2, ?_⟩
  rw [m.trees]
  refine Calls.callWith_builtin rfl (Calls.evalArgs_plain (Calls.spliced_cons (thn (he pins s1 σ H1 _ I1 q1) fun iv s2 ⟨y, H2, I2, ry, q2⟩ =>
    Calls.spliced_cons (thn (hf pins s2 σ H2 _ I2 q2) fun fv s3 ⟨z, H3, I3, rz, kvs, k, ea, ey, q3, q4⟩ => Calls.spliced_nil ?_))))
  subst ey
  cases l : valV kvs k with
  | some v => exact d_pop I3 ea ry l (.inr ⟨fv, rfl⟩) fun w' s4 I4 rw' => ⟨v, _, I4, rw', q3 v l⟩
  | none => exact d_popD I3 ea ry l fun s4 I4 => ⟨z, H3, I4, rz, q4 l⟩
end

/-! ### dict(d): a copy -/
section
variable {X : Cx} {pins : List (Addr × Obj)} {σ : St} {H : Hp} {s : Shared} {a : Addr} {kvs : List (Key × V)} {A : Around} {E : Value → Shared → Prop}
theorem d_copyOf {Q : Value → Shared → Prop} (I : Inv X pins σ H s) (e : Rd H a (.dK kvs)) (h : ∀ p s', H p = none → Inv X pins σ (upd H p (.dK kvs)) s' → Q (.ref p) s') : wpAny (model X.prog X.w) A (call (.type "dict") [.ref a]) Q E s := by
  obtain ⟨z, hd, vs, rel, dd⟩ := dk_rd I.hok e
  refine kt_call_dict hd dd (by rw [← rel.length]; exact z) fun h' dd' hs => ?_
  refine h _ _ (I.hok.fresh (Nat.le_refl _)) (I.laid (a := s.heap.objs.size) (o := .dK kvs) (t' := s.toks) (fun b q hq => ?_) (Nat.le_refl _) (dk_new z (beq_eq_false_iff_ne.mpr (Ne.symm (Nat.ne_of_lt I.big))) rel dd'))
  exact (hs.2 b (Nat.ne_of_lt (Heap.lt_size hq))).trans (Heap.get?_push_of_some _ hq)
end


section
variable {X : Cx} {pins : List (Addr × Obj)} {σ : St} {H : Hp} {s : Shared} {a : Addr} {y : V} {u : Value} {A : Around} {E : Value → Shared → Prop}
/-- d[y], not there: a KeyError -/
theorem d_missing {Q : Value → Shared → Prop} (hu : A.units + 1 < cLine) (hh : A.handled = none) (I : Inv X pins σ H s) (g : DGet H a y none) (ry : RelV y u)
    (h : ∀ h' e t', Heap.NewExc s.heap h' e "KeyError" → E (.ref e) { s with heap := h', toks := t' }) : wpAny (model X.prog X.w) A (getItem (.ref a) u) Q E s := by
  rcases g with ⟨kvs, k, e, ey, l⟩ | ⟨kvs, k, b, e, ey, eb, l⟩
  · subst ey
    obtain ⟨z, hd, vs, rel, dd⟩ := dk_rd I.hok e
    have hn : valueAt vs k = none := RelO.none_of (by rw [l]; exact rel.val k)
    exact wpAny_getItem_missing_of (kV_is ry) hd hh dd.mapOf hn fun h' ex ne => h h' ex _ ne
  · subst ey
    cases (show u = Value.ref b from ry)
    obtain ⟨z, hd, xs, rel, dd⟩ := dt_rd I.hok e
    have hn : (atKey xs k).map (·.2) = none := RelO.none_of (by rw [l]; exact rel.val k)
    exact wpAny_getItem_missing_heap (tupleKind_room_in1 hu) (key_of I.hok eb) hd hh dd (Option.map_eq_none_iff.mp hn) fun h' ex ne => h h' ex _ ne
end
end L2

set_option linter.all false
namespace MD
open PySem
abbrev kwD (d : Value) : List (Str × Value) := [(Str.ofString "default", d)]
theorem args_d (a v : Value) : argsOk "max" ⟨[a], kwD v⟩ := by
  unfold argsOk kwD
  kernel_rfl
section
variable {prog : Program} {w : World} {A : Around} {R : Result → Shared → Prop} {It : Addr} {fp wr : List Addr} {n : Nat} {Pr : Nat → Value → Prop} {Sx : Nat → Heap → Prop}
theorem nm : (toString "max" ++ toString ".loop" : String) = "max.loop" := by decide
/-- the walk with a best one in hand -/
theorem on (W : Walks prog w A.in1 It fp wr n Pr Sx) (bt : Nat → Nat → Bool) (cm : CmpOf prog w A.in1 .Gt Pr bt) (B : Addr) (nB : B ∉ fp) (d : Value) :
    ∀ (k j : Nat) (s : Shared) (best : Value) (c : Nat), n - (j + 1) = k → j + 1 ≤ n → Sx (j + 1) s.heap → Pr (argBest bt j) best →
    s.heap.get? B = some { cls := .type "list", dict := none, data := .seq #[best, best] c, slots := #[] } →
    (∀ v h' tk, Pr (argBest bt (n - 1)) v → (∀ b o, b ∉ wr → b ≠ B → s.heap.get? b = some o → h'.get? b = some o) → R (.ok (.ret v)) { s with heap := h', toks := tk }) →
    codeAny (model prog w) A (.builtin "max.loop" ⟨[.ref It, .none, .ref B], kwD d⟩) R s := by
  have nW : B ∉ wr := fun z => nB (W.sub _ z)
  intro k
  induction k with
  | zero =>
    intro j s best c ek ej st pb eB fin
    have en : j + 1 = n := by omega
    refine codeAny_builtin PySem.F.entry_max_loop ?_
    rw [Around.under_plainId (PySem.F.plain_max_loop) _]
    show wpAny _ A.in1 (seqItems? (.ref B) >>= _) _ _ s
    refine wpAny_bind (wpAny_seqItems eB rfl ?_)
    show wpAny _ A.in1 (tryCatch (pyNext (.ref It)) _ >>= _) _ _ s
    refine wpAny_bind (wpAny_tryCatch (W.done s _ _ (en ▸ st) fun h' tk kp => ?_))
    have eB' := kp B _ nW eB
    show wpAny _ A.in1 (updateSeq B (fun _ => #[]) >>= _) _ _ _
    refine wpAny_bind ?_
    refine wpAny_updateSeq eB' rfl (wpAny_bind (wpAny_letGo (wpAny_pure ?_)))
    exact fin best _ tk (by rw [← en]; exact pb) fun b o nb nS e => (Heap.get?_update_other _ _ (Ne.symm nS)).trans (kp b o nb e)
  | succ k ih =>
    intro j s best c ek ej st pb eB fin
    have lt : j + 1 < n := by omega
    refine codeAny_builtin PySem.F.entry_max_loop ?_
    rw [Around.under_plainId (PySem.F.plain_max_loop) _]
    show wpAny _ A.in1 (seqItems? (.ref B) >>= _) _ _ s
    refine wpAny_bind (wpAny_seqItems eB rfl ?_)
    show wpAny _ A.in1 (tryCatch (pyNext (.ref It)) _ >>= _) _ _ s
    refine wpAny_bind (wpAny_tryCatch (W.item (j + 1) s _ _ lt st fun v h' tk pv st' kp => ?_))
    have eB' := kp B _ nW eB
    show wpAny _ A.in1 (tryCatch (holding [v, v] (richCompare .Gt v best >>= _)) _ >>= _) _ _ _
    refine wpAny_bind (wpAny_tryCatch (wpAny_holding (wpAny_bind (cm (j + 1) (argBest bt j) v best _ _ _ pv pb ?_))))
    refine wpAny_bind (wpAny_holding (wpAny_truthy_bool ?_))
    refine wpAny_bind (wpAny_letGo (wpAny_pure ?_))
    cases eb : bt (j + 1) (argBest bt j) with
    | true =>
      rw [if_pos rfl]
      refine wpAny_bind ?_
      refine wpAny_updateSeq eB' rfl (wpAny_bind (wpAny_letGo ?_))
      rw [nm]
      refine wpAny_pure ⟨plainId_quiet PySem.F.plain_max_loop _, ih (j + 1) _ v _ (by omega) lt (W.frame _ _ _ st' fun b bf o e => ?_) (by simp only [argBest, eb, if_true]; exact pv) (Heap.get?_update_self _ eB' rfl) fun v' h2 tk2 pv' kp2 => ?_⟩
      · exact (Heap.get?_update_other _ _ (fun z : B = b => nB (by rw [z]; exact bf))).trans e
      · exact fin v' h2 tk2 pv' fun b o nb nS e => kp2 b o nb nS ((Heap.get?_update_other _ _ (Ne.symm nS)).trans (kp b o nb e))
    | false =>
      rw [if_neg Bool.false_ne_true]
      refine wpAny_bind (wpAny_letGo ?_)
      rw [nm]
      refine wpAny_pure ⟨plainId_quiet PySem.F.plain_max_loop _, ih (j + 1) _ best c (by omega) lt st' (by simp only [argBest, eb, Bool.false_eq_true, if_false]; exact pb) eB' fun v' h2 tk2 pv' kp2 => ?_⟩
      exact fin v' h2 tk2 pv' fun b o nb nS e => kp2 b o nb nS (kp b o nb e)
/-- the walk from its begin -/
theorem begin_ (W : Walks prog w A.in1 It fp wr n Pr Sx) (bt : Nat → Nat → Bool) (cm : CmpOf prog w A.in1 .Gt Pr bt) (B : Addr) (nB : B ∉ fp) (d : Value) {s : Shared} {c : Nat} (st : Sx 0 s.heap)
    (eB : s.heap.get? B = some { cls := .type "list", dict := none, data := .seq #[] c, slots := #[] })
    (none_ : n = 0 → ∀ h' tk, (∀ b o, b ∉ wr → s.heap.get? b = some o → h'.get? b = some o) → R (.ok (.ret d)) { s with heap := h', toks := tk })
    (fin : 0 < n → ∀ v h' tk, Pr (argBest bt (n - 1)) v → (∀ b o, b ∉ wr → b ≠ B → s.heap.get? b = some o → h'.get? b = some o) → R (.ok (.ret v)) { s with heap := h', toks := tk }) :
    codeAny (model prog w) A (.builtin "max.loop" ⟨[.ref It, .none, .ref B], kwD d⟩) R s := by
  have nW : B ∉ wr := fun z => nB (W.sub _ z)
  refine codeAny_builtin PySem.F.entry_max_loop ?_
  rw [Around.under_plainId (PySem.F.plain_max_loop) _]
  show wpAny _ A.in1 (seqItems? (.ref B) >>= _) _ _ s
  refine wpAny_bind (wpAny_seqItems eB rfl ?_)
  show wpAny _ A.in1 (tryCatch (pyNext (.ref It)) _ >>= _) _ _ s
  by_cases h0 : n = 0
  · refine wpAny_bind (wpAny_tryCatch (W.done s _ _ (h0 ▸ st) fun h' tk kp => ?_))
    show wpAny _ A.in1 (rule _ >>= _) _ _ _
    exact wpAny_bind (wpAny_rule (wpAny_pure (none_ h0 h' tk kp)))
  · have hn : 0 < n := by omega
    refine wpAny_bind (wpAny_tryCatch (W.item 0 s _ _ hn st fun v h' tk pv st' kp => ?_))
    have eB' := kp B _ nW eB
    show wpAny _ A.in1 (updateSeq B (fun _ => #[v, v]) >>= _) _ _ _
    refine wpAny_bind ?_
    refine wpAny_updateSeq eB' rfl ?_
    rw [nm]
    refine wpAny_pure ⟨plainId_quiet PySem.F.plain_max_loop _, on W bt cm B nB d _ 0 _ v _ rfl hn (W.frame _ _ _ st' fun b bf o e => ?_) pv (Heap.get?_update_self _ eB' rfl) fun v' h2 tk2 pv' kp2 => ?_⟩
    · exact (Heap.get?_update_other _ _ (fun z : B = b => nB (by rw [z]; exact bf))).trans e
    · exact fin hn v' h2 tk2 pv' fun b o nb nS e => kp2 b o nb nS ((Heap.get?_update_other _ _ (Ne.symm nS)).trans (kp b o nb e))
end
section
variable {prog : Program} {w : World} {A : Around} {E : Value → Shared → Prop} {s : Shared}
theorem tree_kw {id : String} {b : Builtin} {args : List Value} {kw : List (Str × Value)} {Q : Value → Shared → Prop} (h1 : builtinKind id = none) (h2 : plainId id = true) (h3 : entryFor table id = some b) (h4 : argsOk id ⟨args, kw⟩)
    (h : wpAny (model prog w) A.in1 (b ⟨args, kw⟩) (fun fin s' => match fin with
      | .done f => (match (Except.ok f : Result) with | .ok (.ret v) => Q v s' | .ok _ => False | .error e => E e s')
      | .again c' => c'.quiet = true ∧ codeAny (model prog w) A c' (fun r s' => match r with | .ok (.ret v) => Q v s' | .ok _ => False | .error e => E e s') s') E s) : wpAny (model prog w) A (call (.builtin id) args kw) Q E s := by
  refine wpAny_call (codeAny_call_builtin h2 h3 ?_)
  simp only [checkBuiltinCall, h1]
  cases e : Manifest.signature? id with
  | none => exact wpAny_pure h
  | some sg =>
    have h4' : Bind.checkArgs id sg ⟨args, kw⟩ = pure () := by simpa only [argsOk, e] using h4
    simp only [h4']
    exact wpAny_pure h
/-- max(x, default=d) -/
theorem call {x d : Value} {Q : Value → Shared → Prop}
    (h : wpAny (model prog w) A.in1 (pyIter x) (fun it s2 => ∃ I fp wr n Pr Sx bt, it = .ref I ∧ Walks prog w A.in1 I fp wr n Pr Sx ∧ Sx 0 s2.heap ∧ (∀ b ∈ fp, b < s2.heap.objs.size) ∧ CmpOf prog w A.in1 .Gt Pr bt ∧
      (n = 0 → ∀ h' tk, (∀ b o, b ∉ wr → s2.heap.get? b = some o → h'.get? b = some o) → Q d { s2 with heap := h', toks := tk }) ∧
      (0 < n → ∀ v h' tk, Pr (argBest bt (n - 1)) v → (∀ b o, b ∉ wr → s2.heap.get? b = some o → h'.get? b = some o) → Q v { s2 with heap := h', toks := tk })) E s) :
    wpAny (model prog w) A (PySem.call (.builtin "max") [x] (kwD d)) Q E s := by
  refine tree_kw PySem.F.kind_max PySem.F.plain_max PySem.F.entry_max (args_d _ _) ?_
  show wpAny _ A.in1 (Builtin.Builtins.bindParams "max" ["key", "default"] 0 ⟨[], kwD d⟩ >>= _) _ _ s
  refine wpAny_bind (wpAny_of_eq (show Builtin.Builtins.bindParams "max" ["key", "default"] 0 ⟨[], kwD d⟩ = pure [none, some d] from rfl) ?_)
  refine wpAny_bind (wpAny_pure ?_)
  refine wpAny_bind (wpAny_mono h (fun it s2 h2 => ?_) fun _ _ e => e)
  obtain ⟨I, fp, wr, n, Pr, Sx, bt, rfl, W, st, hf, cm, q0, q1⟩ := h2
  refine wpAny_bind (wpAny_newObj_type ?_)
  have nB : s2.heap.objs.size ∉ fp := fun z => Nat.lt_irrefl _ (hf _ z)
  rw [nm]
  refine wpAny_pure ⟨plainId_quiet PySem.F.plain_max_loop _, begin_ W bt cm s2.heap.objs.size nB d (W.frame _ _ _ st fun b _ o e => Heap.get?_push_of_some _ e) (Heap.get?_push_size _ rfl) (fun z h' tk kp => ?_) fun z v h' tk pv kp => ?_⟩
  · exact q0 z h' tk fun b o nb e => kp b o nb (Heap.get?_push_of_some _ e)
  · exact q1 z v h' tk pv fun b o nb e => kp b o nb (Nat.ne_of_lt (Heap.lt_size e)) (Heap.get?_push_of_some _ e)
end
end MD
set_option linter.all false
namespace MQ
open PySem
theorem no_keys : typeLookup (.type "list") "keys" = pure none := am_miss_of_fast (by decide +kernel)
/-- a list has no attribute keys: asked quietly, nothing is told -/
theorem ask {prog : Program} {w : World} {A : Around} {E : Value → Shared → Prop} {s : Shared} {a : Addr} {xs : Array Value} {k : Nat} {sl : Array (Option Value)} {Q : Option Value → Shared → Prop}
    (hx : s.heap.get? a = some { cls := .type "list", dict := none, data := .seq xs k, slots := sl }) (hA : A.handled = none)
    (h : ∀ h' tk, (∀ b o, s.heap.get? b = some o → h'.get? b = some o) → Q none { s with heap := h', toks := tk }) : wpAny (model prog w) A (getAttr? (.ref a) "keys") Q E s := by
  obtain ⟨hp, g, d, tk, os⟩ := s
  have ty : ∀ tk', (⟨hp, g, d, tk', os⟩ : Shared).TypeIs (.ref a) "list" := fun _ => ⟨_, hx, rfl⟩
  have f1 := sub_AttributeError
  have f3 := PySem.F.slot_list_getattribute.lookup
  have f4 := PySem.F.slot_list_getattribute.bind (.ref a)
  have f5 := am_list_getattr_none
  unfold getAttr? getAttrBy? getAttrBy
  repeat (any_goals (first | assumption | exact ty _ | ((with_reducible show wpAny _ _ (PySem.call (Value.builtin "list.__getattribute__") _ _) _ _ _); refine call_meets PySem.F.slot_list_getattribute (ty _) am_entry_list_getattribute (PySem.F.args_list_getattribute_2 _ _) (meets_getattribute_miss_list a xs k sl "keys" _ no_keys (by decide +kernel) (by decide +kernel)) ⟨hx, hA, fun h' tk' e ne => ?_⟩) | wp_step))
  obtain ⟨t', u', he⟩ := ne.there
  show wpAny _ _ (getattributeRaised _ _ _ _ _ _ _) _ _ _
  unfold getattributeRaised
  repeat (any_goals (first | assumption | wp_step))
  exact h _ _ ne.keeps
end MQ
set_option linter.all false
namespace DP
open PySem
theorem entry_loop : entryFor table "dict.update.loop" = some Builtin.«dict.update.loop» := entryFor_of_tree (by kernel_rfl)
theorem plain_loop : plainId "dict.update.loop" = true := by decide +kernel
section
variable {prog : Program} {w : World} {K : Type} [DecidableEq K] {knd : KeyKind prog w K} {A : Around} {R : Result → Shared → Prop} {It : Addr} {fp wr : List Addr} {n : Nat} {Pr : Nat → Value → Prop} {Sx : Nat → Heap → Prop}
/-- kvs with the pairs i, i + 1, .. put in -/
def putFrom (ks : Nat → K) (vx : Nat → Value) : Nat → Nat → List (K × Value) → List (K × Value)
  | _, 0, kvs => kvs
  | i, k + 1, kvs => putFrom ks vx (i + 1) k (stored kvs (ks i) (vx i))
theorem stored_len (kvs : List (K × Value)) (k : K) (v : Value) : (stored kvs k v).length ≤ kvs.length + 1 := by
  unfold stored
  split
  · rw [List.length_map]; omega
  · simp
theorem fold (W : Walks prog w A.in1 It fp wr n Pr Sx) (d : Addr) (nd : d ∉ fp) (ks : Nat → K) (vx : Nat → Value) (h0 : Heap)
    (pr : ∀ i v, Pr i v → ∃ (p : Addr) (u : Value) (m : Nat) (o : Obj), v = .ref p ∧ p ∉ wr ∧ p ≠ d ∧ h0.get? p = some o ∧ o.cls = .type "tuple" ∧ o.data = .seq #[u, vx i] m ∧ knd.is (ks i) u = true) :
    ∀ (k i : Nat) (c : Int) (t : Tok) (kvs : List (K × Value)) (s : Shared), n - i = k → i ≤ n → Sx i s.heap → (∀ b o, b ∉ wr → b ≠ d → h0.get? b = some o → s.heap.get? b = some o) → s.heap.DictOf knd d kvs → kvs.length + k ≤ sizeLine →
    (∀ h' tk, h'.DictOf knd d (putFrom ks vx i k kvs) → (∀ b o, b ∉ wr → b ≠ d → h0.get? b = some o → h'.get? b = some o) → (∀ b o, b ∉ wr → b ≠ d → s.heap.get? b = some o → h'.get? b = some o) → R (.ok (.ret .none)) { s with heap := h', toks := tk }) →
    codeAny (model prog w) A (.builtin "dict.update.loop" ⟨[.ref d, .ref It, .int c t, .none], []⟩) R s := by
  have dw : d ∉ wr := fun z => nd (W.sub _ z)
  intro k
  induction k with
  | zero =>
    intro i c t kvs s ek hi st kp hd hz fin
    have ei : i = n := by omega
    subst ei
    refine codeAny_builtin entry_loop ?_
    rw [Around.under_plainId plain_loop _]
    show wpAny _ A.in1 (pyNext (.ref It) >>= _) _ _ s
    refine wpAny_bind (W.done s _ _ st fun h' tk kp' => ?_)
    show wpAny _ A.in1 (Builtin.Dict.addKeywords d [] >>= _) _ _ _
    obtain ⟨o, es, ep, ho, r⟩ := id hd
    exact wpAny_bind (wpAny_pure (wpAny_pure (fin h' tk ⟨o, es, ep, kp' d o dw ho, r⟩ (fun b o nb nd e => kp' b o nb (kp b o nb nd e)) fun b o nb nd e => kp' b o nb e)))
  | succ k ih =>
    intro i c t kvs s ek hi st kp hd hz fin
    have lt : i < n := by omega
    refine codeAny_builtin entry_loop ?_
    rw [Around.under_plainId plain_loop _]
    show wpAny _ A.in1 (pyNext (.ref It) >>= _) _ _ s
    refine wpAny_bind (W.item i s _ _ lt st fun v h' tk pv st' kp' => ?_)
    obtain ⟨p, u, m, o, rfl, np, npd, ho, hc, hdat, hk⟩ := pr i v pv
    have ho' : h'.get? p = some o := kp' p o np (kp p o np npd ho)
    have hd' : h'.DictOf knd d kvs := by
      obtain ⟨od, es, ep, hod, r⟩ := id hd
      exact ⟨od, es, ep, kp' d od dw hod, r⟩
    refine wpAny_bind (wpAny_holding (wpAny_bind (wpAny_tryCatch ?_)))
    unfold Builtin.Dict.pairItems
    refine wpAny_bind (wpAny_typeOf (T := "tuple") ⟨o, ho', hc⟩ ?_)
    rw [if_pos (by decide)]
    refine wpAny_bind (wpAny_seqItems ho' hdat (wpAny_pure ?_))
    show wpAny _ _ (holding [u, vx i] (dictSet d u (vx i))) _ _ _
    refine wpAny_holding (wpAny_dictSet_pairs hk hd' (fun h2 hd2 sb => ?_) (by omega))
    refine wpAny_pure ⟨plainId_quiet plain_loop _, ih (i + 1) _ _ _ _ (by omega) lt (W.frame _ _ _ st' fun b bf o e => ?_) (fun b o nb nbd e => ?_) hd2 ?_ fun h3 tk3 hd3 kp3 kq3 => ?_⟩
    · exact (sb.2 b fun z => nd (z ▸ bf)).trans e
    · exact (sb.2 b nbd).trans (kp' b o nb (kp b o nb nbd e))
    · have := stored_len kvs (ks i) (vx i)
      omega
    · exact fin h3 tk3 hd3 kp3 fun b o nb nbd e => kq3 b o nb nbd ((sb.2 b nbd).trans (kp' b o nb e))
end
end DP
set_option linter.all false
namespace DP
open PySem
section
variable {prog : Program} {w : World} {K : Type} [DecidableEq K] {knd : KeyKind prog w K} {A : Around} {E : Value → Shared → Prop} {s : Shared}
/-- dict(list of pairs) -/
theorem call_pairs {l : Addr} {its : Array Value} {c : Nat} {sl : Array (Option Value)} {Q : Value → Shared → Prop} (hl : s.heap.get? l = some { cls := .type "list", dict := none, data := .seq its c, slots := sl }) (hh : A.handled = none) (ks : Nat → K) (vx : Nat → Value)
    (pr : ∀ i v, its[i]? = some v → ∃ (p : Addr) (u : Value) (m : Nat) (o : Obj), v = .ref p ∧ s.heap.get? p = some o ∧ o.cls = .type "tuple" ∧ o.data = .seq #[u, vx i] m ∧ knd.is (ks i) u = true) (hz : its.size ≤ sizeLine)
    (h : ∀ h' tk, h'.DictOf knd s.heap.objs.size (putFrom ks vx 0 its.size []) → (∀ b o, s.heap.get? b = some o → h'.get? b = some o) → Q (.ref s.heap.objs.size) { s with heap := h', toks := tk }) :
    wpAny (model prog w) A (PySem.call (.type "dict") [.ref l]) Q E s := by
  refine callType_codes (Q₁ := fun obj s1 => obj = .ref s.heap.objs.size ∧ s1 = { s with heap := s.heap.push { cls := .type "dict", data := .dict #[] } }) F.kt_called_dict (F.kt_typeCall_dict_1 _) F.entry_dict_init (kt_code_dict_new _ ⟨rfl, rfl⟩) ?_
  rintro obj s1 ⟨rfl, rfl⟩
  have new : (s.heap.push { cls := .type "dict", data := .dict #[] }).DictOf knd s.heap.objs.size [] := Heap.DictOf.new s.heap
  refine ⟨new.typeIs, F.args_dict_init_2 _ _, ?_⟩
  unfold Builtin.«dict.__init__»
  refine wpAny_bind ?_
  unfold Builtin.Dict.selfAndRest
  refine wpAny_bind (wpAny_notOrdered_dict new.typeIs ?_)
  show wpAny _ _ (pure (s.heap.objs.size, [Value.ref l])) _ _ _
  refine wpAny_pure ?_
  show wpAny _ _ (Builtin.Dict.updateFrom "dict.__init__" s.heap.objs.size (.ref l) [] .none) _ _ _
  unfold Builtin.Dict.updateFrom
  have hl1 : (s.heap.push { cls := .type "dict", data := .dict #[] }).get? l = some { cls := .type "list", dict := none, data := .seq its c, slots := sl } := Heap.get?_push_of_some _ hl
  refine wpAny_bind (wpAny_typeOf (T := "list") ⟨_, hl1, rfl⟩ ?_)
  rw [if_pos (by decide)]
  refine wpAny_bind (MQ.ask hl1 hh fun h2 tk2 kp2 => ?_)
  rw [if_pos (show (none : Option Value).isNone = true from rfl)]
  refine wpAny_bind (wpAny_rule (wpAny_bind (wpAny_pyIter_list (items := its) ⟨_, kp2 _ _ hl1, rfl, _, rfl⟩ ?_)))
  have dl : s.heap.objs.size < h2.objs.size := Heap.lt_size (kp2 _ _ (Heap.get?_push_size _ rfl))
  have ll : l < s.heap.objs.size := Heap.lt_size hl
  have lh : l < h2.objs.size := Nat.lt_trans ll dl
  refine wpAny_pure ⟨plainId_quiet plain_loop _, ?_⟩
  refine fold (knd := knd) (Walks.list (A := A.in1.in1) hh h2.objs.size l (Nat.ne_of_lt lh) its) s.heap.objs.size ?nd ks vx h2 ?pr its.size 0 _ _ [] _ rfl (Nat.zero_le _) ?st ?kp ?dd ?zz ?fin
  case nd =>
    intro z
    rcases List.mem_cons.mp z with z | z
    · exact absurd z (Nat.ne_of_lt dl)
    · exact absurd (List.mem_singleton.mp z) (Nat.ne_of_gt ll)
  case pr =>
    intro i v hv
    obtain ⟨p, u, m, o, rfl, ho, hc, hd, hk⟩ := pr i v hv
    have lp : p < s.heap.objs.size := Heap.lt_size ho
    exact ⟨p, u, m, o, rfl, fun z => absurd (List.mem_singleton.mp z) (Nat.ne_of_lt (Nat.lt_trans lp dl)), Nat.ne_of_lt lp, kp2 _ _ (Heap.get?_push_of_some _ ho), hc, hd, hk⟩
  case st => exact ⟨⟨_, Heap.get?_push_size _ rfl, rfl, rfl⟩, ⟨_, Heap.get?_push_of_some _ (kp2 _ _ hl1), rfl, _, rfl⟩⟩
  case kp => exact fun b o _ _ e => Heap.get?_push_of_some _ e
  case dd => exact (new.keep kp2).push _
  case zz => simpa using hz
  case fin =>
    intro h' tk hd kp3 kq3
    refine ⟨rfl, h h' tk hd fun b o e => ?_⟩
    have lb : b < s.heap.objs.size := Heap.lt_size e
    exact kp3 b o (fun z => absurd (List.mem_singleton.mp z) (Nat.ne_of_lt (Nat.lt_trans lb dl))) (Nat.ne_of_lt lb) (kp2 _ _ (Heap.get?_push_of_some _ e))
end
end DP
set_option Elab.async false
set_option linter.all false
set_option maxRecDepth 100000
set_option maxHeartbeats 4000000
namespace L2
open PySem PySem.Spec PyProof.Rows

theorem vals_of {xs : List V} : ∀ {us : List Value}, xs.length = us.length → (∀ (i : Nat) (x : V) (u : Value), xs[i]? = some x → us[i]? = some u → RelV x u) → Vals xs us := by
  induction xs with
  | nil =>
    intro us hl _
    cases us with
    | nil => exact .nil
    | cons u us => cases hl
  | cons x xs ih =>
    intro us hl h
    cases us with
    | nil => cases hl
    | cons u us => exact .cons (h 0 x u rfl rfl) (ih (by simpa using hl) fun i y v e1 e2 => h (i + 1) y v (by simpa using e1) (by simpa using e2))
theorem rel_key {k : Key} {v : Value} (h : keyIs k v = true) : RelV (kV k) v := by
  rcases keyIs_shape h with ⟨i, t, rfl, rfl⟩ | ⟨x, t, rfl, rfl⟩
  · exact ⟨t, rfl⟩
  · exact ⟨t, rfl⟩
theorem KV.at_ {κ : Type} {kvs : List (κ × V)} {vs : List (κ × Value)} (r : KV kvs vs) : ∀ (i : Nat) (p : κ × Value), vs[i]? = some p → ∃ q : κ × V, kvs[i]? = some q ∧ q.1 = p.1 ∧ RelV q.2 p.2 := by
  induction r with
  | nil => intro i p h; simp at h
  | cons h1 h2 ih =>
    intro i p h
    cases i with
    | zero =>
      simp at h
      subst h
      exact ⟨_, rfl, h1⟩
    | succ i => simpa using ih i p (by simpa using h)

/-! ### list(d), the keys -/
theorem call_list_dict {X : Cx} (hc : X.calm = true) : CallR X (.type "list") (fun xs H Q => ∃ (p : Addr) (kvs : List (Key × V)), xs = [.ref p] ∧ H p = some (.dK kvs) ∧ ∀ l, H l = none → Q (.ref l) (upd H l (.lst (kvs.map fun kv => kV kv.1)))) := by
  intro pins s σ H xs us Q I r h
  obtain ⟨p, kvs, rfl, hp, q⟩ := h
  obtain ⟨u, rfl, rx⟩ := vals1 r
  cases rx
  obtain ⟨hz, lo, vs, rel, dd⟩ := dk_of I.hok hp
  obtain ⟨ep, da⟩ := dd.dictAt
  have hl : vs.length = kvs.length := rel.length.symm
  refine PySem.W.kdl_call (PySem.W.kdl_dict lo) (I.ok.hd hc) da (by rw [hl]; exact hz) fun h' tk acc c kp e it => ?_
  have va : Vals (kvs.map fun kv => kV kv.1) acc.toList := by
    refine vals_of (by rw [List.length_map, ← hl, ← it.1]; exact Array.length_toList.symm) fun i x u hx hu => ?_
    obtain ⟨k, y, hk, hi⟩ := it.2 i u (by simpa using hu)
    obtain ⟨q', hq, e1, _⟩ := rel.at_ i (k, y) hk
    rw [List.getElem?_map, hq] at hx
    cases hx
    show RelV (kV q'.1) u
    rw [e1]
    exact rel_key hi
  exact ⟨.ref s.heap.objs.size, _, I.laid (t' := tk) kp (Nat.le_refl _) (show ObjOk X.prog X.w _ h' _ (.lst _) from ⟨by rw [List.length_map]; exact hz, acc.toList, c, va, by rw [Array.toArray_toList]; exact e⟩), rfl, q _ I.fresh⟩

/-! ### dict(list of pairs) -/
def Prs (H : Hp) : List V → List (Key × V) → Prop := Paired fun v kv => ∃ p : Addr, v = .ref p ∧ H p = some (.tup [kV kv.1, kv.2])
theorem Prs.same {H H' : Hp} (e : Same H H') {vs : List V} {kvs : List (Key × V)} (h : Prs H vs kvs) : Prs H' vs kvs := Paired.mapP h fun _ _ ⟨p, a, b⟩ => ⟨p, a, e _ _ b⟩
theorem Prs.snoc {H : Hp} {v : V} {kv : Key × V} (hv : ∃ p : Addr, v = .ref p ∧ H p = some (.tup [kV kv.1, kv.2])) : ∀ {vs : List V} {kvs : List (Key × V)}, Prs H vs kvs → Prs H (vs ++ [v]) (kvs ++ [kv])
  | _, _, .nil => .cons hv .nil
  | _, _, .cons h r => .cons h (Prs.snoc hv r)
theorem Prs.len {H : Hp} {vs : List V} {kvs : List (Key × V)} (h : Prs H vs kvs) : vs.length = kvs.length := Paired.length h
theorem Prs.at_ {H : Hp} {vs : List V} {kvs : List (Key × V)} (r : Prs H vs kvs) : ∀ (i : Nat) (v : V), vs[i]? = some v → ∃ (kv : Key × V) (p : Addr), kvs[i]? = some kv ∧ v = .ref p ∧ H p = some (.tup [kV kv.1, kv.2]) := by
  induction r with
  | nil => intro i p h; simp at h
  | cons h1 h2 ih =>
    intro i v h
    cases i with
    | zero =>
      simp at h
      subst h
      obtain ⟨p, a, b⟩ := h1
      exact ⟨_, p, rfl, a, b⟩
    | succ i => simpa using ih i v (by simpa using h)
theorem put_from {kvs : List (Key × V)} {ks : Nat → Key} {vx : Nat → Value} : ∀ (n i : Nat) {a : List (Key × V)} {b : List (Key × Value)}, KV a b → i + n = kvs.length → (∀ (j : Nat) (kv : Key × V), i ≤ j → kvs[j]? = some kv → ks j = kv.1 ∧ RelV kv.2 (vx j)) →
    KV (mergeK a (kvs.drop i)) (DP.putFrom ks vx i n b)
  | 0, i, a, b, h, e, _ => by
    rw [List.drop_eq_nil_of_le (by omega)]
    exact h
  | n + 1, i, a, b, h, e, hr => by
    have hi : i < kvs.length := by omega
    rw [List.drop_eq_getElem_cons hi]
    obtain ⟨e1, r1⟩ := hr i kvs[i] (Nat.le_refl _) (List.getElem?_eq_getElem hi)
    show KV (mergeK (putK a kvs[i].1 kvs[i].2) (kvs.drop (i + 1))) (DP.putFrom ks vx (i + 1) n (stored b (ks i) (vx i)))
    refine put_from n (i + 1) ?_ (by omega) fun j kv hj => hr j kv (by omega)
    rw [e1]
    exact h.put _ r1
def rDictOf : List V → Hp → VK → Prop := fun xs H Q => ∃ (l : Addr) (vs : List V) (kvs : List (Key × V)), xs = [.ref l] ∧ H l = some (.lst vs) ∧ Prs H vs kvs ∧ ∀ p, H p = none → Q (.ref p) (upd H p (.dK (mergeK [] kvs)))
theorem call_dict_of {X : Cx} (hc : X.calm = true) : CallR X (.type "dict") rDictOf := by
  intro pins s σ H xs us Q I r h
  obtain ⟨l, vs, kvs, rfl, hl, hp, q⟩ := h
  obtain ⟨u, rfl, rx⟩ := vals1 r
  cases rx
  obtain ⟨hz, its, c, rv, el, hget⟩ := I.lstM hl
  have hlen := hp.len
  have key : ∀ (i : Nat) (u : Value), its[i]? = some u → ∃ (kv : Key × V) (p : Addr) (y z : Value) (m : Nat) (o : Obj), kvs[i]? = some kv ∧ u = .ref p ∧ s.heap.get? p = some o ∧ o.cls = .type "tuple" ∧ o.data = .seq #[y, z] m ∧ RelV (kV kv.1) y ∧ RelV kv.2 z := fun i u hu => by
    have hi : i < vs.length := by
      have := (List.getElem?_eq_some_iff.mp hu).1
      omega
    obtain ⟨u', hu', ru⟩ := rv.get (i := i) (x := vs[i]) (List.getElem?_eq_getElem hi)
    rw [hu] at hu'
    cases hu'
    obtain ⟨kv, p, e1, e2, e3⟩ := hp.at_ i vs[i] (List.getElem?_eq_getElem hi)
    rw [e2] at ru
    cases ru
    obtain ⟨its2, r2, tp, _⟩ := I.tuple (SqT.of (K := X.K) e3)
    obtain ⟨y, z, ez, ry, rz⟩ := Vals.two r2
    obtain ⟨o, ho, hcl, m, hd⟩ := tp
    refine ⟨kv, p, y, z, m, o, e1, rfl, ho, hcl, ?_, ry, rz⟩
    rw [hd, ez]
  have some_at : ∀ i : Nat, ∃ (k : Key) (v : Value), ∀ u, its[i]? = some u → ∃ (p : Addr) (y : Value) (m : Nat) (o : Obj), u = .ref p ∧ s.heap.get? p = some o ∧ o.cls = .type "tuple" ∧ o.data = .seq #[y, v] m ∧ keyIs k y = true ∧ ∃ kv, kvs[i]? = some kv ∧ k = kv.1 ∧ RelV kv.2 v := fun i => by
    cases e : its[i]? with
    | none => exact ⟨.inl 0, .none, fun u z => by cases z⟩
    | some u =>
      obtain ⟨kv, p, y, z, m, o, e1, e2, e3, e4, e5, e6, e7⟩ := key i u e
      refine ⟨kv.1, z, fun u' z' => ?_⟩
      cases z'
      have hk := kV_is (P := X.prog) (w := X.w) e6
      exact ⟨p, y, m, o, e2, e3, e4, e5, hk, kv, e1, rfl, e7⟩
  have ch := fun i => (some_at i).choose_spec.choose_spec
  refine DP.call_pairs (knd := mixKind X.prog X.w) hget (I.ok.hd hc) (fun i => (some_at i).choose) (fun i => (some_at i).choose_spec.choose) (fun i v hv => ?_) (by rw [List.size_toArray, ← el]; exact hz) fun h' tk hd kp => ?_
  · obtain ⟨p, y, m, o, e2, e3, e4, e5, hk, _⟩ := ch i v (by simpa using hv)
    exact ⟨p, y, m, o, e2, e3, e4, e5, hk⟩
  · have hkv : KV (mergeK [] kvs) (DP.putFrom (fun i => (some_at i).choose) (fun i => (some_at i).choose_spec.choose) 0 its.toArray.size []) := by
      have := put_from (kvs := kvs) (ks := fun i => (some_at i).choose) (vx := fun i => (some_at i).choose_spec.choose) kvs.length 0 (a := []) (b := []) .nil (by omega) (fun j kv _ hj => by
        have hjl : j < its.length := by
          have := (List.getElem?_eq_some_iff.mp hj).1
          omega
        obtain ⟨p, y, m, o, _, _, _, _, _, kv', e1, e2, e3⟩ := ch j its[j] (List.getElem?_eq_getElem hjl)
        rw [hj] at e1
        cases e1
        exact ⟨e2, e3⟩)
      rw [List.drop_zero] at this
      rw [List.size_toArray, ← el, hlen]
      exact this
    have hml : (mergeK [] kvs).length ≤ sizeLine := by
      have := length_mergeK kvs []
      simp at this
      omega
    have I1 := I.laid (a := s.heap.objs.size) (o := .dK (mergeK [] kvs)) (t' := tk) kp (Nat.le_refl _) (dk_new hml (beq_eq_false_iff_ne.mpr (Nat.ne_of_gt I.big)) hkv hd)
    exact ⟨.ref s.heap.objs.size, _, I1, rfl, q _ I.fresh⟩

theorem merge_val : ∀ (kvs a : List (Key × V)) (k : Key), (valV (mergeK a kvs) k).isSome = true ↔ (valV a k).isSome = true ∨ k ∈ kvs.map (·.1)
  | [], a, k => by simp [mergeK]
  | kv :: r, a, k => by
    show (valV (mergeK (putK a kv.1 kv.2) r) k).isSome = true ↔ _
    rw [merge_val r (putK a kv.1 kv.2) k, valV_put, List.map_cons, List.mem_cons]
    by_cases e : k = kv.1
    · rw [if_pos e]
      simp [e]
    · rw [if_neg e]
      simp [e]
/-- dict([(one, True) for one in level[j]]) -/
theorem dict_level {K : PySem.W.Frag} {σ : St} {H : Hp} {Q : VK} {p pc : Addr} {xs : List V} {cs : List Str} {j : Int} (h1 : σ[1]? = some (some (.ref p))) (hp : H p = some (.tup xs)) (hj : atI xs j = some (.ref pc)) (hc : H pc = some (.tup (cs.map V.str))) (hz : cs.length ≤ 1000)
    (k : ∀ (d : Addr) (H' : Hp), Same H H' → H' d = some (.dK (mergeK [] (cs.map fun c => ((Sum.inr c : Key), V.bl true)))) → Q (.ref d) H') :
    tCB rDictOf (tCons (tComp (iTup K (tOp (rIxT K) (tVar 1) (tC (.int j)))) (gName 0) tYes (tTup (tCons (tVar 0) (tCons (tC (.bl true)) tNil))) (liftBy [none])) tNil) σ H Q := by
  refine ⟨_, h1, p, _, _, _, rfl, rfl, SqT.of hp, hj, pc, rfl, ⟨_, SqT.of hc⟩, fun l hl => ?_⟩
  refine comp_by (J := Itt K pc) (l := l) cs.length (fun i σ' H' => ∃ (v : Option V) (us : List V), σ' = [v] ∧ Same H H' ∧ H' l = some (.lst us) ∧ Prs H' us ((cs.take i).map fun c => ((Sum.inr c : Key), V.bl true))) ⟨none, [], rfl, same_new hl _, upd_same, .nil⟩ ?_ ?_
  · rintro σ' H' ⟨v, us, rfl, hs, hl', hp'⟩
    refine ⟨⟨_, SqT.of (hs _ _ hc), by simp⟩, l, us, _, rfl, hl', hp', fun d hd => ?_⟩
    rw [List.take_length]
    exact k d _ (hs.trans (same_new hd _)) upd_same
  · rintro i σ' H' hi ⟨v, us, rfl, hs, hl', hp'⟩
    have hat : (cs.map V.str)[i]? = some (V.str cs[i]) := by rw [List.getElem?_map, List.getElem?_eq_getElem hi]; rfl
    refine ⟨⟨_, _, SqT.of (hs _ _ hc), hat⟩, ?_⟩
    rintro y H'' ⟨rfl, hy⟩
    have ey : y = V.str cs[i] := Option.some.inj ((hy _ (SqT.of (hs _ _ hc))).symm.trans hat)
    subst ey
    refine gN (yesT (iteT ?_))
    refine ⟨_, rfl, smn 2, fun q hq => ?_⟩
    have nlq : l ≠ q := ne_of_none hl' hq
    refine ⟨us, (upd_ne nlq).trans hl', ?_, _, us ++ [.ref q], rfl, ?_, upd_same, ?_⟩
    · have := hp'.len
      rw [List.length_map, List.length_take] at this
      exact small1000 (by omega)
    · intro c o z
      have hlH : H l = none := hl
      rw [upd_ne (ne_of_none z hlH)]
      exact same_new hq _ c o (hs c o z)
    · have ht : (cs.take (i + 1)).map (fun c => ((Sum.inr c : Key), V.bl true)) = (cs.take i).map (fun c => ((Sum.inr c : Key), V.bl true)) ++ [((Sum.inr cs[i] : Key), V.bl true)] := by
        rw [List.take_add_one, List.getElem?_eq_getElem hi, List.map_append]
        rfl
      rw [ht]
      refine Prs.snoc ⟨q, rfl, ?_⟩ ?_
      · rw [upd_ne nlq.symm, upd_same]
        rfl
      · refine Paired.mapP hp' fun v kv ⟨p', e1, e2⟩ => ⟨p', e1, ?_⟩
        have n1 : p' ≠ q := ne_of_none e2 hq
        have n2 : p' ≠ l := ne_of e2 hl' (by intro z; cases z)
        rw [upd_ne n2, upd_ne n1]
        exact e2
end L2
set_option Elab.async false
set_option linter.all false
set_option maxRecDepth 100000
set_option maxHeartbeats 4000000
namespace L2
open PySem PySem.Spec PyProof.Rows

/-! ### startswith(text, place) -/
theorem pre_sub (y z : Str) (i : Nat) (hi : i ≤ y.length) : (decide (i + z.length ≤ y.length) && Builtin.Str.subAt y z i) = z.cps.toList.isPrefixOf (y.cps.toList.drop i) := by
  rw [Bool.eq_iff_iff, List.isPrefixOf_iff_prefix, List.prefix_iff_eq_take, Bool.and_eq_true, decide_eq_true_eq]
  unfold Builtin.Str.subAt
  have hz : z.cps.toList.length = z.length := by simp [Str.length]
  have hy : y.cps.toList.length = y.length := by simp [Str.length]
  have e : (y.cps.extract i (i + z.length)).toList = (y.cps.toList.drop i).take z.length := by
    rw [Array.toList_extract, List.extract_eq_take_drop]
    congr 1
    omega
  rw [beq_iff_eq]
  constructor
  · rintro ⟨_, h⟩
    rw [hz, ← e, h]
  · intro h
    rw [hz] at h
    refine ⟨?_, ?_⟩
    · have := congrArg List.length h
      rw [List.length_take, List.length_drop, hz, hy] at this
      omega
    · apply Array.toList_inj.mp
      rw [e]
      exact h.symm
theorem mt_starts {X : Cx} : MtR X "str.startswith" (fun x xs H Q => ∃ (y z : Str) (i : Nat), x = .str y ∧ xs = [.str z, .int (i : Nat)] ∧ i ≤ y.length ∧ Q (.bl (z.cps.toList.isPrefixOf (y.cps.toList.drop i))) H) := by
  intro pins s σ H x xs v us Q I rx r h
  obtain ⟨y, z, i, rfl, rfl, hi, q⟩ := h
  obtain ⟨t, rfl⟩ := rx
  obtain ⟨u, u', rfl, ⟨t1, rfl⟩, ⟨t2, rfl⟩⟩ := vals2 r
  refine SC.startswith3 ?_
  have e : Txt.startswith3 y z (i : Int) = z.cps.toList.isPrefixOf (y.cps.toList.drop i) := by
    have ef : fromIndex y.length (i : Int) = i := by
      unfold fromIndex
      rw [if_neg (by omega)]
      omega
    unfold Txt.startswith3
    rw [ef]
    exact pre_sub y z i hi
  rw [e]
  exact ⟨.bl _, H, I, rfl, q⟩

/-! ### max -/
theorem call_max3 {X : Cx} (hc : X.calm = true) : CallR X (.builtin "max") (fun xs H Q => ∃ i j k : Int, xs = [.int i, .int j, .int k] ∧ Q (.int (max (max i j) k)) H) := by
  intro pins s σ H xs us Q I r h
  obtain ⟨i, j, k, rfl, q⟩ := h
  cases r with
  | cons r1 r =>
    obtain ⟨u, u', rfl, ⟨t2, rfl⟩, ⟨t3, rfl⟩⟩ := vals2 r
    obtain ⟨t1, rfl⟩ := r1
    refine max_three_ints (I.ok.hd hc) fun h' tk kp => ?_
    have e : ∃ t, (if j > i then (if k > j then Value.int k t3 else .int j t2) else (if k > i then .int k t3 else .int i t1)) = .int (max (max i j) k) t := by
      by_cases h1 : j > i
      · rw [if_pos h1]
        by_cases h2 : k > j
        · rw [if_pos h2]
          exact ⟨t3, by congr 1; omega⟩
        · rw [if_neg h2]
          exact ⟨t2, by congr 1; omega⟩
      · rw [if_neg h1]
        by_cases h2 : k > i
        · rw [if_pos h2]
          exact ⟨t3, by congr 1; omega⟩
        · rw [if_neg h2]
          exact ⟨t1, by congr 1; omega⟩
    obtain ⟨t, e⟩ := e
    rw [e]
    exact ⟨.int _, H, I.kept (t' := tk) kp, ⟨_, rfl⟩, q⟩
theorem ints_at {ns : List Int} {its : List Value} (r : Vals (ns.map V.int) its) {i : Nat} {v : Value} (h : its.toArray[i]? = some v) : ∃ t, v = .int (ns.getD i 0) t := by
  have h' : its[i]? = some v := by simpa using h
  have hl := r.length
  have hi : i < its.length := (List.getElem?_eq_some_iff.mp h').1
  have hb : i < ns.length := by rw [List.length_map] at hl; omega
  obtain ⟨u, hu, ru⟩ := r.get (i := i) (x := V.int ns[i]) (by rw [List.getElem?_map, List.getElem?_eq_getElem hb]; rfl)
  rw [h'] at hu
  cases hu
  obtain ⟨t, rfl⟩ := ru
  refine ⟨t, ?_⟩
  rw [List.getD_eq_getElem?_getD, List.getElem?_eq_getElem hb]
  rfl
theorem foldr_max_le {ns : List Int} {m : Int} (h0 : 0 ≤ m) (h : ∀ n ∈ ns, n ≤ m) : ns.foldr max 0 ≤ m := by
  induction ns with
  | nil => exact h0
  | cons a r ih =>
    have h1 := h a List.mem_cons_self
    have h2 := ih fun n hn => h n (List.mem_cons_of_mem _ hn)
    show max a (r.foldr max 0) ≤ m
    omega
theorem le_foldr_max {ns : List Int} {n : Int} (h : n ∈ ns) : n ≤ ns.foldr max 0 := by
  induction ns with
  | nil => cases h
  | cons a r ih =>
    show n ≤ max a (r.foldr max 0)
    rcases List.mem_cons.mp h with rfl | h
    · omega
    · have := ih h; omega
def tMaxD (K : PySem.W.Frag) (te : TE) : TE := fun σ H Q => te σ H fun x H1 => ∃ (l : Addr) (ns : List Int), x = .ref l ∧ SqL K H1 l (ns.map V.int) ∧ (∀ n ∈ ns, 0 ≤ n) ∧ Q (.int (ns.foldr max 0)) H1
theorem pe_maxD {X : Cx} {e : Expr} {te : TE} {p pos cpos kpos : Pos} {j : Nat} (hc : X.calm = true) (hm : X.mg "max" = none) (hg : Gl X "max") (he : PE X e te)
    (hs : backTo pos (starEach [e] X.env) = (false, eval e X.env) :: backTo pos (starEach [] X.env) := by rfl) (hpl : (backTo pos (starEach [e] X.env)).any (·.1) = false := by rfl)
    (hs' : starEach (e :: []) X.env = (false, eval e X.env) :: starEach [] X.env := by rfl) :
    PE X (.Call (.Name "max" p) [e] [⟨some "default", .Constant (.int 0) j cpos, kpos⟩] pos) (tMaxD X.K te) := by
  intro pins s σ H Q I h
  refine wpAny_Call_Name_kw (ld_blt I hg hm boot_max ?_)
  let Qm : List V → Hp → Prop := fun vs H1 => match vs with
    | [x] => ∃ (l : Addr) (ns : List Int), x = .ref l ∧ SqL X.K H1 l (ns.map V.int) ∧ (∀ n ∈ ns, 0 ≤ n) ∧ Q (.int (ns.foldr max 0)) H1
    | _ => False
  have h' : tCons te tNil σ H Qm := h
  refine callWith_kw (thn (pa_cons he pa_nil hs' pos pins s σ H Qm I h') fun us s1 ⟨vs, H1, I1, r1, q1⟩ => ?_) hs hpl
  refine thn (pk_cons (nm := some "default") (kpos := kpos) (pe_int (j := j) (pos := cpos)) pk_nil pos pins s1 σ H1 (fun zs H2 => zs = [V.int 0] ∧ H2 = H1) I1 ⟨rfl, rfl⟩) fun ws s2 ⟨zs, H2, I2, rz, ez, eH⟩ => ?_
  subst ez
  subst eH
  obtain ⟨w0, rfl, ⟨t0, rfl⟩⟩ := vals1 rz
  match vs, r1, q1 with
  | [x], r1, q1 =>
    obtain ⟨u0, rfl, r⟩ := vals1 r1
    obtain ⟨l, ns, rfl, hq, hn, q⟩ := q1
    cases r
    obtain ⟨its, rv, pl, hz⟩ := I2.list hq
    have hl := rv.length
    rw [List.length_map] at hl
    have hd : X.A.in1.handled = none := I2.ok.hd hc
    show wpAny _ _ (PySem.call (.builtin "max") [.ref l] (MD.kwD (.int 0 t0))) _ _ _
    refine MD.call (wpAny_pyIter_list pl.isList ?_)
    obtain ⟨o, n, eo, _⟩ := id pl
    have ll : l < s2.heap.objs.size := Heap.lt_size eo
    have I3 : Inv X pins σ H2 { s2 with heap := s2.heap.push { cls := .type "list_iterator", data := .fields #[.ref l, .int 0 0] } } := I2.kept (t' := s2.toks) fun b o q => Heap.get?_push_of_some _ q
    obtain ⟨f0, f1, f2, f3, f4, f5⟩ := I2.fpOk (b := s2.heap.objs.size) (Nat.le_refl _) I2.fresh
    have ev : its.toArray.size = ns.length := by rw [List.size_toArray, hl]
    refine ⟨s2.heap.objs.size, _, _, _, _, _, fun i k => decide (ns.getD i 0 > ns.getD k 0), rfl, Walks.list hd s2.heap.objs.size l (Nat.ne_of_lt ll) its.toArray, ⟨⟨_, Heap.get?_push_size _ rfl, rfl, rfl⟩, pl.isList.push _⟩, fun b hb => ?_, CmpOf.ints_gt (fun i => ns.getD i 0) (fun i v hv => ints_at rv hv), fun z h' tk kp => ?_, fun z v h' tk hv kp => ?_⟩
    · show b < (s2.heap.push _).objs.size
      rw [Heap.size_push]
      rcases List.mem_cons.mp hb with rfl | hb
      · exact Nat.lt_succ_self _
      · rw [List.mem_singleton.mp hb]
        exact Nat.lt_succ_of_lt ll
    · have en : ns = [] := List.eq_nil_of_length_eq_zero (by rw [← ev]; exact z)
      subst en
      exact ⟨.int 0, H2, I3.turned (it := s2.heap.objs.size) (fun b o hb e => kp b o (by simpa using hb) e) f0 f1 f3 f4 f5, ⟨_, rfl⟩, q⟩
    · obtain ⟨t, rfl⟩ := ints_at rv hv
      obtain ⟨b1, b2⟩ := argBest_gt (fun i => ns.getD i 0) (its.toArray.size - 1)
      generalize hk : argBest (fun i k => decide (ns.getD i 0 > ns.getD k 0)) (its.toArray.size - 1) = k at *
      have hkl : k < ns.length := by omega
      have ek : ns.getD k 0 = ns[k] := by rw [List.getD_eq_getElem?_getD, List.getElem?_eq_getElem hkl]; rfl
      have em : ns.foldr max 0 = ns.getD k 0 := by
        have h1 : ns.foldr max 0 ≤ ns.getD k 0 := foldr_max_le (by rw [ek]; exact hn _ (List.getElem_mem hkl)) fun n hn' => by
          obtain ⟨i, hi, ei⟩ := List.getElem_of_mem hn'
          have := b2 i (by omega)
          have ei' : ns.getD i 0 = n := by rw [List.getD_eq_getElem?_getD, List.getElem?_eq_getElem hi, ← ei]; rfl
          rw [ei'] at this
          exact this
        have h2 : ns.getD k 0 ≤ ns.foldr max 0 := by rw [ek]; exact le_foldr_max (List.getElem_mem hkl)
        omega
      rw [em] at q
      exact ⟨.int _, H2, I3.turned (it := s2.heap.objs.size) (fun b o hb e => kp b o (by simpa using hb) e) f0 f1 f3 f4 f5, ⟨_, rfl⟩, q⟩

/-! ### range(8, 0, -1) -/
def Itd (a : Int) (n : Nat) : It := ⟨fun i _ => i < n, fun i H x H' => H' = H ∧ x = .int (a - i), fun i _ => n ≤ i⟩
theorem turn_down {P : Program} {w : World} {K : PySem.W.Frag} {tg : Expr} (it : Addr) (a : Int) (n : Nat) : Turn P w K tg (Itd a n) [it] it (fun i h => IsRangeIter h it (a + (i : Nat) * (-1)) ((n : Int) - (i : Nat)) (-1)) where
  mem := by simp
  obj := fun i h st b hb => by
    have e : b = it := by simpa using hb
    subst e
    refine ⟨_, st, fun v z => ?_⟩
    have z' : Data.fields _ = Data.cell v := z
    cases z'
  keep := fun i h h' st k => k it (by simp) _ st
  item := by
    intro X hP hw hK hc i pins s σ H E I hf st hg
    subst hP hw hK
    obtain ⟨f0, f1, f2, f3, f4, f5⟩ := hf it (by simp)
    refine (Walks.range (prog := X.prog) (w := X.w) (I.ok.hd hc) it a (-1) n).item i s _ _ hg st fun v h' tk hv st' kk => ?_
    obtain ⟨t, rfl⟩ := hv
    have I1 : Inv X pins σ H { s with heap := h', toks := tk } := I.turned (fun b o hb e => kk b o (by simpa using hb) e) f0 f1 f3 f4 f5
    refine ⟨_, rfl, go_of (s := { s with heap := h', toks := tk }) (n := "range_iterator") st' rfl rfl (by decide) ⟨.int (a - i), H, I1, ⟨t, ?_⟩, ⟨rfl, rfl⟩, st', fun b hb => (hf b hb).1⟩⟩
    congr 1
    omega
  done := by
    intro X hP hw hK hc i pins s σ H E I hf st hg
    subst hP hw hK
    obtain ⟨f0, f1, f2, f3, f4, f5⟩ := hf it (by simp)
    refine wpAny_pyNext_range_end (I.ok.hd hc) st (by have : n ≤ i := hg; omega) fun h' eb => ⟨rfl, ?_⟩
    exact I.turned (t' := s.toks) (fun b o hb e => eb b o hb e) f0 f1 f3 f4 f5
  self := fun _ _ _ _ _ st h => wpAny_pyIter_rangeiter st h
def iRng8 (ta : TA) : TI := fun σ H R => ta σ H fun vs H1 => vs = [.int 8, .int 0, .int (-1)] ∧ R (Itd 8 8) H1
theorem pi_range3 {X : Cx} {tg a b c : Expr} {ta : TA} {p pos : Pos} (hg : Gl X "range") (hm : X.mg "range" = none) (ha : PA X [a, b, c] ta) (hs : starEach [a, b, c] X.env = (false, eval a X.env) :: starEach [b, c] X.env := by rfl) (hpl : (backTo pos (starEach [b, c] X.env)).any (·.1) = false := by rfl) :
    PI X tg (.Call (.Name "range" p) [a, b, c] [] pos) (iRng8 ta) := by
  intro pins s σ H R I h
  refine Call_ (ld_blt I hg hm boot_range (PyProof.Rows.callWith_type1 (thn (ha pos pins s σ H _ I h) fun us s1 ⟨vs, H1, I1, r1, e, q⟩ => ?_) hs hpl))
  subst e
  cases r1 with
  | cons r rr =>
    obtain ⟨u, u', rfl, ⟨t2, rfl⟩, ⟨t3, rfl⟩⟩ := vals2 rr
    obtain ⟨t1, rfl⟩ := r
    refine call_range_3 (by decide) ?_
    refine wpAny_pyIter_range (IsRange.new ..) (by decide +kernel) ?_
    have I2 : Inv X pins σ H1 { s1 with heap := s1.heap.push { cls := .type "range", data := .fields #[.int 8 t1, .int 0 t2, .int (-1) t3] }, toks := s1.toks } := I1.kept fun b o e => Heap.get?_push_of_some _ e
    refine ⟨_, [(s1.heap.push { cls := .type "range", data := .fields #[.int 8 t1, .int 0 t2, .int (-1) t3] }).objs.size], _, _, H1, rfl, I2.kept (t' := s1.toks) fun b o e => Heap.get?_push_of_some _ e, turn_down _ 8 8, ?_, fun b hb => ?_, q⟩
    · exact Heap.get?_push_size _ rfl
    · have e : b = (s1.heap.push { cls := .type "range", data := .fields #[.int 8 t1, .int 0 t2, .int (-1) t3] }).objs.size := by simpa using hb
      subst e
      exact I2.fpOk (Nat.le_refl _) (I2.hok.fresh (Nat.le_refl _))
theorem for_down {a : Int} {n : Nat} {g : TG} {tb : TS} {D : Ends} {σ : St} {H : Hp} (Pv : Nat → St → Hp → Prop) (h0 : Pv 0 σ H)
    (hs : ∀ i σ H, i < n → Pv i σ H → g (.int (a - i)) σ H fun σ2 H2 => tb { D with nx := Pv (i + 1), ct := Pv (i + 1), bk := D.nx } σ2 H2) (hd : ∀ σ H, Pv n σ H → D.nx σ H) :
    ∃ W : Nat → Nat → St → Hp → Prop, (∃ m, W 0 m σ H) ∧ ∀ i m σ H, W i m σ H →
      ((Itd a n).stop i H ∧ D.nx σ H) ∨ ((Itd a n).go i H ∧ ∃ N : St → Hp → Prop, (∀ σ' H', N σ' H' → ∃ m', m' < m ∧ W (i + 1) m' σ' H') ∧ ∀ x H', (Itd a n).yld i H x H' → g x σ H' fun σ2 H2 => tb { D with nx := N, ct := N, bk := D.nx } σ2 H2) := by
  refine ⟨fun i m σ H => m = n - i ∧ i ≤ n ∧ Pv i σ H, ⟨n, rfl, Nat.zero_le _, h0⟩, ?_⟩
  rintro i m σ H ⟨rfl, hi, p⟩
  by_cases hlt : i < n
  · refine .inr ⟨hlt, Pv (i + 1), fun σ' H' p' => ⟨n - (i + 1), by omega, rfl, hlt, p'⟩, fun x H' y => ?_⟩
    obtain ⟨rfl, rfl⟩ := y
    exact hs i σ _ hlt p
  · have e : i = n := by omega
    subst e
    exact .inl ⟨Nat.le_refl _, hd σ H p⟩
end L2
set_option linter.all false
namespace M08
/-- the greatest length of those of cs that t begins with, 0 without one -/
def lng (t : List Nat) : List (List Nat) → Nat
  | [] => 0
  | c :: cs => max (if c.isPrefixOf t = true then c.length else 0) (lng t cs)
theorem lng_le (t : List Nat) : ∀ cs, lng t cs ≤ t.length
  | [] => Nat.zero_le _
  | c :: cs => by
    have ih := lng_le t cs
    unfold lng
    split
    · rename_i h
      have := (List.isPrefixOf_iff_prefix.mp h).length_le
      omega
    · omega
theorem lng_ge {t : List Nat} {cs : List (List Nat)} {c : List Nat} (h : c ∈ cs) (hp : c.isPrefixOf t = true) : c.length ≤ lng t cs := by
  induction cs with
  | nil => cases h
  | cons d cs ih =>
    unfold lng
    rcases List.mem_cons.mp h with rfl | h
    · rw [if_pos hp]; omega
    · have := ih h; omega
theorem lng_at {t : List Nat} {cs : List (List Nat)} (h : lng t cs ≠ 0) : t.take (lng t cs) ∈ cs := by
  induction cs with
  | nil => exact absurd rfl h
  | cons d cs ih =>
    unfold lng at h ⊢
    split at h
    · rename_i hp
      rw [if_pos hp]
      have hd : d = t.take d.length := List.prefix_iff_eq_take.mp (List.isPrefixOf_iff_prefix.mp hp)
      by_cases hm : lng t cs ≤ d.length
      · rw [Nat.max_eq_left hm, ← hd]
        exact List.mem_cons_self
      · rw [Nat.max_eq_right (by omega)]
        exact List.mem_cons_of_mem _ (ih (by omega))
    · rename_i hp
      rw [if_neg hp, Nat.max_eq_right (Nat.zero_le _)]
      exact List.mem_cons_of_mem _ (ih (by omega))
/-- s is right: the walk from the greatest size down -/
theorem lng_eq {t : List Nat} {cs : List (List Nat)} {s : Nat} (hs : s ≤ t.length) (hin : s ≠ 0 → t.take s ∈ cs) (hno : ∀ r, s < r → r ≤ t.length → t.take r ∈ cs → False) : lng t cs = s := by
  by_cases h0 : lng t cs = 0
  · rw [h0]
    by_cases hs0 : s = 0
    · exact hs0.symm
    · have hm := hin hs0
      have hp : (t.take s).isPrefixOf t = true := List.isPrefixOf_iff_prefix.mpr (List.take_prefix _ _)
      have := lng_ge hm hp
      rw [List.length_take] at this
      omega
  · have h1 := lng_at h0
    have h2 := lng_le t cs
    by_cases hlt : s < lng t cs
    · exact (hno _ hlt h2 h1).elim
    · by_cases hs0 : s = 0
      · omega
      · have hm := hin hs0
        have hp : (t.take s).isPrefixOf t = true := List.isPrefixOf_iff_prefix.mpr (List.take_prefix _ _)
        have := lng_ge hm hp
        rw [List.length_take] at this
        omega
/-- how far on: what is passed, what a mark ends, else one sign -/
def ended (ms ks : List (List Nat)) (t : List Nat) : Nat := if lng t ks = 0 then lng t ms else 0
def stepN (ms ks : List (List Nat)) (t : List Nat) : Nat := max (max (lng t ks) (ended ms ks t)) 1
def cutN (ms ks : List (List Nat)) : Nat → List Nat → List Nat → List (List Nat)
  | _, acc, [] => if acc = [] then [] else [acc]
  | 0, _, _ :: _ => []
  | n + 1, acc, c :: r =>
    if ended ms ks (c :: r) = 0 then cutN ms ks n (acc ++ (c :: r).take (stepN ms ks (c :: r))) ((c :: r).drop (stepN ms ks (c :: r)))
    else (acc ++ (c :: r).take (stepN ms ks (c :: r))) :: cutN ms ks n [] ((c :: r).drop (stepN ms ks (c :: r)))
theorem stepN_pos (ms ks : List (List Nat)) (t : List Nat) : 1 ≤ stepN ms ks t := Nat.le_max_right _ _
theorem ended_le (ms ks : List (List Nat)) (t : List Nat) : ended ms ks t ≤ t.length := by
  unfold ended
  split
  · exact lng_le _ _
  · exact Nat.zero_le _
theorem stepN_le {ms ks : List (List Nat)} {t : List Nat} (h : t ≠ []) : stepN ms ks t ≤ t.length := by
  unfold stepN
  have h1 := lng_le t ks
  have h2 := ended_le ms ks t
  have h3 : 1 ≤ t.length := List.length_pos_iff.mpr h
  omega
theorem cutN_fuel (ms ks : List (List Nat)) : ∀ (n m : Nat) (acc t : List Nat), t.length ≤ n → t.length ≤ m → cutN ms ks n acc t = cutN ms ks m acc t
  | n, m, acc, [], _, _ => by simp only [cutN]
  | 0, _, _, _ :: _, h, _ => by simp at h
  | _ + 1, 0, _, _ :: _, _, h => by simp at h
  | n + 1, m + 1, acc, c :: r, hn, hm => by
    have h1 := stepN_pos ms ks (c :: r)
    have hl : ((c :: r).drop (stepN ms ks (c :: r))).length ≤ r.length := by
      rw [List.length_drop, List.length_cons]; omega
    have hn' : r.length ≤ n := by simpa using hn
    have hm' : r.length ≤ m := by simpa using hm
    simp only [cutN]
    rw [cutN_fuel ms ks n m _ _ (by omega) (by omega), cutN_fuel ms ks n m _ _ (by omega) (by omega)]
/-- the pieces -/
def cut (ms ks : List (List Nat)) (acc t : List Nat) : List (List Nat) := cutN ms ks t.length acc t
theorem cut_nil (ms ks : List (List Nat)) (acc : List Nat) : cut ms ks acc [] = if acc = [] then [] else [acc] := rfl
theorem cut_on {ms ks : List (List Nat)} {acc t : List Nat} (h : t ≠ []) (he : ended ms ks t = 0) : cut ms ks acc t = cut ms ks (acc ++ t.take (stepN ms ks t)) (t.drop (stepN ms ks t)) := by
  cases t with
  | nil => exact absurd rfl h
  | cons c r =>
    unfold cut
    have h1 := stepN_pos ms ks (c :: r)
    have e : (c :: r).length = r.length + 1 := rfl
    rw [e]
    simp only [cutN]
    rw [if_pos he]
    exact cutN_fuel ms ks _ _ _ _ (by rw [List.length_drop, List.length_cons]; omega) (Nat.le_refl _)
theorem cut_end {ms ks : List (List Nat)} {acc t : List Nat} (h : t ≠ []) (he : ended ms ks t ≠ 0) : cut ms ks acc t = (acc ++ t.take (stepN ms ks t)) :: cut ms ks [] (t.drop (stepN ms ks t)) := by
  cases t with
  | nil => exact absurd rfl h
  | cons c r =>
    unfold cut
    have h1 := stepN_pos ms ks (c :: r)
    have e : (c :: r).length = r.length + 1 := rfl
    rw [e]
    simp only [cutN]
    rw [if_neg he]
    exact congrArg _ (cutN_fuel ms ks _ _ _ _ (by rw [List.length_drop, List.length_cons]; omega) (Nat.le_refl _))
/-- how many, how long -/
theorem cut_le (ms ks : List (List Nat)) : ∀ (n : Nat) (acc t : List Nat), t.length ≤ n → (cut ms ks acc t).length ≤ t.length + 1 ∧ (acc = [] → (cut ms ks acc t).length ≤ t.length) ∧ ∀ p ∈ cut ms ks acc t, p ≠ [] ∧ p.length ≤ acc.length + t.length
  | n, acc, [], _ => by
    rw [cut_nil]
    split
    · exact ⟨Nat.zero_le _, fun _ => Nat.zero_le _, fun p hp => by cases hp⟩
    · rename_i h
      refine ⟨Nat.le_refl _, fun z => absurd z h, fun p hp => ?_⟩
      have : p = acc := by simpa using hp
      subst this
      exact ⟨h, by simp⟩
  | 0, _, _ :: _, h => by simp at h
  | n + 1, acc, c :: r, hn => by
    have h1 := stepN_pos ms ks (c :: r)
    have h2 : stepN ms ks (c :: r) ≤ (c :: r).length := stepN_le (by simp)
    have hr : r.length ≤ n := by simpa using hn
    have hl : ((c :: r).drop (stepN ms ks (c :: r))).length = (c :: r).length - stepN ms ks (c :: r) := List.length_drop
    have ht : ((c :: r).take (stepN ms ks (c :: r))).length = stepN ms ks (c :: r) := by rw [List.length_take]; omega
    have e : (c :: r).length = r.length + 1 := rfl
    by_cases he : ended ms ks (c :: r) = 0
    · rw [cut_on (by simp) he]
      obtain ⟨a1, a2, a3⟩ := cut_le ms ks n (acc ++ (c :: r).take (stepN ms ks (c :: r))) ((c :: r).drop (stepN ms ks (c :: r))) (by omega)
      refine ⟨by omega, fun z => by omega, fun p hp => ?_⟩
      have := a3 p hp
      rw [List.length_append] at this
      exact ⟨this.1, by omega⟩
    · rw [cut_end (by simp) he]
      obtain ⟨a1, a2, a3⟩ := cut_le ms ks n [] ((c :: r).drop (stepN ms ks (c :: r))) (by omega)
      have a2' := a2 rfl
      refine ⟨by rw [List.length_cons]; omega, fun z => by rw [List.length_cons]; omega, fun p hp => ?_⟩
      rcases List.mem_cons.mp hp with rfl | hp
      · refine ⟨fun z => ?_, by rw [List.length_append]; omega⟩
        have := congrArg List.length z
        rw [List.length_append, ht] at this
        simp at this
        omega
      · have := a3 p hp
        exact ⟨this.1, by have := this.2; simp at this; simp only [List.length_cons]; omega⟩
end M08
set_option linter.all false
namespace SLi
open PySem
theorem clip (a b n : Nat) : Builtin.Str.strSliceIndices (some (a : Int)) (some (b : Int)) 1 n = Builtin.Str.strSliceIndices (some ((min a n : Nat) : Int)) (some ((min b n : Nat) : Int)) 1 n := by
  have e1 : ¬ ((a : Int) < 0) := by omega
  have e2 : ¬ ((b : Int) < 0) := by omega
  have e3 : ¬ (((min a n : Nat) : Int) < 0) := by omega
  have e4 : ¬ (((min b n : Nat) : Int) < 0) := by omega
  have h1 : max (0 : Int) (min (a : Int) (n : Int)) = max 0 (min ((min a n : Nat) : Int) (n : Int)) := by omega
  have h2 : max (0 : Int) (min (b : Int) (n : Int)) = max 0 (min ((min b n : Nat) : Int) (n : Int)) := by omega
  simp only [Builtin.Str.strSliceIndices, e1, e2, e3, e4, if_false, h1, h2]
  rfl
theorem both (x : Str) {a b : Nat} (h : a ≤ b) : Txt.slice x (some (a : Int)) (some (b : Int)) = ⟨((x.cps.toList.drop a).take (b - a)).toArray⟩ := by
  have hl : x.cps.toList.length = x.length := by simp [Str.length]
  have e : Txt.slice x (some (a : Int)) (some (b : Int)) = Txt.slice x (some ((min a x.length : Nat) : Int)) (some ((min b x.length : Nat) : Int)) := by
    unfold Txt.slice
    rw [clip]
  rw [e]
  have p := StrLaws.sliceText_plain (x := x) (i := ((min a x.length : Nat) : Int)) (j := ((min b x.length : Nat) : Int)) ⟨by omega, by omega, by omega⟩
  have p' : Txt.slice x (some ((min a x.length : Nat) : Int)) (some ((min b x.length : Nat) : Int)) = _ := p
  rw [p']
  congr 1
  have e1 : (((min a x.length : Nat) : Int)).toNat = min a x.length := by omega
  have e2 : (((min b x.length : Nat) : Int) - ((min a x.length : Nat) : Int)).toNat = min b x.length - min a x.length := by omega
  rw [e1, e2]
  congr 1
  by_cases ha : a ≤ x.length
  · rw [Nat.min_eq_left ha]
    by_cases hb : b ≤ x.length
    · rw [Nat.min_eq_left hb]
    · rw [Nat.min_eq_right (by omega)]
      rw [List.take_of_length_le (by rw [List.length_drop]; omega), List.take_of_length_le (by rw [List.length_drop]; omega)]
  · rw [Nat.min_eq_right (by omega), List.drop_eq_nil_of_le (by omega), List.drop_eq_nil_of_le (by omega)]
    simp
theorem upto (x : Str) (b : Nat) : Txt.slice x none (some (b : Int)) = ⟨(x.cps.toList.take b).toArray⟩ := by
  have e : Txt.slice x none (some (b : Int)) = Txt.slice x (some ((0 : Nat) : Int)) (some (b : Int)) := by
    unfold Txt.slice
    rw [StrLaws.sliceIdx_none_lo]
    rfl
  rw [e, both x (Nat.zero_le b)]
  simp
theorem from_ (x : Str) (a : Nat) : Txt.slice x (some (a : Int)) none = ⟨(x.cps.toList.drop a).toArray⟩ := by
  have hl : x.cps.toList.length = x.length := by simp [Str.length]
  have e : Txt.slice x (some (a : Int)) none = Txt.slice x (some (a : Int)) (some (x.length : Int)) := by
    unfold Txt.slice
    rw [StrLaws.sliceIdx_none_hi]
  rw [e]
  by_cases h : a ≤ x.length
  · rw [both x h, List.take_of_length_le (by rw [List.length_drop]; omega)]
  · have e2 : Txt.slice x (some (a : Int)) (some (x.length : Int)) = Txt.slice x (some ((x.length : Nat) : Int)) (some (x.length : Int)) := by
      unfold Txt.slice
      rw [clip, clip x.length x.length]
      rw [Nat.min_eq_right (by omega : x.length ≤ a), Nat.min_self]
    rw [e2, both x (Nat.le_refl _), List.drop_eq_nil_of_le (by omega : x.cps.toList.length ≤ a), Nat.sub_self]
    simp
end SLi
set_option Elab.async false
set_option linter.all false
set_option maxRecDepth 100000
set_option maxHeartbeats 4000000
namespace L2
open PySem PySem.Spec PyProof.Rows M08

abbrev mkT (r : List Nat) : V := V.str ⟨r.toArray⟩
abbrev sD (r : List Nat) : D := .str ⟨r.toArray⟩
theorem denl_s {H : Hp} : ∀ {cs : List (List Nat)} {vs : List V}, DenL H vs (cs.map sD) → vs = cs.map mkT
  | [], [], _ => rfl
  | _ :: _, _ :: _, h => by
    rw [List.map_cons, denl_s h.2]
    exact congrArg (· :: _) h.1
  | [], _ :: _, h => h.elim
  | _ :: _, [], h => h.elim
theorem denl_of (H : Hp) : ∀ cs : List (List Nat), DenL H (cs.map mkT) (cs.map sD)
  | [] => trivial
  | _ :: cs => ⟨rfl, denl_of H cs⟩
def lvD (ms ks : List (List Nat)) : D := .tup [.tup (ms.map sD), .tup (ks.map sD)]
theorem den_lv {H : Hp} {v : V} {ms ks : List (List Nat)} (h : Den H v (lvD ms ks)) : ∃ p pm pk : Addr, v = .ref p ∧ H p = some (.tup [.ref pm, .ref pk]) ∧ H pm = some (.tup (ms.map mkT)) ∧ H pk = some (.tup (ks.map mkT)) := by
  obtain ⟨p, vs, rfl, hp, hd⟩ := den_tup h
  match vs, hd with
  | [a, b], hd =>
    obtain ⟨pm, us, rfl, hpm, hd1⟩ := den_tup hd.1
    obtain ⟨pk, ws, rfl, hpk, hd2⟩ := den_tup hd.2.1
    rw [denl_s hd1] at hpm
    rw [denl_s hd2] at hpk
    exact ⟨p, pm, pk, rfl, hp, hpm, hpk⟩
  | [], hd => exact hd.elim
  | [_], hd => exact hd.2.elim
  | _ :: _ :: _ :: _, hd => exact hd.2.2.elim
theorem den_mk {H : Hp} {p pm pk : Addr} {ms ks : List (List Nat)} (hp : H p = some (.tup [.ref pm, .ref pk])) (hm : H pm = some (.tup (ms.map mkT))) (hk : H pk = some (.tup (ks.map mkT))) : Den H (.ref p) (lvD ms ks) :=
  ⟨p, _, rfl, hp, ⟨pm, _, rfl, hm, denl_of H ms⟩, ⟨pk, _, rfl, hk, denl_of H ks⟩, trivial⟩
/-- rules are few and short -/
structure OkC (cs : List (List Nat)) : Prop where
  few : cs.length ≤ 100
  size : ∀ c ∈ cs, 1 ≤ c.length ∧ c.length ≤ 8
theorem at_T {cs : List (List Nat)} {i : Nat} (hi : i < cs.length) : (cs.map mkT)[i]? = some (mkT cs[i]) := by
  rw [List.getElem?_map, List.getElem?_eq_getElem hi]
  rfl
theorem lenT (r : List Nat) : (⟨r.toArray⟩ : Str).length = r.length := by simp [Str.length]
/-- the lengths of those of the first j that t begins with -/
def lensN (t : List Nat) (cs : List (List Nat)) (j : Nat) : List Int := ((cs.take j).filter fun c => c.isPrefixOf t).map fun c => (c.length : Int)
theorem lensN_succ {t : List Nat} {cs : List (List Nat)} {j : Nat} (hj : j < cs.length) : lensN t cs (j + 1) = lensN t cs j ++ (if cs[j].isPrefixOf t = true then [(cs[j].length : Int)] else []) := by
  unfold lensN
  rw [List.take_add_one, List.getElem?_eq_getElem hj, List.filter_append, List.map_append]
  congr 1
  by_cases h : cs[j].isPrefixOf t = true
  · simp [h]
  · simp [h]
theorem lensN_le (t : List Nat) (cs : List (List Nat)) (j : Nat) : (lensN t cs j).length ≤ cs.length := by
  unfold lensN
  rw [List.length_map]
  refine Nat.le_trans (List.length_filter_le _ _) ?_
  rw [List.length_take]
  omega
theorem lens_max (t : List Nat) : ∀ cs : List (List Nat), ((cs.filter fun c => c.isPrefixOf t).map fun c => (c.length : Int)).foldr max 0 = ((lng t cs : Nat) : Int)
  | [] => rfl
  | c :: cs => by
    have ih := lens_max t cs
    unfold lng
    by_cases h : c.isPrefixOf t = true
    · rw [List.filter_cons, if_pos h, List.map_cons, List.foldr_cons, ih, if_pos h]
      omega
    · rw [List.filter_cons, if_neg h, ih, if_neg h]
      omega
theorem slice_bo (t : List Nat) {a b : Nat} (h : a ≤ b) : Txt.slice ⟨t.toArray⟩ (some (a : Int)) (some (b : Int)) = ⟨((t.drop a).take (b - a)).toArray⟩ := by
  rw [SLi.both _ h]
theorem slice_to (t : List Nat) (b : Nat) : Txt.slice ⟨t.toArray⟩ none (some (b : Int)) = ⟨(t.take b).toArray⟩ := by
  rw [SLi.upto]
theorem slice_fr (t : List Nat) (a : Nat) : Txt.slice ⟨t.toArray⟩ (some (a : Int)) none = ⟨(t.drop a).toArray⟩ := by
  rw [SLi.from_]
theorem cat_T (a b : List Nat) : (⟨a.toArray⟩ : Str) ++ ⟨b.toArray⟩ = ⟨(a ++ b).toArray⟩ := by
  show Str.mk (a.toArray ++ b.toArray) = _
  simp
theorem str_T (x : Str) : x = ⟨x.cps.toList.toArray⟩ := by
  cases x
  simp
theorem str_inj {a b : List Nat} (h : (⟨a.toArray⟩ : Str) = ⟨b.toArray⟩) : a = b := by
  injection h with h1
  exact List.toArray_inj h1
theorem dec_T (a b : List Nat) : decide (V.str ⟨a.toArray⟩ = V.str ⟨b.toArray⟩) = decide (a = b) := by
  refine decide_eq_decide.mpr ⟨fun z => ?_, fun z => by rw [z]⟩
  injection z with z1
  exact str_inj z1
theorem int_to {Q : VK} {H : Hp} {a b : Int} (e : a = b) (h : Q (.int b) H) : Q (.int a) H := e ▸ h
theorem str_to {Q : VK} {H : Hp} {a b : Str} (e : a = b) (h : Q (.str b) H) : Q (.str a) H := e ▸ h
theorem atI_zero {α : Type} (x : α) (xs : List α) : atI (x :: xs) 0 = some x := atI_nat (xs := x :: xs) (j := 0) rfl
/-- how the tree of a text looks -/
def treeD : List (List (List Nat) × List (List Nat)) → List Nat → D
  | [], t => sD t
  | l :: ls, t => .tup ((cut l.1 l.2 [] t).map (treeD ls))
end L2
set_option Elab.async false
set_option linter.all false
set_option maxRecDepth 100000
set_option maxHeartbeats 4000000
namespace L2
open PySem PySem.Spec PyProof.Rows M08

/-! ### xs.insert(i, y) -/
def rInsert : V → List V → Hp → VK → Prop := fun x vs H Q => ∃ (l : Addr) (xs : List V) (n : Int) (y : V) (i : Nat), x = .ref l ∧ vs = [.int n, y] ∧ n = (i : Int) ∧ H l = some (.lst xs) ∧ i ≤ xs.length ∧ xs.length < 1000000 ∧ Q .non (upd H l (.lst (xs.take i ++ y :: xs.drop i)))
theorem mt_insert {X : Cx} : MtR X "list.insert" rInsert := by
  intro pins s σ H x vs v us Q I rx rv h
  obtain ⟨l, xs, m, y, i, rfl, rfl, hm, hH, hi, hz, q⟩ := h
  cases rx
  obtain ⟨u, u', rfl, ⟨t, rfl⟩, ry⟩ := vals2 rv
  obtain ⟨z, its, n, r, hl, e⟩ := I.lstM hH
  have hb := sizeLine_big
  have hf : ¬ (!Builtin.List.listFitsIndex m) = true := by
    unfold Builtin.List.listFitsIndex
    have h1 : (-(2 ^ 63 : Int) ≤ m) := by omega
    have h2 : (m < 2 ^ 63) := by omega
    rw [decide_eq_true h1, decide_eq_true h2]
    decide
  have hsz : its.toArray.size ≤ sizeLine := by rw [List.size_toArray, ← hl]; exact z
  refine call_meets F.slot_list_insert ⟨_, e, rfl⟩ F.entry_list_insert (F.args_list_insert_3 _ _ _) (PySem.AutoListH.list_insert_list_int_val_1 l its.toArray n m t u' hf hsz) ⟨e, ?_⟩
  refine ⟨.non, _, I.lset (its' := its.take i ++ u' :: its.drop i) hH e ?_ ((r.take i).append (.cons ry (r.drop i))) ?_, rfl, q⟩
  · have hk : (if m < 0 then (m + ((its.toArray.size : Nat) : Int)).toNat else min m.toNat its.toArray.size) = i := by
      rw [if_neg (by omega), List.size_toArray]
      omega
    show (have k := if m < 0 then (m + ((its.toArray.size : Nat) : Int)).toNat else min m.toNat its.toArray.size; (its.toArray.extract 0 k).push u' ++ its.toArray.extract k) = _
    rw [hk]
    apply Array.toList_inj.mp
    rw [Array.toList_append, Array.toList_push, Array.toList_extract, Array.toList_extract, List.extract_eq_take_drop, List.extract_eq_take_drop]
    simp
    exact List.take_of_length_le (by rw [List.length_drop]; omega)
  · rw [List.length_append, List.length_cons, List.length_take, List.length_drop]
    omega

/-! ### xs[::-1] -/
def tRev (K : PySem.W.Frag) (te : TE) : TE := fun σ H Q => te σ H fun x H1 => ∃ (a : Addr) (xs : List V), x = .ref a ∧ SqL K H1 a xs ∧ ∀ p, H1 p = none → Q (.ref p) (upd H1 p (.lst xs.reverse))
theorem pe_rev {X : Cx} {e : Expr} {te : TE} {j : Nat} {p2 p3 p4 pos : Pos} (he : PE X e te) : PE X (.Subscript e (.Slice none none (some (.UnaryOp .USub (.Constant (.int 1) j p4) p3)) p2) pos) (tRev X.K te) := by
  intro pins s σ H Q I h
  refine Subscript_ (thn (he pins s σ H _ I h) fun v s1 ⟨x, H1, I1, r1, q1⟩ => ?_)
  obtain ⟨a, xs, rfl, hx, q⟩ := q1
  cases r1
  refine wpAny_Slice ?_
  rw [evalPart_none]
  refine wpAny_pure (wpAny_pure ?_)
  rw [evalPart_some]
  refine thn (pe_un un_neg (pe_int (j := j) (pos := p4)) (pos := p3) pins s1 σ H1 (fun v H' => v = .int (-1) ∧ H' = H1) I1 ⟨1, rfl, rfl, rfl⟩) fun vs s2 ⟨y, H2, I2, r2, ey, eH⟩ => ?_
  subst ey
  subst eH
  obtain ⟨t, rfl⟩ := r2
  have I4 : Inv X pins σ H2 { s2 with heap := s2.heap.push { cls := .type "slice", data := .fields #[.none, .none, .int (-1) t] } } := I2.kept (t' := s2.toks) fun b ob q => Heap.get?_push_of_some _ q
  obtain ⟨its, r, ht, hz⟩ := I4.list hx
  have hlen := r.length
  have hg : wpAny (model X.prog X.w) X.A (getItem (.ref a) (.ref s2.heap.objs.size)) (EP X pins σ Q) X.xe { s2 with heap := s2.heap.push { cls := .type "slice", data := .fields #[.none, .none, .int (-1) t] } } := by
    refine wpAny_getItem_list_slice ht.isList (Heap.IsSliceOf.new ..) .none .none (.int (-1) t) (by decide) ?_ (by rw [List.size_toArray] <;> omega)
    rw [PySem.W.krv_pick]
    refine ⟨.ref _, _, I4.laid (t' := s2.toks) (o := .lst xs.reverse) (fun b ob q => Heap.get?_push_of_some _ q) (Nat.le_refl _) ?_, rfl, q _ (I4.hok.fresh (Nat.le_refl _))⟩
    exact ⟨by rw [List.length_reverse]; exact hz, its.reverse, 0, r.reverse, Heap.get?_push_size _ rfl⟩
  show wpAny (model X.prog X.w) X.A (subscriptTail e (.Slice none none (some (.UnaryOp .USub (.Constant (.int 1) j p4) p3)) p2) (.ref a) (.ref s2.heap.objs.size)) (EP X pins σ Q) X.xe _
  exact tail_any (ops := [.ref a, .ref s2.heap.objs.size]) ht.isList.typeIs slot_list_getitem.lookup hg (by with_unfolding_all rfl)
end L2
namespace M08
theorem lng_congr {t : List Nat} {cs cs' : List (List Nat)} (h : ∀ c, c ∈ cs ↔ c ∈ cs') : lng t cs = lng t cs' := by
  refine lng_eq (lng_le t cs') (fun h0 => (h _).mpr (lng_at h0)) fun r h1 h2 h3 => ?_
  have := lng_ge ((h _).mp h3) (List.isPrefixOf_iff_prefix.mpr (List.take_prefix r t))
  rw [List.length_take] at this
  omega
theorem cutN_congr {ms ks ms' ks' : List (List Nat)} (hm : ∀ c, c ∈ ms ↔ c ∈ ms') (hk : ∀ c, c ∈ ks ↔ c ∈ ks') : ∀ (n : Nat) (acc t : List Nat), cutN ms ks n acc t = cutN ms' ks' n acc t := by
  have e1 : ∀ t, ended ms ks t = ended ms' ks' t := fun t => by
    unfold ended
    rw [lng_congr hm, lng_congr hk]
  have e2 : ∀ t, stepN ms ks t = stepN ms' ks' t := fun t => by
    unfold stepN
    rw [e1, lng_congr hk]
  intro n
  induction n with
  | zero =>
    intro acc t
    cases t <;> simp only [cutN]
  | succ n ih =>
    intro acc t
    cases t with
    | nil => simp only [cutN]
    | cons c r =>
      simp only [cutN]
      rw [e1, e2, ih, ih]
theorem cut_congr {ms ks ms' ks' : List (List Nat)} (hm : ∀ c, c ∈ ms ↔ c ∈ ms') (hk : ∀ c, c ∈ ks ↔ c ∈ ks') (acc t : List Nat) : cut ms ks acc t = cut ms' ks' acc t := cutN_congr hm hk _ _ _
end M08
set_option Elab.async false
set_option linter.all false
set_option maxRecDepth 100000
set_option maxHeartbeats 4000000
namespace L2
open PySem PySem.Spec PyProof.Rows

/-! ### signs: <, > -/
def rLtS : R2 := fun x y H Q => ∃ a c : Nat, x = .str ⟨#[a]⟩ ∧ y = .str ⟨#[c]⟩ ∧ Q (.bl (decide (a < c))) H
def rGtS : R2 := fun x y H Q => ∃ a c : Nat, x = .str ⟨#[a]⟩ ∧ y = .str ⟨#[c]⟩ ∧ Q (.bl (decide (c < a))) H
theorem op_ltS {X : Cx} : OpR X (compareOp .Lt) rLtS := by
  intro pins s σ H x y v u Q I rx ry h
  obtain ⟨a, c, rfl, rfl, q⟩ := h
  obtain ⟨t, rfl⟩ := rx
  obtain ⟨t', rfl⟩ := ry
  refine PyProof.Rows.lt_str ?_
  show EP X pins σ Q (.bool (decide (([a] : List Nat) < [c]))) s
  rw [lt_sign]
  exact ⟨.bl _, H, I, rfl, q⟩
theorem op_gtS {X : Cx} : OpR X (compareOp .Gt) rGtS := by
  intro pins s σ H x y v u Q I rx ry h
  obtain ⟨a, c, rfl, rfl, q⟩ := h
  obtain ⟨t, rfl⟩ := rx
  obtain ⟨t', rfl⟩ := ry
  refine PySem.P.gt_str ?_
  show EP X pins σ Q (.bool (decide (([c] : List Nat) < [a]))) s
  rw [lt_sign]
  exact ⟨.bl _, H, I, rfl, q⟩
/-! ### xs == [] -/
def rEqE : R2 := fun x y H Q => ∃ (l b : Addr) (xs : List V), x = .ref l ∧ y = .ref b ∧ H l = some (.lst xs) ∧ H b = some (.lst []) ∧ Q (.bl xs.isEmpty) H
theorem op_eqE {X : Cx} (hu : X.A.units < cLine) : OpR X (compareOp .Eq) rEqE := by
  intro pins s σ H x y v u Q I rx ry h
  obtain ⟨l, b, xs, rfl, rfl, hl, hb, q⟩ := h
  cases rx
  cases ry
  obtain ⟨its, r1, p1, _⟩ := I.list (SqL.of (K := X.K) hl)
  obtain ⟨its2, r2, p2, _⟩ := I.list (SqL.of (K := X.K) hb)
  cases r2
  cases r1 with
  | nil => exact SeqAt.eq_listAt (e := fun _ => true) p1.isList p2.isList rfl hu (fun j h1 _ => absurd h1 (Nat.not_lt_zero j)) ⟨.bl true, H, I, rfl, q⟩
  | cons _ _ => exact SeqAt.eq_list_lengthsAt p1.isList p2.isList (by simp) hu ⟨.bl false, H, I, rfl, q⟩
/-! ### any thing -/
def GoodV (H : Hp) : V → Prop
  | .str x => x.length ≤ 1000
  | .non => True
  | .bl _ => True
  | .int _ => True
  | .ref p => (∃ xs, H p = some (.lst xs)) ∨ (∃ xs, H p = some (.tup xs)) ∨ ∃ kvs, H p = some (.dK kvs)
  | _ => False
theorem GoodV.same {H H' : Hp} (s : Same H H') : ∀ {v : V}, GoodV H v → GoodV H' v
  | .str _, h => h
  | .non, h => h
  | .bl _, h => h
  | .int _, h => h
  | .ref p, h => by
    rcases h with ⟨xs, e⟩ | ⟨xs, e⟩ | ⟨xs, e⟩
    · exact .inl ⟨xs, s _ _ e⟩
    · exact .inr (.inl ⟨xs, s _ _ e⟩)
    · exact .inr (.inr ⟨xs, s _ _ e⟩)
  | .byt _, h => h.elim
  | .flt _, h => h.elim
  | .ty _, h => h.elim
theorem GoodV.lst {H : Hp} {l : Addr} {ys : List V} : ∀ {v : V}, GoodV H v → ∀ H' : Hp, H' l = some (.lst ys) → (∀ c o, H c = some o → c ≠ l → H' c = some o) → GoodV H' v
  | .str _, h, _, _, _ => h
  | .non, h, _, _, _ => h
  | .bl _, h, _, _, _ => h
  | .int _, h, _, _, _ => h
  | .ref p, h, H', e, s => by
    by_cases hp : p = l
    · subst hp
      exact .inl ⟨ys, e⟩
    · rcases h with ⟨xs, e⟩ | ⟨xs, e⟩ | ⟨xs, e⟩
      · exact .inl ⟨xs, s _ _ e hp⟩
      · exact .inr (.inl ⟨xs, s _ _ e hp⟩)
      · exact .inr (.inr ⟨xs, s _ _ e hp⟩)
  | .byt _, h, _, _, _ => h.elim
  | .flt _, h, _, _, _ => h.elim
  | .ty _, h, _, _, _ => h.elim
theorem GoodV.pot {H H' : Hp} {p : Addr} {v : V} (h : GoodV H v) (P : Pot H p H') : GoodV H' v := by
  obtain ⟨a, b, e⟩ := P.at_
  exact h.lst H' e P.old
theorem GoodV.upd {H : Hp} {l : Addr} {ys : List V} {v : V} (h : GoodV H v) : GoodV (upd H l (.lst ys)) v := h.lst _ upd_same fun c o e n => (upd_ne n).trans e
def isNmV : V → Bool
  | .str x => isNm x
  | _ => false
/-- isinstance(v, str) -/
theorem good_ty (K : PySem.W.Frag) {H : Hp} : ∀ {v : V}, GoodV H v → ∃ (t : Value) (b : Bool), TyOf K H v t ∧ PySem.W.kitOne K t (.type "str") = some b ∧ (b = true ↔ ∃ x, v = .str x)
  | .str x, _ => ⟨_, true, .str x, kit_str_str K, ⟨fun _ => ⟨x, rfl⟩, fun _ => rfl⟩⟩
  | .non, _ => ⟨_, false, .non, kit_tt K (by decide +kernel), ⟨(fun z => nomatch z), fun ⟨_, z⟩ => nomatch z⟩⟩
  | .bl b, _ => ⟨_, false, .bl b, kit_tt K (by decide +kernel), ⟨(fun z => nomatch z), fun ⟨_, z⟩ => nomatch z⟩⟩
  | .int i, _ => ⟨_, false, .int i, kit_int_str K, ⟨(fun z => nomatch z), fun ⟨_, z⟩ => nomatch z⟩⟩
  | .ref p, h => by
    rcases h with ⟨xs, e⟩ | ⟨xs, e⟩ | ⟨xs, e⟩
    · exact ⟨_, false, .lst e, kit_tt K (by decide +kernel), ⟨(fun z => nomatch z), fun ⟨_, z⟩ => nomatch z⟩⟩
    · exact ⟨_, false, .tup e, kit_tt K (by decide +kernel), ⟨(fun z => nomatch z), fun ⟨_, z⟩ => nomatch z⟩⟩
    · exact ⟨_, false, .dK e, kit_tt K (by decide +kernel), ⟨(fun z => nomatch z), fun ⟨_, z⟩ => nomatch z⟩⟩
  | .byt _, h => h.elim
  | .flt _, h => h.elim
  | .ty _, h => h.elim
end L2
namespace L2
open PySem PySem.Spec PyProof.Rows
/-! ### long displays -/
def notStar : Expr → Bool
  | .Starred .. => false
  | _ => true
theorem star_cons {e : Expr} {es : List Expr} {env : Env} (h : notStar e = true) : starEach (e :: es) env = (false, eval e env) :: starEach es env := by
  cases e <;> first | rfl | cases h
theorem pa_c {X : Cx} {e : Expr} {es : List Expr} {te : TE} {t : TA} (ha : PE X e te) (hr : PA X es t) (h : notStar e = true := by rfl) : PA X (e :: es) (tCons te t) := pa_cons ha hr (star_cons h)
/-! ### the same, kept shut: a type that nothing unfolds -/
structure QSs (X : Cx) (st : List Stmt) (t : TS) : Prop where
  h : PSs X st t
structure QS (X : Cx) (st : Stmt) (t : TS) : Prop where
  h : PS X st t
structure QE (X : Cx) (e : Expr) (t : TE) : Prop where
  h : PE X e t
structure QA (X : Cx) (es : List Expr) (t : TA) : Prop where
  h : PA X es t
theorem qss_cons {X : Cx} {st : Stmt} {rest : List Stmt} {t u : TS} (h1 : QS X st t) (h2 : QSs X rest u) : QSs X (st :: rest) (tSeq t u) := ⟨pss_cons h1.h h2.h⟩
theorem qs_set {X : Cx} {i : Nat} {x : Str} {e : Expr} {te : TE} {pos pos' : Pos} (hN : X.N.Nodup) (hi : X.N[i]? = some x) (hx : Loc X.env.scope x) (he : QE X e te) (hs : swapsWith e (some (.Name x pos')) pos.line X.env = pure false := by rfl)
    (hf : X.fn x = true ∨ X.env.scope.names.lookup x = some .local := by first | exact .inl rfl | exact .inr rfl) : QS X (.Assign [.Name x pos'] e pos) (tAsg te (gName i)) := ⟨ps_set hN hi hx he.h hs hf⟩
theorem qe_lst {X : Cx} {es : List Expr} {t : TA} {pos : Pos} (h : QA X es t) : QE X (.List es pos) (tLst t) := ⟨pe_lst h.h⟩
theorem qa_nil {X : Cx} : QA X [] tNil := ⟨pa_nil⟩
theorem qa_c {X : Cx} {e : Expr} {es : List Expr} {te : TE} {t : TA} (ha : QE X e te) (hr : QA X es t) (h : notStar e = true := by rfl) : QA X (e :: es) (tCons te t) := ⟨pa_c ha.h hr.h h⟩
end L2
namespace M05
/-- the digits of a name: those of r, without nought -/
def nmN : Nat → Nat → List Nat
  | 0, _ => []
  | f + 1, r => if r = 0 then [] else nmN f ((r - 1) / 26) ++ [97 + (r - 1) % 26]
theorem nmN_more : ∀ (f g r : Nat), r ≤ f → r ≤ g → nmN f r = nmN g r
  | 0, g, r, h, _ => by
    have e : r = 0 := by omega
    subst e
    cases g <;> simp [nmN]
  | f + 1, 0, r, _, h => by
    have e : r = 0 := by omega
    subst e
    simp [nmN]
  | f + 1, g + 1, r, h1, h2 => by
    unfold nmN
    by_cases e : r = 0
    · simp [e]
    · rw [if_neg e, if_neg e, nmN_more f g ((r - 1) / 26) (by omega) (by omega)]
def nm (r : Nat) : List Nat := nmN r r
theorem nm_zero : nm 0 = [] := rfl
theorem nm_step {r : Nat} (h : r ≠ 0) : nm r = nm ((r - 1) / 26) ++ [97 + (r - 1) % 26] := by
  unfold nm
  obtain ⟨q, rfl⟩ : ∃ q, r = q + 1 := ⟨r - 1, by omega⟩
  show nmN (q + 1) (q + 1) = _
  rw [nmN, if_neg h, nmN_more q ((q + 1 - 1) / 26) _ (by omega) (Nat.le_refl _)]
/-- s digits of k -/
def dg : Nat → Nat → List Nat
  | 0, _ => []
  | s + 1, k => dg s (k / 26) ++ [97 + k % 26]
/-- how many names are shorter than s letters, but for s = 0 -/
def sh : Nat → Nat
  | 0 => 0
  | s + 1 => 26 * sh s + (if s = 0 then 0 else 26)
theorem sh_one : sh 1 = 0 := rfl
theorem sh_succ (s : Nat) (h : s ≠ 0) : sh (s + 1) = 26 * sh s + 26 := by
  show 26 * sh s + (if s = 0 then 0 else 26) = _
  rw [if_neg h]
theorem nm_dg : ∀ (s k : Nat), s ≠ 0 → k < 26 ^ s → nm (k + sh s + 1) = dg s k
  | 0, _, h, _ => absurd rfl h
  | 1, k, _, hk => by
    rw [nm_step (by omega), sh_one]
    have e1 : (k + 0 + 1 - 1) / 26 = 0 := by
      have : k < 26 := by simpa using hk
      omega
    have e2 : (k + 0 + 1 - 1) % 26 = k % 26 := by
      have : k + 0 + 1 - 1 = k := by omega
      rw [this]
    rw [e1, e2]
    rfl
  | s + 2, k, _, hk => by
    have e0 := sh_succ (s + 1) (by omega)
    have hk' : k / 26 < 26 ^ (s + 1) := by
      have : k < 26 ^ (s + 1) * 26 := by rw [← Nat.pow_succ]; exact hk
      exact Nat.div_lt_of_lt_mul (by rw [Nat.mul_comm]; exact this)
    have ih := nm_dg (s + 1) (k / 26) (by omega) hk'
    rw [nm_step (by omega)]
    have e1 : (k + sh (s + 2) + 1 - 1) / 26 = k / 26 + sh (s + 1) + 1 := by rw [e0]; omega
    have e2 : (k + sh (s + 2) + 1 - 1) % 26 = k % 26 := by rw [e0]; omega
    rw [e1, e2, ih]
    rfl
theorem nm_letters : ∀ (r : Nat), ∀ c ∈ nm r, 97 ≤ c ∧ c ≤ 122 := by
  intro r
  induction r using Nat.strongRecOn with
  | ind r ih =>
    intro c hc
    by_cases e : r = 0
    · subst e; rw [nm_zero] at hc; cases hc
    · rw [nm_step e] at hc
      rcases List.mem_append.mp hc with h | h
      · exact ih ((r - 1) / 26) (by omega) c h
      · have : c = 97 + (r - 1) % 26 := by simpa using h
        omega
theorem dg_len : ∀ s k : Nat, (dg s k).length = s
  | 0, _ => rfl
  | s + 1, k => by
    show (dg s (k / 26) ++ [97 + k % 26]).length = s + 1
    rw [List.length_append, dg_len s]
    rfl
/-- the length's bound -/
theorem nm_len : ∀ (b r : Nat), r < sh (b + 1) + 1 → (nm r).length ≤ b ∨ False
  | 0, r, h => by
    have e : r = 0 := by rw [sh_one] at h; omega
    subst e
    exact .inl (by rw [nm_zero]; exact Nat.le_refl _)
  | b + 1, r, h => by
    by_cases e : r = 0
    · subst e
      exact .inl (by rw [nm_zero]; exact Nat.zero_le _)
    · rw [nm_step e, List.length_append]
      have e0 := sh_succ (b + 1) (by omega)
      rcases nm_len b ((r - 1) / 26) (by omega) with q | q
      · exact .inl (by show _ + 1 ≤ b + 1; omega)
      · exact q.elim
theorem sh_add : ∀ s : Nat, s ≠ 0 → sh (s + 1) = sh s + 26 ^ s
  | 0, h => absurd rfl h
  | 1, _ => rfl
  | s + 2, _ => by
    have ih := sh_add (s + 1) (by omega)
    have e1 := sh_succ (s + 2) (by omega)
    have e2 := sh_succ (s + 1) (by omega)
    have e3 : 26 ^ (s + 2) = 26 ^ (s + 1) * 26 := Nat.pow_succ ..
    rw [e1, e3]
    generalize 26 ^ (s + 1) = p at ih ⊢
    have ih' : sh (s + 2) = sh (s + 1) + p := ih
    have e2' : sh (s + 2) = 26 * sh (s + 1) + 26 := e2
    omega
theorem sh9 : sh 9 = 217180147158 := rfl
end M05
set_option linter.all false
namespace M05
theorem nm_inj : ∀ (n a b : Nat), a ≤ n → nm a = nm b → a = b := by
  intro n
  induction n with
  | zero =>
    intro a b ha e
    have a0 : a = 0 := by omega
    subst a0
    by_cases hb : b = 0
    · exact hb.symm
    · rw [nm_zero, nm_step hb] at e
      simp at e
  | succ n ih =>
    intro a b ha e
    by_cases h0 : a = 0
    · subst h0
      by_cases hb : b = 0
      · exact hb.symm
      · rw [nm_zero, nm_step hb] at e
        simp at e
    · by_cases hb : b = 0
      · subst hb
        rw [nm_zero, nm_step h0] at e
        simp at e
      · rw [nm_step h0, nm_step hb] at e
        have e' := List.append_inj' e rfl
        have e1 := ih ((a - 1) / 26) ((b - 1) / 26) (by omega) e'.1
        have e2 : 97 + (a - 1) % 26 = 97 + (b - 1) % 26 := by simpa using e'.2
        omega
theorem sub_len {α : Type} [DecidableEq α] : ∀ (l xs : List α), l.Nodup → (∀ a ∈ l, a ∈ xs) → l.length ≤ xs.length
  | [], _, _, _ => Nat.zero_le _
  | a :: l, xs, hn, hs => by
    have hn' := List.nodup_cons.mp hn
    have ha : a ∈ xs := hs a List.mem_cons_self
    have := sub_len l (xs.erase a) hn'.2 fun b hb => by
      have hne : b ≠ a := fun z => hn'.1 (by rw [← z]; exact hb)
      exact (List.mem_erase_of_ne hne).mpr (hs b (List.mem_cons_of_mem _ hb))
    rw [List.length_erase_of_mem ha] at this
    have hp : 0 < xs.length := List.length_pos_of_mem ha
    rw [List.length_cons]
    omega
theorem least {F : Nat → Prop} : ∀ N : Nat, (∃ m, m ≤ N ∧ F m) → ∃ m, m ≤ N ∧ F m ∧ ∀ j, j < m → ¬ F j
  | 0, ⟨m, h, f⟩ => ⟨m, h, f, fun j hj => by omega⟩
  | N + 1, ⟨m, h, f⟩ => by
    by_cases hx : ∃ m, m ≤ N ∧ F m
    · obtain ⟨m', h', f', g'⟩ := least N hx
      exact ⟨m', by omega, f', g'⟩
    · have em : m = N + 1 := by
        by_cases z : m ≤ N
        · exact absurd ⟨m, z, f⟩ hx
        · omega
      subst em
      exact ⟨N + 1, Nat.le_refl _, f, fun j hj z => hx ⟨j, by omega, z⟩⟩
/-- the first name that isn't there -/
theorem first_ex (xs : List (List Nat)) : ∃ m, m ≤ xs.length ∧ nm (m + 1) ∉ xs ∧ ∀ j, j < m → nm (j + 1) ∈ xs := by
  have h : ∃ m, m ≤ xs.length ∧ nm (m + 1) ∉ xs := by
    by_cases z : ∃ m, m ≤ xs.length ∧ nm (m + 1) ∉ xs
    · exact z
    · have al : ∀ m, m ≤ xs.length → nm (m + 1) ∈ xs := fun m hm => by
        by_cases y : nm (m + 1) ∈ xs
        · exact y
        · exact absurd ⟨m, hm, y⟩ z
      have hn : ((List.range (xs.length + 1)).map fun k => nm (k + 1)).Nodup := by
        rw [List.nodup_iff_pairwise_ne, List.pairwise_map]
        have := List.nodup_range (n := xs.length + 1)
        rw [List.nodup_iff_pairwise_ne] at this
        exact this.imp fun {a b} hab e => hab (by have := nm_inj _ _ _ (Nat.le_refl _) e; omega)
      have hl := sub_len ((List.range (xs.length + 1)).map fun k => nm (k + 1)) xs hn fun a ha => by
        obtain ⟨k, hk, rfl⟩ := List.mem_map.mp ha
        exact al k (by have := List.mem_range.mp hk; omega)
      rw [List.length_map, List.length_range] at hl
      omega
  obtain ⟨m, h1, h2, h3⟩ := least xs.length h
  refine ⟨m, h1, h2, fun j hj => ?_⟩
  by_cases y : nm (j + 1) ∈ xs
  · exact y
  · exact absurd y (h3 j hj)
theorem first_unique {xs : List (List Nat)} {m k : Nat} (h1 : nm (m + 1) ∉ xs) (h2 : ∀ j, j < m → nm (j + 1) ∈ xs) (k1 : nm (k + 1) ∉ xs) (k2 : ∀ j, j < k → nm (j + 1) ∈ xs) : k = m := by
  by_cases a : k < m
  · exact absurd (h2 k a) k1
  · by_cases b : m < k
    · exact absurd (k2 m b) h1
    · omega
end M05
set_option Elab.async false
set_option linter.all false
set_option maxRecDepth 100000
set_option maxHeartbeats 4000000
namespace L2
open PySem PySem.Spec PyProof.Rows

/-! ### for k in d: the dict stands still meanwhile -/
def Itk (d : Addr) (o : Obj) (kvs : List (Key × V)) : It :=
  ⟨fun i H => H d = some (.frz o (.dK kvs)) ∧ i < kvs.length, fun i H x H' => H' = H ∧ ∃ kv, kvs[i]? = some kv ∧ x = kV kv.1, fun i H => H d = some (.frz o (.dK kvs)) ∧ kvs.length ≤ i⟩
theorem frz_at {X : Cx} {pins : List (Addr × Obj)} {σ : St} {H : Hp} {s : Shared} {d : Addr} {o : Obj} {kvs : List (Key × V)} {es : Array DictEntry} {ep : Nat} (I : Inv X pins σ H s) (e : H d = some (.frz o (.dK kvs))) (hod : o.data = .dict es ep) :
    (d == sysModules) = false ∧ ∃ vs, KV kvs vs ∧ s.heap.DictAt (mixKind X.prog X.w) d vs ep := by
  obtain ⟨ho, _, lo, vs, rel, o2, es2, ep2, h2, hx, hd, r⟩ := (show ObjOk X.prog X.w H s.heap d (.frz o (.dK kvs)) from I.hok d _ e)
  rw [ho] at h2
  cases h2
  rw [hod] at hd
  cases hd
  exact ⟨lo, vs, rel, o, es, ho, hx, hod, r⟩
theorem turn_dict {P : Program} {w : World} {K : PySem.W.Frag} {tg : Expr} (d it : Addr) (o : Obj) (kvs : List (Key × V)) (es : Array DictEntry) (ep : Nat) (hod : o.data = .dict es ep) :
    Turn P w K tg (Itk d o kvs) [it] it (fun i h => h.IsKeyIter it d i kvs.length ep) where
  mem := by simp
  obj := fun i h st b hb => by
    have e : b = it := by simpa using hb
    subst e
    obtain ⟨o', ho, hc, hd⟩ := st
    exact ⟨o', ho, fun v z => by rw [hd] at z; cases z⟩
  keep := fun i h h' st k => st.at fun o' e => k it (by simp) o' e
  item := by
    intro X hP hw hK hc i pins s σ H E I hf st hg
    subst hP hw hK
    obtain ⟨e, hi⟩ := hg
    obtain ⟨f0, f1, f2, f3, f4, f5⟩ := hf it (by simp)
    obtain ⟨lo, vs, rel, da⟩ := frz_at I e hod
    have hl : vs.length = kvs.length := rel.length.symm
    have hx : vs[i]? = some vs[i] := List.getElem?_eq_getElem (by omega)
    obtain ⟨q, hq, e1, _⟩ := rel.at_ i _ hx
    have st' : s.heap.IsKeyIter it d i vs.length ep := by rw [hl]; exact st
    refine wpAny_pyNext_dict_item (k := vs[i].1) (v := vs[i].2) st' da hx fun key h' hk hit sb => ?_
    have I1 : Inv X pins σ H { s with heap := h' } := I.turned (t' := s.toks) (fun b o' hb e' => (sb.2 b hb).trans e') f0 f1 f3 f4 f5
    rw [hl] at hit
    obtain ⟨oi, hoi, hci, hdi⟩ := id hit
    refine ⟨_, rfl, go_of (s := { s with heap := h' }) (n := "dict_keyiterator") hoi hci hdi (by decide) ⟨kV q.1, H, I1, ?_, ⟨rfl, q, hq, rfl⟩, hit, fun b hb => (hf b hb).1⟩⟩
    rw [e1]
    exact rel_key hk
  done := by
    intro X hP hw hK hc i pins s σ H E I hf st hg
    subst hP hw hK
    obtain ⟨e, hi⟩ := hg
    obtain ⟨f0, f1, f2, f3, f4, f5⟩ := hf it (by simp)
    obtain ⟨lo, vs, rel, da⟩ := frz_at I e hod
    have hl : vs.length = kvs.length := rel.length.symm
    have st' : s.heap.IsKeyIter it d i vs.length ep := by rw [hl]; exact st
    exact wpAny_pyNext_dict_end (I.ok.hd hc) st' da (List.getElem?_eq_none (by omega)) fun h' eb => ⟨rfl, I.turned (t' := s.toks) (fun b o' hb e' => eb b o' hb e') f0 f1 f3 f4 f5⟩
  self := fun _ _ _ _ _ st h => wpAny_pyIter_keyiter st h
def iDict (tl : TE) : TI := fun σ H R => tl σ H fun x H1 => ∃ (d : Addr) (kvs : List (Key × V)), x = .ref d ∧ H1 d = some (.dK kvs) ∧ ∀ o : Obj, R (Itk d o kvs) (upd H1 d (.frz o (.dK kvs)))
theorem pi_dict {X : Cx} {tg l : Expr} {tl : TE} (hl : PE X l tl) : PI X tg l (iDict tl) := by
  intro pins s σ H R I h
  refine thn (hl pins s σ H _ I h) fun v s1 ⟨x, H1, I1, r1, q1⟩ => ?_
  obtain ⟨d, kvs, e, hd, q⟩ := q1
  subst e
  cases r1
  obtain ⟨hz, lo, vs, rel, dd⟩ := dk_of I1.hok hd
  obtain ⟨ep, da⟩ := dd.dictAt
  obtain ⟨o, es, ho, hx, hod, r⟩ := id da
  have ld : d < s1.heap.objs.size := Heap.lt_size ho
  have I2 : Inv X pins σ (upd H1 d (.frz o (.dK kvs))) { s1 with heap := s1.heap, toks := s1.toks } :=
    I1.write (x := d) (e := d) (h' := s1.heap) (t' := s1.toks) (by rw [hd]; exact trivial) (.inl rfl) (fun _ _ _ q => q) ⟨o, ho⟩ ⟨ho, hz, lo, vs, rel, dd⟩
  refine wpAny_pyIter_dict lo da ?_
  have I3 : Inv X pins σ (upd H1 d (.frz o (.dK kvs))) { s1 with heap := s1.heap.push { cls := .type "dict_keyiterator", data := .fields #[.ref d, .int 0 0, .int vs.length 0, .int ep 0] } } := I2.kept (t' := s1.toks) fun b o' e' => Heap.get?_push_of_some _ e'
  refine ⟨s1.heap.objs.size, [s1.heap.objs.size], _, _, _, rfl, I3, turn_dict d _ o kvs es ep hod, ⟨_, Heap.get?_push_size _ rfl, rfl, by rw [← rel.length]; rfl⟩, fun b hb => ?_, q o⟩
  have e : b = s1.heap.objs.size := by simpa using hb
  subst e
  exact I2.fpOk (Nat.le_refl _) (I2.hok.fresh (Nat.le_refl _))
theorem for_dict {d : Addr} {o : Obj} {kvs : List (Key × V)} {g : TG} {tb : TS} {D : Ends} {σ : St} {H : Hp} (Pv : Nat → St → Hp → Prop) (h0 : Pv 0 σ H) (hl : ∀ i σ H, i ≤ kvs.length → Pv i σ H → H d = some (.frz o (.dK kvs)))
    (hs : ∀ i kv σ H, kvs[i]? = some kv → Pv i σ H → g (kV kv.1) σ H fun σ2 H2 => tb { D with nx := Pv (i + 1), ct := Pv (i + 1), bk := D.nx } σ2 H2) (hd : ∀ σ H, Pv kvs.length σ H → D.nx σ H) :
    ∃ W : Nat → Nat → St → Hp → Prop, (∃ m, W 0 m σ H) ∧ ∀ i m σ H, W i m σ H →
      ((Itk d o kvs).stop i H ∧ D.nx σ H) ∨ ((Itk d o kvs).go i H ∧ ∃ N : St → Hp → Prop, (∀ σ' H', N σ' H' → ∃ m', m' < m ∧ W (i + 1) m' σ' H') ∧ ∀ x H', (Itk d o kvs).yld i H x H' → g x σ H' fun σ2 H2 => tb { D with nx := N, ct := N, bk := D.nx } σ2 H2) := by
  refine ⟨fun i m σ H => m = kvs.length - i ∧ i ≤ kvs.length ∧ Pv i σ H, ⟨kvs.length, rfl, Nat.zero_le _, h0⟩, ?_⟩
  rintro i m σ H ⟨rfl, hi, p⟩
  have q := hl i σ H hi p
  by_cases hlt : i < kvs.length
  · refine .inr ⟨⟨q, hlt⟩, Pv (i + 1), fun σ' H' p' => ⟨kvs.length - (i + 1), by omega, rfl, hlt, p'⟩, fun x H' y => ?_⟩
    obtain ⟨rfl, kv, e, rfl⟩ := y
    exact hs i kv σ _ e p
  · have e : i = kvs.length := by omega
    subst e
    exact .inl ⟨⟨q, Nat.le_refl _⟩, hd σ H p⟩

/-! ### t + u, whatever they hold -/
def rCat2 : R2 := fun x y H Q => ∃ (a b : Addr) (xs ys : List V), x = .ref a ∧ y = .ref b ∧ H a = some (.tup xs) ∧ H b = some (.tup ys) ∧ xs.length + ys.length ≤ sizeLine ∧ ∀ (q : Addr) (H' : Hp), Same H H' → H' q = some (.tup (xs ++ ys)) → Q (.ref q) H'
theorem op_catT2 {X : Cx} : OpR X (binaryOp .Add) rCat2 := by
  intro pins s σ H x y v u Q I rx ry h
  obtain ⟨a, b, xs, ys, rfl, rfl, ha, hb, hz, q⟩ := h
  cases xs with
  | cons x1 xs =>
    refine op_catT pins s σ H (.ref a) (.ref b) v u Q I rx ry ⟨a, b, _, _, rfl, rfl, SqT.of ha, SqT.of hb, by simp, hz, fun z => ?_, fun z p hp => q p _ (same_new hp _) upd_same⟩
    refine q a H (Same.refl H) ?_
    rw [ha, z, List.append_nil]
  | nil =>
    cases rx
    cases ry
    obtain ⟨its, r1, p1, _⟩ := I.tuple (SqT.of (K := X.K) ha)
    obtain ⟨its2, r2, p2, _⟩ := I.tuple (SqT.of (K := X.K) hb)
    cases r1
    obtain ⟨⟨cls, dd, data, sl⟩, ho, hc, n, hd⟩ := id p1
    obtain ⟨⟨cls2, dd2, data2, sl2⟩, ho2, hc2, n2, hd2⟩ := id p2
    simp only at hc hd hc2 hd2
    subst hc hd hc2 hd2
    refine concat_meets ⟨_, ho, rfl⟩ ⟨_, ho2, rfl⟩ noFill_tuple_add seq_tuple_add PySem.F.slot_tuple_add PySem.F.entry_tuple_add (PySem.F.args_tuple_add_2 _ _) (tuple_addW0 a b _ its2.toArray n n2 dd dd2 sl sl2 rfl) ⟨ho, ho2, ?_⟩
    exact ⟨.ref b, H, I, rfl, q b H (Same.refl H) hb⟩

theorem inV_str (a : Str) : ∀ xs : List Str, inV (.str a) (xs.map V.str) = decide (a ∈ xs)
  | [] => rfl
  | x :: xs => by
    have ih := inV_str a xs
    unfold inV at ih ⊢
    rw [List.map_cons, List.any_cons, ih]
    show (x == a || decide (a ∈ xs)) = _
    rw [Bool.eq_iff_iff, Bool.or_eq_true, decide_eq_true_eq, decide_eq_true_eq, List.mem_cons, beq_iff_eq]
    constructor
    · rintro (h | h)
      · exact .inl h.symm
      · exact .inr h
    · rintro (h | h)
      · exact .inl h.symm
      · exact .inr h
theorem flat_strs (xs : List Str) : (xs.map V.str).all flatV = true := by
  rw [List.all_eq_true]
  intro v hv
  obtain ⟨x, _, rfl⟩ := List.mem_map.mp hv
  rfl
/-- dict([(one, True) for one in names]) -/
theorem dict_names {K : PySem.W.Frag} {σ : St} {H : Hp} {Q : VK} {i : Nat} {pc : Addr} {cs : List Str} (h1 : σ[i]? = some (some (.ref pc))) (hc : H pc = some (.tup (cs.map V.str))) (hz : cs.length ≤ 1000)
    (k : ∀ (d : Addr) (H' : Hp), Same H H' → H' d = some (.dK (mergeK [] (cs.map fun c => ((Sum.inr c : Key), V.bl true)))) → Q (.ref d) H') :
    tCB rDictOf (tCons (tComp (iTup K (tVar i)) (gName 0) tYes (tTup (tCons (tVar 0) (tCons (tC (.bl true)) tNil))) (liftBy [none])) tNil) σ H Q := by
  refine ⟨_, h1, pc, rfl, ⟨_, SqT.of hc⟩, fun l hl => ?_⟩
  refine comp_by (J := Itt K pc) (l := l) cs.length (fun i σ' H' => ∃ (v : Option V) (us : List V), σ' = [v] ∧ Same H H' ∧ H' l = some (.lst us) ∧ Prs H' us ((cs.take i).map fun c => ((Sum.inr c : Key), V.bl true))) ⟨none, [], rfl, same_new hl _, upd_same, .nil⟩ ?_ ?_
  · rintro σ' H' ⟨v, us, rfl, hs, hl', hp'⟩
    refine ⟨⟨_, SqT.of (hs _ _ hc), by simp⟩, l, us, _, rfl, hl', hp', fun d hd => ?_⟩
    rw [List.take_length]
    exact k d _ (hs.trans (same_new hd _)) upd_same
  · rintro i σ' H' hi ⟨v, us, rfl, hs, hl', hp'⟩
    have hat : (cs.map V.str)[i]? = some (V.str cs[i]) := by rw [List.getElem?_map, List.getElem?_eq_getElem hi]; rfl
    refine ⟨⟨_, _, SqT.of (hs _ _ hc), hat⟩, ?_⟩
    rintro y H'' ⟨rfl, hy⟩
    have ey : y = V.str cs[i] := Option.some.inj ((hy _ (SqT.of (hs _ _ hc))).symm.trans hat)
    subst ey
    refine gN (yesT (iteT ?_))
    refine ⟨_, rfl, smn 2, fun q hq => ?_⟩
    have nlq : l ≠ q := ne_of_none hl' hq
    refine ⟨us, (upd_ne nlq).trans hl', ?_, _, us ++ [.ref q], rfl, ?_, upd_same, ?_⟩
    · have := hp'.len
      rw [List.length_map, List.length_take] at this
      exact small1000 (by omega)
    · intro c o z
      have hlH : H l = none := hl
      rw [upd_ne (ne_of_none z hlH)]
      exact same_new hq _ c o (hs c o z)
    · have ht : (cs.take (i + 1)).map (fun c => ((Sum.inr c : Key), V.bl true)) = (cs.take i).map (fun c => ((Sum.inr c : Key), V.bl true)) ++ [((Sum.inr cs[i] : Key), V.bl true)] := by
        rw [List.take_add_one, List.getElem?_eq_getElem hi, List.map_append]
        rfl
      rw [ht]
      refine Prs.snoc ⟨q, rfl, ?_⟩ ?_
      · rw [upd_ne nlq.symm, upd_same]
        rfl
      · refine Paired.mapP hp' fun v kv ⟨p', e1, e2⟩ => ⟨p', e1, ?_⟩
        have n1 : p' ≠ q := ne_of_none e2 hq
        have n2 : p' ≠ l := ne_of e2 hl' (by intro z; cases z)
        rw [upd_ne n2, upd_ne n1]
        exact e2
/-- keys that are texts -/
def TxtK (kvs : List (Key × V)) : Prop := ∀ kv ∈ kvs, ∃ c : Str, kv.1 = Sum.inr c
theorem txt_put {kvs : List (Key × V)} {c : Str} {v : V} (h : TxtK kvs) : TxtK (putK kvs (Sum.inr c) v) := by
  intro kv hkv
  unfold putK at hkv
  split at hkv
  · obtain ⟨x, hx, rfl⟩ := List.mem_map.mp hkv
    split
    · exact h x hx
    · exact h x hx
  · rcases List.mem_append.mp hkv with z | z
    · exact h kv z
    · have : kv = (Sum.inr c, v) := by simpa using z
      rw [this]
      exact ⟨c, rfl⟩
theorem txt_drop {kvs : List (Key × V)} {k : Key} (h : TxtK kvs) : TxtK (dropK kvs k) := fun kv hkv => h kv ((List.mem_filter.mp hkv).1)
theorem txt_merge : ∀ {more a : List (Key × V)}, TxtK a → TxtK more → TxtK (mergeK a more)
  | [], _, h, _ => h
  | kv :: r, a, h, hm => by
    obtain ⟨c, ec⟩ := hm kv List.mem_cons_self
    show TxtK (mergeK (putK a kv.1 kv.2) r)
    rw [ec]
    exact txt_merge (txt_put h) fun x hx => hm x (List.mem_cons_of_mem _ hx)
theorem txt_keys {kvs : List (Key × V)} (h : TxtK kvs) : ∃ cs : List Str, kvs.map (fun kv => kV kv.1) = cs.map V.str ∧ cs.length = kvs.length := by
  induction kvs with
  | nil => exact ⟨[], rfl, rfl⟩
  | cons kv r ih =>
    obtain ⟨cs, e1, e2⟩ := ih fun x hx => h x (List.mem_cons_of_mem _ hx)
    obtain ⟨c, ec⟩ := h kv List.mem_cons_self
    refine ⟨c :: cs, ?_, by rw [List.length_cons, List.length_cons, e2]⟩
    rw [List.map_cons, List.map_cons, e1, ec]
    rfl
end L2
set_option Elab.async false
set_option linter.all false
set_option maxRecDepth 100000
set_option maxHeartbeats 4000000
namespace ET
open PySem
open Sem (wp)
open AutoSeq1 (wpAny_loadPart')
/-- a tuple's iterator, as enumerate draws from it -/
theorem drawsT {prog : Program} {w : World} {A : Around} (hd : A.handled = none) (it t : Addr) (ne : t ≠ it) (its : Array Value) :
    Draws prog w A it [it, t] its.size (fun i v => its[i]? = some v) (fun i h => h.IsTupleIter it t i ∧ h.IsTuple t its) where
  live := fun _ _ st => by
    obtain ⟨⟨o, ho, _⟩, _⟩ := st
    exact ⟨o, ho⟩
  frame := fun _ _ _ st k => ⟨st.1.at fun o e => k it (by simp) o e, st.2.at fun o e => k t (by simp) o e⟩
  item := fun i s Q E hi st q => by
    refine ZT.tup_item st.1 st.2 (x := its[i]) (by simp [hi]) fun g ti sb => ?_
    exact q _ g s.toks (by simp [hi]) ⟨ti, st.2.extBut sb.extBut ne⟩ sb
  done := fun s Q E st q => ZT.tup_end hd st.1 st.2 (by simp) q
theorem enum_newT (t : Addr) (us : Array Value) : Meets (Builtin.«enumerate.__new__» ⟨[.type "enumerate", .ref t], []⟩) (fun _ R s => s.heap.IsTuple t us ∧
      R (.ok (.ret (.ref (s.heap.push { cls := .type "tuple_iterator", data := .fields #[.ref t, .int 0 0] }).objs.size)))
        { s with heap := (s.heap.push { cls := .type "tuple_iterator", data := .fields #[.ref t, .int 0 0] }).push { cls := .type "enumerate", data := .fields #[.none, .bool false, .ref s.heap.objs.size, rawInt 0, .none, .none] } }) := by
  refine .of_wp fun prog w A R s h => ?_
  obtain ⟨hp, g, d, tk, os⟩ := s
  obtain ⟨u1, h⟩ := h
  have u1' : Heap.IsTuple (Shared.heap ⟨hp, g, d, tk, os⟩) t us := u1
  have sub := sub_enumerate
  wp_walk
  refine wpAny_stack_any fun st => wpAny_pure ?_
  split
  · rename_i c _ _ _ _ _
    cases (c == Value.type "enumerate")
    all_goals
      wp_walk using wpAny_pyIter_tuple u1'
      exact ⟨_, rfl, h⟩
  · wp_walk using wpAny_pyIter_tuple u1'
    exact ⟨_, rfl, h⟩
theorem call_enumT {prog : Program} {w : World} {A : Around} {E : Value → Shared → Prop} {s : Shared} {t : Addr} {us : Array Value} {Q : Value → Shared → Prop} (u1 : s.heap.IsTuple t us)
    (k : ∀ g, IsEnum g (s.heap.objs.size + 1) s.heap.objs.size 0 .none → g.IsTupleIter s.heap.objs.size t 0 → (∀ c o, s.heap.get? c = some o → g.get? c = some o) → Q (.ref (s.heap.objs.size + 1)) { s with heap := g }) :
    wpAny (model prog w) A (call (.type "enumerate") [.ref t]) Q E s := by
  refine callType_new F.called_enumerate (by decide) (F.typeCall_enumerate_1 _) (F.newCall_enumerate_1 _) (fun obj => F.args_object_init_2 obj _) F.entry_enumerate_new (enum_newT t us) ⟨u1, ?_⟩
  have n1 : (ZT.zh1 s.heap t).objs.size = s.heap.objs.size + 1 := Heap.size_push ..
  have p1 : ((ZT.zh1 s.heap t).push { cls := .type "enumerate", data := .fields #[.none, .bool false, .ref s.heap.objs.size, rawInt 0, .none, .none] }).get? (ZT.zh1 s.heap t).objs.size = some _ := Heap.get?_push_size _ rfl
  rw [n1] at p1
  show _ ∧ _
  rw [n1]
  exact ⟨⟨_, p1, rfl⟩, k _ p1 ⟨_, Heap.get?_push_of_some _ (Heap.get?_push_size _ rfl), rfl, rfl⟩ fun c o q => Heap.get?_push_of_some _ (Heap.get?_push_of_some _ q)⟩
theorem enum_endT {prog : Program} {w : World} {A : Around} {E : Value → Shared → Prop} {s : Shared} {e it t : Addr} {i : Nat} {j : Int} {us : Array Value} {old : Value} {Q : Option Value → Shared → Prop} (hd : A.handled = none)
    (ee : IsEnum s.heap e it j old) (ti : s.heap.IsTupleIter it t i) (tt : s.heap.IsTuple t us) (tx : us[i]? = none) (k : ∀ g, Heap.ExtBut it s.heap g → Q none { s with heap := g }) : wpAny (model prog w) A (pyNext (.ref e)) Q E s := by
  have ty : s.TypeIs (.ref e) "enumerate" := ⟨_, ee, rfl⟩
  unfold pyNext
  refine wpAny_bind (wpAny_attempt (wpAny_callSpecial?_slot (name := Str.ofString "__next__") ty F.slot_enumerate_next (wpAny_call_entry F.slot_enumerate_next ty F.entry_enumerate_next ?_ (F.args_enumerate_next_1 _))))
  show wpAny _ _ (field (.ref e) 2 >>= _) _ _ _
  refine wpAny_bind (wpAny_field ee rfl (x := .ref it) rfl (wpAny_bind (ZT.tup_end hd ti tt tx fun g x eb hx => ?_)))
  obtain ⟨o, ho, c⟩ := hx
  exact wpAny_bind (wpAny_isInstance (T := "StopIteration") (b := true) ⟨o, ho, c⟩ isSubtype_stop (wpAny_pure (k _ eb)))
end ET
namespace L2
open PySem PySem.Spec PyProof.Rows
/-! ### enumerate over a tuple -/
def IteT (K : PySem.W.Frag) (a : Addr) : It :=
  ⟨fun i H => ∃ xs x, SqT K H a xs ∧ xs[i]? = some x, fun i H v H' => ∃ t x, v = .ref t ∧ H t = none ∧ H' = upd H t (.tup [.int (i : Nat), x]) ∧ ∀ xs, SqT K H a xs → xs[i]? = some x, fun i H => ∃ xs, SqT K H a xs ∧ xs.length ≤ i⟩
theorem turn_enumT {P : Program} {w : World} {K : PySem.W.Frag} {elts : List Expr} {k1 : Nat} {p1 : Pos} (a e it : Addr) (hne : e ≠ it) (hae : a ≠ e) (hai : a ≠ it) :
    Turn P w K (.Tuple elts k1 p1) (IteT K a) [e, it] e (fun i h => (∃ old, IsEnum h e it ((i : Nat) : Int) old) ∧ h.IsTupleIter it a i) where
  mem := by simp
  obj := fun i h st b hb => by
    obtain ⟨⟨old, he⟩, o, ho, c, d⟩ := st
    have hb' : b = e ∨ b = it := by simpa using hb
    rcases hb' with rfl | rfl
    · exact ⟨_, he, fun v z => by
        have z' : Data.fields _ = Data.cell v := z
        cases z'⟩
    · exact ⟨o, ho, fun v z => by rw [d] at z; cases z⟩
  keep := fun i h h' st k => by
    obtain ⟨⟨old, he⟩, hit⟩ := st
    exact ⟨⟨old, k e (by simp) _ he⟩, hit.at fun o q => k it (by simp) o q⟩
  item := by
    intro X hP hw hK hc i pins s σ H E I hf st hg
    subst hP hw hK
    obtain ⟨xs, x, hq, hx⟩ := hg
    obtain ⟨its, rv, p, hz⟩ := I.tuple hq
    obtain ⟨u, hu, ru⟩ := rv.get hx
    obtain ⟨⟨old, he⟩, hit⟩ := st
    have fe := hf e (by simp)
    have fi := hf it (by simp)
    obtain ⟨oi, hoi, _⟩ := id hit
    have pT : s.heap.IsTuple a its.toArray := p
    have hlt : i < its.toArray.size := by
      have := (List.getElem?_eq_some_iff.mp hu).1
      simpa using this
    refine wpAny_pyNext_enum_itemD (ET.drawsT (A := X.A.in1) (I.ok.hd hc) it a hai its.toArray) he ⟨hit, pT⟩ hlt hne (by simp [hne, Ne.symm hae]) fun x' h1 tk hx' heo hst1 ht1 hz1 hk1 => ?_
    have ex : x' = u := by
      have : its.toArray[i]? = some u := by simpa using hu
      exact Option.some.inj (hx'.symm.trans this)
    subst ex
    refine ⟨_, rfl, wpAny_letOwnedTupleGo_enum heo fun h2 he2 hs2 => ?_⟩
    have hs2' : Heap.SameBut e h1 h2 := hs2
    have hel : e < s.heap.objs.size := Heap.lt_size he
    have I1 : Inv X pins σ (upd H s.heap.objs.size (.tup [.int (i : Nat), x])) { s with heap := h2, toks := tk + 1 } :=
      I.turnedT (its := [.int i tk, x']) (fun b o h1' h2' q => hs2'.extBut b o h1' (hk1 b o h1' h2' q)) fe fi ⟨_, he⟩ ⟨_, hoi⟩ (.cons ⟨_, rfl⟩ (.cons ru .nil)) (by show 2 ≤ sizeLine; decide) ((hs2'.2 _ (Nat.ne_of_gt hel)).trans ht1)
    refine ⟨.ref s.heap.objs.size, _, I1, rfl, ⟨s.heap.objs.size, x, rfl, I.fresh, rfl, fun ys hy => by rw [I.tuple_inj hy hq]; exact hx⟩, ⟨⟨x', ?_⟩, hst1.1.extBut hs2'.extBut (Ne.symm hne)⟩, fun b hb => ?_⟩
    · have e3 : (((i + 1 : Nat)) : Int) = (i : Int) + 1 := by push_cast; rfl
      rw [e3]
      exact he2
    · have hb' : b = e ∨ b = it := by simpa using hb
      have hbl : b ≠ s.heap.objs.size := by
        rcases hb' with rfl | rfl
        · exact Nat.ne_of_lt (Heap.lt_size he)
        · exact Nat.ne_of_lt (Heap.lt_size hoi)
      rw [upd_ne hbl]
      exact (hf b hb).1
  done := by
    intro X hP hw hK hc i pins s σ H E I hf st hg
    subst hP hw hK
    obtain ⟨xs, hq, hx⟩ := hg
    obtain ⟨its, rv, p, hz⟩ := I.tuple hq
    obtain ⟨⟨old, he⟩, hit⟩ := st
    obtain ⟨f0, f1, f2, f3, f4, f5⟩ := hf it (by simp)
    have hl := rv.length
    have pT : s.heap.IsTuple a its.toArray := p
    exact ET.enum_endT (I.ok.hd hc) he hit pT (by simp; omega) fun h' eb => ⟨rfl, I.turned (t' := s.toks) (fun b o hb e => eb b o hb e) f0 f1 f3 f4 f5⟩
  self := fun A i s Q E st h => by
    obtain ⟨⟨old, he⟩, hit⟩ := st
    exact wpAny_pyIter_enum he h
def iEnumT (K : PySem.W.Frag) (ta : TA) : TI := fun σ H R => ta σ H fun vs H1 => ∃ a, vs = [.ref a] ∧ (∃ xs, SqT K H1 a xs) ∧ R (IteT K a) H1
theorem pi_enumT {X : Cx} {elts : List Expr} {k1 : Nat} {p1 : Pos} {a : Expr} {ta : TA} {p pos : Pos} (hg : Gl X "enumerate") (hm : X.mg "enumerate" = none) (ha : PA X [a] ta) (hs : starEach [a] X.env = [(false, eval a X.env)] := by rfl)
    (hb : bootBuiltins "enumerate" = some (.type "enumerate") := by first | exact boot_enumerate | exact PySem.boot_enumerate | rfl) : PI X (.Tuple elts k1 p1) (.Call (.Name "enumerate" p) [a] [] pos) (iEnumT X.K ta) := by
  intro pins s σ H R I h
  refine Call_ (ld_blt I hg hm hb (PyProof.Rows.callWith_type1 (thn (ha pos pins s σ H _ I h) fun us s1 ⟨vs, H1, I1, r1, q1⟩ => ?_) hs rfl))
  obtain ⟨l, e, ⟨xs, hq⟩, q⟩ := q1
  subst e
  cases r1 with
  | cons r rr =>
    cases rr
    cases r
    obtain ⟨its, rv, pl, hz⟩ := I1.tuple hq
    have pT : s1.heap.IsTuple l its.toArray := pl
    have hll : l < s1.heap.objs.size := by
      obtain ⟨o, ho, _⟩ := pT
      exact Heap.lt_size ho
    refine ET.call_enumT pT fun h' he hit hk => ?_
    refine wpAny_pyIter_enum he ?_
    have I2 : Inv X pins σ H1 { s1 with heap := h' } := I1.kept (t' := s1.toks) hk
    refine ⟨s1.heap.objs.size + 1, [s1.heap.objs.size + 1, s1.heap.objs.size], _, _, H1, rfl, I2, turn_enumT l _ _ (Nat.succ_ne_self _) (Nat.ne_of_lt (Nat.lt_succ_of_lt hll)) (Nat.ne_of_lt hll), ⟨⟨_, he⟩, hit⟩, fun b hb => ?_, q⟩
    have hb' : b = s1.heap.objs.size + 1 ∨ b = s1.heap.objs.size := by simpa using hb
    rcases hb' with rfl | rfl
    · exact I1.fpOk (Nat.le_succ _) (I1.hok.fresh (Nat.le_succ _))
    · exact I1.fpOk (Nat.le_refl _) (I1.hok.fresh (Nat.le_refl _))
theorem for_enumT {K : PySem.W.Frag} {a : Addr} {xs : List V} {g : TG} {tb : TS} {D : Ends} {σ : St} {H : Hp} (Pv : Nat → St → Hp → Prop) (h0 : Pv 0 σ H) (hl : ∀ i σ H, i ≤ xs.length → Pv i σ H → SqT K H a xs)
    (hs : ∀ i x t σ H, xs[i]? = some x → Pv i σ H → H t = none → g (.ref t) σ (upd H t (.tup [.int (i : Nat), x])) fun σ2 H2 => tb { D with nx := Pv (i + 1), ct := Pv (i + 1), bk := D.nx } σ2 H2) (hd : ∀ σ H, Pv xs.length σ H → D.nx σ H) :
    ∃ W : Nat → Nat → St → Hp → Prop, (∃ m, W 0 m σ H) ∧ ∀ i m σ H, W i m σ H →
      ((IteT K a).stop i H ∧ D.nx σ H) ∨ ((IteT K a).go i H ∧ ∃ N : St → Hp → Prop, (∀ σ' H', N σ' H' → ∃ m', m' < m ∧ W (i + 1) m' σ' H') ∧ ∀ x H', (IteT K a).yld i H x H' → g x σ H' fun σ2 H2 => tb { D with nx := N, ct := N, bk := D.nx } σ2 H2) := by
  refine ⟨fun i m σ H => m = xs.length - i ∧ i ≤ xs.length ∧ Pv i σ H, ⟨xs.length, by simp, Nat.zero_le _, h0⟩, ?_⟩
  rintro i m σ H ⟨rfl, hi, p⟩
  have q := hl i σ H hi p
  by_cases hlt : i < xs.length
  · refine .inr ⟨⟨xs, xs[i], q, by simp [hlt]⟩, Pv (i + 1), fun σ' H' p' => ⟨xs.length - (i + 1), by omega, rfl, hlt, p'⟩, fun v H' y => ?_⟩
    obtain ⟨t, x, rfl, ht, rfl, y⟩ := y
    exact hs i x t σ _ (y xs q) p ht
  · have e : i = xs.length := by omega
    subst e
    exact .inl ⟨⟨xs, q, Nat.le_refl _⟩, hd σ H p⟩
/-! ### t[lo:hi], the whole or not -/
theorem getItem_tuple_all {prog : Program} {w : World} {A : Around} {E : Value → Shared → Prop} {s : Shared} {t sl : Addr} {items : Array Value} {vl vu : Value} {lo hi : Option Int} {Q : Value → Shared → Prop} (ht : IsTup s.heap t items) (hs : s.heap.IsSliceOf sl vl vu .none) (pl : IsPart vl lo) (pu : IsPart vu hi)
    (hw : HT.sIx items.size 0 lo = 0 ∧ HT.sIx items.size items.size hi = items.size) (h : Q (.ref t) s) : wpAny (model prog w) A (getItem (.ref t) (.ref sl)) Q E s := by
  obtain ⟨os, hos, hcs, hds⟩ := id hs
  have hTs : s.TypeIs (.ref sl) "slice" := ⟨os, hos, hcs⟩
  unfold getItem
  try with_reducible refine wpAny_holding ?_
  first | refine wpAny_bind (wpAny_pure ?_) | skip
  refine wpAny_bind (wpAny_sequenceKey ht.typeIs (by decide) ?_)
  refine wpAny_bind (wpAny_callSpecial?_slot (name := Str.ofString "__getitem__") ht.typeIs PyProof.Rows.slot_tuple_getitem
    (wpAny_call_entry PyProof.Rows.slot_tuple_getitem ht.typeIs PyProof.Rows.entry_tuple_getitem ?_ (PyProof.Rows.args_tuple_getitem _ _)))
  show wpAny _ _ (Builtin.Tuple.tupleItemsOf (.ref t) >>= _) _ _ s
  refine wpAny_bind (PyProof.Rows.tupleItemsOf_ ht ?_)
  refine wpAny_bind (wpAny_typeOf hTs ?_)
  rw [if_pos (by decide)]
  refine wpAny_bind (HT.sliceApplied_gen hs pl pu ?_)
  have hno : (((HT.sIx items.size 0 lo : Nat) : Int) == 0 && (1 : Int) == 1 && (HT.sIx items.size items.size hi - HT.sIx items.size 0 lo) == items.size) = true := by
    rw [hw.1, hw.2]
    simp
  show wpAny _ _ (if (((HT.sIx items.size 0 lo : Nat) : Int) == 0 && (1 : Int) == 1 && (HT.sIx items.size items.size hi - HT.sIx items.size 0 lo) == items.size) = true then _ else _) _ _ s
  rw [if_pos hno]
  refine wpAny_bind (m := Builtin.Tuple.tupleIsExact _) (wpAny_bind (wpAny_typeOf ht.typeIs (wpAny_pure ?_)))
  rw [if_pos (by decide)]
  exact wpAny_bind (wpAny_rule (wpAny_pure ⟨_, rfl, wpAny_pure h⟩))
def rSlTw (K : PySem.W.Frag) : V → Option Int → Option Int → Hp → VK → Prop := fun x lo hi H Q => ∃ a xs, x = .ref a ∧ H a = some (.tup xs) ∧ ∀ (p : Addr) (H' : Hp), Same H H' → H' p = some (.tup (cutV xs lo hi)) → Q (.ref p) H'
theorem sl_tupW {X : Cx} : SlR X (rSlTw X.K) := by
  intro pins s σ H x v vl vu lo hi sl Q I rx hs pl pu h
  obtain ⟨a, xs, rfl, hx, q⟩ := h
  by_cases hw : HT.sIx xs.length 0 lo = 0 ∧ HT.sIx xs.length xs.length hi = xs.length
  · cases rx
    obtain ⟨its, r, ht, hz⟩ := I.tuple (SqT.of hx)
    have hlen : its.toArray.size = xs.length := by rw [List.size_toArray]; exact r.length.symm
    refine ⟨"tuple", _, PyProof.Rows.slot_tuple_getitem.lookup, ht.typeIs, ?_⟩
    refine getItem_tuple_all ht hs pl pu (by rw [hlen]; exact hw) ⟨.ref a, H, I, rfl, q a H (Same.refl H) ?_⟩
    rw [hx]
    unfold cutV
    rw [hw.1, hw.2, List.drop_zero, Nat.sub_zero, List.take_length]
  · exact sl_tup pins s σ H _ v vl vu lo hi sl Q I rx hs pl pu ⟨a, xs, rfl, SqT.of hx, hw, fun p hp => q p _ (same_new hp _) upd_same⟩
theorem sl_tupWK {X : Cx} {K : PySem.W.Frag} (hK : X.K = K) : SlR X (rSlTw K) := by subst hK; exact sl_tupW
end L2
set_option Elab.async false
set_option linter.all false
set_option maxRecDepth 100000
set_option maxHeartbeats 4000000
namespace L2
open PySem PySem.Spec PyProof.Rows
/-! ### xs != [] -/
def rNeE : R2 := fun x y H Q => ∃ (l b : Addr) (xs : List V), x = .ref l ∧ y = .ref b ∧ H l = some (.lst xs) ∧ H b = some (.lst []) ∧ Q (.bl (!xs.isEmpty)) H
theorem op_neE {X : Cx} (hu : X.A.units < cLine) : OpR X (compareOp .NotEq) rNeE := by
  intro pins s σ H x y v u Q I rx ry h
  obtain ⟨l, b, xs, rfl, rfl, hl, hb, q⟩ := h
  cases rx
  cases ry
  obtain ⟨its, r1, p1, _⟩ := I.list (SqL.of (K := X.K) hl)
  obtain ⟨its2, r2, p2, _⟩ := I.list (SqL.of (K := X.K) hb)
  cases r2
  cases r1 with
  | nil => exact SeqAt.RcNeAt.lists (e := fun _ => true) p1.isList p2.isList rfl hu (fun j h1 _ => absurd h1 (Nat.not_lt_zero j)) X.prog X.w _ _ ⟨.bl false, H, I, rfl, q⟩
  | cons _ _ => exact SeqAt.RcNeAt.lists_lengths p1.isList p2.isList (by simp) hu X.prog X.w _ _ ⟨.bl true, H, I, rfl, q⟩
/-! ### () == () -/
def rEqT0 : R2 := fun x y H Q => ∃ (l b : Addr), x = .ref l ∧ y = .ref b ∧ H l = some (.tup []) ∧ H b = some (.tup []) ∧ Q (.bl true) H
theorem op_eqT0 {X : Cx} (hu : X.A.units < cLine) : OpR X (compareOp .Eq) rEqT0 := by
  intro pins s σ H x y v u Q I rx ry h
  obtain ⟨l, b, rfl, rfl, hl, hb, q⟩ := h
  cases rx
  cases ry
  obtain ⟨its, r1, p1, _⟩ := I.tuple (SqT.of (K := X.K) hl)
  obtain ⟨its2, r2, p2, _⟩ := I.tuple (SqT.of (K := X.K) hb)
  cases r2
  cases r1
  exact SeqAt.eq_tupleAt (e := fun _ => true) p1 p2 hu (fun j h1 _ => absurd h1 (Nat.not_lt_zero j)) ⟨.bl true, H, I, rfl, q⟩
/-! ### range(n - 1, -1, -1) -/
def iRngD (ta : TA) : TI := fun σ H R => ta σ H fun vs H1 => ∃ (a : Int) (n : Nat), vs = [.int a, .int (-1), .int (-1)] ∧ a = (n : Int) - 1 ∧ n ≤ 1000000 ∧ R (Itd a n) H1
theorem pi_rangeD {X : Cx} {tg a b c : Expr} {ta : TA} {p pos : Pos} (hg : Gl X "range") (hm : X.mg "range" = none) (ha : PA X [a, b, c] ta) (hs : starEach [a, b, c] X.env = (false, eval a X.env) :: starEach [b, c] X.env := by rfl) (hpl : (backTo pos (starEach [b, c] X.env)).any (·.1) = false := by rfl) :
    PI X tg (.Call (.Name "range" p) [a, b, c] [] pos) (iRngD ta) := by
  intro pins s σ H R I h
  refine Call_ (ld_blt I hg hm boot_range (PyProof.Rows.callWith_type1 (thn (ha pos pins s σ H _ I h) fun us s1 ⟨vs, H1, I1, r1, z, n, e, en, hn, q⟩ => ?_) hs hpl))
  subst e
  cases r1 with
  | cons r rr =>
    obtain ⟨u, u', rfl, ⟨t2, rfl⟩, ⟨t3, rfl⟩⟩ := vals2 rr
    obtain ⟨t1, rfl⟩ := r
    refine call_range_3 (by decide) ?_
    have hsz : Builtin.Range.rangeSize z (-1) (-1) = (n : Int) := by
      unfold Builtin.Range.rangeSize
      rw [if_neg (by decide)]
      split
      · have : z - -1 - 1 = z := by omega
        rw [this, show (-(-1 : Int)) = 1 from rfl, Int.ediv_one]
        omega
      · omega
    refine wpAny_pyIter_range (IsRange.new ..) ?_ ?_
    · unfold Builtin.Range.small
      rw [hsz]
      simp [Builtin.Range.rangeFitsLong]
      omega
    have I2 : Inv X pins σ H1 { s1 with heap := s1.heap.push { cls := .type "range", data := .fields #[.int z t1, .int (-1) t2, .int (-1) t3] }, toks := s1.toks } := I1.kept fun b o e => Heap.get?_push_of_some _ e
    rw [hsz]
    refine ⟨_, [(s1.heap.push { cls := .type "range", data := .fields #[.int z t1, .int (-1) t2, .int (-1) t3] }).objs.size], _, _, H1, rfl, I2.kept (t' := s1.toks) fun b o e => Heap.get?_push_of_some _ e, turn_down _ z n, ?_, fun b hb => ?_, q⟩
    · have := Heap.get?_push_size (s1.heap.push { cls := .type "range", data := .fields #[.int z t1, .int (-1) t2, .int (-1) t3] }) (o := { cls := .type "range_iterator", data := .fields #[rawInt z, rawInt (n : Int), rawInt (-1)] }) rfl
      simpa [IsRangeIter] using this
    · have e : b = (s1.heap.push { cls := .type "range", data := .fields #[.int z t1, .int (-1) t2, .int (-1) t3] }).objs.size := by simpa using hb
      subst e
      exact I2.fpOk (Nat.le_refl _) (I2.hok.fresh (Nat.le_refl _))
end L2
set_option Elab.async false
set_option linter.all false
set_option maxRecDepth 100000
set_option maxHeartbeats 4000000
namespace DR
open PySem PySem.W
open Sem (wp)
/-- a dict by its entries, whatever its keys are -/
def Raw (g : Heap) (d : Addr) (es : Array DictEntry) (ep : Nat) : Prop := ∃ o, g.get? d = some o ∧ o.ExactDict ∧ o.data = .dict es ep
section
variable {prog : Program} {w : World} {A : Around} {E : Value → Shared → Prop} {s : Shared} {it dd : Addr} {es : Array DictEntry} {i ep : Nat}
theorem Raw.typeIs (r : Raw s.heap dd es ep) : s.TypeIs (.ref dd) "dict" := by
  obtain ⟨o, eo, ec, ed⟩ := r
  exact ⟨o, eo, ec.1⟩
theorem Raw.lt {g : Heap} (r : Raw g dd es ep) : dd < g.objs.size := by
  obtain ⟨o, eo, _⟩ := r
  exact Heap.lt_size eo
theorem Raw.at {g g' : Heap} (r : Raw g dd es ep) (k : ∀ o, g.get? dd = some o → g'.get? dd = some o) : Raw g' dd es ep := by
  obtain ⟨o, eo, x⟩ := r
  exact ⟨o, k o eo, x⟩
theorem iter_raw {Q : Value → Shared → Prop} (lo : (dd == sysModules) = false) (r : Raw s.heap dd es ep) (q : Q (.ref s.heap.objs.size) { s with heap := s.heap.push { cls := .type "dict_keyiterator", data := .fields #[.ref dd, .int 0 0, .int es.size 0, .int ep 0] } }) :
    wpAny (model prog w) A (pyIter (.ref dd)) Q E s := by
  have ty := r.typeIs
  obtain ⟨o, eo, ec, ed⟩ := r
  refine wpAny_pyIter_slot ty F.slot_dict_iter (wpAny_call_entry F.slot_dict_iter ty F.entry_dict_iter ?_ (F.args_dict_iter_1 _))
  unfold Builtin.«dict.__iter__»
  refine wpAny_bind ?_
  unfold Builtin.Dict.dictSlotNone
  refine wpAny_bind (wpAny_notOrdered_dict ty ?_)
  show wpAny _ _ (pure (Value.ref dd)) _ _ s
  refine wpAny_pure ?_
  show wpAny _ _ (Builtin.Dict.showsAll dd >>= _) _ _ s
  unfold Builtin.Dict.showsAll
  rw [if_neg (by rw [lo]; decide)]
  refine wpAny_bind (wpAny_pure ?_)
  refine wpAny_bind (wpAny_dictEntries eo ed (wpAny_bind (wpAny_dictEpoch eo ed ?_)))
  refine wpAny_bind (wpAny_newObj_type (wpAny_pure ⟨_, rfl, "dict_keyiterator", _, ⟨_, Heap.get?_push_size _ rfl, rfl⟩, F.slot_dict_keyiterator_next.lookup, ?_⟩))
  simpa [rawInt] using q
theorem next_raw {e : DictEntry} {Q : Option Value → Shared → Prop} (ti : s.heap.IsKeyIter it dd i es.size ep) (r : Raw s.heap dd es ep) (ex : es[i]? = some e)
    (q : ∀ g, g.IsKeyIter it dd (i + 1) es.size ep → Heap.SameBut it s.heap g → Q (some e.key) { s with heap := g }) : wpAny (model prog w) A (pyNext (.ref it)) Q E s := by
  obtain ⟨o, eo, ec, ed⟩ := id ti
  obtain ⟨od, eod, ecd, edd⟩ := id r
  unfold pyNext
  refine wpAny_bind (wpAny_attempt (wpAny_callSpecial?_slot (name := Str.ofString "__next__") ti.typeIs F.slot_dict_keyiterator_next (wpAny_call_entry F.slot_dict_keyiterator_next ti.typeIs F.entry_dict_keyiterator_next ?_ (F.args_dict_keyiterator_next_1 _))))
  refine wpAny_bind (wpAny_pure (wpAny_bind (wpAny_bind ?_)))
  first | refine wpAny_bind (wpAny_typeNameOfWhole_keyiter ti.typeIs (wpAny_pure ?_)) | refine wpAny_bind (wpAny_typeNameOf_keyiter ti.typeIs (wpAny_pure ?_))
  refine wpAny_bind (wpAny_fieldsOf eo ed ?_)
  have own : Builtin.Dict_items.ownsTuple "dict_keyiterator" = false := by decide
  simp only [own, Bool.false_eq_true, if_false]
  show wpAny _ _ (if (Value.ref dd == Value.none) = true then _ else _) _ _ s
  rw [if_neg (by intro z; cases z)]
  refine wpAny_bind (wpAny_pure (wpAny_bind (wpAny_dictEntries eod edd ?_)))
  rw [if_neg (by simp)]
  refine wpAny_bind (wpAny_pure (wpAny_bind (wpAny_dictEpoch eod edd ?_)))
  rw [if_neg (by simp)]
  refine wpAny_pure ?_
  obtain ⟨lt, ee⟩ := Array.getElem?_eq_some_iff.mp ex
  simp only [show ¬ ((i : Int) < 0) from Int.not_lt.mpr (Int.natCast_nonneg i), if_false, Int.toNat_natCast, Array.getElem?_eq_getElem lt, ee]
  refine wpAny_bind ?_
  first | refine wpAny_bind (wpAny_typeNameOfWhole_keyiter ti.typeIs (wpAny_pure ?_)) | refine wpAny_bind (wpAny_typeNameOf_keyiter ti.typeIs (wpAny_pure ?_))
  refine wpAny_bind (wpAny_isOneOf_keyiter ti.typeIs ?_)
  show wpAny _ _ (setField (.ref it) 1 (rawInt ((i : Int) + 1)) >>= _) _ _ _
  refine wpAny_bind (wpAny_setField eo ed (by simp) ?_)
  have ti' : (s.heap.update it (Obj.mapFields (·.setIfInBounds 1 (rawInt ((i : Int) + 1))))).IsKeyIter it dd (i + 1) es.size ep := by
    refine ⟨_, Heap.get?_update_self _ eo (Obj.isFreed_of_fields (Obj.data_mapFields ed _)), (Obj.cls_mapFields ..).trans ec, ?_⟩
    rw [Obj.data_mapFields ed]
    simp [rawInt]
  refine wpAny_bind (wpAny_holding ?_)
  refine wpAny_bind (wpAny_isOneOf_keyiter (s := { s with heap := s.heap.update it (Obj.mapFields (·.setIfInBounds 1 (rawInt ((i : Int) + 1)))) }) ti'.typeIs ?_)
  show wpAny _ _ (pure e.key) _ _ _
  exact wpAny_pure (wpAny_pure ⟨_, rfl, wpAny_pure (q _ ti' (Heap.SameBut.update ..))⟩)
theorem end_raw {Q : Option Value → Shared → Prop} (hd : A.handled = none) (ti : s.heap.IsKeyIter it dd i es.size ep) (r : Raw s.heap dd es ep) (ge : es.size ≤ i)
    (q : ∀ g, Heap.ExtBut it s.heap g → Q none { s with heap := g }) : wpAny (model prog w) A (pyNext (.ref it)) Q E s := by
  obtain ⟨o, eo, ec, ed⟩ := id ti
  obtain ⟨od, eod, ecd, edd⟩ := id r
  unfold pyNext
  refine wpAny_bind (wpAny_attempt (wpAny_callSpecial?_slot (name := Str.ofString "__next__") ti.typeIs F.slot_dict_keyiterator_next (wpAny_call_entry F.slot_dict_keyiterator_next ti.typeIs F.entry_dict_keyiterator_next ?_ (F.args_dict_keyiterator_next_1 _))))
  refine wpAny_bind (wpAny_pure (wpAny_bind (wpAny_bind ?_)))
  first | refine wpAny_bind (wpAny_typeNameOfWhole_keyiter ti.typeIs (wpAny_pure ?_)) | refine wpAny_bind (wpAny_typeNameOf_keyiter ti.typeIs (wpAny_pure ?_))
  refine wpAny_bind (wpAny_fieldsOf eo ed ?_)
  have own : Builtin.Dict_items.ownsTuple "dict_keyiterator" = false := by decide
  simp only [own, Bool.false_eq_true, if_false]
  show wpAny _ _ (if (Value.ref dd == Value.none) = true then _ else _) _ _ s
  rw [if_neg (by intro z; cases z)]
  refine wpAny_bind (wpAny_pure (wpAny_bind (wpAny_dictEntries eod edd ?_)))
  rw [if_neg (by simp)]
  refine wpAny_bind (wpAny_pure (wpAny_bind (wpAny_dictEpoch eod edd ?_)))
  rw [if_neg (by simp)]
  refine wpAny_pure ?_
  simp only [show ¬ ((i : Int) < 0) from Int.not_lt.mpr (Int.natCast_nonneg i), if_false, Int.toNat_natCast, Array.getElem?_eq_none ge]
  refine wpAny_bind ?_
  first | refine wpAny_bind (wpAny_typeNameOfWhole_keyiter ti.typeIs (wpAny_pure ?_)) | refine wpAny_bind (wpAny_typeNameOf_keyiter ti.typeIs (wpAny_pure ?_))
  show wpAny _ _ (setField (.ref it) 0 .none >>= _) _ _ _
  refine wpAny_bind (wpAny_setField eo ed (by simp) ?_)
  show wpAny _ _ (newExc (.type "StopIteration") [] >>= _) _ _ _
  refine wpAny_bind ?_
  simp only [newExc, newTuple]
  refine wpAny_bind (wpAny_newObj_type ?_ (by size_fits))
  refine wpAny_bind (m := firstArgMember _ _) (wpAny_of_eq (a := Value.none) (by first | rfl | (simp only [firstArgMember]; rfl)) ?_)
  refine wpAny_newObj_type ?_ (by size_fits)
  simp only [raiseNew]
  refine wpAny_bind (wpAny_handled ?_)
  rw [show A.in1.handled = none from hd]
  refine wpAny_bind (wpAny_pure (wpAny_throw ?_))
  refine wpAny_bind (wpAny_isInstance (T := "StopIteration") (b := true) ⟨_, Heap.get?_push_size _ rfl, rfl⟩ isSubtype_stop ?_)
  exact wpAny_pure (q _ (((Heap.SameBut.update ..).extBut.push _).push _))
theorem walks_raw (hd : A.handled = none) (ne : dd ≠ it) : Walks prog w A it [it, dd] [it] es.size (fun i v => ∃ e, es[i]? = some e ∧ v = e.key) (fun i h => h.IsKeyIter it dd i es.size ep ∧ Raw h dd es ep) where
  sub := fun b hb => by
    simp at hb
    simp [hb]
  frame := fun _ _ _ st k => ⟨st.1.at fun o e => k it (by simp) o e, st.2.at fun o e => k dd (by simp) o e⟩
  item := fun i s Q E hi st q => by
    refine next_raw st.1 st.2 (e := es[i]) (by simp [hi]) fun g ti sb => ?_
    exact q _ g s.toks ⟨es[i], by simp [hi], rfl⟩ ⟨ti, st.2.at fun o e => (sb.2 dd ne).trans e⟩ fun b o hb e => sb.extBut b o (fun z => hb (by simp [z])) e
  done := fun s Q E st q => end_raw hd st.1 st.2 (Nat.le_refl _) fun g eb => q g s.toks fun b o hb e => eb b o (fun z => hb (by simp [z])) e
  self := fun _ _ _ _ st q => wpAny_pyIter_keyiter st.1 q
theorem src_raw (lo : (dd == sysModules) = false) : KdlSrc prog w "dict" dd dd es.size (fun i v => ∃ e, es[i]? = some e ∧ v = e.key) (fun h => Raw h dd es ep) where
  type := fun _ r => r.typeIs
  there := fun _ r => ⟨r.lt, r.lt⟩
  keep := fun _ _ r k => r.at fun o e => k dd (.inl rfl) o e
  notList := by decide
  notTuple := by decide
  hint := fun _ _ _ _ r q => kdl_hint_dict r.typeIs q
  iter := fun _ _ hd r => ⟨_, _, (fun _ _ q => iter_raw lo r q), walks_raw hd (Nat.ne_of_lt r.lt), ⟨_, Heap.get?_push_size _ rfl, rfl, rfl⟩, r.at fun o e => Heap.get?_push_of_some _ e⟩
end
end DR
namespace L2
open PySem PySem.Spec PyProof.Rows
/-! ### a dict whose keys are tuples -/
theorem paired_at {α β : Type} {R : α → β → Prop} {xs : List α} {ys : List β} (h : Paired R xs ys) : ∀ (i : Nat) (x : α), xs[i]? = some x → ∃ y, ys[i]? = some y ∧ R x y := by
  induction h with
  | nil => intro i x e; simp at e
  | cons h1 _ ih =>
    intro i x e
    cases i with
    | zero =>
      simp at e
      subst e
      exact ⟨_, rfl, h1⟩
    | succ i => simpa using ih i x (by simpa using e)
theorem dt_raw {P : Program} {w : World} {H : Hp} {h : Heap} {a : Addr} {kvs : List (List Key × V)} (ok : HOk P w H h) (e : Rd H a (.dT kvs)) : kvs.length ≤ sizeLine ∧ (a == sysModules) = false ∧
    ∃ (o : Obj) (es : Array DictEntry) (ep : Nat), h.get? a = some o ∧ o.ExactDict ∧ o.data = .dict es ep ∧ es.size = kvs.length ∧ ∀ (i : Nat) (kv : List Key × V), kvs[i]? = some kv → ∃ (b : Addr) (en : DictEntry), es[i]? = some en ∧ en.key = .ref b ∧ H b = some (.tup (kv.1.map kV)) := by
  obtain ⟨z, y, xs, r, o, es, ep, h1, h2, h3, h4, h5⟩ := (show ObjOk P w H h a (.dT kvs) from rd_of ok e)
  have hl : xs.length = kvs.length := (Paired.length r).symm
  refine ⟨z, y, o, es, ep, h1, h2, h3, ?_, fun i kv hi => ?_⟩
  · have := congrArg List.length h4
    rw [List.length_map, hl] at this
    simpa using this
  · obtain ⟨q, hq, e1, e2, _⟩ := paired_at r i kv hi
    refine ⟨q.2.1, entryOfKey (tupleKind (mixKind P w)) q, ?_, rfl, e2⟩
    rw [← Array.getElem?_toList, h4, List.getElem?_map, hq]
    rfl
def ItkT (d : Addr) (o : Obj) (kvs : List (List Key × V)) : It :=
  ⟨fun i H => H d = some (.frz o (.dT kvs)) ∧ i < kvs.length, fun i H x H' => H' = H ∧ ∃ kv b, kvs[i]? = some kv ∧ x = .ref b ∧ H b = some (.tup (kv.1.map kV)), fun i H => H d = some (.frz o (.dT kvs)) ∧ kvs.length ≤ i⟩
theorem frzT_at {X : Cx} {pins : List (Addr × Obj)} {σ : St} {H : Hp} {s : Shared} {d : Addr} {o : Obj} {kvs : List (List Key × V)} {es : Array DictEntry} {ep : Nat} (I : Inv X pins σ H s) (e : H d = some (.frz o (.dT kvs))) (hod : o.data = .dict es ep) :
    DR.Raw s.heap d es ep ∧ es.size = kvs.length ∧ ∀ (i : Nat) (kv : List Key × V), kvs[i]? = some kv → ∃ (b : Addr) (en : DictEntry), es[i]? = some en ∧ en.key = .ref b ∧ H b = some (.tup (kv.1.map kV)) := by
  have ho : s.heap.get? d = some o := (show ObjOk X.prog X.w H s.heap d (.frz o (.dT kvs)) from I.hok d _ e).1
  obtain ⟨_, _, o2, es2, ep2, h2, hx, hd, hsz, hat⟩ := dt_raw I.hok (Or.inr ⟨o, e⟩ : Rd H d (.dT kvs))
  rw [ho] at h2
  cases h2
  rw [hod] at hd
  cases hd
  exact ⟨⟨o, ho, hx, hod⟩, hsz, hat⟩
theorem turn_dictT {P : Program} {w : World} {K : PySem.W.Frag} {tg : Expr} (d it : Addr) (o : Obj) (kvs : List (List Key × V)) (es : Array DictEntry) (ep : Nat) (hod : o.data = .dict es ep) :
    Turn P w K tg (ItkT d o kvs) [it] it (fun i h => h.IsKeyIter it d i es.size ep) where
  mem := by simp
  obj := fun i h st b hb => by
    have e : b = it := by simpa using hb
    subst e
    obtain ⟨o', ho, hc, hd⟩ := st
    exact ⟨o', ho, fun v z => by rw [hd] at z; cases z⟩
  keep := fun i h h' st k => st.at fun o' e => k it (by simp) o' e
  item := by
    intro X hP hw hK hc i pins s σ H E I hf st hg
    subst hP hw hK
    obtain ⟨e, hi⟩ := hg
    obtain ⟨f0, f1, f2, f3, f4, f5⟩ := hf it (by simp)
    obtain ⟨rw_, hsz, hat⟩ := frzT_at I e hod
    obtain ⟨b, en, hen, hkey, hb⟩ := hat i kvs[i] (List.getElem?_eq_getElem hi)
    refine DR.next_raw st rw_ hen fun h' hit sb => ?_
    have I1 : Inv X pins σ H { s with heap := h' } := I.turned (t' := s.toks) (fun b o' hb e' => (sb.2 b hb).trans e') f0 f1 f3 f4 f5
    obtain ⟨oi, hoi, hci, hdi⟩ := id hit
    rw [hkey]
    exact ⟨_, rfl, go_of (s := { s with heap := h' }) (n := "dict_keyiterator") hoi hci hdi (by decide) ⟨.ref b, H, I1, rfl, ⟨rfl, kvs[i], b, List.getElem?_eq_getElem hi, rfl, hb⟩, hit, fun b hb => (hf b hb).1⟩⟩
  done := by
    intro X hP hw hK hc i pins s σ H E I hf st hg
    subst hP hw hK
    obtain ⟨e, hi⟩ := hg
    obtain ⟨f0, f1, f2, f3, f4, f5⟩ := hf it (by simp)
    obtain ⟨rw_, hsz, hat⟩ := frzT_at I e hod
    exact DR.end_raw (I.ok.hd hc) st rw_ (by omega) fun h' eb => ⟨rfl, I.turned (t' := s.toks) (fun b o' hb e' => eb b o' hb e') f0 f1 f3 f4 f5⟩
  self := fun _ _ _ _ _ st h => wpAny_pyIter_keyiter st h
def iDictT (tl : TE) : TI := fun σ H R => tl σ H fun x H1 => ∃ (d : Addr) (kvs : List (List Key × V)), x = .ref d ∧ Rd H1 d (.dT kvs) ∧ ∀ (o : Obj) (H2 : Hp), H2 d = some (.frz o (.dT kvs)) → (∀ c, c ≠ d → H2 c = H1 c) → R (ItkT d o kvs) H2
theorem pi_dictT {X : Cx} {tg l : Expr} {tl : TE} (hl : PE X l tl) : PI X tg l (iDictT tl) := by
  intro pins s σ H R I h
  refine thn (hl pins s σ H _ I h) fun v s1 ⟨x, H1, I1, r1, q1⟩ => ?_
  obtain ⟨d, kvs, e, hd, q⟩ := q1
  subst e
  cases r1
  obtain ⟨hz, lo, o, es, ep, ho, hx, hod, hsz, hat⟩ := dt_raw I1.hok hd
  obtain ⟨H2, I2, e2, k2⟩ : ∃ H2 : Hp, Inv X pins σ H2 { s1 with heap := s1.heap, toks := s1.toks } ∧ H2 d = some (.frz o (.dT kvs)) ∧ ∀ c, c ≠ d → H2 c = H1 c := by
    rcases hd with hd | ⟨o', hd⟩
    · refine ⟨upd H1 d (.frz o (.dT kvs)), ?_, upd_same, fun c hc => upd_ne hc⟩
      refine I1.write (x := d) (e := d) (h' := s1.heap) (t' := s1.toks) (by rw [hd]; exact trivial) (.inl rfl) (fun _ _ _ q => q) ⟨o, ho⟩ ⟨ho, ?_⟩
      obtain ⟨z, y, xs, r, rest⟩ := (show ObjOk X.prog X.w H1 s1.heap d (.dT kvs) from I1.hok d _ hd)
      refine ⟨z, y, xs, Paired.mapP r fun p q ⟨a1, a2, a3⟩ => ⟨a1, ?_, a3⟩, rest⟩
      rw [upd_ne (ne_of a2 hd (by intro z; cases z))]
      exact a2
    · have ho' : s1.heap.get? d = some o' := (show ObjOk X.prog X.w H1 s1.heap d (.frz o' (.dT kvs)) from I1.hok d _ hd).1
      rw [ho] at ho'
      cases ho'
      exact ⟨H1, I1, hd, fun c _ => rfl⟩
  refine DR.iter_raw lo ⟨o, ho, hx, hod⟩ ?_
  have I3 : Inv X pins σ H2 { s1 with heap := s1.heap.push { cls := .type "dict_keyiterator", data := .fields #[.ref d, .int 0 0, .int es.size 0, .int ep 0] } } := I2.kept (t' := s1.toks) fun b o' e' => Heap.get?_push_of_some _ e'
  refine ⟨s1.heap.objs.size, [s1.heap.objs.size], _, _, _, rfl, I3, turn_dictT d _ o kvs es ep hod, ⟨_, Heap.get?_push_size _ rfl, rfl, rfl⟩, fun b hb => ?_, q o H2 e2 k2⟩
  have e : b = s1.heap.objs.size := by simpa using hb
  subst e
  exact I2.fpOk (Nat.le_refl _) (I2.hok.fresh (Nat.le_refl _))
/-- list(d) -/
theorem call_list_dictT {X : Cx} (hc : X.calm = true) : CallR X (.type "list") (fun xs H Q => ∃ (p : Addr) (kvs : List (List Key × V)), xs = [.ref p] ∧ Rd H p (.dT kvs) ∧ ∀ bs : List Addr, bs.length = kvs.length → (∀ (i : Nat) (kv : List Key × V), kvs[i]? = some kv → ∃ b, bs[i]? = some b ∧ H b = some (.tup (kv.1.map kV))) → ∀ l, H l = none → Q (.ref l) (upd H l (.lst (bs.map V.ref)))) := by
  intro pins s σ H xs us Q I r h
  obtain ⟨p, kvs, rfl, hp, q⟩ := h
  obtain ⟨u, rfl, rx⟩ := vals1 r
  cases rx
  obtain ⟨hz, lo, o, es, ep, ho, hx, hod, hsz, hat⟩ := dt_raw I.hok hp
  have kr : ∀ (i : Nat) (en : DictEntry), es[i]? = some en → ∃ b, en.key = .ref b ∧ ∃ kv, kvs[i]? = some kv ∧ H b = some (.tup (kv.1.map kV)) := fun i en hen => by
    have hi : i < kvs.length := by
      obtain ⟨lt, _⟩ := Array.getElem?_eq_some_iff.mp hen
      omega
    obtain ⟨b, en', h1, h2, h3⟩ := hat i kvs[i] (List.getElem?_eq_getElem hi)
    rw [hen] at h1
    cases h1
    exact ⟨b, h2, _, List.getElem?_eq_getElem hi, h3⟩
  refine PySem.W.kdl_call (DR.src_raw (es := es) (ep := ep) lo) (I.ok.hd hc) ⟨o, ho, hx, hod⟩ (by rw [hsz]; exact hz) fun h' tk acc c kp e it => ?_
  have hal : acc.toList.length = kvs.length := by rw [Array.length_toList, it.1, hsz]
  obtain ⟨bs, hbl, hbs⟩ : ∃ bs : List Addr, bs.length = kvs.length ∧ ∀ (i : Nat), i < kvs.length → ∃ b kv, bs[i]? = some b ∧ acc.toList[i]? = some (.ref b) ∧ kvs[i]? = some kv ∧ H b = some (.tup (kv.1.map kV)) := by
    refine ⟨acc.toList.map (fun v => match v with | .ref b => b | _ => 0), by rw [List.length_map, hal], fun i hi => ?_⟩
    have hai : acc.toList[i]? = some acc.toList[i] := List.getElem?_eq_getElem (by omega)
    obtain ⟨en, hen, hv⟩ := it.2 i acc.toList[i] (by rw [← Array.getElem?_toList]; exact hai)
    obtain ⟨b, hk, kv, hkv, hb⟩ := kr i en hen
    rw [hk] at hv
    refine ⟨b, kv, ?_, ?_, hkv, hb⟩
    · rw [List.getElem?_map, hai, hv]
      rfl
    · rw [hai, hv]
  have va : Vals (bs.map V.ref) acc.toList := by
    refine vals_of (by rw [List.length_map, hbl, hal]) fun i x u hx hu => ?_
    have hi : i < kvs.length := by
      obtain ⟨lt, _⟩ := List.getElem?_eq_some_iff.mp hu
      omega
    obtain ⟨b, kv, h1, h2, _⟩ := hbs i hi
    rw [List.getElem?_map, h1] at hx
    cases hx
    rw [h2] at hu
    cases hu
    rfl
  have fin := q bs hbl (fun i kv hkv => by
    have hi : i < kvs.length := (List.getElem?_eq_some_iff.mp hkv).1
    obtain ⟨b, kv', h1, _, h3, h4⟩ := hbs i hi
    rw [hkv] at h3
    cases h3
    exact ⟨b, h1, h4⟩) _ I.fresh
  exact ⟨.ref s.heap.objs.size, _, I.laid (t' := tk) kp (Nat.le_refl _) (show ObjOk X.prog X.w _ h' _ (.lst _) from ⟨by rw [List.length_map, hbl]; exact hz, acc.toList, c, va, by rw [Array.toArray_toList]; exact e⟩), rfl, fin⟩
/-! ### a pair of texts among pairs -/
def rNotInP : R2 := fun x y H Q => ∃ (b l : Addr) (us : List V) (ps : List (Str × Str)) (p : Str × Str), x = .ref b ∧ y = .ref l ∧ H l = some (.lst us) ∧ H b = some (.tup [.str p.1, .str p.2]) ∧ us.length = ps.length ∧
  (∀ (i : Nat) (u : V) (q : Str × Str), us[i]? = some u → ps[i]? = some q → ∃ a : Addr, u = .ref a ∧ H a = some (.tup [.str q.1, .str q.2])) ∧ Q (.bl (!decide (p ∈ ps))) H
theorem pair_eqAt {X : Cx} {pins : List (Addr × Obj)} {σ : St} {H : Hp} {s : Shared} {A : Around} {a b : Addr} {p q : Str × Str} (I : Inv X pins σ H s) (hu : A.units < cLine) (ha : H a = some (.tup [.str q.1, .str q.2])) (hb : H b = some (.tup [.str p.1, .str p.2])) :
    SeqAt.EqAt A s (.ref a) (.ref b) (decide (q = p)) := by
  by_cases hab : a = b
  · subst hab
    rw [ha] at hb
    have e : q = p := by
      injection hb with hb
      injection hb with hb
      injection hb with h1 h2
      injection h1 with h1
      injection h2 with h2
      injection h2 with h2
      exact Prod.ext h1 h2
    rw [decide_eq_true e]
    exact SeqAt.EqAt.same _
  · obtain ⟨its, r1, p1, _⟩ := I.tuple (SqT.of (K := X.K) ha)
    obtain ⟨its2, r2, p2, _⟩ := I.tuple (SqT.of (K := X.K) hb)
    obtain ⟨u1, u2, rfl, ⟨t1, rfl⟩, ⟨t2, rfl⟩⟩ := vals2 r1
    obtain ⟨v1, v2, rfl, ⟨t3, rfl⟩, ⟨t4, rfl⟩⟩ := vals2 r2
    have key := SeqAt.EqAt.of_refs hab (SeqAt.RcAt.tuples (A := A) (s := s) (e := fun j => if j = 0 then q.1 == p.1 else q.2 == p.2) p1 p2 hu fun j h1 h2 => ?_)
    · have e : ((List.range (min ([.str q.1 t1, .str q.2 t2] : List Value).toArray.size ([.str p.1 t3, .str p.2 t4] : List Value).toArray.size)).all (fun j => if j = 0 then q.1 == p.1 else q.2 == p.2) && ([.str q.1 t1, .str q.2 t2] : List Value).toArray.size == ([.str p.1 t3, .str p.2 t4] : List Value).toArray.size) = decide (q = p) := by
        show ((List.range 2).all _ && (2 : Nat) == 2) = _
        rw [Bool.eq_iff_iff]
        simp [List.range_succ, Prod.ext_iff]
      rw [← e]
      exact key
    · match j, h1, h2 with
      | 0, _, _ => exact SeqAt.EqAt.str_str q.1 t1 p.1 t3
      | 1, _, _ => exact SeqAt.EqAt.str_str q.2 t2 p.2 t4
      | j + 2, h1, _ =>
        have h1' : j + 2 < 2 := h1
        omega
open Classical in
theorem op_notInP {X : Cx} (hu : X.A.units + 1 < cLine) : OpR X (compareOp .NotIn) rNotInP := by
  intro pins s σ H x y v u Q I rx ry h
  obtain ⟨b, l, us, ps, p, rfl, rfl, hl, hb, hlen, hat, q⟩ := h
  cases rx
  cases ry
  obtain ⟨its, r, pl, hz⟩ := I.list (SqL.of (K := X.K) hl)
  have hil := r.length
  have hel : ∀ w ∈ its, ∃ (a : Addr) (c : Str × Str), w = .ref a ∧ H a = some (.tup [.str c.1, .str c.2]) ∧ c ∈ ps := fun w hw => by
    obtain ⟨i, hi, rfl⟩ := List.getElem_of_mem hw
    have hui : us[i]? = some us[i] := List.getElem?_eq_getElem (by omega)
    have hpi : ps[i]? = some ps[i] := List.getElem?_eq_getElem (by omega)
    obtain ⟨a, e1, e2⟩ := hat i _ _ hui hpi
    obtain ⟨w', hw', rw'⟩ := r.get hui
    rw [e1] at rw'
    cases rw'
    rw [List.getElem?_eq_getElem hi] at hw'
    exact ⟨a, ps[i], Option.some.inj hw', e2, List.getElem_mem _⟩
  have tinj : ∀ {c d : Str × Str} {a : Addr}, H a = some (.tup [.str c.1, .str c.2]) → H a = some (.tup [.str d.1, .str d.2]) → c = d := fun {c d a} h1 h2 => by
    rw [h1] at h2
    injection h2 with h2
    injection h2 with h2
    injection h2 with a1 a2
    injection a1 with a1
    injection a2 with a2
    injection a2 with a2
    exact Prod.ext a1 a2
  refine SeqAt.notIn_listAt (fun w => decide (∃ a : Addr, w = .ref a ∧ H a = some (.tup [.str p.1, .str p.2]))) pl.isList (fun w hw => ?_) ⟨.bl _, H, I, rfl, ?_⟩
  · obtain ⟨a, c, rfl, ha, _⟩ := hel w (by simpa using hw)
    have e : decide (∃ a' : Addr, Value.ref a = .ref a' ∧ H a' = some (.tup [.str p.1, .str p.2])) = decide (c = p) := by
      rw [decide_eq_decide]
      constructor
      · rintro ⟨a', e1, e2⟩
        cases e1
        exact tinj ha e2
      · rintro rfl
        exact ⟨a, rfl, ha⟩
    rw [e]
    exact pair_eqAt I (by first | exact hu | (simp only [Around.in1]; omega) | omega) ha hb
  · have e : its.toArray.any (fun w => decide (∃ a : Addr, w = .ref a ∧ H a = some (.tup [.str p.1, .str p.2]))) = decide (p ∈ ps) := by
      rw [List.any_toArray, Bool.eq_iff_iff, List.any_eq_true, decide_eq_true_eq]
      constructor
      · rintro ⟨w, hw, hd⟩
        obtain ⟨a, rfl, ha⟩ := of_decide_eq_true hd
        obtain ⟨a', c, e1, e2, e3⟩ := hel _ hw
        cases e1
        rw [tinj ha e2]
        exact e3
      · intro hp
        obtain ⟨i, hi, ei⟩ := List.getElem_of_mem hp
        have hui : us[i]? = some us[i] := List.getElem?_eq_getElem (by omega)
        obtain ⟨a, e1, e2⟩ := hat i _ _ hui (List.getElem?_eq_getElem hi)
        obtain ⟨w', hw', rw'⟩ := r.get hui
        rw [e1] at rw'
        cases rw'
        refine ⟨.ref a, List.mem_of_getElem? hw', decide_eq_true ⟨a, rfl, ?_⟩⟩
        rw [← ei]
        exact e2
    rw [e]
    exact q
/-! ### a, b, c = x, y, z -/
def tPar3 (i j k : Nat) (ta : TA) : TS := fun D σ H => ta σ H fun vs H1 => ∃ u v w, vs = [u, v, w] ∧ D.nx (((σ.set i (some u)).set j (some v)).set k (some w)) H1
theorem ps_par3 {X : Cx} {pos : Pos} {i j k : Nat} {x y z : Str} {a b c : Expr} {ta : TA} {px py pz pt : Pos} {kt k2 pt2} (hc : X.calm = true) (hN : X.N.Nodup) (hi : X.N[i]? = some x) (hj : X.N[j]? = some y) (hk : X.N[k]? = some z) (hij : i ≠ j) (hik : i ≠ k) (hjk : j ≠ k)
    (hx : X.env.scope.names.lookup x = some .local) (hy : X.env.scope.names.lookup y = some .local) (hz : X.env.scope.names.lookup z = some .local) (ha : PA X [a, b, c] ta)
    (hw : swappedStores [.Tuple [.Name x px, .Name y py, .Name z pz] kt pt] (.Tuple [a, b, c] k2 pt2) X.env = pure (some [x, y, z]))
    (hs : swapsWithSole [.Tuple [.Name x px, .Name y py, .Name z pz] kt pt] (.Tuple [a, b, c] k2 pt2) pos.line X.env = pure false := by rfl) :
    PS X (.Assign [.Tuple [.Name x px, .Name y py, .Name z pz] kt pt] (.Tuple [a, b, c] k2 pt2) pos) (tPar3 i j k ta) := by
  intro pins s σ H D I h
  rw [exec_Assign_arm]
  refine wpAny_bind (wpAny_standAt ?_)
  rw [hs]
  refine wpAny_bind (wpAny_pure ?_)
  rw [if_neg (by decide)]
  refine wpAny_bind (Tuple_ (thn (ha _ pins s σ H _ I h) fun us s1 ⟨vs, H1, I1, r1, q1⟩ => ?_))
  obtain ⟨u, v, w, e1, q1⟩ := q1
  subst e1
  obtain ⟨u1, u2, u3, rfl, ru, rv, rw'⟩ : ∃ u1 u2 u3, us = [u1, u2, u3] ∧ RelV u u1 ∧ RelV v u2 ∧ RelV w u3 := by
    cases r1 with
    | cons p q =>
      obtain ⟨u2, u3, rfl, p2, p3⟩ := vals2 q
      exact ⟨_, _, _, rfl, p, p2, p3⟩
  refine wpAny_newObj_type ?_ (by show 3 ≤ sizeLine; decide)
  have I2 : Inv X pins σ H1 { s1 with heap := s1.heap.push { cls := .type "tuple", data := .seq [u1, u2, u3].toArray } } := I1.kept (t' := s1.toks) fun b o e => Heap.get?_push_of_some _ e
  rw [hw]
  refine wpAny_bind (wpAny_pure ?_)
  show wpAny (model X.prog X.w) X.A (do rule "assign.swapped-stores"; let items ← unpackItems (.ref s1.heap.objs.size) 3 none; assignInOrder [fun v => bindName X.env z v, fun v => bindName X.env y v, fun v => bindName X.env x v] items.reverse; pure Flow.next) _ _ _
  refine wpAny_bind (wpAny_rule (wpAny_bind (unpackItems_tuple (items := #[u1, u2, u3]) (I.ok.hd hc) (IsTup.new s1.heap _) fun h' hx' => ?_)))
  have I3 := I2.kept (h' := h') (t' := s1.toks) fun b o e => hx' b o (Nat.ne_of_lt (Heap.lt_size e)) e
  show wpAny _ _ (assignInOrder [fun v => bindName X.env z v, fun v => bindName X.env y v, fun v => bindName X.env x v] [u3, u2, u1] >>= fun _ => pure Flow.next) _ _ _
  refine wpAny_bind (assignInOrder_cons (wpAny_bindName (store_ok I3 hN hk (.inl hz) rw' (fun s2 I4 => ?_) (.inr hz))))
  refine assignInOrder_cons (wpAny_bindName (store_ok I4 hN hj (.inl hy) rv (fun s3 I5 => ?_) (.inr hy)))
  refine assignInOrder_cons (wpAny_bindName (store_ok I5 hN hi (.inl hx) ru (fun s4 I6 => assignInOrder_nil (wpAny_pure ?_)) (.inr hx)))
  have e : ((σ.set k (some w)).set j (some v)).set i (some u) = ((σ.set i (some u)).set j (some v)).set k (some w) := by
    rw [List.set_comm _ _ (Ne.symm hjk), List.set_comm _ _ (Ne.symm hik), List.set_comm _ _ (Ne.symm hij)]
  rw [e] at I6
  exact ⟨_, H1, I6, q1⟩
end L2
set_option Elab.async false
set_option linter.all false
set_option maxRecDepth 100000
set_option maxHeartbeats 4000000
namespace SX
open PySem PySem.Spec PyProof.Rows
theorem sub_tuple_set : isSubtype (.type "tuple") (.type "set") = pure false := by rw [isSubtype_type]; kernel_rfl
theorem sub_tuple_frozenset : isSubtype (.type "tuple") (.type "frozenset") = pure false := by rw [isSubtype_type]; kernel_rfl
def have_ {K : Type} [DecidableEq K] (val : Nat → K) (i : Nat) (k : K) : Bool := ((List.range i).map val).any fun y => decide (y = k)
theorem have_succ {K : Type} [DecidableEq K] (val : Nat → K) (i : Nat) (k : K) : have_ val (i + 1) k = (have_ val i k || decide (k = val i)) := by
  unfold have_
  rw [List.range_succ, List.map_append, List.any_append]
  congr 1
  simp [eq_comm]
theorem have_new {K : Type} [DecidableEq K] {val : Nat → K} {i n : Nat} (hi : i < n) (inj : ∀ a b, a < n → b < n → val a = val b → a = b) : have_ val i (val i) = false := by
  unfold have_
  rw [List.any_eq_false]
  intro y hy
  obtain ⟨j, hj, rfl⟩ := List.mem_map.mp hy
  have hj' := List.mem_range.mp hj
  simp only [decide_eq_true_eq]
  intro e
  have := inj j i (by omega) hi e
  omega
section
variable {prog : Program} {w : World} {A : Around} {R : Result → Shared → Prop} {I : Addr} {fp wr : List Addr} {G : Array GenState → Array GenState → Prop} {n : Nat} {P : Nat → Value → Prop} {St : Nat → Shared → Prop} {K : Type} [DecidableEq K] {knd : KeyKind prog w K}
/-- a set filled from things that are all unlike -/
theorem fill (W : WalksS prog w A.in1 I fp wr G n P St) (S : Addr) (nf : S ∉ fp) (val : Nat → K) (hv : ∀ i v, P i v → knd.is (val i) v = true ∧ v.scannable = true) (room : n + 1 < scanBound) (inj : ∀ a b, a < n → b < n → val a = val b → a = b) :
    ∀ (k i : Nat) (s : Shared), n - i = k → i ≤ n → St i s → s.heap.SetOf knd S (have_ val i) i → (∀ s', Moved (S :: wr) G s s' → s'.heap.SetOf knd S (have_ val n) n → R (.ok (.ret .none)) s') →
      codeAny (model prog w) A (.builtin "set.update.loop" ⟨[.ref S, .ref I], []⟩) R s := by
  have nw : S ∉ wr := fun z => nf (W.sub _ z)
  have sub : ∀ b ∈ wr, b ∈ S :: wr := fun b z => List.mem_cons_of_mem _ z
  intro k
  induction k with
  | zero =>
    intro i s ek le st hS q
    have e : i = n := by omega
    subst e
    refine codeAny_builtin F.entry_set_update_loop ?_
    rw [Around.under_plainId F.plain_set_update_loop _]
    show wpAny _ A.in1 (pyNext (.ref I) >>= _) _ _ _
    refine wpAny_bind (W.done s _ _ st fun s' mv => ?_)
    show wpAny _ A.in1 (ret Value.none) _ _ _
    refine wpAny_pure (q s' (mv.mono sub) ?_)
    obtain ⟨o, es, ep, t, eo, rest⟩ := hS
    exact ⟨o, es, ep, t, mv.heap S _ nw eo, rest⟩
  | succ k ih =>
    intro i s ek le st hS q
    have lt : i < n := by omega
    refine codeAny_builtin F.entry_set_update_loop ?_
    rw [Around.under_plainId F.plain_set_update_loop _]
    show wpAny _ A.in1 (pyNext (.ref I) >>= _) _ _ _
    refine wpAny_bind (W.item i s _ _ lt st fun v s' hP st' mv => ?_)
    obtain ⟨hk, hsc⟩ := hv i v hP
    have hS' : s'.heap.SetOf knd S (have_ val i) i := by
      obtain ⟨o, es, ep, tb, eo, rest⟩ := hS
      exact ⟨o, es, ep, tb, mv.heap S _ nw eo, rest⟩
    show wpAny _ A.in1 (holding [v] (setAdd S v) >>= _) _ _ _
    refine wpAny_bind (wpAny_holding ?_)
    unfold setAdd
    refine wpAny_holding (wpAny_bind (knd.pyHash hk ?_))
    refine wpAny_setAddHashed_of (knd := knd) (s := { s' with toks := s'.toks + 1 }) hk hsc hS' (by omega) fun g sb hS2 => ?_
    rw [have_new lt inj] at hS2
    have hSi : g.SetOf knd S (have_ val (i + 1)) (i + 1) := by
      have e : (fun k' => have_ val i k' || decide (k' = val i)) = have_ val (i + 1) := funext fun k' => (have_succ val i k').symm
      rw [← e]
      exact hS2
    refine wpAny_pure ⟨plainId_quiet F.plain_set_update_loop _, ih (i + 1) _ (by omega) lt (W.frame _ s' _ _ st' (Nat.le_succ _) fun b hb o e => ?_) hSi fun s'' mv2 hS'' => ?_⟩
    · rw [sb.2 b fun z => nf (z ▸ hb)]
      exact e
    · refine q s'' (Moved.trans W.gtrans ((mv.mono sub).then_heap (Nat.le_succ _) fun b o hb e => ?_) mv2) hS''
      rw [sb.2 b fun z => hb (by rw [z]; exact List.mem_cons_self)]
      exact e
end
set_option maxHeartbeats 6400000 in
theorem call_set_tuple {prog : Program} {w : World} {A : Around} {E : Value → Shared → Prop} {s : Shared} {K : Type} [DecidableEq K] {knd : KeyKind prog w K} {l : Addr} {items : Array Value} {val : Nat → K} {Q : Value → Shared → Prop}
    (hd : A.handled = none) (tl : s.heap.IsTuple l items) (hv : ∀ i v, items[i]? = some v → knd.is (val i) v = true ∧ v.scannable = true) (room : items.size + 1 < scanBound) (inj : ∀ a b, a < items.size → b < items.size → val a = val b → a = b)
    (q : ∀ (g : Heap) (tk : Nat), g.SetOf knd s.heap.objs.size (have_ val items.size) items.size → (∀ b o, b < s.heap.objs.size → s.heap.get? b = some o → g.get? b = some o) → Q (.ref s.heap.objs.size) { s with heap := g, toks := tk }) :
    wpAny (model prog w) A (call (.type "set") [.ref l]) Q E s := by
  obtain ⟨c, tl', hmro⟩ := PySem.F.called_set.mro
  have hmade := PySem.F.called_set.made
  have hsub := PySem.F.called_set.sub
  refine wpAny_call (codeAny_of_tree ?_)
  show wpAny _ _ (callAny (.type "set") _) _ _ _
  refine wpAny_pure ⟨Code.quiet_builtin _ (by decide +kernel), codeAny_builtin PySem.F.entry_type_call ?_⟩
  rw [Around.under_plain (weight_type_call_type "set" [.ref l] []) rfl]
  have h1 := PySem.F.called_set.notType
  have h2 := PySem.F.called_set.canCreate
  have hct := PySem.F.typeCall_set_1 (.ref l)
  repeat (any_goals (first | assumption | wp_step))
  refine codeAny_mono (code_set_new_1 (.ref l) (E := E) (Q₁ := fun ob s₁ => ∃ led : Bool, ob = .ref s.heap.objs.size ∧ s₁ = { s with heap := s.heap.push { cls := .type "set", dict := none, data := .set #[] 0 (.fresh 0 0 led) } }) fun led => ⟨led, rfl, rfl⟩) fun r s₁ hr => ?_
  cases r with
  | error e => exact hr
  | ok fl =>
    cases fl with
    | ret ob =>
      obtain ⟨led, rfl, rfl⟩ := hr
      have eS : (s.heap.push { cls := .type "set", dict := none, data := .set #[] 0 (.fresh 0 0 led) }).get? s.heap.objs.size = some { cls := .type "set", dict := none, data := .set #[] 0 (.fresh 0 0 led) } := Heap.get?_push_size _ rfl
      have tS : Shared.TypeIs { s with heap := s.heap.push { cls := .type "set", dict := none, data := .set #[] 0 (.fresh 0 0 led) } } (.ref s.heap.objs.size) "set" := ⟨_, eS, rfl⟩
      have hli := PySem.F.called_set.init.lookup
      have hbi := PySem.F.called_set.init.bind (.ref s.heap.objs.size)
      repeat (any_goals (first | assumption | wp_step))
      refine codeAny_mono (codeAny_call_builtin (R := wants (fun r s₂ => r = .none ∧ ∃ g tk, s₂ = { s with heap := g, toks := tk } ∧ g.SetOf knd s.heap.objs.size (have_ val items.size) items.size ∧
          (∀ b o, b < s.heap.objs.size → s.heap.get? b = some o → g.get? b = some o)) E) PySem.F.called_set.init.plain PySem.F.entry_set_init (check_set_init_1 tS ?_)) fun r₂ s₂ hr₂ => ?_
      · obtain ⟨⟨oc, od, odt, osl⟩, eol, ecl, nl, edl⟩ := tl
        simp only at ecl edl
        subst ecl
        subst edl
        have eol' : (s.heap.push { cls := .type "set", dict := none, data := .set #[] 0 (.fresh 0 0 led) }).get? l = some { cls := .type "tuple", dict := od, data := .seq items nl, slots := osl } := Heap.get?_push_of_some _ eol
        have hsls := sub_tuple_set
        have hslf := sub_tuple_frozenset
        have hne : (Value.type "tuple" == Value.type "dict") = false := by decide
        have tl1 : (s.heap.push { cls := .type "set", dict := none, data := .set #[] 0 (.fresh 0 0 led) }).IsTuple l items := ⟨_, eol', rfl, nl, rfl⟩
        unfold Builtin.«set.__init__» noKeywords Builtin.Frozenset.updateFrom
        generalize hPI : pyIter = PI
        wp_walk
        subst hPI
        refine wpAny_pyIter_tuple tl1 (wpAny_bind (wpAny_runValue ?_))
        have lS : l < s.heap.objs.size := Heap.lt_size eol
        have hd3 : A.in1.in1.in1.handled = none := by simp [hd]
        have neI : l ≠ (s.heap.push { cls := .type "set", dict := none, data := .set #[] 0 (.fresh 0 0 led) }).objs.size := by
          rw [Heap.size_push]
          exact Nat.ne_of_lt (Nat.lt_succ_of_lt lS)
        have nf : s.heap.objs.size ∉ [(s.heap.push { cls := .type "set", dict := none, data := .set #[] 0 (.fresh 0 0 led) }).objs.size, l] := by
          rw [Heap.size_push]
          simp only [List.mem_cons, List.mem_singleton, List.not_mem_nil, or_false, not_or]
          exact ⟨Nat.ne_of_lt (Nat.lt_succ_self _), Nat.ne_of_gt lS⟩
        refine fill ((Walks.tuple hd3 _ l neI items).toS) s.heap.objs.size nf val hv room inj (items.size - 0) 0 _ (by omega) (Nat.zero_le _) ⟨⟨_, Heap.get?_push_size _ rfl, rfl, rfl⟩, tl1.push _⟩ ?hS0 ?hR
        case hS0 =>
          have eg : ((s.heap.push { cls := .type "set", dict := none, data := .set #[] 0 (.fresh 0 0 led) }).push { cls := .type "tuple_iterator", data := .fields #[.ref l, .int 0 0] }).get? s.heap.objs.size = some { cls := .type "set", dict := none, data := .set #[] 0 (.fresh 0 0 led) } := Heap.get?_push_of_some _ eS
          exact (setObjOf_fresh (knd := knd) led).setOf eg (by unfold scanBound; omega)
        case hR =>
          intro s' mv hS'
          obtain ⟨g, gg, d', tk', os'⟩ := s'
          have e1 : gg = s.gens := mv.gens
          have e2 : d' = s.drawn := mv.drawn
          have e3 : os' = s.os := mv.os
          subst e1
          subst e2
          subst e3
          show wpAny _ _ _ _ _ _
          refine wpAny_pure ?_
          show wpAny _ _ (ret Value.none) _ _ _
          refine wpAny_pure ⟨rfl, g, tk', rfl, hS', fun b o hb e => ?_⟩
          have hb2 : b ≠ (s.heap.push { cls := .type "set", dict := none, data := .set #[] 0 (.fresh 0 0 led) }).objs.size := by
            rw [Heap.size_push]
            exact Nat.ne_of_lt (Nat.lt_succ_of_lt hb)
          exact mv.heap b o (by simp only [List.mem_cons, List.mem_singleton, List.not_mem_nil, or_false, not_or]; exact ⟨Nat.ne_of_lt hb, hb2⟩) (Heap.get?_push_of_some _ (Heap.get?_push_of_some _ e))
      · cases r₂ with
        | error e => exact hr₂
        | ok fl₂ =>
          cases fl₂ with
          | ret r =>
            obtain ⟨rfl, g, tk, rfl, hS', hk'⟩ := hr₂
            repeat (any_goals (first | assumption | wp_step))
            exact q _ _ hS' hk'
          | _ => exact hr₂.elim
    | _ => exact hr.elim
set_option maxHeartbeats 6400000 in
theorem call_set_list {prog : Program} {w : World} {A : Around} {E : Value → Shared → Prop} {s : Shared} {K : Type} [DecidableEq K] {knd : KeyKind prog w K} {l : Addr} {items : Array Value} {val : Nat → K} {Q : Value → Shared → Prop}
    (hd : A.handled = none) (tl : s.heap.IsList l items) (hv : ∀ i v, items[i]? = some v → knd.is (val i) v = true ∧ v.scannable = true) (room : items.size + 1 < scanBound) (inj : ∀ a b, a < items.size → b < items.size → val a = val b → a = b)
    (q : ∀ (g : Heap) (tk : Nat), g.SetOf knd s.heap.objs.size (have_ val items.size) items.size → (∀ b o, b < s.heap.objs.size → s.heap.get? b = some o → g.get? b = some o) → Q (.ref s.heap.objs.size) { s with heap := g, toks := tk }) :
    wpAny (model prog w) A (call (.type "set") [.ref l]) Q E s := by
  obtain ⟨c, tl', hmro⟩ := PySem.F.called_set.mro
  have hmade := PySem.F.called_set.made
  have hsub := PySem.F.called_set.sub
  refine wpAny_call (codeAny_of_tree ?_)
  show wpAny _ _ (callAny (.type "set") _) _ _ _
  refine wpAny_pure ⟨Code.quiet_builtin _ (by decide +kernel), codeAny_builtin PySem.F.entry_type_call ?_⟩
  rw [Around.under_plain (weight_type_call_type "set" [.ref l] []) rfl]
  have h1 := PySem.F.called_set.notType
  have h2 := PySem.F.called_set.canCreate
  have hct := PySem.F.typeCall_set_1 (.ref l)
  repeat (any_goals (first | assumption | wp_step))
  refine codeAny_mono (code_set_new_1 (.ref l) (E := E) (Q₁ := fun ob s₁ => ∃ led : Bool, ob = .ref s.heap.objs.size ∧ s₁ = { s with heap := s.heap.push { cls := .type "set", dict := none, data := .set #[] 0 (.fresh 0 0 led) } }) fun led => ⟨led, rfl, rfl⟩) fun r s₁ hr => ?_
  cases r with
  | error e => exact hr
  | ok fl =>
    cases fl with
    | ret ob =>
      obtain ⟨led, rfl, rfl⟩ := hr
      have eS : (s.heap.push { cls := .type "set", dict := none, data := .set #[] 0 (.fresh 0 0 led) }).get? s.heap.objs.size = some { cls := .type "set", dict := none, data := .set #[] 0 (.fresh 0 0 led) } := Heap.get?_push_size _ rfl
      have tS : Shared.TypeIs { s with heap := s.heap.push { cls := .type "set", dict := none, data := .set #[] 0 (.fresh 0 0 led) } } (.ref s.heap.objs.size) "set" := ⟨_, eS, rfl⟩
      have hli := PySem.F.called_set.init.lookup
      have hbi := PySem.F.called_set.init.bind (.ref s.heap.objs.size)
      repeat (any_goals (first | assumption | wp_step))
      refine codeAny_mono (codeAny_call_builtin (R := wants (fun r s₂ => r = .none ∧ ∃ g tk, s₂ = { s with heap := g, toks := tk } ∧ g.SetOf knd s.heap.objs.size (have_ val items.size) items.size ∧
          (∀ b o, b < s.heap.objs.size → s.heap.get? b = some o → g.get? b = some o)) E) PySem.F.called_set.init.plain PySem.F.entry_set_init (check_set_init_1 tS ?_)) fun r₂ s₂ hr₂ => ?_
      · obtain ⟨⟨oc, od, odt, osl⟩, eol, ecl, nl, edl⟩ := tl
        simp only at ecl edl
        subst ecl
        subst edl
        have eol' : (s.heap.push { cls := .type "set", dict := none, data := .set #[] 0 (.fresh 0 0 led) }).get? l = some { cls := .type "list", dict := od, data := .seq items nl, slots := osl } := Heap.get?_push_of_some _ eol
        have hsls := PySem.F.sub_list_set
        have hslf := PySem.F.sub_list_frozenset
        have hne : (Value.type "list" == Value.type "dict") = false := by decide
        have tl1 : (s.heap.push { cls := .type "set", dict := none, data := .set #[] 0 (.fresh 0 0 led) }).IsList l items := ⟨_, eol', rfl, nl, rfl⟩
        unfold Builtin.«set.__init__» noKeywords Builtin.Frozenset.updateFrom
        generalize hPI : pyIter = PI
        wp_walk
        subst hPI
        refine wpAny_pyIter_list tl1 (wpAny_bind (wpAny_runValue ?_))
        have lS : l < s.heap.objs.size := Heap.lt_size eol
        have hd3 : A.in1.in1.in1.handled = none := by simp [hd]
        have neI : l ≠ (s.heap.push { cls := .type "set", dict := none, data := .set #[] 0 (.fresh 0 0 led) }).objs.size := by
          rw [Heap.size_push]
          exact Nat.ne_of_lt (Nat.lt_succ_of_lt lS)
        have nf : s.heap.objs.size ∉ [(s.heap.push { cls := .type "set", dict := none, data := .set #[] 0 (.fresh 0 0 led) }).objs.size, l] := by
          rw [Heap.size_push]
          simp only [List.mem_cons, List.mem_singleton, List.not_mem_nil, or_false, not_or]
          exact ⟨Nat.ne_of_lt (Nat.lt_succ_self _), Nat.ne_of_gt lS⟩
        refine fill ((Walks.list hd3 _ l neI items).toS) s.heap.objs.size nf val hv room inj (items.size - 0) 0 _ (by omega) (Nat.zero_le _) ⟨⟨_, Heap.get?_push_size _ rfl, rfl, rfl⟩, tl1.push _⟩ ?hS0 ?hR
        case hS0 =>
          have eg : ((s.heap.push { cls := .type "set", dict := none, data := .set #[] 0 (.fresh 0 0 led) }).push { cls := .type "list_iterator", data := .fields #[.ref l, .int 0 0] }).get? s.heap.objs.size = some { cls := .type "set", dict := none, data := .set #[] 0 (.fresh 0 0 led) } := Heap.get?_push_of_some _ eS
          exact (setObjOf_fresh (knd := knd) led).setOf eg (by unfold scanBound; omega)
        case hR =>
          intro s' mv hS'
          obtain ⟨g, gg, d', tk', os'⟩ := s'
          have e1 : gg = s.gens := mv.gens
          have e2 : d' = s.drawn := mv.drawn
          have e3 : os' = s.os := mv.os
          subst e1
          subst e2
          subst e3
          show wpAny _ _ _ _ _ _
          refine wpAny_pure ?_
          show wpAny _ _ (ret Value.none) _ _ _
          refine wpAny_pure ⟨rfl, g, tk', rfl, hS', fun b o hb e => ?_⟩
          have hb2 : b ≠ (s.heap.push { cls := .type "set", dict := none, data := .set #[] 0 (.fresh 0 0 led) }).objs.size := by
            rw [Heap.size_push]
            exact Nat.ne_of_lt (Nat.lt_succ_of_lt hb)
          exact mv.heap b o (by simp only [List.mem_cons, List.mem_singleton, List.not_mem_nil, or_false, not_or]; exact ⟨Nat.ne_of_lt hb, hb2⟩) (Heap.get?_push_of_some _ (Heap.get?_push_of_some _ e))
      · cases r₂ with
        | error e => exact hr₂
        | ok fl₂ =>
          cases fl₂ with
          | ret r =>
            obtain ⟨rfl, g, tk, rfl, hS', hk'⟩ := hr₂
            repeat (any_goals (first | assumption | wp_step))
            exact q _ _ hS' hk'
          | _ => exact hr₂.elim
    | _ => exact hr.elim
end SX
set_option Elab.async false
set_option linter.all false
set_option maxRecDepth 100000
set_option maxHeartbeats 4000000
namespace L2
open PySem PySem.Spec PyProof.Rows
/-! ### set(names), names unlike; len of it -/
def setΦ (P : Program) (w : World) (a : Addr) (n : Nat) : Heap → Prop := fun h => ∃ S : Str → Bool, h.SetOf (PySem.strKind P w) a S n
def rSetS (K : PySem.W.Frag) (P : Program) (w : World) : List V → Hp → VK → Prop := fun xs H Q => ∃ (p : Addr) (ns : List Str), xs = [.ref p] ∧ (SqL K H p (ns.map V.str) ∨ SqT K H p (ns.map V.str)) ∧ ns.Nodup ∧ ns.length ≤ 4000 ∧ ∀ a, H a = none → Q (.ref a) (upd H a (.ext (setΦ P w a ns.length)))
theorem strs_at {ns : List Str} {its : List Value} (r : Vals (ns.map V.str) its) {i : Nat} {v : Value} (h : its.toArray[i]? = some v) : ∃ t, v = .str (ns.getD i default) t := by
  have hl := r.length
  rw [List.length_map] at hl
  have h' : its[i]? = some v := by simpa using h
  have hi : i < its.length := (List.getElem?_eq_some_iff.mp h').1
  have hn : (ns.map V.str)[i]? = some (.str ns[i]) := by rw [List.getElem?_map, List.getElem?_eq_getElem (by omega)]; rfl
  obtain ⟨u, hu, t, ru⟩ := r.get hn
  rw [h'] at hu
  cases hu
  exact ⟨t, by rw [ru, List.getD_eq_getElem?_getD, List.getElem?_eq_getElem (by omega)]; rfl⟩
theorem nodup_getD {ns : List Str} (h : ns.Nodup) : ∀ a b, a < ns.length → b < ns.length → ns.getD a default = ns.getD b default → a = b := by
  intro a b ha hb e
  rw [List.getD_eq_getElem?_getD, List.getD_eq_getElem?_getD, List.getElem?_eq_getElem ha, List.getElem?_eq_getElem hb] at e
  have e' : ns[a] = ns[b] := e
  rw [List.nodup_iff_pairwise_ne, List.pairwise_iff_getElem] at h
  rcases Nat.lt_trichotomy a b with z | z | z
  · exact absurd e' (h a b ha hb z)
  · exact z
  · exact absurd e'.symm (h b a hb ha z)
theorem call_setS {X : Cx} (hc : X.calm = true) : CallR X (.type "set") (rSetS X.K X.prog X.w) := by
  intro pins s σ H xs us Q I r h
  obtain ⟨p, ns, rfl, hp, hnd, hz, q⟩ := h
  obtain ⟨u, rfl, rx⟩ := vals1 r
  cases rx
  have fin : ∀ (n : Nat), n = ns.length → ∀ (g : Heap) (tk : Nat), g.SetOf (PySem.strKind X.prog X.w) s.heap.objs.size (SX.have_ (fun i => ns.getD i default) n) n → (∀ b o, b < s.heap.objs.size → s.heap.get? b = some o → g.get? b = some o) →
      EP X pins σ Q (.ref s.heap.objs.size) { s with heap := g, toks := tk } := by
    intro n en g tk hS kp
    subst en
    refine ⟨.ref s.heap.objs.size, _, I.laid (t' := tk) (o := .ext (setΦ X.prog X.w s.heap.objs.size ns.length)) (fun b o e => kp b o (Heap.lt_size e) e) (Nat.le_refl _) ?_, rfl, q _ I.fresh⟩
    refine ⟨⟨_, hS⟩, ?_, fun h1 h2 ⟨S, o, es, ep, t, eo, rest⟩ k => ⟨S, o, es, ep, t, k o eo, rest⟩⟩
    obtain ⟨o, es, ep, t, eo, _⟩ := hS
    exact ⟨o, eo⟩
  rcases hp with hp | hp
  · obtain ⟨its, rv, pl, hzz⟩ := I.list hp
    have hl := rv.length
    rw [List.length_map] at hl
    have hsz : its.toArray.size = ns.length := by simp [hl]
    refine SX.call_set_list (knd := PySem.strKind X.prog X.w) (val := fun i => ns.getD i default) (I.ok.hd hc) pl.isList (fun i v hv => ?_) (by rw [hsz]; unfold scanBound; omega) (by rw [hsz]; exact nodup_getD hnd) fun g tk hS kp => fin _ hsz g tk hS kp
    obtain ⟨t, rfl⟩ := strs_at rv hv
    exact ⟨by simp [PySem.strKind, Value.isStrOf], rfl⟩
  · obtain ⟨its, rv, pl, hzz⟩ := I.tuple hp
    have hl := rv.length
    rw [List.length_map] at hl
    have hsz : its.toArray.size = ns.length := by simp [hl]
    refine SX.call_set_tuple (knd := PySem.strKind X.prog X.w) (val := fun i => ns.getD i default) (I.ok.hd hc) pl (fun i v hv => ?_) (by rw [hsz]; unfold scanBound; omega) (by rw [hsz]; exact nodup_getD hnd) fun g tk hS kp => fin _ hsz g tk hS kp
    obtain ⟨t, rfl⟩ := strs_at rv hv
    exact ⟨by simp [PySem.strKind, Value.isStrOf], rfl⟩
theorem call_len_setS {X : Cx} : CallR X (.builtin "len") (fun xs H Q => ∃ (p : Addr) (n : Nat), xs = [.ref p] ∧ H p = some (.ext (setΦ X.prog X.w p n)) ∧ Q (.int (n : Nat)) H) := by
  intro pins s σ H xs us Q I r h
  obtain ⟨p, n, rfl, hp, q⟩ := h
  obtain ⟨u, rfl, rx⟩ := vals1 r
  cases rx
  obtain ⟨⟨S, o, es, ep, t, eo, ex, ed, _, _, hb, hf, hn⟩, _⟩ := (show ObjOk X.prog X.w H s.heap p (.ext (setΦ X.prog X.w p n)) from I.hok p _ hp)
  refine call_len_set eo ex ed hf (by unfold scanBound at hb; omega) ?_
  rw [hn]
  exact ⟨.int (n : Nat), H, I.tok _, ⟨_, rfl⟩, q⟩
end L2
set_option Elab.async false
set_option linter.all false
set_option maxRecDepth 100000
set_option maxHeartbeats 4000000
namespace L2
open PySem PySem.Spec PyProof.Rows
/-! ### what says the same is equal -/
theorem den_rel {X : Cx} {pins : List (Addr × Obj)} {σ : St} {H : Hp} {s : Shared} (I : Inv X pins σ H s) : ∀ (n : Nat) (d : D) (A : Around) (x y : V) (v u : Value), Shal n d → Den H x d → Den H y d → RelV x v → RelV y u → A.units + n < cLine → SeqAt.EqAt A s v u true
  | _, .non, A, x, y, v, u, hs, hx, hy, rx, ry, hu => absurd rfl hs.ne
  | _, .bl b, A, x, y, v, u, hs, hx, hy, rx, ry, hu => by
    have e1 : x = .bl b := hx
    have e2 : y = .bl b := hy
    subst e1
    subst e2
    cases rx
    cases ry
    exact SeqAt.EqAt.same _
  | _, .int i, A, x, y, v, u, hs, hx, hy, rx, ry, hu => by
    have e1 : x = .int i := hx
    have e2 : y = .int i := hy
    subst e1
    subst e2
    obtain ⟨t, rfl⟩ := rx
    obtain ⟨t', rfl⟩ := ry
    have := SeqAt.EqAt.int_int (A := A) (s := s) i t i t'
    simpa using this
  | _, .str z, A, x, y, v, u, hs, hx, hy, rx, ry, hu => by
    have e1 : x = .str z := hx
    have e2 : y = .str z := hy
    subst e1
    subst e2
    obtain ⟨t, rfl⟩ := rx
    obtain ⟨t', rfl⟩ := ry
    have := SeqAt.EqAt.str_str (A := A) (s := s) z t z t'
    simpa using this
  | 0, .tup ds, A, x, y, v, u, hs, hx, hy, rx, ry, hu => absurd rfl (hs.2 ds)
  | n + 1, .tup ds, A, x, y, v, u, hs, hx, hy, rx, ry, hu => by
    obtain ⟨a, vs, rfl, ha, hda⟩ := den_tup hx
    obtain ⟨b, us, rfl, hb, hdb⟩ := den_tup hy
    cases rx
    cases ry
    by_cases hab : a = b
    · subst hab
      exact SeqAt.EqAt.same _
    · obtain ⟨its, r1, p1, _⟩ := I.tuple (SqT.of (K := X.K) ha)
      obtain ⟨its2, r2, p2, _⟩ := I.tuple (SqT.of (K := X.K) hb)
      have l1 := hda.len
      have l2 := hdb.len
      have m1 := r1.length
      have m2 := r2.length
      have key := SeqAt.EqAt.of_refs hab (SeqAt.RcAt.tuples (A := A) (s := s) (e := fun _ => true) p1 p2 (by omega) fun j h1 h2 => ?_)
      · have e : ((List.range (min its.toArray.size its2.toArray.size)).all (fun _ => true) && its.toArray.size == its2.toArray.size) = true := by
          simp
          omega
        rw [e] at key
        exact key
      · have hj1 : j < vs.length := by simpa [m1] using h1
        have hj2 : j < us.length := by simpa [m2] using h2
        obtain ⟨d1, g1, b1⟩ := hda.at_ (List.getElem?_eq_getElem hj1)
        obtain ⟨d2, g2, b2⟩ := hdb.at_ (List.getElem?_eq_getElem hj2)
        rw [g1] at g2
        cases g2
        obtain ⟨w1, hw1, rw1⟩ := r1.get (List.getElem?_eq_getElem hj1)
        obtain ⟨w2, hw2, rw2⟩ := r2.get (List.getElem?_eq_getElem hj2)
        have q1 : its.toArray[j] = w1 := by
          have := (List.getElem?_eq_some_iff.mp hw1).2
          simpa using this
        have q2 : its2.toArray[j] = w2 := by
          have := (List.getElem?_eq_some_iff.mp hw2).2
          simpa using this
        rw [q1, q2]
        exact den_rel I n d1 A.in1 _ _ _ _ ((hs.2 ds rfl).2 d1 (List.mem_of_getElem? g1)) b1 b2 rw1 rw2 (by first | (simp only [Around.in1]; omega) | omega)
def rNeD : R2 := fun x y H Q => ∃ (ds : List D) (n : Nat), Den H x (.tup ds) ∧ Den H y (.tup ds) ∧ Shal n (.tup ds) ∧ n ≤ 60 ∧ Q (.bl false) H
theorem op_neD {X : Cx} (hu : X.A.units + 64 < cLine) : OpR X (compareOp .NotEq) rNeD := by
  intro pins s σ H x y v u Q I rx ry h
  obtain ⟨ds, n, hx, hy, hs, hn, q⟩ := h
  obtain ⟨a, vs, rfl, ha, hda⟩ := den_tup hx
  obtain ⟨b, us, rfl, hb, hdb⟩ := den_tup hy
  cases rx
  cases ry
  cases n with
  | zero => exact absurd rfl (hs.2 ds)
  | succ n =>
  obtain ⟨its, r1, p1, _⟩ := I.tuple (SqT.of (K := X.K) ha)
  obtain ⟨its2, r2, p2, _⟩ := I.tuple (SqT.of (K := X.K) hb)
  have l1 := hda.len
  have l2 := hdb.len
  have m1 := r1.length
  have m2 := r2.length
  have key := SeqAt.RcNeAt.tuples (A := X.A) (s := s) (e := fun _ => true) p1 p2 (by omega) fun j h1 h2 => ?_
  · have e : (!((List.range (min its.toArray.size its2.toArray.size)).all (fun _ => true) && its.toArray.size == its2.toArray.size)) = false := by
      simp
      omega
    rw [e] at key
    exact key X.prog X.w _ _ ⟨.bl false, H, I, rfl, q⟩
  · have hj1 : j < vs.length := by simpa [m1] using h1
    have hj2 : j < us.length := by simpa [m2] using h2
    obtain ⟨d1, g1, b1⟩ := hda.at_ (List.getElem?_eq_getElem hj1)
    obtain ⟨d2, g2, b2⟩ := hdb.at_ (List.getElem?_eq_getElem hj2)
    rw [g1] at g2
    cases g2
    obtain ⟨w1, hw1, rw1⟩ := r1.get (List.getElem?_eq_getElem hj1)
    obtain ⟨w2, hw2, rw2⟩ := r2.get (List.getElem?_eq_getElem hj2)
    have q1 : its.toArray[j] = w1 := by
      have := (List.getElem?_eq_some_iff.mp hw1).2
      simpa using this
    have q2 : its2.toArray[j] = w2 := by
      have := (List.getElem?_eq_some_iff.mp hw2).2
      simpa using this
    rw [q1, q2]
    exact den_rel I n d1 X.A.in1 _ _ _ _ ((hs.2 ds rfl).2 d1 (List.mem_of_getElem? g1)) b1 b2 rw1 rw2 (by first | (simp only [Around.in1]; omega) | omega)
end L2
set_option Elab.async false
set_option linter.all false
set_option maxRecDepth 100000
set_option maxHeartbeats 4000000
namespace ZZ
open PySem
open Sem (wp)
section
variable {prog : Program} {w : World} {A : Around} {E : Value → Shared → Prop} {s : Shared}
theorem zip_end2 {z TI TO i1 i2 t1 t2 : Addr} {n1 n2 : Nat} {us vs : Array Value} {x a b : Value} {Q : Fin → Shared → Prop} (hd : A.handled = none) (D : ZT.Apart z TI TO i1 i2 t1 t2) (zz : IsZip s.heap z TI TO .none) (zi : IsPair s.heap TI (.ref i1) (.ref i2)) (zo : IsPair s.heap TO a b)
    (r1 : s.heap.IsTupleIter i1 t1 n1) (r2 : s.heap.IsTupleIter i2 t2 n2) (u1 : s.heap.IsTuple t1 us) (u2 : s.heap.IsTuple t2 vs) (x1 : us[n1]? = some x) (x2 : vs[n2]? = none)
    (k : ∀ g e, (∀ c o, c ≠ z → c ≠ TO → c ≠ i1 → c ≠ i2 → s.heap.get? c = some o → g.get? c = some o) → (∃ o, g.get? e = some o ∧ o.cls = .type "StopIteration") → E (.ref e) { s with heap := g }) :
    wpAny (model prog w) A (Builtin.«zip.__next__» ⟨[.ref z], []⟩) Q E s := by
  show wpAny _ _ (field (.ref z) 2 >>= _) _ _ _
  refine wpAny_bind (wpAny_field zz rfl (x := .bool false) rfl ?_)
  show wpAny _ _ (field (.ref z) 3 >>= _) _ _ _
  refine wpAny_bind (wpAny_field zz rfl (x := .ref TI) rfl ?_)
  refine wpAny_bind (wpAny_seqItems zi rfl ?_)
  show wpAny _ _ (Builtin.SmallTypes.ownedTupleIsFree (.ref z) >>= _) _ _ _
  refine wpAny_bind ?_
  unfold Builtin.SmallTypes.ownedTupleIsFree
  refine wpAny_bind (wpAny_field zz rfl (x := .none) rfl (wpAny_pure ?_))
  simp only [if_true]
  refine wpAny_bind (wpAny_rule ?_)
  refine wpAny_bind (wpAny_field zz rfl (x := .ref TO) rfl ?_)
  refine wpAny_bind (wpAny_setField_rec zz (by simp) fun g1 zg1 s1 => ?_)
  replace zg1 : IsZip g1 z TI TO .ellipsis := zg1
  refine wpAny_bind ?_
  simp only [List.zipIdx_cons, List.zipIdx_nil, List.forIn_cons, List.forIn_nil]
  refine wpAny_bind (wpAny_bind (wpAny_onRaise ?_))
  show wpAny _ _ (Builtin.SmallTypes.nextOf (.ref i1) >>= _) _ _ _
  refine wpAny_bind (ZT.tup_item (r1.extBut s1.extBut D.a3) (u1.extBut s1.extBut D.c1) x1 fun g2 rg2 s2 => wpAny_pure ?_)
  have zo2 : IsPair g2 TO a b := s2.extBut _ _ D.b4 (s1.extBut _ _ D.a2 zo)
  refine wpAny_bind (wpAny_seqItems zo2 rfl ?_)
  refine wpAny_bind (wpAny_updateSeq_pair zo2 fun g3 zo3 s3 => ?_)
  replace zo3 : IsPair g3 TO x b := zo3
  refine wpAny_bind (wpAny_letGo (wpAny_pure ?_))
  refine wpAny_bind (wpAny_bind (wpAny_onRaise ?_))
  show wpAny _ _ (Builtin.SmallTypes.nextOf (.ref i2) >>= _) _ _ _
  refine wpAny_bind (ZT.tup_end hd (((r2.extBut s1.extBut D.a4).extBut s2.extBut D.b6.symm).extBut s3.extBut D.b5.symm) (((u2.extBut s1.extBut D.d1).extBut s2.extBut D.d3).extBut s3.extBut D.d2) x2 fun g4 e s4 he => ?_)
  obtain ⟨oe, eoe, ece⟩ := he
  have zg4 : IsZip g4 z TI TO .ellipsis := s4 _ _ D.a4.symm (s3.extBut _ _ D.a2.symm (s2.extBut _ _ D.a3.symm zg1))
  have nez : e ≠ z := fun q => by subst q; rw [zg4] at eoe; cases eoe; simp at ece
  exact wpAny_setField_rec zg4 (by simp) fun g5 _ s5 => k g5 e (fun c o e1 e2 e3 e4 q => s5.extBut _ _ e1 (s4 _ _ e4 (s3.extBut _ _ e2 (s2.extBut _ _ e3 (s1.extBut _ _ e1 q))))) ⟨oe, s5.extBut _ _ nez eoe, ece⟩
theorem next_end2 {z TI TO i1 i2 t1 t2 : Addr} {n1 n2 : Nat} {us vs : Array Value} {x a b : Value} {Q : Option Value → Shared → Prop} (hd : A.handled = none) (D : ZT.Apart z TI TO i1 i2 t1 t2) (zz : IsZip s.heap z TI TO .none) (zi : IsPair s.heap TI (.ref i1) (.ref i2)) (zo : IsPair s.heap TO a b)
    (r1 : s.heap.IsTupleIter i1 t1 n1) (r2 : s.heap.IsTupleIter i2 t2 n2) (u1 : s.heap.IsTuple t1 us) (u2 : s.heap.IsTuple t2 vs) (x1 : us[n1]? = some x) (x2 : vs[n2]? = none)
    (k : ∀ g, (∀ c o, c ≠ z → c ≠ TO → c ≠ i1 → c ≠ i2 → s.heap.get? c = some o → g.get? c = some o) → Q none { s with heap := g }) : wpAny (model prog w) A (pyNext (.ref z)) Q E s := by
  have tz : s.TypeIs (.ref z) "zip" := ⟨_, zz, rfl⟩
  unfold pyNext
  refine wpAny_bind (wpAny_attempt (wpAny_callSpecial?_slot (name := Str.ofString "__next__") tz F.slot_zip_next (wpAny_call_entry F.slot_zip_next tz F.entry_zip_next (zip_end2 hd D zz zi zo r1 r2 u1 u2 x1 x2 fun g e kk he => ?_) (F.args_zip_next_1 _))))
  obtain ⟨o, eo, ec⟩ := he
  exact wpAny_bind (wpAny_isInstance (T := "StopIteration") (b := true) ⟨o, eo, ec⟩ isSubtype_stop (wpAny_pure (k _ kk)))
end
end ZZ
namespace L2
open PySem PySem.Spec PyProof.Rows
/-! ### zip of two tuples, whichever ends first -/
def Itz2 (K : PySem.W.Frag) (a b : Addr) : It :=
  ⟨(Itz K a b).go, (Itz K a b).yld, fun i H => (∃ xs, SqT K H a xs ∧ xs.length ≤ i) ∨ ∃ xs ys x, SqT K H a xs ∧ SqT K H b ys ∧ xs[i]? = some x ∧ ys.length ≤ i⟩
theorem turn_zip2 {P : Program} {w : World} {K : PySem.W.Frag} {elts : List Expr} {k1 : Nat} {p1 : Pos} (a b z TI TO i1 i2 : Addr) (D : ZT.Apart z TI TO i1 i2 a b) :
    Turn P w K (.Tuple elts k1 p1) (Itz2 K a b) [z, TI, TO, i1, i2] z (fun i h => IsZip h z TI TO .none ∧ IsPair h TI (.ref i1) (.ref i2) ∧ (∃ u v, IsPair h TO u v) ∧ h.IsTupleIter i1 a i ∧ h.IsTupleIter i2 b i) where
  mem := (turn_zip (P := P) (w := w) (K := K) (elts := elts) (k1 := k1) (p1 := p1) a b z TI TO i1 i2 D).mem
  obj := (turn_zip (P := P) (w := w) (K := K) (elts := elts) (k1 := k1) (p1 := p1) a b z TI TO i1 i2 D).obj
  keep := (turn_zip (P := P) (w := w) (K := K) (elts := elts) (k1 := k1) (p1 := p1) a b z TI TO i1 i2 D).keep
  item := (turn_zip (P := P) (w := w) (K := K) (elts := elts) (k1 := k1) (p1 := p1) a b z TI TO i1 i2 D).item
  self := (turn_zip (P := P) (w := w) (K := K) (elts := elts) (k1 := k1) (p1 := p1) a b z TI TO i1 i2 D).self
  done := by
    intro X hP hw hK hc i pins s σ H E I hf st hg
    rcases hg with hg | ⟨xs, ys, x, ha, hb, hx, hy⟩
    · exact (turn_zip (P := P) (w := w) (K := K) (elts := elts) (k1 := k1) (p1 := p1) a b z TI TO i1 i2 D).done X hP hw hK hc i pins s σ H E I hf st hg
    · subst hP hw hK
      obtain ⟨z1, z2, ⟨u, v, z3⟩, r1, r2⟩ := st
      obtain ⟨ita, va, pa, _⟩ := I.tuple ha
      obtain ⟨itb, vb, pb, _⟩ := I.tuple hb
      obtain ⟨ux, eux, rx⟩ := va.get hx
      have hl := vb.length
      refine ZZ.next_end2 (I.ok.hd hc) D z1 z2 z3 r1 r2 (show s.heap.IsTuple a ita.toArray from pa) (show s.heap.IsTuple b itb.toArray from pb) (x := ux) (by simpa using eux) (by simp; omega) fun g g7 => ⟨rfl, ?_⟩
      refine I.turnedL (t' := s.toks) (ch := [z, TO, i1, i2]) (fun c o hc q => ?_) fun c hc => hf c ?_
      · have hc' : ¬ (c = z ∨ c = TO ∨ c = i1 ∨ c = i2) := by simpa using hc
        exact g7 c o (fun e => hc' (.inl e)) (fun e => hc' (.inr (.inl e))) (fun e => hc' (.inr (.inr (.inl e)))) (fun e => hc' (.inr (.inr (.inr e)))) q
      · have hc' : c = z ∨ c = TO ∨ c = i1 ∨ c = i2 := by simpa using hc
        rcases hc' with rfl | rfl | rfl | rfl <;> simp
def iZip2 (K : PySem.W.Frag) (ta : TA) : TI := fun σ H R => ta σ H fun vs H1 => ∃ a b, vs = [.ref a, .ref b] ∧ (∃ xs, SqT K H1 a xs) ∧ (∃ ys, SqT K H1 b ys) ∧ R (Itz2 K a b) H1
theorem pi_zip2 {X : Cx} {elts : List Expr} {k1 : Nat} {p1 : Pos} {a b : Expr} {ta : TA} {p pos : Pos} (hg : Gl X "zip") (hm : X.mg "zip" = none) (ha : PA X [a, b] ta) (hs : starEach [a, b] X.env = [(false, eval a X.env), (false, eval b X.env)] := by rfl)
    (hs2 : starEach [b] X.env = [(false, eval b X.env)] := by rfl) : PI X (.Tuple elts k1 p1) (.Call (.Name "zip" p) [a, b] [] pos) (iZip2 X.K ta) := by
  intro pins s σ H R I h
  refine Call_ (ld_blt I hg hm boot_zip' (PyProof.Rows.callWith_type1 (thn (ha pos pins s σ H _ I h) fun us s1 ⟨vs, H1, I1, r1, q1⟩ => ?_) (by rw [hs, hs2]) (by rw [hs2]; rfl)))
  obtain ⟨l1, l2, e, ⟨xs, hq⟩, ⟨ys, hq'⟩, q⟩ := q1
  subst e
  cases r1 with
  | cons r rr =>
    cases rr with
    | cons r' rr =>
      cases rr
      cases r
      cases r'
      obtain ⟨ita, va, pa, _⟩ := I1.tuple hq
      obtain ⟨itb, vb, pb, _⟩ := I1.tuple hq'
      have la : l1 < s1.heap.objs.size := pa.lt
      have lb : l2 < s1.heap.objs.size := pb.lt
      refine ZT.call_zip (show s1.heap.IsTuple l1 ita.toArray from pa) (show s1.heap.IsTuple l2 itb.toArray from pb) fun g g1 g2 g3 g4 g5 g6 g7 => ?_
      refine wpAny_pyIter_zip g1 ?_
      have I2 : Inv X pins σ H1 { s1 with heap := g } := I1.kept (t' := s1.toks) g7
      have D : ZT.Apart (s1.heap.objs.size + 4) (s1.heap.objs.size + 2) (s1.heap.objs.size + 3) s1.heap.objs.size (s1.heap.objs.size + 1) l1 l2 := by
        constructor <;> (apply ne_nat; first | exact Or.inl (by omega) | exact Or.inr (by omega) | exact Or.inl (Nat.lt_of_lt_of_le (by assumption) (by omega)))
      refine ⟨s1.heap.objs.size + 4, _, _, _, H1, rfl, I2, turn_zip2 l1 l2 _ _ _ _ _ D, ⟨g1, g2, ⟨_, _, g3⟩, g4, g5⟩, fun c hc => ?_, q⟩
      have hc' : c = s1.heap.objs.size + 4 ∨ c = s1.heap.objs.size + 2 ∨ c = s1.heap.objs.size + 3 ∨ c = s1.heap.objs.size ∨ c = s1.heap.objs.size + 1 := by simpa using hc
      have hle : s1.heap.objs.size ≤ c := by rcases hc' with rfl | rfl | rfl | rfl | rfl <;> omega
      exact I1.fpOk hle (I1.hok.fresh hle)
end L2
set_option Elab.async false
set_option linter.all false
set_option maxRecDepth 100000
set_option maxHeartbeats 4000000
namespace L2
open PySem PySem.Spec PyProof.Rows
/-! ### over a list or a tuple -/
def iSeq (K : PySem.W.Frag) (tl : TE) : TI := fun σ H R => tl σ H fun x H1 => ∃ a, x = .ref a ∧ (((∃ xs, SqL K H1 a xs) ∧ R (Itl K a) H1) ∨ ((∃ xs, SqT K H1 a xs) ∧ R (Itt K a) H1))
theorem pi_seq {X : Cx} {tg l : Expr} {tl : TE} (hl : PE X l tl) : PI X tg l (iSeq X.K tl) := by
  intro pins s σ H R I h
  refine thn (hl pins s σ H _ I h) fun v s1 ⟨x, H1, I1, r1, q1⟩ => ?_
  obtain ⟨a, e, q⟩ := q1
  subst e
  cases r1
  rcases q with ⟨⟨xs, hq⟩, q⟩ | ⟨⟨xs, hq⟩, q⟩
  · obtain ⟨its, rv, p, hz⟩ := I1.list hq
    refine wpAny_pyIter_list p.isList ?_
    refine ⟨s1.heap.objs.size, [s1.heap.objs.size], _, _, H1, rfl, I1.kept (t' := s1.toks) fun b o e => Heap.get?_push_of_some _ e, turn_list a _, ⟨_, Heap.get?_push_size _ rfl, rfl, rfl⟩, fun b hb => ?_, q⟩
    have e : b = s1.heap.objs.size := by simpa using hb
    subst e
    exact I1.fpOk (Nat.le_refl _) (I1.hok.fresh (Nat.le_refl _))
  · obtain ⟨its, rv, p, hz⟩ := I1.tuple hq
    refine wpAny_pyIter_tuple (show s1.heap.IsTuple a its.toArray from p) ?_
    refine ⟨s1.heap.objs.size, [s1.heap.objs.size], _, _, H1, rfl, I1.kept (t' := s1.toks) fun b o e => Heap.get?_push_of_some _ e, turn_tuple a _, ⟨_, Heap.get?_push_size _ rfl, rfl, rfl⟩, fun b hb => ?_, q⟩
    have e : b = s1.heap.objs.size := by simpa using hb
    subst e
    exact I1.fpOk (Nat.le_refl _) (I1.hok.fresh (Nat.le_refl _))
end L2
set_option Elab.async false
set_option linter.all false
set_option maxRecDepth 100000
set_option maxHeartbeats 4000000
namespace L2
open PySem PySem.Spec PyProof.Rows
/-! ### x = [e for ..], x a plain local name: stored while the block's names still stand -/
theorem ps_setC0 {X : Cx} {ix : Nat} {xn : Str} {pos' spos : Pos} {elt tg iter : Expr} {ifs : List Expr} {scope : Scope} {pos : Pos} {wi : TI} {g : TG} {tc : TT} {te : TE} (hN : X.N.Nodup) (hix : X.N[ix]? = some xn) (hxl : X.env.scope.names.lookup xn = some .local) (N : List Str) (lift : St → St) (hc : X.calm = true) (hi : PI X tg iter wi)
    (hkind : scope.kind = .function) (hcell : ∀ y ∈ scope.names, y.2 ≠ .cell) (hfree : ∀ y ∈ scope.names, y.2 = .free → X.env.kindOf y.1 = some .cell ∨ X.env.kindOf y.1 = some .free)
    (hnames : ∀ y ∈ scope.names, y.2 = .local → scope.names.lookup y.1 = some .local)
    (hlen : ∀ σ : St, σ.length = X.N.length → (lift σ).length = N.length)
    (hσ : ∀ (σ : St) (i : Nat) (x : Str) (v : V), σ.length = X.N.length → N[i]? = some x → (lift σ)[i]? = some (some v) → scope.names.lookup x = some .free ∧ ∃ j : Nat, X.N[j]? = some x ∧ σ[j]? = some (some v))
    (hg : ∀ cl C s H ex pn E, PG (blockCx X scope N cl C s H ex pn E) tg g) (ht : ∀ cl C s H ex pn E, PIfs (blockCx X scope N cl C s H ex pn E) ifs tc) (he : ∀ cl C s H ex pn E, PE (blockCx X scope N cl C s H ex pn E) elt te)
    (hs : ∀ x, foldedSetIterable iter X.env x = pure x) (hsw : swapsWith (.ListComp elt [⟨tg, iter, ifs, 0⟩] scope pos) (some (.Name xn pos')) spos.line X.env = pure true) :
    PS X (.Assign [.Name xn pos'] (.ListComp elt [⟨tg, iter, ifs, 0⟩] scope pos) spos) (tAsg (tComp wi g tc te lift) (gName ix)) := by
  intro pins s σ H D I h
  rw [exec_Assign_Name_used _ _ _ _ hsw]
  refine wpAny_bind (wpAny_standAt (wpAny_bind ?_))
  suffices key : wpAny (model X.prog X.w) X.A (comprehension (.ListComp elt [⟨tg, iter, ifs, 0⟩] scope pos) scope X.env (firstIterPos [⟨tg, iter, ifs, 0⟩] pos) (newList []) (firstAsync [⟨tg, iter, ifs, 0⟩]) (firstIter [⟨tg, iter, ifs, 0⟩] X.env) (some (assign (.Name xn pos') X.env))) (fun _ s'' => ∃ σ' H', Inv X pins σ' H' s'' ∧ D.nx σ' H') X.xe s by
    show wpAny _ _ (comprehension _ _ _ _ _ _ _ _ >>= fun _ => pure ()) _ _ _
    exact wpAny_bind (thn key fun _ s' q => wpAny_pure (wpAny_pure q))
  obtain ⟨cl, hclos, hcl1, hcl2⟩ := closure_of (scope := scope) (env := X.env) fun y hy hf => I.ok.has y.1 (hfree y hy hf)
  refine wpAny_comprehension_free (use := some (assign (.Name xn pos') X.env)) rfl hs hclos hkind hnames (thn (hi pins s σ H _ I h) fun v s1 h1 => thn h1 fun itv s2 h2 => ?_)
  obtain ⟨it, fp, tn, J, H2, e, I2, T, st2, f2, q⟩ := h2
  subst e
  refine wpAny_newObj_type (wpAny_newFunctionEnv hcell (by intro y hy; simp at hy) (fun h₁ hns₁ hsb₁ => ?_) hkind)
  have I3 : Inv X pins σ (upd H2 s2.heap.objs.size (.lst [])) { s2 with heap := s2.heap.push { cls := .type "list", data := .seq ([] : List Value).toArray } } := I2.lnew (its := []) (t' := s2.toks) .nil (Nat.zero_le _)
  have fr : H2 s2.heap.objs.size = none := I2.fresh
  have hold : ∀ b o, (s2.heap.push { cls := .type "list", data := .seq ([] : List Value).toArray }).get? b = some o → h₁.get? b = some o := fun b o e => hsb₁.extBut b o (Nat.ne_of_lt (Heap.lt_size e)) (Heap.get?_push_of_some _ e)
  have f3 : ∀ b ∈ fp, FpOk X pins (upd H2 s2.heap.objs.size (.lst [])) b := fun b hb => by
    obtain ⟨o, eo, _⟩ := T.obj 0 _ st2 b hb
    exact ⟨by rw [upd_ne (Nat.ne_of_lt (Heap.lt_size eo))]; exact (f2 b hb).1, (f2 b hb).2⟩
  have fo : ∀ b ∈ fp, ∃ o, (s2.heap.push { cls := .type "list", data := .seq ([] : List Value).toArray }).get? b = some o := fun b hb => by
    obtain ⟨o, eo, _⟩ := T.obj 0 _ st2 b hb
    exact ⟨o, Heap.get?_push_of_some _ eo⟩
  generalize hP : s2.heap.push { cls := .type "list", data := .seq ([] : List Value).toArray } = P at *
  obtain ⟨W, ⟨m0, w0⟩, turn⟩ := q s2.heap.objs.size fr
  generalize hL : s2.heap.objs.size = L at *
  let R : Result → Shared → Prop := compPost (model X.prog X.w) X.A X.xe (some (assign (.Name xn pos') X.env)) (fun _ s'' => ∃ σ' H', Inv X pins σ' H' s'' ∧ D.nx σ' H') (.ref L) P.objs.size
  let Y : Cx := blockCx X scope N cl P.objs.size { s2 with heap := P } (upd H2 L (.lst [])) fp (X.pn ++ pins) (notedBy (model X.prog X.w) X.A (compEnvC scope cl P.objs.size X.env) fun e s' => R (.error e) s')
  have IY : Inv Y [] (lift σ) (upd H2 L (.lst [])) { s2 with heap := h₁, toks := s2.toks + ([] : List (Str × Value)).length } :=
    block_ok (s := { s2 with heap := P }) I3 hkind hcell hfree hcl1 hcl2 f3 fo (hlen σ I.len) (fun i x v => hσ σ i x v I.len) hns₁ hold
  have stY : tn 0 h₁ := T.keep _ _ _ st2 fun b hb o e => hold b o (by rw [← hP]; exact Heap.get?_push_of_some _ e)
  have fC : ∀ b ∈ fp, b ≠ P.objs.size ∧ (b ∈ fp) := fun b hb => by
    obtain ⟨o, eo⟩ := fo b hb
    exact ⟨Nat.ne_of_lt (Heap.lt_size eo), hb⟩
  have fpY : ∀ {H' : Hp}, (∀ b ∈ fp, H' b = none) → ∀ b ∈ fp, FpOk Y [] H' b := fun {H'} hn b hb => by
    refine ⟨hn b hb, (fC b hb).1, fun z => ?_, .inl hb, fun x c ex => (f3 b hb).2.2.2.2.1 x c (hcl2 _ _ ex), fun p hp => ?_⟩
    · rcases List.mem_cons.mp (I3.stkSub b z) with y | y
      · exact (f3 b hb).2.1 y
      · exact (f3 b hb).2.2.1 y
    · have hp' : p ∈ (X.pn ++ pins) ++ [] := hp
      rw [List.append_nil] at hp'
      exact (f3 b hb).2.2.2.2.2 p hp'
  have loop : ∀ s4 : Shared, s4 = { s2 with heap := h₁, toks := s2.toks + ([] : List (Str × Value)).length } →
      codeAny (model X.prog X.w) X.A (.compLoop (.ListComp elt [⟨tg, iter, ifs, 0⟩] scope pos) 0 (.ref it) (.ref L) (compEnvC scope cl P.objs.size X.env)) R s4 := by
    rintro s4 rfl
    refine codeAny_compLoop_any (fun n s' => ∃ i σ' H', Inv Y [] σ' H' s' ∧ tn i s'.heap ∧ (∀ b ∈ fp, H' b = none) ∧ W i n σ' H') ?_ m0 ⟨0, _, _, IY, stY, fun b hb => (f3 b hb).1, w0⟩
    rintro n s5 ⟨i, σ5, H5, I5, st5, fr5, w5⟩
    rcases turn i n σ5 H5 w5 with ⟨stop, qn⟩ | ⟨go, Nx, hNx, step⟩
    · refine thn (T.done Y rfl rfl rfl hc i [] s5 σ5 H5 Y.xe I5 (fpY fr5) st5 stop) fun r s6 ⟨hr, I6⟩ => ?_
      subst hr
      show R (.ok .next) s6
      obtain ⟨m6, hn6, _⟩ := id I6.loc
      have IX : Inv X pins σ H5 s6 := I3.call' (s' := s6) (ch := fp) I6.os I6.base I6.hok I6.bare fun b hb => ⟨(f3 b hb).2.2.2.1, (f3 b hb).2.1, (f3 b hb).2.2.2.2.1, (f3 b hb).2.2.2.2.2⟩
      have nC : ∀ x c, X.env.cells.lookup x = some c → c ≠ P.objs.size := fun x c ec z => by
        obtain ⟨v0, qv⟩ := I3.cell x c ec
        exact absurd qv.lt (by rw [z]; exact Nat.lt_irrefl _)
      have nP : ∀ p ∈ X.pn ++ pins, p.1 ≠ P.objs.size := fun p hp z => by
        have z0 := Heap.lt_size (I3.pin p hp).1
        exact absurd z0 (by rw [z]; exact Nat.lt_irrefl _)
      show wpAny _ _ (assign (.Name xn pos') X.env (.ref L)) _ _ _
      refine wpAny_assign_Name (store_ok2 IX hN hix (.inl hxl) (v := .ref L) rfl (fun s7 I7 hsb => ?_) (.inr hxl))
      obtain ⟨a7, sb7, ha7⟩ := hsb
      have na7 : P.objs.size ≠ a7 := by
        rcases ha7 with z | z
        · rw [z]
          exact Nat.ne_of_gt I3.lt
        · exact (nC _ _ z).symm
      refine ⟨m6, hn6.at' fun o e => (sb7.2 _ na7).trans e, fun h' sb => ⟨_, H5, I7.turned (t' := s7.toks) (it := P.objs.size) (fun b o hb e => (sb.2 b hb).trans e) I6.free (Nat.ne_of_gt I3.lt) (.inr I3.sz) nC nP, qn⟩⟩
    · refine thn (T.item Y rfl rfl rfl hc i [] s5 σ5 H5 Y.xe I5 (fpY fr5) st5 go) fun r s6 ⟨u, hr, h6⟩ => ?_
      subst hr
      refine thn h6 fun _ s7 ⟨x, H7, I7, r7, y7, st7, fr7⟩ => ?_
      have I7' := I7.pinned (fpY fr7) (T.obj _ _ st7)
      refine thn (hg _ _ _ _ _ _ _ _ s7 σ5 H7 x u _ I7' r7 (step x H7 y7)) fun _ s8 ⟨σ8, H8, I8, q8⟩ => ?_
      refine thn (ht _ _ _ _ _ _ _ _ s8 σ8 H8 _ I8 q8) fun ok s9 ⟨H9, I9, q9⟩ => ?_
      have again : ∀ {sx : Shared} {Hx : Hp}, Inv Y ([] ++ pinsAt fp s7.heap) σ8 Hx sx → Nx σ8 Hx → ∃ m, m < n ∧ ∃ i σ' H', Inv Y [] σ' H' sx ∧ tn i sx.heap ∧ (∀ b ∈ fp, H' b = none) ∧ W i m σ' H' := fun {sx Hx} Ix nx => by
        obtain ⟨m', hm, wx⟩ := hNx σ8 Hx nx
        refine ⟨m', hm, i + 1, σ8, Hx, Ix.unpinned, T.keep _ _ _ st7 fun b hb o e => (Ix.pin (b, o) (List.mem_append_right _ (List.mem_append_right _ (mem_pinsAt hb e)))).1, fun b hb => ?_, wx⟩
        obtain ⟨o, e, d⟩ := T.obj _ _ st7 b hb
        exact (Ix.pin (b, o) (List.mem_append_right _ (List.mem_append_right _ (mem_pinsAt hb e)))).2.1
      cases ok with
      | false =>
        rw [if_neg Bool.false_ne_true] at q9 ⊢
        exact again I9 q9
      | true =>
        rw [if_pos rfl] at q9 ⊢
        refine thn (he _ _ _ _ _ _ _ _ s9 σ8 H9 _ I9 q9) fun y s10 ⟨v10, H10, I10, r10, ys, hys, hz, q10⟩ => ?_
        refine thn (mt_append (X := Y) _ s10 σ8 H10 (.ref L) [v10] (.ref L) [y] (fun _ H' => Nx σ8 H') I10 rfl (.cons r10 .nil) ⟨L, ys, v10, rfl, rfl, hys, hz, q10⟩) fun _ s11 ⟨_, H11, I11, _, q11⟩ => ?_
        exact again I11 q11
  exact codeAny_compStart_list (loop _ rfl) (T.self X.A 0 _ _ _ stY (loop _ rfl))
theorem ps_setC {X : Cx} {ix : Nat} {xn : Str} {pos' spos : Pos} {elt tg iter : Expr} {ifs : List Expr} {scope : Scope} {pos : Pos} {wi : TI} {g : TG} {tc : TT} {te : TE} (hN : X.N.Nodup) (hix : X.N[ix]? = some xn) (hxl : X.env.scope.names.lookup xn = some .local) (XN : List Str) (sc : Scope) (N : List Str) (js : List (Option Nat)) (hXN : X.N = XN) (hsc : X.env.scope = sc) (hc : X.calm = true) (hi : PI X tg iter wi)
    (hkind : scope.kind = .function) (hchk : chkLift N js XN scope.names = true) (hcell : ∀ y ∈ scope.names, y.2 ≠ .cell) (hfree : ∀ y ∈ scope.names, y.2 = .free → sc.names.lookup y.1 = some .cell ∨ sc.names.lookup y.1 = some .free)
    (hnames : ∀ y ∈ scope.names, y.2 = .local → scope.names.lookup y.1 = some .local)
    (hg : ∀ cl C s H ex pn E, PG (blockCx X scope N cl C s H ex pn E) tg g) (ht : ∀ cl C s H ex pn E, PIfs (blockCx X scope N cl C s H ex pn E) ifs tc) (he : ∀ cl C s H ex pn E, PE (blockCx X scope N cl C s H ex pn E) elt te)
    (hs : ∀ x, foldedSetIterable iter X.env x = pure x := by intro _; rfl) (hsw : swapsWith (.ListComp elt [⟨tg, iter, ifs, 0⟩] scope pos) (some (.Name xn pos')) spos.line X.env = pure true := by rfl) :
    PS X (.Assign [.Name xn pos'] (.ListComp elt [⟨tg, iter, ifs, 0⟩] scope pos) spos) (tAsg (tComp wi g tc te (liftBy js)) (gName ix)) := by
  subst hXN
  subst hsc
  exact ps_setC0 hN hix hxl N (liftBy js) hc hi hkind hcell hfree hnames (fun σ _ => chk_len hchk σ) (fun σ i x v _ h1 h2 => chk_at hchk σ i x v h1 h2) hg ht he hs hsw
end L2
set_option Elab.async false
set_option linter.all false
set_option maxRecDepth 100000
set_option maxHeartbeats 4000000
namespace M08
/-- nothing is lost -/
theorem cut_flat (ms ks : List (List Nat)) : ∀ (n : Nat) (acc t : List Nat), t.length ≤ n → (cut ms ks acc t).flatten = acc ++ t
  | n, acc, [], _ => by
    rw [cut_nil]
    split
    · rename_i h
      simp [h]
    · simp
  | 0, _, _ :: _, h => by simp at h
  | n + 1, acc, c :: r, hn => by
    have h1 := stepN_pos ms ks (c :: r)
    have hl : ((c :: r).drop (stepN ms ks (c :: r))).length ≤ n := by
      rw [List.length_drop]
      simp at hn ⊢
      omega
    by_cases he : ended ms ks (c :: r) = 0
    · rw [cut_on (by simp) he, cut_flat ms ks n _ _ hl, List.append_assoc, List.take_append_drop]
    · rw [cut_end (by simp) he, List.flatten_cons, cut_flat ms ks n _ _ hl, List.append_assoc, List.nil_append, List.take_append_drop]
theorem lng_pre {a b : List Nat} {cs : List (List Nat)} (h : lng (a ++ b) cs ≤ a.length) : lng a cs = lng (a ++ b) cs := by
  refine lng_eq h (fun z => ?_) (fun r h1 h2 h3 => ?_)
  · have := lng_at z
    rwa [List.take_append_of_le_length h] at this
  · have e : (a ++ b).take r = a.take r := List.take_append_of_le_length h2
    have hp : (a.take r).isPrefixOf (a ++ b) = true := by
      rw [← e]
      simpa using List.take_prefix r (a ++ b)
    have := lng_ge h3 hp
    rw [List.length_take] at this
    omega
theorem step_pre {ms ks : List (List Nat)} {a b : List Nat} (h : stepN ms ks (a ++ b) ≤ a.length) : stepN ms ks a = stepN ms ks (a ++ b) ∧ ended ms ks a = ended ms ks (a ++ b) := by
  have h1 : lng (a ++ b) ks ≤ a.length := by
    unfold stepN at h
    omega
  have h2 : ended ms ks (a ++ b) ≤ a.length := by
    unfold stepN at h
    omega
  have e1 := lng_pre h1
  have e2 : ended ms ks a = ended ms ks (a ++ b) := by
    unfold ended at h2 ⊢
    rw [e1]
    split
    · rename_i z
      rw [if_pos z] at h2
      exact lng_pre h2
    · rfl
  refine ⟨?_, e2⟩
  unfold stepN
  rw [e1, e2]
/-- up to the end of a piece, and behind it -/
theorem cut_split (ms ks : List (List Nat)) : ∀ (n : Nat) (acc t : List Nat) (p : List Nat) (P S : List (List Nat)), t.length ≤ n → cut ms ks acc t = (p :: P) ++ S →
    ∃ a b : List Nat, t = a ++ b ∧ (p :: P).flatten = acc ++ a ∧ cut ms ks acc a = p :: P ∧ cut ms ks [] b = S
  | n, acc, [], p, P, S, _, h => by
    rw [cut_nil] at h
    split at h
    · cases h
    · rename_i z
      simp at h
      obtain ⟨rfl, rfl, rfl⟩ := h
      refine ⟨[], [], rfl, by simp, ?_, rfl⟩
      rw [cut_nil, if_neg z]
  | 0, _, _ :: _, _, _, _, h, _ => by simp at h
  | n + 1, acc, c :: r, p, P, S, hn, h => by
    have h1 := stepN_pos ms ks (c :: r)
    have h2 : stepN ms ks (c :: r) ≤ (c :: r).length := stepN_le (by simp)
    have hl : ((c :: r).drop (stepN ms ks (c :: r))).length ≤ n := by
      rw [List.length_drop]
      simp at hn ⊢
      omega
    by_cases he : ended ms ks (c :: r) = 0
    · rw [cut_on (by simp) he] at h
      obtain ⟨a, b, e1, e2, e3, e4⟩ := cut_split ms ks n _ _ p P S hl h
      have et : c :: r = ((c :: r).take (stepN ms ks (c :: r)) ++ a) ++ b := by rw [List.append_assoc, ← e1, List.take_append_drop]
      have hla : stepN ms ks (((c :: r).take (stepN ms ks (c :: r)) ++ a) ++ b) ≤ ((c :: r).take (stepN ms ks (c :: r)) ++ a).length := by
        rw [← et, List.length_append, List.length_take]
        omega
      obtain ⟨q1, q2⟩ := step_pre hla
      rw [← et] at q1 q2
      refine ⟨_, b, et, by rw [e2, List.append_assoc], ?_, e4⟩
      have hlen : ((c :: r).take (stepN ms ks (c :: r))).length = stepN ms ks (c :: r) := by rw [List.length_take]; omega
      rw [cut_on (by intro z; rw [z] at q1; have := congrArg List.length z; rw [List.length_append, hlen] at this; simp at this; omega) (q2.trans he), q1,
        List.take_append_of_le_length (by omega), List.drop_append_of_le_length (by omega), List.take_take, Nat.min_self, List.drop_take, Nat.sub_self, List.take_zero, List.nil_append]
      exact e3
    · rw [cut_end (by simp) he] at h
      have hp : p = acc ++ (c :: r).take (stepN ms ks (c :: r)) := (List.cons.inj h).1.symm
      have hr : cut ms ks [] ((c :: r).drop (stepN ms ks (c :: r))) = P ++ S := (List.cons.inj h).2
      have hlen : ((c :: r).take (stepN ms ks (c :: r))).length = stepN ms ks (c :: r) := by rw [List.length_take]; omega
      obtain ⟨a, b, e1, e2, e3, e4⟩ : ∃ a b : List Nat, (c :: r).drop (stepN ms ks (c :: r)) = a ++ b ∧ P.flatten = a ∧ cut ms ks [] a = P ∧ cut ms ks [] b = S := by
        cases P with
        | nil => exact ⟨[], _, rfl, rfl, by rw [cut_nil, if_pos rfl], hr⟩
        | cons p' P' =>
          obtain ⟨a, b, e1, e2, e3, e4⟩ := cut_split ms ks n _ _ p' P' S hl hr
          exact ⟨a, b, e1, by simpa using e2, e3, e4⟩
      have et : c :: r = ((c :: r).take (stepN ms ks (c :: r)) ++ a) ++ b := by rw [List.append_assoc, ← e1, List.take_append_drop]
      have hla : stepN ms ks (((c :: r).take (stepN ms ks (c :: r)) ++ a) ++ b) ≤ ((c :: r).take (stepN ms ks (c :: r)) ++ a).length := by
        rw [← et, List.length_append, List.length_take]
        omega
      obtain ⟨q1, q2⟩ := step_pre hla
      rw [← et] at q1 q2
      refine ⟨_, b, et, by rw [List.flatten_cons, hp, e2, List.append_assoc], ?_, e4⟩
      rw [cut_end (by intro z; rw [z] at q1; have := congrArg List.length z; rw [List.length_append, hlen] at this; simp at this; omega) (by rw [q2]; exact he), q1,
        List.take_append_of_le_length (by omega), List.drop_append_of_le_length (by omega), List.take_take, Nat.min_self, List.drop_take, Nat.sub_self, List.take_zero, List.nil_append, e3, hp]
/-- the first k pieces are those of what they make, the others those of the rest -/
theorem cut_two {ms ks : List (List Nat)} {t : List Nat} {P S : List (List Nat)} (h : cut ms ks [] t = P ++ S) : cut ms ks [] P.flatten = P ∧ cut ms ks [] S.flatten = S ∧ t = P.flatten ++ S.flatten := by
  have hf := cut_flat ms ks t.length [] t (Nat.le_refl _)
  rw [h, List.flatten_append, List.nil_append] at hf
  cases P with
  | nil => exact ⟨by rw [List.flatten_nil, cut_nil, if_pos rfl], by rw [List.flatten_nil, List.nil_append] at hf; rw [hf]; simpa using h, hf.symm⟩
  | cons p P =>
    obtain ⟨a, b, e1, e2, e3, e4⟩ := cut_split ms ks t.length [] t p P S (Nat.le_refl _) h
    rw [List.nil_append] at e2
    have eb : S.flatten = b := by
      rw [e1, e2] at hf
      exact List.append_cancel_left hf
    exact ⟨by rw [e2]; exact e3, by rw [eb]; exact e4, hf.symm⟩
/-- a piece is its own only piece -/
theorem cut_self {ms ks : List (List Nat)} {t p : List Nat} (h : p ∈ cut ms ks [] t) : cut ms ks [] p = [p] := by
  obtain ⟨P, S, e⟩ := List.append_of_mem h
  obtain ⟨_, h2, _⟩ := cut_two e
  have := cut_two (P := [p]) (S := S) h2
  simpa using this.1
end M08
namespace L2
open M08
def pathD (ks : List Int) : D := .tup (ks.map D.int)
def ndD (p : List Int × D) : D := .tup [pathD p.1, p.2]
def leafD (p : List Int × List Nat) : D := .tup [pathD p.1, sD p.2]
/-- a tree whose texts all lie n deep -/
def Tr : Nat → D → Prop
  | 0, d => ∃ x : List Nat, d = sD x
  | n + 1, d => ∃ ds, d = .tup ds ∧ ∀ e ∈ ds, Tr n e
def nds : Nat → List Int → D → List (List Int × D)
  | n + 1, ks, .tup ds => (ks, .tup ds) :: ds.zipIdx.flatMap fun p => nds n (ks ++ [((p.2 : Nat) : Int)]) p.1
  | _, ks, d => [(ks, d)]
def lvs : Nat → List Int → D → List (List Int × List Nat)
  | n + 1, ks, .tup ds => ds.zipIdx.flatMap fun p => lvs n (ks ++ [((p.2 : Nat) : Int)]) p.1
  | 0, ks, .str x => [(ks, x.cps.toList)]
  | _, _, _ => []
def sew : Nat → D → List Nat
  | n + 1, .tup ds => (ds.map (sew n)).flatten
  | 0, .str x => x.cps.toList
  | _, _ => []
def cntN : Nat → D → Nat
  | n + 1, .tup ds => 1 + (ds.map (cntN n)).sum
  | _, _ => 1
def isS : D → Bool
  | .str _ => true
  | _ => false
theorem flatMap_zip {α β : Type} (f : α × Nat → List β) (g : α → Nat) (h : ∀ x i, (f (x, i)).length = g x) : ∀ (ds : List α) (k : Nat), ((ds.zipIdx k).flatMap f).length = (ds.map g).sum
  | [], _ => rfl
  | d :: ds, k => by
    rw [List.zipIdx_cons, List.flatMap_cons, List.length_append, h, flatMap_zip f g h ds, List.map_cons, List.sum_cons]
theorem nds_len : ∀ (n : Nat) (ks : List Int) (d : D), (nds n ks d).length = cntN n d
  | 0, ks, d => by cases d <;> rfl
  | n + 1, ks, .tup ds => by
    show _ + 1 = _
    rw [flatMap_zip _ (cntN n) (fun x i => nds_len n _ x)]
    show _ = 1 + _
    omega
  | _ + 1, _, .non => rfl
  | _ + 1, _, .bl _ => rfl
  | _ + 1, _, .int _ => rfl
  | _ + 1, _, .str _ => rfl
theorem nds_lvs : ∀ (n : Nat) (ks : List Int) (d : D), Tr n d → ((nds n ks d).filter fun p => isS p.2).map ndD = (lvs n ks d).map leafD
  | 0, ks, d, h => by
    obtain ⟨x, rfl⟩ := h
    simp [nds, lvs, isS, ndD, leafD]
  | n + 1, ks, d, h => by
    obtain ⟨ds, rfl, h⟩ := h
    have key : ∀ (es : List D) (k : Nat), (∀ e ∈ es, Tr n e) → (((es.zipIdx k).flatMap fun p => nds n (ks ++ [((p.2 : Nat) : Int)]) p.1).filter fun p => isS p.2).map ndD = (((es.zipIdx k).flatMap fun p => lvs n (ks ++ [((p.2 : Nat) : Int)]) p.1)).map leafD := by
      intro es
      induction es with
      | nil => intro k _; rfl
      | cons e es ih =>
        intro k he
        rw [List.zipIdx_cons, List.flatMap_cons, List.flatMap_cons, List.filter_append, List.map_append, List.map_append, nds_lvs n _ e (he e List.mem_cons_self), ih _ fun x hx => he x (List.mem_cons_of_mem _ hx)]
    have := key ds 0 h
    simpa [nds, lvs, isS] using this
theorem lvs_sew : ∀ (n : Nat) (ks : List Int) (d : D), ((lvs n ks d).map (·.2)).flatten = sew n d
  | 0, ks, .str x => by simp [lvs, sew]
  | 0, _, .non => rfl
  | 0, _, .bl _ => rfl
  | 0, _, .int _ => rfl
  | 0, _, .tup _ => rfl
  | n + 1, ks, .tup ds => by
    have key : ∀ (es : List D) (k : Nat), ((((es.zipIdx k).flatMap fun p => lvs n (ks ++ [((p.2 : Nat) : Int)]) p.1)).map (·.2)).flatten = (es.map (sew n)).flatten := by
      intro es
      induction es with
      | nil => intro k; rfl
      | cons e es ih =>
        intro k
        rw [List.zipIdx_cons, List.flatMap_cons, List.map_append, List.flatten_append, lvs_sew n _ e, ih, List.map_cons, List.flatten_cons]
    exact key ds 0
  | _ + 1, _, .non => rfl
  | _ + 1, _, .bl _ => rfl
  | _ + 1, _, .int _ => rfl
  | _ + 1, _, .str _ => rfl
theorem tr_tree : ∀ (ls : List (List (List Nat) × List (List Nat))) (t : List Nat), Tr ls.length (treeD ls t)
  | [], t => ⟨t, rfl⟩
  | l :: ls, t => ⟨_, rfl, fun e he => by
    obtain ⟨p, _, rfl⟩ := List.mem_map.mp he
    exact tr_tree ls p⟩
theorem sum_len (k : Nat) : ∀ ps : List (List Nat), (ps.map fun p => 1 + k * p.length).sum = ps.length + k * ps.flatten.length
  | [] => by simp
  | p :: ps => by
    rw [List.map_cons, List.sum_cons, sum_len k ps, List.length_cons, List.flatten_cons, List.length_append, Nat.mul_add]
    omega
theorem sum_mono {α : Type} {f g : α → Nat} : ∀ (ps : List α), (∀ p ∈ ps, f p ≤ g p) → (ps.map f).sum ≤ (ps.map g).sum
  | [], _ => Nat.le_refl _
  | p :: ps, h => by
    rw [List.map_cons, List.sum_cons, List.map_cons, List.sum_cons]
    exact Nat.add_le_add (h p List.mem_cons_self) (sum_mono ps fun q hq => h q (List.mem_cons_of_mem _ hq))
theorem cnt_tree : ∀ (ls : List (List (List Nat) × List (List Nat))) (t : List Nat), cntN ls.length (treeD ls t) ≤ 1 + ls.length * t.length
  | [], t => by
    show 1 ≤ _
    omega
  | l :: ls, t => by
    show 1 + (((cut l.1 l.2 [] t).map (treeD ls)).map (cntN ls.length)).sum ≤ _
    rw [List.map_map]
    have h1 := sum_mono (f := cntN ls.length ∘ treeD ls) (g := fun p => 1 + ls.length * p.length) (cut l.1 l.2 [] t) fun p _ => cnt_tree ls p
    rw [sum_len, cut_flat l.1 l.2 t.length [] t (Nat.le_refl _), List.nil_append] at h1
    have h2 := (cut_le l.1 l.2 t.length [] t (Nat.le_refl _)).2.1 rfl
    rw [List.length_cons, Nat.add_mul]
    omega
theorem sew_tree : ∀ (ls : List (List (List Nat) × List (List Nat))) (t : List Nat), sew ls.length (treeD ls t) = t
  | [], t => by simp [sew, treeD]
  | l :: ls, t => by
    show (((cut l.1 l.2 [] t).map (treeD ls)).map (sew ls.length)).flatten = t
    rw [List.map_map]
    have e : (sew ls.length ∘ treeD ls) = id := by
      funext p
      exact sew_tree ls p
    rw [e, List.map_id, cut_flat l.1 l.2 t.length [] t (Nat.le_refl _), List.nil_append]
theorem lvs_cnt : ∀ (n : Nat) (ks : List Int) (d : D), (lvs n ks d).length ≤ cntN n d
  | 0, ks, d => by cases d <;> simp [lvs, cntN]
  | n + 1, ks, .tup ds => by
    have key : ∀ (es : List D) (k : Nat), (((es.zipIdx k).flatMap fun p => lvs n (ks ++ [((p.2 : Nat) : Int)]) p.1)).length ≤ (es.map (cntN n)).sum := by
      intro es
      induction es with
      | nil => intro k; exact Nat.le_refl _
      | cons e es ih =>
        intro k
        rw [List.zipIdx_cons, List.flatMap_cons, List.length_append, List.map_cons, List.sum_cons]
        exact Nat.add_le_add (lvs_cnt n _ e) (ih _)
    have := key ds 0
    show _ ≤ 1 + _
    exact Nat.le_trans this (Nat.le_add_left _ _)
  | _ + 1, _, .non => Nat.zero_le _
  | _ + 1, _, .bl _ => Nat.zero_le _
  | _ + 1, _, .int _ => Nat.zero_le _
  | _ + 1, _, .str _ => Nat.zero_le _
theorem join_flat {y : PySem.Str} (hy : y = ⟨#[]⟩) : ∀ xs : List (List Nat), PySem.Str.join y (xs.map fun r => (⟨r.toArray⟩ : PySem.Str)) = ⟨xs.flatten.toArray⟩
  | [] => by simp [PySem.Str.join]; rfl
  | [x] => by simp [PySem.Str.join]
  | x :: z :: r => by
    have ih := join_flat hy (z :: r)
    rw [List.map_cons] at ih
    rw [List.map_cons, List.map_cons]
    show (⟨x.toArray⟩ : PySem.Str) ++ y ++ PySem.Str.join y _ = _
    rw [ih, hy, show (⟨#[]⟩ : PySem.Str) = ⟨([] : List Nat).toArray⟩ from rfl, cat_T, cat_T, List.append_nil]
    simp
theorem join_flat_fits {y : PySem.Str} (hy : y = ⟨#[]⟩) (xs : List (List Nat)) (h : xs.flatten.length ≤ 1000000) : ((xs.map fun r => (⟨r.toArray⟩ : PySem.Str)).map (·.length)).sum + (xs.map fun r => (⟨r.toArray⟩ : PySem.Str)).length * y.length ≤ 16777216 := by
  have e : ((xs.map fun r => (⟨r.toArray⟩ : PySem.Str)).map (·.length)).sum = xs.flatten.length := by
    clear h
    induction xs with
    | nil => rfl
    | cons c r ih =>
      rw [List.map_cons, List.map_cons, List.sum_cons, ih, List.flatten_cons, List.length_append, lenT]
  have e2 : y.length = 0 := by rw [hy]; rfl
  rw [e, e2, Nat.mul_zero]
  omega
end L2
set_option Elab.async false
set_option linter.all false
set_option maxRecDepth 100000
set_option maxHeartbeats 4000000
namespace Mine
open PySem L2 PyProof.Rows
def top (i : Nat) : Stmt := PySem.Challenge.pw_twainkeep_k26_begun.main.body.getD i (.Pass ⟨0, 0, 0, 0⟩)
abbrev sIsNumber : Stmt := top 2
abbrev sIsMoment : Stmt := top 3
abbrev sIsSign : Stmt := top 4
abbrev sIsText : Stmt := top 5
abbrev sIsRowOf : Stmt := top 6
abbrev sRises : Stmt := top 7
abbrev sIsName : Stmt := top 11
abbrev sNameAt : Stmt := top 12
abbrev sAreMoments : Stmt := top 14
abbrev sAreNames : Stmt := top 15
abbrev sIsPart : Stmt := top 16
abbrev sAreParts : Stmt := top 17
abbrev sIsLink : Stmt := top 18
abbrev sAreLinks : Stmt := top 19
abbrev sLinkedNames : Stmt := top 20
abbrev sNamesOf : Stmt := top 21
abbrev sAreUnlike : Stmt := top 22
abbrev sAreAmong : Stmt := top 23
abbrev sIsBook : Stmt := top 24
abbrev sLongestAt : Stmt := top 26
abbrev sPiecesOf : Stmt := top 27
abbrev sCutUp : Stmt := top 28
abbrev sNodesOf : Stmt := top 29
abbrev sLeaves : Stmt := top 30
abbrev sBegun : Stmt := top 32
abbrev sNewParts : Stmt := top 33
abbrev sPot : Stmt := top 35
abbrev sNext : Stmt := top 36
abbrev sTexts : Stmt := top 37
abbrev sRules : Stmt := top 38
abbrev sText : Stmt := top 39
abbrev sName : Stmt := top 40
abbrev sLaw : Stmt := top 41
/-! ### cutting by a level -/
def spLong : Sp := fun vs H Q _ => ∃ (t : List Nat) (i : Nat) (p : Addr) (cs : List (List Nat)), vs = [.str ⟨t.toArray⟩, .int (i : Nat), .ref p] ∧ H p = some (.tup (cs.map mkT)) ∧ OkC cs ∧ t.length ≤ 1000 ∧ i ≤ t.length ∧ ∀ H', Same H H' → Q (.int ((M08.lng (t.drop i) cs : Nat) : Int)) H'
def spPieces : Sp := fun vs H Q _ => ∃ (t : List Nat) (v : V) (ms ks : List (List Nat)), vs = [.str ⟨t.toArray⟩, v] ∧ Den H v (lvD ms ks) ∧ OkC ms ∧ OkC ks ∧ t.length ≤ 1000 ∧ ∀ (q : Addr) (H' : Hp), Same H H' → H' q = some (.tup ((M08.cut ms ks [] t).map mkT)) → Q (.ref q) H'
section
open M08
variable {P : Program} {w : World} {K : PySem.W.Frag} {mg : Str → Option Value} {base : Heap}
theorem scLongestAt : FnScope ["text", "place", "choices"] ["text", "place", "choices"] (defScope sLongestAt) := ⟨rfl, rfl, rfl, by decide +kernel, rfl, by decide +kernel, by decide +kernel⟩
theorem c_longest_at (h : Has K mg "longest_at" sLongestAt ["text", "place", "choices"]) (m_max : mg "max" = none) (m_len : mg "len" = none) : Cal P w K mg base "longest_at" 1 ["text", "place", "choices"] spLong := by
  refine h.mk' scLongestAt (fun vs H Q E hs => ?_) (fun f cdv A outer s H vs Q E hr hs => ?_)
  · obtain ⟨t, i, p, cs, rfl, _⟩ := hs
    rfl
  obtain ⟨t, i, p, cs, rfl, hp, hc, ht, hit, k⟩ := hs
  refine ⟨_, (pss_one (ps_ret (pe_maxD rfl m_max rfl (pe_compL ["text", "place", "choices"] (defScope sLongestAt) ["text", "place", "choice"] [some 0, some 1, none] rfl rfl rfl (pi_tup (pv 2)) rfl (by decide +kernel) (by decide +kernel) (by decide +kernel) (by decide +kernel) (hg := fun cl C s H ex pn E => (pg_name (i := 2) (by decide +kernel : (["text", "place", "choice"] : List Str).Nodup) rfl (Or.inl rfl))) (ht := fun cl C s H ex pn E => (pifs_one (pt_val (pe_bmK (K := K) rfl PySem.F.plainAttrs_str PySem.F.slot_str_startswith PySem.F.type_str_startswith mt_starts (pv 0) (pa_cons (pv 2) (pa_cons (pv 1) pa_nil)))))) (he := fun cl C s H ex pn E => (pe_callB call_len_str rfl m_len PySem.boot_len (pa_cons (pv 2) pa_nil))))))), ?_⟩
  refine ⟨_, rfl, p, rfl, ⟨_, SqT.of hp⟩, fun l hl => ?_⟩
  have npl : p ≠ l := ne_of_none hp hl
  refine comp_by (J := Itt K p) (l := l) cs.length (fun j σ' H' => ∃ v : Option V, σ' = [some (.str ⟨t.toArray⟩), some (.int (i : Nat)), v] ∧ H' = upd H l (.lst ((lensN (t.drop i) cs j).map V.int))) ⟨none, rfl, rfl⟩ ?_ ?_
  · rintro σ' H' ⟨v, rfl, rfl⟩
    refine ⟨⟨_, SqT.of ((upd_ne npl).trans hp), by simp⟩, l, _, rfl, SqL.of upd_same, fun n hn => ?_, ?_⟩
    · obtain ⟨c, _, rfl⟩ := List.mem_map.mp hn
      omega
    · have e : (lensN (t.drop i) cs cs.length).foldr max 0 = ((lng (t.drop i) cs : Nat) : Int) := by
        unfold lensN
        rw [List.take_length]
        exact lens_max _ _
      rw [e]
      exact k _ (same_new hl _)
  · rintro j σ' H' hj ⟨v, rfl, rfl⟩
    have hp' : (upd H l (.lst ((lensN (t.drop i) cs j).map V.int))) p = some (.tup (cs.map mkT)) := (upd_ne npl).trans hp
    refine ⟨⟨_, _, SqT.of hp', at_T hj⟩, ?_⟩
    rintro y H'' ⟨rfl, hy⟩
    have ey : y = mkT cs[j] := Option.some.inj ((hy _ (SqT.of hp')).symm.trans (at_T hj))
    subst ey
    have hcj := hc.size cs[j] (List.getElem_mem hj)
    have hfew := hc.few
    refine gN ⟨_, rfl, rfl, _, rfl, _, rfl, _, _, i, rfl, rfl, by rw [lenT]; exact hit, _, rfl, ?_⟩
    have hsuc := lensN_succ (t := t.drop i) hj
    refine ite2 (fun h => ?_) (fun h => ?_)
    · have h' : cs[j].isPrefixOf (t.drop i) = true := h
      rw [if_pos h'] at hsuc
      refine ⟨_, rfl, _, rfl, small (by rw [lenT]; omega), _, upd_same, ?_, _, rfl, ?_⟩
      · rw [List.length_map]
        exact Nat.lt_of_le_of_lt (lensN_le _ _ _) (small1000 (by omega))
      · rw [upd_upd, hsuc, List.map_append, lenT]
        rfl
    · have h' : ¬ cs[j].isPrefixOf (t.drop i) = true := h
      rw [if_neg h', List.append_nil] at hsuc
      rw [← hsuc]
      exact ⟨_, rfl, rfl⟩
def PInv (t : List Nat) (ms ks : List (List Nat)) (p pm pk l : Addr) (H : Hp) (m : Nat) (σ : L2.St) (H2 : Hp) : Prop :=
  ∃ (b e : Nat) (v7 v8 : Option V) (ps : List (List Nat)), m = t.length - e ∧ b ≤ e ∧ e ≤ t.length ∧ σ = [some (.str ⟨t.toArray⟩), some (.ref p), some (.ref pm), some (.ref pk), some (.ref l), some (.int (b : Nat)), some (.int (e : Nat)), v7, v8] ∧
    H2 l = some (.lst (ps.map mkT)) ∧ Same H H2 ∧ ps ++ cut ms ks ((t.drop b).take (e - b)) (t.drop e) = cut ms ks [] t ∧ ps.length ≤ e
theorem ended_read {t : List Nat} {ms ks : List (List Nat)} {p pm pk l : Addr} {b e : Nat} {v8 : Option V} {H3 : Hp} {Q : VK} (hpm : H3 pm = some (.tup (ms.map mkT))) (hm : OkC ms) (ht : t.length ≤ 1000) (he : e ≤ t.length)
    (fin : ∀ H4, Same H3 H4 → Q (.int ((ended ms ks (t.drop e) : Nat) : Int)) H4) :
    tIf (fun σ H Q => tVar 7 σ H fun x H' => ∃ k, TruV K x H' k ∧ Q k H') (tC (.int 0)) (tCall spLong [] E0 (tCons (tVar 0) (tCons (tVar 6) (tCons (tVar 2) tNil))))
      [some (.str ⟨t.toArray⟩), some (.ref p), some (.ref pm), some (.ref pk), some (.ref l), some (.int (b : Nat)), some (.int (e : Nat)), some (.int ((lng (t.drop e) ks : Nat) : Int)), v8] H3 Q := by
  refine ⟨_, rfl, _, rfl, ?_⟩
  refine ite2 (fun c => ?_) (fun c => ?_)
  · have hne : lng (t.drop e) ks ≠ 0 := fun z => by rw [z] at c; exact absurd c (by decide)
    have q := fin H3 (Same.refl _)
    unfold ended at q
    rw [if_neg hne] at q
    exact q
  · have hz : lng (t.drop e) ks = 0 := by
      by_cases z : lng (t.drop e) ks = 0
      · exact z
      · exact absurd (bne_iff_ne.mpr (show ((lng (t.drop e) ks : Nat) : Int) ≠ 0 by omega)) c
    refine ⟨_, rfl, _, rfl, _, rfl, t, e, pm, ms, rfl, hpm, hm, ht, he, fun H4 s4 => ?_⟩
    have q := fin H4 s4
    unfold ended at q
    rw [if_pos hz] at q
    exact q
theorem scPiecesOf : FnScope ["text", "level", "marks", "kept", "pieces", "begin", "place", "passed", "ended"] ["text", "level"] (defScope sPiecesOf) := ⟨rfl, rfl, rfl, by decide +kernel, rfl, by decide +kernel, by decide +kernel⟩
theorem c_pieces_of (h : Has K mg "pieces_of" sPiecesOf ["text", "level"]) (C_longest_at : Cal P w K mg base "longest_at" 1 ["text", "place", "choices"] spLong) (m_len : mg "len" = none) (m_max : mg "max" = none) (m_tuple : mg "tuple" = none) : Cal P w K mg base "pieces_of" 2 ["text", "level"] spPieces := by
  refine h.mk' scPiecesOf (fun vs H Q E hs => ?_) (fun f cdv A outer s H vs Q E hr hs => ?_)
  · obtain ⟨t, v, ms, ks, rfl, _⟩ := hs
    rfl
  obtain ⟨t, v, ms, ks, rfl, hv, hm, hk, ht, kk⟩ := hs
  obtain ⟨p, pm, pk, rfl, hp, hpm, hpk⟩ := den_lv hv
  refine ⟨_, (pss_cons (ps_set (i := 2) scPiecesOf.nd rfl (Or.inl rfl) (pe_ix ix_tup (pv 1) pe_int (fun _ _ => rfl)))
    (pss_cons (ps_set (i := 3) scPiecesOf.nd rfl (Or.inl rfl) (pe_ix ix_tup (pv 1) pe_int (fun _ _ => rfl)))
    (pss_cons (ps_set (i := 4) scPiecesOf.nd rfl (Or.inl rfl) (pe_lst pa_nil))
    (pss_cons (ps_set (i := 5) scPiecesOf.nd rfl (Or.inl rfl) pe_int)
    (pss_cons (ps_set (i := 6) scPiecesOf.nd rfl (Or.inl rfl) pe_int)
    (pss_cons (ps_while PassesOwn.never (pt_cmpR op_lt (pv 6) (pe_callB call_len_str rfl m_len PySem.boot_len (pa_cons (pv 0) pa_nil)) (nomark _))
      (pss_cons (ps_set (i := 7) scPiecesOf.nd rfl (Or.inl rfl) (pe_cal C_longest_at hr (by decide) rfl (pa_cons (pv 0) (pa_cons (pv 6) (pa_cons (pv 3) pa_nil)))))
    (pss_cons (ps_set (i := 8) scPiecesOf.nd rfl (Or.inl rfl) (pe_ifExp (pt_truth (pv 7) (by intro _; rfl)) pe_int (pe_cal C_longest_at hr (by decide) rfl (pa_cons (pv 0) (pa_cons (pv 6) (pa_cons (pv 2) pa_nil))))))
    (pss_cons (ps_aug (i := 6) scPiecesOf.nd rfl (Or.inl rfl) (pe_callB (call_max3 rfl) rfl m_max boot_max (pa_cons (pv 7) (pa_cons (pv 8) (pa_cons pe_int pa_nil)))) iop_add)
    (pss_one (ps_if (pt_truth (pv 8) (by intro _; rfl))
      (pss_cons (ps_expr (pe_bm PySem.F.plainAttrs_list PySem.F.slot_list_append PySem.F.type_list_append mt_append (pv 4) (pa_cons (pe_slice sl_str (pv 0) (po_some (pv 5)) (po_some (pv 6))) pa_nil)))
    (pss_one (ps_set (i := 5) scPiecesOf.nd rfl (Or.inl rfl) (pv 6))))
      pss_nil))))))
    (pss_cons (ps_if (pt_cmpR op_lt (pv 5) (pe_callB call_len_str rfl m_len PySem.boot_len (pa_cons (pv 0) pa_nil)) (nomark _))
      (pss_one (ps_expr (pe_bm PySem.F.plainAttrs_list PySem.F.slot_list_append PySem.F.type_list_append mt_append (pv 4) (pa_cons (pe_slice sl_str (pv 0) (po_some (pv 5)) po_none) pa_nil))))
      pss_nil)
    (pss_one (ps_ret (pe_callTy call_tuple_of rfl m_tuple boot_tuple (pa_cons (pv 4) pa_nil))))))))))), ?_⟩
  have hz : (⟨t.toArray⟩ : Str).length ≤ sizeLine := small (by rw [lenT]; omega)
  refine ⟨_, rfl, p, _, _, _, rfl, rfl, SqT.of hp, rfl, ?_⟩
  refine ⟨_, rfl, p, _, _, _, rfl, rfl, SqT.of hp, rfl, ?_⟩
  refine ⟨smn 0, fun l hl => ?_⟩
  refine ⟨PInv t ms ks p pm pk l H, ⟨t.length, 0, 0, none, none, [], rfl, Nat.le_refl _, Nat.zero_le _, rfl, upd_same, same_new hl _, rfl, Nat.le_refl _⟩, ?_⟩
  rintro m σ H2 ⟨b, e, v7, v8, ps, rfl, h1, h2, rfl, hl2, hS, hcut, hpl⟩
  refine ⟨_, rfl, _, rfl, _, rfl, hz, _, _, rfl, rfl, _, rfl, ?_⟩
  rw [lenT]
  refine ite2 (fun c => ?_) (fun c => ?_)
  · have hlt : e < t.length := by
      have := of_decide_eq_true c
      omega
    refine ⟨fun σ' H' => ∃ m', m' < t.length - e ∧ PInv t ms ks p pm pk l H m' σ' H', fun _ _ z => z, ?_⟩
    have hne : t.drop e ≠ [] := fun z => by
      have := congrArg List.length z
      rw [List.length_drop] at this
      simp at this
      omega
    have hs1 := stepN_pos ms ks (t.drop e)
    have hs2 : stepN ms ks (t.drop e) ≤ t.length - e := by
      have := stepN_le (ms := ms) (ks := ks) hne
      rw [List.length_drop] at this
      exact this
    refine ⟨_, rfl, _, rfl, _, rfl, t, e, pk, ks, rfl, hS _ _ hpk, hk, ht, by omega, fun H3 s3 => ?_⟩
    refine ended_read (s3 _ _ (hS _ _ hpm)) hm ht (by omega) fun H4 s4 => ?_
    have hl4 : H4 l = some (.lst (ps.map mkT)) := s4 _ _ (s3 _ _ hl2)
    have hS4 : Same H H4 := hS.trans (s3.trans s4)
    refine ⟨_, rfl, _, rfl, _, rfl, _, _, _, rfl, _, _, rfl, rfl, ?_⟩
    have epl : ((e : Nat) : Int) + max (max ((lng (t.drop e) ks : Nat) : Int) ((ended ms ks (t.drop e) : Nat) : Int)) 1 = ((e + stepN ms ks (t.drop e) : Nat) : Int) := by
      unfold stepN
      omega
    dsimp only
    rw [epl]
    refine ⟨_, rfl, _, rfl, ?_⟩
    have htk : (t.drop b).take (e + stepN ms ks (t.drop e) - b) = (t.drop b).take (e - b) ++ (t.drop e).take (stepN ms ks (t.drop e)) := by
      have e1 : e + stepN ms ks (t.drop e) - b = (e - b) + stepN ms ks (t.drop e) := by omega
      rw [e1, List.take_add, List.drop_drop]
      congr 2
      congr 1
      omega
    have hdr : (t.drop e).drop (stepN ms ks (t.drop e)) = t.drop (e + stepN ms ks (t.drop e)) := by rw [List.drop_drop]
    refine ite2 (fun d => ?_) (fun d => ?_)
    · have hen : ended ms ks (t.drop e) ≠ 0 := fun z => by rw [z] at d; exact absurd d (by decide)
      refine ⟨_, rfl, .inl ⟨rfl, _, SqL.of hl4⟩, _, rfl, _, rfl, _, rfl, _, rfl, _, rfl, _, rfl, hz, ?_⟩
      refine ⟨l, _, _, rfl, rfl, hl4, by rw [List.length_map]; exact small1000 (by omega), ?_⟩
      rw [slice_bo t (by omega)]
      refine ⟨_, rfl, t.length - (e + stepN ms ks (t.drop e)), by omega, e + stepN ms ks (t.drop e), e + stepN ms ks (t.drop e), _, _, ps ++ [(t.drop b).take (e + stepN ms ks (t.drop e) - b)], rfl, Nat.le_refl _, by omega, rfl, ?_, ?_, ?_, ?_⟩
      · rw [upd_same, List.map_append]
        rfl
      · intro c o z
        rw [upd_ne (ne_of_none z hl)]
        exact hS4 c o z
      · rw [Nat.sub_self, List.take_zero, ← hcut, cut_end hne hen, hdr, htk, List.append_assoc]
        rfl
      · rw [List.length_append]
        show _ + 1 ≤ _
        omega
    · have hen : ended ms ks (t.drop e) = 0 := by
        by_cases z : ended ms ks (t.drop e) = 0
        · exact z
        · exact absurd (bne_iff_ne.mpr (show ((ended ms ks (t.drop e) : Nat) : Int) ≠ 0 by omega)) d
      refine ⟨t.length - (e + stepN ms ks (t.drop e)), by omega, b, e + stepN ms ks (t.drop e), _, _, ps, rfl, by omega, by omega, rfl, hl4, hS4, ?_, by omega⟩
      rw [← hcut, cut_on hne hen, hdr, htk]
  · have hge : e = t.length := by
      by_cases z : e < t.length
      · exact absurd (decide_eq_true (show ((e : Nat) : Int) < ((t.length : Nat) : Int) by omega)) c
      · omega
    subst hge
    rw [List.drop_length, cut_nil] at hcut
    have fin : ∀ (H3 : Hp) (rs : List (List Nat)), Same H H3 → H3 l = some (.lst (rs.map mkT)) → rs = cut ms ks [] t → ∀ v7 v8 : Option V,
        tRet (tCB (fun xs H Q => ∃ p ys, xs = [.ref p] ∧ ((SqL K H p ys ∧ ∀ l, H l = none → Q (.ref l) (upd H l (.tup ys))) ∨ (SqT K H p ys ∧ Q (.ref p) H))) (tCons (tVar 4) tNil)) { nx := fun _ H' => Q .non H', rt := Q }
        [some (.str ⟨t.toArray⟩), some (.ref p), some (.ref pm), some (.ref pk), some (.ref l), some (.int (b : Nat)), some (.int ((t.length : Nat) : Int)), v7, v8] H3 := fun H3 rs s3 e3 er v7 v8 => by
      refine ⟨_, rfl, l, _, rfl, .inl ⟨SqL.of e3, fun q hq => ?_⟩⟩
      refine kk q _ (s3.trans (same_new hq _)) ?_
      rw [upd_same, er]
    refine ⟨_, rfl, _, rfl, _, rfl, hz, _, _, rfl, rfl, _, rfl, ?_⟩
    rw [lenT]
    refine ite2 (fun d => ?_) (fun d => ?_)
    · have hb : b < t.length := by
        have := of_decide_eq_true d
        omega
      refine ⟨_, rfl, .inl ⟨rfl, _, SqL.of hl2⟩, _, rfl, _, rfl, _, rfl, _, rfl, hz, ?_⟩
      refine ⟨l, _, _, rfl, rfl, hl2, by rw [List.length_map]; exact small1000 (by omega), ?_⟩
      rw [slice_fr]
      refine fin _ (ps ++ [t.drop b]) (fun c o z => by rw [upd_ne (ne_of_none z hl)]; exact hS c o z) (by rw [upd_same, List.map_append]; rfl) ?_ _ _
      rw [← hcut]
      have : (t.drop b).take (t.length - b) = t.drop b := List.take_of_length_le (by rw [List.length_drop]; omega)
      rw [this, if_neg (fun z => by
        have := congrArg List.length z
        rw [List.length_drop] at this
        simp at this
        omega)]
    · have hb : b = t.length := by
        by_cases z : b < t.length
        · exact absurd (decide_eq_true (show ((b : Nat) : Int) < ((t.length : Nat) : Int) by omega)) d
        · omega
      refine fin _ ps hS hl2 ?_ _ _
      rw [← hcut, hb, List.drop_length]
      simp
end
/-! ### level by level -/
abbrev Lvl := List (List Nat) × List (List Nat)
def rulesD (ls : List Lvl) : D := .tup (ls.map fun l => lvD l.1 l.2)
def OkL (ls : List Lvl) : Prop := ∀ l ∈ ls, OkC l.1 ∧ OkC l.2
def spCut : Nat → Sp
  | 0 => fun _ _ _ _ => False
  | n + 1 => fun vs H Q _ => ∃ (t : List Nat) (v : V) (ls : List Lvl), vs = [.str ⟨t.toArray⟩, v] ∧ Den H v (rulesD ls) ∧ ls ≠ [] ∧ ls.length ≤ n + 1 ∧ OkL ls ∧ t.length ≤ 1000 ∧ ∀ (q : Addr) (H' : Hp), Same H H' → Den H' (.ref q) (treeD ls t) → Q (.ref q) H'
section
open M08
variable {P : Program} {w : World} {K : PySem.W.Frag} {mg : Str → Option Value} {base : Heap}
theorem cutV_one (x : V) (xs : List V) : cutV (x :: xs) (some 1) none = xs := by
  unfold cutV
  have e1 : HT.sIx (x :: xs).length 0 (some 1) = 1 := by
    have := HT.sIx_nat (x :: xs).length 0 1
    rw [show ((1 : Nat) : Int) = 1 from rfl] at this
    rw [this, List.length_cons]
    omega
  rw [e1, HT.sIx_none]
  simp
theorem scCutUp : FnScope ["text", "rules", "pieces"] ["text", "rules"] (defScope sCutUp) := ⟨rfl, rfl, rfl, by decide +kernel, rfl, by decide +kernel, by decide +kernel⟩
theorem c_cut_up (h : Has K mg "cut_up" sCutUp ["text", "rules"]) (C_pieces_of : Cal P w K mg base "pieces_of" 2 ["text", "level"] spPieces) (m_len : mg "len" = none) (m_tuple : mg "tuple" = none) :
    ∀ n : Nat, Cal P w K mg base "cut_up" (n + 2) ["text", "rules"] (spCut n)
  | 0 => (h.never fun _ _ _ _ z => z).mono (by omega)
  | n + 1 => by
    have C_cut_up := c_cut_up h C_pieces_of m_len m_tuple n
    refine h.mk' scCutUp (fun vs H Q E hs => ?_) (fun f cdv A outer s H vs Q E hr hs => ?_)
    · obtain ⟨t, v, ls, rfl, _⟩ := hs
      rfl
    obtain ⟨t, v, ls, rfl, hv, hnn, hln, hok, ht, kk⟩ := hs
    refine ⟨_, (pss_cons (ps_set (i := 2) scCutUp.nd rfl (Or.inl rfl) (pe_cal C_pieces_of hr (by omega) rfl (pa_cons (pv 0) (pa_cons (pe_ix ix_tup (pv 1) pe_int (fun _ _ => rfl)) pa_nil))))
    (pss_cons (ps_if (pt_cmpR op_eq (pe_callB call_len_seq rfl m_len PySem.boot_len (pa_cons (pv 1) pa_nil)) pe_int (nomark _))
      (pss_one (ps_ret (pv 2)))
      pss_nil)
    (pss_one (ps_ret (pe_callTy call_tuple_of rfl m_tuple boot_tuple (pa_cons (pe_compL ["text", "rules", "pieces"] (defScope sCutUp) ["rules", "piece"] [some 1, none] rfl rfl rfl (pi_tup (pv 2)) rfl (by decide +kernel) (by decide +kernel) (by decide +kernel) (by decide +kernel) (hg := fun cl C s H ex pn E => (pg_name (i := 1) (by decide +kernel : (["rules", "piece"] : List Str).Nodup) rfl (Or.inl rfl))) (ht := fun cl C s H ex pn E => pifs_nil) (he := fun cl C s H ex pn E => (pe_cal C_cut_up hr (by omega) rfl (pa_cons (pv 1) (pa_cons (pe_slice (sl_tupK (K := K) rfl) (pv 0) (po_some pe_int) po_none) pa_nil))))) pa_nil)))))), ?_⟩
    obtain ⟨p, rs, rfl, hp, hd⟩ := den_tup hv
    match ls, rs, hnn, hln, hd, hp, hok, kk with
    | l :: ls, r :: rs, _, hln, hd, hp, hok, kk =>
      have hln' : ls.length ≤ n := by simpa using hln
      refine ⟨_, rfl, _, rfl, p, _, _, _, rfl, rfl, SqT.of hp, atI_zero r rs, t, r, l.1, l.2, rfl, hd.1, (hok l List.mem_cons_self).1, (hok l List.mem_cons_self).2, ht, fun q H1 s1 e1 => ?_⟩
      refine ⟨_, rfl, p, _, rfl, .inr (SqT.of (s1 _ _ hp)), rfl, _, rfl, ?_⟩
      have hrl : rs.length = ls.length := by
        have := hd.2.len
        simpa using this
      by_cases els : ls = []
      · have ers : rs = [] := List.eq_nil_of_length_eq_zero (by rw [hrl, els]; rfl)
        subst els
        subst ers
        refine (iteT ?_ : if decide (V.int ((([r] : List V).length : Nat) : Int) = V.int 1) = true then _ else _)
        exact ⟨_, rfl, kk q H1 s1 ⟨q, _, rfl, e1, denl_of H1 _⟩⟩
      · have hl0 : 0 < ls.length := List.length_pos_iff.mpr els
        obtain ⟨m, rfl⟩ : ∃ m, n = m + 1 := ⟨n - 1, by omega⟩
        have hne : ¬ (V.int (((r :: rs).length : Nat) : Int) = V.int 1) := fun z => by
          injection z with z1
          rw [List.length_cons] at z1
          omega
        rw [decide_eq_false hne]
        refine iteF ?_
        generalize hpc : cut l.1 l.2 [] t = pcs at e1
        have hcl := cut_le l.1 l.2 t.length [] t (Nat.le_refl _)
        rw [hpc] at hcl
        refine ⟨_, rfl, q, rfl, ⟨_, SqT.of e1⟩, fun lc hlc => ?_⟩
        refine comp_by (J := Itt K q) (l := lc) pcs.length (fun i σ' H' => ∃ (v : Option V) (us : List V), σ' = [some (.ref p), v] ∧ Same H1 H' ∧ H' lc = some (.lst us) ∧ DenL H' us ((pcs.take i).map (treeD ls))) ⟨none, [], rfl, same_new hlc _, upd_same, trivial⟩ ?_ ?_
        · rintro σ' H' ⟨v, us, rfl, hs, hl', hd'⟩
          refine ⟨⟨_, SqT.of (hs _ _ e1), by simp⟩, lc, us, rfl, .inl ⟨SqL.of hl', fun q2 hq2 => ?_⟩⟩
          rw [List.take_length] at hd'
          refine kk q2 _ (s1.trans (hs.trans (same_new hq2 _))) ⟨q2, us, rfl, upd_same, ?_⟩
          rw [hpc]
          exact hd'.same (same_new hq2 _)
        · rintro i σ' H' hi ⟨v, us, rfl, hs, hl', hd'⟩
          have hat : (pcs.map mkT)[i]? = some (mkT pcs[i]) := at_T hi
          refine ⟨⟨_, _, SqT.of (hs _ _ e1), hat⟩, ?_⟩
          rintro y H'' ⟨rfl, hy⟩
          have ey : y = mkT pcs[i] := Option.some.inj ((hy _ (SqT.of (hs _ _ e1))).symm.trans hat)
          subst ey
          have hpi := hcl.2.2 pcs[i] (List.getElem_mem hi)
          have hpH : H'' p = some (.tup (r :: rs)) := hs _ _ (s1 _ _ hp)
          refine gN (yesT (iteT ?_))
          refine ⟨_, rfl, _, rfl, _, rfl, p, _, rfl, SqT.of hpH, ?_, fun p2 hp2 => ?_⟩
          · rintro ⟨z, _⟩
            have := HT.sIx_nat (r :: rs).length 0 1
            rw [show ((1 : Nat) : Int) = 1 from rfl] at this
            rw [this, List.length_cons] at z
            omega
          · rw [cutV_one]
            have s2 : Same H'' (upd H'' p2 (.tup rs)) := same_new hp2 _
            refine ⟨pcs[i], _, ls, rfl, ⟨p2, rs, rfl, upd_same, (hd.2.same (s1.trans (hs.trans s2)))⟩, els, hln', fun l' hl'' => hok l' (List.mem_cons_of_mem _ hl''), by simp at hpi; omega, fun q3 H3 s3 d3 => ?_⟩
            have hl3 : H3 lc = some (.lst us) := s3 _ _ (s2 _ _ hl')
            have hul := hd'.len
            rw [List.length_map, List.length_take] at hul
            have hpl : pcs.length ≤ t.length := hcl.2.1 rfl
            refine ⟨us, hl3, small1000 (by omega), _, us ++ [.ref q3], rfl, ?_, upd_same, ?_⟩
            · intro c o z
              have hlH : H1 lc = none := hlc
              rw [upd_ne (ne_of_none z hlH)]
              exact s3 _ _ (s2 _ _ (hs c o z))
            · have hup : ∀ {v : V} {d : D}, Den H3 v d → Den (upd H3 lc (.lst (us ++ [.ref q3]))) v d := fun z => Den.keepT (fun b vs e => by rw [upd_ne (ne_of e hl3 (by intro z; cases z))]; exact e) z
              have htk : (pcs.take (i + 1)).map (treeD ls) = (pcs.take i).map (treeD ls) ++ [treeD ls pcs[i]] := by
                rw [List.take_add_one, List.getElem?_eq_getElem hi, List.map_append]
                rfl
              rw [htk]
              exact DenL.snoc (hup d3) (DenL.keepT (fun b vs e => by rw [upd_ne (ne_of e hl3 (by intro z; cases z))]; exact e) ((hd'.same s2).same s3))
    | [], _, hnn, _, _, _, _, _ => exact absurd rfl hnn
    | _ :: _, [], _, _, hd, _, _, _ => exact hd.elim
end
/-! ### the nodes of a tree, its leaves, and these put together -/
def spLeaves : Sp := fun vs H Q _ => ∃ (v : V) (m : Nat) (d : D), vs = [v] ∧ Den H v d ∧ m ≤ 6 ∧ Tr m d ∧ cntN m d ≤ 100000 ∧ ∀ (q : Addr) (H' : Hp), Same H H' → Den H' (.ref q) (.tup ((lvs m [] d).map leafD)) → Q (.ref q) H'
def spSewn : Sp := fun vs H Q _ => ∃ (v : V) (m : Nat) (d : D), vs = [v] ∧ Den H v d ∧ m ≤ 6 ∧ Tr m d ∧ cntN m d ≤ 100000 ∧ (sew m d).length ≤ 100000 ∧ ∀ (H' : Hp), Same H H' → Q (.str ⟨(sew m d).toArray⟩) H'
def spNodes : Nat → Sp
  | 0 => fun _ _ _ _ => False
  | n + 1 => fun vs H Q _ => ∃ (v p : V) (m : Nat) (d : D) (ks : List Int), vs = [v, p] ∧ Den H v d ∧ Den H p (pathD ks) ∧ m ≤ n ∧ Tr m d ∧ cntN m d ≤ 100000 ∧ ks.length + m ≤ 100 ∧ ∀ (q : Addr) (us : List V) (H' : Hp), Same H H' → H q = none → H' q = some (.lst us) → DenL H' us ((nds m ks d).map ndD) → Q (.ref q) H'
section
open M08
variable {P : Program} {w : World} {K : PySem.W.Frag} {mg : Str → Option Value} {base : Heap}
theorem denI {H : Hp} : ∀ {cs : List Int} {vs : List V}, DenL H vs (cs.map D.int) → vs = cs.map V.int
  | [], [], _ => rfl
  | _ :: cs, v :: vs, h => by
    have e : v = .int _ := h.1
    rw [e, denI h.2]
    rfl
  | [], _ :: _, h => h.elim
  | _ :: _, [], h => h.elim
theorem denI_of (H : Hp) : ∀ cs : List Int, DenL H (cs.map V.int) (cs.map D.int)
  | [] => trivial
  | _ :: cs => ⟨rfl, denI_of H cs⟩
theorem denl_app {H : Hp} : ∀ {ds es : List D} {vs us : List V}, DenL H vs ds → DenL H us es → DenL H (vs ++ us) (ds ++ es)
  | [], _, [], _, _, h => h
  | _ :: _, _, _ :: _, _, h, g => ⟨h.1, denl_app h.2 g⟩
  | [], _, _ :: _, _, h, _ => h.elim
  | _ :: _, _, [], _, h, _ => h.elim
theorem le_sum {α : Type} (g : α → Nat) {x : α} : ∀ {xs : List α}, x ∈ xs → g x ≤ (xs.map g).sum
  | y :: ys, h => by
    rw [List.map_cons, List.sum_cons]
    rcases List.mem_cons.mp h with rfl | z
    · omega
    · have := le_sum g z
      omega
theorem sum_take_succ {α : Type} (g : α → Nat) : ∀ {xs : List α} {i : Nat} (h : i < xs.length), ((xs.take i).map g).sum + g xs[i] ≤ (xs.map g).sum
  | x :: xs, 0, h => by simp
  | x :: xs, i + 1, h => by
    have := sum_take_succ g (xs := xs) (i := i) (by simpa using h)
    simp only [List.take_succ_cons, List.map_cons, List.sum_cons, List.getElem_cons_succ]
    omega
theorem scNodesOf : FnScope ["tree", "path", "nodes", "k", "branch"] ["tree", "path"] (defScope sNodesOf) := ⟨rfl, rfl, rfl, by decide +kernel, rfl, by decide +kernel, by decide +kernel⟩
theorem c_nodes_of (h : Has K mg "nodes_of" sNodesOf ["tree", "path"]) (m_isinstance : mg "isinstance" = none) (m_tuple : mg "tuple" = none) (m_enumerate : mg "enumerate" = none) :
    ∀ n : Nat, Cal P w K mg base "nodes_of" n ["tree", "path"] (spNodes n)
  | 0 => h.never fun _ _ _ _ z => z
  | n + 1 => by
    have C_nodes_of := c_nodes_of h m_isinstance m_tuple m_enumerate n
    refine h.mk' scNodesOf (fun vs H Q E hs => ?_) (fun f cdv A outer s H vs Q E hr hs => ?_)
    · obtain ⟨v, p, m, d, ks, rfl, _⟩ := hs
      rfl
    obtain ⟨v, p, m, d, ks, rfl, hv, hp, hm, ht, hc, hk, kk⟩ := hs
    refine ⟨_, (pss_cons (ps_set (i := 2) scNodesOf.nd rfl (Or.inl rfl) (pe_lst (pa_cons (pe_tup (pa_cons (pv 1) (pa_cons (pv 0) pa_nil))) pa_nil)))
    (pss_cons (ps_if (pt_val (pe_callB call_isinst rfl m_isinstance boot_isinstance (pa_cons (pv 0) (pa_cons (pe_bltn (v := .ty "tuple") rfl m_tuple boot_tuple rfl) pa_nil))))
      (pss_one (ps_for PassesOwn.never rfl (pi_enumT rfl m_enumerate (pa_cons (pv 0) pa_nil)) (pg_tup rfl (pgs_cons (pg_name (i := 3) scNodesOf.nd rfl (Or.inl rfl)) (pgs_cons (pg_name (i := 4) scNodesOf.nd rfl (Or.inl rfl)) pgs_nil)))
      (pss_one (ps_expr (pe_bm PySem.F.plainAttrs_list PySem.F.slot_list_extend PySem.F.type_list_extend mt_extend (pv 2) (pa_cons (pe_cal C_nodes_of hr (Nat.le_refl _) rfl (pa_cons (pv 4) (pa_cons (pe_op op_catT2 (pv 1) (pe_tup (pa_cons (pv 3) pa_nil))) pa_nil))) pa_nil))))))
      pss_nil)
    (pss_one (ps_ret (pv 2))))), ?_⟩
    obtain ⟨pp, pvs, rfl, hpp, hpd⟩ := den_tup hp
    have epv := denI hpd
    subst epv
    refine ⟨_, rfl, _, rfl, smn 2, fun t0 ht0 => ⟨smn 1, fun l hl => ?_⟩⟩
    have s0 : Same H (upd (upd H t0 (.tup [.ref pp, v])) l (.lst [.ref t0])) := (same_new ht0 _).trans (same_new hl _)
    have nlt : t0 ≠ l := ne_of_none upd_same hl
    have hlH : H l = none := by
      cases e : H l with
      | none => rfl
      | some o => exact absurd ((same_new ht0 (.tup [.ref pp, v]) l o e).symm.trans hl) (by simp)
    have e0 : (upd (upd H t0 (.tup [.ref pp, v])) l (.lst [.ref t0])) t0 = some (.tup [.ref pp, v]) := (upd_ne nlt).trans upd_same
    have d0 : DenL (upd (upd H t0 (.tup [.ref pp, v])) l (.lst [.ref t0])) [.ref t0] ([(ks, d)].map ndD) := ⟨⟨t0, _, rfl, e0, ⟨pp, _, rfl, s0 _ _ hpp, denI_of _ ks⟩, hv.same s0, trivial⟩, trivial⟩
    have el : (upd (upd H t0 (.tup [.ref pp, v])) l (.lst [.ref t0])) l = some (.lst [.ref t0]) := upd_same
    generalize upd (upd H t0 (.tup [.ref pp, v])) l (.lst [.ref t0]) = H1 at s0 d0 el
    cases m with
    | zero =>
      obtain ⟨x, rfl⟩ := ht
      have ev : v = .str ⟨x.toArray⟩ := hv
      subst ev
      refine ⟨_, rfl, _, _, _, false, rfl, .str _, kit_str_tuple K, _, rfl, iteF ?_⟩
      exact ⟨_, rfl, kk l _ _ s0 hlH el d0⟩
    | succ m =>
      obtain ⟨ds, rfl, hds⟩ := ht
      obtain ⟨pv, vs, rfl, hpv, hvs⟩ := den_tup hv
      obtain ⟨n, rfl⟩ : ∃ n', n = n' + 1 := ⟨n - 1, by omega⟩
      refine ⟨_, rfl, _, _, _, true, rfl, .tup (s0 _ _ hpv), kit_tuple_tuple K, _, rfl, iteT ?_⟩
      refine ⟨_, rfl, pv, rfl, ⟨_, SqT.of (s0 _ _ hpv)⟩, ?_⟩
      have hlen := hvs.len
      have hcs : 1 + (ds.map (cntN m)).sum ≤ 100000 := hc
      refine for_enumT (K := K) (a := pv) (xs := vs) (fun i σ H2 => ∃ (v3 v4 : Option V) (us : List V), σ = [some (.ref pv), some (.ref pp), some (.ref l), v3, v4] ∧ Same H H2 ∧ H2 l = some (.lst us) ∧ DenL H2 us (((ks, D.tup ds) :: ((ds.take i).zipIdx.flatMap fun p => nds m (ks ++ [((p.2 : Nat) : Int)]) p.1)).map ndD))
        ⟨none, none, _, rfl, s0, el, d0⟩ ?_ ?_ ?_
      · rintro i σ H2 _ ⟨v3, v4, us, rfl, s2, _⟩
        exact SqT.of (s2 _ _ hpv)
      · rintro i y t σ H2 hi ⟨v3, v4, us, rfl, s2, el2, d2⟩ htn
        obtain ⟨b, hb, db⟩ := hvs.at_ hi
        have hil : i < ds.length := (List.getElem?_eq_some_iff.mp hb).1
        have ebi : ds[i] = b := (List.getElem?_eq_some_iff.mp hb).2
        have hbm : b ∈ ds := List.mem_of_getElem? hb
        refine ⟨t, _, rfl, SqT.of upd_same, rfl, _, _, rfl, _, _, rfl, rfl, ?_⟩
        have s3 : Same H2 (upd H2 t (.tup [.int (i : Nat), y])) := same_new htn _
        have el3 := s3 _ _ el2
        have d3 := d2.same s3
        generalize upd H2 t (.tup [.int (i : Nat), y]) = H3 at s3 el3 d3
        refine ⟨_, rfl, .inl ⟨rfl, _, SqL.of el3⟩, _, rfl, _, rfl, _, rfl, smn 1, fun t1 ht1 => ?_⟩
        have s4 : Same H3 (upd H3 t1 (.tup [.int (i : Nat)])) := same_new ht1 _
        refine ⟨pp, t1, _, _, rfl, rfl, s4 _ _ (s3 _ _ (s2 _ _ hpp)), upd_same, small (by rw [List.length_map, List.length_singleton]; omega), fun q5 H5 s5 e5 => ?_⟩
        have sA : Same H H5 := ((s2.trans s3).trans s4).trans s5
        refine ⟨_, _, m, b, ks ++ [((i : Nat) : Int)], rfl, db.same sA, ⟨q5, _, rfl, e5, by rw [show ks.map V.int ++ [V.int ((i : Nat) : Int)] = (ks ++ [((i : Nat) : Int)]).map V.int from by rw [List.map_append]; rfl]; exact denI_of _ _⟩, by omega, hds b hbm, ?_, by rw [List.length_append, List.length_singleton]; omega, fun q6 zs H6 s6 n6 e6 d6 => ?_⟩
        · have := le_sum (cntN m) hbm
          omega
        · have el6 : H6 l = some (.lst us) := s6 _ _ (s5 _ _ (s4 _ _ el3))
          have dus : DenL H6 us _ := ((d3.same s4).same s5).same s6
          have hL : us.length + zs.length ≤ 100000 := by
            have h1 := d2.len
            have h2 := d6.len
            rw [List.length_map, nds_len] at h2
            rw [List.length_map, List.length_cons, flatMap_zip _ (cntN m) (fun x i => nds_len m _ x)] at h1
            have h3 := sum_take_succ (cntN m) hil
            rw [ebi] at h3
            omega
          refine ⟨l, q6, us, zs, rfl, rfl, el6, e6, Nat.le_trans (Nat.le_trans hL (by decide)) sizeLine_big, _, _, us ++ zs, rfl, ?_, upd_same, ?_⟩
          · intro c o z
            rw [upd_ne (ne_of_none z hlH)]
            exact s6 _ _ (sA c o z)
          · have kp : ∀ (b : Addr) (vs : List V), H6 b = some (.tup vs) → (upd H6 l (.lst (us ++ zs))) b = some (.tup vs) := fun b vs e => by
              rw [upd_ne (ne_of e el6 (by intro z; cases z))]
              exact e
            have etk : ((ds.take (i + 1)).zipIdx.flatMap fun p => nds m (ks ++ [((p.2 : Nat) : Int)]) p.1) = ((ds.take i).zipIdx.flatMap fun p => nds m (ks ++ [((p.2 : Nat) : Int)]) p.1) ++ nds m (ks ++ [((i : Nat) : Int)]) b := by
              rw [List.take_add_one, hb, Option.toList_some, List.zipIdx_append, List.flatMap_append]
              simp [Nat.min_eq_left (Nat.le_of_lt hil)]
            rw [etk, ← List.cons_append, List.map_append]
            exact denl_app (dus.keepT kp) (d6.keepT kp)
      · rintro σ H2 ⟨v3, v4, us, rfl, s2, el2, d2⟩
        rw [hlen, List.take_length] at d2
        exact ⟨_, rfl, kk l us H2 s2 hlH el2 d2⟩
theorem nds_kind : ∀ (n : Nat) (ks : List Int) (d : D), Tr n d → ∀ x ∈ nds n ks d, (∃ y : List Nat, x.2 = sD y) ∨ ∃ ds, x.2 = .tup ds
  | 0, ks, d, h, x, hx => by
    obtain ⟨y, rfl⟩ := h
    have : x = (ks, sD y) := by simpa [nds] using hx
    subst this
    exact .inl ⟨y, rfl⟩
  | n + 1, ks, d, h, x, hx => by
    obtain ⟨ds, rfl, hd⟩ := h
    rcases List.mem_cons.mp hx with rfl | hx
    · exact .inr ⟨ds, rfl⟩
    · obtain ⟨p, hp, hx⟩ := List.mem_flatMap.mp hx
      refine nds_kind n _ p.1 (hd _ ?_) x hx
      exact List.fst_mem_of_mem_zipIdx hp
theorem ty_node (K : PySem.W.Frag) {H : Hp} {v : V} {d : D} (h : Den H v d) (hk : (∃ y : List Nat, d = sD y) ∨ ∃ ds, d = .tup ds) : ∃ t, TyOf K H v t ∧ PySem.W.kitOne K t (.type "str") = some (isS d) := by
  rcases hk with ⟨y, rfl⟩ | ⟨ds, rfl⟩
  · have e : v = .str ⟨y.toArray⟩ := h
    subst e
    exact ⟨_, .str _, kit_str_str K⟩
  · obtain ⟨p, vs, rfl, hp, _⟩ := den_tup h
    have e : isS (D.tup ds) = false := rfl
    rw [e]
    exact ⟨_, .tup hp, kit_tt K (by decide +kernel)⟩
theorem scLeaves : FnScope ["tree"] ["tree"] (defScope sLeaves) := ⟨rfl, rfl, rfl, by decide +kernel, rfl, by decide +kernel, by decide +kernel⟩
theorem c_leaves (h : Has K mg "leaves" sLeaves ["tree"]) (C_nodes_of : Cal P w K mg base "nodes_of" 7 ["tree", "path"] (spNodes 7)) (m_tuple : mg "tuple" = none) (m_isinstance : mg "isinstance" = none) (m_str : mg "str" = none) : Cal P w K mg base "leaves" 8 ["tree"] spLeaves := by
  refine h.mk' scLeaves (fun vs H Q E hs => ?_) (fun f cdv A outer s H vs Q E hr hs => ?_)
  · obtain ⟨v, m, d, rfl, _⟩ := hs
    rfl
  obtain ⟨v, m, d, rfl, hv, hm, ht, hc, kk⟩ := hs
  refine ⟨_, (pss_one (ps_ret (pe_callTy call_tuple_of rfl m_tuple boot_tuple (pa_cons (pe_compL ["tree"] (defScope sLeaves) ["node"] [none] rfl rfl rfl (pi_list (pe_cal C_nodes_of hr (by decide) rfl (pa_cons (pv 0) (pa_cons (pe_tup pa_nil) pa_nil)))) rfl (by decide +kernel) (by decide +kernel) (by decide +kernel) (by decide +kernel) (hg := fun cl C s H ex pn E => (pg_name (i := 0) (by decide +kernel : (["node"] : List Str).Nodup) rfl (Or.inl rfl))) (ht := fun cl C s H ex pn E => (pifs_one (pt_val (pe_callB (call_isinstK (K := K) rfl) rfl m_isinstance boot_isinstance (pa_cons (pe_ix (ix_tupK (K := K) rfl) (pv 0) pe_int (fun _ _ => rfl)) (pa_cons (pe_bltn (v := .ty "str") rfl m_str boot_str rfl) pa_nil)))))) (he := fun cl C s H ex pn E => (pv 0))) pa_nil)))), ?_⟩
  refine ⟨_, rfl, smn 0, fun t0 ht0 => ?_⟩
  have s0 := same_new ht0 (.tup [])
  refine ⟨v, .ref t0, m, d, [], rfl, hv.same s0, ⟨t0, _, rfl, upd_same, trivial⟩, by omega, ht, hc, by simp; omega, fun q us H1 s1 n1 e1 d1 => ?_⟩
  have hkind := nds_kind m [] d ht
  have hlen := nds_len m [] d
  have hlv := nds_lvs m [] d ht
  generalize nds m [] d = ns at d1 hkind hlen hlv
  have hul := d1.len
  rw [List.length_map] at hul
  refine ⟨q, rfl, ⟨_, SqL.of e1⟩, fun lc hlc => ?_⟩
  refine comp_by (J := Itl K q) (l := lc) us.length (fun i σ' H' => ∃ (v : Option V) (ws : List V), σ' = [v] ∧ Same H1 H' ∧ H' lc = some (.lst ws) ∧ DenL H' ws (((ns.take i).filter fun p => isS p.2).map ndD)) ⟨none, [], rfl, same_new hlc _, upd_same, trivial⟩ ?_ ?_
  · rintro σ' H' ⟨v, ws, rfl, hs, hl', hd'⟩
    refine ⟨⟨_, SqL.of (hs _ _ e1), Nat.le_refl _⟩, lc, ws, rfl, .inl ⟨SqL.of hl', fun q2 hq2 => ?_⟩⟩
    rw [hul, List.take_length, hlv] at hd'
    exact kk q2 _ (((s0.trans s1).trans hs).trans (same_new hq2 _)) ⟨q2, ws, rfl, upd_same, hd'.same (same_new hq2 _)⟩
  · rintro i σ' H' hi ⟨v, ws, rfl, hs, hl', hd'⟩
    have hat : us[i]? = some us[i] := List.getElem?_eq_getElem hi
    refine ⟨⟨_, _, SqL.of (hs _ _ e1), hat⟩, ?_⟩
    rintro y H'' ⟨rfl, hy⟩
    have ey : y = us[i] := Option.some.inj ((hy _ (SqL.of (hs _ _ e1))).symm.trans hat)
    have hni : i < ns.length := by omega
    obtain ⟨dd, hdd, dy⟩ := d1.at_ hat
    rw [← ey] at dy
    rw [List.getElem?_map, List.getElem?_eq_getElem hni] at hdd
    have edd : ndD ns[i] = dd := Option.some.inj hdd
    subst edd
    have dyH : Den H'' y (ndD ns[i]) := dy.same hs
    obtain ⟨b, bs, rfl, hb, hbd⟩ := den_tup dyH
    match bs, hbd, hb with
    | [b0, b1], hbd, hb =>
      obtain ⟨ty, tyo, tyk⟩ := ty_node K (hbd.2.1) (hkind _ (List.getElem_mem hni))
      have htk : (ns.take (i + 1)).filter (fun p => isS p.2) = (ns.take i).filter (fun p => isS p.2) ++ (if isS ns[i].2 = true then [ns[i]] else []) := by
        rw [List.take_add_one, List.getElem?_eq_getElem hni, List.filter_append]
        congr 1
        by_cases z : isS ns[i].2 = true <;> simp [z]
      refine gN ⟨_, rfl, b, _, _, _, rfl, rfl, SqT.of hb, atI_nat (xs := [b0, b1]) (j := 1) rfl, _, _, _, _, rfl, tyo, tyk, _, rfl, ?_⟩
      refine ite2 (fun z => ?_) (fun z => ?_)
      · have z' : isS ns[i].2 = true := z
        rw [if_pos z'] at htk
        have wl := hd'.len
        rw [List.length_map] at wl
        have wl2 : ((ns.take i).filter fun p => isS p.2).length ≤ ns.length := Nat.le_trans (List.length_filter_le _ _) (by rw [List.length_take]; omega)
        refine ⟨_, rfl, ws, hl', Nat.lt_of_lt_of_le (show ws.length < 1000000 by omega) sizeLine_big, _, ws ++ [.ref b], rfl, ?_, upd_same, ?_⟩
        · intro c o z
          have hlH : H1 lc = none := hlc
          rw [upd_ne (ne_of_none z hlH)]
          exact hs c o z
        · rw [htk, List.map_append]
          have kp : ∀ (b' : Addr) (vs : List V), H'' b' = some (.tup vs) → (upd H'' lc (.lst (ws ++ [.ref b]))) b' = some (.tup vs) := fun b' vs e => by
            rw [upd_ne (ne_of e hl' (by intro z; cases z))]
            exact e
          exact DenL.snoc (dyH.keepT kp) (hd'.keepT kp)
      · have z' : ¬ isS ns[i].2 = true := z
        rw [if_neg z', List.append_nil] at htk
        exact ⟨_, ws, rfl, hs, hl', by rw [htk]; exact hd'⟩
    | [], hbd, _ => exact hbd.elim
    | [_], hbd, _ => exact hbd.2.elim
    | _ :: _ :: _ :: _, hbd, _ => exact hbd.2.2.elim
end
/-! ### names of any thing -/
def spIsName : Sp := fun vs H Q _ => ∃ v : V, vs = [v] ∧ GoodV H v ∧ ∀ H', Same H H' → Q (.bl (isNmV v)) H'
section
variable {P : Program} {w : World} {K : PySem.W.Frag} {mg : Str → Option Value} {base : Heap}
theorem scIsName : FnScope ["thing"] ["thing"] (defScope sIsName) := ⟨rfl, rfl, rfl, by decide +kernel, rfl, by decide +kernel, by decide +kernel⟩
theorem c_is_name (h : Has K mg "is_name" sIsName ["thing"]) (m_isinstance : mg "isinstance" = none) (m_str : mg "str" = none) (m_all : mg "all" = none) (m_len : mg "len" = none) {t_LETTERS : Tok} (q_LETTERS : mg "LETTERS" = some (.str LET t_LETTERS)) {t_MOST_LETTERS : Tok} (q_MOST_LETTERS : mg "MOST_LETTERS" = some (.int 8 t_MOST_LETTERS)) : Cal P w K mg base "is_name" 1 ["thing"] spIsName := by
  refine h.mk' scIsName (fun vs H Q E hs => ?_) (fun f cdv A outer s H vs Q E hr hs => ?_)
  · obtain ⟨v, rfl, _⟩ := hs
    rfl
  obtain ⟨v, rfl, hg, k⟩ := hs
  refine ⟨_, (pss_cons (ps_if (pt_not (pt_val (pe_callB call_isinst rfl m_isinstance boot_isinstance (pa_cons (pv 0) (pa_cons (pe_bltn (v := .ty "str") rfl m_str boot_str rfl) pa_nil)))))
      (pss_one (ps_ret pe_bl))
      pss_nil)
    (pss_one (ps_ret (pe_and (pe_chain op_le op_le pe_int (pe_callB call_len_str rfl m_len PySem.boot_len (pa_cons (pv 0) pa_nil)) (pe_glob (v := .int 8) rfl q_MOST_LETTERS ⟨t_MOST_LETTERS, rfl⟩)) (pe_one (pe_callB (call_allB rfl) rfl m_all boot_all (pa_cons (pe_compL ["thing"] (defScope sIsName) ["sign"] [none] rfl rfl rfl (pi_str (pv 0)) rfl (by decide +kernel) (by decide +kernel) (by decide +kernel) (by decide +kernel) (hg := fun cl C s H ex pn E => (pg_name (i := 0) (by decide +kernel : (["sign"] : List Str).Nodup) rfl (Or.inl rfl))) (ht := fun cl C s H ex pn E => pifs_nil) (he := fun cl C s H ex pn E => (pe_cmpR op_in_str (pv 0) (pe_glob (v := .str LET) rfl q_LETTERS ⟨t_LETTERS, rfl⟩) (by with_unfolding_all rfl)))) pa_nil))))))), ?_⟩
  obtain ⟨ty, bb, h1, h2, h3⟩ := good_ty K hg
  refine ⟨_, rfl, _, _, _, bb, rfl, h1, h2, _, rfl, ?_⟩
  cases bb with
  | false =>
    refine (iteT ?_ : if (!false) = true then _ else _)
    have e : isNmV v = false := by
      cases v with
      | str x => exact absurd (h3.mpr ⟨x, rfl⟩) (by decide)
      | _ => rfl
    have q := k H (Same.refl H)
    rw [e] at q
    exact q
  | true =>
    refine (iteF ?_ : if (!true) = true then _ else _)
    obtain ⟨x, rfl⟩ := h3.mp rfl
    have hx : x.length ≤ 1000 := hg
    have hz : x.length ≤ sizeLine := small hx
    refine ⟨_, rfl, x, rfl, hz, _, _, rfl, rfl, _, rfl, ?_⟩
    refine ite2 (fun c1 => ?_) (fun c1 => ?_)
    · have d1 : 1 ≤ x.length := by
        have := of_decide_eq_true c1
        omega
      refine ⟨_, _, rfl, rfl, _, rfl, ?_⟩
      refine ite2 (fun c2 => ?_) (fun c2 => ?_)
      · have d2 : x.length ≤ 8 := by
          have := of_decide_eq_true c2
          omega
        refine ⟨_, rfl, x, rfl, fun l hl => ?_⟩
        refine comp_by (J := Its x) (l := l) x.cps.size (fun i σ' H' => ∃ v : Option V, σ' = [v] ∧ H' = upd H l (.lst (((x.cps.toList.take i).map fun c => decide (97 ≤ c ∧ c ≤ 122)).map V.bl))) ⟨none, rfl, rfl⟩ ?_ ?_
        · rintro σ' H' ⟨v, rfl, rfl⟩
          refine ⟨Nat.le_refl _, l, _, rfl, SqL.of upd_same, ?_⟩
          have e : x.cps.toList.take x.cps.size = x.cps.toList := by rw [← Array.length_toList]; exact List.take_length
          have e2 : isNmV (.str x) = ((x.cps.toList.take x.cps.size).map fun c => decide (97 ≤ c ∧ c ≤ 122)).all id := by
            show isNm x = _
            unfold isNm
            rw [e, decide_eq_true d1, decide_eq_true d2, List.all_map]
            rfl
          rw [← e2]
          exact k _ (same_new hl _)
        · rintro i σ' H' hi ⟨v, rfl, rfl⟩
          refine ⟨hi, ?_⟩
          rintro y H'' ⟨rfl, c, hc, rfl⟩
          refine gN (yesT (iteT ?_))
          refine ⟨_, rfl, _, _, rfl, rfl, _, upd_same, ?_, _, rfl, ?_⟩
          · rw [List.length_map, List.length_map, List.length_take]
            have hx8 : x.cps.size ≤ 8 := d2
            exact small1000 (by omega)
          · rw [upd_upd, empty_one, Bool.not_not]
            have ht : x.cps.toList.take (i + 1) = x.cps.toList.take i ++ [c] := by
              rw [List.take_add_one]
              have hc' : x.cps.toList[i]? = some c := by simpa using hc
              rw [hc']
              rfl
            have ed : decide (c ∈ LET.cps.toList) = decide (97 ≤ c ∧ c ≤ 122) := decide_eq_decide.mpr (let_mem c)
            rw [ht, ed, List.map_append, List.map_append]
            rfl
      · have e2 : isNmV (.str x) = false := by
          show isNm x = false
          unfold isNm
          have : ¬ x.length ≤ 8 := fun z => c2 (decide_eq_true (by omega))
          rw [decide_eq_false this, Bool.and_false, Bool.false_and]
        have q := k H (Same.refl H)
        rw [e2] at q
        exact q
    · have e2 : isNmV (.str x) = false := by
        show isNm x = false
        unfold isNm
        have : ¬ 1 ≤ x.length := fun z => c1 (decide_eq_true (by omega))
        rw [decide_eq_false this, Bool.false_and, Bool.false_and]
      have q := k H (Same.refl H)
      rw [e2] at q
      exact ⟨_, rfl, iteF q⟩
end
/-! ### the program and the law -/
open M05 in
def spNameAt : Sp := fun vs H Q _ => ∃ k : Nat, vs = [.int k] ∧ k < 217180147158 ∧ Q (.str ⟨(nm (k + 1)).toArray⟩) H
section
open M05
variable {P : Program} {w : World} {K : PySem.W.Frag} {mg : Str → Option Value} {base : Heap}
theorem let_ix {n : Nat} (h : n < 26) : atI LET.cps.toList (n : Int) = some (97 + n) := atI_nat (let_at n h)
theorem nm8 {r : Nat} (h : r < 217180147159) : (nm r).length ≤ 8 := by
  rcases nm_len 8 r (by rw [sh9]; omega) with q | q
  · exact q
  · exact q.elim
theorem scNameAt : FnScope ["k", "name", "rest"] ["k"] (defScope sNameAt) := ⟨rfl, rfl, rfl, by decide +kernel, rfl, by decide +kernel, by decide +kernel⟩
theorem ok_nameat {f : Addr} {fd : FuncData} {tl : Tok} (F : Fun K "name_at" "name_at" sNameAt f fd) (mLet : mg "LETTERS" = some (.str LET tl)) : FnOk P w K mg base CX0 1 f fd ["k"] spNameAt := by
  refine F.ok scNameAt (fun vs H Q E h => ?_) (fun cdv A outer s H vs Q E hr h => ?_)
  · obtain ⟨k, rfl, _⟩ := h
    rfl
  obtain ⟨k, rfl, hk, q⟩ := h
  refine ⟨_, pss_cons (ps_set (i := 1) scNameAt.nd rfl (Or.inl rfl) pe_str)
    (pss_cons (ps_set (i := 2) scNameAt.nd rfl (Or.inl rfl) (pe_op op_add (pv 0) pe_int))
    (pss_cons (ps_while PassesOwn.never (pt_cmpR op_gt (pv 2) pe_int (nomark _))
      (pss_cons (ps_aug (i := 2) scNameAt.nd rfl (Or.inl rfl) pe_int iop_sub)
      (pss_cons (ps_set (i := 1) scNameAt.nd rfl (Or.inl rfl) (pe_op op_add_str (pe_ix ix_str (pe_glob (v := .str LET) rfl mLet ⟨tl, rfl⟩) (pe_op op_mod (pv 2) pe_int) (fun _ _ => rfl)) (pv 1)))
      (pss_one (ps_aug (i := 2) scNameAt.nd rfl (Or.inl rfl) pe_int iop_fdiv)))))
    (pss_one (ps_ret (pv 1))))), ?_⟩
  refine ⟨_, rfl, _, _, rfl, rfl, ?_⟩
  have h8 := nm8 (r := k + 1) (by omega)
  refine ⟨fun m σ H2 => ∃ t : List Nat, σ = [some (.int k), some (.str ⟨t.toArray⟩), some (.int (m : Nat))] ∧ H2 = H ∧ nm m ++ t = nm (k + 1), ⟨k + 1, [], ?_, rfl, List.append_nil _⟩, ?_⟩
  · have e1 : (((k + 1 : Nat)) : Int) = (k : Int) + 1 := by omega
    rw [e1]
    rfl
  rintro m σ H2 ⟨t, rfl, rfl, ht⟩
  refine ⟨_, rfl, _, _, rfl, rfl, _, rfl, ?_⟩
  refine ite2 (fun c => ?_) (fun c => ?_)
  · have hm : 0 < m := by
      have := of_decide_eq_true c
      omega
    have hn : m ≠ 0 := by omega
    have hs := nm_step hn
    have hl : t.length + 1 ≤ 8 := by
      rw [← ht, hs] at h8
      simp only [List.length_append, List.length_cons, List.length_nil] at h8
      omega
    refine ⟨fun σ' H' => ∃ m', m' < m ∧ ∃ t : List Nat, σ' = [some (.int k), some (.str ⟨t.toArray⟩), some (.int (m' : Nat))] ∧ H' = H2 ∧ nm m' ++ t = nm (k + 1), fun _ _ z => z, ?_⟩
    refine ⟨_, rfl, _, _, rfl, rfl, ?_⟩
    have em : ((m : Int) - 1) % 26 = (((m - 1) % 26 : Nat) : Int) := by omega
    have ed : ((m : Int) - 1) / 26 = (((m - 1) / 26 : Nat) : Int) := by omega
    refine ⟨_, rfl, _, _, rfl, rfl, (by show (0 : Int) < 26; decide), LET, _, 97 + (m - 1) % 26, rfl, rfl, small (by rw [let_len]; decide), ?_, _, rfl, _, _, rfl, rfl, ?_, ?_⟩
    · rw [em]
      exact let_ix (Nat.mod_lt _ (by decide))
    · show 1 + t.toArray.size ≤ sizeLine
      rw [List.size_toArray]
      exact small (by omega)
    · rw [cat_one]
      refine ⟨_, rfl, _, _, rfl, rfl, ⟨by decide, by decide⟩, (m - 1) / 26, by omega, (97 + (m - 1) % 26) :: t, ?_, rfl, ?_⟩
      · show [some (V.int (k : Int)), some (V.str ⟨((97 + (m - 1) % 26) :: t).toArray⟩), some (V.int (((m : Int) - 1) / 26))] = _
        rw [ed]
      · rw [← ht, hs, List.append_assoc]
        rfl
  · have hm : m = 0 := by
      by_cases e : m = 0
      · exact e
      · exact absurd (decide_eq_true (show (m : Int) > 0 by omega)) c
    subst hm
    refine ⟨_, rfl, ?_⟩
    rw [nm_zero, List.nil_append] at ht
    rw [ht]
    exact q
theorem c_name_at (h : Has K mg "name_at" sNameAt ["k"]) {tl : Tok} (mLet : mg "LETTERS" = some (.str LET tl)) : Cal P w K mg base "name_at" 1 ["k"] spNameAt := h.cal fun f fd F _ _ => ok_nameat F mLet
end
/-! ### kinds of things -/
def goodS (c : Nat) : Prop := (32 ≤ c ∧ c ≤ 126) ∨ c = 10
def spIsNum : Sp := fun vs H Q _ => ∃ i : Int, vs = [.int i] ∧ Q (.bl true) H
def spIsMom : Sp := fun vs H Q _ => ∃ i : Int, vs = [.int i] ∧ 0 ≤ i ∧ i ≤ 1000000000000 ∧ Q (.bl true) H
def spIsSign : Sp := fun vs H Q _ => ∃ c : Nat, vs = [.str ⟨#[c]⟩] ∧ goodS c ∧ Q (.bl true) H
def spIsText : Sp := fun vs H Q _ => ∃ t : List Nat, vs = [.str ⟨t.toArray⟩] ∧ t.length ≤ 1000 ∧ (∀ c ∈ t, goodS c) ∧ ∀ H', Same H H' → Q (.bl true) H'
def spRises : Sp := fun vs H Q _ => ∃ (p : Addr) (us : List V), vs = [.ref p] ∧ H p = some (.tup us) ∧ us.length ≤ 1 ∧ ∀ H', Same H H' → Q (.bl true) H'
def spIsRow : Sp := fun vs H Q _ => ∃ (p : Addr) (us : List V) (n : Int), vs = [.ref p, .int n] ∧ H p = some (.tup us) ∧ (us.length : Int) = n ∧ Q (.bl true) H
def spAreMom : Sp := fun vs H Q _ => ∃ (p : Addr) (ns : List Int), vs = [.ref p] ∧ H p = some (.tup (ns.map V.int)) ∧ ns.length ≤ 1 ∧ (∀ n ∈ ns, 0 ≤ n ∧ n ≤ 1000000000000) ∧ ∀ H', Same H H' → Q (.bl true) H'
def spAreNames : Sp := fun vs H Q _ => ∃ (p : Addr), vs = [.ref p] ∧ H p = some (.tup []) ∧ ∀ H', Same H H' → Q (.bl true) H'
def partD (q : List Nat × List Nat × Int) : D := .tup [sD q.1, sD q.2.1, .tup [.int q.2.2]]
def GoodP (q : List Nat × List Nat × Int) : Prop := isNm ⟨q.1.toArray⟩ = true ∧ q.2.1.length ≤ 1000 ∧ (∀ c ∈ q.2.1, goodS c) ∧ 0 ≤ q.2.2 ∧ q.2.2 ≤ 1000000000000
def spIsPart : Sp := fun vs H Q _ => ∃ (v : V) (q : List Nat × List Nat × Int), vs = [v] ∧ Den H v (partD q) ∧ GoodP q ∧ ∀ H', Same H H' → Q (.bl true) H'
def spAreParts : Sp := fun vs H Q _ => ∃ (v : V) (qs : List (List Nat × List Nat × Int)), vs = [v] ∧ Den H v (.tup (qs.map partD)) ∧ (∀ q ∈ qs, GoodP q) ∧ qs.length ≤ 1000 ∧ ∀ H', Same H H' → Q (.bl true) H'
section
variable {P : Program} {w : World} {K : PySem.W.Frag} {mg : Str → Option Value} {base : Heap}
theorem scIsNumber : FnScope ["thing"] ["thing"] (defScope sIsNumber) := ⟨rfl, rfl, rfl, by decide +kernel, rfl, by decide +kernel, by decide +kernel⟩
theorem c_is_number (h : Has K mg "is_number" sIsNumber ["thing"]) (m_isinstance : mg "isinstance" = none) (m_bool : mg "bool" = none) (m_int : mg "int" = none) : Cal P w K mg base "is_number" 1 ["thing"] spIsNum := by
  refine h.mk' scIsNumber (fun vs H Q E hs => ?_) (fun f cdv A outer s H vs Q E hr hs => ?_)
  · obtain ⟨i, rfl, _⟩ := hs
    rfl
  obtain ⟨i, rfl, k⟩ := hs
  refine ⟨_, (pss_one (ps_ret (pe_and (pe_callB call_isinst rfl m_isinstance boot_isinstance (pa_cons (pv 0) (pa_cons (pe_bltn (v := .ty "int") rfl m_int boot_int rfl) pa_nil))) (pe_one (pe_not (pe_callB call_isinst rfl m_isinstance boot_isinstance (pa_cons (pv 0) (pa_cons (pe_bltn (v := .ty "bool") rfl m_bool boot_bool rfl) pa_nil)))))))), ?_⟩
  refine ⟨_, rfl, _, _, _, true, rfl, .int _, kit_int_int K, _, rfl, iteT ?_⟩
  exact ⟨_, rfl, _, _, _, false, rfl, .int _, kit_int_bool K, _, rfl, k⟩
theorem scIsMoment : FnScope ["thing"] ["thing"] (defScope sIsMoment) := ⟨rfl, rfl, rfl, by decide +kernel, rfl, by decide +kernel, by decide +kernel⟩
theorem c_is_moment (h : Has K mg "is_moment" sIsMoment ["thing"]) (C_is_number : Cal P w K mg base "is_number" 1 ["thing"] spIsNum) {t_LAST_MOMENT : Tok} (q_LAST_MOMENT : mg "LAST_MOMENT" = some (.int 1000000000000 t_LAST_MOMENT)) : Cal P w K mg base "is_moment" 2 ["thing"] spIsMom := by
  refine h.mk' scIsMoment (fun vs H Q E hs => ?_) (fun f cdv A outer s H vs Q E hr hs => ?_)
  · obtain ⟨i, rfl, _⟩ := hs
    rfl
  obtain ⟨i, rfl, h0, h1, k⟩ := hs
  refine ⟨_, (pss_one (ps_ret (pe_and (pe_cal C_is_number hr (by decide) rfl (pa_cons (pv 0) pa_nil)) (pe_one (pe_chain op_le op_le pe_int (pv 0) (pe_glob (v := .int 1000000000000) rfl q_LAST_MOMENT ⟨t_LAST_MOMENT, rfl⟩)))))), ?_⟩
  refine ⟨_, rfl, i, rfl, _, rfl, iteT ?_⟩
  refine ⟨_, rfl, _, _, rfl, rfl, _, rfl, ?_⟩
  rw [decide_eq_true h0]
  refine iteT ⟨_, _, rfl, rfl, ?_⟩
  show Q (V.bl (decide (i ≤ 1000000000000))) H
  rw [decide_eq_true h1]
  exact k
theorem scIsSign : FnScope ["sign"] ["sign"] (defScope sIsSign) := ⟨rfl, rfl, rfl, by decide +kernel, rfl, by decide +kernel, by decide +kernel⟩
theorem c_is_sign (h : Has K mg "is_sign" sIsSign ["sign"])  : Cal P w K mg base "is_sign" 1 ["sign"] spIsSign := by
  refine h.mk' scIsSign (fun vs H Q E hs => ?_) (fun f cdv A outer s H vs Q E hr hs => ?_)
  · obtain ⟨c, rfl, _⟩ := hs
    rfl
  obtain ⟨c, rfl, hc, k⟩ := hs
  refine ⟨_, (pss_one (ps_ret (pe_or (pe_chain op_leS op_leS pe_str (pv 0) pe_str) (pe_one (pe_cmpR op_eq (pv 0) pe_str (nomark _)))))), ?_⟩
  refine chain_sign (a := 32) (b := 126) (by decide +kernel) (by decide +kernel) rfl ⟨_, rfl, ?_⟩
  refine ite2 (fun h => k) (fun h => ?_)
  have h' : c = 10 := by
    rcases hc with z | z
    · exact absurd (decide_eq_true z) h
    · exact z
  subst h'
  refine ⟨_, rfl, rfl, ?_⟩
  have e : decide (V.str ⟨#[10]⟩ = V.str "\n") = true := by decide +kernel
  rw [e]
  exact k
theorem scIsText : FnScope ["thing"] ["thing"] (defScope sIsText) := ⟨rfl, rfl, rfl, by decide +kernel, rfl, by decide +kernel, by decide +kernel⟩
theorem c_is_text (h : Has K mg "is_text" sIsText ["thing"]) (C_is_sign : Cal P w K mg base "is_sign" 1 ["sign"] spIsSign) (m_all : mg "all" = none) (m_isinstance : mg "isinstance" = none) (m_str : mg "str" = none) : Cal P w K mg base "is_text" 2 ["thing"] spIsText := by
  refine h.mk' scIsText (fun vs H Q E hs => ?_) (fun f cdv A outer s H vs Q E hr hs => ?_)
  · obtain ⟨t, rfl, _⟩ := hs
    rfl
  obtain ⟨t, rfl, hl, hg, k⟩ := hs
  refine ⟨_, (pss_one (ps_ret (pe_and (pe_callB call_isinst rfl m_isinstance boot_isinstance (pa_cons (pv 0) (pa_cons (pe_bltn (v := .ty "str") rfl m_str boot_str rfl) pa_nil))) (pe_one (pe_callB (call_allB rfl) rfl m_all boot_all (pa_cons (pe_compL ["thing"] (defScope sIsText) ["sign"] [none] rfl rfl rfl (pi_str (pv 0)) rfl (by decide +kernel) (by decide +kernel) (by decide +kernel) (by decide +kernel) (hg := fun cl C s H ex pn E => (pg_name (i := 0) (by decide +kernel : (["sign"] : List Str).Nodup) rfl (Or.inl rfl))) (ht := fun cl C s H ex pn E => pifs_nil) (he := fun cl C s H ex pn E => (pe_cal C_is_sign hr (by decide) rfl (pa_cons (pv 0) pa_nil)))) pa_nil)))))), ?_⟩
  refine ⟨_, rfl, _, _, _, true, rfl, .str _, kit_str_str K, _, rfl, iteT ?_⟩
  refine ⟨_, rfl, _, rfl, fun l hl' => ?_⟩
  refine comp_by (J := Its ⟨t.toArray⟩) (l := l) t.length (fun i σ' H' => ∃ v : Option V, σ' = [v] ∧ H' = upd H l (.lst ((List.replicate i true).map V.bl))) ⟨none, rfl, rfl⟩ ?_ ?_
  · rintro σ' H' ⟨v, rfl, rfl⟩
    refine ⟨by show t.toArray.size ≤ _; simp, l, _, rfl, SqL.of upd_same, ?_⟩
    have e : (List.replicate t.length true).all id = true := by
      rw [List.all_eq_true]
      intro b hb
      exact (List.mem_replicate.mp hb).2
    rw [e]
    exact k _ (same_new hl' _)
  · rintro i σ' H' hi ⟨v, rfl, rfl⟩
    refine ⟨by show i < t.toArray.size; simpa using hi, ?_⟩
    rintro y H'' ⟨rfl, c, hc, rfl⟩
    have hcm : c ∈ t := by
      have : t[i]? = some c := by simpa using hc
      exact List.mem_of_getElem? this
    refine gN (yesT (iteT ?_))
    refine ⟨_, rfl, c, rfl, hg c hcm, _, upd_same, ?_, _, rfl, ?_⟩
    · rw [List.length_map, List.length_replicate]
      exact small1000 (by omega)
    · rw [upd_upd, List.replicate_succ', List.map_append]
      rfl
theorem scRises : FnScope ["row"] ["row"] (defScope sRises) := ⟨rfl, rfl, rfl, by decide +kernel, rfl, by decide +kernel, by decide +kernel⟩
theorem c_rises (h : Has K mg "rises" sRises ["row"]) (m_all : mg "all" = none) (m_zip : mg "zip" = none) : Cal P w K mg base "rises" 1 ["row"] spRises := by
  refine h.mk' scRises (fun vs H Q E hs => ?_) (fun f cdv A outer s H vs Q E hr hs => ?_)
  · obtain ⟨p, us, rfl, _⟩ := hs
    rfl
  obtain ⟨p, us, rfl, hp, hl, k⟩ := hs
  refine ⟨_, (pss_one (ps_ret (pe_callB (call_allB rfl) rfl m_all boot_all (pa_cons (pe_compL ["row"] (defScope sRises) ["one", "other"] [none, none] rfl rfl rfl (pi_zip2 rfl m_zip (pa_cons (pv 0) (pa_cons (pe_slice sl_tupW (pv 0) (po_some pe_int) po_none) pa_nil))) rfl (by decide +kernel) (by decide +kernel) (by decide +kernel) (by decide +kernel) (g := gTup K 2 (gCons (gName 0) (gCons (gName 1) gNil))) (hg := fun cl C s H ex pn E => pg_tup (n := 2) rfl (pgs_cons (pg_name (i := 0) (by decide +kernel : (["one", "other"] : List Str).Nodup) rfl (Or.inl rfl) (Or.inr rfl)) (pgs_cons (pg_name (i := 1) (by decide +kernel : (["one", "other"] : List Str).Nodup) rfl (Or.inl rfl) (Or.inr rfl)) pgs_nil))) (ht := fun cl C s H ex pn E => pifs_nil) (he := fun cl C s H ex pn E => (pe_cmpR op_lt (pv 0) (pv 1) (nomark _)))) pa_nil)))), ?_⟩
  refine ⟨_, rfl, _, rfl, _, rfl, _, _, rfl, hp, fun p2 H2 s2 e2 => ?_⟩
  have ec : cutV us (some 1) none = [] := by
    unfold cutV
    refine List.eq_nil_of_length_eq_zero ?_
    have e1 : HT.sIx us.length 0 (some 1) = min 1 us.length := HT.sIx_nat us.length 0 1
    rw [List.length_take, List.length_drop, e1, HT.sIx_none]
    omega
  rw [ec] at e2
  refine ⟨p, p2, rfl, ⟨_, SqT.of (s2 _ _ hp)⟩, ⟨_, SqT.of e2⟩, fun l hl' => ?_⟩
  refine comp_by (J := Itz2 K p p2) (l := l) 0 (fun i σ' H' => i = 0 ∧ ∃ v0 v1 : Option V, σ' = [v0, v1] ∧ Same H2 H' ∧ H' l = some (.lst [])) ⟨rfl, none, none, rfl, same_new hl' _, upd_same⟩ ?_ ?_
  · rintro σ' H' ⟨_, v0, v1, rfl, hs, hl2⟩
    have hst : (Itz2 K p p2).stop 0 H' := by
      cases us with
      | nil => exact .inl ⟨_, SqT.of (hs _ _ (s2 _ _ hp)), Nat.le_refl _⟩
      | cons u us => exact .inr ⟨_, _, u, SqT.of (hs _ _ (s2 _ _ hp)), SqT.of (hs _ _ e2), rfl, Nat.le_refl _⟩
    exact ⟨hst, l, [], rfl, SqL.of hl2, k _ (s2.trans hs)⟩
  · rintro i σ' H' hi
    exact absurd hi (Nat.not_lt_zero _)
theorem scIsRowOf : FnScope ["thing", "count"] ["thing", "count"] (defScope sIsRowOf) := ⟨rfl, rfl, rfl, by decide +kernel, rfl, by decide +kernel, by decide +kernel⟩
theorem c_is_row_of (h : Has K mg "is_row_of" sIsRowOf ["thing", "count"]) (m_len : mg "len" = none) (m_isinstance : mg "isinstance" = none) (m_tuple : mg "tuple" = none) : Cal P w K mg base "is_row_of" 1 ["thing", "count"] spIsRow := by
  refine h.mk' scIsRowOf (fun vs H Q E hs => ?_) (fun f cdv A outer s H vs Q E hr hs => ?_)
  · obtain ⟨p, us, n, rfl, _⟩ := hs
    rfl
  obtain ⟨p, us, n, rfl, hp, hn, k⟩ := hs
  refine ⟨_, (pss_one (ps_ret (pe_and (pe_callB call_isinst rfl m_isinstance boot_isinstance (pa_cons (pv 0) (pa_cons (pe_bltn (v := .ty "tuple") rfl m_tuple boot_tuple rfl) pa_nil))) (pe_one (pe_cmpR op_eq (pe_callB call_len_seq rfl m_len PySem.boot_len (pa_cons (pv 0) pa_nil)) (pv 1) (nomark _)))))), ?_⟩
  refine ⟨_, rfl, _, _, _, true, rfl, .tup hp, kit_tuple_tuple K, _, rfl, iteT ?_⟩
  refine ⟨_, rfl, p, _, rfl, .inr (SqT.of hp), _, rfl, rfl, ?_⟩
  rw [hn, decide_eq_true rfl]
  exact k
theorem scAreMoments : FnScope ["thing"] ["thing"] (defScope sAreMoments) := ⟨rfl, rfl, rfl, by decide +kernel, rfl, by decide +kernel, by decide +kernel⟩
theorem c_are_moments (h : Has K mg "are_moments" sAreMoments ["thing"]) (C_rises : Cal P w K mg base "rises" 1 ["row"] spRises) (C_is_moment : Cal P w K mg base "is_moment" 2 ["thing"] spIsMom) (m_all : mg "all" = none) (m_isinstance : mg "isinstance" = none) (m_tuple : mg "tuple" = none) : Cal P w K mg base "are_moments" 3 ["thing"] spAreMom := by
  refine h.mk' scAreMoments (fun vs H Q E hs => ?_) (fun f cdv A outer s H vs Q E hr hs => ?_)
  · obtain ⟨p, ns, rfl, _⟩ := hs
    rfl
  obtain ⟨p, ns, rfl, hp, hl, hg, k⟩ := hs
  refine ⟨_, (pss_one (ps_ret (pe_and (pe_callB call_isinst rfl m_isinstance boot_isinstance (pa_cons (pv 0) (pa_cons (pe_bltn (v := .ty "tuple") rfl m_tuple boot_tuple rfl) pa_nil))) (pe_and (pe_callB (call_allB rfl) rfl m_all boot_all (pa_cons (pe_compL ["thing"] (defScope sAreMoments) ["each"] [none] rfl rfl rfl (pi_tup (pv 0)) rfl (by decide +kernel) (by decide +kernel) (by decide +kernel) (by decide +kernel) (hg := fun cl C s H ex pn E => (pg_name (i := 0) (by decide +kernel : (["each"] : List Str).Nodup) rfl (Or.inl rfl))) (ht := fun cl C s H ex pn E => pifs_nil) (he := fun cl C s H ex pn E => (pe_cal C_is_moment hr (by decide) rfl (pa_cons (pv 0) pa_nil)))) pa_nil)) (pe_one (pe_cal C_rises hr (by decide) rfl (pa_cons (pv 0) pa_nil))))))), ?_⟩
  refine ⟨_, rfl, _, _, _, true, rfl, .tup hp, kit_tuple_tuple K, _, rfl, iteT ?_⟩
  refine ⟨_, rfl, p, rfl, ⟨_, SqT.of hp⟩, fun l hl' => ?_⟩
  refine comp_by (J := Itt K p) (l := l) ns.length (fun i σ' H' => ∃ v : Option V, σ' = [v] ∧ Same H H' ∧ H' l = some (.lst ((List.replicate i true).map V.bl))) ⟨none, rfl, same_new hl' _, upd_same⟩ ?_ ?_
  · rintro σ' H' ⟨v, rfl, hs, hl2⟩
    refine ⟨⟨_, SqT.of (hs _ _ hp), by simp⟩, l, _, rfl, SqL.of hl2, ?_⟩
    have e : (List.replicate ns.length true).all id = true := by
      rw [List.all_eq_true]
      intro b hb
      exact (List.mem_replicate.mp hb).2
    rw [e]
    refine ⟨_, rfl, iteT ?_⟩
    exact ⟨_, rfl, p, _, rfl, hs _ _ hp, by rw [List.length_map]; exact hl, fun H2 s2 => k H2 (hs.trans s2)⟩
  · rintro i σ' H' hi ⟨v, rfl, hs, hl2⟩
    have hat : (ns.map V.int)[i]? = some (.int ns[i]) := by rw [List.getElem?_map, List.getElem?_eq_getElem hi]; rfl
    refine ⟨⟨_, _, SqT.of (hs _ _ hp), hat⟩, ?_⟩
    rintro y H'' ⟨rfl, hy⟩
    have ey : y = .int ns[i] := Option.some.inj ((hy _ (SqT.of (hs _ _ hp))).symm.trans hat)
    subst ey
    have hgi := hg ns[i] (List.getElem_mem hi)
    refine gN (yesT (iteT ?_))
    refine ⟨_, rfl, ns[i], rfl, hgi.1, hgi.2, _, hl2, ?_, _, rfl, ?_, ?_⟩
    · rw [List.length_map, List.length_replicate]
      exact small1000 (by omega)
    · intro c o z
      have hlH : H l = none := hl'
      rw [upd_ne (ne_of_none z hlH)]
      exact hs c o z
    · rw [upd_same, List.replicate_succ', List.map_append]
      rfl
theorem scAreNames : FnScope ["thing"] ["thing"] (defScope sAreNames) := ⟨rfl, rfl, rfl, by decide +kernel, rfl, by decide +kernel, by decide +kernel⟩
theorem c_are_names (h : Has K mg "are_names" sAreNames ["thing"]) (C_rises : Cal P w K mg base "rises" 1 ["row"] spRises) (C_is_name : Cal P w K mg base "is_name" 1 ["thing"] spIsName) (m_all : mg "all" = none) (m_isinstance : mg "isinstance" = none) (m_tuple : mg "tuple" = none) : Cal P w K mg base "are_names" 2 ["thing"] spAreNames := by
  refine h.mk' scAreNames (fun vs H Q E hs => ?_) (fun f cdv A outer s H vs Q E hr hs => ?_)
  · obtain ⟨p, rfl, _⟩ := hs
    rfl
  obtain ⟨p, rfl, hp, k⟩ := hs
  refine ⟨_, (pss_one (ps_ret (pe_and (pe_callB call_isinst rfl m_isinstance boot_isinstance (pa_cons (pv 0) (pa_cons (pe_bltn (v := .ty "tuple") rfl m_tuple boot_tuple rfl) pa_nil))) (pe_and (pe_callB (call_allB rfl) rfl m_all boot_all (pa_cons (pe_compL ["thing"] (defScope sAreNames) ["each"] [none] rfl rfl rfl (pi_tup (pv 0)) rfl (by decide +kernel) (by decide +kernel) (by decide +kernel) (by decide +kernel) (hg := fun cl C s H ex pn E => (pg_name (i := 0) (by decide +kernel : (["each"] : List Str).Nodup) rfl (Or.inl rfl))) (ht := fun cl C s H ex pn E => pifs_nil) (he := fun cl C s H ex pn E => (pe_cal C_is_name hr (by decide) rfl (pa_cons (pv 0) pa_nil)))) pa_nil)) (pe_one (pe_cal C_rises hr (by decide) rfl (pa_cons (pv 0) pa_nil))))))), ?_⟩
  refine ⟨_, rfl, _, _, _, true, rfl, .tup hp, kit_tuple_tuple K, _, rfl, iteT ?_⟩
  refine ⟨_, rfl, p, rfl, ⟨_, SqT.of hp⟩, fun l hl' => ?_⟩
  refine comp_by (J := Itt K p) (l := l) 0 (fun i σ' H' => i = 0 ∧ ∃ v : Option V, σ' = [v] ∧ Same H H' ∧ H' l = some (.lst [])) ⟨rfl, none, rfl, same_new hl' _, upd_same⟩ ?_ ?_
  · rintro σ' H' ⟨_, v, rfl, hs, hl2⟩
    refine ⟨⟨_, SqT.of (hs _ _ hp), Nat.le_refl _⟩, l, [], rfl, SqL.of hl2, ?_⟩
    refine ⟨_, rfl, iteT ?_⟩
    exact ⟨_, rfl, p, _, rfl, hs _ _ hp, Nat.zero_le _, fun H2 s2 => k H2 (hs.trans s2)⟩
  · rintro i σ' H' hi
    exact absurd hi (Nat.not_lt_zero _)
theorem scIsPart : FnScope ["thing"] ["thing"] (defScope sIsPart) := ⟨rfl, rfl, rfl, by decide +kernel, rfl, by decide +kernel, by decide +kernel⟩
theorem c_is_part (h : Has K mg "is_part" sIsPart ["thing"]) (C_is_row_of : Cal P w K mg base "is_row_of" 1 ["thing", "count"] spIsRow) (C_are_moments : Cal P w K mg base "are_moments" 3 ["thing"] spAreMom) (C_is_text : Cal P w K mg base "is_text" 2 ["thing"] spIsText) (C_is_name : Cal P w K mg base "is_name" 1 ["thing"] spIsName) (m_len : mg "len" = none) : Cal P w K mg base "is_part" 4 ["thing"] spIsPart := by
  refine h.mk' scIsPart (fun vs H Q E hs => ?_) (fun f cdv A outer s H vs Q E hr hs => ?_)
  · obtain ⟨v, q, rfl, _⟩ := hs
    rfl
  obtain ⟨v, q, rfl, hv, hg, k⟩ := hs
  refine ⟨_, (pss_cons (ps_if (pt_not (pt_val (pe_cal C_is_row_of hr (by decide) rfl (pa_cons (pv 0) (pa_cons pe_int pa_nil)))))
      (pss_one (ps_ret pe_bl))
      pss_nil)
    (pss_one (ps_ret (pe_and (pe_cal C_is_name hr (by decide) rfl (pa_cons (pe_ix ix_tup (pv 0) pe_int (fun _ _ => rfl)) pa_nil)) (pe_and (pe_cal C_is_text hr (by decide) rfl (pa_cons (pe_ix ix_tup (pv 0) pe_int (fun _ _ => rfl)) pa_nil)) (pe_and (pe_cal C_are_moments hr (by decide) rfl (pa_cons (pe_ix ix_tup (pv 0) pe_int (fun _ _ => rfl)) pa_nil)) (pe_one (pe_cmpR op_gt (pe_callB call_len_seq rfl m_len PySem.boot_len (pa_cons (pe_ix ix_tup (pv 0) pe_int (fun _ _ => rfl)) pa_nil)) pe_int (nomark _))))))))), ?_⟩
  obtain ⟨p, us, rfl, hp, hd⟩ := den_tup hv
  obtain ⟨b0, b1, b2, rfl⟩ : ∃ b0 b1 b2, us = [b0, b1, b2] := by
    match us, hd with
    | [b0, b1, b2], _ => exact ⟨b0, b1, b2, rfl⟩
    | [], h => exact h.elim
    | [_], h => exact h.2.elim
    | [_, _], h => exact h.2.2.elim
    | _ :: _ :: _ :: _ :: _, h => exact h.2.2.2.elim
  have e0 : b0 = mkT q.1 := hd.1
  have e1 : b1 = mkT q.2.1 := hd.2.1
  obtain ⟨p2, us2, e2, hp2, hd2⟩ := den_tup hd.2.2.1
  have eu2 := denI (cs := [q.2.2]) hd2
  subst e0
  subst e1
  subst e2
  subst eu2
  obtain ⟨g1, g2, g3, g4, g5⟩ := hg
  have hnl : q.1.length ≤ 8 := by
    unfold isNm at g1
    rw [Bool.and_eq_true, Bool.and_eq_true] at g1
    have := of_decide_eq_true g1.1.2
    rwa [lenT] at this
  refine ⟨_, rfl, p, _, 3, rfl, hp, rfl, _, rfl, iteF ?_⟩
  refine ⟨_, rfl, p, _, _, _, rfl, rfl, SqT.of hp, atI_zero _ _, mkT q.1, rfl, by show (⟨q.1.toArray⟩ : Str).length ≤ 1000; rw [lenT]; omega, fun H2 s2 => ?_⟩
  have en : isNmV (mkT q.1) = true := g1
  rw [en]
  refine ⟨_, rfl, iteT ?_⟩
  refine ⟨_, rfl, p, _, _, _, rfl, rfl, SqT.of (s2 _ _ hp), atI_nat (xs := [mkT q.1, mkT q.2.1, V.ref p2]) (j := 1) rfl, q.2.1, rfl, g2, g3, fun H3 s3 => ?_⟩
  refine ⟨_, rfl, iteT ?_⟩
  have s23 := s2.trans s3
  refine ⟨_, rfl, p, _, _, _, rfl, rfl, SqT.of (s23 _ _ hp), atI_nat (xs := [mkT q.1, mkT q.2.1, V.ref p2]) (j := 2) rfl, p2, [q.2.2], rfl, s23 _ _ hp2, Nat.le_refl _, fun n hn => by rw [List.mem_singleton.mp hn]; exact ⟨g4, g5⟩, fun H4 s4 => ?_⟩
  refine ⟨_, rfl, iteT ?_⟩
  have s24 := s23.trans s4
  refine ⟨_, rfl, p, _, _, _, rfl, rfl, SqT.of (s24 _ _ hp), atI_nat (xs := [mkT q.1, mkT q.2.1, V.ref p2]) (j := 2) rfl, p2, _, rfl, .inr (SqT.of (s24 _ _ hp2)), _, _, rfl, rfl, ?_⟩
  exact k H4 s24
theorem scAreParts : FnScope ["thing"] ["thing"] (defScope sAreParts) := ⟨rfl, rfl, rfl, by decide +kernel, rfl, by decide +kernel, by decide +kernel⟩
theorem c_are_parts (h : Has K mg "are_parts" sAreParts ["thing"]) (C_is_part : Cal P w K mg base "is_part" 4 ["thing"] spIsPart) (m_all : mg "all" = none) (m_isinstance : mg "isinstance" = none) (m_tuple : mg "tuple" = none) : Cal P w K mg base "are_parts" 5 ["thing"] spAreParts := by
  refine h.mk' scAreParts (fun vs H Q E hs => ?_) (fun f cdv A outer s H vs Q E hr hs => ?_)
  · obtain ⟨v, qs, rfl, _⟩ := hs
    rfl
  obtain ⟨v, qs, rfl, hv, hg, hl, k⟩ := hs
  refine ⟨_, (pss_one (ps_ret (pe_and (pe_callB call_isinst rfl m_isinstance boot_isinstance (pa_cons (pv 0) (pa_cons (pe_bltn (v := .ty "tuple") rfl m_tuple boot_tuple rfl) pa_nil))) (pe_one (pe_callB (call_allB rfl) rfl m_all boot_all (pa_cons (pe_compL ["thing"] (defScope sAreParts) ["each"] [none] rfl rfl rfl (pi_tup (pv 0)) rfl (by decide +kernel) (by decide +kernel) (by decide +kernel) (by decide +kernel) (hg := fun cl C s H ex pn E => (pg_name (i := 0) (by decide +kernel : (["each"] : List Str).Nodup) rfl (Or.inl rfl))) (ht := fun cl C s H ex pn E => pifs_nil) (he := fun cl C s H ex pn E => (pe_cal C_is_part hr (by decide) rfl (pa_cons (pv 0) pa_nil)))) pa_nil)))))), ?_⟩
  obtain ⟨p, us, rfl, hp, hd⟩ := den_tup hv
  have hul := hd.len
  rw [List.length_map] at hul
  refine ⟨_, rfl, _, _, _, true, rfl, .tup hp, kit_tuple_tuple K, _, rfl, iteT ?_⟩
  refine ⟨_, rfl, p, rfl, ⟨_, SqT.of hp⟩, fun l hl' => ?_⟩
  refine comp_by (J := Itt K p) (l := l) us.length (fun i σ' H' => ∃ v : Option V, σ' = [v] ∧ Same H H' ∧ H' l = some (.lst ((List.replicate i true).map V.bl))) ⟨none, rfl, same_new hl' _, upd_same⟩ ?_ ?_
  · rintro σ' H' ⟨v, rfl, hs, hl2⟩
    refine ⟨⟨_, SqT.of (hs _ _ hp), Nat.le_refl _⟩, l, _, rfl, SqL.of hl2, ?_⟩
    have e : (List.replicate us.length true).all id = true := by
      rw [List.all_eq_true]
      intro b hb
      exact (List.mem_replicate.mp hb).2
    rw [e]
    exact k H' hs
  · rintro i σ' H' hi ⟨v, rfl, hs, hl2⟩
    have hat : us[i]? = some us[i] := List.getElem?_eq_getElem hi
    refine ⟨⟨_, _, SqT.of (hs _ _ hp), hat⟩, ?_⟩
    rintro y H'' ⟨rfl, hy⟩
    have ey : y = us[i] := Option.some.inj ((hy _ (SqT.of (hs _ _ hp))).symm.trans hat)
    obtain ⟨dd, hdd, dy⟩ := hd.at_ hat
    rw [← ey] at dy
    have hni : i < qs.length := by omega
    rw [List.getElem?_map, List.getElem?_eq_getElem hni] at hdd
    have edd : partD qs[i] = dd := Option.some.inj hdd
    subst edd
    refine gN (yesT (iteT ?_))
    refine ⟨_, rfl, y, qs[i], rfl, dy.same hs, hg _ (List.getElem_mem hni), fun H3 s3 => ⟨_, s3 _ _ hl2, ?_, _, rfl, ?_, ?_⟩⟩
    · rw [List.length_map, List.length_replicate]
      exact small1000 (by omega)
    · intro c o z
      have hlH : H l = none := hl'
      rw [upd_ne (ne_of_none z hlH)]
      exact s3 _ _ (hs c o z)
    · rw [upd_same, List.replicate_succ', List.map_append]
      rfl
end
/-! ### books without links -/
abbrev Prt := List Nat × List Nat × Int
def bookD (L R : List Prt) : D := .tup [.tup (L.map partD), .tup (R.map partD), .tup [], .tup []]
def nmsOf (L : List Prt) : List V := L.map fun q => mkT q.1
def spNever : Sp := fun _ _ _ _ => False
def spLinked : Sp := fun vs H Q _ => ∃ (p : Addr) (n : Int), vs = [.ref p, .int n] ∧ H p = some (.tup []) ∧ ∀ (l : Addr) (H' : Hp), Same H H' → H' l = some (.lst []) → Q (.ref l) H'
def spNamesOf : Sp := fun vs H Q _ => ∃ (v : V) (L R : List Prt), vs = [v] ∧ Den H v (bookD L R) ∧ L.length ≤ 1000 ∧ R.length ≤ 1000 ∧ ∀ (q : Addr) (H' : Hp), Same H H' → H' q = some (.tup (nmsOf (L ++ R))) → Q (.ref q) H'
def spUnlike : Sp := fun vs H Q _ => ∃ (p : Addr) (ns : List Str), vs = [.ref p] ∧ (H p = some (.lst (ns.map V.str)) ∨ H p = some (.tup (ns.map V.str))) ∧ ns.Nodup ∧ ns.length ≤ 4000 ∧ ∀ H', Same H H' → Q (.bl true) H'
def spAmong : Sp := fun vs H Q _ => ∃ (p q : Addr) (ns : List Str), vs = [.ref p, .ref q] ∧ (H p = some (.lst []) ∨ H p = some (.tup [])) ∧ (H q = some (.lst (ns.map V.str)) ∨ H q = some (.tup (ns.map V.str))) ∧ ns.length ≤ 4000 ∧ ∀ H', Same H H' → Q (.bl true) H'
def spIsBook : Sp := fun vs H Q _ => ∃ (v : V) (L R : List Prt), vs = [v] ∧ Den H v (bookD L R) ∧ (∀ q ∈ L ++ R, GoodP q) ∧ ((L ++ R).map (·.1)).Nodup ∧ L.length ≤ 1000 ∧ R.length ≤ 1000 ∧ ∀ H', Same H H' → Q (.bl true) H'
open M05 in
def mkParts (first : Nat) (t : Int) (ps : List (List Int × List Nat)) : List Prt := ps.zipIdx.map fun q => (nm (first + q.2 + 1), q.1.2, t)
def spNewParts : Sp := fun vs H Q _ => ∃ (v : V) (ps : List (List Int × List Nat)) (n : Nat) (t : Int), vs = [v, .int (n : Nat), .int t] ∧ Den H v (.tup (ps.map leafD)) ∧ ps.length ≤ 100000 ∧ n ≤ 100000 ∧ ∀ (q : Addr) (H' : Hp), Same H H' → Den H' (.ref q) (.tup ((mkParts n t ps).map partD)) → Q (.ref q) H'
section
open M05
variable {P : Program} {w : World} {K : PySem.W.Frag} {mg : Str → Option Value} {base : Heap}
theorem c_is_link (h : Has K mg "is_link" sIsLink ["thing"]) : Cal P w K mg base "is_link" 0 ["thing"] spNever := h.never fun _ _ _ _ z => z
theorem scAreLinks : FnScope ["thing"] ["thing"] (defScope sAreLinks) := ⟨rfl, rfl, rfl, by decide +kernel, rfl, by decide +kernel, by decide +kernel⟩
theorem c_are_links (h : Has K mg "are_links" sAreLinks ["thing"]) (C_rises : Cal P w K mg base "rises" 1 ["row"] spRises) (C_is_link : Cal P w K mg base "is_link" 0 ["thing"] spNever) (m_all : mg "all" = none) (m_isinstance : mg "isinstance" = none) (m_tuple : mg "tuple" = none) : Cal P w K mg base "are_links" 2 ["thing"] spAreNames := by
  refine h.mk' scAreLinks (fun vs H Q E hs => ?_) (fun f cdv A outer s H vs Q E hr hs => ?_)
  · obtain ⟨p, rfl, _⟩ := hs
    rfl
  obtain ⟨p, rfl, hp, k⟩ := hs
  refine ⟨_, (pss_one (ps_ret (pe_and (pe_callB call_isinst rfl m_isinstance boot_isinstance (pa_cons (pv 0) (pa_cons (pe_bltn (v := .ty "tuple") rfl m_tuple boot_tuple rfl) pa_nil))) (pe_and (pe_callB (call_allB rfl) rfl m_all boot_all (pa_cons (pe_compL ["thing"] (defScope sAreLinks) ["each"] [none] rfl rfl rfl (pi_tup (pv 0)) rfl (by decide +kernel) (by decide +kernel) (by decide +kernel) (by decide +kernel) (hg := fun cl C s H ex pn E => (pg_name (i := 0) (by decide +kernel : (["each"] : List Str).Nodup) rfl (Or.inl rfl))) (ht := fun cl C s H ex pn E => pifs_nil) (he := fun cl C s H ex pn E => (pe_cal C_is_link hr (by decide) rfl (pa_cons (pv 0) pa_nil)))) pa_nil)) (pe_one (pe_cal C_rises hr (by decide) rfl (pa_cons (pv 0) pa_nil))))))), ?_⟩
  refine ⟨_, rfl, _, _, _, true, rfl, .tup hp, kit_tuple_tuple K, _, rfl, iteT ?_⟩
  refine ⟨_, rfl, p, rfl, ⟨_, SqT.of hp⟩, fun l hl' => ?_⟩
  refine comp_by (J := Itt K p) (l := l) 0 (fun i σ' H' => i = 0 ∧ ∃ v : Option V, σ' = [v] ∧ Same H H' ∧ H' l = some (.lst [])) ⟨rfl, none, rfl, same_new hl' _, upd_same⟩ ?_ ?_
  · rintro σ' H' ⟨_, v, rfl, hs, hl2⟩
    refine ⟨⟨_, SqT.of (hs _ _ hp), Nat.le_refl _⟩, l, [], rfl, SqL.of hl2, ?_⟩
    refine ⟨_, rfl, iteT ?_⟩
    exact ⟨_, rfl, p, _, rfl, hs _ _ hp, Nat.zero_le _, fun H2 s2 => k H2 (hs.trans s2)⟩
  · rintro i σ' H' hi
    exact absurd hi (Nat.not_lt_zero _)
theorem scLinkedNames : FnScope ["links", "side", "names", "link"] ["links", "side"] (defScope sLinkedNames) := ⟨rfl, rfl, rfl, by decide +kernel, rfl, by decide +kernel, by decide +kernel⟩
theorem c_linked_names (h : Has K mg "linked_names" sLinkedNames ["links", "side"])  : Cal P w K mg base "linked_names" 1 ["links", "side"] spLinked := by
  refine h.mk' scLinkedNames (fun vs H Q E hs => ?_) (fun f cdv A outer s H vs Q E hr hs => ?_)
  · obtain ⟨p, n, rfl, _⟩ := hs
    rfl
  obtain ⟨p, n, rfl, hp, k⟩ := hs
  refine ⟨_, (pss_cons (ps_set (i := 2) scLinkedNames.nd rfl (Or.inl rfl) (pe_lst pa_nil))
    (pss_cons (ps_for PassesOwn.never rfl (pi_tup (pv 0)) (pg_name (i := 3) scLinkedNames.nd rfl (Or.inl rfl))
      (pss_one (ps_expr (pe_bm PySem.F.plainAttrs_list PySem.F.slot_list_extend PySem.F.type_list_extend mt_extend (pv 2) (pa_cons (pe_ix ix_tup (pv 3) (pv 1) (fun _ _ => rfl)) pa_nil)))))
    (pss_one (ps_ret (pv 2))))), ?_⟩
  refine ⟨smn 0, fun l hl => ?_⟩
  have s1 := same_new hl (.lst [])
  refine ⟨_, rfl, p, rfl, ⟨_, SqT.of (s1 _ _ hp)⟩, ?_⟩
  refine for_tup (K := K) (a := p) (xs := []) (fun i σ H2 => ∃ v3 : Option V, σ = [some (.ref p), some (.int n), some (.ref l), v3] ∧ H2 = upd H l (.lst [])) ⟨_, rfl, rfl⟩ ?_ ?_ ?_
  · rintro i σ H2 _ ⟨v3, rfl, rfl⟩
    exact SqT.of (s1 _ _ hp)
  · rintro i y σ H2 hi
    simp at hi
  · rintro σ H2 ⟨v3, rfl, rfl⟩
    exact ⟨_, rfl, k l _ s1 upd_same⟩
theorem scNamesOf : FnScope ["book"] ["book"] (defScope sNamesOf) := ⟨rfl, rfl, rfl, by decide +kernel, rfl, by decide +kernel, by decide +kernel⟩
theorem c_names_of (h : Has K mg "names_of" sNamesOf ["book"]) (m_tuple : mg "tuple" = none) : Cal P w K mg base "names_of" 1 ["book"] spNamesOf := by
  refine h.mk' scNamesOf (fun vs H Q E hs => ?_) (fun f cdv A outer s H vs Q E hr hs => ?_)
  · obtain ⟨v, L, R, rfl, _⟩ := hs
    rfl
  obtain ⟨v, L, R, rfl, hv, hl, hr', k⟩ := hs
  refine ⟨_, (pss_one (ps_ret (pe_callTy call_tuple_of rfl m_tuple boot_tuple (pa_cons (pe_compL ["book"] (defScope sNamesOf) ["part"] [none] rfl rfl rfl (pi_tup (pe_op op_catT2 (pe_ix ix_tup (pv 0) pe_int (fun _ _ => rfl)) (pe_ix ix_tup (pv 0) pe_int (fun _ _ => rfl)))) rfl (by decide +kernel) (by decide +kernel) (by decide +kernel) (by decide +kernel) (hg := fun cl C s H ex pn E => (pg_name (i := 0) (by decide +kernel : (["part"] : List Str).Nodup) rfl (Or.inl rfl))) (ht := fun cl C s H ex pn E => pifs_nil) (he := fun cl C s H ex pn E => (pe_ix (ix_tupK (K := K) rfl) (pv 0) pe_int (fun _ _ => rfl)))) pa_nil)))), ?_⟩
  obtain ⟨p, us, rfl, hp, hd⟩ := den_tup hv
  obtain ⟨b0, b1, b2, b3, rfl⟩ : ∃ b0 b1 b2 b3, us = [b0, b1, b2, b3] := by
    match us, hd with
    | [b0, b1, b2, b3], _ => exact ⟨b0, b1, b2, b3, rfl⟩
    | [], h => exact h.elim
    | [_], h => exact h.2.elim
    | [_, _], h => exact h.2.2.elim
    | [_, _, _], h => exact h.2.2.2.elim
    | _ :: _ :: _ :: _ :: _ :: _, h => exact h.2.2.2.2.elim
  obtain ⟨pl, ls, rfl, hpl, hdl⟩ := den_tup hd.1
  obtain ⟨pr, rs, rfl, hpr, hdr⟩ := den_tup hd.2.1
  have l1 := hdl.len
  have l2 := hdr.len
  rw [List.length_map] at l1 l2
  refine ⟨_, rfl, p, _, _, _, rfl, rfl, SqT.of hp, atI_zero _ _, _, rfl, p, _, _, _, rfl, rfl, SqT.of hp, atI_nat (xs := [V.ref pl, V.ref pr, b2, b3]) (j := 1) rfl, ?_⟩
  refine ⟨pl, pr, _, _, rfl, rfl, hpl, hpr, Nat.le_trans (show _ ≤ 1000000 by omega) sizeLine_big, fun q2 H2 s2 e2 => ?_⟩
  have dA : DenL H2 (ls ++ rs) ((L ++ R).map partD) := by
    rw [List.map_append]
    exact denl_app (hdl.same s2) (hdr.same s2)
  generalize ls ++ rs = us at e2 dA
  generalize hLR : L ++ R = qs at dA k
  have hql : qs.length ≤ 2000 := by rw [← hLR, List.length_append]; omega
  have hul := dA.len
  rw [List.length_map] at hul
  refine ⟨q2, rfl, ⟨_, SqT.of e2⟩, fun lc hlc => ?_⟩
  refine comp_by (J := Itt K q2) (l := lc) us.length (fun i σ' H' => ∃ (v : Option V), σ' = [v] ∧ Same H2 H' ∧ H' lc = some (.lst (nmsOf (qs.take i)))) ⟨none, rfl, same_new hlc _, upd_same⟩ ?_ ?_
  · rintro σ' H' ⟨v, rfl, hs, hl'⟩
    rw [hul, List.take_length] at hl'
    refine ⟨⟨_, SqT.of (hs _ _ e2), Nat.le_refl _⟩, lc, _, rfl, .inl ⟨SqL.of hl', fun q3 hq3 => ?_⟩⟩
    exact k q3 _ ((s2.trans hs).trans (same_new hq3 _)) upd_same
  · rintro i σ' H' hi ⟨v, rfl, hs, hl'⟩
    have hat : us[i]? = some us[i] := List.getElem?_eq_getElem hi
    refine ⟨⟨_, _, SqT.of (hs _ _ e2), hat⟩, ?_⟩
    rintro y H'' ⟨rfl, hy⟩
    have ey : y = us[i] := Option.some.inj ((hy _ (SqT.of (hs _ _ e2))).symm.trans hat)
    have hni : i < qs.length := by omega
    obtain ⟨dd, hdd, dy⟩ := dA.at_ hat
    rw [← ey] at dy
    rw [List.getElem?_map, List.getElem?_eq_getElem hni] at hdd
    have edd : partD qs[i] = dd := Option.some.inj hdd
    subst edd
    obtain ⟨b, bs, rfl, hb, hbd⟩ := den_tup (dy.same hs)
    obtain ⟨c0, cs, rfl⟩ : ∃ c0 cs, bs = c0 :: cs := by
      cases bs with
      | nil => exact hbd.elim
      | cons c0 cs => exact ⟨c0, cs, rfl⟩
    have ec : c0 = mkT qs[i].1 := hbd.1
    subst ec
    refine gN (yesT (iteT ?_))
    refine ⟨_, rfl, b, _, _, _, rfl, rfl, SqT.of hb, atI_zero _ _, _, hl', ?_, _, rfl, ?_, ?_⟩
    · rw [nmsOf, List.length_map, List.length_take]
      exact Nat.lt_of_lt_of_le (show min i qs.length < 1000000 by omega) sizeLine_big
    · intro c o z
      have hlH : H2 lc = none := hlc
      rw [upd_ne (ne_of_none z hlH)]
      exact hs c o z
    · rw [upd_same, List.take_add_one, List.getElem?_eq_getElem hni, nmsOf, nmsOf, List.map_append]
      rfl
theorem scAreUnlike : FnScope ["names"] ["names"] (defScope sAreUnlike) := ⟨rfl, rfl, rfl, by decide +kernel, rfl, by decide +kernel, by decide +kernel⟩
theorem c_are_unlike (h : Has K mg "are_unlike" sAreUnlike ["names"]) (m_len : mg "len" = none) (m_set : mg "set" = none) : Cal P w K mg base "are_unlike" 1 ["names"] spUnlike := by
  refine h.mk' scAreUnlike (fun vs H Q E hs => ?_) (fun f cdv A outer s H vs Q E hr hs => ?_)
  · obtain ⟨p, ns, rfl, _⟩ := hs
    rfl
  obtain ⟨p, ns, rfl, hp, hn, hl, k⟩ := hs
  refine ⟨_, (pss_one (ps_ret (pe_cmpR op_eq (pe_callB call_len_setS rfl m_len PySem.boot_len (pa_cons (pe_callTy (call_setS rfl) rfl m_set boot_set (pa_cons (pv 0) pa_nil)) pa_nil)) (pe_callB call_len_seq rfl m_len PySem.boot_len (pa_cons (pv 0) pa_nil)) (nomark _)))), ?_⟩
  have hq : ∀ H' : Hp, Same H H' → SqL K H' p (ns.map V.str) ∨ SqT K H' p (ns.map V.str) := fun H' s => by
    rcases hp with z | z
    · exact .inl (SqL.of (s _ _ z))
    · exact .inr (SqT.of (s _ _ z))
  refine ⟨_, rfl, p, ns, rfl, hq H (Same.refl H), hn, hl, fun a ha => ?_⟩
  refine ⟨a, ns.length, rfl, upd_same, ?_⟩
  refine ⟨_, rfl, p, _, rfl, hq _ (same_new ha _), rfl, ?_⟩
  rw [List.length_map, decide_eq_true rfl]
  exact k _ (same_new ha _)
theorem pairs_walk {J : It} {lc : Addr} {ns : List Str} {H : Hp} {R : Hp → Prop} (hgo : ∀ H', Same H H' → ∀ i, i < ns.length → J.go i H') (hst : ∀ H', Same H H' → J.stop ns.length H') (hy : ∀ H', Same H H' → ∀ i x H'', (h : i < ns.length) → J.yld i H' x H'' → H'' = H' ∧ x = .str ns[i]) (hn : ns.length ≤ 4000) (hlc : H lc = none)
    (hfin : ∀ (H' : Hp) (vs : List V), Same H H' → H' lc = some (.lst vs) → Prs H' vs (ns.map fun x => ((Sum.inr x : Key), V.bl true)) → R H') :
    ∃ W : Nat → Nat → L2.St → Hp → Prop, (∃ m, W 0 m [none] (upd H lc (.lst []))) ∧ ∀ i m σ H, W i m σ H →
      (J.stop i H ∧ R H) ∨ (J.go i H ∧ ∃ N : L2.St → Hp → Prop, (∀ σ' H', N σ' H' → ∃ m', m' < m ∧ W (i + 1) m' σ' H') ∧
        ∀ x H', J.yld i H x H' → gName 0 x σ H' fun σ2 H2 => tYes σ2 H2 fun b H3 => if b = true then tTup (tCons (tVar 0) (tCons (tC (.bl true)) tNil)) σ2 H3 fun v H4 => ∃ ys, H4 lc = some (.lst ys) ∧ ys.length < sizeLine ∧ N σ2 (upd H4 lc (.lst (ys ++ [v]))) else N σ2 H3) := by
  refine comp_by (J := J) (l := lc) ns.length (fun i σ' H' => ∃ (v : Option V) (vs : List V), σ' = [v] ∧ Same H H' ∧ H' lc = some (.lst vs) ∧ Prs H' vs ((ns.take i).map fun x => ((Sum.inr x : Key), V.bl true))) ⟨none, [], rfl, same_new hlc _, upd_same, .nil⟩ ?_ ?_
  · rintro σ' H' ⟨v, vs, rfl, hs, hl, pr⟩
    rw [List.take_length] at pr
    exact ⟨hst H' hs, hfin H' vs hs hl pr⟩
  · rintro i σ' H' hi ⟨v, vs, rfl, hs, hl, pr⟩
    refine ⟨hgo H' hs i hi, ?_⟩
    intro x H'' hyd
    obtain ⟨rfl, rfl⟩ := hy H' hs i x H'' hi hyd
    refine gN (yesT (iteT ?_))
    refine ⟨_, rfl, smn 2, fun t ht => ?_⟩
    have s2 := same_new ht (.tup [.str ns[i], .bl true])
    have pl := pr.len
    rw [List.length_map, List.length_take] at pl
    refine ⟨vs, s2 _ _ hl, Nat.lt_of_lt_of_le (show vs.length < 1000000 by omega) sizeLine_big, _, vs ++ [.ref t], rfl, ?_, upd_same, ?_⟩
    · intro c o z
      rw [upd_ne (ne_of_none z hlc)]
      exact s2 _ _ (hs c o z)
    · have ntl : t ≠ lc := (ne_of_none hl ht).symm
      rw [List.take_add_one, List.getElem?_eq_getElem hi, List.map_append]
      refine Prs.snoc (kv := ((Sum.inr ns[i] : Key), V.bl true)) ⟨t, rfl, (upd_ne ntl).trans upd_same⟩ ?_
      refine Paired.mapP (pr.same s2) fun v kv ⟨p, e1, e2⟩ => ⟨p, e1, ?_⟩
      rw [upd_ne (ne_of e2 (s2 _ _ hl) (by intro z; cases z))]
      exact e2
theorem scAreAmong : FnScope ["names", "others", "known"] ["names", "others"] (defScope sAreAmong) := ⟨rfl, rfl, rfl, by decide +kernel, rfl, by decide +kernel, by decide +kernel⟩
theorem c_are_among (h : Has K mg "are_among" sAreAmong ["names", "others"]) (m_dict : mg "dict" = none) (m_all : mg "all" = none) : Cal P w K mg base "are_among" 1 ["names", "others"] spAmong := by
  refine h.mk' scAreAmong (fun vs H Q E hs => ?_) (fun f cdv A outer s H vs Q E hr hs => ?_)
  · obtain ⟨p, q, ns, rfl, _⟩ := hs
    rfl
  obtain ⟨p, q, ns, rfl, hp, hq, hn, k⟩ := hs
  refine ⟨_, (pss_cons (ps_set (i := 2) scAreAmong.nd rfl (Or.inr rfl) (pe_callTy (call_dict_of rfl) rfl m_dict boot_dict (pa_cons (pe_compL ["names", "others", "known"] (defScope sAreAmong) ["name"] [none] rfl rfl rfl (pi_seq (pv 1)) rfl (by decide +kernel) (by decide +kernel) (by decide +kernel) (by decide +kernel) (hg := fun cl C s H ex pn E => (pg_name (i := 0) (by decide +kernel : (["name"] : List Str).Nodup) rfl (Or.inl rfl))) (ht := fun cl C s H ex pn E => pifs_nil) (he := fun cl C s H ex pn E => (pe_tup (pa_cons (pv 0) (pa_cons pe_bl pa_nil))))) pa_nil)))
    (pss_one (ps_ret (pe_callB (call_allB rfl) rfl m_all boot_all (pa_cons (pe_compL ["names", "others", "known"] (defScope sAreAmong) ["known", "name"] [some 2, none] rfl rfl rfl (pi_seq (pv 0)) rfl (by decide +kernel) (by decide +kernel) (by decide +kernel) (by decide +kernel) (hg := fun cl C s H ex pn E => (pg_name (i := 1) (by decide +kernel : (["known", "name"] : List Str).Nodup) rfl (Or.inl rfl))) (ht := fun cl C s H ex pn E => pifs_nil) (he := fun cl C s H ex pn E => (pe_cmp (pc_din (hu_of hr) (pv 1) (pv 0)) (by with_unfolding_all rfl)))) pa_nil))))), ?_⟩
  rcases hq with hq | hq
  · refine ⟨_, rfl, q, rfl, .inl ⟨⟨_, SqL.of hq⟩, fun lc hlc => ?_⟩⟩
    refine pairs_walk (ns := ns) (fun H' s i hi => ⟨_, _, SqL.of (s _ _ hq), by rw [List.getElem?_map, List.getElem?_eq_getElem hi]; rfl⟩) (fun H' s => ⟨_, SqL.of (s _ _ hq), by simp⟩) (fun H' s i x H'' hi hy => ⟨hy.1, ?_⟩) hn hlc (fun H1 vs s1 hl pr => ⟨lc, vs, _, rfl, hl, pr, fun d hd => ?_⟩)
    · have := hy.2 _ (SqL.of (s _ _ hq))
      rw [List.getElem?_map, List.getElem?_eq_getElem hi] at this
      exact (Option.some.inj this).symm
    · have s2 := s1.trans (same_new hd (.dK (mergeK [] (ns.map fun x => ((Sum.inr x : Key), V.bl true)))))
      generalize upd H1 d (.dK (mergeK [] (ns.map fun x => ((Sum.inr x : Key), V.bl true)))) = H2 at s2
      rcases hp with hp | hp
      · refine ⟨_, rfl, p, rfl, .inl ⟨⟨_, SqL.of (s2 _ _ hp)⟩, fun l2 hl2 => ?_⟩⟩
        refine comp_by (J := Itl K p) (l := l2) 0 (fun i σ' H' => i = 0 ∧ ∃ v : Option V, σ' = [some (.ref d), v] ∧ Same H2 H' ∧ H' l2 = some (.lst [])) ⟨rfl, none, rfl, same_new hl2 _, upd_same⟩ ?_ ?_
        · rintro σ' H' ⟨_, v, rfl, hs, hl3⟩
          exact ⟨⟨_, SqL.of (hs _ _ (s2 _ _ hp)), Nat.le_refl _⟩, l2, [], rfl, SqL.of hl3, k _ (s2.trans hs)⟩
        · rintro i σ' H' hi
          exact absurd hi (Nat.not_lt_zero _)
      · refine ⟨_, rfl, p, rfl, .inr ⟨⟨_, SqT.of (s2 _ _ hp)⟩, fun l2 hl2 => ?_⟩⟩
        refine comp_by (J := Itt K p) (l := l2) 0 (fun i σ' H' => i = 0 ∧ ∃ v : Option V, σ' = [some (.ref d), v] ∧ Same H2 H' ∧ H' l2 = some (.lst [])) ⟨rfl, none, rfl, same_new hl2 _, upd_same⟩ ?_ ?_
        · rintro σ' H' ⟨_, v, rfl, hs, hl3⟩
          exact ⟨⟨_, SqT.of (hs _ _ (s2 _ _ hp)), Nat.le_refl _⟩, l2, [], rfl, SqL.of hl3, k _ (s2.trans hs)⟩
        · rintro i σ' H' hi
          exact absurd hi (Nat.not_lt_zero _)
  · refine ⟨_, rfl, q, rfl, .inr ⟨⟨_, SqT.of hq⟩, fun lc hlc => ?_⟩⟩
    refine pairs_walk (ns := ns) (fun H' s i hi => ⟨_, _, SqT.of (s _ _ hq), by rw [List.getElem?_map, List.getElem?_eq_getElem hi]; rfl⟩) (fun H' s => ⟨_, SqT.of (s _ _ hq), by simp⟩) (fun H' s i x H'' hi hy => ⟨hy.1, ?_⟩) hn hlc (fun H1 vs s1 hl pr => ⟨lc, vs, _, rfl, hl, pr, fun d hd => ?_⟩)
    · have := hy.2 _ (SqT.of (s _ _ hq))
      rw [List.getElem?_map, List.getElem?_eq_getElem hi] at this
      exact (Option.some.inj this).symm
    · have s2 := s1.trans (same_new hd (.dK (mergeK [] (ns.map fun x => ((Sum.inr x : Key), V.bl true)))))
      generalize upd H1 d (.dK (mergeK [] (ns.map fun x => ((Sum.inr x : Key), V.bl true)))) = H2 at s2
      rcases hp with hp | hp
      · refine ⟨_, rfl, p, rfl, .inl ⟨⟨_, SqL.of (s2 _ _ hp)⟩, fun l2 hl2 => ?_⟩⟩
        refine comp_by (J := Itl K p) (l := l2) 0 (fun i σ' H' => i = 0 ∧ ∃ v : Option V, σ' = [some (.ref d), v] ∧ Same H2 H' ∧ H' l2 = some (.lst [])) ⟨rfl, none, rfl, same_new hl2 _, upd_same⟩ ?_ ?_
        · rintro σ' H' ⟨_, v, rfl, hs, hl3⟩
          exact ⟨⟨_, SqL.of (hs _ _ (s2 _ _ hp)), Nat.le_refl _⟩, l2, [], rfl, SqL.of hl3, k _ (s2.trans hs)⟩
        · rintro i σ' H' hi
          exact absurd hi (Nat.not_lt_zero _)
      · refine ⟨_, rfl, p, rfl, .inr ⟨⟨_, SqT.of (s2 _ _ hp)⟩, fun l2 hl2 => ?_⟩⟩
        refine comp_by (J := Itt K p) (l := l2) 0 (fun i σ' H' => i = 0 ∧ ∃ v : Option V, σ' = [some (.ref d), v] ∧ Same H2 H' ∧ H' l2 = some (.lst [])) ⟨rfl, none, rfl, same_new hl2 _, upd_same⟩ ?_ ?_
        · rintro σ' H' ⟨_, v, rfl, hs, hl3⟩
          exact ⟨⟨_, SqT.of (hs _ _ (s2 _ _ hp)), Nat.le_refl _⟩, l2, [], rfl, SqL.of hl3, k _ (s2.trans hs)⟩
        · rintro i σ' H' hi
          exact absurd hi (Nat.not_lt_zero _)
end
section
open M05
variable {P : Program} {w : World} {K : PySem.W.Frag} {mg : Str → Option Value} {base : Heap}
theorem den_book {H : Hp} {v : V} {L R : List Prt} (h : Den H v (bookD L R)) : ∃ (p pl pr pk pa : Addr) (ls rs : List V), v = .ref p ∧ H p = some (.tup [.ref pl, .ref pr, .ref pk, .ref pa]) ∧ H pl = some (.tup ls) ∧ DenL H ls (L.map partD) ∧ H pr = some (.tup rs) ∧ DenL H rs (R.map partD) ∧ H pk = some (.tup []) ∧ H pa = some (.tup []) := by
  obtain ⟨p, us, rfl, hp, hd⟩ := den_tup h
  obtain ⟨b0, b1, b2, b3, rfl⟩ : ∃ b0 b1 b2 b3, us = [b0, b1, b2, b3] := by
    match us, hd with
    | [b0, b1, b2, b3], _ => exact ⟨b0, b1, b2, b3, rfl⟩
    | [], h => exact h.elim
    | [_], h => exact h.2.elim
    | [_, _], h => exact h.2.2.elim
    | [_, _, _], h => exact h.2.2.2.elim
    | _ :: _ :: _ :: _ :: _ :: _, h => exact h.2.2.2.2.elim
  obtain ⟨pl, ls, rfl, hpl, hdl⟩ := den_tup hd.1
  obtain ⟨pr, rs, rfl, hpr, hdr⟩ := den_tup hd.2.1
  obtain ⟨pk, ks, rfl, hpk, hdk⟩ := den_tup hd.2.2.1
  obtain ⟨pa, as, rfl, hpa, hda⟩ := den_tup hd.2.2.2.1
  have ek : ks = [] := by
    cases ks with
    | nil => rfl
    | cons _ _ => exact hdk.elim
  have ea : as = [] := by
    cases as with
    | nil => rfl
    | cons _ _ => exact hda.elim
  subst ek
  subst ea
  exact ⟨p, pl, pr, pk, pa, ls, rs, rfl, hp, hpl, hdl, hpr, hdr, hpk, hpa⟩
theorem nodup_str {xs : List (List Nat)} (h : xs.Nodup) : (xs.map fun r => (⟨r.toArray⟩ : Str)).Nodup := by
  rw [List.nodup_iff_pairwise_ne, List.pairwise_map]
  rw [List.nodup_iff_pairwise_ne] at h
  exact h.imp fun hne e => hne (str_inj e)
theorem nms_str (L : List Prt) : nmsOf L = ((L.map (·.1)).map fun r => (⟨r.toArray⟩ : Str)).map V.str := by
  unfold nmsOf
  rw [List.map_map, List.map_map]
  rfl
theorem scIsBook : FnScope ["thing", "side", "own", "linked"] ["thing"] (defScope sIsBook) := ⟨rfl, rfl, rfl, by decide +kernel, rfl, by decide +kernel, by decide +kernel⟩
theorem c_is_book (h : Has K mg "is_book" sIsBook ["thing"]) (C_are_parts : Cal P w K mg base "are_parts" 5 ["thing"] spAreParts) (C_is_row_of : Cal P w K mg base "is_row_of" 1 ["thing", "count"] spIsRow) (C_are_unlike : Cal P w K mg base "are_unlike" 1 ["names"] spUnlike) (C_names_of : Cal P w K mg base "names_of" 1 ["book"] spNamesOf) (C_are_names : Cal P w K mg base "are_names" 2 ["thing"] spAreNames) (C_are_links : Cal P w K mg base "are_links" 2 ["thing"] spAreNames) (C_are_among : Cal P w K mg base "are_among" 1 ["names", "others"] spAmong) (C_linked_names : Cal P w K mg base "linked_names" 1 ["links", "side"] spLinked) (m_list : mg "list" = none) : Cal P w K mg base "is_book" 6 ["thing"] spIsBook := by
  refine h.mk' scIsBook (fun vs H Q E hs => ?_) (fun f cdv A outer s H vs Q E hr hs => ?_)
  · obtain ⟨v, L, R, rfl, _⟩ := hs
    rfl
  obtain ⟨v, L, R, rfl, hv, hg, hn, hl, hr', k⟩ := hs
  refine ⟨_, (pss_cons (ps_if (PW.pt (pw_or (pt_not (pt_val (pe_cal C_is_row_of hr (by decide) rfl (pa_cons (pv 0) (pa_cons pe_int pa_nil))))) (pw_or (pt_not (pt_val (pe_cal C_are_parts hr (by decide) rfl (pa_cons (pe_ix ix_tup (pv 0) pe_int (fun _ _ => rfl)) pa_nil)))) (pw_or1 (pt_not (pt_val (pe_cal C_are_parts hr (by decide) rfl (pa_cons (pe_ix ix_tup (pv 0) pe_int (fun _ _ => rfl)) pa_nil))))))))
      (pss_one (ps_ret pe_bl))
      pss_nil)
    (pss_cons (ps_if (PW.pt (pw_or (pt_not (pt_val (pe_cal C_are_links hr (by decide) rfl (pa_cons (pe_ix ix_tup (pv 0) pe_int (fun _ _ => rfl)) pa_nil)))) (pw_or (pt_not (pt_val (pe_cal C_are_names hr (by decide) rfl (pa_cons (pe_ix ix_tup (pv 0) pe_int (fun _ _ => rfl)) pa_nil)))) (pw_or1 (pt_not (pt_val (pe_cal C_are_unlike hr (by decide) rfl (pa_cons (pe_cal C_names_of hr (by decide) rfl (pa_cons (pv 0) pa_nil)) pa_nil))))))))
      (pss_one (ps_ret pe_bl))
      pss_nil)
    (pss_cons (ps_for PassesOwn.never rfl (pi_tup (pe_tup (pa_cons pe_int (pa_cons pe_int pa_nil)))) (pg_name (i := 1) scIsBook.nd rfl (Or.inl rfl))
      (pss_cons (ps_setC (ix := 2) scIsBook.nd rfl rfl ["thing", "side", "own", "linked"] (defScope sIsBook) ["part"] [none] rfl rfl rfl (pi_tup (pe_ix ix_tup (pv 0) (pv 1) (fun _ _ => rfl))) rfl (by decide +kernel) (by decide +kernel) (by decide +kernel) (by decide +kernel) (hg := fun cl C s H ex pn E => (pg_name (i := 0) (by decide +kernel : (["part"] : List Str).Nodup) rfl (Or.inl rfl))) (ht := fun cl C s H ex pn E => pifs_nil) (he := fun cl C s H ex pn E => (pe_ix (ix_tupK (K := K) rfl) (pv 0) pe_int (fun _ _ => rfl))))
    (pss_one (ps_if (pt_not (pt_val (pe_cal C_are_among hr (by decide) rfl (pa_cons (pe_cal C_linked_names hr (by decide) rfl (pa_cons (pe_ix ix_tup (pv 0) pe_int (fun _ _ => rfl)) (pa_cons (pv 1) pa_nil))) (pa_cons (pv 2) pa_nil)))))
      (pss_one (ps_ret pe_bl))
      pss_nil))))
    (pss_cons (ps_set (i := 3) scIsBook.nd rfl (Or.inl rfl) (pe_op op_cat (pe_cal C_linked_names hr (by decide) rfl (pa_cons (pe_ix ix_tup (pv 0) pe_int (fun _ _ => rfl)) (pa_cons pe_int pa_nil))) (pe_cal C_linked_names hr (by decide) rfl (pa_cons (pe_ix ix_tup (pv 0) pe_int (fun _ _ => rfl)) (pa_cons pe_int pa_nil)))))
    (pss_one (ps_ret (pe_and (pe_cal C_are_unlike hr (by decide) rfl (pa_cons (pe_op op_cat (pv 3) (pe_callTy call_list_of rfl m_list boot_list (pa_cons (pe_ix ix_tup (pv 0) pe_int (fun _ _ => rfl)) pa_nil))) pa_nil)) (pe_one (pe_cal C_are_among hr (by decide) rfl (pa_cons (pe_ix ix_tup (pv 0) pe_int (fun _ _ => rfl)) (pa_cons (pe_cal C_names_of hr (by decide) rfl (pa_cons (pv 0) pa_nil)) pa_nil))))))))))), ?_⟩
  obtain ⟨p, pl, pr, pk, pa, ls, rs, rfl, hp, hpl, hdl, hpr, hdr, hpk, hpa⟩ := den_book hv
  have at0 : atI [V.ref pl, V.ref pr, V.ref pk, V.ref pa] 0 = some (.ref pl) := atI_zero _ _
  have at1 : atI [V.ref pl, V.ref pr, V.ref pk, V.ref pa] 1 = some (.ref pr) := atI_nat (xs := [V.ref pl, V.ref pr, V.ref pk, V.ref pa]) (j := 1) rfl
  have at2 : atI [V.ref pl, V.ref pr, V.ref pk, V.ref pa] 2 = some (.ref pk) := atI_nat (xs := [V.ref pl, V.ref pr, V.ref pk, V.ref pa]) (j := 2) rfl
  have at3 : atI [V.ref pl, V.ref pr, V.ref pk, V.ref pa] 3 = some (.ref pa) := atI_nat (xs := [V.ref pl, V.ref pr, V.ref pk, V.ref pa]) (j := 3) rfl
  have hns := nodup_str hn
  have hnl : (((L ++ R).map (·.1)).map fun r => (⟨r.toArray⟩ : Str)).length ≤ 4000 := by
    rw [List.length_map, List.length_map, List.length_append]
    omega
  refine ⟨_, rfl, p, _, 4, rfl, hp, rfl, _, rfl, iteF ?_⟩
  refine ⟨_, rfl, p, _, _, _, rfl, rfl, SqT.of hp, at0, _, L, rfl, ⟨pl, ls, rfl, hpl, hdl⟩, fun q hq => hg q (List.mem_append_left _ hq), hl, fun H1 s1 => ⟨_, rfl, iteF ?_⟩⟩
  refine ⟨_, rfl, p, _, _, _, rfl, rfl, SqT.of (s1 _ _ hp), at1, _, R, rfl, ⟨pr, rs, rfl, s1 _ _ hpr, hdr.same s1⟩, fun q hq => hg q (List.mem_append_right _ hq), hr', fun H2 s2 => ⟨_, rfl, iteF ?_⟩⟩
  have sA := s1.trans s2
  refine ⟨_, rfl, p, _, _, _, rfl, rfl, SqT.of (sA _ _ hp), at2, pk, rfl, sA _ _ hpk, fun H3 s3 => ⟨_, rfl, iteF ?_⟩⟩
  have sB := sA.trans s3
  refine ⟨_, rfl, p, _, _, _, rfl, rfl, SqT.of (sB _ _ hp), at3, pa, rfl, sB _ _ hpa, fun H4 s4 => ⟨_, rfl, iteF ?_⟩⟩
  have sC := sB.trans s4
  refine ⟨_, rfl, _, L, R, rfl, hv.same sC, hl, hr', fun q5 H5 s5 e5 => ?_⟩
  rw [nms_str] at e5
  refine ⟨q5, _, rfl, .inr e5, hns, hnl, fun H6 s6 => ⟨_, rfl, iteF ?_⟩⟩
  have sD' := (sC.trans s5).trans s6
  -- the two sides
  refine ⟨smn 2, fun tt htt => ?_⟩
  have sE := sD'.trans (same_new htt (.tup [.int 0, .int 1]))
  have ett : (upd H6 tt (.tup [.int 0, .int 1])) tt = some (.tup [.int 0, .int 1]) := upd_same
  generalize upd H6 tt (.tup [.int 0, .int 1]) = H7 at sE ett
  refine ⟨tt, rfl, ⟨_, SqT.of ett⟩, ?_⟩
  refine for_tup (K := K) (a := tt) (xs := [.int 0, .int 1]) (fun i σ H8 => ∃ v1 v2 : Option V, σ = [some (.ref p), v1, v2, none] ∧ Same H7 H8) ⟨_, _, rfl, Same.refl H7⟩ ?_ ?_ ?_
  · rintro i σ H8 _ ⟨v1, v2, rfl, s8⟩
    exact SqT.of (s8 _ _ ett)
  · rintro i y σ H8 hi ⟨v1, v2, rfl, s8⟩
    obtain ⟨n, qs, us, pq, rfl, hat, hpq, hdq, hql⟩ : ∃ (n : Int) (qs : List Prt) (us : List V) (pq : Addr), y = .int n ∧ atI [V.ref pl, V.ref pr, V.ref pk, V.ref pa] n = some (.ref pq) ∧ H pq = some (.tup us) ∧ DenL H us (qs.map partD) ∧ qs.length ≤ 1000 := by
      match i, hi with
      | 0, hi => exact ⟨0, L, ls, pl, (Option.some.inj hi).symm, at0, hpl, hdl, hl⟩
      | 1, hi => exact ⟨1, R, rs, pr, (Option.some.inj hi).symm, at1, hpr, hdr, hr'⟩
      | i + 2, hi => simp at hi
    have sF := sE.trans s8
    have hul := hdq.len
    rw [List.length_map] at hul
    refine ⟨_, rfl, _, rfl, p, _, n, _, rfl, rfl, SqT.of (sF _ _ hp), hat, pq, rfl, ⟨_, SqT.of (sF _ _ hpq)⟩, fun lc hlc => ?_⟩
    refine comp_by (J := Itt K pq) (l := lc) us.length (fun i σ' H' => ∃ (v : Option V), σ' = [v] ∧ Same H8 H' ∧ H' lc = some (.lst (nmsOf (qs.take i)))) ⟨none, rfl, same_new hlc _, upd_same⟩ ?_ ?_
    · rintro σ' H9 ⟨v, rfl, s9, hl9⟩
      rw [hul, List.take_length] at hl9
      refine ⟨⟨_, SqT.of (s9 _ _ (sF _ _ hpq)), Nat.le_refl _⟩, ?_⟩
      have sG := sF.trans s9
      refine ⟨_, rfl, p, _, _, _, rfl, rfl, SqT.of (sG _ _ hp), at2, _, rfl, pk, n, rfl, sG _ _ hpk, fun l10 H10 s10 e10 => ?_⟩
      rw [nms_str] at hl9
      refine ⟨_, rfl, l10, lc, _, rfl, .inl e10, .inl (s10 _ _ hl9), by rw [List.length_map, List.length_map]; omega, fun H11 s11 => ⟨_, rfl, iteF ?_⟩⟩
      exact ⟨_, _, rfl, ((s8.trans s9).trans s10).trans s11⟩
    · rintro i' σ' H9 hi' ⟨v, rfl, s9, hl9⟩
      have hat' : us[i']? = some us[i'] := List.getElem?_eq_getElem hi'
      refine ⟨⟨_, _, SqT.of (s9 _ _ (sF _ _ hpq)), hat'⟩, ?_⟩
      rintro y H'' ⟨rfl, hy⟩
      have ey : y = us[i'] := Option.some.inj ((hy _ (SqT.of (s9 _ _ (sF _ _ hpq)))).symm.trans hat')
      have hni : i' < qs.length := by omega
      obtain ⟨dd, hdd, dy⟩ := hdq.at_ hat'
      rw [← ey] at dy
      rw [List.getElem?_map, List.getElem?_eq_getElem hni] at hdd
      have edd : partD qs[i'] = dd := Option.some.inj hdd
      subst edd
      obtain ⟨b, bs, rfl, hb, hbd⟩ := den_tup (dy.same (sF.trans s9))
      obtain ⟨c0, cs, rfl⟩ : ∃ c0 cs, bs = c0 :: cs := by
        cases bs with
        | nil => exact hbd.elim
        | cons c0 cs => exact ⟨c0, cs, rfl⟩
      have ec : c0 = mkT qs[i'].1 := hbd.1
      subst ec
      refine gN (yesT (iteT ?_))
      refine ⟨_, rfl, b, _, _, _, rfl, rfl, SqT.of hb, atI_zero _ _, _, hl9, ?_, _, rfl, ?_, ?_⟩
      · rw [nmsOf, List.length_map, List.length_take]
        exact Nat.lt_of_lt_of_le (show min i' qs.length < 1000000 by omega) sizeLine_big
      · intro c o z
        have hlH : H8 lc = none := hlc
        rw [upd_ne (ne_of_none z hlH)]
        exact s9 c o z
      · rw [upd_same, List.take_add_one, List.getElem?_eq_getElem hni, nmsOf, nmsOf, List.map_append]
        rfl
  · rintro σ H8 ⟨v1, v2, rfl, s8⟩
    have sF := sE.trans s8
    refine ⟨_, rfl, p, _, _, _, rfl, rfl, SqT.of (sF _ _ hp), at2, pk, 0, rfl, sF _ _ hpk, fun l9 H9 s9 e9 => ?_⟩
    have sG := sF.trans s9
    refine ⟨_, rfl, p, _, _, _, rfl, rfl, SqT.of (sG _ _ hp), at2, pk, 1, rfl, sG _ _ hpk, fun l10 H10 s10 e10 => ?_⟩
    refine ⟨l9, l10, [], [], rfl, rfl, s10 _ _ e9, e10, smn 0, fun l11 hl11 => ?_⟩
    have sH := (sG.trans s10).trans (same_new hl11 (.lst ([] ++ [])))
    have e11 : (upd H10 l11 (.lst ([] ++ []))) l11 = some (.lst []) := upd_same
    generalize upd H10 l11 (.lst ([] ++ [])) = H11 at sH e11
    refine ⟨_, rfl, _, rfl, p, _, _, _, rfl, rfl, SqT.of (sH _ _ hp), at3, pa, [], rfl, .inr (SqT.of (sH _ _ hpa)), fun l12 hl12 => ?_⟩
    have s12 := same_new hl12 (.lst [])
    refine ⟨l11, l12, [], [], rfl, rfl, s12 _ _ e11, upd_same, smn 0, fun l13 hl13 => ?_⟩
    have s13 := same_new hl13 (.lst ([] ++ []))
    have sI := (sH.trans s12).trans s13
    refine ⟨l13, [], rfl, .inl upd_same, List.nodup_nil, by simp, fun H14 s14 => ⟨_, rfl, iteT ?_⟩⟩
    have sJ := sI.trans s14
    refine ⟨_, rfl, p, _, _, _, rfl, rfl, SqT.of (sJ _ _ hp), at3, _, rfl, _, L, R, rfl, hv.same sJ, hl, hr', fun q15 H15 s15 e15 => ?_⟩
    rw [nms_str] at e15
    exact ⟨pa, q15, _, rfl, .inr (s15 _ _ (sJ _ _ hpa)), .inr e15, hnl, fun H16 s16 => k H16 ((sJ.trans s15).trans s16)⟩
theorem mkParts_snoc {n : Nat} {t : Int} {ps : List (List Int × List Nat)} {i : Nat} (h : i < ps.length) : mkParts n t (ps.take (i + 1)) = mkParts n t (ps.take i) ++ [(nm (n + i + 1), ps[i].2, t)] := by
  unfold mkParts
  rw [List.take_add_one, List.getElem?_eq_getElem h, Option.toList_some, List.zipIdx_append, List.map_append]
  simp [Nat.min_eq_left (Nat.le_of_lt h)]
theorem mkParts_len {n : Nat} {t : Int} {ps : List (List Int × List Nat)} : (mkParts n t ps).length = ps.length := by
  unfold mkParts
  simp
theorem scNewParts : FnScope ["found", "first", "t"] ["found", "first", "t"] (defScope sNewParts) := ⟨rfl, rfl, rfl, by decide +kernel, rfl, by decide +kernel, by decide +kernel⟩
theorem c_new_parts (h : Has K mg "new_parts" sNewParts ["found", "first", "t"]) (C_name_at : Cal P w K mg base "name_at" 1 ["k"] spNameAt) (m_tuple : mg "tuple" = none) (m_enumerate : mg "enumerate" = none) : Cal P w K mg base "new_parts" 2 ["found", "first", "t"] spNewParts := by
  refine h.mk' scNewParts (fun vs H Q E hs => ?_) (fun f cdv A outer s H vs Q E hr hs => ?_)
  · obtain ⟨v, ps, n, t, rfl, _⟩ := hs
    rfl
  obtain ⟨v, ps, n, t, rfl, hv, hl, hn, k⟩ := hs
  refine ⟨_, (pss_one (ps_ret (pe_callTy call_tuple_of rfl m_tuple boot_tuple (pa_cons (pe_compL ["found", "first", "t"] (defScope sNewParts) ["first", "t", "k", "leaf"] [some 1, some 2, none, none] rfl rfl rfl (pi_enumT rfl m_enumerate (pa_cons (pv 0) pa_nil)) rfl (by decide +kernel) (by decide +kernel) (by decide +kernel) (by decide +kernel) (g := gTup K 2 (gCons (gName 2) (gCons (gName 3) gNil))) (hg := fun cl C s H ex pn E => pg_tup (n := 2) rfl (pgs_cons (pg_name (i := 2) (by decide +kernel : (["first", "t", "k", "leaf"] : List Str).Nodup) rfl (Or.inl rfl) (Or.inr rfl)) (pgs_cons (pg_name (i := 3) (by decide +kernel : (["first", "t", "k", "leaf"] : List Str).Nodup) rfl (Or.inl rfl) (Or.inr rfl)) pgs_nil))) (ht := fun cl C s H ex pn E => pifs_nil) (he := fun cl C s H ex pn E => (pe_tup (pa_cons (pe_cal C_name_at hr (by decide) rfl (pa_cons (pe_op op_add (pv 0) (pv 2)) pa_nil)) (pa_cons (pe_ix (ix_tupK (K := K) rfl) (pv 3) pe_int (fun _ _ => rfl)) (pa_cons (pe_tup (pa_cons (pv 1) pa_nil)) pa_nil)))))) pa_nil)))), ?_⟩
  obtain ⟨p, us, rfl, hp, hd⟩ := den_tup hv
  have hul := hd.len
  rw [List.length_map] at hul
  refine ⟨_, rfl, p, rfl, ⟨_, SqT.of hp⟩, fun lc hlc => ?_⟩
  refine comp_by (J := IteT K p) (l := lc) us.length (fun i σ' H' => ∃ (v2 v3 : Option V) (ws : List V), σ' = [some (.int (n : Nat)), some (.int t), v2, v3] ∧ Same H H' ∧ H' lc = some (.lst ws) ∧ DenL H' ws ((mkParts n t (ps.take i)).map partD)) ⟨none, none, [], rfl, same_new hlc _, upd_same, trivial⟩ ?_ ?_
  · rintro σ' H' ⟨v2, v3, ws, rfl, hs, hl', hd'⟩
    refine ⟨⟨_, SqT.of (hs _ _ hp), Nat.le_refl _⟩, lc, ws, rfl, .inl ⟨SqL.of hl', fun q2 hq2 => ?_⟩⟩
    rw [hul, List.take_length] at hd'
    exact k q2 _ (hs.trans (same_new hq2 _)) ⟨q2, ws, rfl, upd_same, hd'.same (same_new hq2 _)⟩
  · rintro i σ' H' hi ⟨v2, v3, ws, rfl, hs, hl', hd'⟩
    have hat : us[i]? = some us[i] := List.getElem?_eq_getElem hi
    refine ⟨⟨_, _, SqT.of (hs _ _ hp), hat⟩, ?_⟩
    rintro y H'' ⟨t0, x, rfl, ht0, rfl, hy⟩
    have ex : x = us[i] := Option.some.inj ((hy _ (SqT.of (hs _ _ hp))).symm.trans hat)
    have hni : i < ps.length := by omega
    obtain ⟨dd, hdd, dy⟩ := hd.at_ hat
    rw [← ex] at dy
    rw [List.getElem?_map, List.getElem?_eq_getElem hni] at hdd
    have edd : leafD ps[i] = dd := Option.some.inj hdd
    subst edd
    have s2 : Same H' (upd H' t0 (.tup [.int (i : Nat), x])) := same_new ht0 _
    have sA := hs.trans s2
    obtain ⟨b, bs, rfl, hb, hbd⟩ := den_tup (dy.same sA)
    obtain ⟨c0, c1, rfl⟩ : ∃ c0 c1, bs = [c0, c1] := by
      match bs, hbd with
      | [c0, c1], _ => exact ⟨c0, c1, rfl⟩
      | [], h => exact h.elim
      | [_], h => exact h.2.elim
      | _ :: _ :: _ :: _, h => exact h.2.2.elim
    have ec : c1 = mkT ps[i].2 := hbd.2.1
    subst ec
    refine ⟨t0, _, rfl, SqT.of upd_same, rfl, _, _, rfl, _, _, rfl, rfl, yesT (iteT ?_)⟩
    have hl2 := s2 _ _ hl'
    have hd2 := hd'.same s2
    generalize upd H' t0 (.tup [.int (i : Nat), .ref b]) = H2 at s2 sA hb hl2 hd2
    refine ⟨_, rfl, _, rfl, _, _, rfl, rfl, n + i, congrArg (fun z => [V.int z]) (by push_cast; rfl), by omega, ?_⟩
    refine ⟨_, rfl, b, _, _, _, rfl, rfl, SqT.of hb, atI_nat (xs := [c0, mkT ps[i].2]) (j := 1) rfl, ?_⟩
    refine ⟨_, rfl, smn 1, fun t1 ht1 => ⟨smn 3, fun t2 ht2 => ?_⟩⟩
    have s3 := same_new ht1 (.tup [.int t])
    have s4 := same_new ht2 (.tup [.str ⟨(nm (n + i + 1)).toArray⟩, mkT ps[i].2, .ref t1])
    have dP : Den (upd (upd H2 t1 (.tup [.int t])) t2 (.tup [.str ⟨(nm (n + i + 1)).toArray⟩, mkT ps[i].2, .ref t1])) (.ref t2) (partD (nm (n + i + 1), ps[i].2, t)) := ⟨t2, _, rfl, upd_same, rfl, rfl, ⟨t1, _, rfl, s4 _ _ upd_same, rfl, trivial⟩, trivial⟩
    have hl4 := s4 _ _ (s3 _ _ hl2)
    have hd4 := (hd2.same s3).same s4
    have s24 := s3.trans s4
    generalize upd (upd H2 t1 (.tup [.int t])) t2 (.tup [.str ⟨(nm (n + i + 1)).toArray⟩, mkT ps[i].2, .ref t1]) = H4 at dP hl4 hd4 s24
    have wl := hd'.len
    rw [List.length_map, mkParts_len, List.length_take] at wl
    refine ⟨ws, hl4, Nat.lt_of_lt_of_le (show ws.length < 1000000 by omega) sizeLine_big, _, _, ws ++ [.ref t2], rfl, ?_, upd_same, ?_⟩
    · intro c o z
      have hlH : H lc = none := hlc
      rw [upd_ne (ne_of_none z hlH)]
      exact s24 _ _ (sA c o z)
    · rw [mkParts_snoc hni, List.map_append]
      have kp : ∀ (b' : Addr) (vs : List V), H4 b' = some (.tup vs) → (upd H4 lc (.lst (ws ++ [.ref t2]))) b' = some (.tup vs) := fun b' vs e => by
        rw [upd_ne (ne_of e hl4 (by intro z; cases z))]
        exact e
      exact DenL.snoc (dP.keepT kp) (hd4.keepT kp)
def LVo (ls : List Lvl) (t : List Nat) : List (List Int × List Nat) := lvs ls.length [] (treeD ls t)
def spBegun : Sp := fun vs H Q _ => ∃ (t1 t2 : List Nat) (v : V) (ls : List Lvl) (t : Int), vs = [.str ⟨t1.toArray⟩, .str ⟨t2.toArray⟩, v, .int t] ∧ Den H v (rulesD ls) ∧ ls ≠ [] ∧ ls.length ≤ 5 ∧ OkL ls ∧ t1.length ≤ 400 ∧ t2.length ≤ 400 ∧
  ∀ (q : Addr) (H' : Hp), Same H H' → Den H' (.ref q) (bookD (mkParts 0 t (LVo ls t1)) (mkParts (LVo ls t1).length t (LVo ls t2))) → Q (.ref q) H'
theorem cnt400 {ls : List Lvl} {t : List Nat} (h5 : ls.length ≤ 5) (ht : t.length ≤ 400) : cntN ls.length (treeD ls t) ≤ 100000 := by
  have h1 := cnt_tree ls t
  have h2 : ls.length * t.length ≤ 5 * 400 := Nat.mul_le_mul h5 ht
  omega
theorem lvo_len {ls : List Lvl} {t : List Nat} (h5 : ls.length ≤ 5) (ht : t.length ≤ 400) : (LVo ls t).length ≤ 2001 := by
  have h0 := lvs_cnt ls.length [] (treeD ls t)
  have h1 := cnt_tree ls t
  have h2 : ls.length * t.length ≤ 5 * 400 := Nat.mul_le_mul h5 ht
  unfold LVo
  omega
theorem scBegun : FnScope ["one", "other", "rules", "t", "left", "right"] ["one", "other", "rules", "t"] (defScope sBegun) := ⟨rfl, rfl, rfl, by decide +kernel, rfl, by decide +kernel, by decide +kernel⟩
theorem c_begun (h : Has K mg "begun" sBegun ["one", "other", "rules", "t"]) (C_leaves : Cal P w K mg base "leaves" 8 ["tree"] spLeaves) (C_cut_up : Cal P w K mg base "cut_up" 7 ["text", "rules"] (spCut 5)) (C_new_parts : Cal P w K mg base "new_parts" 2 ["found", "first", "t"] spNewParts) (m_len : mg "len" = none) : Cal P w K mg base "begun" 9 ["one", "other", "rules", "t"] spBegun := by
  refine h.mk' scBegun (fun vs H Q E hs => ?_) (fun f cdv A outer s H vs Q E hr hs => ?_)
  · obtain ⟨t1, t2, v, ls, t, rfl, _⟩ := hs
    rfl
  obtain ⟨t1, t2, v, ls, t, rfl, hv, hne, h5, hok, h1, h2, k⟩ := hs
  refine ⟨_, (pss_cons (ps_set (i := 4) scBegun.nd rfl (Or.inl rfl) (pe_cal C_leaves hr (by decide) rfl (pa_cons (pe_cal C_cut_up hr (by decide) rfl (pa_cons (pv 0) (pa_cons (pv 2) pa_nil))) pa_nil)))
    (pss_cons (ps_set (i := 5) scBegun.nd rfl (Or.inl rfl) (pe_cal C_leaves hr (by decide) rfl (pa_cons (pe_cal C_cut_up hr (by decide) rfl (pa_cons (pv 1) (pa_cons (pv 2) pa_nil))) pa_nil)))
    (pss_one (ps_ret (pe_tup (pa_cons (pe_cal C_new_parts hr (by decide) rfl (pa_cons (pv 4) (pa_cons pe_int (pa_cons (pv 3) pa_nil)))) (pa_cons (pe_cal C_new_parts hr (by decide) rfl (pa_cons (pv 5) (pa_cons (pe_callB call_len_seq rfl m_len PySem.boot_len (pa_cons (pv 4) pa_nil)) (pa_cons (pv 3) pa_nil)))) (pa_cons (pe_tup pa_nil) (pa_cons (pe_tup pa_nil) pa_nil))))))))), ?_⟩
  have hl1 := lvo_len (ls := ls) h5 h1
  have hl2 := lvo_len (ls := ls) h5 h2
  refine ⟨_, rfl, _, rfl, t1, _, ls, rfl, hv, hne, h5, hok, by omega, fun q1 H1 s1 d1 => ?_⟩
  refine ⟨_, ls.length, treeD ls t1, rfl, d1, by omega, tr_tree ls t1, cnt400 h5 h1, fun q2 H2 s2 d2 => ?_⟩
  have sA := s1.trans s2
  refine ⟨_, rfl, _, rfl, t2, _, ls, rfl, hv.same sA, hne, h5, hok, by omega, fun q3 H3 s3 d3 => ?_⟩
  refine ⟨_, ls.length, treeD ls t2, rfl, d3, by omega, tr_tree ls t2, cnt400 h5 h2, fun q4 H4 s4 d4 => ?_⟩
  have sB := (sA.trans s3).trans s4
  have d2' : Den H4 (.ref q2) (.tup ((LVo ls t1).map leafD)) := (d2.same s3).same s4
  have d4' : Den H4 (.ref q4) (.tup ((LVo ls t2).map leafD)) := d4
  refine ⟨_, rfl, _, rfl, _, LVo ls t1, 0, t, rfl, d2', by omega, by omega, fun q5 H5 s5 d5 => ?_⟩
  obtain ⟨q2', lv, eq, e2, dl⟩ := den_tup (d2'.same s5)
  injection eq with eq
  subst eq
  have hll := dl.len
  rw [List.length_map] at hll
  refine ⟨_, rfl, _, rfl, q2, _, rfl, .inr (SqT.of e2), _, rfl, _, LVo ls t2, (LVo ls t1).length, t, (by rw [hll]; rfl), d4'.same s5, by omega, by omega, fun q6 H6 s6 d6 => ?_⟩
  refine ⟨smn 0, fun t7 ht7 => ⟨smn 0, fun t8 ht8 => ⟨smn 4, fun t9 ht9 => ?_⟩⟩⟩
  have s7 := same_new ht7 (.tup [])
  have s8 := same_new ht8 (.tup [])
  have s9 := same_new ht9 (.tup [.ref q5, .ref q6, .ref t7, .ref t8])
  have s89 := s8.trans s9
  refine k t9 _ ((((sB.trans s5).trans s6).trans s7).trans s89) ⟨t9, _, rfl, upd_same, (((d5.same s6).same s7).same s89), ((d6.same s7).same s89), ⟨t7, _, rfl, s89 _ _ upd_same, trivial⟩, ⟨t8, _, rfl, s9 _ _ upd_same, trivial⟩, trivial⟩
end
/-! ### the law's own draws, from a dict -/
def potK (lo : Addr) (l s m : Int) : List (Key × V) := [(Sum.inr "own", .ref lo), (Sum.inr "left", .int l), (Sum.inr "seed", .int s), (Sum.inr "many", .int m)]
theorem kn1 : ¬ ((Sum.inr (Str.ofString "own") : Key) = Sum.inr (Str.ofString "left")) := by decide +kernel
theorem kn2 : ¬ ((Sum.inr (Str.ofString "own") : Key) = Sum.inr (Str.ofString "seed")) := by decide +kernel
theorem kn3 : ¬ ((Sum.inr (Str.ofString "own") : Key) = Sum.inr (Str.ofString "many")) := by decide +kernel
theorem kn4 : ¬ ((Sum.inr (Str.ofString "left") : Key) = Sum.inr (Str.ofString "seed")) := by decide +kernel
theorem kn5 : ¬ ((Sum.inr (Str.ofString "left") : Key) = Sum.inr (Str.ofString "many")) := by decide +kernel
theorem kn6 : ¬ ((Sum.inr (Str.ofString "seed") : Key) = Sum.inr (Str.ofString "many")) := by decide +kernel
theorem sn1 : ¬ (Str.ofString "own" = Str.ofString "left") := by decide +kernel
theorem sm1 : ¬ (Str.ofString "left" = Str.ofString "own") := by decide +kernel
theorem sn2 : ¬ (Str.ofString "own" = Str.ofString "seed") := by decide +kernel
theorem sm2 : ¬ (Str.ofString "seed" = Str.ofString "own") := by decide +kernel
theorem sn3 : ¬ (Str.ofString "own" = Str.ofString "many") := by decide +kernel
theorem sm3 : ¬ (Str.ofString "many" = Str.ofString "own") := by decide +kernel
theorem sn4 : ¬ (Str.ofString "left" = Str.ofString "seed") := by decide +kernel
theorem sm4 : ¬ (Str.ofString "seed" = Str.ofString "left") := by decide +kernel
theorem sn5 : ¬ (Str.ofString "left" = Str.ofString "many") := by decide +kernel
theorem sm5 : ¬ (Str.ofString "many" = Str.ofString "left") := by decide +kernel
theorem sn6 : ¬ (Str.ofString "seed" = Str.ofString "many") := by decide +kernel
theorem sm6 : ¬ (Str.ofString "many" = Str.ofString "seed") := by decide +kernel
theorem v_own (lo : Addr) (l s m : Int) : valV (potK lo l s m) (Sum.inr "own" : Key) = some (.ref lo) := valV_pos rfl
theorem v_left (lo : Addr) (l s m : Int) : valV (potK lo l s m) (Sum.inr "left" : Key) = some (.int l) := (valV_neg kn1).trans (valV_pos rfl)
theorem v_seed (lo : Addr) (l s m : Int) : valV (potK lo l s m) (Sum.inr "seed" : Key) = some (.int s) := (valV_neg kn2).trans ((valV_neg kn4).trans (valV_pos rfl))
theorem v_many (lo : Addr) (l s m : Int) : valV (potK lo l s m) (Sum.inr "many" : Key) = some (.int m) := (valV_neg kn3).trans ((valV_neg kn5).trans ((valV_neg kn6).trans (valV_pos rfl)))
theorem p_left (lo : Addr) (l s m i : Int) : putK (potK lo l s m) (Sum.inr "left" : Key) (.int i) = potK lo i s m := by
  unfold putK potK
  simp [sn1, sm1, sn2, sm2, sn3, sm3, sn4, sm4, sn5, sm5, sn6, sm6]
theorem p_seed (lo : Addr) (l s m i : Int) : putK (potK lo l s m) (Sum.inr "seed" : Key) (.int i) = potK lo l i m := by
  unfold putK potK
  simp [sn1, sm1, sn2, sm2, sn3, sm3, sn4, sm4, sn5, sm5, sn6, sm6]
theorem p_many (lo : Addr) (l s m i : Int) : putK (potK lo l s m) (Sum.inr "many" : Key) (.int i) = potK lo l s i := by
  unfold putK potK
  simp [sn1, sm1, sn2, sm2, sn3, sm3, sn4, sm4, sn5, sm5, sn6, sm6]
theorem merge_pot (lo : Addr) (l s m : Int) : mergeK [] (potK lo l s m) = potK lo l s m := by
  unfold potK
  simp [mergeK, putK, sn1, sm1, sn2, sm2, sn3, sm3, sn4, sm4, sn5, sm5, sn6, sm6]
def PotAt (d lo : Addr) (H : Hp) : Prop := ∃ (cs : List Int) (l s m : Int), H d = some (.dK (potK lo l s m)) ∧ H lo = some (.lst (cs.map V.int)) ∧ 0 ≤ l ∧ ∀ c ∈ cs, 0 ≤ c
def Old (d lo : Addr) (H H' : Hp) : Prop := ∀ c o, H c = some o → c ≠ d → c ≠ lo → H' c = some o
def spPot (K : PySem.W.Frag) : Sp := fun vs H Q _ => ∃ (a : Addr) (ns : List Int), vs = [.ref a] ∧ SqL K H a (ns.map V.int) ∧ ns.length ≤ 63 ∧ ∀ (d lo : Addr) (H' : Hp), Same H H' → PotAt d lo H' → Q (.ref d) H'
def spNext : Sp := fun vs H Q _ => ∃ (d lo : Addr) (m : Int), vs = [.ref d, .int m] ∧ PotAt d lo H ∧ 0 < m ∧ m < 2 ^ 63 ∧ ∀ (r : Int) (H' : Hp), 0 ≤ r → r < m → PotAt d lo H' → Old d lo H H' → Q (.int r) H'
theorem g_own {H : Hp} {d lo : Addr} {l s m : Int} (h : H d = some (.dK (potK lo l s m))) : DGet H d (.str "own") (some (.ref lo)) := by
  have := DGet.k (k := (Sum.inr "own" : Key)) h
  rwa [v_own] at this
theorem g_left {H : Hp} {d lo : Addr} {l s m : Int} (h : H d = some (.dK (potK lo l s m))) : DGet H d (.str "left") (some (.int l)) := by
  have := DGet.k (k := (Sum.inr "left" : Key)) h
  rwa [v_left] at this
theorem g_seed {H : Hp} {d lo : Addr} {l s m : Int} (h : H d = some (.dK (potK lo l s m))) : DGet H d (.str "seed") (some (.int s)) := by
  have := DGet.k (k := (Sum.inr "seed" : Key)) h
  rwa [v_seed] at this
theorem g_many {H : Hp} {d lo : Addr} {l s m : Int} (h : H d = some (.dK (potK lo l s m))) : DGet H d (.str "many") (some (.int m)) := by
  have := DGet.k (k := (Sum.inr "many" : Key)) h
  rwa [v_many] at this
theorem u_left {H : Hp} {d lo : Addr} {l s m : Int} (i : Int) (h : H d = some (.dK (potK lo l s m))) : DPut H d (.str "left") (.int i) (upd H d (.dK (potK lo i s m))) := by
  have := DPut.k (k := (Sum.inr "left" : Key)) (v := .int i) h (small1000 (by show 4 ≤ 1000; decide))
  rwa [p_left] at this
theorem u_seed {H : Hp} {d lo : Addr} {l s m : Int} (i : Int) (h : H d = some (.dK (potK lo l s m))) : DPut H d (.str "seed") (.int i) (upd H d (.dK (potK lo l i m))) := by
  have := DPut.k (k := (Sum.inr "seed" : Key)) (v := .int i) h (small1000 (by show 4 ≤ 1000; decide))
  rwa [p_seed] at this
theorem u_many {H : Hp} {d lo : Addr} {l s m : Int} (i : Int) (h : H d = some (.dK (potK lo l s m))) : DPut H d (.str "many") (.int i) (upd H d (.dK (potK lo l s i))) := by
  have := DPut.k (k := (Sum.inr "many" : Key)) (v := .int i) h (small1000 (by show 4 ≤ 1000; decide))
  rwa [p_many] at this
theorem Old.upd_d {d lo : Addr} {H H' : Hp} {o : HO} (h : Old d lo H H') : Old d lo H (upd H' d o) := fun c o' e h1 h2 => by
  rw [upd_ne h1]
  exact h c o' e h1 h2
theorem Old.upd_lo {d lo : Addr} {H H' : Hp} {o : HO} (h : Old d lo H H') : Old d lo H (upd H' lo o) := fun c o' e h1 h2 => by
  rw [upd_ne h2]
  exact h c o' e h1 h2
theorem Old.new {d lo b : Addr} {H H' : Hp} {o : HO} (h : Old d lo H H') (hb : H' b = none) : Old d lo H (upd H' b o) := fun c o' e h1 h2 => same_new hb o _ _ (h c o' e h1 h2)
section
variable {P : Program} {w : World} {K : PySem.W.Frag} {mg : Str → Option Value} {base : Heap}
theorem scPot : FnScope ["_law_script", "_law_seed", "_law_own", "_law_cell"] ["_law_script"] (defScope sPot) := ⟨rfl, rfl, rfl, by decide +kernel, rfl, by decide +kernel, by decide +kernel⟩
theorem c_pot (h : Has K mg "_law_pot" sPot ["_law_script"])  : Cal P w K mg base "_law_pot" 1 ["_law_script"] (spPot K) := by
  refine h.mk' scPot (fun vs H Q E hs => ?_) (fun f cdv A outer s H vs Q E hr hs => ?_)
  · obtain ⟨a, ns, rfl, _⟩ := hs
    rfl
  obtain ⟨a, ns, rfl, hS, h63, k⟩ := hs
  refine ⟨_, (pss_cons (ps_set (i := 1) scPot.nd rfl (Or.inl rfl) pe_int)
    (pss_cons (ps_set (i := 2) scPot.nd rfl (Or.inl rfl) (pe_lst pa_nil))
    (pss_cons (ps_for PassesOwn.never rfl (pi_list (pv 0)) (pg_name (i := 3) scPot.nd rfl (Or.inl rfl))
      (pss_cons (ps_set (i := 1) scPot.nd rfl (Or.inl rfl) (pe_op op_mod (pe_op op_add (pe_op op_add (pe_op op_mul (pv 1) pe_int) (pe_op op_mod (pv 3) pe_int)) pe_int) pe_int))
    (pss_one (ps_if (pt_cmpR op_ge (pv 3) (pe_op op_pow pe_int pe_int) (nomark _))
      (pss_one (ps_expr (pe_bm PySem.F.plainAttrs_list PySem.F.slot_list_append PySem.F.type_list_append mt_append (pv 2) (pa_cons (pv 3) pa_nil))))
      pss_nil))))
    (pss_one (ps_ret (pe_disp (pps_cons pe_str (pv 2) (pps_cons pe_str pe_int (pps_cons pe_str (pv 1) (pps_cons pe_str pe_int pps_nil)))) rfl rfl (by simp) (by decide))))))), ?_⟩
  refine ⟨smn 0, fun lo hlo => ?_⟩
  have hloN : H lo = none := hlo
  refine ⟨_, rfl, a, rfl, ⟨_, (same_new hlo (.lst [])).seq hS⟩, ?_⟩
  refine for_list (K := K) (a := a) (xs := ns.map V.int) (fun i σ H2 => ∃ (s : Int) (cs : List Int) (v3 : Option V), σ = [some (.ref a), some (.int s), some (.ref lo), v3] ∧ H2 = upd H lo (.lst (cs.map V.int)) ∧ (∀ c ∈ cs, 0 ≤ c) ∧ cs.length ≤ i) ⟨11, [], none, rfl, rfl, (fun c h => by cases h), Nat.le_refl _⟩ ?_ ?_ ?_
  · rintro i σ H2 _ ⟨s, cs, v3, rfl, rfl, _, _⟩
    exact (same_new hlo _).seq hS
  · rintro i y σ H2 hi ⟨s, cs, v3, rfl, rfl, hc, hl⟩
    obtain ⟨c, rfl⟩ := map_int_at hi
    have hi63 : i < 63 := by
      have := (List.getElem?_eq_some_iff.mp hi).1
      rw [List.length_map] at this
      omega
    refine ⟨_, rfl, _, _, rfl, rfl, .inr ⟨by decide, by decide⟩, _, rfl, _, _, rfl, rfl, (by show (0 : Int) < 2147483629; decide), _, _, rfl, rfl, _, _, rfl, rfl, _, _, rfl, rfl, (by show (0 : Int) < 2305843009213693951; decide), ?_⟩
    refine ⟨_, rfl, _, _, rfl, rfl, ⟨by decide, by decide, by decide⟩, _, _, rfl, rfl, _, rfl, ?_⟩
    refine ite2 (fun z => ?_) (fun z => ?_)
    · have hc0 : 0 ≤ c := by
        have := of_decide_eq_true z
        have e : (10 : Int) ^ (18 : Int).toNat = 1000000000000000000 := by decide
        rw [e] at this
        omega
      refine ⟨_, rfl, .inl ⟨rfl, _, SqL.of upd_same⟩, _, rfl, lo, _, _, rfl, rfl, upd_same, by rw [List.length_map]; exact small1000 (by omega), _, cs ++ [c], _, rfl, ?_, ?_, ?_⟩
      · rw [upd_upd, List.map_append]
        rfl
      · intro c' h'
        rcases List.mem_append.mp h' with z | z
        · exact hc c' z
        · rw [List.mem_singleton.mp z]
          exact hc0
      · rw [List.length_append, List.length_singleton]
        omega
    · exact ⟨_, cs, _, rfl, rfl, hc, by omega⟩
  · rintro σ H2 ⟨s, cs, v3, rfl, rfl, hc, hl⟩
    refine fun d hd => ⟨_, rfl, _, rfl, upd_same, potK lo 0 s 0, rfl, (by show 4 ≤ 15; decide), ?_⟩
    have ndl : lo ≠ d := ne_of_none upd_same hd
    rw [merge_pot, upd_upd]
    exact k d lo _ ((same_new hlo _).trans (same_new hd _)) ⟨cs, 0, s, 0, upd_same, (upd_ne ndl).trans upd_same, Int.le_refl _, hc⟩
theorem scNext : FnScope ["_law_pot_here", "_law_many", "_law_drawn", "_law_mixed"] ["_law_pot_here", "_law_many"] (defScope sNext) := ⟨rfl, rfl, rfl, by decide +kernel, rfl, by decide +kernel, by decide +kernel⟩
theorem c_next (h : Has K mg "_law_next" sNext ["_law_pot_here", "_law_many"])  : Cal P w K mg base "_law_next" 1 ["_law_pot_here", "_law_many"] spNext := by
  refine h.mk' scNext (fun vs H Q E hs => ?_) (fun f cdv A outer s H vs Q E hr hs => ?_)
  · obtain ⟨d, lo, m, rfl, _⟩ := hs
    rfl
  obtain ⟨d, lo, m, rfl, ⟨cs, l, sd, mn, ed, elo, hl, hcs⟩, m0, m1, k⟩ := hs
  refine ⟨_, (pss_cons (ps_if (PW.pt (pw_and (pt_cmpR op_eq (pe_dget (hu_of hr) (pv 0) pe_str (fun _ _ => rfl)) pe_int (nomark _)) (pw_and1 (pt_cmpR (op_neE hr.units0) (pe_dget (hu_of hr) (pv 0) pe_str (fun _ _ => rfl)) (pe_lst pa_nil) (nomark _)))))
      (pss_one (ps_dput (hu_of hr) (pv 0) pe_str (pe_bm PySem.F.plainAttrs_list PySem.F.slot_list_pop PySem.F.type_list_pop mt_popAt (pe_dget (hu_of hr) (pv 0) pe_str (fun _ _ => rfl)) (pa_cons pe_int pa_nil)) rfl))
      pss_nil)
    (pss_cons (ps_if (pt_cmpR op_gt (pe_dget (hu_of hr) (pv 0) pe_str (fun _ _ => rfl)) pe_int (nomark _))
      (pss_cons (ps_set (i := 2) scNext.nd rfl (Or.inl rfl) (pe_op op_mod (pe_dget (hu_of hr) (pv 0) pe_str (fun _ _ => rfl)) (pv 1)))
    (pss_cons (ps_dput (hu_of hr) (pv 0) pe_str (pe_op op_fdivB (pe_dget (hu_of hr) (pv 0) pe_str (fun _ _ => rfl)) (pv 1)) rfl)
    (pss_one (ps_ret (pv 2)))))
      pss_nil)
    (pss_cons (ps_dput (hu_of hr) (pv 0) pe_str (pe_op op_add (pe_dget (hu_of hr) (pv 0) pe_str (fun _ _ => rfl)) pe_int) rfl)
    (pss_cons (ps_set (i := 3) scNext.nd rfl (Or.inl rfl) (pe_op op_mod (pe_op op_mul (pe_op op_add (pe_dget (hu_of hr) (pv 0) pe_str (fun _ _ => rfl)) (pe_op op_mul (pe_dget (hu_of hr) (pv 0) pe_str (fun _ _ => rfl)) pe_int)) pe_int) pe_int))
    (pss_cons (ps_dput (hu_of hr) (pv 0) pe_str (pe_op op_mod (pe_op op_mul (pv 3) (pe_op op_add (pe_op op_mod (pv 3) pe_int) pe_int)) pe_int) rfl)
    (pss_one (ps_ret (pe_op op_mod (pe_op op_fdivB (pe_dget (hu_of hr) (pv 0) pe_str (fun _ _ => rfl)) pe_int) (pv 1))))))))), ?_⟩
  have ndl : d ≠ lo := ne_of ed elo (by intro z; cases z)
  have old0 : Old d lo H H := fun c o e _ _ => e
  refine ⟨_, rfl, d, _, rfl, g_left ed, rfl, _, rfl, ?_⟩
  refine ite2 (fun z0 => ?_) (fun z0 => ?_)
  · have hl0 : l = 0 := by
      have := of_decide_eq_true z0
      injection this
    subst hl0
    refine ⟨_, rfl, d, _, rfl, g_own ed, smn 0, fun b hb => ?_⟩
    have nbd : d ≠ b := ne_of_none ed hb
    have nbl : lo ≠ b := ne_of_none elo hb
    have s2 := same_new hb (.lst [])
    refine ⟨lo, b, _, rfl, rfl, s2 _ _ elo, upd_same, _, rfl, ?_⟩
    have ed2 := s2 _ _ ed
    have elo2 := s2 _ _ elo
    have old2 : Old d lo H (upd H b (.lst [])) := Old.new old0 hb
    generalize upd H b (.lst []) = H2 at ed2 elo2 old2
    cases cs with
    | nil =>
      refine iteF ?_
      refine ⟨_, rfl, d, _, rfl, g_left ed2, _, _, rfl, rfl, _, rfl, ?_⟩
      refine ite2 (fun z => ?_) (fun z => ?_)
      · refine ⟨_, rfl, d, _, rfl, g_left ed2, _, rfl, _, _, rfl, rfl, m0, ?_⟩
        refine ⟨_, rfl, d, _, rfl, g_left ed2, _, rfl, _, _, rfl, rfl, ⟨m0, by omega⟩, _, rfl, d, _, rfl, u_left _ ed2, ?_⟩
        refine ⟨_, rfl, k _ _ (Int.emod_nonneg _ (by omega)) (Int.emod_lt_of_pos _ m0) ⟨[], _, sd, mn, upd_same, (upd_ne ndl.symm).trans elo2, Int.ediv_nonneg (Int.le_refl 0) (by omega), hcs⟩ (Old.upd_d old2)⟩
      · refine ⟨_, rfl, d, _, rfl, g_many ed2, _, _, rfl, rfl, _, rfl, d, _, rfl, u_many _ ed2, ?_⟩
        have ed2 : (upd H2 d (.dK (potK lo 0 sd (mn + 1)))) d = some (.dK (potK lo 0 sd (mn + 1))) := upd_same
        refine ⟨_, rfl, d, _, rfl, g_seed ed2, _, rfl, d, _, rfl, g_many ed2, _, _, rfl, rfl, .inr ⟨by decide, by decide⟩, _, _, rfl, rfl, _, _, rfl, rfl, .inr ⟨by decide, by decide⟩, _, _, rfl, rfl, (by show (0 : Int) < 2305843009213693951; decide), ?_⟩
        have q0 : 0 ≤ (sd + (mn + 1) * 7919) * 48271 % 2305843009213693951 := Int.emod_nonneg _ (by decide)
        have q1 : (sd + (mn + 1) * 7919) * 48271 % 2305843009213693951 < 2305843009213693951 := Int.emod_lt_of_pos _ (by decide)
        refine ⟨_, rfl, _, rfl, _, _, rfl, rfl, (by show (0 : Int) < 1009; decide), _, _, rfl, rfl, _, _, rfl, rfl, .inl ⟨by omega, by omega⟩, _, _, rfl, rfl, (by show (0 : Int) < 2305843009213693951; decide), _, rfl, d, _, rfl, u_seed _ ed2, ?_⟩
        refine ⟨_, rfl, d, _, rfl, g_seed upd_same, _, _, rfl, rfl, ⟨by decide, by decide⟩, _, rfl, _, _, rfl, rfl, m0, ?_⟩
        exact k _ _ (Int.emod_nonneg _ (by omega)) (Int.emod_lt_of_pos _ m0) ⟨[], 0, _, _, upd_same, (upd_ne ndl.symm).trans ((upd_ne ndl.symm).trans elo2), (Int.le_refl 0), hcs⟩ (Old.upd_d (Old.upd_d old2))
    | cons c cs =>
      refine iteT ?_
      refine ⟨_, rfl, d, _, rfl, g_own ed2, .inl ⟨rfl, _, SqL.of elo2⟩, lo, _, 0, 0, .int c, rfl, rfl, elo2, by decide, by decide, by simp [seqIndex?], rfl, ?_⟩
      have eloP : (upd H2 lo (.lst (((c :: cs).map V.int).eraseIdx 0))) lo = some (.lst (cs.map V.int)) := upd_same
      have edP : (upd H2 lo (.lst (((c :: cs).map V.int).eraseIdx 0))) d = some (.dK (potK lo 0 sd mn)) := (upd_ne ndl).trans ed2
      have oldP : Old d lo H (upd H2 lo (.lst (((c :: cs).map V.int).eraseIdx 0))) := Old.upd_lo old2
      have hc0 : 0 ≤ c := hcs c List.mem_cons_self
      have hcs' : ∀ x ∈ cs, 0 ≤ x := fun x hx => hcs x (List.mem_cons_of_mem _ hx)
      refine ⟨_, rfl, d, _, rfl, u_left c edP, ?_⟩
      have ed3 : (upd (upd H2 lo (.lst (((c :: cs).map V.int).eraseIdx 0))) d (.dK (potK lo c sd mn))) d = some (.dK (potK lo c sd mn)) := upd_same
      have elo3 := (upd_ne (o := HO.dK (potK lo c sd mn)) ndl.symm).trans eloP
      have old3 := Old.upd_d (o := HO.dK (potK lo c sd mn)) oldP
      generalize upd (upd H2 lo (.lst (((c :: cs).map V.int).eraseIdx 0))) d (.dK (potK lo c sd mn)) = H3 at ed3 elo3 old3
      refine ⟨_, rfl, d, _, rfl, g_left ed3, _, _, rfl, rfl, _, rfl, ?_⟩
      refine ite2 (fun z => ?_) (fun z => ?_)
      · refine ⟨_, rfl, d, _, rfl, g_left ed3, _, rfl, _, _, rfl, rfl, m0, ?_⟩
        refine ⟨_, rfl, d, _, rfl, g_left ed3, _, rfl, _, _, rfl, rfl, ⟨m0, by omega⟩, _, rfl, d, _, rfl, u_left _ ed3, ?_⟩
        refine ⟨_, rfl, k _ _ (Int.emod_nonneg _ (by omega)) (Int.emod_lt_of_pos _ m0) ⟨cs, _, sd, mn, upd_same, (upd_ne ndl.symm).trans elo3, Int.ediv_nonneg hc0 (by omega), hcs'⟩ (Old.upd_d old3)⟩
      · refine ⟨_, rfl, d, _, rfl, g_many ed3, _, _, rfl, rfl, _, rfl, d, _, rfl, u_many _ ed3, ?_⟩
        have ed2 : (upd H3 d (.dK (potK lo c sd (mn + 1)))) d = some (.dK (potK lo c sd (mn + 1))) := upd_same
        refine ⟨_, rfl, d, _, rfl, g_seed ed2, _, rfl, d, _, rfl, g_many ed2, _, _, rfl, rfl, .inr ⟨by decide, by decide⟩, _, _, rfl, rfl, _, _, rfl, rfl, .inr ⟨by decide, by decide⟩, _, _, rfl, rfl, (by show (0 : Int) < 2305843009213693951; decide), ?_⟩
        have q0 : 0 ≤ (sd + (mn + 1) * 7919) * 48271 % 2305843009213693951 := Int.emod_nonneg _ (by decide)
        have q1 : (sd + (mn + 1) * 7919) * 48271 % 2305843009213693951 < 2305843009213693951 := Int.emod_lt_of_pos _ (by decide)
        refine ⟨_, rfl, _, rfl, _, _, rfl, rfl, (by show (0 : Int) < 1009; decide), _, _, rfl, rfl, _, _, rfl, rfl, .inl ⟨by omega, by omega⟩, _, _, rfl, rfl, (by show (0 : Int) < 2305843009213693951; decide), _, rfl, d, _, rfl, u_seed _ ed2, ?_⟩
        refine ⟨_, rfl, d, _, rfl, g_seed upd_same, _, _, rfl, rfl, ⟨by decide, by decide⟩, _, rfl, _, _, rfl, rfl, m0, ?_⟩
        exact k _ _ (Int.emod_nonneg _ (by omega)) (Int.emod_lt_of_pos _ m0) ⟨cs, c, _, _, upd_same, (upd_ne ndl.symm).trans ((upd_ne ndl.symm).trans elo3), hc0, hcs'⟩ (Old.upd_d (Old.upd_d old3))
  · refine iteF ?_
    refine ⟨_, rfl, d, _, rfl, g_left ed, _, _, rfl, rfl, _, rfl, ?_⟩
    refine ite2 (fun z => ?_) (fun z => ?_)
    · refine ⟨_, rfl, d, _, rfl, g_left ed, _, rfl, _, _, rfl, rfl, m0, ?_⟩
      refine ⟨_, rfl, d, _, rfl, g_left ed, _, rfl, _, _, rfl, rfl, ⟨m0, by omega⟩, _, rfl, d, _, rfl, u_left _ ed, ?_⟩
      refine ⟨_, rfl, k _ _ (Int.emod_nonneg _ (by omega)) (Int.emod_lt_of_pos _ m0) ⟨cs, _, sd, mn, upd_same, (upd_ne ndl.symm).trans elo, Int.ediv_nonneg hl (by omega), hcs⟩ (Old.upd_d old0)⟩
    · refine ⟨_, rfl, d, _, rfl, g_many ed, _, _, rfl, rfl, _, rfl, d, _, rfl, u_many _ ed, ?_⟩
      have ed2 : (upd H d (.dK (potK lo l sd (mn + 1)))) d = some (.dK (potK lo l sd (mn + 1))) := upd_same
      refine ⟨_, rfl, d, _, rfl, g_seed ed2, _, rfl, d, _, rfl, g_many ed2, _, _, rfl, rfl, .inr ⟨by decide, by decide⟩, _, _, rfl, rfl, _, _, rfl, rfl, .inr ⟨by decide, by decide⟩, _, _, rfl, rfl, (by show (0 : Int) < 2305843009213693951; decide), ?_⟩
      have q0 : 0 ≤ (sd + (mn + 1) * 7919) * 48271 % 2305843009213693951 := Int.emod_nonneg _ (by decide)
      have q1 : (sd + (mn + 1) * 7919) * 48271 % 2305843009213693951 < 2305843009213693951 := Int.emod_lt_of_pos _ (by decide)
      refine ⟨_, rfl, _, rfl, _, _, rfl, rfl, (by show (0 : Int) < 1009; decide), _, _, rfl, rfl, _, _, rfl, rfl, .inl ⟨by omega, by omega⟩, _, _, rfl, rfl, (by show (0 : Int) < 2305843009213693951; decide), _, rfl, d, _, rfl, u_seed _ ed2, ?_⟩
      refine ⟨_, rfl, d, _, rfl, g_seed upd_same, _, _, rfl, rfl, ⟨by decide, by decide⟩, _, rfl, _, _, rfl, rfl, m0, ?_⟩
      exact k _ _ (Int.emod_nonneg _ (by omega)) (Int.emod_lt_of_pos _ m0) ⟨cs, l, _, _, upd_same, (upd_ne ndl.symm).trans ((upd_ne ndl.symm).trans elo), hl, hcs⟩ (Old.upd_d (Old.upd_d old0))
end
def spTexts : Sp := fun vs H Q _ => ∃ (d lo : Addr) (n : Int), vs = [.ref d, .int n] ∧ PotAt d lo H ∧ 0 ≤ n ∧ n ≤ 12 ∧ ∀ (q : Addr) (cs : List (List Nat)) (H' : Hp), H' q = some (.tup (cs.map mkT)) → OkC cs → PotAt d lo H' → Old d lo H H' → Q (.ref q) H'
def spRules : Sp := fun vs H Q _ => ∃ (d lo : Addr), vs = [.ref d] ∧ PotAt d lo H ∧ ∀ (q : Addr) (ls : List Lvl) (H' : Hp), Den H' (.ref q) (rulesD ls) → OkL ls → ls ≠ [] → ls.length ≤ 5 → PotAt d lo H' → Old d lo H H' → Q (.ref q) H'
def spText : Sp := fun vs H Q _ => ∃ (d lo : Addr), vs = [.ref d] ∧ PotAt d lo H ∧ ∀ (t : List Nat) (H' : Hp), t.length ≤ 400 → (∀ c ∈ t, goodS c) → PotAt d lo H' → Old d lo H H' → Q (.str ⟨t.toArray⟩) H'
section
variable {P : Program} {w : World} {K : PySem.W.Frag} {mg : Str → Option Value} {base : Heap}
theorem qex {X : Cx} {st : List Stmt} {D : Ends} {σ : L2.St} {H : Hp} (h : ∃ t, QSs X st t ∧ t D σ H) : ∃ t, PSs X st t ∧ t D σ H := h.elim fun t h => ⟨t, h.1.h, h.2⟩
theorem PotAt.same {d lo : Addr} {H H' : Hp} (h : PotAt d lo H) (s : Same H H') : PotAt d lo H' := by
  obtain ⟨cs, l, sd, m, e1, e2, r⟩ := h
  exact ⟨cs, l, sd, m, s _ _ e1, s _ _ e2, r⟩
theorem PotAt.new {d lo b : Addr} {H : Hp} {o : HO} (h : PotAt d lo H) (hb : H b = none) : PotAt d lo (upd H b o) := h.same (same_new hb o)
theorem PotAt.ne {d lo b : Addr} {H : Hp} (h : PotAt d lo H) (hb : H b = none) : b ≠ d ∧ b ≠ lo := by
  obtain ⟨cs, l, sd, m, e1, e2, r⟩ := h
  exact ⟨(ne_of_none e1 hb).symm, (ne_of_none e2 hb).symm⟩
theorem PotAt.upd {d lo b : Addr} {H : Hp} {o : HO} (h : PotAt d lo H) (h1 : b ≠ d) (h2 : b ≠ lo) : PotAt d lo (upd H b o) := by
  obtain ⟨cs, l, sd, m, e1, e2, r⟩ := h
  exact ⟨cs, l, sd, m, (upd_ne h1.symm).trans e1, (upd_ne h2.symm).trans e2, r⟩
theorem Old.refl (d lo : Addr) (H : Hp) : Old d lo H H := fun _ _ e _ _ => e
theorem Old.trans {d lo : Addr} {H H1 H2 : Hp} (a : Old d lo H H1) (b : Old d lo H1 H2) : Old d lo H H2 := fun c o e h1 h2 => b c o (a c o e h1 h2) h1 h2
theorem Old.of {d lo : Addr} {H H1 : Hp} (a : Same H H1) : Old d lo H H1 := fun c o e _ _ => a c o e
theorem Old.free {d lo b : Addr} {H H1 : Hp} {o : HO} (a : Old d lo H H1) (hb : H b = none) : Old d lo H (L2.upd H1 b o) := fun c o' e h1 h2 => by
  rw [upd_ne (ne_of_none e hb)]
  exact a c o' e h1 h2
theorem old_keep {d lo : Addr} {H H' : Hp} (hp : PotAt d lo H) (o : Old d lo H H') : ∀ (b : Addr) (vs : List V), H b = some (.tup vs) → H' b = some (.tup vs) := fun b vs e => by
  obtain ⟨cs, l, sd, m, e1, e2, r⟩ := hp
  exact o b _ e (ne_of e e1 (by intro z; cases z)) (ne_of e e2 (by intro z; cases z))
theorem drawN {σ : L2.St} {H : Hp} {i : Nat} {d lo : Addr} {m : Int} {Q : VK} (hσ : σ[i]? = some (some (.ref d))) (hp : PotAt d lo H) (h0 : 0 < m) (h1 : m < 2 ^ 63) (k : ∀ (r : Int) (H' : Hp), 0 ≤ r → r < m → PotAt d lo H' → Old d lo H H' → Q (.int r) H') :
    tCall spNext [] E0 (tCons (tVar i) (tCons (tC (.int m)) tNil)) σ H Q := ⟨_, hσ, d, lo, m, rfl, hp, h0, h1, k⟩
theorem seq_nat {k n : Nat} (h : k < n) : seqIndex? ((k : Nat) : Int) n = some k := by
  unfold seqIndex?
  simp
  omega
theorem erase_map {α β : Type} (f : α → β) : ∀ (xs : List α) (i : Nat), (xs.map f).eraseIdx i = (xs.eraseIdx i).map f
  | [], _ => rfl
  | _ :: _, 0 => rfl
  | x :: xs, i + 1 => by
    show f x :: (xs.map f).eraseIdx i = f x :: (xs.eraseIdx i).map f
    rw [erase_map f xs i]
def goodX (x : Str) : Prop := 1 ≤ x.length ∧ x.length ≤ 8
theorem scTexts : FnScope ["_law_pot_here", "_law_most", "_law_menu", "_law_made", "_law_k"] ["_law_pot_here", "_law_most"] (defScope sTexts) := ⟨rfl, rfl, rfl, by decide +kernel, rfl, by decide +kernel, by decide +kernel⟩
theorem c_texts (h : Has K mg "_law_texts" sTexts ["_law_pot_here", "_law_most"]) (C_next : Cal P w K mg base "_law_next" 1 ["_law_pot_here", "_law_many"] spNext) (m_range : mg "range" = none) (m_len : mg "len" = none) (m_tuple : mg "tuple" = none) : Cal P w K mg base "_law_texts" 2 ["_law_pot_here", "_law_most"] spTexts := by
  refine h.mk' scTexts (fun vs H Q E hs => ?_) (fun f cdv A outer s H vs Q E hr hs => ?_)
  · obtain ⟨d, lo, n, rfl, _⟩ := hs
    rfl
  obtain ⟨d, lo, n, rfl, hp, n0, n1, k⟩ := hs
  refine qex ⟨_, (qss_cons (qs_set (i := 2) scTexts.nd rfl (Or.inl rfl) (qe_lst (qa_c ⟨pe_str⟩ (qa_c ⟨pe_str⟩ (qa_c ⟨pe_str⟩ (qa_c ⟨pe_str⟩ (qa_c ⟨pe_str⟩ (qa_c ⟨pe_str⟩ (qa_c ⟨pe_str⟩ (qa_c ⟨pe_str⟩ (qa_c ⟨pe_str⟩ (qa_c ⟨pe_str⟩ (qa_c ⟨pe_str⟩ (qa_c ⟨pe_str⟩ (qa_c ⟨pe_str⟩ (qa_c ⟨pe_str⟩ (qa_c ⟨pe_str⟩ qa_nil)))))))))))))))))
    ⟨(pss_cons (ps_set (i := 3) scTexts.nd rfl (Or.inl rfl) (pe_lst pa_nil))
    (pss_cons (ps_for PassesOwn.never rfl (pi_range1 rfl m_range (pa_cons (pe_cal C_next hr (by decide) rfl (pa_cons (pv 0) (pa_cons (pe_op op_add (pv 1) pe_int) pa_nil))) pa_nil)) (pg_name (i := 4) scTexts.nd rfl (Or.inl rfl))
      (pss_one (ps_expr (pe_bm PySem.F.plainAttrs_list PySem.F.slot_list_append PySem.F.type_list_append mt_append (pv 3) (pa_cons (pe_bm PySem.F.plainAttrs_list PySem.F.slot_list_pop PySem.F.type_list_pop mt_popAt (pv 2) (pa_cons (pe_cal C_next hr (by decide) rfl (pa_cons (pv 0) (pa_cons (pe_callB call_len_seq rfl m_len PySem.boot_len (pa_cons (pv 2) pa_nil)) pa_nil))) pa_nil)) pa_nil)))))
    (pss_one (ps_ret (pe_callTy call_tuple_of rfl m_tuple boot_tuple (pa_cons (pv 3) pa_nil))))))⟩), ?_⟩
  refine ⟨smn 15, fun lm hlm => ?_⟩
  obtain ⟨nmd, nml⟩ := hp.ne hlm
  refine ⟨smn 0, fun ld hld => ?_⟩
  have hp1 := hp.new (o := HO.lst (([".", ". ", " ", "\n", "a", "An", "; ", "e.g.", "One two", "..", "x", "Zz9 ", "Mr.", "\"", "a.b"] : List Str).map V.str)) hlm
  obtain ⟨ndd, ndl⟩ := hp1.ne hld
  have nmk : lm ≠ ld := ne_of_none upd_same hld
  have hlmN : H lm = none := hlm
  have hldN : H ld = none := by
    cases e : H ld with
    | none => rfl
    | some o => exact absurd ((same_new hlm _ ld o e).symm.trans hld) (by simp)
  have em : (upd (upd H lm (.lst (([".", ". ", " ", "\n", "a", "An", "; ", "e.g.", "One two", "..", "x", "Zz9 ", "Mr.", "\"", "a.b"] : List Str).map V.str))) ld (.lst [])) lm = some (.lst (([".", ". ", " ", "\n", "a", "An", "; ", "e.g.", "One two", "..", "x", "Zz9 ", "Mr.", "\"", "a.b"] : List Str).map V.str)) := (upd_ne nmk).trans upd_same
  have gm : ∀ x ∈ ([".", ". ", " ", "\n", "a", "An", "; ", "e.g.", "One two", "..", "x", "Zz9 ", "Mr.", "\"", "a.b"] : List Str), goodX x := by
    unfold goodX
    decide +kernel
  refine ⟨_, rfl, _, rfl, _, _, rfl, rfl, d, lo, _, rfl, hp1.new hld, by omega, by omega, fun r H2 r0 r1 p2 o2 => ?_⟩
  have e2m := o2 lm _ em nmd nml
  have e2d := o2 ld _ upd_same ndd ndl
  have oA : Old d lo H H2 := ((Old.of (same_new hlm _)).trans (Old.of (same_new hld _))).trans o2
  have hml : ([".", ". ", " ", "\n", "a", "An", "; ", "e.g.", "One two", "..", "x", "Zz9 ", "Mr.", "\"", "a.b"] : List Str).length = 15 := rfl
  generalize ([".", ". ", " ", "\n", "a", "An", "; ", "e.g.", "One two", "..", "x", "Zz9 ", "Mr.", "\"", "a.b"] : List Str) = MENU at e2m gm hml
  refine ⟨r, rfl, by omega, by omega, ?_⟩
  refine for_range (lo := 0) (n := r.toNat) (fun j σ H3 => ∃ (v4 : Option V) (ms mk : List Str), σ = [some (.ref d), some (.int n), some (.ref lm), some (.ref ld), v4] ∧ PotAt d lo H3 ∧ Old d lo H H3 ∧ H3 lm = some (.lst (ms.map V.str)) ∧ H3 ld = some (.lst (mk.map V.str)) ∧ ms.length + mk.length = 15 ∧ mk.length = j ∧ (∀ x ∈ ms, goodX x) ∧ ∀ x ∈ mk, goodX x)
    ⟨_, MENU, [], rfl, p2, oA, e2m, e2d, by simpa using hml, rfl, gm, fun x h => by cases h⟩ ?_ ?_
  · rintro j σ H3 hj ⟨v4, ms, mk, rfl, p3, o3, e3m, e3d, hl, hmk, g1, g2⟩
    have hj12 : j < 12 := by omega
    refine ⟨_, rfl, .inl ⟨rfl, _, SqL.of e3d⟩, _, rfl, .inl ⟨rfl, _, SqL.of e3m⟩, _, rfl, _, rfl, lm, _, rfl, .inl (SqL.of e3m), d, lo, _, rfl, p3, by rw [List.length_map]; omega, by rw [List.length_map]; omega, fun r4 H4 q0 q1 p4 o4 => ?_⟩
    rw [List.length_map] at q1
    have e4m := o4 lm _ e3m nmd nml
    have e4d := o4 ld _ e3d ndd ndl
    obtain ⟨rn, ern⟩ : ∃ rn : Nat, r4 = (rn : Int) := ⟨r4.toNat, by omega⟩
    subst ern
    have hrn : rn < ms.length := by omega
    refine ⟨lm, _, _, rn, .str ms[rn], rfl, rfl, e4m, by omega, by omega, seq_nat (by rw [List.length_map]; exact hrn), by rw [List.getElem?_map, List.getElem?_eq_getElem hrn]; rfl, ?_⟩
    have e5d : (upd H4 lm (.lst ((ms.map V.str).eraseIdx rn))) ld = some (.lst (mk.map V.str)) := (upd_ne nmk.symm).trans e4d
    refine ⟨ld, _, _, rfl, rfl, e5d, by rw [List.length_map]; exact small1000 (by omega), ?_⟩
    refine ⟨_, ms.eraseIdx rn, mk ++ [ms[rn]], rfl, (p4.upd nmd nml).upd ndd ndl, ((o3.trans o4).free hlmN).free hldN, ?_, ?_, ?_, ?_, ?_, ?_⟩
    · rw [upd_ne nmk, upd_same, erase_map]
    · rw [upd_same, List.map_append]
      rfl
    · rw [List.length_eraseIdx_of_lt hrn, List.length_append, List.length_singleton]
      omega
    · rw [List.length_append, List.length_singleton, hmk]
    · exact fun x hx => g1 x (List.mem_of_mem_eraseIdx hx)
    · intro x hx
      rcases List.mem_append.mp hx with z | z
      · exact g2 x z
      · rw [List.mem_singleton.mp z]
        exact g1 _ (List.getElem_mem hrn)
  · rintro σ H3 ⟨v4, ms, mk, rfl, p3, o3, e3m, e3d, hl, hmk, g1, g2⟩
    refine ⟨_, rfl, ld, _, rfl, .inl ⟨SqL.of e3d, fun q hq => ?_⟩⟩
    refine k q (mk.map fun x => x.cps.toList) _ ?_ ⟨by rw [List.length_map]; omega, fun c hc => ?_⟩ (p3.new hq) (Old.new o3 hq)
    · rw [upd_same, List.map_map]
      exact congrArg some (congrArg HO.tup (List.map_congr_left fun x _ => congrArg V.str (str_T x)))
    · obtain ⟨x, hx, rfl⟩ := List.mem_map.mp hc
      have := g2 x hx
      unfold goodX at this
      have e : x.cps.toList.length = x.length := by simp [Str.length]
      rw [e]
      exact this
theorem pick2 {K : PySem.W.Frag} {H : Hp} {l : Addr} {a b r : Int} {Q : VK} (h : H l = some (.lst [.int a, .int b])) (k : ∀ v : Int, v = a ∨ v = b → Q (.int v) H) : rIxL K (.ref l) (.int (if decide (V.int r = V.int 0) = true then 1 else 0)) H Q := by
  by_cases hr : decide (V.int r = V.int 0) = true
  · rw [if_pos hr]
    exact ⟨l, _, _, .int b, rfl, rfl, SqL.of h, atI_nat (xs := [V.int a, V.int b]) (j := 1) rfl, k b (.inr rfl)⟩
  · rw [if_neg hr]
    exact ⟨l, _, _, .int a, rfl, rfl, SqL.of h, atI_zero _ _, k a (.inl rfl)⟩
theorem scRules : FnScope ["_law_pot_here", "_law_levels", "_law_k", "_law_most"] ["_law_pot_here"] (defScope sRules) := ⟨rfl, rfl, rfl, by decide +kernel, rfl, by decide +kernel, by decide +kernel⟩
theorem c_rules (h : Has K mg "_law_rules" sRules ["_law_pot_here"]) (C_next : Cal P w K mg base "_law_next" 1 ["_law_pot_here", "_law_many"] spNext) (C_texts : Cal P w K mg base "_law_texts" 2 ["_law_pot_here", "_law_most"] spTexts) (m_range : mg "range" = none) (m_int : mg "int" = none) (m_tuple : mg "tuple" = none) : Cal P w K mg base "_law_rules" 3 ["_law_pot_here"] spRules := by
  refine h.mk' scRules (fun vs H Q E hs => ?_) (fun f cdv A outer s H vs Q E hr hs => ?_)
  · obtain ⟨d, lo, rfl, _⟩ := hs
    rfl
  obtain ⟨d, lo, rfl, hp, k⟩ := hs
  refine ⟨_, (pss_cons (ps_set (i := 1) scRules.nd rfl (Or.inl rfl) (pe_lst pa_nil))
    (pss_cons (ps_for PassesOwn.never rfl (pi_range1 rfl m_range (pa_cons (pe_op op_add pe_int (pe_cal C_next hr (by decide) rfl (pa_cons (pv 0) (pa_cons (pe_ix ix_list (pe_lst (pa_cons pe_int (pa_cons pe_int pa_nil))) (pe_callTy call_int1 rfl m_int boot_int (pa_cons (pe_cmpR op_eq (pe_cal C_next hr (by decide) rfl (pa_cons (pv 0) (pa_cons pe_int pa_nil))) pe_int (nomark _)) pa_nil)) (fun _ _ => rfl)) pa_nil)))) pa_nil)) (pg_name (i := 2) scRules.nd rfl (Or.inl rfl))
      (pss_cons (ps_set (i := 3) scRules.nd rfl (Or.inl rfl) (pe_ix ix_list (pe_lst (pa_cons pe_int (pa_cons pe_int pa_nil))) (pe_callTy call_int1 rfl m_int boot_int (pa_cons (pe_cmpR op_eq (pe_cal C_next hr (by decide) rfl (pa_cons (pv 0) (pa_cons pe_int pa_nil))) pe_int (nomark _)) pa_nil)) (fun _ _ => rfl)))
    (pss_one (ps_expr (pe_bm PySem.F.plainAttrs_list PySem.F.slot_list_append PySem.F.type_list_append mt_append (pv 1) (pa_cons (pe_tup (pa_cons (pe_cal C_texts hr (by decide) rfl (pa_cons (pv 0) (pa_cons (pv 3) pa_nil))) (pa_cons (pe_cal C_texts hr (by decide) rfl (pa_cons (pv 0) (pa_cons (pv 3) pa_nil))) pa_nil))) pa_nil))))))
    (pss_one (ps_ret (pe_callTy call_tuple_of rfl m_tuple boot_tuple (pa_cons (pv 1) pa_nil)))))), ?_⟩
  refine ⟨smn 0, fun lv hlv => ?_⟩
  have hlvN : H lv = none := hlv
  obtain ⟨nvd, nvl⟩ := hp.ne hlv
  have hp1 := hp.new (o := HO.lst []) hlv
  refine ⟨_, rfl, smn 2, fun l2 hl2 => ?_⟩
  refine drawN (σ := [some (.ref d), some (.ref lv), none, none]) (i := 0) (m := 8) rfl (hp1.new hl2) (by decide) (by decide) fun r H2 r0 r1 p2 o2 => ?_
  have e2v : H2 lv = some (.lst []) := o2 lv _ (same_new hl2 _ _ _ upd_same) nvd nvl
  obtain ⟨n2d, n2l⟩ := hp1.ne hl2
  have oA : Old d lo H H2 := ((Old.of (same_new hlv _)).trans (Old.of (same_new hl2 _))).trans o2
  refine ⟨rfl, .inr ⟨_, rfl, pick2 (o2 l2 _ upd_same n2d n2l) fun v hv => ?_⟩⟩
  have hv5 : 0 < v ∧ v ≤ 5 := by rcases hv with rfl | rfl <;> decide
  refine ⟨d, lo, v, rfl, p2, hv5.1, by omega, fun r3 H3 q0 q1 p3 o3 => ?_⟩
  refine ⟨_, _, rfl, rfl, _, rfl, by show _ ≤ 1 + r3; omega, by show 1 + r3 < _; omega, ?_⟩
  refine for_range (lo := 0) (n := (1 + r3).toNat) (fun j σ H4 => ∃ (v2 v3 : Option V) (us : List V) (ls : List Lvl), σ = [some (.ref d), some (.ref lv), v2, v3] ∧ PotAt d lo H4 ∧ Old d lo H H4 ∧ H4 lv = some (.lst us) ∧ DenL H4 us (ls.map fun l => lvD l.1 l.2) ∧ OkL ls ∧ ls.length = j)
    ⟨none, none, [], [], rfl, p3, oA.trans o3, o3 lv _ e2v nvd nvl, trivial, (fun l h => by cases h), rfl⟩ ?_ ?_
  · rintro j σ H4 hj ⟨v2, v3, us, ls, rfl, p4, o4, e4, d4, ok4, hl4⟩
    refine ⟨smn 2, fun l5 hl5 => ?_⟩
    obtain ⟨n5d, n5l⟩ := p4.ne hl5
    have s5 := same_new hl5 (.lst [.int 3, .int 12])
    refine drawN (σ := [some (.ref d), some (.ref lv), some (.int (0 + (j : Int))), v3]) (i := 0) (m := 8) rfl (p4.new hl5) (by decide) (by decide) fun r6 H6 _ _ p6 o6 => ?_
    refine ⟨rfl, .inr ⟨_, rfl, pick2 (o6 l5 _ upd_same n5d n5l) fun v7 hv7 => ?_⟩⟩
    have hv12 : 0 ≤ v7 ∧ v7 ≤ 12 := by rcases hv7 with rfl | rfl <;> decide
    have o46 : Old d lo H4 H6 := (Old.of s5).trans o6
    have e6 := o46 lv _ e4 nvd nvl
    refine ⟨_, rfl, .inl ⟨rfl, _, SqL.of e6⟩, _, rfl, _, rfl, d, lo, v7, rfl, p6, hv12.1, hv12.2, fun q8 cs H8 e8 ok8 p8 o8 => ?_⟩
    refine ⟨_, rfl, _, rfl, d, lo, v7, rfl, p8, hv12.1, hv12.2, fun q9 ks H9 e9 ok9 p9 o9 => ?_⟩
    refine ⟨smn 2, fun t10 ht10 => ?_⟩
    have s10 := same_new ht10 (.tup [.ref q8, .ref q9])
    have e8' := old_keep p8 o9 _ _ e8
    have den : Den (upd H9 t10 (.tup [.ref q8, .ref q9])) (.ref t10) (lvD cs ks) := den_mk upd_same (s10 _ _ e8') (s10 _ _ e9)
    have o49 : Old d lo H4 H9 := (o46.trans o8).trans o9
    have e9v := o49 lv _ e4 nvd nvl
    have d9 : DenL H9 us (ls.map fun l => lvD l.1 l.2) := d4.keepT (old_keep p4 o49)
    have ul := d4.len
    rw [List.length_map] at ul
    have e10 := s10 _ _ e9v
    have d10 := d9.same s10
    have p10 := p9.new (o := HO.tup [.ref q8, .ref q9]) ht10
    have o10 : Old d lo H (upd H9 t10 (.tup [.ref q8, .ref q9])) := Old.new (o4.trans o49) ht10
    generalize upd H9 t10 (.tup [.ref q8, .ref q9]) = H10 at den e10 d10 p10 o10
    have kp : ∀ (b : Addr) (vs : List V), H10 b = some (.tup vs) → (upd H10 lv (.lst (us ++ [.ref t10]))) b = some (.tup vs) := fun b vs e => by
      rw [upd_ne (ne_of e e10 (by intro z; cases z))]
      exact e
    refine ⟨lv, us, _, rfl, rfl, e10, small1000 (by omega), _, _, us ++ [.ref t10], ls ++ [(cs, ks)], rfl, p10.upd nvd nvl, o10.free hlvN, upd_same, ?_, ?_, by rw [List.length_append, List.length_singleton, hl4]⟩
    · rw [List.map_append]
      exact DenL.snoc (den.keepT kp) (d10.keepT kp)
    · intro l' hl'
      rcases List.mem_append.mp hl' with z | z
      · exact ok4 l' z
      · rw [List.mem_singleton.mp z]
        exact ⟨ok8, ok9⟩
  · rintro σ H4 ⟨v2, v3, us, ls, rfl, p4, o4, e4, d4, ok4, hl4⟩
    refine ⟨_, rfl, lv, us, rfl, .inl ⟨SqL.of e4, fun q hq => ?_⟩⟩
    exact k q ls _ ⟨q, us, rfl, upd_same, d4.same (same_new hq _)⟩ ok4 (fun z => by rw [z] at hl4; simp at hl4; omega) (by omega) (p4.new hq) (Old.new o4 hq)
theorem good_str {x y : Str} (hx : ∀ c ∈ x.cps.toList, goodS c) (hy : ∀ c ∈ y.cps.toList, goodS c) : ∀ c ∈ (x ++ y).cps.toList, goodS c := fun c hc => by
  have e : (x ++ y).cps.toList = x.cps.toList ++ y.cps.toList := by
    show (x.cps ++ y.cps).toList = _
    simp
  rw [e] at hc
  rcases List.mem_append.mp hc with z | z
  · exact hx c z
  · exact hy c z
instance (c : Nat) : Decidable (goodS c) := by unfold goodS; infer_instance
theorem scText : FnScope ["_law_pot_here", "_law_pieces", "_law_text_here", "_law_k"] ["_law_pot_here"] (defScope sText) := ⟨rfl, rfl, rfl, by decide +kernel, rfl, by decide +kernel, by decide +kernel⟩
theorem c_text (h : Has K mg "_law_text" sText ["_law_pot_here"]) (C_next : Cal P w K mg base "_law_next" 1 ["_law_pot_here", "_law_many"] spNext) (m_range : mg "range" = none) : Cal P w K mg base "_law_text" 2 ["_law_pot_here"] spText := by
  refine h.mk' scText (fun vs H Q E hs => ?_) (fun f cdv A outer s H vs Q E hr hs => ?_)
  · obtain ⟨d, lo, rfl, _⟩ := hs
    rfl
  obtain ⟨d, lo, rfl, hp, k⟩ := hs
  refine qex ⟨_, (qss_cons (qs_set (i := 1) scText.nd rfl (Or.inl rfl) (qe_lst (qa_c ⟨pe_str⟩ (qa_c ⟨pe_str⟩ (qa_c ⟨pe_str⟩ (qa_c ⟨pe_str⟩ (qa_c ⟨pe_str⟩ (qa_c ⟨pe_str⟩ (qa_c ⟨pe_str⟩ (qa_c ⟨pe_str⟩ (qa_c ⟨pe_str⟩ (qa_c ⟨pe_str⟩ (qa_c ⟨pe_str⟩ (qa_c ⟨pe_str⟩ (qa_c ⟨pe_str⟩ (qa_c ⟨pe_str⟩ (qa_c ⟨pe_str⟩ qa_nil)))))))))))))))))
    ⟨(pss_cons (ps_set (i := 2) scText.nd rfl (Or.inl rfl) pe_str)
    (pss_cons (ps_for PassesOwn.never rfl (pi_range1 rfl m_range (pa_cons (pe_cal C_next hr (by decide) rfl (pa_cons (pv 0) (pa_cons (pe_ix ix_list (pe_lst (pa_cons pe_int (pa_cons pe_int pa_nil))) (pe_cal C_next hr (by decide) rfl (pa_cons (pv 0) (pa_cons pe_int pa_nil))) (fun _ _ => rfl)) pa_nil))) pa_nil)) (pg_name (i := 3) scText.nd rfl (Or.inl rfl))
      (pss_one (ps_set (i := 2) scText.nd rfl (Or.inl rfl) (pe_op op_add_str (pv 2) (pe_ix ix_list (pv 1) (pe_cal C_next hr (by decide) rfl (pa_cons (pv 0) (pa_cons pe_int pa_nil))) (fun _ _ => rfl))))))
    (pss_one (ps_ret (pe_slice sl_str (pv 2) po_none (po_some pe_int))))))⟩), ?_⟩
  refine ⟨smn 15, fun lm hlm => ?_⟩
  obtain ⟨nmd, nml⟩ := hp.ne hlm
  have hp1 := hp.new (o := HO.lst ((["One", "two", "a", ".", ". ", " ", "\n", "e.g.", "Mr. ", "x", "Zz9 ", "; ", "\\", "..", "An apple"] : List Str).map V.str)) hlm
  have gm : ∀ x ∈ (["One", "two", "a", ".", ". ", " ", "\n", "e.g.", "Mr. ", "x", "Zz9 ", "; ", "\\", "..", "An apple"] : List Str), x.length ≤ 8 ∧ ∀ c ∈ x.cps.toList, goodS c := by decide +kernel
  have em : (upd H lm (.lst ((["One", "two", "a", ".", ". ", " ", "\n", "e.g.", "Mr. ", "x", "Zz9 ", "; ", "\\", "..", "An apple"] : List Str).map V.str))) lm = some (.lst ((["One", "two", "a", ".", ". ", " ", "\n", "e.g.", "Mr. ", "x", "Zz9 ", "; ", "\\", "..", "An apple"] : List Str).map V.str)) := upd_same
  have hml : (["One", "two", "a", ".", ". ", " ", "\n", "e.g.", "Mr. ", "x", "Zz9 ", "; ", "\\", "..", "An apple"] : List Str).length = 15 := rfl
  have oA : Old d lo H (upd H lm (.lst ((["One", "two", "a", ".", ". ", " ", "\n", "e.g.", "Mr. ", "x", "Zz9 ", "; ", "\\", "..", "An apple"] : List Str).map V.str))) := Old.of (same_new hlm _)
  refine ⟨_, rfl, smn 2, fun l2 hl2 => ?_⟩
  have hp2 := hp1.new (o := HO.lst [.int 6, .int 41]) hl2
  obtain ⟨n2d, n2l⟩ := hp1.ne hl2
  refine drawN (σ := [some (.ref d), some (.ref lm), some (.str ""), none]) (i := 0) (m := 2) rfl hp2 (by decide) (by decide) fun r H2 r0 r1 p2 o2 => ?_
  have e2m := o2 lm _ (same_new hl2 _ _ _ em) nmd nml
  have oB : Old d lo H H2 := (oA.trans (Old.of (same_new hl2 _))).trans o2
  refine menu_int (lo := 6) (hi := 41) (o2 l2 _ upd_same n2d n2l) r0 (by show r < 2; exact r1) (fun v hv => ?_) fun v v0 v1 => ?_
  · simp only [List.mem_cons, List.not_mem_nil, or_false] at hv
    rcases hv with rfl | rfl
    · exact ⟨6, rfl, by decide, by decide⟩
    · exact ⟨41, rfl, by decide, by decide⟩
  refine ⟨d, lo, v, rfl, p2, by omega, by omega, fun r3 H3 q0 q1 p3 o3 => ?_⟩
  refine ⟨r3, rfl, by omega, by omega, ?_⟩
  have e3m := o3 lm _ e2m nmd nml
  generalize (["One", "two", "a", ".", ". ", " ", "\n", "e.g.", "Mr. ", "x", "Zz9 ", "; ", "\\", "..", "An apple"] : List Str) = MENU at e3m gm hml
  refine for_range (lo := 0) (n := r3.toNat) (fun j σ H4 => ∃ (x : Str) (v3 : Option V), σ = [some (.ref d), some (.ref lm), some (.str x), v3] ∧ PotAt d lo H4 ∧ Old d lo H H4 ∧ H4 lm = some (.lst (MENU.map V.str)) ∧ x.length ≤ 8 * j ∧ ∀ c ∈ x.cps.toList, goodS c)
    ⟨"", none, rfl, p3, oB.trans o3, e3m, by decide +kernel, by decide +kernel⟩ ?_ ?_
  · rintro j σ H4 hj ⟨x, v3, rfl, p4, o4, e4m, hx, gx⟩
    have hj41 : j < 41 := by omega
    refine ⟨_, rfl, _, rfl, ?_⟩
    refine drawN (σ := [some (.ref d), some (.ref lm), some (.str x), some (.int (0 + (j : Int)))]) (i := 0) (m := 15) rfl p4 (by decide) (by decide) fun r5 H5 w0 w1 p5 o5 => ?_
    obtain ⟨y, hy, hm⟩ := atI_lt (xs := MENU.map V.str) w0 (by rw [List.length_map, hml]; exact w1)
    obtain ⟨m, hmm, rfl⟩ := List.mem_map.mp hm
    obtain ⟨g1, g2⟩ := gm m hmm
    refine ⟨lm, _, r5, _, rfl, rfl, SqL.of (o5 lm _ e4m nmd nml), hy, _, _, rfl, rfl, small (by omega), ?_⟩
    refine ⟨x ++ m, _, rfl, p5, o4.trans o5, o5 lm _ e4m nmd nml, ?_, good_str gx g2⟩
    have e : (x ++ m).length = x.length + m.length := by
      show (x.cps ++ m.cps).size = _
      rw [Array.size_append]
      rfl
    rw [e]
    omega
  · rintro σ H4 ⟨x, v3, rfl, p4, o4, e4m, hx, gx⟩
    refine ⟨_, rfl, _, rfl, x, rfl, small (by omega), ?_⟩
    have es : Txt.slice x none (some 400) = ⟨(x.cps.toList.take 400).toArray⟩ := SLi.upto x 400
    rw [es]
    exact k _ H4 (by rw [List.length_take]; omega) (fun c hc => gx c (List.mem_of_mem_take hc)) p4 o4
open M05 in
def spName : Nat → Sp
  | 0 => fun _ _ _ _ => False
  | n + 1 => fun vs H Q _ => ∃ k : Nat, vs = [.int (k : Nat)] ∧ k < 26 ^ (n + 1) ∧ n ≤ 7 ∧ Q (.str ⟨(nm (k + 1)).toArray⟩) H
open M05 in
theorem scName : FnScope ["_law_k", "_law_letters"] ["_law_k"] (defScope sName) := ⟨rfl, rfl, rfl, by decide +kernel, rfl, by decide +kernel, by decide +kernel⟩
open M05 in
theorem c_name (h : Has K mg "_law_name" sName ["_law_k"]) : ∀ n : Nat, Cal P w K mg base "_law_name" n ["_law_k"] (spName n)
  | 0 => h.never fun _ _ _ _ z => z
  | n + 1 => by
    have C_name := c_name h n
    refine h.mk' scName (fun vs H Q E hs => ?_) (fun f cdv A outer s H vs Q E hr hs => ?_)
    · obtain ⟨k, rfl, _⟩ := hs
      rfl
    obtain ⟨k, rfl, hk, hn7, q⟩ := hs
    refine ⟨_, (pss_cons (ps_set (i := 1) scName.nd rfl (Or.inl rfl) pe_str)
    (pss_cons (ps_if (pt_cmpR op_lt (pv 0) pe_int (nomark _))
      (pss_one (ps_ret (pe_ix ix_str (pv 1) (pv 0) (fun _ _ => rfl))))
      pss_nil)
    (pss_one (ps_ret (pe_op op_add_str (pe_cal C_name hr (Nat.le_refl _) rfl (pa_cons (pe_op op_sub (pe_op op_fdivB (pv 0) pe_int) pe_int) pa_nil)) (pe_ix ix_str (pv 1) (pe_op op_mod (pv 0) pe_int) (fun _ _ => rfl))))))), ?_⟩
    have hLz : LET.length ≤ sizeLine := small (by decide +kernel)
    have hstep := nm_step (r := k + 1) (by omega)
    rw [Nat.add_sub_cancel] at hstep
    refine ⟨_, rfl, _, _, rfl, rfl, _, rfl, ?_⟩
    refine ite2 (fun z => ?_) (fun z => ?_)
    · have hk26 : k < 26 := by
        have := of_decide_eq_true z
        omega
      refine ⟨_, rfl, _, rfl, LET, _, 97 + k, rfl, rfl, hLz, let_ix hk26, ?_⟩
      have e : nm (k + 1) = [97 + k] := by
        rw [hstep, Nat.div_eq_of_lt hk26, Nat.mod_eq_of_lt hk26, nm_zero, List.nil_append]
      rw [e] at q
      exact q
    · have hk26 : 26 ≤ k := by
        have : ¬ ((k : Int) < 26) := fun zz => z (decide_eq_true zz)
        omega
      cases n with
      | zero =>
        exfalso
        simp at hk
        omega
      | succ n =>
      have hkd : k / 26 < 26 ^ (n + 1) := by
        rw [Nat.div_lt_iff_lt_mul (by decide)]
        rw [Nat.pow_succ] at hk
        exact hk
      have hd1 : 1 ≤ k / 26 := Nat.div_pos hk26 (by decide)
      refine ⟨_, rfl, _, _, rfl, rfl, ⟨by decide, by decide⟩, _, _, rfl, rfl, k / 26 - 1, congrArg (fun z => [V.int z]) (by show (k : Int) / 26 - 1 = _; omega), by omega, by omega, ?_⟩
      have hm : k % 26 < 26 := Nat.mod_lt _ (by decide)
      refine ⟨_, rfl, _, rfl, _, _, rfl, rfl, (by show (0 : Int) < 26; decide), LET, _, 97 + k % 26, rfl, rfl, hLz, ?_, ?_⟩
      · have e : (k : Int) % 26 = ((k % 26 : Nat) : Int) := by omega
        show atI LET.cps.toList ((k : Int) % 26) = _
        rw [e]
        exact let_ix hm
      · have e1 : k / 26 - 1 + 1 = k / 26 := by omega
        rw [e1]
        have hkb : k / 26 < 217180147159 := by
          have h1 : (26 : Nat) ^ (n + 1) ≤ 26 ^ 7 := Nat.pow_le_pow_right (by decide) (by omega)
          have h2 : (26 : Nat) ^ 7 = 8031810176 := by decide
          omega
        have hl := nm8 hkb
        refine ⟨_, _, rfl, rfl, small (by rw [lenT]; show (nm (k / 26)).length + 1 ≤ 1000; omega), ?_⟩
        have e2 : (⟨(nm (k / 26)).toArray⟩ : Str) ++ ⟨#[97 + k % 26]⟩ = ⟨(nm (k + 1)).toArray⟩ := by
          rw [hstep, show (⟨#[97 + k % 26]⟩ : Str) = ⟨([97 + k % 26] : List Nat).toArray⟩ from rfl, cat_T]
        rw [e2]
        exact q
end
def spLaw (K : PySem.W.Frag) : Sp := fun vs H Q _ => ∃ (a : Addr) (ns : List Int), vs = [.ref a] ∧ SqL K H a (ns.map V.int) ∧ ns.length ≤ 63 ∧ ∀ H', Q (.bl true) H'
section
open M05
variable {P : Program} {w : World} {K : PySem.W.Frag} {mg : Str → Option Value} {base : Heap}
theorem nm_pos {r : Nat} (h : r ≠ 0) : 1 ≤ (nm r).length := by
  rw [nm_step h, List.length_append, List.length_singleton]
  omega
theorem nm_isNm {r : Nat} (h : r ≠ 0) (hb : r < 217180147159) : isNm ⟨(nm r).toArray⟩ = true := by
  unfold isNm
  rw [lenT, decide_eq_true (nm_pos h), decide_eq_true (nm8 hb), Bool.true_and, Bool.true_and, List.all_eq_true]
  intro c hc
  exact decide_eq_true (nm_letters r c (by simpa using hc))
theorem mk_names (t : Int) : ∀ (ps : List (List Int × List Nat)) (n k : Nat), ((ps.zipIdx k).map fun q => ((nm (n + q.2 + 1), q.1.2, t) : Prt)).map (·.1) = (List.range' (n + k) ps.length).map fun i => nm (i + 1)
  | [], _, _ => rfl
  | p :: ps, n, k => by
    rw [List.zipIdx_cons, List.map_cons, List.map_cons, mk_names t ps n (k + 1), List.length_cons, List.range'_succ, List.map_cons]
    rfl
theorem names_nodup (t : Int) (ps qs : List (List Int × List Nat)) : ((mkParts 0 t ps ++ mkParts ps.length t qs).map (·.1)).Nodup := by
  rw [List.map_append]
  unfold mkParts
  rw [mk_names t ps 0 0, mk_names t qs ps.length 0, ← List.map_append, Nat.add_zero, Nat.add_zero]
  have e : List.range' 0 ps.length ++ List.range' ps.length qs.length = List.range' 0 (ps.length + qs.length) := by
    have := List.range'_append_1 (s := 0) (m := ps.length) (n := qs.length)
    simpa using this
  rw [e, List.nodup_iff_pairwise_ne, List.pairwise_map]
  have hn := List.nodup_range' (s := 0) (n := ps.length + qs.length) (step := 1)
  rw [List.nodup_iff_pairwise_ne] at hn
  refine hn.imp fun {a b} hne e => hne ?_
  have := nm_inj (max (a + 1) (b + 1)) (a + 1) (b + 1) (Nat.le_max_left _ _) e
  omega
theorem leaf_in {ls : List Lvl} {t : List Nat} {q : List Int × List Nat} (h : q ∈ LVo ls t) : q.2.length ≤ t.length ∧ ∀ c ∈ q.2, c ∈ t := by
  have e : ((LVo ls t).map (·.2)).flatten = t := (lvs_sew ls.length [] (treeD ls t)).trans (sew_tree ls t)
  have hm : q.2 ∈ (LVo ls t).map (·.2) := List.mem_map_of_mem h
  obtain ⟨A, B, eAB⟩ := List.append_of_mem hm
  have e2 : t = A.flatten ++ (q.2 ++ B.flatten) := by
    rw [← e, eAB, List.flatten_append, List.flatten_cons]
  refine ⟨?_, fun c hc => ?_⟩
  · rw [e2, List.length_append, List.length_append]
    omega
  · rw [e2]
    exact List.mem_append_right _ (List.mem_append_left _ hc)
theorem parts_good {ls : List Lvl} {x : List Nat} {n : Nat} {t : Int} (hx : x.length ≤ 400) (gx : ∀ c ∈ x, goodS c) (hn : n + (LVo ls x).length ≤ 100000) (t0 : 0 ≤ t) (t1 : t ≤ 1000000000000) : ∀ q ∈ mkParts n t (LVo ls x), GoodP q := by
  intro q hq
  unfold mkParts at hq
  obtain ⟨z, hz, rfl⟩ := List.mem_map.mp hq
  have hz1 := List.fst_mem_of_mem_zipIdx hz
  have hz2 : z.2 < (LVo ls x).length := by
    obtain ⟨a, b⟩ := z
    have := List.mem_zipIdx_iff_getElem?.mp hz
    exact (List.getElem?_eq_some_iff.mp (by simpa using this)).1
  obtain ⟨l1, l2⟩ := leaf_in hz1
  exact ⟨nm_isNm (by omega) (by omega), by show z.1.2.length ≤ 1000; omega, fun c hc => gx c (l2 c hc), t0, t1⟩
theorem shal_parts {L : List Prt} (h : L.length ≤ 100000) : Shal 3 (.tup (L.map partD)) := by
  refine ⟨(fun z => nomatch z), fun ds e => ?_⟩
  injection e with e
  subst e
  refine ⟨by rw [List.length_map]; exact h, fun d hd => ?_⟩
  obtain ⟨q, _, rfl⟩ := List.mem_map.mp hd
  refine ⟨(fun z => nomatch z), fun ds e => ?_⟩
  injection e with e
  subst e
  refine ⟨by simp, fun d hd => ?_⟩
  rcases List.mem_cons.mp hd with rfl | hd
  · exact (shal_str _).up
  rcases List.mem_cons.mp hd with rfl | hd
  · exact (shal_str _).up
  rw [List.mem_singleton.mp hd]
  refine ⟨(fun z => nomatch z), fun ds e => ?_⟩
  injection e with e
  subst e
  refine ⟨by simp, fun d hd => ?_⟩
  rw [List.mem_singleton.mp hd]
  exact shal_int _
theorem shal_nil (n : Nat) : Shal (n + 1) (.tup []) := ⟨(fun z => nomatch z), fun ds e => by injection e with e; subst e; exact ⟨by simp, fun d hd => by cases hd⟩⟩
theorem shal_book {L R : List Prt} (h : L.length ≤ 100000) (h' : R.length ≤ 100000) : Shal 4 (bookD L R) := by
  refine ⟨(fun z => nomatch z), fun ds e => ?_⟩
  injection e with e
  subst e
  refine ⟨by simp, fun d hd => ?_⟩
  rcases List.mem_cons.mp hd with rfl | hd
  · exact shal_parts h
  rcases List.mem_cons.mp hd with rfl | hd
  · exact shal_parts h'
  rcases List.mem_cons.mp hd with rfl | hd
  · exact shal_nil 2
  rw [List.mem_singleton.mp hd]
  exact shal_nil 2
theorem scLaw : FnScope ["_law_script", "_law_pot_here", "_law_turn", "_law_rules_here", "_law_pair", "_law_t", "_law_sides", "_law_many", "_law_text_here", "_law_parts", "_law_path", "_law_leaf", "_law_due", "_law_few", "_law_again", "_law_made"] ["_law_script"] (defScope sLaw) := ⟨rfl, rfl, rfl, by decide +kernel, rfl, by decide +kernel, by decide +kernel⟩
theorem ok_law {f : Addr} {fd : FuncData} (F : Fun K "law" "law" sLaw f fd) (C_pot : Cal P w K mg base "_law_pot" 1 ["_law_script"] (spPot K)) (C_rules : Cal P w K mg base "_law_rules" 3 ["_law_pot_here"] spRules) (C_text : Cal P w K mg base "_law_text" 2 ["_law_pot_here"] spText) (C_next : Cal P w K mg base "_law_next" 1 ["_law_pot_here", "_law_many"] spNext) (C_leaves : Cal P w K mg base "leaves" 8 ["tree"] spLeaves) (C_cut_up : Cal P w K mg base "cut_up" 7 ["text", "rules"] (spCut 5)) (C_name : Cal P w K mg base "_law_name" 8 ["_law_k"] (spName 8)) (C_begun : Cal P w K mg base "begun" 9 ["one", "other", "rules", "t"] spBegun) (C_is_book : Cal P w K mg base "is_book" 6 ["thing"] spIsBook) (m_range : mg "range" = none) (m_tuple : mg "tuple" = none) (m_max : mg "max" = none) (m_len : mg "len" = none) : FnOk P w K mg base CX0 10 f fd ["_law_script"] (spLaw K) := by
  refine F.ok scLaw (fun vs H Q E hs => ?_) (fun cdv A outer s H vs Q E hr hs => ?_)
  · obtain ⟨a, ns, rfl, _⟩ := hs
    rfl
  obtain ⟨a, ns, rfl, hS, h63, k⟩ := hs
  refine ⟨_, (pss_cons (ps_set (i := 1) scLaw.nd rfl (Or.inl rfl) (pe_cal C_pot hr (by decide) rfl (pa_cons (pv 0) pa_nil)))
    (pss_cons (ps_for PassesOwn.never rfl (pi_range1 rfl m_range (pa_cons pe_int pa_nil)) (pg_name (i := 2) scLaw.nd rfl (Or.inl rfl))
      (pss_cons (ps_set (i := 3) scLaw.nd rfl (Or.inl rfl) (pe_cal C_rules hr (by decide) rfl (pa_cons (pv 1) pa_nil)))
    (pss_cons (ps_set (i := 4) scLaw.nd rfl (Or.inl rfl) (pe_tup (pa_cons (pe_cal C_text hr (by decide) rfl (pa_cons (pv 1) pa_nil)) (pa_cons (pe_cal C_text hr (by decide) rfl (pa_cons (pv 1) pa_nil)) pa_nil))))
    (pss_cons (ps_set (i := 5) scLaw.nd rfl (Or.inl rfl) (pe_ix ix_list (pe_lst (pa_cons pe_int (pa_cons (pe_op op_pow pe_int pe_int) (pa_cons (pe_cal C_next hr (by decide) rfl (pa_cons (pv 1) (pa_cons (pe_op op_pow pe_int pe_int) pa_nil))) pa_nil)))) (pe_cal C_next hr (by decide) rfl (pa_cons (pv 1) (pa_cons pe_int pa_nil))) (fun _ _ => rfl)))
    (pss_cons (ps_set (i := 6) scLaw.nd rfl (Or.inl rfl) (pe_lst pa_nil))
    (pss_cons (ps_set (i := 7) scLaw.nd rfl (Or.inl rfl) pe_int)
    (pss_cons (ps_for PassesOwn.never rfl (pi_tup (pv 4)) (pg_name (i := 8) scLaw.nd rfl (Or.inl rfl))
      (pss_cons (ps_set (i := 9) scLaw.nd rfl (Or.inl rfl) (pe_lst pa_nil))
    (pss_cons (ps_for PassesOwn.never rfl (pi_tup (pe_cal C_leaves hr (by decide) rfl (pa_cons (pe_cal C_cut_up hr (by decide) rfl (pa_cons (pv 8) (pa_cons (pv 3) pa_nil))) pa_nil))) (pg_tup rfl (pgs_cons (pg_name (i := 10) scLaw.nd rfl (Or.inl rfl)) (pgs_cons (pg_name (i := 11) scLaw.nd rfl (Or.inl rfl)) pgs_nil)))
      (pss_cons (ps_expr (pe_bm PySem.F.plainAttrs_list PySem.F.slot_list_append PySem.F.type_list_append mt_append (pv 9) (pa_cons (pe_tup (pa_cons (pe_cal C_name hr (by decide) rfl (pa_cons (pv 7) pa_nil)) (pa_cons (pv 11) (pa_cons (pe_tup (pa_cons (pv 5) pa_nil)) pa_nil)))) pa_nil)))
    (pss_one (ps_set (i := 7) scLaw.nd rfl (Or.inl rfl) (pe_op op_add (pv 7) pe_int)))))
    (pss_one (ps_expr (pe_bm PySem.F.plainAttrs_list PySem.F.slot_list_append PySem.F.type_list_append mt_append (pv 6) (pa_cons (pe_callTy call_tuple_of rfl m_tuple boot_tuple (pa_cons (pv 9) pa_nil)) pa_nil)))))))
    (pss_cons (ps_set (i := 12) scLaw.nd rfl (Or.inl rfl) (pe_tup (pa_cons (pe_ix ix_list (pv 6) pe_int (fun _ _ => rfl)) (pa_cons (pe_ix ix_list (pv 6) pe_int (fun _ _ => rfl)) (pa_cons (pe_tup pa_nil) (pa_cons (pe_tup pa_nil) pa_nil))))))
    (pss_cons (ps_set (i := 13) scLaw.nd rfl (Or.inl rfl) (pe_cmpR op_le (pe_callB (call_max2 rfl) rfl m_max boot_max (pa_cons (pe_callB call_len_seq rfl m_len PySem.boot_len (pa_cons (pe_ix ix_list (pv 6) pe_int (fun _ _ => rfl)) pa_nil)) (pa_cons (pe_callB call_len_seq rfl m_len PySem.boot_len (pa_cons (pe_ix ix_list (pv 6) pe_int (fun _ _ => rfl)) pa_nil)) pa_nil))) pe_int (nomark _)))
    (pss_one (ps_for PassesOwn.never rfl (pi_tup (pe_tup (pa_cons pe_int (pa_cons pe_int pa_nil)))) (pg_name (i := 14) scLaw.nd rfl (Or.inl rfl))
      (pss_cons (ps_set (i := 15) scLaw.nd rfl (Or.inl rfl) (pe_cal C_begun hr (by decide) rfl (pa_cons (pe_ix ix_tup (pv 4) pe_int (fun _ _ => rfl)) (pa_cons (pe_ix ix_tup (pv 4) pe_int (fun _ _ => rfl)) (pa_cons (pv 3) (pa_cons (pv 5) pa_nil))))))
    (pss_one (ps_if (PW.pt (pw_or (pt_cmpR (op_neD hr.units) (pv 15) (pv 12) (nomark _)) (pw_or1 (PW.pt (pw_and (pt_val (pv 13)) (pw_and1 (pt_cmpR op_isnot_bl (pe_cal C_is_book hr (by decide) rfl (pa_cons (pv 15) pa_nil)) pe_bl (nomark _))))))))
      (pss_one (ps_ret pe_bl))
      pss_nil))))))))))))))
    (pss_one (ps_ret pe_bl)))), ?_⟩
  refine ⟨_, rfl, a, ns, rfl, hS, h63, fun d lo H1 s1 p1 => ?_⟩
  refine ⟨4, rfl, by decide, by decide, ?_⟩
  refine for_range (lo := 0) (n := 4) (fun j σ H2 => ∃ (v2 v3 v4 v5 v6 v7 v8 v9 v10 v11 v12 v13 v14 v15 : Option V), σ = [some (.ref a), some (.ref d), v2, v3, v4, v5, v6, v7, v8, v9, v10, v11, v12, v13, v14, v15] ∧ PotAt d lo H2)
    ⟨_, _, _, _, _, _, _, _, _, _, _, _, _, _, rfl, p1⟩ ?_ ?_
  · rintro j σ H2 hj ⟨v2, v3, v4, v5, v6, v7, v8, v9, v10, v11, v12, v13, v14, v15, rfl, p2⟩
    refine ⟨_, rfl, d, lo, rfl, p2, fun q3 ls H3 d3 ok3 ne3 l5 p3 o3 => ?_⟩
    refine ⟨_, rfl, d, lo, rfl, p3, fun t1 H4 h1 g1 p4 o4 => ?_⟩
    refine ⟨_, rfl, d, lo, rfl, p4, fun t2 H5 h2 g2 p5 o5 => ?_⟩
    refine ⟨smn 2, fun tp htp => ?_⟩
    have p6 := p5.new (o := HO.tup [mkT t1, mkT t2]) htp
    have d6 : Den (upd H5 tp (.tup [mkT t1, mkT t2])) (.ref q3) (rulesD ls) := ((d3.keepT (old_keep p3 o4)).keepT (old_keep p4 o5)).same (same_new htp _)
    have e6 : (upd H5 tp (.tup [mkT t1, mkT t2])) tp = some (.tup [mkT t1, mkT t2]) := upd_same
    generalize upd H5 tp (.tup [mkT t1, mkT t2]) = H6 at p6 d6 e6
    have e12 : (10 : Int) ^ (12 : Int).toNat = 1000000000000 := by decide
    refine ⟨_, _, rfl, rfl, ⟨by decide, by decide, by decide⟩, _, rfl, _, _, rfl, rfl, ⟨by decide, by decide, by decide⟩, d, lo, _, rfl, p6, by decide, by decide, fun r7 H7 q0 q1 p7 o7 => ?_⟩
    refine ⟨smn 3, fun l8 hl8 => ?_⟩
    obtain ⟨n8d, n8l⟩ := p7.ne hl8
    have s8 := same_new hl8 (.lst [.int 0, .int ((10 : Int) ^ (12 : Int).toNat), .int r7])
    refine drawN (σ := [some (.ref a), some (.ref d), some (.int (0 + (j : Int))), some (.ref q3), some (.ref tp), v5, v6, v7, v8, v9, v10, v11, v12, v13, v14, v15]) (i := 1) (m := 3) rfl (p7.new hl8) (by decide) (by decide) fun r9 H9 w0 w1 p9 o9 => ?_
    refine menu_int (lo := 0) (hi := 1000000000000) (o9 l8 _ upd_same n8d n8l) w0 (by show r9 < 3; exact w1) (fun v hv => ?_) fun t t0 t1' => ?_
    · simp only [List.mem_cons, List.not_mem_nil, or_false] at hv
      rcases hv with rfl | rfl | rfl
      · exact ⟨0, rfl, by decide, by decide⟩
      · exact ⟨_, rfl, by decide, by decide⟩
      · rw [e12] at q1
        exact ⟨r7, rfl, q0, by omega⟩
    have d9 : Den H9 (.ref q3) (rulesD ls) := ((d6.keepT (old_keep p6 o7)).same s8).keepT (old_keep (p7.new hl8) o9)
    have e9 : H9 tp = some (.tup [mkT t1, mkT t2]) := old_keep (p7.new hl8) o9 _ _ (s8 _ _ (old_keep p6 o7 _ _ e6))
    -- the law's own sides
    refine ⟨smn 0, fun l6 hl6 => ?_⟩
    have hl6N : H9 l6 = none := hl6
    have hA := lvo_len (ls := ls) l5 h1
    have hB := lvo_len (ls := ls) l5 h2
    refine ⟨_, rfl, tp, rfl, ⟨_, SqT.of (same_new hl6 _ _ _ e9)⟩, ?_⟩
    refine for_tup (K := K) (a := tp) (xs := [mkT t1, mkT t2]) (fun i σ H10 => ∃ (mn : Nat) (v8 v9 v10 v11 : Option V) (ws : List V), σ = [some (.ref a), some (.ref d), some (.int (0 + (j : Int))), some (.ref q3), some (.ref tp), some (.int t), some (.ref l6), some (.int (mn : Nat)), v8, v9, v10, v11, v12, v13, v14, v15] ∧ Same H9 H10 ∧ H10 l6 = some (.lst ws) ∧ DenL H10 ws (([mkParts 0 t (LVo ls t1), mkParts (LVo ls t1).length t (LVo ls t2)].take i).map fun L => D.tup (L.map partD)) ∧ mn = ([(LVo ls t1).length, (LVo ls t2).length].take i).sum)
      ⟨0, _, _, _, _, [], rfl, same_new hl6 _, upd_same, trivial, rfl⟩ ?_ ?_ ?_
    · rintro i σ H10 _ ⟨mn, v8, v9, v10, v11, ws, rfl, s10, _⟩
      exact SqT.of (s10 _ _ e9)
    · rintro i y σ H10 hi ⟨mn, v8, v9, v10, v11, ws, rfl, s10, e10, d10, hmn⟩
      obtain ⟨x, rfl, hx, hSS, hcn, hmb⟩ : ∃ x : List Nat, y = mkT x ∧ x.length ≤ 400 ∧ [mkParts 0 t (LVo ls t1), mkParts (LVo ls t1).length t (LVo ls t2)].take (i + 1) = [mkParts 0 t (LVo ls t1), mkParts (LVo ls t1).length t (LVo ls t2)].take i ++ [mkParts mn t (LVo ls x)] ∧ mn + (LVo ls x).length = ([(LVo ls t1).length, (LVo ls t2).length].take (i + 1)).sum ∧ mn + (LVo ls x).length ≤ 10000 := by
        match i, hi, hmn with
        | 0, hi, hmn =>
          have e0 : mn = 0 := hmn
          subst e0
          exact ⟨t1, (Option.some.inj hi).symm, h1, rfl, by simp, by omega⟩
        | 1, hi, hmn =>
          have e1 : mn = (LVo ls t1).length := by simpa using hmn
          subst e1
          exact ⟨t2, (Option.some.inj hi).symm, h2, rfl, by simp, by omega⟩
        | i + 2, hi, _ => simp at hi
      have wl := d10.len
      rw [List.length_map, List.length_take] at wl
      have hwl : ws.length ≤ 2 := by
        rw [wl]
        exact Nat.min_le_right _ _
      have hLx := lvo_len (ls := ls) l5 hx
      refine ⟨smn 0, fun lp hlp => ?_⟩
      have n6p : l6 ≠ lp := ne_of_none e10 hlp
      have s11 := same_new hlp (.lst [])
      have hlpN : H9 lp = none := by
        cases e : H9 lp with
        | none => rfl
        | some o => exact absurd ((s10 _ _ e).symm.trans hlp) (by simp)
      have e11p : (upd H10 lp (.lst [])) lp = some (.lst []) := upd_same
      have e11 := s11 _ _ e10
      have d11 := d10.same s11
      have sA := s10.trans s11
      generalize upd H10 lp (.lst []) = H11 at s11 e11p e11 d11 sA
      refine ⟨_, rfl, _, rfl, x, _, ls, rfl, d9.same sA, ne3, l5, ok3, by omega, fun q12 H12 s12 d12 => ?_⟩
      refine ⟨_, ls.length, treeD ls x, rfl, d12, by omega, tr_tree ls x, cnt400 l5 hx, fun q13 H13 s13 d13 => ?_⟩
      have d13' : Den H13 (.ref q13) (.tup ((LVo ls x).map leafD)) := d13
      obtain ⟨q13', lv, eq, e13, dl⟩ := den_tup d13'
      injection eq with eq
      subst eq
      have hll := dl.len
      rw [List.length_map] at hll
      have s1113 := s12.trans s13
      have sB := sA.trans s1113
      have d13w := d11.same s1113
      refine ⟨q13, rfl, ⟨_, SqT.of e13⟩, ?_⟩
      refine for_tup (K := K) (a := q13) (xs := lv) (fun m σ H14 => ∃ (v10 v11 : Option V) (us : List V), σ = [some (.ref a), some (.ref d), some (.int (0 + (j : Int))), some (.ref q3), some (.ref tp), some (.int t), some (.ref l6), some (.int ((mn + m : Nat) : Int)), some (mkT x), some (.ref lp), v10, v11, v12, v13, v14, v15] ∧ Same H9 H14 ∧ (∀ (b : Addr) (vs : List V), H13 b = some (.tup vs) → H14 b = some (.tup vs)) ∧ H14 l6 = some (.lst ws) ∧ H14 lp = some (.lst us) ∧ DenL H14 us ((mkParts mn t ((LVo ls x).take m)).map partD))
        ⟨_, _, [], rfl, sB, fun _ _ e => e, s1113 _ _ e11, s1113 _ _ e11p, trivial⟩ ?_ ?_ ?_
      · rintro m σ H14 _ ⟨_, _, us, _, _, k14, _⟩
        exact SqT.of (k14 _ _ e13)
      · rintro m y σ H14 hm ⟨v10, v11, us, rfl, s14, k14, e14, e14p, d14⟩
        have hml : m < (LVo ls x).length := by
          have := (List.getElem?_eq_some_iff.mp hm).1
          omega
        obtain ⟨dd, hdd, dy⟩ := dl.at_ hm
        rw [List.getElem?_map, List.getElem?_eq_getElem hml] at hdd
        have edd : leafD (LVo ls x)[m] = dd := Option.some.inj hdd
        subst edd
        obtain ⟨b, bs, rfl, hb, hbd⟩ := den_tup (dy.keepT k14)
        obtain ⟨c0, c1, rfl⟩ : ∃ c0 c1, bs = [c0, c1] := by
          match bs, hbd with
          | [c0, c1], _ => exact ⟨c0, c1, rfl⟩
          | [], h => exact h.elim
          | [_], h => exact h.2.elim
          | _ :: _ :: _ :: _, h => exact h.2.2.elim
        have ec : c1 = mkT (LVo ls x)[m].2 := hbd.2.1
        subst ec
        refine ⟨b, _, rfl, SqT.of hb, rfl, _, _, rfl, _, _, rfl, rfl, ?_⟩
        refine ⟨_, rfl, .inl ⟨rfl, _, SqL.of e14p⟩, _, rfl, mn + m, rfl, Nat.lt_of_lt_of_le (show mn + m < 20000 by omega) (by decide), by decide, ?_⟩
        refine ⟨_, rfl, _, rfl, smn 1, fun t15 ht15 => ⟨smn 3, fun t16 ht16 => ?_⟩⟩
        have s15 := same_new ht15 (.tup [.int t])
        have s16 := same_new ht16 (.tup [.str ⟨(nm (mn + m + 1)).toArray⟩, mkT (LVo ls x)[m].2, .ref t15])
        have dP : Den (upd (upd H14 t15 (.tup [.int t])) t16 (.tup [.str ⟨(nm (mn + m + 1)).toArray⟩, mkT (LVo ls x)[m].2, .ref t15])) (.ref t16) (partD (nm (mn + m + 1), (LVo ls x)[m].2, t)) := ⟨t16, _, rfl, upd_same, rfl, rfl, ⟨t15, _, rfl, s16 _ _ upd_same, rfl, trivial⟩, trivial⟩
        have s1416 := s15.trans s16
        have e16 := s1416 _ _ e14
        have e16p := s1416 _ _ e14p
        have d16 := d14.same s1416
        generalize upd (upd H14 t15 (.tup [.int t])) t16 (.tup [.str ⟨(nm (mn + m + 1)).toArray⟩, mkT (LVo ls x)[m].2, .ref t15]) = H16 at dP s1416 e16 e16p d16
        have ul := d14.len
        rw [List.length_map, mkParts_len, List.length_take] at ul
        refine ⟨lp, us, _, rfl, rfl, e16p, Nat.lt_of_lt_of_le (show us.length < 1000000 by omega) sizeLine_big, ?_⟩
        have kp : ∀ (b' : Addr) (vs : List V), H16 b' = some (.tup vs) → (upd H16 lp (.lst (us ++ [.ref t16]))) b' = some (.tup vs) := fun b' vs e => by
          rw [upd_ne (ne_of e e16p (by intro z; cases z))]
          exact e
        refine ⟨_, rfl, _, _, rfl, rfl, some c0, some (mkT (LVo ls x)[m].2), us ++ [.ref t16], ?_, ?_, fun b' vs e => kp _ _ (s1416 _ _ (k14 _ _ e)), (upd_ne n6p).trans e16, upd_same, ?_⟩
        · rw [show ((mn + (m + 1) : Nat) : Int) = ((mn + m : Nat) : Int) + 1 by push_cast; omega]
          rfl
        · intro c' o' z'
          rw [upd_ne (ne_of_none z' hlpN)]
          exact s1416 _ _ (s14 c' o' z')
        · rw [mkParts_snoc hml, List.map_append]
          exact DenL.snoc (dP.keepT kp) (d16.keepT kp)
      · rintro σ H14 ⟨v10, v11, us, rfl, s14, k14, e14, e14p, d14⟩
        rw [hll, List.take_length] at d14
        refine ⟨_, rfl, .inl ⟨rfl, _, SqL.of e14⟩, _, rfl, lp, us, rfl, .inl ⟨SqL.of e14p, fun q15 hq15 => ?_⟩⟩
        have s15 := same_new hq15 (.tup us)
        have dQ : Den (upd H14 q15 (.tup us)) (.ref q15) (.tup ((mkParts mn t (LVo ls x)).map partD)) := ⟨q15, us, rfl, upd_same, d14.same s15⟩
        have e15 := s15 _ _ e14
        have d15 := (d13w.keepT k14).same s15
        have sC := s14.trans s15
        generalize upd H14 q15 (.tup us) = H15 at dQ e15 d15 sC
        refine ⟨l6, ws, _, rfl, rfl, e15, small1000 (by omega), ?_⟩
        have kp : ∀ (b' : Addr) (vs : List V), H15 b' = some (.tup vs) → (upd H15 l6 (.lst (ws ++ [.ref q15]))) b' = some (.tup vs) := fun b' vs e => by
          rw [upd_ne (ne_of e e15 (by intro z; cases z))]
          exact e
        refine ⟨mn + (LVo ls x).length, _, _, _, _, ws ++ [.ref q15], by rw [hll], ?_, upd_same, ?_, hcn⟩
        · intro c' o' z'
          rw [upd_ne (ne_of_none z' hl6N)]
          exact sC c' o' z'
        · rw [hSS, List.map_append]
          exact DenL.snoc (dQ.keepT kp) (d15.keepT kp)
    · rintro σ H10 ⟨mn, v8, v9, v10, v11, ws, rfl, s10, e10, d10, hmn⟩
      obtain ⟨ra, rb, rfl⟩ : ∃ ra rb, ws = [ra, rb] := by
        match ws, d10 with
        | [ra, rb], _ => exact ⟨ra, rb, rfl⟩
        | [], h => exact h.elim
        | [_], h => exact h.2.elim
        | _ :: _ :: _ :: _, h => exact h.2.2.elim
      have da : Den H10 ra (.tup ((mkParts 0 t (LVo ls t1)).map partD)) := d10.1
      have db : Den H10 rb (.tup ((mkParts (LVo ls t1).length t (LVo ls t2)).map partD)) := d10.2.1
      obtain ⟨pa, va, rfl, hpa, hda⟩ := den_tup da
      obtain ⟨pb, vb, rfl, hpb, hdb⟩ := den_tup db
      have la := hda.len
      have lb := hdb.len
      rw [List.length_map, mkParts_len] at la lb
      have at1 : atI [V.ref pa, V.ref pb] 1 = some (.ref pb) := atI_nat (xs := [V.ref pa, V.ref pb]) (j := 1) rfl
      refine ⟨_, rfl, l6, _, _, _, rfl, rfl, SqL.of e10, atI_zero _ _, _, rfl, l6, _, _, _, rfl, rfl, SqL.of e10, at1, smn 0, fun t11 ht11 => ⟨smn 0, fun t12 ht12 => ⟨smn 4, fun t13 ht13 => ?_⟩⟩⟩
      have s11 := same_new ht11 (.tup [])
      have s12 := same_new ht12 (.tup [])
      have s13 := same_new ht13 (.tup [.ref pa, .ref pb, .ref t11, .ref t12])
      have s1213 := s12.trans s13
      have s1013 := s11.trans s1213
      have dD : Den (upd (upd (upd H10 t11 (.tup [])) t12 (.tup [])) t13 (.tup [.ref pa, .ref pb, .ref t11, .ref t12])) (.ref t13) (bookD (mkParts 0 t (LVo ls t1)) (mkParts (LVo ls t1).length t (LVo ls t2))) := ⟨t13, _, rfl, upd_same, da.same s1013, db.same s1013, ⟨t11, _, rfl, s1213 _ _ upd_same, trivial⟩, ⟨t12, _, rfl, s13 _ _ upd_same, trivial⟩, trivial⟩
      have e13 := s1013 _ _ e10
      have hpa3 := s1013 _ _ hpa
      have hpb3 := s1013 _ _ hpb
      have sD' := s10.trans s1013
      generalize upd (upd (upd H10 t11 (.tup [])) t12 (.tup [])) t13 (.tup [.ref pa, .ref pb, .ref t11, .ref t12]) = H13 at dD e13 hpa3 hpb3 sD'
      refine ⟨_, rfl, l6, _, _, _, rfl, rfl, SqL.of e13, atI_zero _ _, pa, _, rfl, .inr (SqT.of hpa3), _, rfl, l6, _, _, _, rfl, rfl, SqL.of e13, at1, pb, _, rfl, .inr (SqT.of hpb3), _, _, rfl, _, _, rfl, rfl, ?_⟩
      refine ⟨smn 2, fun t14 ht14 => ?_⟩
      have s14 := same_new ht14 (.tup [.int 0, .int 1])
      have e14 : (upd H13 t14 (.tup [.int 0, .int 1])) t14 = some (.tup [.int 0, .int 1]) := upd_same
      have dE := dD.same s14
      have sE := sD'.trans s14
      generalize upd H13 t14 (.tup [.int 0, .int 1]) = H14 at s14 e14 dE sE
      refine ⟨t14, rfl, ⟨_, SqT.of e14⟩, ?_⟩
      generalize hfew : V.bl (decide ((if ((vb.length : Nat) : Int) > ((va.length : Nat) : Int) then ((vb.length : Nat) : Int) else ((va.length : Nat) : Int)) ≤ 60)) = fw
      refine for_tup (K := K) (a := t14) (xs := [.int 0, .int 1]) (fun i σ H15 => ∃ (v14 v15 : Option V), σ = [some (.ref a), some (.ref d), some (.int (0 + (j : Int))), some (.ref q3), some (.ref tp), some (.int t), some (.ref l6), some (.int (mn : Nat)), v8, v9, v10, v11, some (.ref t13), some fw, v14, v15] ∧ Same H14 H15)
        ⟨_, _, by rw [← hfew]; rfl, Same.refl H14⟩ ?_ ?_ ?_
      · rintro i σ H15 _ ⟨_, _, _, s15⟩
        exact SqT.of (s15 _ _ e14)
      · rintro i y σ H15 hi ⟨v14, v15, rfl, s15⟩
        have sF := sE.trans s15
        have at1' : atI [mkT t1, mkT t2] 1 = some (mkT t2) := atI_nat (xs := [mkT t1, mkT t2]) (j := 1) rfl
        refine ⟨_, rfl, tp, _, _, _, rfl, rfl, SqT.of (sF _ _ e9), atI_zero _ _, _, rfl, tp, _, _, _, rfl, rfl, SqT.of (sF _ _ e9), at1', _, rfl, _, rfl, t1, t2, _, ls, t, rfl, d9.same sF, ne3, l5, ok3, h1, h2, fun q16 H16 s16 d16 => ?_⟩
        refine ⟨_, rfl, _, rfl, _, 4, d16, (dE.same s15).same s16, shal_book (by rw [mkParts_len]; omega) (by rw [mkParts_len]; omega), by decide, _, rfl, iteF ?_⟩
        subst hfew
        refine ⟨_, rfl, _, rfl, ?_⟩
        refine ite2 (fun zf => ?_) (fun zf => ?_)
        · have hfl : va.length ≤ 60 ∧ vb.length ≤ 60 := by
            have := of_decide_eq_true zf
            split at this <;> omega
          refine ⟨_, rfl, _, mkParts 0 t (LVo ls t1), mkParts (LVo ls t1).length t (LVo ls t2), rfl, d16, fun q hq => ?_, names_nodup t _ _, by rw [mkParts_len]; omega, by rw [mkParts_len]; omega, fun H17 s17 => ?_⟩
          · rcases List.mem_append.mp hq with zq | zq
            · exact parts_good h1 g1 (by omega) t0 t1' q zq
            · exact parts_good h2 g2 (by omega) t0 t1' q zq
          · exact ⟨_, _, rfl, rfl, _, rfl, iteF ⟨_, _, rfl, (s15.trans s16).trans s17⟩⟩
        · exact iteF ⟨_, _, rfl, s15.trans s16⟩
      · rintro σ H15 ⟨v14, v15, rfl, s15⟩
        exact ⟨_, _, _, _, _, _, _, _, _, _, _, _, _, _, rfl, p9.same (sE.trans s15)⟩
  · rintro σ H2 ⟨v2, v3, v4, v5, v6, v7, v8, v9, v10, v11, v12, v13, v14, v15, rfl, p2⟩
    exact k H2
end
theorem all_mk {l : PySem.W.OpenLaw} {w : World} {K : PySem.W.Frag} {h : Heap} {mg : Str → Option Value} {fa f1 f2 f3 f4 f5 f6 f7 f8 f9 f10 f11 f12 f13 f14 f15 f16 f17 f18 f19 f20 f21 f22 f23 f24 f25 f26 f27 f28 f29 f30 f31 f32 f33 : Addr} (X : K.In h) (G : h.Ns mainGlobals mg) (hfa : mg "law" = some (.ref fa))
    {od1 an1 od2 an2 od3 an3 od4 an4 od5 an5 od6 an6 od7 an7 od8 an8 od9 an9 od10 an10 od11 an11 od12 an12 od13 an13 od14 an14 od15 an15 od16 an16 od17 an17 od18 an18 od19 an19 od20 an20 od21 an21 od22 an22 od23 an23 od24 an24 od25 an25 od26 an26 od27 an27 od28 an28 od29 an29 od30 an30 od31 an31 od32 an32 od33 an33 : Option Addr} {sl1 sl2 sl3 sl4 sl5 sl6 sl7 sl8 sl9 sl10 sl11 sl12 sl13 sl14 sl15 sl16 sl17 sl18 sl19 sl20 sl21 sl22 sl23 sl24 sl25 sl26 sl27 sl28 sl29 sl30 sl31 sl32 sl33 : Array (Option Value)} {oc1 kV1 dc1 pm1 cd1 ct1 oc2 kV2 dc2 pm2 cd2 ct2 oc3 kV3 dc3 pm3 cd3 ct3 oc4 kV4 dc4 pm4 cd4 ct4 oc5 kV5 dc5 pm5 cd5 ct5 oc6 kV6 dc6 pm6 cd6 ct6 oc7 kV7 dc7 pm7 cd7 ct7 oc8 kV8 dc8 pm8 cd8 ct8 oc9 kV9 dc9 pm9 cd9 ct9 oc10 kV10 dc10 pm10 cd10 ct10 oc11 kV11 dc11 pm11 cd11 ct11 oc12 kV12 dc12 pm12 cd12 ct12 oc13 kV13 dc13 pm13 cd13 ct13 oc14 kV14 dc14 pm14 cd14 ct14 oc15 kV15 dc15 pm15 cd15 ct15 oc16 kV16 dc16 pm16 cd16 ct16 oc17 kV17 dc17 pm17 cd17 ct17 oc18 kV18 dc18 pm18 cd18 ct18 oc19 kV19 dc19 pm19 cd19 ct19 oc20 kV20 dc20 pm20 cd20 ct20 oc21 kV21 dc21 pm21 cd21 ct21 oc22 kV22 dc22 pm22 cd22 ct22 oc23 kV23 dc23 pm23 cd23 ct23 oc24 kV24 dc24 pm24 cd24 ct24 oc25 kV25 dc25 pm25 cd25 ct25 oc26 kV26 dc26 pm26 cd26 ct26 oc27 kV27 dc27 pm27 cd27 ct27 oc28 kV28 dc28 pm28 cd28 ct28 oc29 kV29 dc29 pm29 cd29 ct29 oc30 kV30 dc30 pm30 cd30 ct30 oc31 kV31 dc31 pm31 cd31 ct31 oc32 kV32 dc32 pm32 cd32 ct32 oc33 kV33 dc33 pm33 cd33 ct33 : Value}
    (a1 : PySem.W.nsIn K mainGlobals "is_number" = some (some (.ref f1))) (l1 : K.lookup f1 = some ⟨oc1, od1, .func (PySem.W.fnOf "is_number" "is_number" (defArgs sIsNumber) (defBody sIsNumber) (defScope sIsNumber) .none kV1 dc1 pm1 an1 cd1 ct1), sl1⟩) (c1 : PySem.W.codeIn K cd1 "is_number" = true) (k1 : PySem.W.keepIn K (.ref f1) = true)
    (a2 : PySem.W.nsIn K mainGlobals "is_moment" = some (some (.ref f2))) (l2 : K.lookup f2 = some ⟨oc2, od2, .func (PySem.W.fnOf "is_moment" "is_moment" (defArgs sIsMoment) (defBody sIsMoment) (defScope sIsMoment) .none kV2 dc2 pm2 an2 cd2 ct2), sl2⟩) (c2 : PySem.W.codeIn K cd2 "is_moment" = true) (k2 : PySem.W.keepIn K (.ref f2) = true)
    (a3 : PySem.W.nsIn K mainGlobals "is_sign" = some (some (.ref f3))) (l3 : K.lookup f3 = some ⟨oc3, od3, .func (PySem.W.fnOf "is_sign" "is_sign" (defArgs sIsSign) (defBody sIsSign) (defScope sIsSign) .none kV3 dc3 pm3 an3 cd3 ct3), sl3⟩) (c3 : PySem.W.codeIn K cd3 "is_sign" = true) (k3 : PySem.W.keepIn K (.ref f3) = true)
    (a4 : PySem.W.nsIn K mainGlobals "is_text" = some (some (.ref f4))) (l4 : K.lookup f4 = some ⟨oc4, od4, .func (PySem.W.fnOf "is_text" "is_text" (defArgs sIsText) (defBody sIsText) (defScope sIsText) .none kV4 dc4 pm4 an4 cd4 ct4), sl4⟩) (c4 : PySem.W.codeIn K cd4 "is_text" = true) (k4 : PySem.W.keepIn K (.ref f4) = true)
    (a5 : PySem.W.nsIn K mainGlobals "is_row_of" = some (some (.ref f5))) (l5 : K.lookup f5 = some ⟨oc5, od5, .func (PySem.W.fnOf "is_row_of" "is_row_of" (defArgs sIsRowOf) (defBody sIsRowOf) (defScope sIsRowOf) .none kV5 dc5 pm5 an5 cd5 ct5), sl5⟩) (c5 : PySem.W.codeIn K cd5 "is_row_of" = true) (k5 : PySem.W.keepIn K (.ref f5) = true)
    (a6 : PySem.W.nsIn K mainGlobals "rises" = some (some (.ref f6))) (l6 : K.lookup f6 = some ⟨oc6, od6, .func (PySem.W.fnOf "rises" "rises" (defArgs sRises) (defBody sRises) (defScope sRises) .none kV6 dc6 pm6 an6 cd6 ct6), sl6⟩) (c6 : PySem.W.codeIn K cd6 "rises" = true) (k6 : PySem.W.keepIn K (.ref f6) = true)
    (a7 : PySem.W.nsIn K mainGlobals "is_name" = some (some (.ref f7))) (l7 : K.lookup f7 = some ⟨oc7, od7, .func (PySem.W.fnOf "is_name" "is_name" (defArgs sIsName) (defBody sIsName) (defScope sIsName) .none kV7 dc7 pm7 an7 cd7 ct7), sl7⟩) (c7 : PySem.W.codeIn K cd7 "is_name" = true) (k7 : PySem.W.keepIn K (.ref f7) = true)
    (a8 : PySem.W.nsIn K mainGlobals "name_at" = some (some (.ref f8))) (l8 : K.lookup f8 = some ⟨oc8, od8, .func (PySem.W.fnOf "name_at" "name_at" (defArgs sNameAt) (defBody sNameAt) (defScope sNameAt) .none kV8 dc8 pm8 an8 cd8 ct8), sl8⟩) (c8 : PySem.W.codeIn K cd8 "name_at" = true) (k8 : PySem.W.keepIn K (.ref f8) = true)
    (a9 : PySem.W.nsIn K mainGlobals "are_moments" = some (some (.ref f9))) (l9 : K.lookup f9 = some ⟨oc9, od9, .func (PySem.W.fnOf "are_moments" "are_moments" (defArgs sAreMoments) (defBody sAreMoments) (defScope sAreMoments) .none kV9 dc9 pm9 an9 cd9 ct9), sl9⟩) (c9 : PySem.W.codeIn K cd9 "are_moments" = true) (k9 : PySem.W.keepIn K (.ref f9) = true)
    (a10 : PySem.W.nsIn K mainGlobals "are_names" = some (some (.ref f10))) (l10 : K.lookup f10 = some ⟨oc10, od10, .func (PySem.W.fnOf "are_names" "are_names" (defArgs sAreNames) (defBody sAreNames) (defScope sAreNames) .none kV10 dc10 pm10 an10 cd10 ct10), sl10⟩) (c10 : PySem.W.codeIn K cd10 "are_names" = true) (k10 : PySem.W.keepIn K (.ref f10) = true)
    (a11 : PySem.W.nsIn K mainGlobals "is_part" = some (some (.ref f11))) (l11 : K.lookup f11 = some ⟨oc11, od11, .func (PySem.W.fnOf "is_part" "is_part" (defArgs sIsPart) (defBody sIsPart) (defScope sIsPart) .none kV11 dc11 pm11 an11 cd11 ct11), sl11⟩) (c11 : PySem.W.codeIn K cd11 "is_part" = true) (k11 : PySem.W.keepIn K (.ref f11) = true)
    (a12 : PySem.W.nsIn K mainGlobals "are_parts" = some (some (.ref f12))) (l12 : K.lookup f12 = some ⟨oc12, od12, .func (PySem.W.fnOf "are_parts" "are_parts" (defArgs sAreParts) (defBody sAreParts) (defScope sAreParts) .none kV12 dc12 pm12 an12 cd12 ct12), sl12⟩) (c12 : PySem.W.codeIn K cd12 "are_parts" = true) (k12 : PySem.W.keepIn K (.ref f12) = true)
    (a13 : PySem.W.nsIn K mainGlobals "is_link" = some (some (.ref f13))) (l13 : K.lookup f13 = some ⟨oc13, od13, .func (PySem.W.fnOf "is_link" "is_link" (defArgs sIsLink) (defBody sIsLink) (defScope sIsLink) .none kV13 dc13 pm13 an13 cd13 ct13), sl13⟩) (c13 : PySem.W.codeIn K cd13 "is_link" = true) (k13 : PySem.W.keepIn K (.ref f13) = true)
    (a14 : PySem.W.nsIn K mainGlobals "are_links" = some (some (.ref f14))) (l14 : K.lookup f14 = some ⟨oc14, od14, .func (PySem.W.fnOf "are_links" "are_links" (defArgs sAreLinks) (defBody sAreLinks) (defScope sAreLinks) .none kV14 dc14 pm14 an14 cd14 ct14), sl14⟩) (c14 : PySem.W.codeIn K cd14 "are_links" = true) (k14 : PySem.W.keepIn K (.ref f14) = true)
    (a15 : PySem.W.nsIn K mainGlobals "linked_names" = some (some (.ref f15))) (l15 : K.lookup f15 = some ⟨oc15, od15, .func (PySem.W.fnOf "linked_names" "linked_names" (defArgs sLinkedNames) (defBody sLinkedNames) (defScope sLinkedNames) .none kV15 dc15 pm15 an15 cd15 ct15), sl15⟩) (c15 : PySem.W.codeIn K cd15 "linked_names" = true) (k15 : PySem.W.keepIn K (.ref f15) = true)
    (a16 : PySem.W.nsIn K mainGlobals "names_of" = some (some (.ref f16))) (l16 : K.lookup f16 = some ⟨oc16, od16, .func (PySem.W.fnOf "names_of" "names_of" (defArgs sNamesOf) (defBody sNamesOf) (defScope sNamesOf) .none kV16 dc16 pm16 an16 cd16 ct16), sl16⟩) (c16 : PySem.W.codeIn K cd16 "names_of" = true) (k16 : PySem.W.keepIn K (.ref f16) = true)
    (a17 : PySem.W.nsIn K mainGlobals "are_unlike" = some (some (.ref f17))) (l17 : K.lookup f17 = some ⟨oc17, od17, .func (PySem.W.fnOf "are_unlike" "are_unlike" (defArgs sAreUnlike) (defBody sAreUnlike) (defScope sAreUnlike) .none kV17 dc17 pm17 an17 cd17 ct17), sl17⟩) (c17 : PySem.W.codeIn K cd17 "are_unlike" = true) (k17 : PySem.W.keepIn K (.ref f17) = true)
    (a18 : PySem.W.nsIn K mainGlobals "are_among" = some (some (.ref f18))) (l18 : K.lookup f18 = some ⟨oc18, od18, .func (PySem.W.fnOf "are_among" "are_among" (defArgs sAreAmong) (defBody sAreAmong) (defScope sAreAmong) .none kV18 dc18 pm18 an18 cd18 ct18), sl18⟩) (c18 : PySem.W.codeIn K cd18 "are_among" = true) (k18 : PySem.W.keepIn K (.ref f18) = true)
    (a19 : PySem.W.nsIn K mainGlobals "is_book" = some (some (.ref f19))) (l19 : K.lookup f19 = some ⟨oc19, od19, .func (PySem.W.fnOf "is_book" "is_book" (defArgs sIsBook) (defBody sIsBook) (defScope sIsBook) .none kV19 dc19 pm19 an19 cd19 ct19), sl19⟩) (c19 : PySem.W.codeIn K cd19 "is_book" = true) (k19 : PySem.W.keepIn K (.ref f19) = true)
    (a20 : PySem.W.nsIn K mainGlobals "longest_at" = some (some (.ref f20))) (l20 : K.lookup f20 = some ⟨oc20, od20, .func (PySem.W.fnOf "longest_at" "longest_at" (defArgs sLongestAt) (defBody sLongestAt) (defScope sLongestAt) .none kV20 dc20 pm20 an20 cd20 ct20), sl20⟩) (c20 : PySem.W.codeIn K cd20 "longest_at" = true) (k20 : PySem.W.keepIn K (.ref f20) = true)
    (a21 : PySem.W.nsIn K mainGlobals "pieces_of" = some (some (.ref f21))) (l21 : K.lookup f21 = some ⟨oc21, od21, .func (PySem.W.fnOf "pieces_of" "pieces_of" (defArgs sPiecesOf) (defBody sPiecesOf) (defScope sPiecesOf) .none kV21 dc21 pm21 an21 cd21 ct21), sl21⟩) (c21 : PySem.W.codeIn K cd21 "pieces_of" = true) (k21 : PySem.W.keepIn K (.ref f21) = true)
    (a22 : PySem.W.nsIn K mainGlobals "cut_up" = some (some (.ref f22))) (l22 : K.lookup f22 = some ⟨oc22, od22, .func (PySem.W.fnOf "cut_up" "cut_up" (defArgs sCutUp) (defBody sCutUp) (defScope sCutUp) .none kV22 dc22 pm22 an22 cd22 ct22), sl22⟩) (c22 : PySem.W.codeIn K cd22 "cut_up" = true) (k22 : PySem.W.keepIn K (.ref f22) = true)
    (a23 : PySem.W.nsIn K mainGlobals "nodes_of" = some (some (.ref f23))) (l23 : K.lookup f23 = some ⟨oc23, od23, .func (PySem.W.fnOf "nodes_of" "nodes_of" (defArgs sNodesOf) (defBody sNodesOf) (defScope sNodesOf) .none kV23 dc23 pm23 an23 cd23 ct23), sl23⟩) (c23 : PySem.W.codeIn K cd23 "nodes_of" = true) (k23 : PySem.W.keepIn K (.ref f23) = true)
    (a24 : PySem.W.nsIn K mainGlobals "leaves" = some (some (.ref f24))) (l24 : K.lookup f24 = some ⟨oc24, od24, .func (PySem.W.fnOf "leaves" "leaves" (defArgs sLeaves) (defBody sLeaves) (defScope sLeaves) .none kV24 dc24 pm24 an24 cd24 ct24), sl24⟩) (c24 : PySem.W.codeIn K cd24 "leaves" = true) (k24 : PySem.W.keepIn K (.ref f24) = true)
    (a25 : PySem.W.nsIn K mainGlobals "begun" = some (some (.ref f25))) (l25 : K.lookup f25 = some ⟨oc25, od25, .func (PySem.W.fnOf "begun" "begun" (defArgs sBegun) (defBody sBegun) (defScope sBegun) .none kV25 dc25 pm25 an25 cd25 ct25), sl25⟩) (c25 : PySem.W.codeIn K cd25 "begun" = true) (k25 : PySem.W.keepIn K (.ref f25) = true)
    (a26 : PySem.W.nsIn K mainGlobals "new_parts" = some (some (.ref f26))) (l26 : K.lookup f26 = some ⟨oc26, od26, .func (PySem.W.fnOf "new_parts" "new_parts" (defArgs sNewParts) (defBody sNewParts) (defScope sNewParts) .none kV26 dc26 pm26 an26 cd26 ct26), sl26⟩) (c26 : PySem.W.codeIn K cd26 "new_parts" = true) (k26 : PySem.W.keepIn K (.ref f26) = true)
    (a27 : PySem.W.nsIn K mainGlobals "_law_pot" = some (some (.ref f27))) (l27 : K.lookup f27 = some ⟨oc27, od27, .func (PySem.W.fnOf "_law_pot" "_law_pot" (defArgs sPot) (defBody sPot) (defScope sPot) .none kV27 dc27 pm27 an27 cd27 ct27), sl27⟩) (c27 : PySem.W.codeIn K cd27 "_law_pot" = true) (k27 : PySem.W.keepIn K (.ref f27) = true)
    (a28 : PySem.W.nsIn K mainGlobals "_law_next" = some (some (.ref f28))) (l28 : K.lookup f28 = some ⟨oc28, od28, .func (PySem.W.fnOf "_law_next" "_law_next" (defArgs sNext) (defBody sNext) (defScope sNext) .none kV28 dc28 pm28 an28 cd28 ct28), sl28⟩) (c28 : PySem.W.codeIn K cd28 "_law_next" = true) (k28 : PySem.W.keepIn K (.ref f28) = true)
    (a29 : PySem.W.nsIn K mainGlobals "_law_texts" = some (some (.ref f29))) (l29 : K.lookup f29 = some ⟨oc29, od29, .func (PySem.W.fnOf "_law_texts" "_law_texts" (defArgs sTexts) (defBody sTexts) (defScope sTexts) .none kV29 dc29 pm29 an29 cd29 ct29), sl29⟩) (c29 : PySem.W.codeIn K cd29 "_law_texts" = true) (k29 : PySem.W.keepIn K (.ref f29) = true)
    (a30 : PySem.W.nsIn K mainGlobals "_law_rules" = some (some (.ref f30))) (l30 : K.lookup f30 = some ⟨oc30, od30, .func (PySem.W.fnOf "_law_rules" "_law_rules" (defArgs sRules) (defBody sRules) (defScope sRules) .none kV30 dc30 pm30 an30 cd30 ct30), sl30⟩) (c30 : PySem.W.codeIn K cd30 "_law_rules" = true) (k30 : PySem.W.keepIn K (.ref f30) = true)
    (a31 : PySem.W.nsIn K mainGlobals "_law_text" = some (some (.ref f31))) (l31 : K.lookup f31 = some ⟨oc31, od31, .func (PySem.W.fnOf "_law_text" "_law_text" (defArgs sText) (defBody sText) (defScope sText) .none kV31 dc31 pm31 an31 cd31 ct31), sl31⟩) (c31 : PySem.W.codeIn K cd31 "_law_text" = true) (k31 : PySem.W.keepIn K (.ref f31) = true)
    (a32 : PySem.W.nsIn K mainGlobals "_law_name" = some (some (.ref f32))) (l32 : K.lookup f32 = some ⟨oc32, od32, .func (PySem.W.fnOf "_law_name" "_law_name" (defArgs sName) (defBody sName) (defScope sName) .none kV32 dc32 pm32 an32 cd32 ct32), sl32⟩) (c32 : PySem.W.codeIn K cd32 "_law_name" = true) (k32 : PySem.W.keepIn K (.ref f32) = true)
    (a33 : PySem.W.nsIn K mainGlobals "law" = some (some (.ref f33))) (l33 : K.lookup f33 = some ⟨oc33, od33, .func (PySem.W.fnOf "law" "law" (defArgs sLaw) (defBody sLaw) (defScope sLaw) .none kV33 dc33 pm33 an33 cd33 ct33), sl33⟩) (c33 : PySem.W.codeIn K cd33 "law" = true) (k33 : PySem.W.keepIn K (.ref f33) = true)
    {t_LAST_MOMENT t_LETTERS t_MOST_LETTERS : Tok} (p_LAST_MOMENT : PySem.W.nsIn K mainGlobals "LAST_MOMENT" = some (some (.int 1000000000000 t_LAST_MOMENT))) (p_LETTERS : PySem.W.nsIn K mainGlobals "LETTERS" = some (some (.str LET t_LETTERS))) (p_MOST_LETTERS : PySem.W.nsIn K mainGlobals "MOST_LETTERS" = some (some (.int 8 t_MOST_LETTERS)))
    (z_len : PySem.W.nsIn K mainGlobals "len" = some none) (z_int : PySem.W.nsIn K mainGlobals "int" = some none) (z_range : PySem.W.nsIn K mainGlobals "range" = some none) (z_isinstance : PySem.W.nsIn K mainGlobals "isinstance" = some none) (z_tuple : PySem.W.nsIn K mainGlobals "tuple" = some none) (z_bool : PySem.W.nsIn K mainGlobals "bool" = some none) (z_str : PySem.W.nsIn K mainGlobals "str" = some none) (z_all : PySem.W.nsIn K mainGlobals "all" = some none) (z_zip : PySem.W.nsIn K mainGlobals "zip" = some none) (z_enumerate : PySem.W.nsIn K mainGlobals "enumerate" = some none) (z_set : PySem.W.nsIn K mainGlobals "set" = some none) (z_dict : PySem.W.nsIn K mainGlobals "dict" = some none) (z_list : PySem.W.nsIn K mainGlobals "list" = some none) (z_max : PySem.W.nsIn K mainGlobals "max" = some none) :
    ∃ fd : FuncData, (∀ (s : Shared) (v : Value), BindsTo s fd ⟨[v], []⟩ [("_law_script", v)]) ∧ ∀ base : Heap, K.In base → base.Ns mainGlobals mg → FnOk l.prog w K mg base CX0 10 fa fd ["_law_script"] (spLaw K) := by
  have e := hfa.symm.trans (PySem.W.mg_of X G a33)
  cases e
  have F1 := fun_mk (st := sIsNumber) l1 c1 k1
  have h_is_number : Has K mg "is_number" sIsNumber ["thing"] := ⟨_, _, F1, F1.binds fun _ _ _ _ _ _ us hl => match us, hl with | [_], _ => rfl, PySem.W.mg_of X G a1⟩
  have F2 := fun_mk (st := sIsMoment) l2 c2 k2
  have h_is_moment : Has K mg "is_moment" sIsMoment ["thing"] := ⟨_, _, F2, F2.binds fun _ _ _ _ _ _ us hl => match us, hl with | [_], _ => rfl, PySem.W.mg_of X G a2⟩
  have F3 := fun_mk (st := sIsSign) l3 c3 k3
  have h_is_sign : Has K mg "is_sign" sIsSign ["sign"] := ⟨_, _, F3, F3.binds fun _ _ _ _ _ _ us hl => match us, hl with | [_], _ => rfl, PySem.W.mg_of X G a3⟩
  have F4 := fun_mk (st := sIsText) l4 c4 k4
  have h_is_text : Has K mg "is_text" sIsText ["thing"] := ⟨_, _, F4, F4.binds fun _ _ _ _ _ _ us hl => match us, hl with | [_], _ => rfl, PySem.W.mg_of X G a4⟩
  have F5 := fun_mk (st := sIsRowOf) l5 c5 k5
  have h_is_row_of : Has K mg "is_row_of" sIsRowOf ["thing", "count"] := ⟨_, _, F5, F5.binds fun _ _ _ _ _ _ us hl => match us, hl with | [_, _], _ => rfl, PySem.W.mg_of X G a5⟩
  have F6 := fun_mk (st := sRises) l6 c6 k6
  have h_rises : Has K mg "rises" sRises ["row"] := ⟨_, _, F6, F6.binds fun _ _ _ _ _ _ us hl => match us, hl with | [_], _ => rfl, PySem.W.mg_of X G a6⟩
  have F7 := fun_mk (st := sIsName) l7 c7 k7
  have h_is_name : Has K mg "is_name" sIsName ["thing"] := ⟨_, _, F7, F7.binds fun _ _ _ _ _ _ us hl => match us, hl with | [_], _ => rfl, PySem.W.mg_of X G a7⟩
  have F8 := fun_mk (st := sNameAt) l8 c8 k8
  have h_name_at : Has K mg "name_at" sNameAt ["k"] := ⟨_, _, F8, F8.binds fun _ _ _ _ _ _ us hl => match us, hl with | [_], _ => rfl, PySem.W.mg_of X G a8⟩
  have F9 := fun_mk (st := sAreMoments) l9 c9 k9
  have h_are_moments : Has K mg "are_moments" sAreMoments ["thing"] := ⟨_, _, F9, F9.binds fun _ _ _ _ _ _ us hl => match us, hl with | [_], _ => rfl, PySem.W.mg_of X G a9⟩
  have F10 := fun_mk (st := sAreNames) l10 c10 k10
  have h_are_names : Has K mg "are_names" sAreNames ["thing"] := ⟨_, _, F10, F10.binds fun _ _ _ _ _ _ us hl => match us, hl with | [_], _ => rfl, PySem.W.mg_of X G a10⟩
  have F11 := fun_mk (st := sIsPart) l11 c11 k11
  have h_is_part : Has K mg "is_part" sIsPart ["thing"] := ⟨_, _, F11, F11.binds fun _ _ _ _ _ _ us hl => match us, hl with | [_], _ => rfl, PySem.W.mg_of X G a11⟩
  have F12 := fun_mk (st := sAreParts) l12 c12 k12
  have h_are_parts : Has K mg "are_parts" sAreParts ["thing"] := ⟨_, _, F12, F12.binds fun _ _ _ _ _ _ us hl => match us, hl with | [_], _ => rfl, PySem.W.mg_of X G a12⟩
  have F13 := fun_mk (st := sIsLink) l13 c13 k13
  have h_is_link : Has K mg "is_link" sIsLink ["thing"] := ⟨_, _, F13, F13.binds fun _ _ _ _ _ _ us hl => match us, hl with | [_], _ => rfl, PySem.W.mg_of X G a13⟩
  have F14 := fun_mk (st := sAreLinks) l14 c14 k14
  have h_are_links : Has K mg "are_links" sAreLinks ["thing"] := ⟨_, _, F14, F14.binds fun _ _ _ _ _ _ us hl => match us, hl with | [_], _ => rfl, PySem.W.mg_of X G a14⟩
  have F15 := fun_mk (st := sLinkedNames) l15 c15 k15
  have h_linked_names : Has K mg "linked_names" sLinkedNames ["links", "side"] := ⟨_, _, F15, F15.binds fun _ _ _ _ _ _ us hl => match us, hl with | [_, _], _ => rfl, PySem.W.mg_of X G a15⟩
  have F16 := fun_mk (st := sNamesOf) l16 c16 k16
  have h_names_of : Has K mg "names_of" sNamesOf ["book"] := ⟨_, _, F16, F16.binds fun _ _ _ _ _ _ us hl => match us, hl with | [_], _ => rfl, PySem.W.mg_of X G a16⟩
  have F17 := fun_mk (st := sAreUnlike) l17 c17 k17
  have h_are_unlike : Has K mg "are_unlike" sAreUnlike ["names"] := ⟨_, _, F17, F17.binds fun _ _ _ _ _ _ us hl => match us, hl with | [_], _ => rfl, PySem.W.mg_of X G a17⟩
  have F18 := fun_mk (st := sAreAmong) l18 c18 k18
  have h_are_among : Has K mg "are_among" sAreAmong ["names", "others"] := ⟨_, _, F18, F18.binds fun _ _ _ _ _ _ us hl => match us, hl with | [_, _], _ => rfl, PySem.W.mg_of X G a18⟩
  have F19 := fun_mk (st := sIsBook) l19 c19 k19
  have h_is_book : Has K mg "is_book" sIsBook ["thing"] := ⟨_, _, F19, F19.binds fun _ _ _ _ _ _ us hl => match us, hl with | [_], _ => rfl, PySem.W.mg_of X G a19⟩
  have F20 := fun_mk (st := sLongestAt) l20 c20 k20
  have h_longest_at : Has K mg "longest_at" sLongestAt ["text", "place", "choices"] := ⟨_, _, F20, F20.binds fun _ _ _ _ _ _ us hl => match us, hl with | [_, _, _], _ => rfl, PySem.W.mg_of X G a20⟩
  have F21 := fun_mk (st := sPiecesOf) l21 c21 k21
  have h_pieces_of : Has K mg "pieces_of" sPiecesOf ["text", "level"] := ⟨_, _, F21, F21.binds fun _ _ _ _ _ _ us hl => match us, hl with | [_, _], _ => rfl, PySem.W.mg_of X G a21⟩
  have F22 := fun_mk (st := sCutUp) l22 c22 k22
  have h_cut_up : Has K mg "cut_up" sCutUp ["text", "rules"] := ⟨_, _, F22, F22.binds fun _ _ _ _ _ _ us hl => match us, hl with | [_, _], _ => rfl, PySem.W.mg_of X G a22⟩
  have F23 := fun_mk (st := sNodesOf) l23 c23 k23
  have h_nodes_of : Has K mg "nodes_of" sNodesOf ["tree", "path"] := ⟨_, _, F23, F23.binds fun _ _ _ _ _ _ us hl => match us, hl with | [_, _], _ => rfl, PySem.W.mg_of X G a23⟩
  have F24 := fun_mk (st := sLeaves) l24 c24 k24
  have h_leaves : Has K mg "leaves" sLeaves ["tree"] := ⟨_, _, F24, F24.binds fun _ _ _ _ _ _ us hl => match us, hl with | [_], _ => rfl, PySem.W.mg_of X G a24⟩
  have F25 := fun_mk (st := sBegun) l25 c25 k25
  have h_begun : Has K mg "begun" sBegun ["one", "other", "rules", "t"] := ⟨_, _, F25, F25.binds fun _ _ _ _ _ _ us hl => match us, hl with | [_, _, _, _], _ => rfl, PySem.W.mg_of X G a25⟩
  have F26 := fun_mk (st := sNewParts) l26 c26 k26
  have h_new_parts : Has K mg "new_parts" sNewParts ["found", "first", "t"] := ⟨_, _, F26, F26.binds fun _ _ _ _ _ _ us hl => match us, hl with | [_, _, _], _ => rfl, PySem.W.mg_of X G a26⟩
  have F27 := fun_mk (st := sPot) l27 c27 k27
  have h_pot : Has K mg "_law_pot" sPot ["_law_script"] := ⟨_, _, F27, F27.binds fun _ _ _ _ _ _ us hl => match us, hl with | [_], _ => rfl, PySem.W.mg_of X G a27⟩
  have F28 := fun_mk (st := sNext) l28 c28 k28
  have h_next : Has K mg "_law_next" sNext ["_law_pot_here", "_law_many"] := ⟨_, _, F28, F28.binds fun _ _ _ _ _ _ us hl => match us, hl with | [_, _], _ => rfl, PySem.W.mg_of X G a28⟩
  have F29 := fun_mk (st := sTexts) l29 c29 k29
  have h_texts : Has K mg "_law_texts" sTexts ["_law_pot_here", "_law_most"] := ⟨_, _, F29, F29.binds fun _ _ _ _ _ _ us hl => match us, hl with | [_, _], _ => rfl, PySem.W.mg_of X G a29⟩
  have F30 := fun_mk (st := sRules) l30 c30 k30
  have h_rules : Has K mg "_law_rules" sRules ["_law_pot_here"] := ⟨_, _, F30, F30.binds fun _ _ _ _ _ _ us hl => match us, hl with | [_], _ => rfl, PySem.W.mg_of X G a30⟩
  have F31 := fun_mk (st := sText) l31 c31 k31
  have h_text : Has K mg "_law_text" sText ["_law_pot_here"] := ⟨_, _, F31, F31.binds fun _ _ _ _ _ _ us hl => match us, hl with | [_], _ => rfl, PySem.W.mg_of X G a31⟩
  have F32 := fun_mk (st := sName) l32 c32 k32
  have h_name : Has K mg "_law_name" sName ["_law_k"] := ⟨_, _, F32, F32.binds fun _ _ _ _ _ _ us hl => match us, hl with | [_], _ => rfl, PySem.W.mg_of X G a32⟩
  have F33 := fun_mk (st := sLaw) l33 c33 k33
  have m_len := PySem.W.mg_none_of X G z_len
  have m_int := PySem.W.mg_none_of X G z_int
  have m_range := PySem.W.mg_none_of X G z_range
  have m_isinstance := PySem.W.mg_none_of X G z_isinstance
  have m_tuple := PySem.W.mg_none_of X G z_tuple
  have m_bool := PySem.W.mg_none_of X G z_bool
  have m_str := PySem.W.mg_none_of X G z_str
  have m_all := PySem.W.mg_none_of X G z_all
  have m_zip := PySem.W.mg_none_of X G z_zip
  have m_enumerate := PySem.W.mg_none_of X G z_enumerate
  have m_set := PySem.W.mg_none_of X G z_set
  have m_dict := PySem.W.mg_none_of X G z_dict
  have m_list := PySem.W.mg_none_of X G z_list
  have m_max := PySem.W.mg_none_of X G z_max
  have q_LAST_MOMENT := PySem.W.mg_of X G p_LAST_MOMENT
  have q_LETTERS := PySem.W.mg_of X G p_LETTERS
  have q_MOST_LETTERS := PySem.W.mg_of X G p_MOST_LETTERS
  refine ⟨PySem.W.fnOf "law" "law" (defArgs sLaw) (defBody sLaw) (defScope sLaw) .none kV33 dc33 pm33 an33 cd33 ct33, fun s v => .of_eq rfl, fun base _ _ => ?_⟩
  have C_longest_at := c_longest_at (P := l.prog) (w := w) (base := base) h_longest_at m_max m_len
  have C_pieces_of := c_pieces_of (P := l.prog) (w := w) (base := base) h_pieces_of C_longest_at m_len m_max m_tuple
  have C_cut_up := c_cut_up (P := l.prog) (w := w) (base := base) h_cut_up C_pieces_of m_len m_tuple 5
  have C_nodes_of := c_nodes_of (P := l.prog) (w := w) (base := base) h_nodes_of m_isinstance m_tuple m_enumerate 7
  have C_leaves := c_leaves (P := l.prog) (w := w) (base := base) h_leaves C_nodes_of m_tuple m_isinstance m_str
  have C_is_number := c_is_number (P := l.prog) (w := w) (base := base) h_is_number m_isinstance m_bool m_int
  have C_is_moment := c_is_moment (P := l.prog) (w := w) (base := base) h_is_moment C_is_number q_LAST_MOMENT
  have C_is_sign := c_is_sign (P := l.prog) (w := w) (base := base) h_is_sign 
  have C_is_text := c_is_text (P := l.prog) (w := w) (base := base) h_is_text C_is_sign m_all m_isinstance m_str
  have C_rises := c_rises (P := l.prog) (w := w) (base := base) h_rises m_all m_zip
  have C_is_name := c_is_name (P := l.prog) (w := w) (base := base) h_is_name m_isinstance m_str m_all m_len q_LETTERS q_MOST_LETTERS
  have C_name_at := c_name_at (P := l.prog) (w := w) (base := base) h_name_at q_LETTERS
  have C_is_row_of := c_is_row_of (P := l.prog) (w := w) (base := base) h_is_row_of m_len m_isinstance m_tuple
  have C_are_moments := c_are_moments (P := l.prog) (w := w) (base := base) h_are_moments C_rises C_is_moment m_all m_isinstance m_tuple
  have C_are_names := c_are_names (P := l.prog) (w := w) (base := base) h_are_names C_rises C_is_name m_all m_isinstance m_tuple
  have C_is_part := c_is_part (P := l.prog) (w := w) (base := base) h_is_part C_is_row_of C_are_moments C_is_text C_is_name m_len
  have C_are_parts := c_are_parts (P := l.prog) (w := w) (base := base) h_are_parts C_is_part m_all m_isinstance m_tuple
  have C_is_link := c_is_link (P := l.prog) (w := w) (base := base) h_is_link 
  have C_are_links := c_are_links (P := l.prog) (w := w) (base := base) h_are_links C_rises C_is_link m_all m_isinstance m_tuple
  have C_linked_names := c_linked_names (P := l.prog) (w := w) (base := base) h_linked_names 
  have C_names_of := c_names_of (P := l.prog) (w := w) (base := base) h_names_of m_tuple
  have C_are_unlike := c_are_unlike (P := l.prog) (w := w) (base := base) h_are_unlike m_len m_set
  have C_are_among := c_are_among (P := l.prog) (w := w) (base := base) h_are_among m_dict m_all
  have C_is_book := c_is_book (P := l.prog) (w := w) (base := base) h_is_book C_are_parts C_is_row_of C_are_unlike C_names_of C_are_names C_are_links C_are_among C_linked_names m_list
  have C_new_parts := c_new_parts (P := l.prog) (w := w) (base := base) h_new_parts C_name_at m_tuple m_enumerate
  have C_begun := c_begun (P := l.prog) (w := w) (base := base) h_begun C_leaves C_cut_up C_new_parts m_len
  have C_pot := c_pot (P := l.prog) (w := w) (base := base) h_pot 
  have C_next := c_next (P := l.prog) (w := w) (base := base) h_next 
  have C_texts := c_texts (P := l.prog) (w := w) (base := base) h_texts C_next m_range m_len m_tuple
  have C_rules := c_rules (P := l.prog) (w := w) (base := base) h_rules C_next C_texts m_range m_int m_tuple
  have C_text := c_text (P := l.prog) (w := w) (base := base) h_text C_next m_range
  have C_name := c_name (P := l.prog) (w := w) (base := base) h_name  8
  exact ok_law F33 C_pot C_rules C_text C_next C_leaves C_cut_up C_name C_begun C_is_book m_range m_tuple m_max m_len
theorem walk {l : PySem.W.OpenLaw} {q : Program} {loose : List Str} {XP : (Str → Option Value) → Heap → Prop} {YP : World → Heap → Prop} {d : DefRec} {K : Params → PySem.W.Frag} (hn : l.most = some 63) (hdf : d.params.defaults = [])
    (hY : ∀ (w : World) (h : Heap), YP w h → (K w.params).In h)
    (F : ∀ (w : World) (mg : Str → Option Value) (fa : Addr) (h : Heap), (K w.params).In h → h.Ns mainGlobals mg → mg d.name = some (.ref fa) →
      ∃ fd : FuncData, (∀ (s : Shared) (u : Value), BindsTo s fd ⟨[u], []⟩ [("_law_script", u)]) ∧ ∀ base : Heap, (K w.params).In base → base.Ns mainGlobals mg → FnOk l.prog w (K w.params) mg base CX0 10 fa fd ["_law_script"] (spLaw (K w.params))) :
    PySem.W.WalkO q loose XP YP l.row.toRowW d [] (fun f vs => PySem.call f vs) :=
  L2.walk_of (n := 63) (k := 10) (x := "_law_script") (CX := fun _ => CX0) (sp := fun w => spLaw (K w.params)) hn (by decide) hdf ⟨rfl, by decide, by decide⟩ hY F (fun _ _ a ns hl _ hS => ⟨a, ns, rfl, hS, hl, fun _ => rfl⟩) fun _ _ _ _ _ z => z
end Mine

open PySem PySem.W PyProof.Rows
set_option maxRecDepth 100000 in
set_option maxHeartbeats 0 in
theorem PySem.Challenge.cw_twainkeep_k26_begun_holds : PySem.Challenge.rw_twainkeep_k26_begun.Holds := by
  w_on; o_law; k_head; (case hw => w_witness2)
  k_fill
  refine Mine.walk (l := PySem.Challenge.rw_twainkeep_k26_begun) rfl rfl (fun w h Y => PySem.W.kIn_of Y) ?F
  case F =>
    intro w mg fa h KX G hmg
    refine' Mine.all_mk KX G hmg ?a1 ?l1 ?c1 ?k1 ?a2 ?l2 ?c2 ?k2 ?a3 ?l3 ?c3 ?k3 ?a4 ?l4 ?c4 ?k4 ?a5 ?l5 ?c5 ?k5 ?a6 ?l6 ?c6 ?k6 ?a7 ?l7 ?c7 ?k7 ?a8 ?l8 ?c8 ?k8 ?a9 ?l9 ?c9 ?k9 ?a10 ?l10 ?c10 ?k10 ?a11 ?l11 ?c11 ?k11 ?a12 ?l12 ?c12 ?k12 ?a13 ?l13 ?c13 ?k13 ?a14 ?l14 ?c14 ?k14 ?a15 ?l15 ?c15 ?k15 ?a16 ?l16 ?c16 ?k16 ?a17 ?l17 ?c17 ?k17 ?a18 ?l18 ?c18 ?k18 ?a19 ?l19 ?c19 ?k19 ?a20 ?l20 ?c20 ?k20 ?a21 ?l21 ?c21 ?k21 ?a22 ?l22 ?c22 ?k22 ?a23 ?l23 ?c23 ?k23 ?a24 ?l24 ?c24 ?k24 ?a25 ?l25 ?c25 ?k25 ?a26 ?l26 ?c26 ?k26 ?a27 ?l27 ?c27 ?k27 ?a28 ?l28 ?c28 ?k28 ?a29 ?l29 ?c29 ?k29 ?a30 ?l30 ?c30 ?k30 ?a31 ?l31 ?c31 ?k31 ?a32 ?l32 ?c32 ?k32 ?a33 ?l33 ?c33 ?k33 ?p_LAST_MOMENT ?p_LETTERS ?p_MOST_LETTERS ?z_len ?z_int ?z_range ?z_isinstance ?z_tuple ?z_bool ?z_str ?z_all ?z_zip ?z_enumerate ?z_set ?z_dict ?z_list ?z_max
    (case a1 => k_is)
    (case l1 => k_is)
    (case c1 => k_is)
    (case k1 => k_is)
    (case a2 => k_is)
    (case l2 => k_is)
    (case c2 => k_is)
    (case k2 => k_is)
    (case a3 => k_is)
    (case l3 => k_is)
    (case c3 => k_is)
    (case k3 => k_is)
    (case a4 => k_is)
    (case l4 => k_is)
    (case c4 => k_is)
    (case k4 => k_is)
    (case a5 => k_is)
    (case l5 => k_is)
    (case c5 => k_is)
    (case k5 => k_is)
    (case a6 => k_is)
    (case l6 => k_is)
    (case c6 => k_is)
    (case k6 => k_is)
    (case a7 => k_is)
    (case l7 => k_is)
    (case c7 => k_is)
    (case k7 => k_is)
    (case a8 => k_is)
    (case l8 => k_is)
    (case c8 => k_is)
    (case k8 => k_is)
    (case a9 => k_is)
    (case l9 => k_is)
    (case c9 => k_is)
    (case k9 => k_is)
    (case a10 => k_is)
    (case l10 => k_is)
    (case c10 => k_is)
    (case k10 => k_is)
    (case a11 => k_is)
    (case l11 => k_is)
    (case c11 => k_is)
    (case k11 => k_is)
    (case a12 => k_is)
    (case l12 => k_is)
    (case c12 => k_is)
    (case k12 => k_is)
    (case a13 => k_is)
    (case l13 => k_is)
    (case c13 => k_is)
    (case k13 => k_is)
    (case a14 => k_is)
    (case l14 => k_is)
    (case c14 => k_is)
    (case k14 => k_is)
    (case a15 => k_is)
    (case l15 => k_is)
    (case c15 => k_is)
    (case k15 => k_is)
    (case a16 => k_is)
    (case l16 => k_is)
    (case c16 => k_is)
    (case k16 => k_is)
    (case a17 => k_is)
    (case l17 => k_is)
    (case c17 => k_is)
    (case k17 => k_is)
    (case a18 => k_is)
    (case l18 => k_is)
    (case c18 => k_is)
    (case k18 => k_is)
    (case a19 => k_is)
    (case l19 => k_is)
    (case c19 => k_is)
    (case k19 => k_is)
    (case a20 => k_is)
    (case l20 => k_is)
    (case c20 => k_is)
    (case k20 => k_is)
    (case a21 => k_is)
    (case l21 => k_is)
    (case c21 => k_is)
    (case k21 => k_is)
    (case a22 => k_is)
    (case l22 => k_is)
    (case c22 => k_is)
    (case k22 => k_is)
    (case a23 => k_is)
    (case l23 => k_is)
    (case c23 => k_is)
    (case k23 => k_is)
    (case a24 => k_is)
    (case l24 => k_is)
    (case c24 => k_is)
    (case k24 => k_is)
    (case a25 => k_is)
    (case l25 => k_is)
    (case c25 => k_is)
    (case k25 => k_is)
    (case a26 => k_is)
    (case l26 => k_is)
    (case c26 => k_is)
    (case k26 => k_is)
    (case a27 => k_is)
    (case l27 => k_is)
    (case c27 => k_is)
    (case k27 => k_is)
    (case a28 => k_is)
    (case l28 => k_is)
    (case c28 => k_is)
    (case k28 => k_is)
    (case a29 => k_is)
    (case l29 => k_is)
    (case c29 => k_is)
    (case k29 => k_is)
    (case a30 => k_is)
    (case l30 => k_is)
    (case c30 => k_is)
    (case k30 => k_is)
    (case a31 => k_is)
    (case l31 => k_is)
    (case c31 => k_is)
    (case k31 => k_is)
    (case a32 => k_is)
    (case l32 => k_is)
    (case c32 => k_is)
    (case k32 => k_is)
    (case a33 => k_is)
    (case l33 => k_is)
    (case c33 => k_is)
    (case k33 => k_is)
    (case p_LAST_MOMENT => k_is)
    (case p_LETTERS => k_is)
    (case p_MOST_LETTERS => k_is)
    (case z_len => k_is)
    (case z_int => k_is)
    (case z_range => k_is)
    (case z_isinstance => k_is)
    (case z_tuple => k_is)
    (case z_bool => k_is)
    (case z_str => k_is)
    (case z_all => k_is)
    (case z_zip => k_is)
    (case z_enumerate => k_is)
    (case z_set => k_is)
    (case z_dict => k_is)
    (case z_list => k_is)
    (case z_max => k_is)
