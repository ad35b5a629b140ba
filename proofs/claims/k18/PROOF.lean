import PyProof.Rows.All
import Wide.All
import OpenK.AllK
import Wide.FinOn
import Lean
import PyProof.EqAt
import PyProof.EqKinds
import PyProof.TupleCall
import PyProof.ZipIter
import PyProof.TupleIter
import PyProof.WalksMore
import KE.KWords
import PyProof.MinMaxWalk
import PyProof.SeqI3
import PyProof.MaxThree
import PyProof.AttrMissHeap
import PyProof.DictList
import PyProof.DictIter
import KE.KDictOf
import KE.KDictList
import PyProof.Rows.CallKwBuiltin
import PyProof.Rows.Range3
import PyProof.Rows.StrNews2
import PyProof.StrLawsIdx
import PyProof.StrBlockI
import KE.KRevSl
import PyProof.AutoListH
import PyProof.DictWalks
import PyProof.Draws
import PyProof.EnumMake
import PyProof.NeKinds
import PyProof.Rows.SetFrom
import KE.KSortTup
import PyProof.StrBlock2
import PyProof.DictItems
import KE.KPairComp
import PyProof.Rows.SumAny
import PyProof.ListStr
import PyProof.DictValues
import OpenK.KRaise
import PyProof.StationsW
import PyProof.ExcClass2
import OpenK.KOwn
import PyProof.Rows.FStr
import PyProof.NsDelKeeps
import PyProof.RulesAs
import KE.KIsNot
import PyProof.ExcArgsOwn
import PyProof.ExcAttrAll.ValueError
import PyProof.DictUpdate
import PySem.Challenge.RW_twainkeep_k18_what_is_a_deed
set_option Elab.async false
set_option linter.all false
set_option maxRecDepth 100000
namespace L2
open PySem PySem.Spec PyProof.Rows

/-- a key: an int or a str -/
abbrev Key := Sum Int Str
def keyIs : Key → Value → Bool
  | .inl k, v => Value.isInt k v
  | .inr x, v => Value.isStrOf x v
def keyH (w : World) : Key → Int
  | .inl k => hashInt k
  | .inr x => hashStr w x
theorem keyIs_shape : ∀ {k : Key} {v : Value}, keyIs k v = true → (∃ i t, k = Sum.inl i ∧ v = Value.int i t) ∨ (∃ x t, k = Sum.inr x ∧ v = Value.str x t)
  | .inl i, v, h => by
    obtain ⟨t, e⟩ := Value.isInt_shape (k := i) (v := v) h
    exact .inl ⟨i, t, rfl, e⟩
  | .inr x, v, h => by
    obtain ⟨t, e⟩ := Value.isStrOf_shape (x := x) (v := v) h
    exact .inr ⟨x, t, rfl, e⟩
theorem keyIs_int (i : Int) (t : Tok) : keyIs (.inl i) (.int i t) = true := by simp [keyIs, Value.isInt]
theorem keyIs_str (x : Str) (t : Tok) : keyIs (.inr x) (.str x t) = true := by simp [keyIs, Value.isStrOf]
theorem key_ll (a b : Int) : decide ((Sum.inl a : Key) = Sum.inl b) = (a == b) := by
  by_cases e : a = b
  · subst e; simp
  · have h : ¬ (Sum.inl a : Key) = Sum.inl b := fun q => e (Sum.inl.inj q)
    rw [decide_eq_false h]
    exact (beq_eq_false_iff_ne.mpr e).symm
theorem key_rr (a b : Str) : decide ((Sum.inr a : Key) = Sum.inr b) = decide (a = b) := by
  by_cases e : a = b
  · subst e; simp
  · have h : ¬ (Sum.inr a : Key) = Sum.inr b := fun q => e (Sum.inr.inj q)
    rw [decide_eq_false h, decide_eq_false e]
theorem key_lr (a : Int) (b : Str) : decide ((Sum.inl a : Key) = Sum.inr b) = false := decide_eq_false (fun q => nomatch q)
theorem key_rl (a : Str) (b : Int) : decide ((Sum.inr a : Key) = Sum.inl b) = false := decide_eq_false (fun q => nomatch q)

def mixKind (prog : Program) (w : World) : PySem.KeyKind prog w Key where
  is := keyIs
  hash := keyH w
  inj := fun v a b ha hb => by
    rcases keyIs_shape ha with ⟨i, t, rfl, rfl⟩ | ⟨x, t, rfl, rfl⟩
    · rcases keyIs_shape hb with ⟨j, u, rfl, e⟩ | ⟨y, u, rfl, e⟩
      · injection e with e1 _; rw [e1]
      · exact nomatch e
    · rcases keyIs_shape hb with ⟨j, u, rfl, e⟩ | ⟨y, u, rfl, e⟩
      · exact nomatch e
      · injection e with e1 _; rw [e1]
  byValue := fun k v h => by
    rcases keyIs_shape h with ⟨i, t, rfl, rfl⟩ | ⟨x, t, rfl, rfl⟩ <;> rfl
  pyHash := fun hv h => by
    rcases keyIs_shape hv with ⟨i, t, rfl, rfl⟩ | ⟨x, t, rfl, rfl⟩
    · exact wpAny_pyHash_int h
    · exact wpAny_pyHash_str h
  eqBool := fun hu hv h => by
    rcases keyIs_shape hu with ⟨i, t, rfl, rfl⟩ | ⟨x, t, rfl, rfl⟩
    · rcases keyIs_shape hv with ⟨j, u, rfl, rfl⟩ | ⟨y, u, rfl, rfl⟩
      · rw [key_ll] at h; exact wpAny_eqBool_int h
      · rw [key_lr] at h; exact SeqAt.EqAt.int_str i t y u _ _ _ _ h
    · rcases keyIs_shape hv with ⟨j, u, rfl, rfl⟩ | ⟨y, u, rfl, rfl⟩
      · rw [key_rl] at h; exact SeqAt.EqAt.str_int x t j u _ _ _ _ h
      · rw [key_rr] at h; exact wpAny_eqBool_str h
  «strs» := fun k x t v h => by
    rcases keyIs_shape h with ⟨i, u, rfl, e⟩ | ⟨y, u, rfl, e⟩
    · exact nomatch e
    · injection e with e1 _
      subst e1
      cases v <;> rfl

theorem mixKind_int (prog : Program) (w : World) (i : Int) (t : Tok) : (mixKind prog w).is (.inl i) (.int i t) = true := keyIs_int i t
theorem mixKind_str (prog : Program) (w : World) (x : Str) (t : Tok) : (mixKind prog w).is (.inr x) (.str x t) = true := keyIs_str x t
end L2

namespace L2
open PySem PySem.Spec PyProof.Rows

/-- a value, without the heap -/
inductive V where
  | non | bl (b : Bool) | int (i : Int) | str (x : Str) | byt (b : Array UInt8) | flt (b : UInt64) | ref (a : Addr) | ty (n : String)
  deriving DecidableEq

def RelV : V → Value → Prop
  | .non, u => u = Value.none
  | .bl b, u => u = Value.bool b
  | .int i, u => ∃ t, u = Value.int i t
  | .str x, u => ∃ t, u = Value.str x t
  | .byt b, u => ∃ t, u = Value.bytes b t
  | .flt b, u => ∃ t, u = Value.float b t
  | .ref a, u => u = Value.ref a
  | .ty n, u => u = Value.type n

abbrev Vals : List V → List Value → Prop := Paired RelV
theorem Vals.length {xs : List V} {us : List Value} (r : Vals xs us) : xs.length = us.length := Paired.length r
theorem Vals.get : ∀ {xs : List V} {us : List Value} {i : Nat} {x : V}, Vals xs us → xs[i]? = some x → ∃ u, us[i]? = some u ∧ RelV x u
  | _, _, _, _, .nil, e => by simp at e
  | _, _, 0, _, .cons r _, e => by simp at e; subst e; exact ⟨_, rfl, r⟩
  | _, _, i + 1, x, .cons _ t, e => by
    obtain ⟨u, h1, h2⟩ := Vals.get (i := i) (x := x) t (by simpa using e)
    exact ⟨u, by simpa using h1, h2⟩
theorem Vals.set {x : V} {u : Value} (r : RelV x u) : ∀ {xs : List V} {us : List Value} (i : Nat), Vals xs us → Vals (xs.set i x) (us.set i u)
  | _, _, _, .nil => .nil
  | _, _, 0, .cons _ t => .cons r t
  | _, _, i + 1, .cons q t => .cons q (Vals.set r i t)
theorem Vals.append : ∀ {xs ys : List V} {us ws : List Value}, Vals xs us → Vals ys ws → Vals (xs ++ ys) (us ++ ws)
  | _, _, _, _, .nil, s => s
  | _, _, _, _, .cons r t, s => .cons r (Vals.append t s)
theorem Vals.take : ∀ {xs : List V} {us : List Value} (n : Nat), Vals xs us → Vals (xs.take n) (us.take n)
  | _, _, 0, _ => .nil
  | _, _, _ + 1, .nil => .nil
  | _, _, n + 1, .cons r t => .cons r (Vals.take n t)
theorem Vals.drop : ∀ {xs : List V} {us : List Value} (n : Nat), Vals xs us → Vals (xs.drop n) (us.drop n)
  | _, _, 0, r => r
  | _, _, _ + 1, .nil => .nil
  | _, _, n + 1, .cons _ t => Vals.drop n t
def RelO : Option V → Option Value → Prop
  | some v, some u => RelV v u
  | none, none => True
  | _, _ => False
def KV {κ : Type} : List (κ × V) → List (κ × Value) → Prop := Paired fun (p : κ × V) (q : κ × Value) => p.1 = q.1 ∧ RelV p.2 q.2

/-- a key of a dict (00_mix): an int or a text -/
def kV : Key → V
  | .inl i => .int i
  | .inr x => .str x

/-- what stands at a tracked address -/
inductive HO where
  /-- a list -/
  | lst (xs : List V)
  /-- a tuple (never changes) -/
  | tup (xs : List V)
  /-- a dict whose keys are ints and texts; one whose keys are tuples of ints and texts (the empty one is both) -/
  | dK (kvs : List (Key × V)) | dT (kvs : List (List Key × V))
  /-- a set of ints: its members, its size -/
  | set (S : Int → Bool) (n : Nat)
  /-- an instance of the class at C, its dict at dx, its attributes -/
  | ins (C dx : Addr) (fs : List (Str × V))
  /-- the dict of the instance at x -/
  | own (x : Addr)
  /-- the dict of an exception -/
  | xd (fs : List (Str × V))
  /-- a bound method, f of x -/
  | met (f x : Addr)
  /-- a range object lo, lo + 1, .. below hi -/
  | rng (lo hi : Int)
  /-- a thing that is known to the object (the script; a dict while a loop walks it): read, never written while it is so -/
  | frz (o : Obj) (u : HO)
  /-- a code object's table -/
  | tbl (ps : Array Value)
  /-- any other thing, by what is true of its one object (a def of one's own: SetO a S n := HO.ext fun h => ..) -/
  | ext (φ : Heap → Prop)

abbrev Hp := Addr → Option HO
def upd (H : Hp) (a : Addr) (o : HO) : Hp := fun b => if b = a then some o else H b
theorem upd_same {H : Hp} {a : Addr} {o : HO} : upd H a o a = some o := by unfold upd; rw [if_pos rfl]
theorem upd_ne {H : Hp} {a b : Addr} {o : HO} (h : b ≠ a) : upd H a o b = H b := by unfold upd; rw [if_neg h]
theorem upd_upd {H : Hp} {a : Addr} {o u : HO} : upd (upd H a o) a u = upd H a u := by
  funext b; unfold upd; split <;> rfl
/-- two objects of different content stand apart -/
theorem ne_of {H : Hp} {a b : Addr} {o u : HO} (h : H a = some o) (h' : H b = some u) (d : o ≠ u) : a ≠ b := by
  intro e; subst e; rw [h] at h'; exact d (Option.some.inj h')
theorem ne_of_none {H : Hp} {a b : Addr} {o : HO} (h : H a = some o) (h' : H b = none) : a ≠ b := by
  intro e; subst e; rw [h] at h'; cases h'

section
variable (P : Program) (w : World)
def ObjOk (H : Hp) (h : Heap) (a : Addr) : HO → Prop
  | .lst xs => xs.length ≤ sizeLine ∧ ∃ (its : List Value) (n : Nat), Vals xs its ∧ h.get? a = some { cls := .type "list", data := .seq its.toArray n }
  | .tup xs => xs.length ≤ sizeLine ∧ ∃ its : List Value, Vals xs its ∧ IsTup h a its.toArray
  | .dK kvs => kvs.length ≤ sizeLine ∧ (a == sysModules) = false ∧ ∃ vs, KV kvs vs ∧ h.DictOf (mixKind P w) a vs
  | .dT kvs => kvs.length ≤ sizeLine ∧ (a == sysModules) = false ∧ ∃ xs : List (List Key × Addr × Value),
      Paired (fun (p : List Key × V) (q : List Key × Addr × Value) => p.1 = q.1 ∧ H q.2.1 = some (.tup (p.1.map kV)) ∧ RelV p.2 q.2.2) kvs xs ∧
      ∃ o es ep, h.get? a = some o ∧ o.ExactDict ∧ o.data = .dict es ep ∧ es.toList = xs.map (entryOfKey (tupleKind (mixKind P w))) ∧ (xs.map (·.1)).Nodup
  | .set S n => h.SetOf (intKind P w) a S n
  | .ins C dx fs => H dx = some (.own a) ∧ fs.length ≤ 1000 ∧ dx ≠ a ∧ h.get? a = some (PySem.W.instObj C dx) ∧
      ∃ mA, h.Ns1 dx mA ∧ (∀ f, RelO (fs.lookup f) (mA f)) ∧ PySem.Within mA (fs.map (·.1))
  | .own _ => ∃ o, h.get? a = some o
  | .xd fs => ∃ mA, h.Ns1 a mA ∧ ∀ f, RelO (fs.lookup f) (mA f)
  | .rng lo hi => ∃ t u v, h.get? a = some { cls := .type "range", data := .fields #[.int lo t, .int hi u, .int 1 v] }
  | .frz o u => h.get? a = some o ∧ ObjOk H h a u
  | .tbl ps => h.get? a = some { cls := .none, data := .fields ps }
  | .met f x => h.get? a = some (PySem.W.methodObj (.ref f) (.ref x))
  | .ext φ => φ h ∧ (∃ o, h.get? a = some o) ∧ ∀ h1 h2 : Heap, φ h1 → (∀ o, h1.get? a = some o → h2.get? a = some o) → φ h2
/-- the abstract heap is held -/
def HOk (H : Hp) (h : Heap) : Prop := ∀ a o, H a = some o → ObjOk P w H h a o
end

section
variable {P : Program} {w : World} {H H' : Hp} {h h' : Heap} {a : Addr} {o : HO}
theorem ObjOk.lt (x : ObjOk P w H h a o) : a < h.objs.size := by
  cases o with
  | lst xs => obtain ⟨_, _, _, _, e⟩ := x; exact Heap.lt_size e
  | tup xs => obtain ⟨_, _, _, p⟩ := x; exact p.lt
  | dK kvs => obtain ⟨_, _, _, _, o, _, _, e, _⟩ := x; exact Heap.lt_size e
  | dT kvs => obtain ⟨_, _, _, _, o, _, _, e, _⟩ := x; exact Heap.lt_size e
  | set S n => obtain ⟨o, _, _, _, e, _⟩ := x; exact Heap.lt_size e
  | ins C dx fs => obtain ⟨_, _, _, e, _⟩ := x; exact Heap.lt_size e
  | own y => obtain ⟨_, e⟩ := x; exact Heap.lt_size e
  | xd fs => obtain ⟨_, ⟨_, _, _, e, _⟩, _⟩ := x; exact Heap.lt_size e
  | rng lo hi => obtain ⟨_, _, _, e⟩ := x; exact Heap.lt_size e
  | frz ob u => obtain ⟨e, _⟩ := x; exact Heap.lt_size e
  | tbl ps => exact Heap.lt_size (show h.get? a = some _ from x)
  | met f y => exact Heap.lt_size (show h.get? a = some _ from x)
  | ext φ => obtain ⟨_, ⟨_, e⟩, _⟩ := x; exact Heap.lt_size e
theorem Paired.mapP {α β : Type} {F G : α → β → Prop} : ∀ {l₁ : List α} {l₂ : List β}, Paired F l₁ l₂ → (∀ a b, F a b → G a b) → Paired G l₁ l₂
  | _, _, .nil, _ => .nil
  | _, _, .cons r t, f => .cons (f _ _ r) (Paired.mapP t f)
/-- what an object's description leans on: its own object, its own dict, the tuples -/
theorem ObjOk.stay (x : ObjOk P w H h a o) (k : ∀ b u, (b = a ∨ H b = some (.own a)) → h.get? b = some u → h'.get? b = some u)
    (ho : ∀ b, H b = some (.own a) → H' b = some (.own a)) (ht : ∀ b xs, H b = some (.tup xs) → H' b = some (.tup xs)) : ObjOk P w H' h' a o := by
  induction o with
  | lst xs => obtain ⟨z, its, n, r, e⟩ := x; exact ⟨z, its, n, r, k _ _ (.inl rfl) e⟩
  | tup xs => obtain ⟨z, its, r, ob, e, c⟩ := x; exact ⟨z, its, r, ob, k _ _ (.inl rfl) e, c⟩
  | dK kvs => obtain ⟨z, y, vs, r, ob, es, ep, e, c⟩ := x; exact ⟨z, y, vs, r, ob, es, ep, k _ _ (.inl rfl) e, c⟩
  | dT kvs =>
    obtain ⟨z, y, xs, r, ob, es, ep, e, c⟩ := x
    exact ⟨z, y, xs, Paired.mapP r fun p q z => ⟨z.1, ht _ _ z.2.1, z.2.2⟩, ob, es, ep, k _ _ (.inl rfl) e, c⟩
  | set S n => obtain ⟨ob, es, ep, t, e, c⟩ := x; exact ⟨ob, es, ep, t, k _ _ (.inl rfl) e, c⟩
  | ins C dx fs =>
    obtain ⟨d, z, ne, e, mA, ⟨od, es, ep, e2, c⟩, r⟩ := x
    exact ⟨ho _ d, z, ne, k _ _ (.inl rfl) e, mA, ⟨od, es, ep, k _ _ (.inr d) e2, c⟩, r⟩
  | own y => obtain ⟨ob, e⟩ := x; exact ⟨ob, k _ _ (.inl rfl) e⟩
  | xd fs => obtain ⟨mA, ⟨od, es, ep, e, c⟩, r⟩ := x; exact ⟨mA, ⟨od, es, ep, k _ _ (.inl rfl) e, c⟩, r⟩
  | rng lo hi => obtain ⟨t, u, v, e⟩ := x; exact ⟨t, u, v, k _ _ (.inl rfl) e⟩
  | frz ob u ih => obtain ⟨e, q⟩ := x; exact ⟨k _ _ (.inl rfl) e, ih q⟩
  | tbl ps =>
    have e : h.get? a = some { cls := .none, data := .fields ps } := x
    show h'.get? a = some { cls := .none, data := .fields ps }
    exact k a _ (.inl rfl) e
  | met f y =>
    have e : h.get? a = some (PySem.W.methodObj (.ref f) (.ref y)) := x
    show h'.get? a = some (PySem.W.methodObj (.ref f) (.ref y))
    exact k a _ (.inl rfl) e
  | ext φ => obtain ⟨p, ⟨o, e⟩, st⟩ := x; exact ⟨st _ _ p fun o q => k _ _ (.inl rfl) q, ⟨o, k _ _ (.inl rfl) e⟩, st⟩
theorem HOk.lt (x : HOk P w H h) (e : H a = some o) : a < h.objs.size := (x a o e).lt
theorem HOk.fresh (x : HOk P w H h) (e : h.objs.size ≤ a) : H a = none := by
  cases q : H a with
  | none => rfl
  | some u => exact absurd (Nat.lt_of_lt_of_le (x.lt q) e) (Nat.lt_irrefl _)
/-- every object of the heap is kept -/
theorem HOk.kept (x : HOk P w H h) (k : ∀ b u, h.get? b = some u → h'.get? b = some u) : HOk P w H h' := fun a o e =>
  (x a o e).stay (fun b u _ q => k b u q) (fun _ q => q) fun _ _ q => q
/-- a new object is laid and tracked -/
theorem HOk.laid (x : HOk P w H h) (k : ∀ b u, h.get? b = some u → h'.get? b = some u) (hp : h.objs.size ≤ a) (new : ObjOk P w (upd H a o) h' a o) : HOk P w (upd H a o) h' := fun b u e => by
  have hn := x.fresh hp
  by_cases hb : b = a
  · subst hb; rw [upd_same] at e; cases e; exact new
  · rw [upd_ne hb] at e
    exact (x b u e).stay (fun c v _ q => k c v q) (fun c q => by rw [upd_ne (ne_of_none q hn)]; exact q) fun c xs q => by rw [upd_ne (ne_of_none q hn)]; exact q
end

/-- what may be read as u: it is u, or a known u -/
def Rd (H : Hp) (a : Addr) (u : HO) : Prop := H a = some u ∨ ∃ o, H a = some (.frz o u)
theorem Rd.of {H : Hp} {a : Addr} {u : HO} (h : H a = some u) : Rd H a u := .inl h
theorem Rd.ok {P : Program} {w : World} {H : Hp} {h : Heap} {a : Addr} {u : HO} (r : Rd H a u) (x : HOk P w H h) : ObjOk P w H h a u := by
  rcases r with r | ⟨o, r⟩
  · exact x a u r
  · obtain ⟨_, q⟩ := x a _ r
    exact q
/-- what may be written -/
def Mut : Option HO → Prop
  | some (.lst _) => True
  | some (.dK _) => True
  | some (.dT _) => True
  | some (.set _ _) => True
  | some (.ins _ _ _) => True
  | some (.ext _) => True
  | _ => False
section
variable {P : Program} {w : World} {H : Hp} {h h' : Heap} {x e : Addr} {o' : HO}
/-- the object at e is changed: x itself, or the dict of the instance x -/
theorem HOk.write (ok : HOk P w H h) (mu : Mut (H x)) (he : e = x ∨ H e = some (.own x)) (k : ∀ b u, b ≠ e → h.get? b = some u → h'.get? b = some u) (heo : ∃ u, h'.get? e = some u)
    (new : ObjOk P w (upd H x o') h' x o') : HOk P w (upd H x o') h' := fun b u q => by
  have nown : ∀ c y, H c = some (.own y) → c ≠ x := fun c y r z => by subst z; rw [r] at mu; exact mu
  have ntup : ∀ c xs, H c = some (.tup xs) → c ≠ x := fun c xs r z => by subst z; rw [r] at mu; exact mu
  by_cases hb : b = x
  · subst hb; rw [upd_same] at q; cases q; exact new
  · rw [upd_ne hb] at q
    by_cases hbe : b = e
    · have q' : H b = some (.own x) := by
        rcases he with z | z
        · exact absurd (hbe.trans z) hb
        · rw [hbe]; exact z
      rw [q] at q'; cases q'
      obtain ⟨v, hv⟩ := heo
      exact ⟨v, by rw [hbe]; exact hv⟩
    · refine (ok b u q).stay (fun c v hc r => k c v ?_ r) (fun c r => by rw [upd_ne (nown c b r)]; exact r) fun c xs r => by rw [upd_ne (ntup c xs r)]; exact r
      rcases hc with rfl | hc
      · exact hbe
      · rintro rfl
        rcases he with z | z
        · exact nown c b hc z
        · rw [hc] at z; cases z; exact hb rfl
end

structure Un (fs ex : List Addr) (H H' : Hp) (h h' : Heap) : Prop where
  keep : ∀ b o, h.get? b = some o → H b = none → b ∉ fs → b ∉ ex → h'.get? b = some o
  slot : ∀ b o, h.get? b = some o → H b = none → b ∈ fs → b ∉ ex → ∃ sl, h'.get? b = some { o with slots := sl }
  free : ∀ b o, h.get? b = some o → H b = none → b ∉ ex → H' b = none
  there : ∀ b o, h.get? b = some o → b ∉ ex → ∃ o', h'.get? b = some o'
  tups : ∀ b xs, H b = some (.tup xs) → H' b = some (.tup xs)
  frzs : ∀ b o u, H b = some (.frz o u) → H' b = some (.frz o u)
  tbls : ∀ b ps, H b = some (.tbl ps) → ∃ more, H' b = some (.tbl (ps ++ more))
section
variable {fs fs' ex ex' : List Addr} {H H1 H2 : Hp} {h h1 h2 h' : Heap} {a x e : Addr} {o : HO}
theorem Un.any (u : Un fs ex H H1 h h1) {b : Addr} {ob : Obj} (q : h.get? b = some ob) (n : H b = none) (hx : b ∉ ex) : ∃ sl, h1.get? b = some { ob with slots := sl } := by
  by_cases hb : b ∈ fs
  · exact u.slot b ob q n hb hx
  · exact ⟨ob.slots, u.keep b ob q n hb hx⟩
theorem Un.trans (a : Un fs ex H H1 h h1) (b : Un fs ex H1 H2 h1 h2) : Un fs ex H H2 h h2 where
  keep := fun c ob q n hc hx => b.keep c ob (a.keep c ob q n hc hx) (a.free c ob q n hx) hc hx
  slot := fun c ob q n hc hx => by
    obtain ⟨sl, e1⟩ := a.slot c ob q n hc hx
    obtain ⟨sl', e2⟩ := b.slot c _ e1 (a.free c ob q n hx) hc hx
    exact ⟨sl', e2⟩
  free := fun c ob q n hx => by
    obtain ⟨o', e1⟩ := a.there c ob q hx
    exact b.free c o' e1 (a.free c ob q n hx) hx
  there := fun c ob q hx => by
    obtain ⟨o', e1⟩ := a.there c ob q hx
    exact b.there c o' e1 hx
  tups := fun c xs q => b.tups c xs (a.tups c xs q)
  frzs := fun c ob xs q => b.frzs c ob xs (a.frzs c ob xs q)
  tbls := fun c ps q => by
    obtain ⟨m1, e1⟩ := a.tbls c ps q
    obtain ⟨m2, e2⟩ := b.tbls c _ e1
    exact ⟨m1 ++ m2, by rw [e2, Array.append_assoc]⟩
theorem Un.kept (k : ∀ b u, h.get? b = some u → h'.get? b = some u) : Un fs ex H H h h' :=
  ⟨fun b ob q _ _ _ => k b ob q, fun b ob q _ _ _ => ⟨ob.slots, k b ob q⟩, fun _ _ _ n _ => n, fun b ob q _ => ⟨ob, k b ob q⟩, fun _ _ q => q, fun _ _ _ q => q, fun _ ps q => ⟨#[], by rw [q]; simp⟩⟩
theorem Un.refl : Un fs ex H H h h := Un.kept fun _ _ q => q
theorem Un.laid (k : ∀ b u, h.get? b = some u → h'.get? b = some u) (hp : h.objs.size ≤ a) (hn : H a = none) : Un fs ex H (upd H a o) h h' where
  keep := fun b u q _ _ _ => k b u q
  slot := fun b u q _ _ _ => ⟨u.slots, k b u q⟩
  free := fun b u q n _ => by rw [upd_ne (Nat.ne_of_lt (Nat.lt_of_lt_of_le (Heap.lt_size q) hp))]; exact n
  there := fun b u q _ => ⟨u, k b u q⟩
  tups := fun b xs q => by rw [upd_ne (ne_of_none q hn)]; exact q
  frzs := fun b u xs q => by rw [upd_ne (ne_of_none q hn)]; exact q
  tbls := fun b ps q => ⟨#[], by rw [upd_ne (ne_of_none q hn), q]; simp⟩
theorem Un.write (mu : Mut (H x)) (he : e = x ∨ H e = some (.own x)) (k : ∀ b u, b ≠ e → h.get? b = some u → h'.get? b = some u) (heo : ∃ u, h'.get? e = some u) : Un fs ex H (upd H x o) h h' := by
  have hx : ∀ b, H b = none → b ≠ x := fun b n z => by subst z; rw [n] at mu; exact mu
  have hb : ∀ b, H b = none → b ≠ e := fun b n z => by
    subst z
    rcases he with r | r
    · exact hx b n r
    · rw [n] at r; cases r
  have hm : ∀ b u, H b = some u → ¬ Mut (some u) → b ≠ x := fun b u q nm z => by subst z; rw [q] at mu; exact nm mu
  refine ⟨fun b u q n _ _ => k b u (hb b n) q, fun b u q n _ _ => ⟨u.slots, k b u (hb b n) q⟩, fun b u q n _ => by rw [upd_ne (hx b n)]; exact n, fun b u q _ => ?_,
    fun b xs q => by rw [upd_ne (hm b _ q fun z => z)]; exact q, fun b u xs q => by rw [upd_ne (hm b _ q fun z => z)]; exact q, fun b ps q => ⟨#[], by rw [upd_ne (hm b _ q fun z => z), q]; simp⟩⟩
  by_cases hbe : b = e
  · subst hbe; exact heo
  · exact ⟨u, k b u hbe q⟩
theorem Un.mono (u : Un fs ex H H1 h h1) (hs : ∀ b ∈ fs, b ∈ fs') (hx : ∀ b ∈ ex, b ∈ ex') : Un fs' ex' H H1 h h1 :=
  ⟨fun b ob q n hb he => u.keep b ob q n (fun z => hb (hs b z)) fun z => he (hx b z), fun _ _ q n _ he => u.any q n fun z => he (hx _ z), fun b ob q n he => u.free b ob q n fun z => he (hx b z), fun b ob q he => u.there b ob q fun z => he (hx b z), u.tups, u.frzs, u.tbls⟩
end

def trk (h : Heap) (H : Hp) : List Addr := (List.range h.objs.size).filter fun a => (H a).isSome
def hidT (h : Heap) (H : Hp) : Heap := PySem.W.hideAll h (trk h H)
theorem hidT_size (h : Heap) (H : Hp) : (hidT h H).objs.size = h.objs.size := PySem.W.hideAll_size _ _
theorem hidT_get {h : Heap} {H : Hp} {b : Addr} {o : Obj} (e : h.get? b = some o) (n : H b = none) : (hidT h H).get? b = some o :=
  PySem.W.hideAll_get _ e fun hm => by
    have q : (H b).isSome = true := (List.mem_filter.mp hm).2
    rw [n] at q; simp at q
theorem of_hidT {h : Heap} {H : Hp} {b : Addr} {o : Obj} (e : (hidT h H).get? b = some o) : h.get? b = some o ∧ H b = none := by
  have e' : h.get? b = some o := PySem.W.of_hideAll (trk h H) e
  refine ⟨e', ?_⟩
  cases q : H b with
  | none => rfl
  | some x =>
    have hm : b ∈ trk h H := List.mem_filter.mpr ⟨List.mem_range.mpr (Heap.lt_size e'), by simp [q]⟩
    have z : (hidT h H).get? b = none := PySem.W.hideAll_none (trk h H) hm
    rw [z] at e; cases e

def allNews (g h : Heap) (L : Addr) : List (Addr × Obj) := (List.range h.objs.size).filterMap fun a => if a = L ∨ (g.get? a).isSome = true then none else (h.get? a).map fun o => (a, o)
def rest (g h : Heap) (L d : Addr) : List (Addr × Obj) := (allNews g h L).filter fun p => decide (p.1 ≠ d)
end L2

namespace L2
open PySem PySem.Spec PyProof.Rows

/-- the module's facts, over the base: the heap at the law's entry without what is tracked there -/
structure Mod (K : PySem.W.Frag) (mg : Str → Option Value) (base : Heap) : Prop where
  kin : K.In base
  glob : base.Ns mainGlobals mg
  blt : ∃ mb, base.Ns builtinsNs mb ∧ ∀ x : Str, x ≠ "__name__" → mb x = bootBuiltins x
  nolimit : base.NoLimit

/-- the context: a def's body (or a comprehension's block) running. base: fixed through the whole law; s₀, H₀: the entry; outer: the frames whose slots others may change (a def's callers); stack: all frames that run;
   ex: iterators that were made ahead of the entry and are walked here (a comprehension's); fn: the names whose cells were made at the entry (a def: all; a comprehension's block: its own); calm: not within an except suite; pn: pins that every state bears; xe: what is wanted of an exception that leaves the code -/
structure Cx where
  prog : Program
  w : World
  K : PySem.W.Frag
  mg : Str → Option Value
  base : Heap
  A : Around
  N : List Str
  s₀ : Shared
  H₀ : Hp
  env : Env
  outer : List Env
  stack : List Env
  ex : List Addr
  fn : Str → Bool
  calm : Bool
  pn : List (Addr × Obj)
  xe : Value → Shared → Prop
/-- the callers' frames -/
def frs (l : List Env) : List Addr := l.filterMap (·.frame)
abbrev Cx.fs (X : Cx) : List Addr := frs X.outer

def Vis (sc : Scope) (x : Str) : Prop := sc.names.lookup x = some .local ∨ sc.names.lookup x = some .cell ∨ sc.names.lookup x = some .free
def Loc (sc : Scope) (x : Str) : Prop := sc.names.lookup x = some .local ∨ sc.names.lookup x = some .cell
def Look (env : Env) (h : Heap) (m : Str → Option Value) (x : Str) (u : Value) : Prop :=
  (env.kindOf x = some .local ∧ m x = some u) ∨ ((env.kindOf x = some .cell ∨ env.kindOf x = some .free) ∧ ∃ c, env.cells.lookup x = some c ∧ h.IsCell c (some u))

structure Cx.Ok (X : Cx) : Prop where
  mod : Mod X.K X.mg X.base
  kind : X.env.scope.kind = .function
  glob : X.env.globals = mainGlobals
  blt : X.env.builtins = builtinsNs
  above : X.s₀.heap.objs.size ≤ X.env.locals
  inj : ∀ x y c, X.env.cells.lookup x = some c → X.env.cells.lookup y = some c → x = y
  has : ∀ x, (X.env.kindOf x = some .cell ∨ X.env.kindOf x = some .free) → ∃ c, X.env.cells.lookup x = some c
  cab : ∀ x c, X.fn x = true → X.env.cells.lookup x = some c → X.s₀.heap.objs.size ≤ c
  hd : X.calm = true → X.A.handled = none
  frames : X.A.frames = some X.stack
  stk : X.stack = X.outer ∨ (X.stack = X.env :: X.outer ∧ X.env.frame = some X.env.locals)
  exf : ∀ b ∈ X.ex, b ≠ X.env.locals ∧ ∀ x c, X.env.cells.lookup x = some c → c ≠ b
  bs : ∀ b o, X.base.get? b = some o → X.s₀.heap.get? b = some o ∧ X.H₀ b = none
  bsz : X.base.objs.size ≤ X.s₀.heap.objs.size
  noex : ∀ b o, X.base.get? b = some o → b ∉ X.ex
  exfs : ∀ b ∈ X.ex, b ∉ X.fs
  funs : X.s₀.heap.FunFrames X.base X.outer
  frf : ∀ b ∈ X.fs, X.H₀ b = none

structure Inv (X : Cx) (pins : List (Addr × Obj)) (σ : List (Option V)) (H : Hp) (s : Shared) : Prop where
  ok : X.Ok
  os : s.os = X.s₀.os
  bare : AllBare s.gens
  base : Un X.fs X.ex X.H₀ H X.s₀.heap s.heap
  loc : ∃ m, s.heap.Ns X.env.locals m ∧ ∀ (i : Nat) (x : Str) (v : V), X.N[i]? = some x → σ[i]? = some (some v) → Vis X.env.scope x → ∃ u, RelV v u ∧ Look X.env s.heap m x u
  cell : ∀ x c, X.env.cells.lookup x = some c → ∃ v, s.heap.IsCell c v
  free : H X.env.locals = none
  freeC : ∀ x c, X.env.cells.lookup x = some c → H c = none
  pin : ∀ p ∈ X.pn ++ pins, s.heap.get? p.1 = some p.2 ∧ H p.1 = none ∧ p.1 ≠ X.env.locals ∧ p.1 ∉ X.fs ∧ ∀ v, p.2.data ≠ .cell v
  hok : HOk X.prog X.w H s.heap
  len : σ.length = X.N.length

section
variable {X : Cx} {pins : List (Addr × Obj)} {σ : List (Option V)} {H H' : Hp} {s : Shared} {h' : Heap}

theorem Cx.Ok.nofr (ok : X.Ok) {b : Addr} {o : Obj} (e : X.base.get? b = some o) : b ∉ X.fs := fun hb => by
  have := (ok.funs.mem hb).1
  rw [e] at this; cases this
theorem Inv.bs (I : Inv X pins σ H s) : ∀ b o, X.base.get? b = some o → s.heap.get? b = some o ∧ H b = none := fun b o e =>
  ⟨I.base.keep b o (I.ok.bs b o e).1 (I.ok.bs b o e).2 (I.ok.nofr e) (I.ok.noex b o e), I.base.free b o (I.ok.bs b o e).1 (I.ok.bs b o e).2 (I.ok.noex b o e)⟩
theorem Inv.bk (I : Inv X pins σ H s) : ∀ b o, X.base.get? b = some o → s.heap.get? b = some o := fun b o e => (I.bs b o e).1
theorem Inv.mod (I : Inv X pins σ H s) : Mod X.K X.mg X.base := I.ok.mod
theorem Inv.kIn (I : Inv X pins σ H s) : X.K.In s.heap := I.ok.mod.kin.keeps I.bk
theorem Inv.nolimit (I : Inv X pins σ H s) : s.heap.NoLimit := I.ok.mod.nolimit.keeps I.bk
/-- the frame over the base: for OpenK's rules (K.In X.base is I.mod.kin) -/
theorem Inv.fr (I : Inv X pins σ H s) : ∃ m, Fr X.base X.env.locals s.heap m :=
  let ⟨m, hn, _⟩ := I.loc
  ⟨m, hn, I.bk, Nat.le_trans I.ok.bsz I.ok.above⟩
theorem Inv.lt (I : Inv X pins σ H s) : X.env.locals < s.heap.objs.size := let ⟨_, hn, _⟩ := I.loc; hn.lt
theorem Inv.sz (I : Inv X pins σ H s) : X.s₀.heap.objs.size ≤ s.heap.objs.size := Nat.le_trans I.ok.above (Nat.le_of_lt I.lt)
theorem Inv.nofs (I : Inv X pins σ H s) {a : Addr} (h : s.heap.objs.size ≤ a) : a ∉ X.fs := fun hb => by
  obtain ⟨_, o, ho, _⟩ := I.ok.funs.mem hb
  exact absurd (Nat.lt_of_lt_of_le (Heap.lt_size ho) (Nat.le_trans I.sz h)) (Nat.lt_irrefl _)
theorem Inv.cne (I : Inv X pins σ H s) : ∀ x c, X.env.cells.lookup x = some c → c ≠ X.env.locals := fun x c e z => by
  obtain ⟨v, o, ho, hd⟩ := I.cell x c e
  obtain ⟨m, ⟨o', es, ep, ho', hd', _⟩, _⟩ := I.loc
  rw [z, ho'] at ho; cases ho; rw [hd'] at hd; cases hd
theorem Inv.funs (I : Inv X pins σ H s) : s.heap.FunFrames X.base X.outer := by
  have all : ∀ (l : List Env), (∀ b ∈ frs l, b ∈ X.fs) → X.s₀.heap.FunFrames X.base l → s.heap.FunFrames X.base l := by
    intro l
    induction l with
    | nil => intro _ _; trivial
    | cons env r ih =>
      intro hs hl
      obtain ⟨hk, ⟨L, o, hf, hn, ho, hd⟩, hr⟩ := hl
      have hL : L ∈ X.fs := hs L (by unfold frs; rw [List.filterMap_cons, hf]; exact List.mem_cons_self)
      obtain ⟨sl, e⟩ := I.base.slot L o ho (I.ok.frf L hL) hL fun z => I.ok.exfs L z hL
      exact ⟨hk, ⟨L, _, hf, hn, e, hd⟩, ih (fun b hb => hs b (by unfold frs; rw [List.filterMap_cons, hf]; exact List.mem_cons_of_mem _ hb)) hr⟩
  exact all X.outer (fun _ hb => hb) I.ok.funs

/-- the frames that run, for a call -/
theorem Inv.stack (I : Inv X pins σ H s) : s.heap.FunFrames X.base X.stack := by
  rcases I.ok.stk with e | ⟨e, hf⟩
  · rw [e]; exact I.funs
  · rw [e]
    obtain ⟨m, hn, _⟩ := I.loc
    refine .cons (by rw [I.ok.kind]; decide) hf hn ?_ I.funs
    exact Heap.get?_none_of_le (Nat.le_trans I.ok.bsz I.ok.above)
theorem Inv.stkSub (I : Inv X pins σ H s) : ∀ b ∈ frs X.stack, b ∈ X.env.locals :: X.fs := fun b hb => by
  rcases I.ok.stk with e | ⟨e, hf⟩
  · rw [e] at hb; exact List.mem_cons_of_mem _ hb
  · rw [e] at hb
    unfold frs at hb
    rw [List.filterMap_cons, hf] at hb
    exact hb
theorem Inv.stkFree (I : Inv X pins σ H s) : ∀ b ∈ frs X.stack, H b = none := fun b hb => by
  rcases List.mem_cons.mp (I.stkSub b hb) with e | hb
  · rw [e]; exact I.free
  · obtain ⟨_, o, ho, _⟩ := I.ok.funs.mem hb
    exact I.base.free b o ho (I.ok.frf b hb) fun z => I.ok.exfs b z hb

/-- THE STEP: the untracked objects but the frame and the records at ch are kept (the callers' frames up to slots), the frame's map is kept, the new abstract heap is held -/
theorem Inv.step {g' : Array GenState} {t' : Nat} {d' : Drawn} {ch : List Addr} (I : Inv X pins σ H s)
    (hch : ∀ b ∈ ch, (b ∈ X.ex ∨ X.s₀.heap.objs.size ≤ b) ∧ b ≠ X.env.locals ∧ (∀ x c, X.env.cells.lookup x = some c → c ≠ b) ∧ ∀ p ∈ X.pn ++ pins, p.1 ≠ b)
    (keep : ∀ b o, b ≠ X.env.locals → b ∉ X.fs → b ∉ ch → s.heap.get? b = some o → H b = none → h'.get? b = some o)
    (slot : ∀ b o, b ≠ X.env.locals → b ∈ X.fs → b ∉ ch → s.heap.get? b = some o → H b = none → ∃ sl, h'.get? b = some { o with slots := sl }) (free : ∀ b o, b ∉ ch → s.heap.get? b = some o → H b = none → H' b = none)
    (there : ∀ b o, b ∉ ch → s.heap.get? b = some o → ∃ o', h'.get? b = some o')
    (tups : ∀ b xs, H b = some (.tup xs) → H' b = some (.tup xs)) (frzs : ∀ b o u, H b = some (.frz o u) → H' b = some (.frz o u)) (tbls : ∀ b ps, H b = some (.tbl ps) → ∃ more, H' b = some (.tbl (ps ++ more)))
    (ns : ∀ m, s.heap.Ns X.env.locals m → h'.Ns X.env.locals m) (hok : HOk X.prog X.w H' h') (hg : AllBare g') :
    Inv X pins σ H' { s with heap := h', gens := g', drawn := d', toks := t' } := by
  have neL : ∀ b o, X.s₀.heap.get? b = some o → b ≠ X.env.locals := fun b o e => Nat.ne_of_lt (Nat.lt_of_lt_of_le (Heap.lt_size e) I.ok.above)
  have neC : ∀ b o, X.s₀.heap.get? b = some o → b ∉ X.ex → b ∉ ch := fun b o e hx hb => by
    rcases (hch b hb).1 with z | z
    · exact hx z
    · exact absurd (Nat.lt_of_lt_of_le (Heap.lt_size e) z) (Nat.lt_irrefl _)
  have cellK : ∀ x c, X.env.cells.lookup x = some c → ∀ v, s.heap.IsCell c v → h'.IsCell c v := fun x c e v ⟨o, ho, hd⟩ => by
    have nch : c ∉ ch := fun z => (hch c z).2.2.1 x c e rfl
    by_cases hc : c ∈ X.fs
    · obtain ⟨sl, q⟩ := slot c o (I.cne x c e) hc nch ho (I.freeC x c e)
      exact ⟨_, q, hd⟩
    · exact ⟨o, keep c o (I.cne x c e) hc nch ho (I.freeC x c e), hd⟩
  refine ⟨I.ok, I.os, hg, ⟨fun b o e n hb hx => ?_, fun b o e n hb hx => ?_, fun b o e n hx => ?_, fun b o e hx => ?_, fun b xs e => tups b xs (I.base.tups b xs e), fun b o xs e => frzs b o xs (I.base.frzs b o xs e), fun b ps e => ?_⟩, ?_, fun x c e => ?_, ?_, fun x c e => ?_, fun p hp => ?_, hok, I.len⟩
  · exact keep b o (neL b o e) hb (neC b o e hx) (I.base.keep b o e n hb hx) (I.base.free b o e n hx)
  · obtain ⟨sl, e1⟩ := I.base.slot b o e n hb hx
    obtain ⟨sl', e2⟩ := slot b _ (neL b o e) hb (neC b o e hx) e1 (I.base.free b o e n hx)
    exact ⟨sl', e2⟩
  · obtain ⟨o', e1⟩ := I.base.there b o e hx
    exact free b o' (neC b o e hx) e1 (I.base.free b o e n hx)
  · obtain ⟨o', e1⟩ := I.base.there b o e hx
    exact there b o' (neC b o e hx) e1
  · obtain ⟨m1, e1⟩ := I.base.tbls b ps e
    obtain ⟨m2, e2⟩ := tbls b _ e1
    exact ⟨m1 ++ m2, by rw [e2, Array.append_assoc]⟩
  · obtain ⟨m, hn, hl⟩ := I.loc
    refine ⟨m, ns m hn, fun i x v e1 e2 e3 => ?_⟩
    obtain ⟨u, r, l⟩ := hl i x v e1 e2 e3
    refine ⟨u, r, ?_⟩
    rcases l with l | ⟨k, c, e, z⟩
    · exact .inl l
    · exact .inr ⟨k, c, e, cellK x c e _ z⟩
  · obtain ⟨v, z⟩ := I.cell x c e
    exact ⟨v, cellK x c e v z⟩
  · obtain ⟨m, ⟨o, _, _, ho, _⟩, _⟩ := I.loc
    exact free _ o (fun z => (hch _ z).2.1 rfl) ho I.free
  · obtain ⟨v, o, ho, hd⟩ := I.cell x c e
    exact free c o (fun z => (hch c z).2.2.1 x c e rfl) ho (I.freeC x c e)
  · obtain ⟨e, n, ne, nf, d⟩ := I.pin p hp
    have nch : p.1 ∉ ch := fun z => (hch p.1 z).2.2.2 p hp rfl
    exact ⟨keep p.1 p.2 ne nf nch e n, free p.1 p.2 nch e n, ne, nf, d⟩
/-- .. where the frame's own object is kept too -/
theorem Inv.un {t' : Nat} (I : Inv X pins σ H s) (u : Un X.fs [] H H' s.heap h') (hok : HOk X.prog X.w H' h') : Inv X pins σ H' { s with heap := h', toks := t' } := by
  obtain ⟨m, ⟨o, es, ep, ho, r⟩, _⟩ := id I.loc
  obtain ⟨sl, hL⟩ := u.any ho I.free (by simp)
  exact I.step (g' := s.gens) (d' := s.drawn) (ch := []) (fun _ z => nomatch z) (fun b o _ hb _ e n => u.keep b o e n hb (by simp)) (fun b o _ hb _ e n => u.slot b o e n hb (by simp)) (fun b o _ e n => u.free b o e n (by simp)) (fun b o _ e => u.there b o e (by simp)) u.tups u.frzs u.tbls (fun m' hm => by
    obtain ⟨o', es', ep', ho', r'⟩ := hm
    rw [ho] at ho'; cases ho'
    exact ⟨_, es', ep', hL, r'⟩) hok I.bare
/-- behind a call (or a comprehension's block): the slots of this frame may have changed too, the records at ch may have turned -/
theorem Inv.call {g' : Array GenState} {t' : Nat} {d' : Drawn} {ch : List Addr} (I : Inv X pins σ H s) (u : Un (frs X.stack) ch H H' s.heap h') (hok : HOk X.prog X.w H' h') (hg : AllBare g')
    (hch : ∀ b ∈ ch, (b ∈ X.ex ∨ X.s₀.heap.objs.size ≤ b) ∧ b ≠ X.env.locals ∧ (∀ x c, X.env.cells.lookup x = some c → c ≠ b) ∧ ∀ p ∈ X.pn ++ pins, p.1 ≠ b) :
    Inv X pins σ H' { s with heap := h', gens := g', drawn := d', toks := t' } := by
  obtain ⟨m, ⟨o, es, ep, ho, r⟩, _⟩ := id I.loc
  obtain ⟨sl, hL⟩ := u.any ho I.free fun z => (hch _ z).2.1 rfl
  exact I.step (ch := ch) hch (fun b o hL hb hc e n => u.keep b o e n (fun z => (List.mem_cons.mp (I.stkSub b z)).elim hL hb) hc) (fun b o _ _ hc e n => u.any e n hc) (fun b o hc e n => u.free b o e n hc) (fun b o hc e => u.there b o e hc) u.tups u.frzs u.tbls (fun m' hm => by
    obtain ⟨o', es', ep', ho', r'⟩ := hm
    rw [ho] at ho'; cases ho'
    exact ⟨_, es', ep', hL, r'⟩) hok hg
/-- an untracked record of ours (an iterator) has turned -/
theorem Inv.turned {t' : Nat} {it : Addr} (I : Inv X pins σ H s) (k : ∀ b o, b ≠ it → s.heap.get? b = some o → h'.get? b = some o) (hn : H it = none) (hL : it ≠ X.env.locals)
    (h1 : it ∈ X.ex ∨ X.s₀.heap.objs.size ≤ it) (h2 : ∀ x c, X.env.cells.lookup x = some c → c ≠ it) (h3 : ∀ p ∈ X.pn ++ pins, p.1 ≠ it) : Inv X pins σ H { s with heap := h', toks := t' } := by
  have nit : ∀ b u, H b = some u → b ≠ it := fun b u e z => by rw [z, hn] at e; cases e
  refine I.step (g' := s.gens) (d' := s.drawn) (ch := [it]) (fun b hb => ?_) (fun b o _ _ hc e _ => k b o (fun z => hc (by simp [z])) e) (fun b o _ _ hc e _ => ⟨o.slots, k b o (fun z => hc (by simp [z])) e⟩) (fun _ _ _ _ n => n)
    (fun b o hc e => ⟨o, k b o (fun z => hc (by simp [z])) e⟩) (fun _ _ e => e) (fun _ _ _ e => e) (fun b ps e => ⟨#[], by rw [e]; simp⟩) (fun m hm => ?_) (fun b u e => ?_) I.bare
  · have e : b = it := by simpa using hb
    subst e
    exact ⟨h1, hL, h2, h3⟩
  · obtain ⟨o, es, ep, ho, r⟩ := hm
    exact ⟨o, es, ep, k _ o (Ne.symm hL) ho, r⟩
  · refine (I.hok b u e).stay (fun c v hc q => k c v ?_ q) (fun _ q => q) fun _ _ q => q
    rcases hc with z | z
    · rw [z]; exact nit b u e
    · exact nit c _ z
theorem Inv.tok (I : Inv X pins σ H s) (t : Nat) : Inv X pins σ H { s with toks := t } := I.un (h' := s.heap) (t' := t) Un.refl I.hok
/-- all objects kept -/
theorem Inv.kept {t' : Nat} (I : Inv X pins σ H s) (k : ∀ b u, s.heap.get? b = some u → h'.get? b = some u) : Inv X pins σ H { s with heap := h', toks := t' } := I.un (Un.kept k) (I.hok.kept k)
/-- a new object laid and tracked -/
theorem Inv.laid {a : Addr} {o : HO} {t' : Nat} (I : Inv X pins σ H s) (k : ∀ b u, s.heap.get? b = some u → h'.get? b = some u) (hp : s.heap.objs.size ≤ a) (new : ObjOk X.prog X.w (upd H a o) h' a o) :
    Inv X pins σ (upd H a o) { s with heap := h', toks := t' } := I.un (Un.laid k hp (I.hok.fresh hp)) (I.hok.laid k hp new)
/-- an object written -/
theorem Inv.write {x e : Addr} {o : HO} {t' : Nat} (I : Inv X pins σ H s) (mu : Mut (H x)) (he : e = x ∨ H e = some (.own x)) (k : ∀ b u, b ≠ e → s.heap.get? b = some u → h'.get? b = some u) (heo : ∃ u, h'.get? e = some u)
    (new : ObjOk X.prog X.w (upd H x o) h' x o) : Inv X pins σ (upd H x o) { s with heap := h', toks := t' } := I.un (Un.write mu he k heo) (I.hok.write mu he k heo new)
theorem Inv.pins_of {pins' : List (Addr × Obj)} (I : Inv X pins σ H s) (h : ∀ p ∈ pins', s.heap.get? p.1 = some p.2 ∧ H p.1 = none ∧ p.1 ≠ X.env.locals ∧ p.1 ∉ X.fs ∧ ∀ v, p.2.data ≠ .cell v) : Inv X pins' σ H s :=
  ⟨I.ok, I.os, I.bare, I.base, I.loc, I.cell, I.free, I.freeC, fun p hp => (List.mem_append.mp hp).elim (fun z => I.pin p (List.mem_append_left _ z)) (h p), I.hok, I.len⟩

theorem nodup_ix {N : List Str} (hN : N.Nodup) {i j : Nat} {x : Str} (a : N[i]? = some x) (b : N[j]? = some x) : i = j := by
  obtain ⟨h1, e1⟩ := List.getElem?_eq_some_iff.mp a
  obtain ⟨h2, e2⟩ := List.getElem?_eq_some_iff.mp b
  exact (List.getElem_inj hN).mp (e1.trans e2.symm)

/-- a name is stored; what changed -/
theorem store_ok2 {M : Model} {A : Around} {E : Value → Shared → Prop} {i : Nat} {x : Str} {v : V} {u : Value} {Q : Unit → Shared → Prop} (I : Inv X pins σ H s) (hN : X.N.Nodup) (hi : X.N[i]? = some x) (hx : Loc X.env.scope x) (r : RelV v u)
    (h : ∀ s', Inv X pins (σ.set i (some v)) H s' → (∃ a, Heap.SameBut a s.heap s'.heap ∧ (a = X.env.locals ∨ X.env.cells.lookup x = some a)) → Q () s') (hf : X.fn x = true ∨ X.env.scope.names.lookup x = some .local := by first | exact .inl rfl | exact .inr rfl | assumption) : wpAny M A (storeName X.env x u) Q E s := by
  obtain ⟨m, hn, hl⟩ := id I.loc
  have hcls : (X.env.scope.kind == .class || (X.env.scope.kind == .module && X.env.locals != X.env.globals)) = false := by rw [I.ok.kind]; rfl
  have hiσ : i < σ.length := by rw [I.len]; exact (List.getElem?_eq_some_iff.mp hi).1
  have cne := I.cne
  have tracked : ∀ {a : Addr} {h' : Heap}, (∃ o, s.heap.get? a = some o ∧ H a = none) → Heap.SameBut a s.heap h' → HOk X.prog X.w H h' := fun {a h'} ha hs b ob e => by
    obtain ⟨_, _, hfree⟩ := ha
    refine (I.hok b ob e).stay (fun c w' hc q => (hs.2 c ?_).trans q) (fun _ q => q) fun _ _ q => q
    rintro rfl
    rcases hc with rfl | hc
    · rw [hfree] at e; cases e
    · rw [hfree] at hc; cases hc
  rcases hx with hk | hk
  · refine wpAny_storeName_local hk hn (fun h' hn' hs => ?_) hcls
    obtain ⟨oL, _, _, hoL, _⟩ := id hn
    refine h _ ⟨I.ok, I.os, I.bare, ⟨fun b o e n hb hx => ?_, fun b o e n hb hx => ?_, I.base.free, fun b o e hx => ?_, I.base.tups, I.base.frzs, I.base.tbls⟩, ⟨_, hn', fun j y v' e1 e2 e3 => ?_⟩, fun y c e => ?_, I.free, I.freeC, fun p hp => ?_, tracked ⟨oL, hoL, I.free⟩ hs, by simpa using I.len⟩ ⟨_, hs, .inl rfl⟩
    · exact (hs.2 b (Nat.ne_of_lt (Nat.lt_of_lt_of_le (Heap.lt_size e) I.ok.above))).trans (I.base.keep b o e n hb hx)
    · obtain ⟨sl, e1⟩ := I.base.slot b o e n hb hx
      exact ⟨sl, (hs.2 b (Nat.ne_of_lt (Nat.lt_of_lt_of_le (Heap.lt_size e) I.ok.above))).trans e1⟩
    · obtain ⟨o', e1⟩ := I.base.there b o e hx
      exact ⟨o', (hs.2 b (Nat.ne_of_lt (Nat.lt_of_lt_of_le (Heap.lt_size e) I.ok.above))).trans e1⟩
    · by_cases hj : j = i
      · subst hj
        rw [hi] at e1; cases e1
        rw [List.getElem?_set_self hiσ] at e2
        cases e2
        exact ⟨u, r, .inl ⟨hk, by simp⟩⟩
      · rw [List.getElem?_set_ne (Ne.symm hj)] at e2
        obtain ⟨u', r', q⟩ := hl j y v' e1 e2 e3
        refine ⟨u', r', ?_⟩
        rcases q with ⟨k, e⟩ | ⟨k, c, e, z⟩
        · refine .inl ⟨k, ?_⟩
          have : y ≠ x := fun e => hj (nodup_ix hN e1 (e ▸ hi))
          simp [this, e]
        · exact .inr ⟨k, c, e, z.sameBut hs (cne y c e)⟩
    · obtain ⟨w', z⟩ := I.cell y c e
      exact ⟨w', z.sameBut hs (cne y c e)⟩
    · obtain ⟨e, n, ne, nf, d⟩ := I.pin p hp
      exact ⟨(hs.2 p.1 ne).trans e, n, ne, nf, d⟩
  · have hfn : X.fn x = true := by
      rcases hf with z | z
      · exact z
      · rw [z] at hk; cases hk
    obtain ⟨c, hc⟩ := I.ok.has x (.inl hk)
    obtain ⟨w', z⟩ := I.cell x c hc
    refine wpAny_storeName_cell I.ok.kind hk hc z (fun h' hc' hs => ?_)
    obtain ⟨oc, hoc, hocd⟩ := id z
    refine h { s with heap := h' } ⟨I.ok, I.os, I.bare, ⟨fun b o e n hb hx => ?_, fun b o e n hb hx => ?_, I.base.free, fun b o e hx => ?_, I.base.tups, I.base.frzs, I.base.tbls⟩, ⟨m, hn.sameBut hs (Ne.symm (cne x c hc)), fun j y v' e1 e2 e3 => ?_⟩, fun y c' e => ?_, I.free, I.freeC, fun p hp => ?_, tracked ⟨oc, hoc, I.freeC x c hc⟩ hs, by simpa using I.len⟩ ⟨c, hs, .inr hc⟩
    · exact (hs.2 b (Nat.ne_of_lt (Nat.lt_of_lt_of_le (Heap.lt_size e) (I.ok.cab x c hfn hc)))).trans (I.base.keep b o e n hb hx)
    · obtain ⟨sl, e1⟩ := I.base.slot b o e n hb hx
      exact ⟨sl, (hs.2 b (Nat.ne_of_lt (Nat.lt_of_lt_of_le (Heap.lt_size e) (I.ok.cab x c hfn hc)))).trans e1⟩
    · obtain ⟨o', e1⟩ := I.base.there b o e hx
      exact ⟨o', (hs.2 b (Nat.ne_of_lt (Nat.lt_of_lt_of_le (Heap.lt_size e) (I.ok.cab x c hfn hc)))).trans e1⟩
    · by_cases hj : j = i
      · subst hj
        rw [hi] at e1; cases e1
        rw [List.getElem?_set_self hiσ] at e2
        cases e2
        exact ⟨u, r, .inr ⟨.inl hk, c, hc, hc'⟩⟩
      · rw [List.getElem?_set_ne (Ne.symm hj)] at e2
        obtain ⟨u', r', q⟩ := hl j y v' e1 e2 e3
        refine ⟨u', r', ?_⟩
        rcases q with q | ⟨k, c', e, z'⟩
        · exact .inl q
        · refine .inr ⟨k, c', e, z'.sameBut hs ?_⟩
          rintro rfl
          exact hj (nodup_ix hN e1 (I.ok.inj _ _ _ e hc ▸ hi))
    · by_cases hcc : c' = c
      · subst hcc; exact ⟨_, hc'⟩
      · obtain ⟨w2, z2⟩ := I.cell y c' e
        exact ⟨w2, z2.sameBut hs hcc⟩
    · obtain ⟨e, n, ne, nf, d⟩ := I.pin p hp
      refine ⟨(hs.2 p.1 ?_).trans e, n, ne, nf, d⟩
      intro q
      rw [q, hoc] at e
      have q' : oc = p.2 := Option.some.inj e
      exact d w' (by rw [← q']; exact hocd)
theorem store_ok {M : Model} {A : Around} {E : Value → Shared → Prop} {i : Nat} {x : Str} {v : V} {u : Value} {Q : Unit → Shared → Prop} (I : Inv X pins σ H s) (hN : X.N.Nodup) (hi : X.N[i]? = some x) (hx : Loc X.env.scope x) (r : RelV v u)
    (h : ∀ s', Inv X pins (σ.set i (some v)) H s' → Q () s') (hf : X.fn x = true ∨ X.env.scope.names.lookup x = some .local := by first | exact .inl rfl | exact .inr rfl | assumption) : wpAny M A (storeName X.env x u) Q E s :=
  store_ok2 I hN hi hx r (fun s' I' _ => h s' I') hf
/-- behind a call or a block, the state as it is -/
theorem Inv.call' {s' : Shared} {ch : List Addr} (I : Inv X pins σ H s) (ho : s'.os = s.os) (u : Un (frs X.stack) ch H H' s.heap s'.heap) (hok : HOk X.prog X.w H' s'.heap) (hg : AllBare s'.gens)
    (hch : ∀ b ∈ ch, (b ∈ X.ex ∨ X.s₀.heap.objs.size ≤ b) ∧ b ≠ X.env.locals ∧ (∀ x c, X.env.cells.lookup x = some c → c ≠ b) ∧ ∀ p ∈ X.pn ++ pins, p.1 ≠ b) : Inv X pins σ H' s' := by
  obtain ⟨h', g', d', t', o'⟩ := s'
  have e : o' = s.os := ho
  subst e
  exact I.call (g' := g') (t' := t') (d' := d') u hok hg hch
end

/-- an exception: its class, its own dict's address (where it has one), the abstract heap behind it -/
abbrev XK := Value → Option Addr → Hp → Prop
abbrev St := List (Option V)
abbrev VK := V → Hp → Prop
/-- an expression's reading; a test's; an argument list's -/
abbrev TE := St → Hp → VK → Prop
abbrev TT := St → Hp → (Bool → Hp → Prop) → Prop
abbrev TA := St → Hp → (List V → Hp → Prop) → Prop
/-- what is wanted behind a statement -/
structure Ends where
  nx : St → Hp → Prop
  rt : VK
  bk : St → Hp → Prop := fun _ _ => False
  ct : St → Hp → Prop := fun _ _ => False
abbrev TS := Ends → St → Hp → Prop

def EP (X : Cx) (pins : List (Addr × Obj)) (σ : St) (Q : VK) (u : Value) (s' : Shared) : Prop := ∃ v H', Inv X pins σ H' s' ∧ RelV v u ∧ Q v H'
def TP (X : Cx) (pins : List (Addr × Obj)) (σ : St) (Q : Bool → Hp → Prop) (b : Bool) (s' : Shared) : Prop := ∃ H', Inv X pins σ H' s' ∧ Q b H'
def AP (X : Cx) (pins : List (Addr × Obj)) (σ : St) (Q : List V → Hp → Prop) (us : List Value) (s' : Shared) : Prop := ∃ vs H', Inv X pins σ H' s' ∧ Vals vs us ∧ Q vs H'
def SP (X : Cx) (pins : List (Addr × Obj)) (D : Ends) (f : Flow) (s' : Shared) : Prop :=
  match f with
  | .next => ∃ σ' H', Inv X pins σ' H' s' ∧ D.nx σ' H'
  | .brk => ∃ σ' H', Inv X pins σ' H' s' ∧ D.bk σ' H'
  | .cont => ∃ σ' H', Inv X pins σ' H' s' ∧ D.ct σ' H'
  | .ret u => ∃ v σ' H', Inv X pins σ' H' s' ∧ RelV v u ∧ D.rt v H'

def PE (X : Cx) (e : Expr) (t : TE) : Prop :=
  ∀ (pins : List (Addr × Obj)) (s : Shared) (σ : St) (H : Hp) (Q : VK), Inv X pins σ H s → t σ H Q → wpAny (model X.prog X.w) X.A (eval e X.env) (EP X pins σ Q) X.xe s
def PT (X : Cx) (e : Expr) (t : TT) : Prop :=
  ∀ (pins : List (Addr × Obj)) (s : Shared) (σ : St) (H : Hp) (Q : Bool → Hp → Prop), Inv X pins σ H s → t σ H Q → wpAny (model X.prog X.w) X.A (isTrue e X.env (eval e X.env)) (TP X pins σ Q) X.xe s
/-- a test whatever its 'whole' is (and, or) -/
def PW (X : Cx) (e : Expr) (t : TT) : Prop :=
  ∀ (whole : Sem Value) (pins : List (Addr × Obj)) (s : Shared) (σ : St) (H : Hp) (Q : Bool → Hp → Prop), Inv X pins σ H s → t σ H Q → wpAny (model X.prog X.w) X.A (isTrue e X.env whole) (TP X pins σ Q) X.xe s
theorem PW.pt {X : Cx} {e : Expr} {t : TT} (h : PW X e t) : PT X e t := h _
/-- an argument list (no star), from the left -/
def PA (X : Cx) (es : List Expr) (t : TA) : Prop :=
  ∀ (pos : Pos) (pins : List (Addr × Obj)) (s : Shared) (σ : St) (H : Hp) (Q : List V → Hp → Prop), Inv X pins σ H s → t σ H Q → wpAny (model X.prog X.w) X.A (spliced (backTo pos (starEach es X.env))) (AP X pins σ Q) X.xe s
def PS (X : Cx) (st : Stmt) (t : TS) : Prop :=
  ∀ (pins : List (Addr × Obj)) (s : Shared) (σ : St) (H : Hp) (D : Ends), Inv X pins σ H s → t D σ H → wpAny (model X.prog X.w) X.A (exec st X.env) (SP X pins D) X.xe s
def PSs (X : Cx) (st : List Stmt) (t : TS) : Prop :=
  ∀ (pins : List (Addr × Obj)) (s : Shared) (σ : St) (H : Hp) (D : Ends), Inv X pins σ H s → t D σ H → wpAny (model X.prog X.w) X.A (execs st X.env) (SP X pins D) X.xe s
/-- weaken the end -/
theorem thn {α : Type} {t : Sem α} {Q Q' : α → Shared → Prop} {M : Model} {A : Around} {E : Value → Shared → Prop} {s : Shared} (h : wpAny M A t Q E s) (hQ : ∀ a s, Q a s → Q' a s) : wpAny M A t Q' E s := wpAny_mono h hQ fun _ _ x => x
end L2

namespace L2
open PySem PySem.Spec PyProof.Rows
section
variable {X : Cx}

/-- two expressions in a row -/
theorem bin {a b : Expr} {ta tb : TE} (ha : PE X a ta) (hb : PE X b tb) {pins : List (Addr × Obj)} {s : Shared} {σ : St} {H : Hp} {R : V → V → Hp → Prop} (I : Inv X pins σ H s) (h : ta σ H fun x H1 => tb σ H1 fun y H2 => R x y H2)
    {α : Type} {Q : α → Shared → Prop} {f : Value → Value → Sem α}
    (hf : ∀ v u s2 x y H2, Inv X pins σ H2 s2 → RelV x v → RelV y u → R x y H2 → wpAny (model X.prog X.w) X.A (f v u) Q X.xe s2) :
    wpAny (model X.prog X.w) X.A (eval a X.env) (fun v s₁ => wpAny (model X.prog X.w) X.A (eval b X.env) (fun u s₂ => wpAny (model X.prog X.w) X.A (f v u) Q X.xe s₂) X.xe s₁) X.xe s := by
  refine thn (ha pins s σ H _ I h) fun v s1 ⟨x, H1, I1, r1, q1⟩ => ?_
  refine thn (hb pins s1 σ H1 _ I1 q1) fun u s2 ⟨y, H2, I2, r2, q2⟩ => ?_
  exact hf v u s2 x y H2 I2 r1 r2 q2

def tVar (i : Nat) : TE := fun σ H Q => ∃ v, σ[i]? = some (some v) ∧ Q v H
def tC (v : V) : TE := fun _ H Q => Q v H
theorem pe_var {i : Nat} {x : Str} {pos : Pos} (hN : X.N[i]? = some x) (hv : Vis X.env.scope x) (hd : (x == ("__debug__" : Str)) = false := by decide) (hcd : (x == ("__classdict__" : Str)) = false := by decide) : PE X (.Name x pos) (tVar i) := by
  intro pins s σ H Q I h
  obtain ⟨v, e, h⟩ := h
  obtain ⟨m, hn, hl⟩ := I.loc
  obtain ⟨u, r, l⟩ := hl i x v hN e hv
  have fin : EP X pins σ Q u s := ⟨v, H, I, r, h⟩
  rcases l with ⟨hk, hm⟩ | ⟨hk, c, hc, hcell⟩
  · exact wpAny_Name (wpAny_loadName_local I.ok.kind hk hn hm fin) hd
  · rcases hk with hk | hk
    · exact wpAny_Name (wpAny_loadName_cell I.ok.kind hk hc hcell fin) hd
    · exact wpAny_Name (wpAny_loadName_free I.ok.kind hk hc hcell fin hcd) hd
theorem pe_int {i j pos} : PE X (.Constant (.int i) j pos) (tC (.int i)) := fun _ _ _ H _ I h => wpAny_Constant_int ⟨.int i, H, I.tok _, ⟨_, rfl⟩, h⟩
theorem pe_bl {b j pos} : PE X (.Constant (.bool b) j pos) (tC (.bl b)) := fun _ _ _ H _ I h => Constant_bool ⟨.bl b, H, I, rfl, h⟩
theorem pe_non {j pos} : PE X (.Constant .none j pos) (tC .non) := fun _ _ _ H _ I h => Constant_none ⟨.non, H, I, rfl, h⟩
theorem pe_str {x j pos} : PE X (.Constant (.str x) j pos) (tC (.str x)) := fun _ _ _ H _ I h => Calls.Constant_str ⟨.str x, H, I.tok _, ⟨_, rfl⟩, h⟩

/-- a global name of the def -/
def Gl (X : Cx) (x : Str) : Prop := X.env.kindOf x = some .globalImplicit
theorem ld_glob {E : Value → Shared → Prop} {pins : List (Addr × Obj)} {s : Shared} {σ : St} {H : Hp} {x : Str} {u : Value} {pos : Pos} {Q : Value → Shared → Prop} (I : Inv X pins σ H s) (hg : Gl X x) (hm : X.mg x = some u) (h : Q u s)
    (hd : (x == ("__debug__" : Str)) = false := by decide) : wpAny (model X.prog X.w) X.A (eval (.Name x pos) X.env) Q E s :=
  Calls.Name_function_global I.ok.kind hg (Calls.loadGlobal_global (by rw [I.ok.glob]; exact I.mod.glob.keeps I.bk) hm h) hd
theorem ld_blt {E : Value → Shared → Prop} {pins : List (Addr × Obj)} {s : Shared} {σ : St} {H : Hp} {x : Str} {u : Value} {pos : Pos} {Q : Value → Shared → Prop} (I : Inv X pins σ H s) (hg : Gl X x) (hm : X.mg x = none) (hv : bootBuiltins x = some u) (h : Q u s)
    (hn : x ≠ "__name__" := by decide) (hd : (x == ("__debug__" : Str)) = false := by decide) : wpAny (model X.prog X.w) X.A (eval (.Name x pos) X.env) Q E s := by
  obtain ⟨mb, h1, h2⟩ := I.mod.blt
  exact Calls.Name_function_global I.ok.kind hg (Calls.loadGlobal_builtin (by rw [I.ok.glob]; exact I.mod.glob.keeps I.bk) hm (by rw [I.ok.blt]; exact h1.keeps I.bk) ((h2 x hn).trans hv) h) hd
/-- a module's constant, a class, a function, as a value -/
theorem pe_glob {x : Str} {v : V} {u : Value} {pos : Pos} (hg : Gl X x) (hm : X.mg x = some u) (r : RelV v u) (hd : (x == ("__debug__" : Str)) = false := by decide) : PE X (.Name x pos) (tC v) :=
  fun _ _ _ H _ I h => ld_glob I hg hm ⟨v, H, I, r, h⟩ hd
theorem pe_bltn {x : Str} {v : V} {u : Value} {pos : Pos} (hg : Gl X x) (hm : X.mg x = none) (hv : bootBuiltins x = some u) (r : RelV v u) (hn : x ≠ "__name__" := by decide) (hd : (x == ("__debug__" : Str)) = false := by decide) : PE X (.Name x pos) (tC v) :=
  fun _ _ _ H _ I h => ld_blt I hg hm hv ⟨v, H, I, r, h⟩ hn hd

variable {a b : Expr} {ta tb : TE} {pos : Pos}
/-- a comparison as a value, as a test -/
def tB (t : TE) : TT := fun σ H Q => t σ H fun x H1 => ∃ c, x = .bl c ∧ Q c H1
/-- an expression whose value is a bool, as a test -/
theorem pt_val {e : Expr} {t : TE} (h : PE X e t) (he : ∀ whole, isTrue e X.env whole = (do let v ← whole; standAt e.pos; holding [v] (truthy v)) := by intro _; rfl) : PT X e (tB t) := by
  intro pins s σ H Q I hw
  refine isTrue_plain (thn (h pins s σ H _ I hw) fun v s1 ⟨x, H1, I1, r1, q1⟩ => ?_) (he _)
  obtain ⟨d, rfl, q⟩ := q1
  cases r1
  exact wpAny_truthy_bool ⟨H1, I1, q⟩

variable {tA tB' : TT} {rest : List Expr}
def tAnd (t u : TT) : TT := fun σ H Q => t σ H fun c H1 => if c = true then u σ H1 Q else Q false H1
def tOr (t u : TT) : TT := fun σ H Q => t σ H fun c H1 => if c = true then Q true H1 else u σ H1 Q
def tNot (t : TT) : TT := fun σ H Q => t σ H fun c H1 => Q (!c) H1
theorem pw_and1 (ha : PT X a tA) : PW X (.BoolOp .And [a] pos) tA := by
  intro wh pins s σ H Q I h
  refine isTrue_and (thn (ha pins s σ H Q I h) fun c s1 e => ?_)
  cases c with
  | true => exact isTrue_and_nil e
  | false => exact e
theorem pw_or1 (ha : PT X a tA) : PW X (.BoolOp .Or [a] pos) tA := by
  intro wh pins s σ H Q I h
  refine isTrue_or (thn (ha pins s σ H Q I h) fun c s1 e => ?_)
  cases c with
  | false => exact isTrue_or_nil e
  | true => exact e
theorem pw_and (ha : PT X a tA) (hb : PW X (.BoolOp .And (b :: rest) pos) tB') : PW X (.BoolOp .And (a :: b :: rest) pos) (tAnd tA tB') := by
  intro wh pins s σ H Q I h
  refine isTrue_and (thn (ha pins s σ H _ I h) fun c s1 ⟨H1, I1, q1⟩ => ?_)
  cases c with
  | true => exact hb wh pins s1 σ H1 Q I1 q1
  | false => exact ⟨H1, I1, q1⟩
theorem pw_or (ha : PT X a tA) (hb : PW X (.BoolOp .Or (b :: rest) pos) tB') : PW X (.BoolOp .Or (a :: b :: rest) pos) (tOr tA tB') := by
  intro wh pins s σ H Q I h
  refine isTrue_or (thn (ha pins s σ H _ I h) fun c s1 ⟨H1, I1, q1⟩ => ?_)
  cases c with
  | true => exact ⟨H1, I1, q1⟩
  | false => exact hb wh pins s1 σ H1 Q I1 q1
theorem pt_not (ha : PT X a tA) : PT X (.UnaryOp .Not a pos) (tNot tA) := by
  intro pins s σ H Q I h
  exact isTrue_not (ha pins s σ H (fun c H1 => Q (!c) H1) I h)
/-- .. as values (bools) -/
def tAndV (ta tb : TE) : TE := fun σ H Q => ta σ H fun x H1 => ∃ c, x = .bl c ∧ if c = true then tb σ H1 Q else Q (.bl false) H1
def tOrV (ta tb : TE) : TE := fun σ H Q => ta σ H fun x H1 => ∃ c, x = .bl c ∧ if c = true then Q (.bl true) H1 else tb σ H1 Q
def tNotV (ta : TE) : TE := fun σ H Q => ta σ H fun x H1 => ∃ c, x = .bl c ∧ Q (.bl (!c)) H1
theorem pe_one {op} {t : TE} (h : PE X a t) : PE X (.BoolOp op [a] pos) t := fun pins s σ H Q I hw => BoolOp_one (h pins s σ H Q I hw)
theorem pe_and (ha : PE X a ta) (hb : PE X (.BoolOp .And (b :: rest) pos) tb) : PE X (.BoolOp .And (a :: b :: rest) pos) (tAndV ta tb) := by
  intro pins s σ H Q I h
  refine BoolOp_and (thn (ha pins s σ H _ I h) fun v s1 ⟨x, H1, I1, r1, q1⟩ => ?_)
  obtain ⟨c, rfl, q1⟩ := q1
  cases r1
  refine wpAny_truthy_bool ?_
  cases c with
  | true => exact hb pins s1 σ H1 Q I1 q1
  | false => exact ⟨.bl false, H1, I1, rfl, q1⟩
theorem pe_or (ha : PE X a ta) (hb : PE X (.BoolOp .Or (b :: rest) pos) tb) : PE X (.BoolOp .Or (a :: b :: rest) pos) (tOrV ta tb) := by
  intro pins s σ H Q I h
  refine BoolOp_or (thn (ha pins s σ H _ I h) fun v s1 ⟨x, H1, I1, r1, q1⟩ => ?_)
  obtain ⟨c, rfl, q1⟩ := q1
  cases r1
  refine wpAny_truthy_bool ?_
  cases c with
  | false => exact hb pins s1 σ H1 Q I1 q1
  | true => exact ⟨.bl true, H1, I1, rfl, q1⟩
theorem pe_not (ha : PE X a ta) : PE X (.UnaryOp .Not a pos) (tNotV ta) := by
  intro pins s σ H Q I h
  refine UnaryOp_ (thn (ha pins s σ H _ I h) fun v s1 ⟨x, H1, I1, r1, q1⟩ => ?_)
  obtain ⟨c, rfl, q1⟩ := q1
  cases r1
  exact not_of (wpAny_truthy_bool ⟨.bl (!c), H1, I1, rfl, q1⟩)
/-- a if t else b -/
def tIf (t : TT) (ta tb : TE) : TE := fun σ H Q => t σ H fun c H1 => if c = true then ta σ H1 Q else tb σ H1 Q
theorem pe_ifExp {c : Expr} (hc : PT X c tA) (ha : PE X a ta) (hb : PE X b tb) : PE X (.IfExp c a b pos) (tIf tA ta tb) := by
  intro pins s σ H Q I h
  refine wpAny_IfExp (thn (hc pins s σ H _ I h) fun d s1 ⟨H1, I1, q1⟩ => ?_)
  cases d with
  | true => exact ha pins s1 σ H1 Q I1 q1
  | false => exact hb pins s1 σ H1 Q I1 q1
end
end L2

namespace L2
open PySem PySem.Spec PyProof.Rows

def SqL (K : PySem.W.Frag) (H : Hp) (a : Addr) (xs : List V) : Prop :=
  Rd H a (.lst xs) ∨
    ∃ (o : Obj) (its : Array Value) (n : Nat), K.lookup a = some o ∧ o.cls = .type "list" ∧ o.dict = none ∧ o.data = .seq its n ∧ its.size ≤ sizeLine ∧ Vals xs its.toList
def SqT (K : PySem.W.Frag) (H : Hp) (a : Addr) (xs : List V) : Prop :=
  Rd H a (.tup xs) ∨
    ∃ (o : Obj) (its : Array Value) (n : Nat), K.lookup a = some o ∧ o.cls = .type "tuple" ∧ o.data = .seq its n ∧ its.size ≤ sizeLine ∧ Vals xs its.toList
def absV : Value → Option V
  | .none => some .non
  | .bool b => some (.bl b)
  | .int i _ => some (.int i)
  | .str x _ => some (.str x)
  | .bytes b _ => some (.byt b)
  | .float b _ => some (.flt b)
  | .ref a => some (.ref a)
  | .type n => some (.ty n)
  | _ => none
theorem RelV.abs {x : V} {u : Value} (r : RelV x u) : absV u = some x := by
  cases x with
  | non => cases r; rfl
  | bl _ => cases r; rfl
  | int _ => obtain ⟨t, rfl⟩ := r; rfl
  | str _ => obtain ⟨t, rfl⟩ := r; rfl
  | byt _ => obtain ⟨t, rfl⟩ := r; rfl
  | flt _ => obtain ⟨t, rfl⟩ := r; rfl
  | ref _ => cases r; rfl
  | ty _ => cases r; rfl
theorem RelV.inj {x y : V} {u : Value} (r : RelV x u) (q : RelV y u) : x = y := Option.some.inj (r.abs.symm.trans q.abs)
theorem Vals.inj : ∀ {xs ys : List V} {us : List Value}, Vals xs us → Vals ys us → xs = ys
  | _, _, _, .nil, .nil => rfl
  | _, _, _, .cons r t, .cons r' t' => by rw [r.inj r', Vals.inj t t']
section
variable {X : Cx} {pins : List (Addr × Obj)} {σ : St} {H : Hp} {s : Shared} {a : Addr} {xs ys : List V}
theorem SqL.of {K : PySem.W.Frag} (h : H a = some (.lst xs)) : SqL K H a xs := .inl (.inl h)
theorem SqT.of {K : PySem.W.Frag} (h : H a = some (.tup xs)) : SqT K H a xs := .inl (.inl h)
theorem Inv.list (I : Inv X pins σ H s) (h : SqL X.K H a xs) : ∃ its : List Value, Vals xs its ∧ PlainL s.heap a its.toArray ∧ xs.length ≤ sizeLine := by
  rcases h with h | ⟨o, its, n, hk, hc, hd, hs, hz, r⟩
  · obtain ⟨z, its, n, r, e⟩ := h.ok I.hok
    exact ⟨its, r, ⟨_, n, e, rfl, rfl, rfl⟩, z⟩
  · refine ⟨its.toList, r, ⟨o, n, I.kIn a o hk, hc, hd, by simpa using hs⟩, ?_⟩
    have e := r.length
    simp only [Array.length_toList] at e
    omega
theorem Inv.tuple (I : Inv X pins σ H s) (h : SqT X.K H a xs) : ∃ its : List Value, Vals xs its ∧ IsTup s.heap a its.toArray ∧ xs.length ≤ sizeLine := by
  rcases h with h | ⟨o, its, n, hk, hc, hs, hz, r⟩
  · obtain ⟨z, its, r, p⟩ := h.ok I.hok
    exact ⟨its, r, p, z⟩
  · refine ⟨its.toList, r, ⟨o, I.kIn a o hk, hc, n, by simpa using hs⟩, ?_⟩
    have e := r.length
    simp only [Array.length_toList] at e
    omega
theorem Inv.list_inj (I : Inv X pins σ H s) (h : SqL X.K H a xs) (h' : SqL X.K H a ys) : xs = ys := by
  obtain ⟨its, r, ⟨o, n, e, _, _, d⟩, _⟩ := I.list h
  obtain ⟨its', r', ⟨o', n', e', _, _, d'⟩, _⟩ := I.list h'
  rw [e] at e'; cases e'
  rw [d] at d'
  injection d' with d1 _
  have : its = its' := by simpa using congrArg Array.toList d1
  subst this
  exact r.inj r'
theorem Inv.tuple_inj (I : Inv X pins σ H s) (h : SqT X.K H a xs) (h' : SqT X.K H a ys) : xs = ys := by
  obtain ⟨its, r, ⟨o, e, _, n, d⟩, _⟩ := I.tuple h
  obtain ⟨its', r', ⟨o', e', _, n', d'⟩, _⟩ := I.tuple h'
  rw [e] at e'; cases e'
  rw [d] at d'
  injection d' with d1 _
  have : its = its' := by simpa using congrArg Array.toList d1
  subst this
  exact r.inj r'
end

abbrev Cx.wish (X : Cx) (E : Value → Shared → Prop) : Cx := { X with xe := E }
/-- no exception leaves -/
abbrev Cx.nox (X : Cx) : Cx := X.wish fun _ _ => False
theorem Cx.Ok.wish {X : Cx} (ok : X.Ok) (E : Value → Shared → Prop) : (X.wish E).Ok :=
  ⟨ok.mod, ok.kind, ok.glob, ok.blt, ok.above, ok.inj, ok.has, ok.cab, ok.hd, ok.frames, ok.stk, ok.exf, ok.bs, ok.bsz, ok.noex, ok.exfs, ok.funs, ok.frf⟩
theorem Cx.Ok.unwish {X : Cx} {E : Value → Shared → Prop} (ok : (X.wish E).Ok) : X.Ok :=
  ⟨ok.mod, ok.kind, ok.glob, ok.blt, ok.above, ok.inj, ok.has, ok.cab, ok.hd, ok.frames, ok.stk, ok.exf, ok.bs, ok.bsz, ok.noex, ok.exfs, ok.funs, ok.frf⟩
section
variable {X : Cx} {pins : List (Addr × Obj)} {σ : St} {H : Hp} {s : Shared} {E : Value → Shared → Prop}
theorem Inv.wish (I : Inv X pins σ H s) (E : Value → Shared → Prop) : Inv (X.wish E) pins σ H s := ⟨I.ok.wish E, I.os, I.bare, I.base, I.loc, I.cell, I.free, I.freeC, I.pin, I.hok, I.len⟩
theorem Inv.unwish (I : Inv (X.wish E) pins σ H s) : Inv X pins σ H s := ⟨I.ok.unwish, I.os, I.bare, I.base, I.loc, I.cell, I.free, I.freeC, I.pin, I.hok, I.len⟩
theorem SP.unwish {D : Ends} {f : Flow} {s' : Shared} (h : SP (X.wish E) pins D f s') : SP X pins D f s' := by
  cases f with
  | next => obtain ⟨σ', H', I, q⟩ := h; exact ⟨σ', H', I.unwish, q⟩
  | brk => obtain ⟨σ', H', I, q⟩ := h; exact ⟨σ', H', I.unwish, q⟩
  | cont => obtain ⟨σ', H', I, q⟩ := h; exact ⟨σ', H', I.unwish, q⟩
  | ret u => obtain ⟨v, σ', H', I, r, q⟩ := h; exact ⟨v, σ', H', I.unwish, r, q⟩
theorem PE.nox {e : Expr} {t : TE} (h : PE X.nox e t) : PE X e t := fun pins s σ H Q I hw =>
  wpAny_mono (h pins s σ H Q (I.wish _) hw) (fun _ _ ⟨v, H', I', r, q⟩ => ⟨v, H', I'.unwish, r, q⟩) fun _ _ z => False.elim z
theorem PT.nox {e : Expr} {t : TT} (h : PT X.nox e t) : PT X e t := fun pins s σ H Q I hw =>
  wpAny_mono (h pins s σ H Q (I.wish _) hw) (fun _ _ ⟨H', I', q⟩ => ⟨H', I'.unwish, q⟩) fun _ _ z => False.elim z
theorem PSs.nox {st : List Stmt} {t : TS} (h : PSs X.nox st t) : PSs X st t := fun pins s σ H D I hw =>
  wpAny_mono (h pins s σ H D (I.wish _) hw) (fun _ _ q => q.unwish) fun _ _ z => False.elim z
end

section
variable {X : Cx} {st : Stmt} {rest : List Stmt} {t u : TS} {e : Expr} {te : TE} {pos : Pos}
def tNext : TS := fun D σ H => D.nx σ H
def tSeq (t u : TS) : TS := fun D σ H => t { D with nx := u D } σ H
theorem pss_nil : PSs X [] tNext := fun _ _ σ H _ I h => wpAny_execs_nil ⟨σ, H, I, h⟩
theorem pss_cons (h1 : PS X st t) (h2 : PSs X rest u) : PSs X (st :: rest) (tSeq t u) := by
  intro pins s σ H D I h
  refine wpAny_execs_cons (thn (h1 pins s σ H { D with nx := u D } I h) fun f s1 q => ?_)
  cases f with
  | next =>
    obtain ⟨σ', H', I', q⟩ := q
    exact h2 pins s1 σ' H' D I' q
  | ret v => exact q
  | brk => exact q
  | cont => exact q
theorem pss_one (h1 : PS X st t) : PSs X [st] t := by
  intro pins s σ H D I h
  refine wpAny_execs_cons (thn (h1 pins s σ H D I h) fun f s1 q => ?_)
  cases f with
  | next => exact wpAny_execs_nil q
  | ret v => exact q
  | brk => exact q
  | cont => exact q
/-- in a def's body nothing is shown -/
theorem Inv.quiet {pins : List (Addr × Obj)} {σ : St} {H : Hp} {s : Shared} (I : Inv X pins σ H s) : interactive X.env = false := by simp [interactive, I.ok.kind]
/-- an expression whose value is dropped -/
def tDrop (te : TE) : TS := fun D σ H => te σ H fun _ H1 => D.nx σ H1
theorem ps_expr (he : PE X e te) (hs : swapsWith e none pos.line X.env = pure false := by rfl) : PS X (.Expr e pos) (tDrop te) := by
  intro pins s σ H D I h
  exact wpAny_Expr_any (thn (he pins s σ H _ I h) fun v s1 ⟨x, H1, I1, r1, q1⟩ => ⟨σ, H1, I1, q1⟩) I.quiet hs
def tRet (te : TE) : TS := fun D σ H => te σ H D.rt
theorem ps_ret (he : PE X e te) : PS X (.Return (some e) pos) (tRet te) := by
  intro pins s σ H D I h
  exact wpAny_Return_some (thn (he pins s σ H _ I h) fun v s1 ⟨x, H1, I1, r1, q1⟩ => ⟨x, σ, H1, I1, r1, q1⟩)
def tIfS (c : TT) (t u : TS) : TS := fun D σ H => c σ H fun b H1 => if b = true then t D σ H1 else u D σ H1
theorem ps_if {c : Expr} {a b : List Stmt} {tc : TT} (hc : PT X c tc) (ha : PSs X a t) (hb : PSs X b u) : PS X (.If c a b pos) (tIfS tc t u) := by
  intro pins s σ H D I h
  refine wpAny_If (thn (hc pins s σ H _ I h) fun d s1 ⟨H1, I1, q1⟩ => ?_)
  cases d with
  | true => exact ha pins s1 σ H1 D I1 q1
  | false => exact hb pins s1 σ H1 D I1 q1
end

abbrev TG := V → St → Hp → (St → Hp → Prop) → Prop
abbrev TGs := List V → St → Hp → (St → Hp → Prop) → Prop
def PG (X : Cx) (target : Expr) (t : TG) : Prop :=
  ∀ (pins : List (Addr × Obj)) (s : Shared) (σ : St) (H : Hp) (v : V) (u : Value) (Q : St → Hp → Prop), Inv X pins σ H s → RelV v u → t v σ H Q →
    wpAny (model X.prog X.w) X.A (assign target X.env u) (fun _ s' => ∃ σ' H', Inv X pins σ' H' s' ∧ Q σ' H') X.xe s
/-- several targets, one after another -/
def PGs (X : Cx) (ts : List Expr) (t : TGs) : Prop :=
  ∀ (pins : List (Addr × Obj)) (s : Shared) (σ : St) (H : Hp) (vs : List V) (us : List Value) (Q : St → Hp → Prop), Inv X pins σ H s → Vals vs us → t vs σ H Q →
    wpAny (model X.prog X.w) X.A (assignInOrder ((assignEach ts X.env).map (·.2)) us) (fun _ s' => ∃ σ' H', Inv X pins σ' H' s' ∧ Q σ' H') X.xe s
section
variable {X : Cx} {pos : Pos}
def gName (i : Nat) : TG := fun v σ H Q => Q (σ.set i (some v)) H
theorem pg_name {i : Nat} {x : Str} (hN : X.N.Nodup) (hi : X.N[i]? = some x) (hx : Loc X.env.scope x) (hf : X.fn x = true ∨ X.env.scope.names.lookup x = some .local := by first | exact .inl rfl | exact .inr rfl | assumption) : PG X (.Name x pos) (gName i) := by
  intro pins s σ H v u Q I r h
  exact wpAny_assign_Name (store_ok I hN hi hx r (fun s' I' => ⟨_, H, I', h⟩) hf)
def gNil : TGs := fun vs σ H Q => vs = [] ∧ Q σ H
def gCons (t : TG) (u : TGs) : TGs := fun vs σ H Q => ∃ v r, vs = v :: r ∧ t v σ H fun σ' H' => u r σ' H' Q
theorem pgs_nil : PGs X [] gNil := by
  intro pins s σ H vs us Q I r h
  obtain ⟨e, h⟩ := h
  subst e
  cases r
  exact assignInOrder_nil ⟨σ, H, I, h⟩
theorem pgs_cons {e : Expr} {es : List Expr} {t : TG} {u : TGs} (h1 : PG X e t) (h2 : PGs X es u)
    (hs : (assignEach (e :: es) X.env).map (·.2) = assign e X.env :: (assignEach es X.env).map (·.2) := by rfl) : PGs X (e :: es) (gCons t u) := by
  intro pins s σ H vs us Q I r h
  obtain ⟨v, vr, e1, h⟩ := h
  subst e1
  cases r with
  | cons r rr =>
    rw [hs]
    refine assignInOrder_cons (thn (h1 pins s σ H _ _ _ I r h) fun _ s1 ⟨σ1, H1, I1, q1⟩ => ?_)
    exact h2 pins s1 σ1 H1 _ _ Q I1 rr q1
/-- (a, b, ..) = a tuple of that length -/
def gTup (K : PySem.W.Frag) (n : Nat) (t : TGs) : TG := fun v σ H Q => ∃ a xs, v = .ref a ∧ SqT K H a xs ∧ xs.length = n ∧ t xs σ H Q
theorem pg_tup {es : List Expr} {k : Nat} {t : TGs} {n : Nat} (hc : X.calm = true) (h : PGs X es t)
    (hn : (assignEach es X.env).length = n := by rfl) (hst : (assignEach es X.env).findIdx? (·.1) = none := by rfl) : PG X (.Tuple es k pos) (gTup X.K n t) := by
  intro pins s σ H v u Q I r hw
  obtain ⟨a, xs, e1, hq, hl, hw⟩ := hw
  subst e1
  cases r
  obtain ⟨its, rv, ht, hz⟩ := I.tuple hq
  refine assign_Tuple_tuple (I.ok.hd hc) ht (by simp [hn, ← hl, rv.length]) hst fun h' hx => ?_
  have I1 : Inv X pins σ H { s with heap := h' } := I.kept (t' := s.toks) fun b o e => hx b o (Nat.ne_of_lt (Heap.lt_size e)) e
  exact h pins _ σ H xs _ Q I1 (by simpa using rv) hw
/-- target = value -/
def tAsg (te : TE) (g : TG) : TS := fun D σ H => te σ H fun x H1 => g x σ H1 D.nx
theorem ps_asg {tg e : Expr} {te : TE} {g : TG} (he : PE X e te) (hg : PG X tg g) (hs : swapsWithSole [tg] e pos.line X.env = pure false := by rfl) (hw : swappedStores [tg] e X.env = pure none := by rfl)
    (h1 : (assignEach [tg] X.env).map (·.2) = [assign tg X.env] := by rfl) : PS X (.Assign [tg] e pos) (tAsg te g) := by
  intro pins s σ H D I h
  refine wpAny_Assign_stores (thn (he pins s σ H _ I h) fun v s1 ⟨x, H1, I1, r1, q1⟩ => ?_) hs hw
  rw [h1]
  exact thn (hg pins s1 σ H1 x v _ I1 r1 q1) fun _ s2 q => q
/-- name = value -/
theorem ps_set {i : Nat} {x : Str} {e : Expr} {te : TE} {pos' : Pos} (hN : X.N.Nodup) (hi : X.N[i]? = some x) (hx : Loc X.env.scope x) (he : PE X e te) (hs : swapsWith e (some (.Name x pos')) pos.line X.env = pure false := by rfl) (hf : X.fn x = true ∨ X.env.scope.names.lookup x = some .local := by first | exact .inl rfl | exact .inr rfl | assumption) :
    PS X (.Assign [.Name x pos'] e pos) (tAsg te (gName i)) := by
  intro pins s σ H D I h
  refine wpAny_Assign_Name (thn (he pins s σ H _ I h) fun v s1 ⟨y, H1, I1, r1, q1⟩ => ?_) hs
  exact store_ok I1 hN hi hx r1 (fun s2 I2 => ⟨_, H1, I2, q1⟩) hf
end

section
variable {X : Cx} {pos : Pos}
end

/-- at turn i: it yields x (the heap may grow), or it stops -/
structure It where
  go : Nat → Hp → Prop
  yld : Nat → Hp → V → Hp → Prop
  stop : Nat → Hp → Prop
/-- the iterator's own objects may turn: they are not the frame's, not pinned, younger than the entry (or a comprehension's own) -/
def FpOk (X : Cx) (pins : List (Addr × Obj)) (H : Hp) (b : Addr) : Prop :=
  H b = none ∧ b ≠ X.env.locals ∧ b ∉ X.fs ∧ (b ∈ X.ex ∨ X.s₀.heap.objs.size ≤ b) ∧ (∀ x c, X.env.cells.lookup x = some c → c ≠ b) ∧ ∀ p ∈ X.pn ++ pins, p.1 ≠ b
theorem Inv.fpOk {X : Cx} {pins : List (Addr × Obj)} {σ : St} {H H' : Hp} {s : Shared} {b : Addr} (I : Inv X pins σ H s) (hb : s.heap.objs.size ≤ b) (hn : H' b = none) : FpOk X pins H' b := by
  refine ⟨hn, Nat.ne_of_gt (Nat.lt_of_lt_of_le I.lt hb), I.nofs hb, .inr (Nat.le_trans I.sz hb), fun x c e z => ?_, fun p hp z => ?_⟩
  · obtain ⟨v, q⟩ := I.cell x c e
    exact absurd (Nat.lt_of_lt_of_le q.lt (by rw [z]; exact hb)) (Nat.lt_irrefl _)
  · exact absurd (Nat.lt_of_lt_of_le (Heap.lt_size (I.pin p hp).1) (by rw [z]; exact hb)) (Nat.lt_irrefl _)
structure Turn (P : Program) (w : World) (K : PySem.W.Frag) (tg : Expr) (J : It) (fp : List Addr) (it : Addr) (tn : Nat → Heap → Prop) : Prop where
  mem : it ∈ fp
  obj : ∀ i h, tn i h → ∀ b ∈ fp, ∃ o, h.get? b = some o ∧ ∀ v, o.data ≠ .cell v
  keep : ∀ i h h', tn i h → (∀ b ∈ fp, ∀ o, h.get? b = some o → h'.get? b = some o) → tn i h'
  item : ∀ (X : Cx), X.prog = P → X.w = w → X.K = K → X.calm = true → ∀ (i : Nat) (pins : List (Addr × Obj)) (s : Shared) (σ : St) (H : Hp) (E : Value → Shared → Prop), Inv X pins σ H s → (∀ b ∈ fp, FpOk X pins H b) → tn i s.heap → J.go i H →
    wpAny (model P w) X.A (pyNext (.ref it)) (fun r s1 => ∃ u, r = some u ∧
      wpAny (model P w) X.A (letOwnedTupleGo tg (.ref it) u) (fun _ s2 => ∃ x H', Inv X pins σ H' s2 ∧ RelV x u ∧ J.yld i H x H' ∧ tn (i + 1) s2.heap ∧ ∀ b ∈ fp, H' b = none) E s1) E s
  done : ∀ (X : Cx), X.prog = P → X.w = w → X.K = K → X.calm = true → ∀ (i : Nat) (pins : List (Addr × Obj)) (s : Shared) (σ : St) (H : Hp) (E : Value → Shared → Prop), Inv X pins σ H s → (∀ b ∈ fp, FpOk X pins H b) → tn i s.heap → J.stop i H →
    wpAny (model P w) X.A (pyNext (.ref it)) (fun r s1 => r = none ∧ Inv X pins σ H s1) E s
  self : ∀ (A : Around) (i : Nat) (s : Shared) (Q : Value → Shared → Prop) (E : Value → Shared → Prop), tn i s.heap → Q (.ref it) s → wpAny (model P w) A (pyIter (.ref it)) Q E s
abbrev TI := St → Hp → (It → Hp → Prop) → Prop
/-- an iterator has come -/
def PIE (X : Cx) (pins : List (Addr × Obj)) (σ : St) (tg : Expr) (R : It → Hp → Prop) (itv : Value) (s2 : Shared) : Prop :=
  ∃ (it : Addr) (fp : List Addr) (tn : Nat → Heap → Prop) (J : It) (H' : Hp), itv = .ref it ∧ Inv X pins σ H' s2 ∧ Turn X.prog X.w X.K tg J fp it tn ∧ tn 0 s2.heap ∧ (∀ b ∈ fp, FpOk X pins H' b) ∧ R J H'
def PI (X : Cx) (tg iter : Expr) (wi : TI) : Prop :=
  ∀ (pins : List (Addr × Obj)) (s : Shared) (σ : St) (H : Hp) (R : It → Hp → Prop), Inv X pins σ H s → wi σ H R →
    wpAny (model X.prog X.w) X.A (eval iter X.env) (fun v s1 => wpAny (model X.prog X.w) X.A (pyIter v) (PIE X pins σ tg R) X.xe s1) X.xe s

/-- the step ahead of the store is nothing for an iterator that keeps no tuple -/
theorem go_of {M : Model} {A : Around} {E : Value → Shared → Prop} {s : Shared} {tg : Expr} {it : Addr} {u : Value} {o : Obj} {n : String} {vs : Array Value} {Q : Unit → Shared → Prop} (ho : s.heap.get? it = some o) (hc : o.cls = .type n) (hd : o.data = .fields vs)
    (hn : ["enumerate", "zip", "dict_itemiterator", "dict_reverseitemiterator", "odict_iterator", "itertools.zip_longest", "itertools.pairwise"].contains n = false) (hQ : Q () s) : wpAny M A (letOwnedTupleGo tg (.ref it) u) Q E s := by
  unfold letOwnedTupleGo
  cases tg <;> first
    | exact wpAny_pure hQ
    | (cases u <;> first
        | exact wpAny_pure hQ
        | (refine wpAny_bind (wpAny_load ho ?_)
           rw [hc, hd]
           show wpAny M A (if (["enumerate", "zip", "dict_itemiterator", "dict_reverseitemiterator", "odict_iterator", "itertools.zip_longest", "itertools.pairwise"].contains n && vs[0]? == some (rawInt _)) = true then _ else _) Q E s
           rw [if_neg (by intro h; rw [hn, Bool.false_and] at h; cases h)]
           exact wpAny_pure hQ))

/-- the list at a, as it stands at each turn (a loop may append to it) -/
def Itl (K : PySem.W.Frag) (a : Addr) : It :=
  ⟨fun i H => ∃ xs x, SqL K H a xs ∧ xs[i]? = some x, fun i H x H' => H' = H ∧ ∀ xs, SqL K H a xs → xs[i]? = some x, fun i H => ∃ xs, SqL K H a xs ∧ xs.length ≤ i⟩
def Itt (K : PySem.W.Frag) (a : Addr) : It :=
  ⟨fun i H => ∃ xs x, SqT K H a xs ∧ xs[i]? = some x, fun i H x H' => H' = H ∧ ∀ xs, SqT K H a xs → xs[i]? = some x, fun i H => ∃ xs, SqT K H a xs ∧ xs.length ≤ i⟩
/-- lo, lo + 1, .. (n of them) -/
def Itr (lo : Int) (n : Nat) : It := ⟨fun i _ => i < n, fun i H x H' => H' = H ∧ x = .int (lo + i), fun i _ => n ≤ i⟩
theorem turn_list {P : Program} {w : World} {K : PySem.W.Frag} {tg : Expr} (a it : Addr) : Turn P w K tg (Itl K a) [it] it (fun i h => h.IsListIter it a i) where
  mem := by simp
  obj := fun i h st b hb => by
    have e : b = it := by simpa using hb
    subst e
    obtain ⟨o, e, c, d⟩ := st
    exact ⟨o, e, fun v z => by rw [d] at z; cases z⟩
  keep := fun i h h' st k => st.at fun o e => k it (by simp) o e
  item := by
    intro X hP hw hK hc i pins s σ H E I hf st hg
    subst hP hw hK
    obtain ⟨xs, x, hq, hx⟩ := hg
    obtain ⟨its, rv, p, hz⟩ := I.list hq
    obtain ⟨u, hu, ru⟩ := rv.get hx
    obtain ⟨f0, f1, f2, f3, f4, f5⟩ := hf it (by simp)
    refine wpAny_pyNext_list_item st p.isList (x := u) (by simpa using hu) fun h' st' sb => ?_
    have I1 : Inv X pins σ H { s with heap := h' } := I.turned (t' := s.toks) (fun b o hb e => (sb.2 b hb).trans e) f0 f1 f3 f4 f5
    obtain ⟨o, e, c, d⟩ := id st'
    exact ⟨u, rfl, go_of (s := { s with heap := h' }) e c d (by decide) ⟨x, H, I1, ru, ⟨rfl, fun ys hy => by rw [I.list_inj hy hq]; exact hx⟩, st', fun b hb => (hf b hb).1⟩⟩
  done := by
    intro X hP hw hK hc i pins s σ H E I hf st hg
    subst hP hw hK
    obtain ⟨xs, hq, hx⟩ := hg
    obtain ⟨its, rv, p, hz⟩ := I.list hq
    obtain ⟨f0, f1, f2, f3, f4, f5⟩ := hf it (by simp)
    have hl := rv.length
    exact wpAny_pyNext_list_end (I.ok.hd hc) st p.isList (by simp; omega) fun h' eb => ⟨rfl, I.turned (t' := s.toks) (fun b o hb e => eb b o hb e) f0 f1 f3 f4 f5⟩
  self := fun _ _ _ _ _ st h => wpAny_pyIter_listiter st h
theorem turn_tuple {P : Program} {w : World} {K : PySem.W.Frag} {tg : Expr} (a it : Addr) : Turn P w K tg (Itt K a) [it] it (fun i h => h.IsTupleIter it a i) where
  mem := by simp
  obj := fun i h st b hb => by
    have e : b = it := by simpa using hb
    subst e
    obtain ⟨o, e, c, d⟩ := st
    exact ⟨o, e, fun v z => by rw [d] at z; cases z⟩
  keep := fun i h h' st k => st.at fun o e => k it (by simp) o e
  item := by
    intro X hP hw hK hc i pins s σ H E I hf st hg
    subst hP hw hK
    obtain ⟨xs, x, hq, hx⟩ := hg
    obtain ⟨its, rv, p, hz⟩ := I.tuple hq
    obtain ⟨u, hu, ru⟩ := rv.get hx
    obtain ⟨f0, f1, f2, f3, f4, f5⟩ := hf it (by simp)
    refine wpAny_pyNext_tuple_item st (show s.heap.IsTuple a its.toArray from p) (x := u) (by simpa using hu) fun h' st' sb => ?_
    have I1 : Inv X pins σ H { s with heap := h' } := I.turned (t' := s.toks) (fun b o hb e => (sb.2 b hb).trans e) f0 f1 f3 f4 f5
    obtain ⟨o, e, c, d⟩ := id st'
    exact ⟨u, rfl, go_of (s := { s with heap := h' }) e c d (by decide) ⟨x, H, I1, ru, ⟨rfl, fun ys hy => by rw [I.tuple_inj hy hq]; exact hx⟩, st', fun b hb => (hf b hb).1⟩⟩
  done := by
    intro X hP hw hK hc i pins s σ H E I hf st hg
    subst hP hw hK
    obtain ⟨xs, hq, hx⟩ := hg
    obtain ⟨its, rv, p, hz⟩ := I.tuple hq
    obtain ⟨f0, f1, f2, f3, f4, f5⟩ := hf it (by simp)
    have hl := rv.length
    exact wpAny_pyNext_tuple_end (I.ok.hd hc) st (show s.heap.IsTuple a its.toArray from p) (by simp; omega) fun h' eb => ⟨rfl, I.turned (t' := s.toks) (fun b o hb e => eb b o hb e) f0 f1 f3 f4 f5⟩
  self := fun _ _ _ _ _ st h => wpAny_pyIter_tupleiter st h
theorem turn_range {P : Program} {w : World} {K : PySem.W.Frag} {tg : Expr} (it : Addr) (lo : Int) (n : Nat) : Turn P w K tg (Itr lo n) [it] it (fun i h => IsRangeIter h it (lo + (i : Nat) * 1) ((n : Int) - (i : Nat)) 1) where
  mem := by simp
  obj := fun i h st b hb => by
    have e : b = it := by simpa using hb
    subst e
    exact ⟨_, st, fun v z => by
      have z' : Data.fields _ = Data.cell v := z
      cases z'⟩
  keep := fun i h h' st k => k it (by simp) _ st
  item := by
    intro X hP hw hK hc i pins s σ H E I hf st hg
    subst hP hw hK
    obtain ⟨f0, f1, f2, f3, f4, f5⟩ := hf it (by simp)
    have W := Walks.range (prog := X.prog) (w := X.w) (I.ok.hd hc) it lo 1 n
    refine W.item i s _ _ hg st fun v h' tk hv st' kk => ?_
    obtain ⟨t, rfl⟩ := hv
    have I1 : Inv X pins σ H { s with heap := h', toks := tk } := I.turned (fun b o hb e => kk b o (by simpa using hb) e) f0 f1 f3 f4 f5
    refine ⟨_, rfl, go_of (s := { s with heap := h', toks := tk }) (n := "range_iterator") st' rfl rfl (by decide) ⟨.int (lo + i), H, I1, ⟨t, ?_⟩, ⟨rfl, rfl⟩, st', fun b hb => (hf b hb).1⟩⟩
    rw [Int.mul_one]
  done := by
    intro X hP hw hK hc i pins s σ H E I hf st hg
    subst hP hw hK
    obtain ⟨f0, f1, f2, f3, f4, f5⟩ := hf it (by simp)
    exact wpAny_pyNext_range_end (I.ok.hd hc) st (by have : n ≤ i := hg; omega) fun h' eb => ⟨rfl, I.turned (t' := s.toks) (fun b o hb e => eb b o hb e) f0 f1 f3 f4 f5⟩
  self := fun _ _ _ _ _ st h => wpAny_pyIter_rangeiter st h
end L2

namespace L2
open PySem PySem.Spec PyProof.Rows
section
variable {X : Cx} {tg : Expr}
def iList (K : PySem.W.Frag) (tl : TE) : TI := fun σ H R => tl σ H fun x H1 => ∃ a, x = .ref a ∧ (∃ xs, SqL K H1 a xs) ∧ R (Itl K a) H1
def iTup (K : PySem.W.Frag) (tl : TE) : TI := fun σ H R => tl σ H fun x H1 => ∃ a, x = .ref a ∧ (∃ xs, SqT K H1 a xs) ∧ R (Itt K a) H1
theorem pi_list {l : Expr} {tl : TE} (hl : PE X l tl) : PI X tg l (iList X.K tl) := by
  intro pins s σ H R I h
  refine thn (hl pins s σ H _ I h) fun v s1 ⟨x, H1, I1, r1, q1⟩ => ?_
  obtain ⟨a, e, ⟨xs, hq⟩, q⟩ := q1
  subst e
  cases r1
  obtain ⟨its, rv, p, hz⟩ := I1.list hq
  refine wpAny_pyIter_list p.isList ?_
  refine ⟨s1.heap.objs.size, [s1.heap.objs.size], _, _, H1, rfl, I1.kept (t' := s1.toks) fun b o e => Heap.get?_push_of_some _ e, turn_list a _, ⟨_, Heap.get?_push_size _ rfl, rfl, rfl⟩, fun b hb => ?_, q⟩
  have e : b = s1.heap.objs.size := by simpa using hb
  subst e
  exact I1.fpOk (Nat.le_refl _) (I1.hok.fresh (Nat.le_refl _))
theorem pi_tup {l : Expr} {tl : TE} (hl : PE X l tl) : PI X tg l (iTup X.K tl) := by
  intro pins s σ H R I h
  refine thn (hl pins s σ H _ I h) fun v s1 ⟨x, H1, I1, r1, q1⟩ => ?_
  obtain ⟨a, e, ⟨xs, hq⟩, q⟩ := q1
  subst e
  cases r1
  obtain ⟨its, rv, p, hz⟩ := I1.tuple hq
  refine wpAny_pyIter_tuple (show s1.heap.IsTuple a its.toArray from p) ?_
  refine ⟨s1.heap.objs.size, [s1.heap.objs.size], _, _, H1, rfl, I1.kept (t' := s1.toks) fun b o e => Heap.get?_push_of_some _ e, turn_tuple a _, ⟨_, Heap.get?_push_size _ rfl, rfl, rfl⟩, fun b hb => ?_, q⟩
  have e : b = s1.heap.objs.size := by simpa using hb
  subst e
  exact I1.fpOk (Nat.le_refl _) (I1.hok.fresh (Nat.le_refl _))
/-- a range object just made, walked -/
theorem range_it {pins : List (Addr × Obj)} {σ : St} {H : Hp} {s : Shared} {R : It → Hp → Prop} {E : Value → Shared → Prop} {lo hi : Int} {t u v : Tok} {tk : Nat} (I : Inv X pins σ H s) (h1 : -(2 ^ 62) ≤ lo) (h2 : lo < 2 ^ 62) (h3 : -(2 ^ 62) ≤ hi) (h4 : hi < 2 ^ 62)
    (q : R (Itr lo (hi - lo).toNat) H) : wpAny (model X.prog X.w) X.A (pyIter (.ref s.heap.objs.size)) (PIE X pins σ tg R) E { s with heap := s.heap.push { cls := .type "range", data := .fields #[.int lo t, .int hi u, .int 1 v] }, toks := tk } := by
  refine wpAny_pyIter_range (IsRange.new ..) (small_one h1 h2 h3 h4) ?_
  have I1 : Inv X pins σ H { s with heap := s.heap.push { cls := .type "range", data := .fields #[.int lo t, .int hi u, .int 1 v] }, toks := tk } := I.kept fun b o e => Heap.get?_push_of_some _ e
  refine ⟨(s.heap.push { cls := .type "range", data := .fields #[.int lo t, .int hi u, .int 1 v] }).objs.size, [(s.heap.push { cls := .type "range", data := .fields #[.int lo t, .int hi u, .int 1 v] }).objs.size], _, _, H, rfl,
    I1.kept (t' := tk) fun b o e => Heap.get?_push_of_some _ e, turn_range _ lo (hi - lo).toNat, ?_, fun b hb => ?_, q⟩
  · have e1 : lo + ((0 : Nat) : Int) * 1 = lo := by simp
    have e2 : (((hi - lo).toNat : Nat) : Int) - ((0 : Nat) : Int) = Builtin.Range.rangeSize lo hi 1 := by rw [rangeSize_one]; split <;> omega
    show IsRangeIter _ _ (lo + ((0 : Nat) : Int) * 1) ((((hi - lo).toNat : Nat) : Int) - ((0 : Nat) : Int)) 1
    rw [e1, e2]
    exact Heap.get?_push_size _ rfl
  · have e : b = (s.heap.push { cls := .type "range", data := .fields #[.int lo t, .int hi u, .int 1 v] }).objs.size := by simpa using hb
    subst e
    exact I1.fpOk (Nat.le_refl _) (I1.hok.fresh (Nat.le_refl _))
def iRng1 (ta : TA) : TI := fun σ H R => ta σ H fun vs H1 => ∃ j : Int, vs = [.int j] ∧ -(2 ^ 62) ≤ j ∧ j < 2 ^ 62 ∧ R (Itr 0 j.toNat) H1
theorem pi_range1 {a : Expr} {ta : TA} {p pos : Pos} (hg : Gl X "range") (hm : X.mg "range" = none) (ha : PA X [a] ta) (hs : starEach [a] X.env = [(false, eval a X.env)] := by rfl) : PI X tg (.Call (.Name "range" p) [a] [] pos) (iRng1 ta) := by
  intro pins s σ H R I h
  refine Call_ (ld_blt I hg hm boot_range (PyProof.Rows.callWith_type1 (thn (ha pos pins s σ H _ I h) fun us s1 ⟨vs, H1, I1, r1, q1⟩ => ?_) hs rfl))
  obtain ⟨j, e, q1, q2, q⟩ := q1
  subst e
  cases r1 with
  | cons r rr =>
    cases rr
    obtain ⟨t, rfl⟩ := r
    exact call_range_1 (range_it I1 (by omega) (by omega) q1 q2 (by simpa using q))
/-- W: the invariant by the turn and a measure; N: what the body is to reach -/
def tFor (wi : TI) (g : TG) (tb : TS) : TS := fun D σ H => wi σ H fun J H1 => ∃ W : Nat → Nat → St → Hp → Prop, (∃ m, W 0 m σ H1) ∧ ∀ i m σ H, W i m σ H →
  (J.stop i H ∧ D.nx σ H) ∨ (J.go i H ∧ ∃ N : St → Hp → Prop, (∀ σ' H', N σ' H' → ∃ m', m' < m ∧ W (i + 1) m' σ' H') ∧ ∀ x H', J.yld i H x H' → g x σ H' fun σ2 H2 => tb { D with nx := N, ct := N, bk := D.nx } σ2 H2)
/-- the records at fp as they stand -/
def pinsAt (fp : List Addr) (h : Heap) : List (Addr × Obj) := fp.filterMap fun b => (h.get? b).map fun o => (b, o)
theorem mem_pinsAt {fp : List Addr} {h : Heap} {b : Addr} {o : Obj} (hb : b ∈ fp) (e : h.get? b = some o) : (b, o) ∈ pinsAt fp h := List.mem_filterMap.mpr ⟨b, hb, by rw [e]; rfl⟩
theorem of_pinsAt {fp : List Addr} {h : Heap} {p : Addr × Obj} (hp : p ∈ pinsAt fp h) : p.1 ∈ fp ∧ h.get? p.1 = some p.2 := by
  obtain ⟨b, hb, e⟩ := List.mem_filterMap.mp hp
  cases q : h.get? b with
  | none => rw [q] at e; cases e
  | some o =>
    rw [q] at e
    have e' : (b, o) = p := Option.some.inj e
    subst e'
    exact ⟨hb, q⟩
theorem Inv.pinned {pins : List (Addr × Obj)} {σ : St} {H : Hp} {s : Shared} {fp : List Addr} (I : Inv X pins σ H s) (hf : ∀ b ∈ fp, FpOk X pins H b) (ho : ∀ b ∈ fp, ∃ o, s.heap.get? b = some o ∧ ∀ v, o.data ≠ .cell v) : Inv X (pins ++ pinsAt fp s.heap) σ H s :=
  I.pins_of fun p hp => (List.mem_append.mp hp).elim (fun z => I.pin p (List.mem_append_right _ z)) fun z => by
    obtain ⟨hb, e⟩ := of_pinsAt z
    obtain ⟨f0, f1, f2, _⟩ := hf p.1 hb
    obtain ⟨o, e', d⟩ := ho p.1 hb
    rw [e] at e'; cases e'
    exact ⟨e, f0, f1, f2, d⟩
theorem Inv.unpinned {pins pl : List (Addr × Obj)} {σ : St} {H : Hp} {s : Shared} (I : Inv X (pins ++ pl) σ H s) : Inv X pins σ H s := I.pins_of fun p hp => I.pin p (List.mem_append_right _ (List.mem_append_left _ hp))
theorem ps_for {iter : Expr} {body : List Stmt} {wi : TI} {g : TG} {tb : TS} {pos : Pos} (hp : PassesOwn (model X.prog X.w) X.A X.env X.xe) (hc : X.calm = true) (hi : PI X tg iter wi) (hg : PG X tg g) (hb : PSs X body tb)
    (hs : ∀ x, foldedSetIterable iter X.env x = pure x := by intro _; rfl) : PS X (.For tg iter body [] pos) (tFor wi g tb) := by
  intro pins s σ H D I h
  refine wpAny_For (thn (hi pins s σ H _ I h) fun v s1 h1 => thn h1 fun itv s2 h2 => ?_) hs
  obtain ⟨it, fp, tn, J, H2, e, I2, T, st2, f2, W, ⟨m0, w0⟩, turn⟩ := h2
  subst e
  -- what stays true of the iterator's objects through the loop
  have stat : ∀ {H' : Hp}, (∀ b ∈ fp, H' b = none) → ∀ b ∈ fp, FpOk X pins H' b := fun hn b hb => ⟨hn b hb, (f2 b hb).2⟩
  refine codeAny_forLoop_any (fun n s' => ∃ i σ' H', Inv X pins σ' H' s' ∧ tn i s'.heap ∧ (∀ b ∈ fp, H' b = none) ∧ W i n σ' H') ?_ m0 ⟨0, σ, H2, I2, st2, fun b hb => (f2 b hb).1, w0⟩
  rintro n s3 ⟨i, σ3, H3, I3, st3, fr3, w3⟩
  rcases turn i n σ3 H3 w3 with ⟨stop, qn⟩ | ⟨go, N, hN, step⟩
  · refine wpAny_passesOwn hp (thn (T.done X rfl rfl rfl hc i pins s3 σ3 H3 X.xe I3 (stat fr3) st3 stop) fun r s4 ⟨hr, I4⟩ => ?_)
    subst hr
    exact wpAny_execs_nil ⟨σ3, H3, I4, qn⟩
  · refine wpAny_passesOwn hp (thn (T.item X rfl rfl rfl hc i pins s3 σ3 H3 X.xe I3 (stat fr3) st3 go) fun r s4 ⟨u, hr, h4⟩ => ?_)
    subst hr
    refine wpAny_passesOwn hp (thn h4 fun _ s5 ⟨x, H5, I5, r5, y5, st5, fr5⟩ => ?_)
    have I5' := I5.pinned (stat fr5) (T.obj _ _ st5)
    refine wpAny_passesOwn hp (thn (hg _ s5 σ3 H5 x u _ I5' r5 (step x H5 y5)) fun _ s6 ⟨σ6, H6, I6, q6⟩ => ?_)
    refine wpAny_passesOwn hp (thn (hb _ s6 σ6 H6 _ I6 q6) fun f s7 q7 => ?_)
    have again : ∀ {σ7 : St} {H7 : Hp}, Inv X (pins ++ pinsAt fp s5.heap) σ7 H7 s7 → N σ7 H7 → ∃ m, m < n ∧ ∃ i σ' H', Inv X pins σ' H' s7 ∧ tn i s7.heap ∧ (∀ b ∈ fp, H' b = none) ∧ W i m σ' H' := fun {σ7 H7} I7 n7 => by
      obtain ⟨m', hm, w7⟩ := hN σ7 H7 n7
      refine ⟨m', hm, i + 1, σ7, H7, I7.unpinned, T.keep _ _ _ st5 fun b hb o e => (I7.pin (b, o) (List.mem_append_right _ (List.mem_append_right _ (mem_pinsAt hb e)))).1, fun b hb => ?_, w7⟩
      obtain ⟨o, e, d⟩ := T.obj _ _ st5 b hb
      exact (I7.pin (b, o) (List.mem_append_right _ (List.mem_append_right _ (mem_pinsAt hb e)))).2.1
    cases f with
    | next => obtain ⟨σ7, H7, I7, n7⟩ := q7; exact again I7 n7
    | cont => obtain ⟨σ7, H7, I7, n7⟩ := q7; exact again I7 n7
    | brk => obtain ⟨σ7, H7, I7, q7⟩ := q7; exact ⟨σ7, H7, I7.unpinned, q7⟩
    | ret v => obtain ⟨x7, σ7, H7, I7, r7, q7⟩ := q7; exact ⟨x7, σ7, H7, I7.unpinned, r7, q7⟩
end

/-- over a list that the body leaves as it is -/
theorem for_list {K : PySem.W.Frag} {a : Addr} {xs : List V} {g : TG} {tb : TS} {D : Ends} {σ : St} {H : Hp} (Pv : Nat → St → Hp → Prop) (h0 : Pv 0 σ H) (hl : ∀ i σ H, i ≤ xs.length → Pv i σ H → SqL K H a xs)
    (hs : ∀ i x σ H, xs[i]? = some x → Pv i σ H → g x σ H fun σ2 H2 => tb { D with nx := Pv (i + 1), ct := Pv (i + 1), bk := D.nx } σ2 H2) (hd : ∀ σ H, Pv xs.length σ H → D.nx σ H) :
    ∃ W : Nat → Nat → St → Hp → Prop, (∃ m, W 0 m σ H) ∧ ∀ i m σ H, W i m σ H →
      ((Itl K a).stop i H ∧ D.nx σ H) ∨ ((Itl K a).go i H ∧ ∃ N : St → Hp → Prop, (∀ σ' H', N σ' H' → ∃ m', m' < m ∧ W (i + 1) m' σ' H') ∧ ∀ x H', (Itl K a).yld i H x H' → g x σ H' fun σ2 H2 => tb { D with nx := N, ct := N, bk := D.nx } σ2 H2) := by
  refine ⟨fun i m σ H => m = xs.length - i ∧ i ≤ xs.length ∧ Pv i σ H, ⟨xs.length, by simp, Nat.zero_le _, h0⟩, ?_⟩
  rintro i m σ H ⟨rfl, hi, p⟩
  have q := hl i σ H hi p
  by_cases hlt : i < xs.length
  · refine .inr ⟨⟨xs, xs[i], q, by simp [hlt]⟩, Pv (i + 1), fun σ' H' p' => ⟨xs.length - (i + 1), by omega, rfl, hlt, p'⟩, fun x H' y => ?_⟩
    obtain ⟨e, y⟩ := y
    subst e
    exact hs i x σ _ (y xs q) p
  · have e : i = xs.length := by omega
    subst e
    exact .inl ⟨⟨xs, q, Nat.le_refl _⟩, hd σ H p⟩
theorem for_range {lo : Int} {n : Nat} {g : TG} {tb : TS} {D : Ends} {σ : St} {H : Hp} (Pv : Nat → St → Hp → Prop) (h0 : Pv 0 σ H)
    (hs : ∀ i σ H, i < n → Pv i σ H → g (.int (lo + i)) σ H fun σ2 H2 => tb { D with nx := Pv (i + 1), ct := Pv (i + 1), bk := D.nx } σ2 H2) (hd : ∀ σ H, Pv n σ H → D.nx σ H) :
    ∃ W : Nat → Nat → St → Hp → Prop, (∃ m, W 0 m σ H) ∧ ∀ i m σ H, W i m σ H →
      ((Itr lo n).stop i H ∧ D.nx σ H) ∨ ((Itr lo n).go i H ∧ ∃ N : St → Hp → Prop, (∀ σ' H', N σ' H' → ∃ m', m' < m ∧ W (i + 1) m' σ' H') ∧ ∀ x H', (Itr lo n).yld i H x H' → g x σ H' fun σ2 H2 => tb { D with nx := N, ct := N, bk := D.nx } σ2 H2) := by
  refine ⟨fun i m σ H => m = n - i ∧ i ≤ n ∧ Pv i σ H, ⟨n, by simp, Nat.zero_le _, h0⟩, ?_⟩
  rintro i m σ H ⟨rfl, hi, p⟩
  by_cases hlt : i < n
  · refine .inr ⟨hlt, Pv (i + 1), fun σ' H' p' => ⟨n - (i + 1), by omega, rfl, hlt, p'⟩, fun x H' y => ?_⟩
    obtain ⟨e, y⟩ := y
    subst e y
    exact hs i σ _ hlt p
  · have e : i = n := by omega
    subst e
    exact .inl ⟨Nat.le_refl _, hd σ H p⟩
end L2

namespace L2
open PySem PySem.Spec PyProof.Rows

abbrev R2 := V → V → Hp → VK → Prop
/-- a two-place operation on values: f is binaryOp op, inplaceOp op or compareOp op -/
def OpR (X : Cx) (f : Value → Value → Sem Value) (r : R2) : Prop :=
  ∀ (pins : List (Addr × Obj)) (s : Shared) (σ : St) (H : Hp) (x y : V) (v u : Value) (Q : VK), Inv X pins σ H s → RelV x v → RelV y u → r x y H Q →
    wpAny (model X.prog X.w) X.A (f v u) (EP X pins σ Q) X.xe s
/-- a one-place operation -/
def UnR (X : Cx) (f : Value → Sem Value) (r : V → Hp → VK → Prop) : Prop :=
  ∀ (pins : List (Addr × Obj)) (s : Shared) (σ : St) (H : Hp) (x : V) (v : Value) (Q : VK), Inv X pins σ H s → RelV x v → r x H Q →
    wpAny (model X.prog X.w) X.A (f v) (EP X pins σ Q) X.xe s
/-- a call of a value that is known (a builtin, a type) with values -/
def CallR (X : Cx) (f : Value) (r : List V → Hp → VK → Prop) : Prop :=
  ∀ (pins : List (Addr × Obj)) (s : Shared) (σ : St) (H : Hp) (xs : List V) (us : List Value) (Q : VK), Inv X pins σ H s → Vals xs us → r xs H Q →
    wpAny (model X.prog X.w) X.A (call f us) (EP X pins σ Q) X.xe s
def tOp (r : R2) (ta tb : TE) : TE := fun σ H Q => ta σ H fun x H1 => tb σ H1 fun y H2 => r x y H2 Q
def tUn (r : V → Hp → VK → Prop) (ta : TE) : TE := fun σ H Q => ta σ H fun x H1 => r x H1 Q
/-- ints in, under C, and a value out -/
def rI (C : Int → Int → Prop) (g : Int → Int → V) : R2 := fun x y H Q => ∃ i j, x = .int i ∧ y = .int j ∧ C i j ∧ Q (g i j) H
def rI0 (g : Int → Int → V) : R2 := fun x y H Q => ∃ i j, x = .int i ∧ y = .int j ∧ Q (g i j) H
def rU (g : Int → V) : V → Hp → VK → Prop := fun x H Q => ∃ i, x = .int i ∧ Q (g i) H

section
variable {X : Cx} {a b c : Expr} {ta tb tc : TE} {pos : Pos}

theorem binT (ha : PE X a ta) (hb : PE X b tb) {pins : List (Addr × Obj)} {s : Shared} {σ : St} {H : Hp} {R : V → V → Hp → Prop} (I : Inv X pins σ H s)
    (h : ta σ H fun x H1 => tb σ H1 fun y H2 => R x y H2) {Q : Value → Shared → Prop} {f : Value → Value → Sem Value}
    (hf : ∀ v u s2 x y H2, Inv X pins σ H2 s2 → RelV x v → RelV y u → R x y H2 → wpAny (model X.prog X.w) X.A (f v u) Q X.xe s2) :
    wpAny (model X.prog X.w) X.A (eval a X.env) (fun v s₁ => wpAny (model X.prog X.w) X.A (eval b X.env) (fun u s₂ => wpAny (model X.prog X.w) X.A (f v u) Q X.xe s₂) X.xe s₁) X.xe s := by
  refine thn (ha pins s σ H _ I h) fun v s1 ⟨x, H1, I1, r1, q1⟩ => ?_
  refine thn (hb pins s1 σ H1 _ I1 q1) fun u s2 ⟨y, H2, I2, r2, q2⟩ => ?_
  exact hf v u s2 x y H2 I2 r1 r2 q2

theorem pe_op {op : Operator} {r : R2} (ho : OpR X (binaryOp op) r) (ha : PE X a ta) (hb : PE X b tb) : PE X (.BinOp a op b pos) (tOp r ta tb) := by
  intro pins s σ H Q I h
  exact wpAny_BinOp (binT ha hb I h fun v u s2 x y H2 I2 rx ry q => ho pins s2 σ H2 x y v u Q I2 rx ry q)
theorem pe_un {op : UnaryOp} {r : V → Hp → VK → Prop} (ho : UnR X (unaryOp op) r) (ha : PE X a ta) : PE X (.UnaryOp op a pos) (tUn r ta) := by
  intro pins s σ H Q I h
  exact UnaryOp_ (thn (ha pins s σ H _ I h) fun v s1 ⟨x, H1, I1, r1, q1⟩ => ho pins s1 σ H1 x v Q I1 r1 q1)
theorem opI {f : Value → Value → Sem Value} {C : Int → Int → Prop} {g : Int → Int → Int}
    (rule : ∀ (i j : Int) (t u : Tok) (s : Shared) (Q : Value → Shared → Prop) (E : Value → Shared → Prop), C i j → Q (.int (g i j) s.toks) { s with toks := s.toks + 1 } → wpAny (model X.prog X.w) X.A (f (.int i t) (.int j u)) Q E s) :
    OpR X f (rI C fun i j => .int (g i j)) := by
  intro pins s σ H x y v u Q I rx ry h
  obtain ⟨i, j, rfl, rfl, hc, q⟩ := h
  obtain ⟨t, rfl⟩ := rx
  obtain ⟨t', rfl⟩ := ry
  exact rule i j t t' s _ _ hc ⟨.int (g i j), H, I.tok _, ⟨_, rfl⟩, q⟩
theorem opI0 {f : Value → Value → Sem Value} {g : Int → Int → Int}
    (rule : ∀ (i j : Int) (t u : Tok) (s : Shared) (Q : Value → Shared → Prop) (E : Value → Shared → Prop), Q (.int (g i j) s.toks) { s with toks := s.toks + 1 } → wpAny (model X.prog X.w) X.A (f (.int i t) (.int j u)) Q E s) :
    OpR X f (rI0 fun i j => .int (g i j)) := by
  intro pins s σ H x y v u Q I rx ry h
  obtain ⟨i, j, rfl, rfl, q⟩ := h
  obtain ⟨t, rfl⟩ := rx
  obtain ⟨t', rfl⟩ := ry
  exact rule i j t t' s _ _ ⟨.int (g i j), H, I.tok _, ⟨_, rfl⟩, q⟩
theorem opB0 {f : Value → Value → Sem Value} {g : Int → Int → Bool}
    (rule : ∀ (i j : Int) (t u : Tok) (s : Shared) (Q : Value → Shared → Prop) (E : Value → Shared → Prop), Q (.bool (g i j)) s → wpAny (model X.prog X.w) X.A (f (.int i t) (.int j u)) Q E s) :
    OpR X f (rI0 fun i j => .bl (g i j)) := by
  intro pins s σ H x y v u Q I rx ry h
  obtain ⟨i, j, rfl, rfl, q⟩ := h
  obtain ⟨t, rfl⟩ := rx
  obtain ⟨t', rfl⟩ := ry
  exact rule i j t t' s _ _ ⟨.bl (g i j), H, I, rfl, q⟩

def CPow (i j : Int) : Prop := 0 ≤ j ∧ j ≤ 1000000 ∧ i.natAbs < 2 ^ 64
def CMul (i j : Int) : Prop := (-(2 ^ 64) < i ∧ i < 2 ^ 64) ∨ (-(2 ^ 64) < j ∧ j < 2 ^ 64)
theorem CMul.ok {i j : Int} (h : CMul i j) : IntMulOk i j := by
  rcases h with ⟨h1, h2⟩ | ⟨h1, h2⟩
  · exact .of_left (intBits_le_64 h1 h2)
  · exact .of_right (intBits_le_64 h1 h2)
theorem op_add : OpR X (binaryOp .Add) (rI0 fun i j => .int (i + j)) := opI0 fun _ _ _ _ _ _ _ q => add_int q
theorem op_sub : OpR X (binaryOp .Sub) (rI0 fun i j => .int (i - j)) := opI0 fun _ _ _ _ _ _ _ q => sub_int q
theorem op_mul : OpR X (binaryOp .Mult) (rI CMul fun i j => .int (i * j)) := opI fun _ _ _ _ _ _ _ hc q => mul_int q hc.ok
/-- % by a positive divisor of any size -/
theorem op_mod : OpR X (binaryOp .Mod) (rI (fun _ j => 0 < j) fun i j => .int (i % j)) := opI fun i j _ _ _ _ _ hc q => by
  have h1 : (0 : Int) < j := hc
  exact mod_int' (by omega) (by rw [Int.fmod_eq_emod_of_nonneg i (by omega)]; exact q)
theorem op_pow : OpR X (binaryOp .Pow) (rI CPow fun i j => .int (i ^ j.toNat)) := opI fun _ _ _ _ _ _ _ hc q => pow_int_small hc.1 hc.2.1 hc.2.2 q
theorem unI {f : Value → Sem Value} {g : Int → Int}
    (rule : ∀ (i : Int) (t : Tok) (s : Shared) (Q : Value → Shared → Prop) (E : Value → Shared → Prop), Q (.int (g i) s.toks) { s with toks := s.toks + 1 } → wpAny (model X.prog X.w) X.A (f (.int i t)) Q E s) :
    UnR X f (rU fun i => .int (g i)) := by
  intro pins s σ H x v Q I rx h
  obtain ⟨i, rfl, q⟩ := h
  obtain ⟨t, rfl⟩ := rx
  exact rule i t s _ _ ⟨.int (g i), H, I.tok _, ⟨_, rfl⟩, q⟩
theorem un_neg : UnR X (unaryOp .USub) (rU fun i => .int (-i)) := unI fun _ _ _ _ _ q => neg_int q
end

/-- the scalars that == tells apart as data does -/
def scal : V → V → Bool
  | .non, .non => true | .non, .int _ => true | .int _, .non => true | .non, .bl _ => true | .bl _, .non => true | .non, .str _ => true | .str _, .non => true
  | .int _, .int _ => true | .bl _, .bl _ => true | .str _, .str _ => true | .byt _, .byt _ => true
  | .int _, .str _ => true | .str _, .int _ => true | .bl _, .str _ => true | .str _, .bl _ => true
  | _, _ => false
def rEq : R2 := fun x y H Q => scal x y = true ∧ Q (.bl (decide (x = y))) H
def rNe : R2 := fun x y H Q => scal x y = true ∧ Q (.bl (!decide (x = y))) H

theorem dec_int {i j : Int} : decide (V.int i = V.int j) = (i == j) := by
  rw [Bool.eq_iff_iff]
  simp
theorem dec_bl {i j : Bool} : decide (V.bl i = V.bl j) = (i == j) := by
  rw [Bool.eq_iff_iff]
  simp
theorem dec_str {i j : Str} : decide (V.str i = V.str j) = (i == j) := by
  rw [Bool.eq_iff_iff]
  simp
theorem dec_byt {i j : Array UInt8} : decide (V.byt i = V.byt j) = (i.toList == j.toList) := by
  rw [Bool.eq_iff_iff]
  cases i
  cases j
  simp

section
variable {X : Cx} {a b c : Expr} {ta tb tc : TE} {pos : Pos}
theorem fin_bl {pins : List (Addr × Obj)} {σ : St} {H : Hp} {s : Shared} {Q : VK} {k k' : Bool} (I : Inv X pins σ H s) (q : Q (.bl k) H) (e : k = k') : EP X pins σ Q (.bool k') s := by
  subst e
  exact ⟨.bl k, H, I, rfl, q⟩
theorem op_eq : OpR X (compareOp .Eq) rEq := by
  intro pins s σ H x y v u Q I rx ry h
  obtain ⟨hs, q⟩ := h
  cases x with
  | non =>
    cases rx
    cases y with
    | non => cases ry; exact PySem.EqNone.eq_none_none (fin_bl I q (by simp))
    | bl j => cases ry; exact PySem.EqNone.eq_none_bool (fin_bl I q (by simp))
    | int j => obtain ⟨t', rfl⟩ := ry; exact PySem.EqNone.eq_none_int (fin_bl I q (by simp))
    | str j => obtain ⟨t', rfl⟩ := ry; exact PySem.EqNone.eq_none_str (fin_bl I q (by simp))
    | _ => exact absurd (show false = true from hs) Bool.false_ne_true
  | bl i =>
    cases rx
    cases y with
    | non => cases ry; exact PySem.EqNone.eq_bool_none (fin_bl I q (by simp))
    | bl j => cases ry; exact eq_bool (fin_bl I q dec_bl)
    | str j => obtain ⟨t', rfl⟩ := ry; exact PySem.EqMixed.eq_bool_str (fin_bl I q (by simp))
    | _ => exact absurd (show false = true from hs) Bool.false_ne_true
  | int i =>
    obtain ⟨t, rfl⟩ := rx
    cases y with
    | non => cases ry; exact PySem.EqNone.eq_int_none (fin_bl I q (by simp))
    | int j => obtain ⟨t', rfl⟩ := ry; exact eq_int (fin_bl I q dec_int)
    | str j => obtain ⟨t', rfl⟩ := ry; exact PySem.EqMixed.eq_int_str (fin_bl I q (by simp))
    | _ => exact absurd (show false = true from hs) Bool.false_ne_true
  | str i =>
    obtain ⟨t, rfl⟩ := rx
    cases y with
    | non => cases ry; exact PySem.EqNone.eq_str_none (fin_bl I q (by simp))
    | bl j => cases ry; exact PySem.EqMixed.eq_str_bool (fin_bl I q (by simp))
    | int j => obtain ⟨t', rfl⟩ := ry; exact PySem.EqMixed.eq_str_int (fin_bl I q (by simp))
    | str j => obtain ⟨t', rfl⟩ := ry; exact eq_str (fin_bl I q dec_str)
    | _ => exact absurd (show false = true from hs) Bool.false_ne_true
  | byt i =>
    obtain ⟨t, rfl⟩ := rx
    cases y with
    | byt j => obtain ⟨t', rfl⟩ := ry; exact PySem.W.eq_bytes (fin_bl I q dec_byt)
    | _ => exact absurd (show false = true from hs) Bool.false_ne_true
  | _ => cases y <;> exact absurd (show false = true from hs) Bool.false_ne_true
theorem op_ne : OpR X (compareOp .NotEq) rNe := by
  intro pins s σ H x y v u Q I rx ry h
  obtain ⟨hs, q⟩ := h
  cases x with
  | non =>
    cases rx
    cases y with
    | non => cases ry; exact PySem.EqNone.ne_none_none (fin_bl I q (by simp))
    | bl j => cases ry; exact PySem.EqNone.ne_none_bool (fin_bl I q (by simp))
    | int j => obtain ⟨t', rfl⟩ := ry; exact PySem.EqNone.ne_none_int (fin_bl I q (by simp))
    | str j => obtain ⟨t', rfl⟩ := ry; exact PySem.EqNone.ne_none_str (fin_bl I q (by simp))
    | _ => exact absurd (show false = true from hs) Bool.false_ne_true
  | bl i =>
    cases rx
    cases y with
    | non => cases ry; exact PySem.EqNone.ne_bool_none (fin_bl I q (by simp))
    | bl j => cases ry; exact ne_bool (fin_bl I q (congrArg not dec_bl))
    | str j => obtain ⟨t', rfl⟩ := ry; exact PySem.EqMixed.ne_bool_str (fin_bl I q (by simp))
    | _ => exact absurd (show false = true from hs) Bool.false_ne_true
  | int i =>
    obtain ⟨t, rfl⟩ := rx
    cases y with
    | non => cases ry; exact PySem.EqNone.ne_int_none (fin_bl I q (by simp))
    | int j => obtain ⟨t', rfl⟩ := ry; exact ne_int (fin_bl I q (congrArg not dec_int))
    | str j => obtain ⟨t', rfl⟩ := ry; exact PySem.EqMixed.ne_int_str (fin_bl I q (by simp))
    | _ => exact absurd (show false = true from hs) Bool.false_ne_true
  | str i =>
    obtain ⟨t, rfl⟩ := rx
    cases y with
    | non => cases ry; exact PySem.EqNone.ne_str_none (fin_bl I q (by simp))
    | bl j => cases ry; exact PySem.EqMixed.ne_str_bool (fin_bl I q (by simp))
    | int j => obtain ⟨t', rfl⟩ := ry; exact PySem.EqMixed.ne_str_int (fin_bl I q (by simp))
    | str j => obtain ⟨t', rfl⟩ := ry; exact ne_str (fin_bl I q (congrArg not dec_str))
    | _ => exact absurd (show false = true from hs) Bool.false_ne_true
  | byt i =>
    obtain ⟨t, rfl⟩ := rx
    cases y with
    | byt j => obtain ⟨t', rfl⟩ := ry; exact PySem.W.ne_bytes (fin_bl I q (congrArg not dec_byt))
    | _ => exact absurd (show false = true from hs) Bool.false_ne_true
  | _ => cases y <;> exact absurd (show false = true from hs) Bool.false_ne_true

theorem op_lt : OpR X (compareOp .Lt) (rI0 fun i j => .bl (decide (i < j))) := opB0 fun _ _ _ _ _ _ _ q => lt_int q
theorem op_le : OpR X (compareOp .LtE) (rI0 fun i j => .bl (decide (i ≤ j))) := opB0 fun _ _ _ _ _ _ _ q => le_int q
theorem op_gt : OpR X (compareOp .Gt) (rI0 fun i j => .bl (decide (j < i))) := opB0 fun _ _ _ _ _ _ _ q => gt_int q
theorem op_ge : OpR X (compareOp .GtE) (rI0 fun i j => .bl (decide (j ≤ i))) := opB0 fun _ _ _ _ _ _ _ q => ge_int q
/-- the one string within the other -/
theorem op_in_str : OpR X (compareOp .In) (fun x y H Q => ∃ i j, x = .str i ∧ y = .str j ∧ Q (.bl (!(Builtin.Str.occurrences j i 0 j.length 1).isEmpty)) H) := by
  intro pins s σ H x y v u Q I rx ry h
  obtain ⟨i, j, rfl, rfl, q⟩ := h
  obtain ⟨t, rfl⟩ := rx
  obtain ⟨t', rfl⟩ := ry
  exact in_str (fin_bl I q rfl)

/-- two rules for one operation: by cases -/
theorem OpR.or {f : Value → Value → Sem Value} {r r' : R2} (h : OpR X f r) (h' : OpR X f r') : OpR X f (fun x y H Q => r x y H Q ∨ r' x y H Q) := by
  intro pins s σ H x y v u Q I rx ry q
  rcases q with q | q
  · exact h pins s σ H x y v u Q I rx ry q
  · exact h' pins s σ H x y v u Q I rx ry q

theorem nomark (b : Expr) {op : CmpOp} (h : op ≠ .In := by decide) (h2 : op ≠ .NotIn := by decide) : behindInMarks op b = false := by
  have e1 : (op == CmpOp.In) = false := by cases op <;> first | rfl | exact absurd rfl h
  have e2 : (op == CmpOp.NotIn) = false := by cases op <;> first | rfl | exact absurd rfl h2
  cases b <;> simp [behindInMarks, e1, e2]
/-- a comparison as a value; hm: nomark b, or (for in, not in) by with_unfolding_all rfl -/
theorem pe_cmpR {op : CmpOp} {r : R2} (ho : OpR X (compareOp op) r) (ha : PE X a ta) (hb : PE X b tb) (hm : behindInMarks op b = false) : PE X (.Compare a [op] [b] pos) (tOp r ta tb) := by
  intro pins s σ H Q I h
  exact wpAny_Compare1 (binT ha hb I h fun v u s2 x y H2 I2 rx ry q => ho pins s2 σ H2 x y v u Q I2 rx ry q) hm
/-- a reading of a value as a test -/
def tTest (t : TE) : TT := fun σ H Q => t σ H fun x H' => ∃ k, x = .bl k ∧ Q k H'
theorem pt_cmpR {op : CmpOp} {r : R2} (ho : OpR X (compareOp op) r) (ha : PE X a ta) (hb : PE X b tb) (hm : behindInMarks op b = false) : PT X (.Compare a [op] [b] pos) (tTest (tOp r ta tb)) := by
  intro pins s σ H Q I h
  refine wpAny_isTrue_Compare1 (thn (ha pins s σ H _ I h) fun v s1 ⟨x, H1, I1, r1, q1⟩ => thn (hb pins s1 σ H1 _ I1 q1) fun u s2 ⟨y, H2, I2, r2, q2⟩ =>
    thn (ho pins s2 σ H2 x y v u _ I2 r1 r2 q2) fun c s3 ⟨z, H3, I3, r3, k, e, q3⟩ => ?_) hm
  subst e
  cases r3
  exact wpAny_truthy_bool ⟨H3, I3, q3⟩
/-- a op1 b op2 c -/
def tChain (r r' : R2) (ta tb tc : TE) : TE := fun σ H Q => ta σ H fun x H1 => tb σ H1 fun y H2 => r x y H2 fun z H3 => ∃ k, z = .bl k ∧
  (if k = true then tc σ H3 fun w' H4 => r' y w' H4 Q else Q (.bl false) H3)
theorem pe_chain {op op' : CmpOp} {r r' : R2} (ho : OpR X (compareOp op) r) (ho' : OpR X (compareOp op') r') (ha : PE X a ta) (hb : PE X b tb) (hc : PE X c tc)
    (hm : lastMarks [op, op'] [b, c] = false := by with_unfolding_all rfl) : PE X (.Compare a [op, op'] [b, c] pos) (tChain r r' ta tb tc) := by
  intro pins s σ H Q I h
  refine Compare_chain (thn (ha pins s σ H _ I h) fun v s1 ⟨x, H1, I1, r1, q1⟩ => chain_link (thn (hb pins s1 σ H1 _ I1 q1) fun u s2 ⟨y, H2, I2, r2, q2⟩ =>
    thn (ho pins s2 σ H2 x y v u _ I2 r1 r2 q2) fun d s3 ⟨z, H3, I3, r3, k, e, q3⟩ => ?_)) hm
  subst e
  cases r3
  refine wpAny_truthy_bool ?_
  cases k with
  | false => exact ite_ff ⟨.bl false, H3, I3, rfl, q3⟩
  | true => exact ite_tt (chain_last (thn (hc pins s3 σ H3 _ I3 q3) fun w' s4 ⟨z', H4, I4, r4, q4⟩ => ho' pins s4 σ H4 y z' u w' Q I4 r2 r4 q4))
theorem line63 : (sizeLine : Nat) < 2 ^ 63 := by rw [sizeLine_eq]; decide
theorem op_add_str : OpR X (binaryOp .Add) (fun x y H Q => ∃ i j, x = .str i ∧ y = .str j ∧ i.length + j.length ≤ sizeLine ∧ Q (.str (i ++ j)) H) := by
  intro pins s σ H x y v u Q I rx ry h
  obtain ⟨i, j, rfl, rfl, hz, q⟩ := h
  obtain ⟨t, rfl⟩ := rx
  obtain ⟨t', rfl⟩ := ry
  exact add_str (fun t' tk => ⟨.str (i ++ j), H, I.tok _, ⟨_, rfl⟩, q⟩) hz
theorem vals1 {x : V} {us : List Value} (r : Vals [x] us) : ∃ u, us = [u] ∧ RelV x u := by
  cases r with
  | cons r1 r2 => cases r2; exact ⟨_, rfl, r1⟩
theorem vals2 {x y : V} {us : List Value} (r : Vals [x, y] us) : ∃ u w', us = [u, w'] ∧ RelV x u ∧ RelV y w' := by
  cases r with
  | cons r1 r2 =>
    cases r2 with
    | cons r3 r4 => cases r4; exact ⟨_, _, rfl, r1, r3⟩
theorem call_min2 (hc : X.calm = true) : CallR X (.builtin "min") (fun xs H Q => ∃ i j, xs = [.int i, .int j] ∧ Q (.int (if j < i then j else i)) H) := by
  intro pins s σ H xs us Q I r h
  obtain ⟨i, j, rfl, q⟩ := h
  obtain ⟨u, w', rfl, ⟨t, rfl⟩, ⟨t', rfl⟩⟩ := vals2 r
  refine min_two_ints (I.ok.hd hc) fun h' tk k => ⟨_, H, I.kept k, ?_, q⟩
  by_cases hj : j < i
  · rw [if_pos hj, if_pos hj]; exact ⟨_, rfl⟩
  · rw [if_neg hj, if_neg hj]; exact ⟨_, rfl⟩
theorem call_int1 : CallR X (.type "int") (fun xs H Q => (∃ i, xs = [.int i] ∧ Q (.int i) H) ∨ ∃ k, xs = [.bl k] ∧ Q (.int (if k then 1 else 0)) H) := by
  intro pins s σ H xs us Q I r h
  rcases h with ⟨i, rfl, q⟩ | ⟨k, rfl, q⟩
  · obtain ⟨u, rfl, t, rfl⟩ := vals1 r
    exact call_int_int ⟨.int i, H, I, ⟨_, rfl⟩, q⟩
  · obtain ⟨u, rfl, r1⟩ := vals1 r
    cases r1
    exact call_int_bool ⟨.int (if k then 1 else 0), H, I.tok _, ⟨_, rfl⟩, q⟩
end
end L2

namespace L2
open PySem PySem.Spec PyProof.Rows

structure ObjM (h : Heap) (x dx C : Addr) (mA : Str → Option Value) : Prop where
  obj : h.get? x = some (PySem.W.instObj C dx)
  ns : h.Ns1 dx mA
  ne : dx ≠ x

theorem lookIn_ns {h : Heap} {dx : Addr} {mA : Str → Option Value} (n : h.Ns1 dx mA) : ∃ od, h.get? dx = some od ∧ ∀ name, PySem.W.lookIn name od = some (mA name) := by
  obtain ⟨o, es, ep, ho, hd, hk, _, hm⟩ := n
  refine ⟨o, ho, fun name => ?_⟩
  have e := hm name
  unfold nsFind findBy at e
  rw [← Array.find?_toList] at e
  unfold PySem.W.lookIn
  rw [hd]
  dsimp only
  split
  · rename_i y q
    rw [q] at e
    exact congrArg some e
  · rename_i q
    rw [q] at e
    have a : es.toList.any (·.refKey) = false := by
      rw [List.any_eq_false]
      intro y hy
      obtain ⟨z, t, hkey⟩ := hk y (Array.mem_toList_iff.mp hy)
      simp [DictEntry.refKey, hkey]
    have a' : ¬ es.toList.any (·.refKey) = true := by rw [a]; exact Bool.false_ne_true
    rw [if_neg a']
    exact congrArg some e

theorem ObjM.look {h : Heap} {x dx C : Addr} {mA : Str → Option Value} (I : ObjM h x dx C mA) : ∃ od, PySem.W.InstAt h x (PySem.W.instObj C dx) C (some od) ∧ ∀ name, PySem.W.lookIn name od = some (mA name) :=
  let ⟨od, ho, hl⟩ := lookIn_ns I.ns
  ⟨od, ⟨I.obj, rfl, rfl, ho⟩, hl⟩

section
variable {prog : Program} {w : World} {A : Around} {E : Value → Shared → Prop} {s : Shared} {K : PySem.W.Frag} {x dx C f : Addr} {mA : Str → Option Value} {name : Str} {v : Value}

end

theorem RelO.some_of {v : V} {o : Option Value} (r : RelO (some v) o) : ∃ u, o = some u ∧ RelV v u := by
  cases o with
  | none => exact (show False from r).elim
  | some u => exact ⟨u, rfl, r⟩
section
variable {P : Program} {w : World} {H H' : Hp} {h h' : Heap} {a C dx : Addr} {fs fs' : List (Str × V)}
theorem ins_get (hok : HOk P w H h) (e : H a = some (.ins C dx fs)) : ∃ mA, ObjM h a dx C mA ∧ (∀ f, RelO (fs.lookup f) (mA f)) ∧ PySem.Within mA (fs.map (·.1)) ∧ fs.length ≤ 1000 ∧ H dx = some (.own a) := by
  obtain ⟨d, z, ne, ob, mA, n, r, q⟩ := (show ObjOk P w H h a (.ins C dx fs) from hok a _ e)
  exact ⟨mA, ⟨ob, n, ne⟩, r, q, z, d⟩
end

structure Cls (K : PySem.W.Frag) (C : Addr) : Prop where
  pg : PySem.W.plainGet K C Str.empty = true
  hd : PySem.W.hasDictIn K C = true
  po : PySem.W.plainOver K C = true
  sa : PySem.W.findIn K (.ref C) "__setattr__" = some (some (.builtin "object.__setattr__"))
theorem Cls.get {K : PySem.W.Frag} {C : Addr} (c : Cls K C) (f : Str) : PySem.W.plainGet K C f = true := c.pg
/-- a constant of the class -/
structure Con (K : PySem.W.Frag) (C : Addr) (f : Str) (v : V) (u : Value) : Prop where
  at_ : PySem.W.findIn K (.ref C) f = some (some u)
  rel : RelV v u
  get : PySem.W.specialIn K u "__get__" = some none
  cp : PySem.W.copiedNames.contains f = false
/-- a method: a plain def of the class or of one above it -/
structure Meth (K : PySem.W.Frag) (C : Addr) (m : Str) (f : Addr) : Prop where
  at_ : PySem.W.findIn K (.ref C) m = some (some (.ref f))
  fn : PySem.W.isFn K (.ref f) = true
  kp : PySem.W.keepIn K (.ref f) = true

section
variable {X : Cx} {pins : List (Addr × Obj)} {σ : St} {H : Hp} {s : Shared} {a C dx : Addr} {fs : List (Str × V)} {f : Str} {v : V} {A : Around} {E : Value → Shared → Prop}

/-- a new instance, tracked, without attributes -/
theorem Inv.made (I : Inv X pins σ H s) : Inv X pins σ (upd (upd H s.heap.objs.size (.own (s.heap.objs.size + 1))) (s.heap.objs.size + 1) (.ins C s.heap.objs.size []))
    { s with heap := (s.heap.push PySem.W.emptyDict).push (PySem.W.instObj C s.heap.objs.size) } := by
  have e1 : (s.heap.push PySem.W.emptyDict).get? s.heap.objs.size = some PySem.W.emptyDict := Heap.get?_push_size s.heap rfl
  have e2 : ((s.heap.push PySem.W.emptyDict).push (PySem.W.instObj C s.heap.objs.size)).get? (s.heap.objs.size + 1) = some (PySem.W.instObj C s.heap.objs.size) := by
    have := Heap.get?_push_size (s.heap.push PySem.W.emptyDict) (o := PySem.W.instObj C s.heap.objs.size) rfl
    rwa [Heap.size_push] at this
  have e3 : (s.heap.push PySem.W.emptyDict).Ns s.heap.objs.size (fun _ => none) := ⟨PySem.W.emptyDict, #[], _, e1, rfl, (fun e he => absurd he (by simp)), fun _ => rfl⟩
  have I1 := I.laid (a := s.heap.objs.size) (o := .own (s.heap.objs.size + 1)) (h' := s.heap.push PySem.W.emptyDict) (t' := s.toks) (fun b u q => Heap.get?_push_of_some _ q) (Nat.le_refl _) ⟨_, e1⟩
  refine I1.laid (a := s.heap.objs.size + 1) (o := .ins C s.heap.objs.size []) (t' := s.toks) (fun b u q => Heap.get?_push_of_some _ q) (Nat.le_of_eq (Heap.size_push _ _)) ?_
  have ne : s.heap.objs.size ≠ s.heap.objs.size + 1 := Nat.ne_of_lt (Nat.lt_succ_self _)
  refine ⟨by rw [upd_ne ne, upd_same], Nat.zero_le _, ne, e2, fun _ => none, (Heap.Ns1.of_empty e3).at fun o q => Heap.get?_push_of_some _ q, fun _ => True.intro, fun y hy => absurd rfl hy⟩

end

section
variable {X : Cx} {o e value : Expr} {f : Str} {pos pos' tpos : Pos} {ta tv : TE}
end

section
variable {X : Cx} {pins : List (Addr × Obj)} {σ : St} {H : Hp} {s : Shared} {A : Around} {E : Value → Shared → Prop} {Q : Value → Shared → Prop} {c : Value} {b : Bool}
/-- the type of a value, as the fragment's deciders take it; for an instance its class -/
inductive TyOf (K : PySem.W.Frag) (H : Hp) : V → Value → Prop where
  | non : TyOf K H .non (.type "NoneType")
  | bl (x : Bool) : TyOf K H (.bl x) (.type "bool")
  | int (i : Int) : TyOf K H (.int i) (.type "int")
  | str (x : Str) : TyOf K H (.str x) (.type "str")
  | flt (x : UInt64) : TyOf K H (.flt x) (.type "float")
  | lst {a : Addr} {xs : List V} (e : H a = some (.lst xs)) : TyOf K H (.ref a) (.type "list")
  | frz {a : Addr} {o : Obj} {xs : List V} (e : H a = some (.frz o (.lst xs))) : TyOf K H (.ref a) (.type "list")
  | tup {a : Addr} {xs : List V} (e : H a = some (.tup xs)) : TyOf K H (.ref a) (.type "tuple")
  | dK {a : Addr} {kvs : List (Key × V)} (e : H a = some (.dK kvs)) : TyOf K H (.ref a) (.type "dict")
  | dT {a : Addr} {kvs : List (List Key × V)} (e : H a = some (.dT kvs)) : TyOf K H (.ref a) (.type "dict")
  | ins {a C dx : Addr} {fs : List (Str × V)} (e : H a = some (.ins C dx fs)) (cl : Cls K C) (ha : PySem.W.findIn K (.ref C) "__class__" = some (some (.builtin "object.__class__")))
      (hn : PySem.W.specialIn K (.builtin "object.__class__") "__get__" = some (some (.builtin "getset_descriptor.__get__"))) (htk : PySem.W.takesIn K (.builtin "object.__class__") = some true)
      (hm : PySem.W.mroIn K C (.type "object") = some true) : TyOf K H (.ref a) (.ref C)
/-- isinstance(x, c) for one class c, a built-in or an own one: kitOne's answer -/
theorem isinst_ok {x : V} {u t : Value} (I : Inv X pins σ H s) (rx : RelV x u) (ty : TyOf X.K H x t) (e : PySem.W.kitOne X.K t c = some b) (h : ∀ tk, Q (.bool b) { s with toks := tk }) :
    wpAny (model X.prog X.w) A (call (.builtin "isinstance") [u, c]) Q E s := by
  cases ty with
  | non => cases (show u = Value.none from rx); exact PySem.W.kia_one PySem.W.kitx_none I.kIn True.intro e (fun z => nomatch z) h
  | bl y => cases (show u = Value.bool y from rx); exact PySem.W.kia_one PySem.W.kitx_bool I.kIn True.intro e (fun z => nomatch z) h
  | int i => obtain ⟨t, q⟩ := (show ∃ t, u = Value.int i t from rx); cases q; exact PySem.W.kia_one PySem.W.kitx_int I.kIn True.intro e (fun z => nomatch z) h
  | str y => obtain ⟨t, q⟩ := (show ∃ t, u = Value.str y t from rx); cases q; exact PySem.W.kia_one PySem.W.kitx_str I.kIn True.intro e (fun z => nomatch z) h
  | flt y => obtain ⟨t, q⟩ := (show ∃ t, u = Value.float y t from rx); cases q; exact PySem.W.kia_one PySem.W.kitx_float I.kIn True.intro e (fun z => nomatch z) h
  | @lst a xs ea =>
    cases (show u = Value.ref a from rx)
    obtain ⟨_, _, n, _, h1⟩ := (show ObjOk X.prog X.w H s.heap a (.lst xs) from I.hok a _ ea)
    exact PySem.W.kia_one PySem.W.kitx_list I.kIn ⟨_, h1, rfl⟩ e (fun z => nomatch z) h
  | @frz a ob xs ea =>
    cases (show u = Value.ref a from rx)
    obtain ⟨_, _, _, n, _, h1⟩ := (show ObjOk X.prog X.w H s.heap a (.frz ob (.lst xs)) from I.hok a _ ea)
    exact PySem.W.kia_one PySem.W.kitx_list I.kIn ⟨_, h1, rfl⟩ e (fun z => nomatch z) h
  | @tup a xs ea =>
    cases (show u = Value.ref a from rx)
    obtain ⟨_, _, _, p⟩ := (show ObjOk X.prog X.w H s.heap a (.tup xs) from I.hok a _ ea)
    obtain ⟨o, h1, h2, _⟩ := p
    exact PySem.W.kia_one PySem.W.kitx_tuple I.kIn ⟨o, h1, h2⟩ e (fun z => nomatch z) h
  | @dK a kvs ea =>
    cases (show u = Value.ref a from rx)
    obtain ⟨_, _, vs, _, p⟩ := (show ObjOk X.prog X.w H s.heap a (.dK kvs) from I.hok a _ ea)
    obtain ⟨o, es, ep, h1, h2, _⟩ := p
    exact PySem.W.kia_one PySem.W.kitx_dict I.kIn ⟨o, h1, h2.1⟩ e (fun z => nomatch z) h
  | @dT a kvs ea =>
    cases (show u = Value.ref a from rx)
    obtain ⟨_, _, xs, _, o, es, ep, h1, h2, _⟩ := (show ObjOk X.prog X.w H s.heap a (.dT kvs) from I.hok a _ ea)
    exact PySem.W.kia_one PySem.W.kitx_dict I.kIn ⟨o, h1, h2.1⟩ e (fun z => nomatch z) h
  | @ins a C dx fs ea cl ha hn htk hm =>
    cases (show u = Value.ref a from rx)
    obtain ⟨mA, O, _⟩ := ins_get I.hok ea
    obtain ⟨od, J, _⟩ := O.look
    exact PySem.W.kia_one (PySem.W.kitx_own (cl.get _) cl.hd ha hn htk hm) I.kIn J e (fun z => nomatch z) h
end
end L2

namespace L2
open PySem PySem.Spec PyProof.Rows

structure Room (k : Nat) (A : Around) : Prop where
  hd : A.handled = none
  dp : A.depth + 3 * k + 5 < recursionLimit
  un : A.units + 16 * k + 200 < cLine
theorem Room.mono {j k : Nat} {A : Around} (r : Room k A) (h : j ≤ k) : Room j A := ⟨r.hd, by have := r.dp; omega, by have := r.un; omega⟩
theorem Room.deeper {k : Nat} {A : Around} (r : Room (k + 1) A) (env : Env) : Room k (A.deeper env) :=
  ⟨r.hd, by have := r.dp; show A.depth + 1 + 3 * k + 5 < _; omega, by have := r.un; show A.units + 3 + 16 * k + 200 < _; omega⟩
theorem Room.in1 {k : Nat} {A : Around} (r : Room (k + 1) A) : Room k A.in1 :=
  ⟨r.hd, by have := r.dp; show A.depth + 3 * k + 5 < _; omega, by have := r.un; show A.units + 1 + 16 * k + 200 < _; omega⟩
theorem Room.depth {k : Nat} {A : Around} (r : Room k A) : A.depth < recursionLimit := by have := r.dp; omega
theorem Room.units {k : Nat} {A : Around} (r : Room k A) : A.units + 64 < cLine := by have := r.un; omega
theorem Room.units0 {k : Nat} {A : Around} (r : Room k A) : A.units < cLine := by have := r.un; omega

def tNil : TA := fun _ H Q => Q [] H
def tCons (ta : TE) (tr : TA) : TA := fun σ H Q => ta σ H fun x H1 => tr σ H1 fun xs H2 => Q (x :: xs) H2
section
variable {X : Cx} {e : Expr} {es : List Expr} {te : TE} {t : TA} {pos : Pos}
theorem pa_nil : PA X [] tNil := fun _ _ _ _ H Q I h => Calls.spliced_nil ⟨[], H, I, .nil, h⟩
theorem pa_cons (ha : PE X e te) (hr : PA X es t) (hs : starEach (e :: es) X.env = (false, eval e X.env) :: starEach es X.env := by rfl) : PA X (e :: es) (tCons te t) := by
  intro pos pins s σ H Q I h
  rw [hs]
  show wpAny _ _ (spliced ((false, eval e X.env) :: backTo pos (starEach es X.env))) _ _ s
  refine Calls.spliced_cons (thn (ha pins s σ H _ I h) fun u s1 ⟨x, H1, I1, r1, q1⟩ => ?_)
  exact thn (hr pos pins s1 σ H1 _ I1 q1) fun us s2 ⟨xs, H2, I2, r2, q2⟩ => ⟨x :: xs, H2, I2, .cons r1 r2, q2⟩

/-- a tuple, a list of written items -/
def tTup (t : TA) : TE := fun σ H Q => t σ H fun xs H1 => xs.length ≤ sizeLine ∧ ∀ p, H1 p = none → Q (.ref p) (upd H1 p (.tup xs))
def tLst (t : TA) : TE := fun σ H Q => t σ H fun xs H1 => xs.length ≤ sizeLine ∧ ∀ p, H1 p = none → Q (.ref p) (upd H1 p (.lst xs))
theorem pe_tup {x1} (h : PA X es t) : PE X (.Tuple es x1 pos) (tTup t) := by
  intro pins s σ H Q I hq
  refine wpAny_Tuple_spliced (thn (h pos pins s σ H _ I hq) fun us s1 ⟨xs, H1, I1, r, z, q⟩ => ⟨by rw [← r.length]; exact z, ?_⟩)
  have hf : H1 s1.heap.objs.size = none := I1.hok.fresh (Nat.le_refl _)
  refine ⟨.ref s1.heap.objs.size, upd H1 s1.heap.objs.size (.tup xs), I1.laid (t' := s1.toks) (fun b u e => Heap.get?_push_of_some _ e) (Nat.le_refl _) ?_, rfl, q _ hf⟩
  exact ⟨z, us, r, ⟨_, Heap.get?_push_size _ rfl, rfl, _, rfl⟩⟩
theorem pe_lst (h : PA X es t) : PE X (.List es pos) (tLst t) := by
  intro pins s σ H Q I hq
  refine wpAny_List_spliced (thn (h pos pins s σ H _ I hq) fun us s1 ⟨xs, H1, I1, r, z, q⟩ => ⟨by rw [← r.length]; exact z, ?_⟩)
  have hf : H1 s1.heap.objs.size = none := I1.hok.fresh (Nat.le_refl _)
  refine ⟨.ref s1.heap.objs.size, upd H1 s1.heap.objs.size (.lst xs), I1.laid (t' := s1.toks) (fun b u e => Heap.get?_push_of_some _ e) (Nat.le_refl _) ?_, rfl, q _ hf⟩
  exact ⟨z, us, 0, r, Heap.get?_push_size _ rfl⟩
end

/-- a def's promise: the bound arguments in the parameters' order, the heap, the wanted end, the wanted exception -/
abbrev Sp := List V → Hp → VK → XK → Prop
/-- how an exception lies behind a call (file 08 gives it): the callers' frames, abstract heap and state ahead of the call, the wish, the exception, the state -/
abbrev CXT := List Env → Hp → Shared → XK → Value → Shared → Prop

/-- the state at a call -/
structure Env0 (P : Program) (w : World) (K : PySem.W.Frag) (mg : Str → Option Value) (base : Heap) (A : Around) (outer : List Env) (s : Shared) (H : Hp) : Prop where
  frames : A.frames = some outer
  mod : Mod K mg base
  bs : ∀ b o, base.get? b = some o → s.heap.get? b = some o ∧ H b = none
  bsz : base.objs.size ≤ s.heap.objs.size
  funs : s.heap.FunFrames base outer
  frf : ∀ b ∈ frs outer, H b = none
  hok : HOk P w H s.heap
  bare : AllBare s.gens
/-- a call's end -/
def CE (outer : List Env) (P : Program) (w : World) (H : Hp) (s : Shared) (Q : VK) (u : Value) (s' : Shared) : Prop :=
  ∃ v H', s'.os = s.os ∧ AllBare s'.gens ∧ Un (frs outer) [] H H' s.heap s'.heap ∧ HOk P w H' s'.heap ∧ RelV v u ∧ Q v H'
def CR (CX : CXT) (outer : List Env) (P : Program) (w : World) (H : Hp) (s : Shared) (Q : VK) (E : XK) (r : Result) (s' : Shared) : Prop :=
  match r with
  | .ok (.ret u) => CE outer P w H s Q u s'
  | .ok _ => False
  | .error e => CX outer H s E e s'
structure FnOk (P : Program) (w : World) (K : PySem.W.Frag) (mg : Str → Option Value) (base : Heap) (CX : CXT) (k : Nat) (f : Addr) (fd : FuncData) (ps : List Str) (sp : Sp) : Prop where
  len : ∀ vs H Q E, sp vs H Q E → vs.length = ps.length
  run : ∀ (A : Around) (outer : List Env) (s : Shared) (H : Hp) (args : Args) (us : List Value) (vs : List V) (Q : VK) (E : XK), Room k A → Env0 P w K mg base A outer s H → BindsTo s fd args (ps.zip us) → Vals vs us → sp vs H Q E →
    codeAny (model P w) A (.call (.ref f) args) (CR CX outer P w H s Q E) s
theorem FnOk.mono {P : Program} {w : World} {K : PySem.W.Frag} {mg : Str → Option Value} {base : Heap} {CX : CXT} {j k : Nat} {f : Addr} {fd : FuncData} {ps : List Str} {sp : Sp} (F : FnOk P w K mg base CX j f fd ps sp) (h : j ≤ k) :
    FnOk P w K mg base CX k f fd ps sp := ⟨F.len, fun A outer s H args us vs Q E hr => F.run A outer s H args us vs Q E (hr.mono h)⟩
theorem Env0.in1 {P : Program} {w : World} {K : PySem.W.Frag} {mg : Str → Option Value} {base : Heap} {A : Around} {outer : List Env} {s : Shared} {H : Hp} (e : Env0 P w K mg base A outer s H) :
    Env0 P w K mg base A.in1 outer s H := ⟨e.frames, e.mod, e.bs, e.bsz, e.funs, e.frf, e.hok, e.bare⟩

section
variable {X : Cx} {pins : List (Addr × Obj)} {σ : St} {H : Hp} {s s' : Shared}
/-- from a body: what a callee wants -/
theorem Inv.env0 (I : Inv X pins σ H s) : Env0 X.prog X.w X.K X.mg X.base X.A X.stack s H :=
  ⟨I.ok.frames, I.ok.mod, I.bs, Nat.le_trans I.ok.bsz I.sz, I.stack, I.stkFree, I.hok, I.bare⟩
/-- behind a call -/
theorem Inv.after {Q : VK} {u : Value} (I : Inv X pins σ H s) (h : CE X.stack X.prog X.w H s Q u s') : EP X pins σ Q u s' := by
  obtain ⟨v, H', os, bare, un, hok, r, q⟩ := h
  obtain ⟨hh, g, d, t, os'⟩ := s'
  obtain rfl : os' = s.os := os
  exact ⟨v, H', I.call (h' := hh) (g' := g) (d' := d) (t' := t) (ch := []) un hok bare (fun b z => absurd z (by simp)), r, q⟩
end

/-- f(..): the written arguments, then the defaults dvs; E: what is wanted of an exception -/
def tCall (sp : Sp) (dvs : List V) (E : XK) (t : TA) : TE := fun σ H Q => t σ H fun vs H1 => sp (vs ++ dvs) H1 Q E
/-- how the parameters are bound: us the positional arguments, kw the keywords' values by name, ds the defaults that fill up -/
def Binds (K : PySem.W.Frag) (fd : FuncData) (ps : List Str) (ds : List Value) : Prop :=
  ∀ (s : Shared) (us : List Value), K.In s.heap → (us ++ ds).length = ps.length → BindsTo s fd ⟨us, []⟩ (ps.zip (us ++ ds))
/-- every parameter is given -/
theorem Binds.all {K : PySem.W.Frag} {fd : FuncData} {ps : List Str} (h : ∀ us : List Value, us.length = ps.length → bindArgs fd ⟨us, []⟩ = pure (ps.zip us)) : Binds K fd ps [] := fun s us _ hl => by
  rw [List.append_nil] at hl ⊢
  exact .of_eq (h us hl)

/-- an exception of a callee reaches what this body wants of exceptions -/
def Passes (CX : CXT) (X : Cx) (E : XK) : Prop := ∀ (pins : List (Addr × Obj)) (σ : St) (H : Hp) (s : Shared) (e : Value) (s' : Shared), Inv X pins σ H s → CX X.stack H s E e s' → X.xe e s'

section
variable {X : Cx} {CX : CXT} {k : Nat} {f C : Addr} {fd : FuncData} {ps : List Str} {sp : Sp} {dvs : List V} {ds : List Value} {E : XK} {x m : Str} {p pos apos : Pos} {e o : Expr} {es : List Expr} {ta : TE} {t : TA}

/-- the callee runs -/
theorem run_fn {pins : List (Addr × Obj)} {σ : St} {H : Hp} {s : Shared} {Q : VK} {us : List Value} {vs : List V} (F : FnOk X.prog X.w X.K X.mg X.base CX k f fd ps sp) (hr : Room k X.A) (hb : Binds X.K fd ps ds) (hd : Vals dvs ds) (hx : Passes CX X E)
    (I : Inv X pins σ H s) (r : Vals vs us) (h : sp (vs ++ dvs) H Q E) : wpAny (model X.prog X.w) X.A (call (.ref f) us) (EP X pins σ Q) X.xe s := by
  have r2 : Vals (vs ++ dvs) (us ++ ds) := r.append hd
  have hl : (us ++ ds).length = ps.length := by rw [← r2.length]; exact F.len _ _ _ _ h
  refine wpAny_call (codeAny_mono (F.run X.A X.stack s H ⟨us, []⟩ (us ++ ds) (vs ++ dvs) Q E hr I.env0 (hb s us I.kIn hl) r2 h) fun r s' hq => ?_)
  cases r with
  | error e => exact hx pins σ H s e s' I hq
  | ok fl =>
    cases fl with
    | ret u => exact I.after hq
    | next => exact False.elim hq
    | brk => exact False.elim hq
    | cont => exact False.elim hq

theorem pe_call (F : FnOk X.prog X.w X.K X.mg X.base CX k f fd ps sp) (hr : Room k X.A) (hg : Gl X x) (hm : X.mg x = some (.ref f)) (hk : PySem.W.keepIn X.K (.ref f) = true) (hb : Binds X.K fd ps ds) (hd : Vals dvs ds) (hx : Passes CX X E)
    (ha : PA X (e :: es) t) (hdb : (x == ("__debug__" : Str)) = false := by decide) (he : starEach (e :: es) X.env = (false, eval e X.env) :: starEach es X.env := by rfl) (hpl : (backTo pos (starEach es X.env)).any (·.1) = false := by rfl) :
    PE X (.Call (.Name x p) (e :: es) [] pos) (tCall sp dvs E t) := by
  intro pins s σ H Q I h
  refine wpAny_Call_Name_kw (ld_glob I hg hm ?_ hdb)
  refine PySem.W.callWith_K (h₀ := X.base) I.ok.mod.kin hk (thn (ha pos pins s σ H _ I h) fun us s1 ⟨vs, H1, I1, r, q⟩ => ⟨I1.kIn, ?_⟩) he hpl
  exact run_fn F hr hb hd hx I1 r q
theorem pe_call0 (F : FnOk X.prog X.w X.K X.mg X.base CX k f fd ps sp) (hr : Room k X.A) (hg : Gl X x) (hm : X.mg x = some (.ref f)) (hk : PySem.W.keepIn X.K (.ref f) = true) (hb : Binds X.K fd ps ds) (hd : Vals dvs ds) (hx : Passes CX X E)
    (hdb : (x == ("__debug__" : Str)) = false := by decide) : PE X (.Call (.Name x p) [] [] pos) (tCall sp dvs E tNil) := by
  intro pins s σ H Q I h
  refine wpAny_Call_Name_kw (ld_glob I hg hm ?_ hdb)
  exact PySem.W.callWith_K0 I.kIn hk (run_fn (us := []) F hr hb hd hx I .nil h)

/-- what a class must have to be made -/
structure Mk (K : PySem.W.Frag) (C f : Addr) : Prop where
  makes : PySem.W.makesIn K C = true
  init : PySem.W.findIn K (.ref C) "__init__" = some (some (.ref f))
  fn : PySem.W.isFn K (.ref f) = true
  kp : PySem.W.keepIn K (.ref C) = true

end

section
variable {X : Cx} {CX : CXT} {k : Nat} {f C : Addr} {fd : FuncData} {ps ks : List Str} {sp : Sp} {E : XK} {x m : Str} {p pos apos kpos : Pos} {e o : Expr} {es : List Expr} {kws : List Keyword} {te ta : TE} {t tk : TA} {nm : Option Str}
/-- how a call with keywords binds: g puts the positional values us and the keywords' values ws (names ks) in the parameters' order, defaults among them -/
structure KBinds (K : PySem.W.Frag) (fd : FuncData) (ps ks : List Str) (g : List Value → List Value → List Value) (gV : List V → List V → List V) : Prop where
  to : ∀ (s : Shared) (us ws : List Value), K.In s.heap → (g us ws).length = ps.length → BindsTo s fd ⟨us, ks.zip ws⟩ (ps.zip (g us ws))
  rel : ∀ {vs : List V} {us : List Value} {zs : List V} {ws : List Value}, Vals vs us → Vals zs ws → Vals (gV vs zs) (g us ws)
variable {g : List Value → List Value → List Value} {gV : List V → List V → List V}
end

/-- names: the parameters first -/
structure FnScope (N P : List Str) (sc : Scope) : Prop where
  kind : sc.kind = .function
  co : sc.isCoroutine = false
  gen : sc.isGenerator = false
  nd : N.Nodup
  pre : N.take P.length = P
  par : ∀ x ∈ P, sc.names.lookup x = some .local ∨ sc.names.lookup x = some .cell
  nofree : ∀ y ∈ sc.names, y.2 ≠ .free

theorem bindL_out {kindOf : Str → Option NameKind} {x : Str} : ∀ {binds : List (Str × Value)} {m : Str → Option Value}, (∀ v, (x, v) ∉ binds) → bindL kindOf binds m x = m x
  | [], _, _ => rfl
  | (n, v) :: r, m, h => by
    unfold bindL
    rw [bindL_out fun w hw => h w (List.mem_cons_of_mem _ hw)]
    split
    · have : x ≠ n := by rintro rfl; exact h v List.mem_cons_self
      simp [this]
    · rfl
theorem bindC_out {kindOf : Str → Option NameKind} {x : Str} : ∀ {binds : List (Str × Value)} {m : Str → Option Value}, (∀ v, (x, v) ∉ binds) → bindC kindOf binds m x = m x
  | [], _, _ => rfl
  | (n, v) :: r, m, h => by
    unfold bindC
    rw [bindC_out fun w hw => h w (List.mem_cons_of_mem _ hw)]
    split
    · rfl
    · have : x ≠ n := by rintro rfl; exact h v List.mem_cons_self
      simp [this]
theorem bindL_get {kindOf : Str → Option NameKind} {x : Str} {v : Value} : ∀ {P : List Str} {vs : List Value} {i : Nat} {m : Str → Option Value}, P.Nodup → P[i]? = some x → vs[i]? = some v → kindOf x = some .local →
    bindL kindOf (P.zip vs) m x = some v
  | [], _, _, _, _, h, _, _ => by simp at h
  | _ :: _, [], _, _, _, _, h, _ => by simp at h
  | p :: P, w :: vs, 0, m, nd, h1, h2, hk => by
    simp at h1 h2; subst h1; subst h2
    show bindL kindOf ((p, w) :: P.zip vs) m p = _
    unfold bindL
    rw [bindL_out fun v hv => (List.nodup_cons.mp nd).1 (List.of_mem_zip hv).1, if_pos hk]
    simp
  | p :: P, w :: vs, i + 1, m, nd, h1, h2, hk => by
    show bindL kindOf ((p, w) :: P.zip vs) m x = _
    unfold bindL
    exact bindL_get (i := i) (List.nodup_cons.mp nd).2 (by simpa using h1) (by simpa using h2) hk
theorem bindC_get {kindOf : Str → Option NameKind} {x : Str} {v : Value} : ∀ {P : List Str} {vs : List Value} {i : Nat} {m : Str → Option Value}, P.Nodup → P[i]? = some x → vs[i]? = some v → kindOf x ≠ some .local →
    bindC kindOf (P.zip vs) m x = some v
  | [], _, _, _, _, h, _, _ => by simp at h
  | _ :: _, [], _, _, _, _, h, _ => by simp at h
  | p :: P, w :: vs, 0, m, nd, h1, h2, hk => by
    simp at h1 h2; subst h1; subst h2
    show bindC kindOf ((p, w) :: P.zip vs) m p = _
    unfold bindC
    rw [bindC_out fun v hv => (List.nodup_cons.mp nd).1 (List.of_mem_zip hv).1, if_neg hk]
    simp
  | p :: P, w :: vs, i + 1, m, nd, h1, h2, hk => by
    show bindC kindOf ((p, w) :: P.zip vs) m x = _
    unfold bindC
    exact bindC_get (i := i) (List.nodup_cons.mp nd).2 (by simpa using h1) (by simpa using h2) hk

/-- the names' values at the entry -/
def start (N : List Str) (vs : List V) : St := vs.map some ++ List.replicate (N.length - vs.length) none

/-- the context of a def's body, at its entry; an exception leaves the frame, then lies as CX says -/
def cxOf (CX : CXT) (P : Program) (w : World) (K : PySem.W.Frag) (mg : Str → Option Value) (base : Heap) (N : List Str) (qual : Str) (scope : Scope) (f : Addr) (cd : Value) (A : Around) (outer : List Env) (s : Shared) (H : Hp) (E : XK) : Cx where
  prog := P
  w := w
  K := K
  mg := mg
  base := base
  A := A.deeper (envOfC qual scope s.heap.objs.size f cd)
  N := N
  s₀ := s
  H₀ := H
  env := envOfC qual scope s.heap.objs.size f cd
  outer := outer
  stack := envOfC qual scope s.heap.objs.size f cd :: outer
  ex := []
  calm := true
  fn := fun _ => true
  pn := []
  xe := fun e s' => wpAny (model P w) (A.deeper (envOfC qual scope s.heap.objs.size f cd)) (leaving (envOfC qual scope s.heap.objs.size f cd) e) (fun _ s'' => CX outer H s E e s'') (fun e' s'' => CX outer H s E e' s'') s'

theorem cell_has {sc : Scope} {n : Nat} {x : Str} (h : sc.names.lookup x = some .cell) : ∃ c, (cellsFrom n sc.names []).lookup x = some c := by
  have q := PySem.W.cellsFrom_some sc.names n [] (.inl h)
  exact Option.isSome_iff_exists.mp q

theorem inv_start {CX : CXT} {P : Program} {w : World} {K : PySem.W.Frag} {mg : Str → Option Value} {base : Heap} {N ps : List Str} {qual : Str} {scope : Scope} {f : Addr} {cd : Value} {A : Around} {outer : List Env} {s s1 : Shared} {H : Hp} {E : XK} {us : List Value} {vs : List V}
    (S : FnScope N ps scope) (hd : A.handled = none) (e0 : Env0 P w K mg base A outer s H) (hl : vs.length = ps.length) (r : Vals vs us)
    (x : InCallC s s.heap.objs.size (bindL (envOfC qual scope s.heap.objs.size f cd).kindOf (ps.zip us) fun _ => none) (cellsFrom (s.heap.objs.size + 1) scope.names []) (bindC (envOfC qual scope s.heap.objs.size f cd).kindOf (ps.zip us) fun _ => none) s1) :
    Inv (cxOf CX P w K mg base N qual scope f cd A outer s H E) [] (start N vs) H s1 := by
  have hpl : ps.length ≤ N.length := by have := congrArg List.length S.pre; rw [List.length_take] at this; omega
  obtain ⟨h1, tk, rfl, hk⟩ := x.done
  have noA : ∀ b : Addr, b ∉ (cxOf CX P w K mg base N qual scope f cd A outer s H E).ex := fun b z => absurd (show b ∈ ([] : List Addr) from z) (by simp)
  refine ⟨⟨e0.mod, S.kind, rfl, rfl, Nat.le_refl _, fun y z c h1 h2 => ?_, fun y hy => ?_, fun y c _ h => ?_, fun _ => hd, Around.frames_deeper e0.frames, .inr ⟨rfl, rfl⟩, fun b z => absurd z (noA b), e0.bs, e0.bsz, fun b _ _ => noA b, fun b z => absurd z (noA b), e0.funs, e0.frf⟩,
    rfl, e0.bare, Un.kept hk, ⟨_, x.toInCall.ns, fun i y v h1 h2 h3 => ?_⟩, fun y c h => ⟨_, x.cell y c h⟩, e0.hok.fresh (Nat.le_refl _), fun y c h => ?_, fun p hp => absurd (show p ∈ ([] : List (Addr × Obj)) from hp) (by simp), e0.hok.kept hk, ?_⟩
  · exact name_of_addr x.apart (PySem.mem_of_lookup h1) (PySem.mem_of_lookup h2)
  · have hy : scope.names.lookup y = some .cell ∨ scope.names.lookup y = some .free := hy
    rcases hy with hy | hy
    · exact cell_has hy
    · exact absurd rfl (S.nofree _ (PySem.mem_of_lookup hy))
  · exact Nat.le_of_lt (x.above y c (PySem.mem_of_lookup h))
  · have hi : i < vs.length := by
      unfold start at h2
      by_cases hi : i < vs.length
      · exact hi
      · rw [List.getElem?_append_right (by simpa using hi)] at h2
        rw [List.getElem?_replicate] at h2
        split at h2 <;> cases h2
    have ha : vs[i]? = some v := by
      unfold start at h2
      rw [List.getElem?_append_left (by simpa using hi), List.getElem?_map] at h2
      cases e : vs[i]? with
      | none => rw [e] at h2; cases h2
      | some a => rw [e] at h2; cases h2; rfl
    obtain ⟨u, hu, rv⟩ := r.get ha
    have hp : ps[i]? = some y := by
      rw [← S.pre, List.getElem?_take_of_lt (by omega)]; exact h1
    have ndP : ps.Nodup := by rw [← S.pre]; exact S.nd.sublist (List.take_sublist _ _)
    refine ⟨u, rv, ?_⟩
    rcases S.par y (List.mem_of_getElem? hp) with k | k
    · exact .inl ⟨k, bindL_get ndP hp hu k⟩
    · obtain ⟨c, e⟩ := cell_has (n := s.heap.objs.size + 1) k
      refine .inr ⟨.inl k, c, e, ?_⟩
      have q := x.cell y c e
      rw [bindC_get ndP hp hu (by show scope.names.lookup y ≠ _; rw [k]; decide)] at q
      exact q
  · exact e0.hok.fresh (Nat.le_of_lt (x.above y c (PySem.mem_of_lookup h)))
  · unfold start
    show _ = N.length
    rw [List.length_append, List.length_map, List.length_replicate]
    omega

/-- THE RULE: a def (or a method) of the text, by its body. The body's reading t is chosen for each entry; it is run at the parameters' values -/
theorem fn_of {CX : CXT} {P : Program} {w : World} {K : PySem.W.Frag} {mg : Str → Option Value} {base : Heap} {k : Nat} {f : Addr} {name qual : Str} {params : Arguments} {body : List Stmt} {scope : Scope} {dV kV doc pm cdv ct oc : Value} {an od : Option Addr}
    {osl : Array (Option Value)} {N ps : List Str} {sp : Sp} (lk : K.lookup f = some ⟨oc, od, .func (PySem.W.fnOf name qual params body scope dV kV doc pm an cdv ct), osl⟩) (hcd : PySem.W.codeIn K cdv qual = true) (S : FnScope N ps scope)
    (len : ∀ vs H Q E, sp vs H Q E → vs.length = ps.length)
    (hbody : ∀ (A : Around) (outer : List Env) (s : Shared) (H : Hp) (vs : List V) (Q : VK) (E : XK), Room k (A.deeper (envOfC qual scope s.heap.objs.size f cdv)) → sp vs H Q E →
      ∃ t, PSs (cxOf CX P w K mg base N qual scope f cdv A outer s H E) body t ∧ t { nx := fun _ H' => Q .non H', rt := Q } (start N vs) H) :
    FnOk P w K mg base CX (k + 1) f (PySem.W.fnOf name qual params body scope dV kV doc pm an cdv ct) ps sp := by
  refine ⟨len, fun A outer s H args us vs Q E hr e0 hb r hsp => ?_⟩
  have hl := len _ _ _ _ hsp
  have KX : K.In s.heap := e0.mod.kin.keeps fun b o e => (e0.bs b o e).1
  have lim : s.heap.NoLimit := e0.mod.nolimit.keeps fun b o e => (e0.bs b o e).1
  have hkind : ∀ y ∈ ps.zip us, scope.names.lookup y.1 = some .local ∨ (scope.names.lookup y.1 = some .cell ∧ ((cellsFrom (s.heap.objs.size + 1) scope.names []).lookup y.1).isSome = true) := fun ⟨n, v⟩ hy => by
    rcases S.par n (List.of_mem_zip hy).1 with q | q
    · exact .inl q
    · exact .inr ⟨q, PySem.W.cellsFrom_some _ _ _ (.inl q)⟩
  refine codeAny_call_function hr.depth (KX _ _ lk) rfl S.co S.gen rfl (PySem.W.codeRec_of KX hcd) (hb _ _ _ _ ?_)
  refine wpAny_newFunctionEnv_cells S.kind hkind fun env he s1 x => ?_
  subst he
  refine ⟨lim.keeps x.toInCall.keep, codeAny_func ?_⟩
  obtain ⟨t, ht, hq⟩ := hbody A outer s H vs Q E (hr.deeper _) hsp
  have I : Inv (cxOf CX P w K mg base N qual scope f cdv A outer s H E) [] (start N vs) H s1 := inv_start S hr.hd e0 hl r x
  refine wpAny_mono (ht [] s1 (start N vs) H _ I hq) (fun fl s' hs => ?_) fun e s' hs => hs
  have fin : ∀ {σ' : St} {H' : Hp} {v : V} {u : Value}, Inv (cxOf CX P w K mg base N qual scope f cdv A outer s H E) [] σ' H' s' → RelV v u → Q v H' → CE outer P w H s Q u s' :=
    fun {σ' H' v u} J rv q => ⟨v, H', J.os, J.bare, J.base, J.hok, rv, q⟩
  cases fl with
  | ret u =>
    obtain ⟨v, σ', H', J, rv, q⟩ := hs
    exact fin J rv q
  | next =>
    obtain ⟨σ', H', J, q⟩ := hs
    exact fin (v := V.non) (u := Value.none) J rfl q
  | brk =>
    obtain ⟨_, _, _, q⟩ := hs
    exact False.elim q
  | cont =>
    obtain ⟨_, _, _, q⟩ := hs
    exact False.elim q
end L2

namespace L2
open PySem PySem.Spec PyProof.Rows
section
variable {X : Cx} {x : Str} {p pos : Pos} {e : Expr} {es : List Expr} {t : TA} {id T : String} {r : List V → Hp → VK → Prop}

def tCB (r : List V → Hp → VK → Prop) (t : TA) : TE := fun σ H Q => t σ H fun vs H1 => r vs H1 Q
/-- f(e, ..), f a built-in function -/
theorem pe_callB (hc : CallR X (.builtin id) r) (hg : Gl X x) (hm : X.mg x = none) (hv : bootBuiltins x = some (.builtin id)) (ha : PA X (e :: es) t) (hn : x ≠ "__name__" := by decide) (hdb : (x == ("__debug__" : Str)) = false := by decide)
    (he : starEach (e :: es) X.env = (false, eval e X.env) :: starEach es X.env := by rfl) (hpl : (backTo pos (starEach es X.env)).any (·.1) = false := by rfl) : PE X (.Call (.Name x p) (e :: es) [] pos) (tCB r t) := by
  intro pins s σ H Q I h
  refine wpAny_Call_Name_kw (ld_blt I hg hm hv ?_ hn hdb)
  exact PyProof.Rows.callWith_builtin1 (thn (ha pos pins s σ H _ I h) fun us s1 ⟨vs, H1, I1, r1, q1⟩ => hc pins s1 σ H1 vs us Q I1 r1 q1) he hpl
/-- T(e, ..), T a built-in type -/
theorem pe_callTy (hc : CallR X (.type T) r) (hg : Gl X x) (hm : X.mg x = none) (hv : bootBuiltins x = some (.type T)) (ha : PA X (e :: es) t) (hn : x ≠ "__name__" := by decide) (hdb : (x == ("__debug__" : Str)) = false := by decide)
    (he : starEach (e :: es) X.env = (false, eval e X.env) :: starEach es X.env := by rfl) (hpl : (backTo pos (starEach es X.env)).any (·.1) = false := by rfl) : PE X (.Call (.Name x p) (e :: es) [] pos) (tCB r t) := by
  intro pins s σ H Q I h
  refine wpAny_Call_Name_kw (ld_blt I hg hm hv ?_ hn hdb)
  exact PyProof.Rows.callWith_type1 (thn (ha pos pins s σ H _ I h) fun us s1 ⟨vs, H1, I1, r1, q1⟩ => hc pins s1 σ H1 vs us Q I1 r1 q1) he hpl
end
end L2

namespace HT
open PySem PyProof.Rows

section
open PySem.SeqAt
open PySem.AutoSeq1 (wpAny_loadPart')
open PySem.MeetsSeq PySem.MeetsSeq2 PySem.MeetsSeq3

end

section
variable {prog : Program} {w : World} {A : Around} {E : Value → Shared → Prop} {s : Shared}

/-- t + u, t not empty -/
theorem cat_tup {t b : Addr} {vs ws : List Value} {Q : Value → Shared → Prop} (ht : IsTup s.heap t vs.toArray) (hb : IsTup s.heap b ws.toArray) (hv : vs ≠ [])
    (h1 : ws = [] → Q (.ref t) s) (h2 : ws ≠ [] → Q (.ref s.heap.objs.size) { s with heap := s.heap.push { cls := .type "tuple", data := .seq (vs ++ ws).toArray } })
    (hsz : vs.length + ws.length ≤ sizeLine) : wpAny (model prog w) A (binaryOp .Add (.ref t) (.ref b)) Q E s := by
  obtain ⟨⟨cls, dd, data, sl⟩, ho, hc, n, hd⟩ := id ht
  obtain ⟨⟨cls2, dd2, data2, sl2⟩, ho2, hc2, n2, hd2⟩ := id hb
  simp only at hc hd hc2 hd2
  subst hc hd hc2 hd2
  have e : vs.toArray ++ ws.toArray = (vs ++ ws).toArray := by simp
  by_cases hw : ws = []
  · exact concat_meets ⟨_, ho, rfl⟩ ⟨_, ho2, rfl⟩ noFill_tuple_add seq_tuple_add PySem.F.slot_tuple_add PySem.F.entry_tuple_add (PySem.F.args_tuple_add_2 _ _)
      (tuple_addW1 t b vs.toArray ws.toArray n n2 dd dd2 sl sl2 (by simpa using hv) (by simp [hw])) ⟨ho, ho2, h1 hw⟩
  · refine concat_meets ⟨_, ho, rfl⟩ ⟨_, ho2, rfl⟩ noFill_tuple_add seq_tuple_add PySem.F.slot_tuple_add PySem.F.entry_tuple_add (PySem.F.args_tuple_add_2 _ _)
      (tuple_addW2 t b vs.toArray ws.toArray n n2 dd dd2 sl sl2 (by simpa using hv) (by simpa using hw) (by rw [List.size_toArray, List.size_toArray]; exact hsz)) ⟨ho, ho2, ?_⟩
    rw [e]
    exact h2 hw

/-- a slice's bound as a place among n (d where it is left out) -/
def sIx (n d : Nat) : Option Int → Nat
  | none => d
  | some v => if v < 0 then (v + (n : Int)).toNat else min v.toNat n
theorem sIx_none (n d : Nat) : sIx n d none = d := rfl
theorem sIx_nat (n d k : Nat) : sIx n d (some (k : Int)) = min k n := by
  show (if (k : Int) < 0 then ((k : Int) + (n : Int)).toNat else min (k : Int).toNat n) = min k n
  rw [if_neg (by omega), Int.toNat_natCast]
theorem sIx_le (n d : Nat) (hd : d ≤ n) (o : Option Int) : sIx n d o ≤ n := by
  cases o with
  | none => exact hd
  | some v =>
    show (if v < 0 then (v + (n : Int)).toNat else min v.toNat n) ≤ n
    by_cases hv : v < 0
    · rw [if_pos hv]; omega
    · rw [if_neg hv]; exact Nat.min_le_right _ _
theorem clip_eq (v : Int) (n d : Nat) : (if v < 0 then max (v + (n : Int)) 0 else min v (n : Int)) = ((sIx n d (some v) : Nat) : Int) := by
  show (if v < 0 then max (v + (n : Int)) 0 else min v (n : Int)) = (((if v < 0 then (v + (n : Int)).toNat else min v.toNat n) : Nat) : Int)
  by_cases hv : v < 0
  · simp only [if_pos hv]; omega
  · simp only [if_neg hv]; omega
theorem adjust_gen (lo hi : Option Int) (n : Nat) : Builtin.Slice.sliceAdjust lo hi 1 (n : Int) = (((sIx n 0 lo : Nat) : Int), ((sIx n n hi : Nat) : Int)) := by
  have h1 : ¬ ((1 : Int) < 0) := by omega
  unfold Builtin.Slice.sliceAdjust
  simp only [h1, if_false]
  refine Prod.ext ?_ ?_
  · cases lo with
    | none => rfl
    | some v => exact clip_eq v n 0
  · cases hi with
    | none => rfl
    | some v => exact clip_eq v n n
theorem places_gen (i j : Nat) : Builtin.Slice.slicePlaces (i : Int) (j : Int) 1 = j - i := by
  unfold Builtin.Slice.slicePlaces
  have h1 : (1 : Int) > 0 := by omega
  simp only [h1, if_true, Int.ediv_one]
  split <;> omega
theorem slicePart_ {v : Value} {o : Option Int} {Q : Option Int → Shared → Prop} (p : IsPart v o) (h : Q o s) : wpAny (model prog w) A (Builtin.Slice.slicePartIndex v) Q E s := by
  cases p with
  | none => exact slicePart_none h
  | int i t => exact slicePart_int h
theorem sliceApplied_gen {sl : Addr} {vl vu : Value} {lo hi : Option Int} {n : Nat} {Q : Int × Int × Nat → Shared → Prop} (hs : s.heap.IsSliceOf sl vl vu .none) (pl : IsPart vl lo) (pu : IsPart vu hi)
    (h : Q (((sIx n 0 lo : Nat) : Int), 1, sIx n n hi - sIx n 0 lo) s) : wpAny (model prog w) A (Builtin.Slice.sliceApplied (.ref sl) (pure (n : Int))) Q E s := by
  obtain ⟨os, hos, hcs, hds⟩ := id hs
  unfold Builtin.Slice.sliceApplied Builtin.Slice.sliceFields
  refine wpAny_bind (wpAny_bind (wpAny_field hos hds (x := vl) rfl (wpAny_bind (wpAny_field hos hds (x := vu) rfl (wpAny_bind (wpAny_field hos hds (x := .none) rfl (wpAny_pure ?_)))))))
  refine wpAny_bind (slicePart_none ?_)
  show wpAny _ _ (if ((1 : Int) == 0) = true then _ else _) _ _ s
  rw [if_neg (by decide)]
  refine wpAny_bind (slicePart_ pl (wpAny_bind (slicePart_ pu (wpAny_bind (wpAny_pure ?_)))))
  show wpAny _ _ (match Builtin.Slice.sliceAdjust lo hi 1 (n : Int) with | (lo, hi) => pure (lo, (1 : Int), Builtin.Slice.slicePlaces lo hi 1)) _ _ s
  rw [adjust_gen lo hi n]
  show wpAny _ _ (pure (((sIx n 0 lo : Nat) : Int), (1 : Int), Builtin.Slice.slicePlaces ((sIx n 0 lo : Nat) : Int) ((sIx n n hi : Nat) : Int) 1)) _ _ s
  rw [places_gen]
  exact wpAny_pure h
theorem pick_gen (xs : Array Value) (i k : Nat) : ((List.range k).filterMap fun (m : Nat) => xs[((i : Int) + (m : Int) * 1).toNat]?).toArray = ((xs.toList.drop i).take k).toArray := by
  have e : (fun (m : Nat) => xs[((i : Int) + (m : Int) * 1).toNat]?) = fun m => xs[i + m]? := by
    funext m
    have : ((i : Int) + (m : Int) * 1).toNat = i + m := by omega
    rw [this]
  rw [e]
  have := pick_run xs i k
  rw [List.filterMap_map] at this
  have e2 : ((fun x => xs[x]?) ∘ fun x => i + x) = fun m => xs[i + m]? := rfl
  rw [e2] at this
  rw [this]

theorem getItem_tuple_cut {t sl : Addr} {items : Array Value} {vl vu : Value} {lo hi : Option Int} {Q : Value → Shared → Prop} (ht : IsTup s.heap t items) (hs : s.heap.IsSliceOf sl vl vu .none) (pl : IsPart vl lo) (pu : IsPart vu hi)
    (hw : ¬ (sIx items.size 0 lo = 0 ∧ sIx items.size items.size hi = items.size))
    (h : Q (.ref s.heap.objs.size) { s with heap := s.heap.push { cls := .type "tuple", data := .seq ((items.toList.drop (sIx items.size 0 lo)).take (sIx items.size items.size hi - sIx items.size 0 lo)).toArray } })
    (hsz : items.size ≤ sizeLine) : wpAny (model prog w) A (getItem (.ref t) (.ref sl)) Q E s := by
  have htake : sizeOk (.seq ((items.toList.drop (sIx items.size 0 lo)).take (sIx items.size items.size hi - sIx items.size 0 lo)).toArray) := by
    show ((items.toList.drop (sIx items.size 0 lo)).take (sIx items.size items.size hi - sIx items.size 0 lo)).toArray.size ≤ sizeLine
    rw [List.size_toArray, List.length_take, List.length_drop, Array.length_toList]
    omega
  have hj : sIx items.size items.size hi ≤ items.size := sIx_le _ _ (Nat.le_refl _) hi
  obtain ⟨os, hos, hcs, hds⟩ := id hs
  have hTs : s.TypeIs (.ref sl) "slice" := ⟨os, hos, hcs⟩
  unfold getItem
  try with_reducible refine wpAny_holding ?_
  first | refine wpAny_bind (wpAny_pure ?_) | skip
  refine wpAny_bind (wpAny_sequenceKey ht.typeIs (by decide) ?_)
  refine wpAny_bind (wpAny_callSpecial?_slot (name := Str.ofString "__getitem__") ht.typeIs PyProof.Rows.slot_tuple_getitem
    (wpAny_call_entry PyProof.Rows.slot_tuple_getitem ht.typeIs entry_tuple_getitem ?_ (args_tuple_getitem _ _)))
  show wpAny _ _ (Builtin.Tuple.tupleItemsOf (.ref t) >>= _) _ _ s
  refine wpAny_bind (tupleItemsOf_ ht ?_)
  refine wpAny_bind (wpAny_typeOf hTs ?_)
  rw [if_pos (by decide)]
  refine wpAny_bind (sliceApplied_gen hs pl pu ?_)
  have hno : ¬ ((((sIx items.size 0 lo : Nat) : Int) == 0 && (1 : Int) == 1 && (sIx items.size items.size hi - sIx items.size 0 lo) == items.size) = true) := by
    intro q
    rw [Bool.and_eq_true, Bool.and_eq_true] at q
    have q1 : ((sIx items.size 0 lo : Nat) : Int) = 0 := eq_of_beq q.1.1
    have q2 : sIx items.size items.size hi - sIx items.size 0 lo = items.size := eq_of_beq q.2
    exact hw ⟨by omega, by omega⟩
  show wpAny _ _ (if (((sIx items.size 0 lo : Nat) : Int) == 0 && (1 : Int) == 1 && (sIx items.size items.size hi - sIx items.size 0 lo) == items.size) = true then _ else _) _ _ s
  rw [if_neg hno, pick_gen]
  first
    | exact wpAny_bind (m := Builtin.Tuple.tupleExact _) (wpAny_newObj_type (wpAny_pure ⟨_, rfl, wpAny_pure h⟩) htake)
    | exact wpAny_bind (m := Builtin.Tuple.tupleExact _) (wpAny_newObj_type (wpAny_bind (wpAny_pure (wpAny_pure ⟨_, rfl, wpAny_pure h⟩))) htake)
    | exact wpAny_bind (wpAny_bind (m := Builtin.Tuple.tupleExact _) (wpAny_newObj_type (wpAny_pure (wpAny_pure ⟨_, rfl, wpAny_pure h⟩)) htake))
    | exact wpAny_bind (wpAny_bind (m := Builtin.Tuple.tupleExact _) (wpAny_newObj_type (wpAny_pure ⟨_, rfl, wpAny_pure h⟩) htake))
end
end HT

namespace L2
open PySem PySem.Spec PyProof.Rows

abbrev TO := St → Hp → (Option Int → Hp → Prop) → Prop
/-- a slice's part (left out, or an int) -/
def PO (X : Cx) (e : Option Expr) (t : TO) : Prop :=
  ∀ (pins : List (Addr × Obj)) (s : Shared) (σ : St) (H : Hp) (Q : Option Int → Hp → Prop), Inv X pins σ H s → t σ H Q →
    wpAny (model X.prog X.w) X.A (evalPart e X.env) (fun u s' => ∃ o H', Inv X pins σ H' s' ∧ IsPart u o ∧ Q o H') X.xe s
def tNoPart : TO := fun _ H Q => Q none H
def tPart (t : TE) : TO := fun σ H Q => t σ H fun x H1 => ∃ i, x = .int i ∧ Q (some i) H1

section
variable {X : Cx} {e : Expr} {te : TE} {lo hi : Option Expr} {tl th : TO} {pos p2 : Pos}

theorem po_none : PO X none tNoPart := by
  intro pins s σ H Q I h
  rw [evalPart_none]
  exact wpAny_pure ⟨none, H, I, .none, h⟩
theorem po_some (h : PE X e te) : PO X (some e) (tPart te) := by
  intro pins s σ H Q I hw
  rw [evalPart_some]
  refine thn (h pins s σ H _ I hw) fun u s1 ⟨x, H1, I1, r1, q1⟩ => ?_
  obtain ⟨i, rfl, q⟩ := q1
  obtain ⟨t, rfl⟩ := r1
  exact ⟨some i, H1, I1, .int i t, q⟩

/-- what a slice of a value is, by values: the slice object stands at sl -/
def SlR (X : Cx) (r : V → Option Int → Option Int → Hp → VK → Prop) : Prop :=
  ∀ (pins : List (Addr × Obj)) (s : Shared) (σ : St) (H : Hp) (x : V) (v vl vu : Value) (lo hi : Option Int) (sl : Addr) (Q : VK), Inv X pins σ H s → RelV x v → s.heap.IsSliceOf sl vl vu .none → IsPart vl lo → IsPart vu hi → r x lo hi H Q →
    ∃ T id, typeLookup (.type T) "__getitem__" = pure (some (.builtin id)) ∧ s.TypeIs v T ∧ wpAny (model X.prog X.w) X.A (getItem v (.ref sl)) (EP X pins σ Q) X.xe s
theorem SlR.or {r r' : V → Option Int → Option Int → Hp → VK → Prop} (h : SlR X r) (h' : SlR X r') : SlR X (fun x lo hi H Q => r x lo hi H Q ∨ r' x lo hi H Q) := by
  intro pins s σ H x v vl vu lo hi sl Q I rx hs pl pu q
  rcases q with q | q
  · exact h pins s σ H x v vl vu lo hi sl Q I rx hs pl pu q
  · exact h' pins s σ H x v vl vu lo hi sl Q I rx hs pl pu q
def tSl (r : V → Option Int → Option Int → Hp → VK → Prop) (te : TE) (tl th : TO) : TE := fun σ H Q => te σ H fun x H1 => tl σ H1 fun l H2 => th σ H2 fun u H3 => r x l u H3 Q
/-- a[lo:hi], any a -/
theorem pe_slice {r : V → Option Int → Option Int → Hp → VK → Prop} (hr : SlR X r) (he : PE X e te) (hl : PO X lo tl) (hu : PO X hi th) : PE X (.Subscript e (.Slice lo hi none p2) pos) (tSl r te tl th) := by
  intro pins s σ H Q I h
  refine Subscript_ (thn (he pins s σ H _ I h) fun v s1 ⟨x, H1, I1, r1, q1⟩ => ?_)
  refine wpAny_Slice (thn (hl pins s1 σ H1 _ I1 q1) fun vl s2 ⟨l, H2, I2, pl, q2⟩ => thn (hu pins s2 σ H2 _ I2 q2) fun vu s3 ⟨u, H3, I3, pu, q3⟩ => ?_)
  rw [evalPart_none]
  refine wpAny_pure ?_
  have I4 : Inv X pins σ H3 { s3 with heap := s3.heap.push { cls := .type "slice", data := .fields #[vl, vu, .none] } } := I3.kept (t' := s3.toks) fun b ob q => Heap.get?_push_of_some _ q
  obtain ⟨T, id, hT, ht, hg⟩ := hr pins { s3 with heap := s3.heap.push { cls := .type "slice", data := .fields #[vl, vu, .none] } } σ H3 x v vl vu l u s3.heap.objs.size Q I4 r1 (Heap.IsSliceOf.new ..) pl pu q3
  show wpAny (model X.prog X.w) X.A (subscriptTail e (.Slice lo hi none p2) v (.ref s3.heap.objs.size)) (EP X pins σ Q) X.xe { s3 with heap := s3.heap.push { cls := .type "slice", data := .fields #[vl, vu, .none] } }
  exact tail_any (ops := [.ref s3.heap.objs.size, v]) ht hT hg (by with_unfolding_all rfl)

/-- the items of xs[lo:hi] -/
def cutV (xs : List V) (lo hi : Option Int) : List V := (xs.drop (HT.sIx xs.length 0 lo)).take (HT.sIx xs.length xs.length hi - HT.sIx xs.length 0 lo)
theorem cutV_length (xs : List V) (lo hi : Option Int) : (cutV xs lo hi).length ≤ xs.length := by
  unfold cutV
  rw [List.length_take, List.length_drop]
  omega
/-- t[lo:hi], not the whole of it (the whole would be t itself) -/
def rSlT (K : PySem.W.Frag) : V → Option Int → Option Int → Hp → VK → Prop := fun x lo hi H Q => ∃ a xs, x = .ref a ∧ SqT K H a xs ∧
  ¬ (HT.sIx xs.length 0 lo = 0 ∧ HT.sIx xs.length xs.length hi = xs.length) ∧ ∀ p, H p = none → Q (.ref p) (upd H p (.tup (cutV xs lo hi)))
theorem sl_tup : SlR X (rSlT X.K) := by
  intro pins s σ H x v vl vu lo hi sl Q I rx hs pl pu h
  obtain ⟨a, xs, rfl, hx, hw, q⟩ := h
  cases rx
  obtain ⟨its, r, ht, hz⟩ := I.tuple hx
  have hlen : its.toArray.size = xs.length := by rw [List.size_toArray]; exact r.length.symm
  refine ⟨"tuple", _, PyProof.Rows.slot_tuple_getitem.lookup, ht.typeIs, ?_⟩
  refine HT.getItem_tuple_cut ht hs pl pu (by rw [hlen]; exact hw) ?_ (by rw [hlen]; exact hz)
  rw [hlen]
  refine ⟨.ref s.heap.objs.size, _, I.laid (t' := s.toks) (o := .tup (cutV xs lo hi)) (fun b ob q => Heap.get?_push_of_some _ q) (Nat.le_refl _) ?_, rfl, q _ (I.hok.fresh (Nat.le_refl _))⟩
  exact ⟨Nat.le_trans (cutV_length xs lo hi) hz, _, (r.drop (HT.sIx xs.length 0 lo)).take (HT.sIx xs.length xs.length hi - HT.sIx xs.length 0 lo), IsTup.new _ _⟩

/-- t + u, t not empty: u empty gives t itself -/
def rCatT (K : PySem.W.Frag) : R2 := fun x y H Q => ∃ a b xs ys, x = .ref a ∧ y = .ref b ∧ SqT K H a xs ∧ SqT K H b ys ∧ xs ≠ [] ∧ xs.length + ys.length ≤ sizeLine ∧
  (ys = [] → Q (.ref a) H) ∧ (ys ≠ [] → ∀ p, H p = none → Q (.ref p) (upd H p (.tup (xs ++ ys))))
theorem Vals.nil_iff {xs : List V} {us : List Value} (r : Vals xs us) : us = [] ↔ xs = [] := by
  cases r with
  | nil => simp
  | cons _ _ => simp
theorem op_catT : OpR X (binaryOp .Add) (rCatT X.K) := by
  intro pins s σ H x y v u Q I rx ry h
  obtain ⟨a, b, xs, ys, rfl, rfl, ha, hb, hx, hz, q1, q2⟩ := h
  cases rx
  cases ry
  obtain ⟨its, r1, p1, _⟩ := I.tuple ha
  obtain ⟨its2, r2, p2, _⟩ := I.tuple hb
  refine HT.cat_tup p1 p2 (fun z => hx (r1.nil_iff.mp z)) (fun z => ⟨.ref a, H, I, rfl, q1 (r2.nil_iff.mp z)⟩) (fun z => ?_) (by rw [← r1.length, ← r2.length]; exact hz)
  refine ⟨.ref s.heap.objs.size, _, I.laid (t' := s.toks) (o := .tup (xs ++ ys)) (fun b ob q => Heap.get?_push_of_some _ q) (Nat.le_refl _) ?_, rfl, q2 (fun w => z (r2.nil_iff.mpr w)) _ (I.hok.fresh (Nat.le_refl _))⟩
  exact ⟨by rw [List.length_append]; exact hz, _, r1.append r2, IsTup.new _ _⟩
end
end L2

namespace L2
open PySem PySem.Spec PyProof.Rows

/-- the place that an index of any sign means -/
def ixN (n : Nat) (i : Int) : Option Nat := if 0 ≤ i then (if i < n then some i.toNat else none) else if -(n : Int) ≤ i then some (i + n).toNat else none
def atI {α : Type} (xs : List α) (i : Int) : Option α := (ixN xs.length i).bind fun j => xs[j]?
theorem ixN_seq {n : Nat} {i : Int} {j : Nat} (h : ixN n i = some j) : seqIndex? i n = some j ∧ j < n ∧ -(n : Int) ≤ i ∧ i < n := by
  unfold ixN at h
  by_cases h0 : 0 ≤ i
  · rw [if_pos h0] at h
    by_cases h1 : i < n
    · rw [if_pos h1] at h
      have e : i.toNat = j := Option.some.inj h
      exact ⟨by rw [seqIndex_of h0 h1, e], by omega, by omega, h1⟩
    · rw [if_neg h1] at h; cases h
  · rw [if_neg h0] at h
    by_cases h1 : -(n : Int) ≤ i
    · rw [if_pos h1] at h
      have e : (i + n).toNat = j := Option.some.inj h
      exact ⟨by rw [seqIndex_neg (by omega) h1, e], by omega, h1, by omega⟩
    · rw [if_neg h1] at h; cases h
theorem atI_get {α : Type} {xs : List α} {i : Int} {v : α} (h : atI xs i = some v) : ∃ j, seqIndex? i xs.length = some j ∧ xs[j]? = some v ∧ j < xs.length ∧ -(xs.length : Int) ≤ i ∧ i < xs.length := by
  unfold atI at h
  cases e : ixN xs.length i with
  | none => rw [e] at h; cases h
  | some j =>
    rw [e] at h
    obtain ⟨h1, h2, h3, h4⟩ := ixN_seq e
    exact ⟨j, h1, h, h2, h3, h4⟩
theorem atI_nat {α : Type} {xs : List α} {j : Nat} {v : α} (h : xs[j]? = some v) : atI xs (j : Int) = some v := by
  have hj : j < xs.length := (List.getElem?_eq_some_iff.mp h).1
  have e : ixN xs.length (j : Int) = some j := by
    unfold ixN
    rw [if_pos (by omega), if_pos (by omega)]; simp
  unfold atI; rw [e]; exact h
/-- what stands as an index of a plain subscript -/
def PlainIx (b : Expr) : Prop := ∀ o i, subscripted b false o i = operate [o, i] (getItem o i)
/-- a subscript by values -/
def IxR (X : Cx) (r : R2) : Prop :=
  ∀ (value slice : Expr) (pins : List (Addr × Obj)) (s : Shared) (σ : St) (H : Hp) (x y : V) (v u : Value) (Q : VK), Inv X pins σ H s → RelV x v → RelV y u → r x y H Q →
    subscripted slice false v u = operate [v, u] (getItem v u) → wpAny (model X.prog X.w) X.A (subscriptTail value slice v u) (EP X pins σ Q) X.xe s
/-- a call of a builtin's method by values: the receiver, the arguments -/
def MtR (X : Cx) (id : String) (r : V → List V → Hp → VK → Prop) : Prop :=
  ∀ (pins : List (Addr × Obj)) (s : Shared) (σ : St) (H : Hp) (x : V) (xs : List V) (v : Value) (us : List Value) (Q : VK), Inv X pins σ H s → RelV x v → Vals xs us → r x xs H Q →
    wpAny (model X.prog X.w) X.A (call (.builtin id) (v :: us)) (EP X pins σ Q) X.xe s
section
variable {X : Cx} {a b : Expr} {ta tb : TE} {pos : Pos}
theorem IxR.or {r r' : R2} (h : IxR X r) (h' : IxR X r') : IxR X (fun x y H Q => r x y H Q ∨ r' x y H Q) := by
  intro value slice pins s σ H x y v u Q I rx ry q hs
  rcases q with q | q
  · exact h value slice pins s σ H x y v u Q I rx ry q hs
  · exact h' value slice pins s σ H x y v u Q I rx ry q hs
theorem MtR.or {id : String} {r r' : V → List V → Hp → VK → Prop} (h : MtR X id r) (h' : MtR X id r') : MtR X id (fun x xs H Q => r x xs H Q ∨ r' x xs H Q) := by
  intro pins s σ H x xs v us Q I rx rs q
  rcases q with q | q
  · exact h pins s σ H x xs v us Q I rx rs q
  · exact h' pins s σ H x xs v us Q I rx rs q
/-- a[b] -/
theorem pe_ix {r : R2} (hr : IxR X r) (ha : PE X a ta) (hb : PE X b tb) (hs : PlainIx b) : PE X (.Subscript a b pos) (tOp r ta tb) := by
  intro pins s σ H Q I h
  exact Subscript_ (binT ha hb I h fun v u s2 x y H2 I2 rx ry q => hr a b pins s2 σ H2 x y v u Q I2 rx ry q (hs _ _))

def rIxL (K : PySem.W.Frag) : R2 := fun x y H Q => ∃ p xs i v, x = .ref p ∧ y = .int i ∧ SqL K H p xs ∧ atI xs i = some v ∧ Q v H
def rIxT (K : PySem.W.Frag) : R2 := fun x y H Q => ∃ p xs i v, x = .ref p ∧ y = .int i ∧ SqT K H p xs ∧ atI xs i = some v ∧ Q v H
def rIxS : R2 := fun x y H Q => ∃ z i c, x = .str z ∧ y = .int i ∧ z.length ≤ sizeLine ∧ atI z.cps.toList i = some c ∧ Q (.str ⟨#[c]⟩) H
theorem ix_list : IxR X (rIxL X.K) := by
  intro value slice pins s σ H x y v u Q I rx ry h hs
  obtain ⟨p, xs, i, z, rfl, rfl, hq, he, q⟩ := h
  cases rx
  obtain ⟨t, rfl⟩ := ry
  obtain ⟨its, r, pl, hz⟩ := I.list hq
  obtain ⟨j, h1, h2, h3, h4, h5⟩ := atI_get he
  obtain ⟨w, ew, rw'⟩ := r.get h2
  have hl := r.length
  have hn := line63
  have fin : EP X pins σ Q w s := ⟨z, H, I, rw', q⟩
  by_cases h0 : 0 ≤ i
  · have hj : i.toNat = j := by
      rw [seqIndex_of h0 h5] at h1
      exact Option.some.inj h1
    exact item_listR pl.isList h0 (by omega) (by rw [hj]; simpa using ew) fin hs
  · have hj : (i + (its.toArray.size : Int)).toNat = j := by
      rw [seqIndex_neg (by omega) h4] at h1
      rw [List.size_toArray, ← hl]
      exact Option.some.inj h1
    exact subscriptTail_builtinR (x := w) pl.isList.typeIs slot_list_getitem.lookup
      (wpAny_getItem_list_neg (Q := fun r s' => r = w ∧ EP X pins σ Q r s') pl.isList (by omega) (by rw [List.size_toArray] <;> omega) (by omega) (by rw [hj]; simpa using ew) ⟨rfl, fin⟩) hs
theorem ix_tup : IxR X (rIxT X.K) := by
  intro value slice pins s σ H x y v u Q I rx ry h hs
  obtain ⟨p, xs, i, z, rfl, rfl, hq, he, q⟩ := h
  cases rx
  obtain ⟨t, rfl⟩ := ry
  obtain ⟨its, r, pl, hz⟩ := I.tuple hq
  obtain ⟨j, h1, h2, h3, h4, h5⟩ := atI_get he
  obtain ⟨w, ew, rw'⟩ := r.get h2
  have hl := r.length
  have hn := line63
  have fin : EP X pins σ Q w s := ⟨z, H, I, rw', q⟩
  exact subscriptTail_builtinR (x := w) pl.typeIs slot_tuple_getitem.lookup
    (getItem_tuple (j := j) (Q := fun r s' => r = w ∧ EP X pins σ Q r s') pl (by omega) (by omega) (by rw [List.size_toArray, ← hl]; exact h1) (by simpa using ew) ⟨rfl, fin⟩) hs
theorem ix_str : IxR X rIxS := by
  intro value slice pins s σ H x y v u Q I rx ry h hs
  obtain ⟨z, i, c, rfl, rfl, hz, he, q⟩ := h
  obtain ⟨t, rfl⟩ := rx
  obtain ⟨t', rfl⟩ := ry
  obtain ⟨j, h1, h2, h3, h4, h5⟩ := atI_get he
  have hl : z.cps.toList.length = z.length := by simp [Str.length]
  rw [hl] at h1 h4 h5
  have hn := line63
  exact tail_any (typeIs_str s z t) slot_str_getitem.lookup (getItem_str (c := c) (by
    have e1 : decide (i < -(2 ^ 63 : Int)) = false := decide_eq_false (by omega)
    have e2 : decide (i ≥ 2 ^ 63) = false := decide_eq_false (by omega)
    rw [e1, e2, Bool.or_false]) (by rw [h1]; simpa using h2) ⟨.str ⟨#[c]⟩, H, I.tok _, ⟨_, rfl⟩, q⟩) hs
theorem Inv.lst {pins : List (Addr × Obj)} {σ : St} {H : Hp} {s : Shared} {p : Addr} {xs : List V} (I : Inv X pins σ H s) (h : H p = some (.lst xs)) :
    ∃ (its : List Value) (n : Nat), Vals xs its ∧ s.heap.get? p = some { cls := .type "list", data := .seq its.toArray n } ∧ xs.length ≤ sizeLine := by
  obtain ⟨z, its, n, r, e⟩ := I.hok p _ h
  exact ⟨its, n, r, e, z⟩
theorem call_len_seq : CallR X (.builtin "len") (fun xs H Q => ∃ p ys, xs = [.ref p] ∧ (SqL X.K H p ys ∨ SqT X.K H p ys) ∧ Q (.int ys.length) H) := by
  intro pins s σ H xs us Q I r h
  obtain ⟨p, ys, rfl, hq, q⟩ := h
  obtain ⟨u, rfl, rx⟩ := vals1 r
  cases rx
  have hn := line63
  rcases hq with hq | hq
  · obtain ⟨its, r', pl, hz⟩ := I.list hq
    have hlen := r'.length
    exact Calls.call_len_list pl.isList (by simp only [List.size_toArray] <;> omega) ⟨.int ys.length, H, I.tok _, ⟨s.toks + 1, by rw [List.size_toArray, hlen]⟩, q⟩
  · obtain ⟨its, r', pl, hz⟩ := I.tuple hq
    have hlen := r'.length
    exact len_tuple pl (by simp only [List.size_toArray] <;> omega) ⟨.int ys.length, H, I.tok _, ⟨s.toks + 1, by rw [List.size_toArray, hlen]⟩, q⟩
theorem call_len_str : CallR X (.builtin "len") (fun xs H Q => ∃ z, xs = [.str z] ∧ z.length ≤ sizeLine ∧ Q (.int z.length) H) := by
  intro pins s σ H xs us Q I r h
  obtain ⟨z, rfl, hz, q⟩ := h
  obtain ⟨u, rfl, t, rfl⟩ := vals1 r
  have hn := line63
  exact len_str (by omega) ⟨.int z.length, H, I.tok _, ⟨_, rfl⟩, q⟩
theorem CallR.or {f : Value} {r r' : List V → Hp → VK → Prop} (h : CallR X f r) (h' : CallR X f r') : CallR X f (fun xs H Q => r xs H Q ∨ r' xs H Q) := by
  intro pins s σ H xs us Q I rs q
  rcases q with q | q
  · exact h pins s σ H xs us Q I rs q
  · exact h' pins s σ H xs us Q I rs q
theorem call_list_of : CallR X (.type "list") (fun xs H Q => ∃ p ys, xs = [.ref p] ∧ (SqL X.K H p ys ∨ SqT X.K H p ys) ∧ ∀ l, H l = none → Q (.ref l) (upd H l (.lst ys))) := by
  intro pins s σ H xs us Q I r h
  obtain ⟨p, ys, rfl, hq, q⟩ := h
  obtain ⟨u, rfl, rx⟩ := vals1 r
  cases rx
  have fin : ∀ (its : List Value), Vals ys its → ys.length ≤ sizeLine → ∀ (h' : Heap) (c' : Nat), (∀ b o', s.heap.get? b = some o' → h'.get? b = some o') →
      h'.get? s.heap.objs.size = some { cls := .type "list", dict := none, data := .seq its.toArray c', slots := #[] } → EP X pins σ Q (.ref s.heap.objs.size) { s with heap := h' } := fun its r' hz h' c' kp e =>
    ⟨.ref s.heap.objs.size, _, I.laid (t' := s.toks) kp (Nat.le_refl _) (show ObjOk X.prog X.w _ h' _ (.lst ys) from ⟨hz, its, c', r', e⟩), rfl, q _ (I.hok.fresh (Nat.le_refl _))⟩
  rcases hq with hq | hq
  · obtain ⟨its, r', pl, hz⟩ := I.list hq
    have hlen := r'.length
    obtain ⟨o, ho, hc, n, hd⟩ := pl.isList
    exact call_list_seq p (.inl rfl) ho hc hd (fun h' c' kp e => fin its r' hz h' c' kp e) (by simp only [List.size_toArray] <;> omega)
  · obtain ⟨its, r', pl, hz⟩ := I.tuple hq
    have hlen := r'.length
    obtain ⟨o, ho, hc, n, hd⟩ := pl
    exact call_list_seq p (.inr rfl) ho hc hd (fun h' c' kp e => fin its r' hz h' c' kp e) (by simp only [List.size_toArray] <;> omega)
theorem call_tuple_of : CallR X (.type "tuple") (fun xs H Q => ∃ p ys, xs = [.ref p] ∧ ((SqL X.K H p ys ∧ ∀ l, H l = none → Q (.ref l) (upd H l (.tup ys))) ∨ (SqT X.K H p ys ∧ Q (.ref p) H))) := by
  intro pins s σ H xs us Q I r h
  obtain ⟨p, ys, rfl, h⟩ := h
  obtain ⟨u, rfl, rx⟩ := vals1 r
  cases rx
  rcases h with ⟨hq, q⟩ | ⟨hq, q⟩
  · obtain ⟨its, r', pl, hz⟩ := I.list hq
    have hlen := r'.length
    refine call_tuple_list pl.isList (fun h' kp => ?_) (by simp only [List.size_toArray] <;> omega)
    have I1 : Inv X pins σ H { s with heap := h' } := I.kept (t' := s.toks) kp
    have I2 : Inv X pins σ (upd H h'.objs.size (.tup ys)) { s with heap := h'.push { cls := .type "tuple", data := .seq its.toArray } } :=
      I1.laid (t' := s.toks) (fun b o e => Heap.get?_push_of_some _ e) (Nat.le_refl _) (show ObjOk X.prog X.w _ _ _ (.tup ys) from ⟨hz, its, r', IsTup.new _ _⟩)
    exact ⟨.ref h'.objs.size, _, I2, rfl, q _ (I1.hok.fresh (Nat.le_refl _))⟩
  · obtain ⟨its, r', pl, hz⟩ := I.tuple hq
    exact call_tuple_same pl ⟨.ref p, H, I, rfl, q⟩

/-- the value is of that builtin type -/
def tyV (K : PySem.W.Frag) (T : String) (x : V) (H : Hp) : Prop := match x with
  | .str _ => T = "str"
  | .int _ => T = "int"
  | .ref p => (T = "list" ∧ ∃ xs, SqL K H p xs) ∨ (T = "tuple" ∧ ∃ o, K.lookup p = some o ∧ o.cls = .type "tuple" ∧ o.dict = none) ∨
      (T = "dict" ∧ ((∃ kvs, H p = some (.dK kvs)) ∨ ∃ kvs, H p = some (.dT kvs))) ∨ (T = "set" ∧ ∃ S n, H p = some (.set S n))
  | _ => False
theorem tyV_is {pins : List (Addr × Obj)} {σ : St} {H : Hp} {s : Shared} {T : String} {x : V} {v : Value} (I : Inv X pins σ H s) (r : RelV x v) (ty : tyV X.K T x H) :
    s.TypeIs v T ∧ ∀ a, v = .ref a → ∃ ob, s.heap.get? a = some ob ∧ ob.dict = none := by
  cases x with
  | str z =>
    obtain ⟨t, rfl⟩ := r
    cases (show T = "str" from ty)
    exact ⟨typeIs_str s z t, fun _ e => nomatch e⟩
  | int i =>
    obtain ⟨t, rfl⟩ := r
    cases (show T = "int" from ty)
    exact ⟨typeIs_int s i t, fun _ e => nomatch e⟩
  | ref p =>
    cases r
    rcases ty with ⟨rfl, xs, hq⟩ | ⟨rfl, o, hk, hc, hd⟩ | ⟨rfl, hk⟩ | ⟨rfl, S, n, hk⟩
    · obtain ⟨its, _, pl, _⟩ := I.list hq
      refine ⟨pl.isList.typeIs, fun a e => ?_⟩
      cases e
      obtain ⟨o, n, e, c, hd, _⟩ := pl
      exact ⟨o, e, hd⟩
    · refine ⟨⟨o, I.kIn p o hk, hc⟩, fun a e => ?_⟩
      cases e
      exact ⟨o, I.kIn _ o hk, hd⟩
    · have z : ∃ o, s.heap.get? p = some o ∧ o.ExactDict := by
        rcases hk with ⟨kvs, hk⟩ | ⟨kvs, hk⟩
        · obtain ⟨_, _, _, _, o, _, _, e, ex, _⟩ := I.hok p _ hk
          exact ⟨o, e, ex⟩
        · obtain ⟨_, _, _, _, o, _, _, e, ex, _⟩ := I.hok p _ hk
          exact ⟨o, e, ex⟩
      obtain ⟨o, e, ex⟩ := z
      refine ⟨⟨o, e, ex.1⟩, fun a e2 => ?_⟩
      cases e2
      exact ⟨o, e, ex.2.1⟩
    · obtain ⟨o, _, _, _, e, ex, _⟩ := I.hok p _ hk
      refine ⟨⟨o, e, ex.1⟩, fun a e2 => ?_⟩
      cases e2
      exact ⟨o, e, ex.2.1⟩
  | _ => exact False.elim ty
def tBM (K : PySem.W.Frag) (T : String) (r : V → List V → Hp → VK → Prop) (to : TE) (t : TA) : TE := fun σ H Q => to σ H fun x H1 => tyV K T x H1 ∧ t σ H1 fun xs H2 => r x xs H2 Q
variable {o e : Expr} {es : List Expr} {to : TE} {t : TA} {name : Str} {apos cpos : Pos} {T id : String} {r : V → List V → Hp → VK → Prop}
theorem pe_bm (pa : PlainAttrs T) (slot : Slot T name id) (hty : typeOf (.builtin id) = pure (.type "method_descriptor")) (hm : MtR X id r) (ho : PE X o to) (ha : PA X (e :: es) t)
    (hbase : attributeBase o name X.env (eval o X.env) = eval o X.env := by rfl)
    (hfew : ((backTo cpos (starEach (e :: es) X.env)).all (fun x => !x.1) && (backToKw cpos (keywordEach [] X.env)).all (fun x => x.1.isSome)
      && decide ((e :: es).length + ([] : List Keyword).length + (if ([] : List Keyword).isEmpty then 0 else 1) < 30)) = true := by rfl)
    (hline : (apos.endLine == cpos.line) = true := by rfl) (hs : starEach (e :: es) X.env = (false, eval e X.env) :: starEach es X.env := by rfl) (hplain : (backTo cpos (starEach es X.env)).any (·.1) = false := by rfl) :
    PE X (.Call (.Attribute o name apos) (e :: es) [] cpos) (tBM X.K T r to t) := by
  intro pins s σ H Q I h
  refine wpAny_Call_method_late hbase hfew hline rfl (thn (ho pins s σ H _ I h) fun v s1 ⟨x, H1, I1, r1, ty, q1⟩ => ?_)
  obtain ⟨h1, h2⟩ := tyV_is I1 r1 ty
  refine ⟨T, id, pa, slot, hty, h1, h2, ?_⟩
  have hA := ha cpos pins s1 σ H1 _ I1 q1
  rw [hs] at hA ⊢
  refine Calls.callWith_builtin (by show (false || (backTo cpos (starEach es X.env)).any (·.1)) = false; rw [hplain] <;> rfl) (Calls.evalArgs_plain ?_)
  exact thn hA fun us s2 ⟨vs, H2, I2, r2, q2⟩ => hm pins s2 σ H2 x vs v us Q I2 r1 r2 q2
/- xs.append(e), list.index on a module's tuple .. are MtR facts of 06m -/
end
end L2

namespace L2
open PySem PySem.Spec PyProof.Rows

def MtM (X : Cx) (id : String) (r : V → List V → Hp → VK → Prop) : Prop :=
  ∀ (pins : List (Addr × Obj)) (s : Shared) (σ : St) (H : Hp) (x : V) (xs : List V) (v : Value) (us : List Value) (Q : VK), Inv X pins σ H s → RelV x v → Vals xs us → r x xs H Q →
    wpAny (model X.prog X.w) X.A (call (.builtin id) (v :: us)) (EP X pins σ Q) X.xe s

theorem Vals.one : ∀ {x : V} {us : List Value}, Vals [x] us → ∃ u, us = [u] ∧ RelV x u
  | _, _, .cons r .nil => ⟨_, rfl, r⟩
theorem Vals.two : ∀ {x y : V} {us : List Value}, Vals [x, y] us → ∃ u v, us = [u, v] ∧ RelV x u ∧ RelV y v
  | _, _, _, .cons r (.cons q .nil) => ⟨_, _, rfl, r, q⟩
theorem Vals.zero : ∀ {us : List Value}, Vals [] us → us = []
  | _, .nil => rfl
theorem Vals.eraseIdx : ∀ {xs : List V} {us : List Value} (i : Nat), Vals xs us → Vals (xs.eraseIdx i) (us.eraseIdx i)
  | _, _, _, .nil => .nil
  | _, _, 0, .cons _ t => t
  | _, _, i + 1, .cons r t => .cons r (Vals.eraseIdx i t)
theorem Vals.rep {xs : List V} {us : List Value} (h : Vals xs us) : ∀ k : Nat, Vals (List.replicate k xs).flatten (List.replicate k us).flatten
  | 0 => .nil
  | k + 1 => by
    rw [List.replicate_succ, List.replicate_succ, List.flatten_cons, List.flatten_cons]
    exact Vals.append h (Vals.rep h k)
theorem len_erase {α : Type} : ∀ (l : List α) (i : Nat), (l.eraseIdx i).length ≤ l.length
  | [], _ => Nat.le_refl _
  | _ :: _, 0 => Nat.le_succ _
  | _ :: r, i + 1 => Nat.succ_le_succ (len_erase r i)
theorem foldl_rep (its : List Value) : ∀ (k : Nat) (acc : List Value),
    List.foldl (fun x1 x2 => x1 ++ x2) acc.toArray (List.replicate k its.toArray) = (acc ++ (List.replicate k its).flatten).toArray
  | 0, acc => by simp
  | k + 1, acc => by
    have e : acc.toArray ++ its.toArray = (acc ++ its).toArray := by simp
    have e2 : (acc ++ its) ++ (List.replicate k its).flatten = acc ++ (List.replicate (k + 1) its).flatten := by
      rw [List.replicate_succ, List.flatten_cons, List.append_assoc]
    rw [← e2, ← foldl_rep its k (acc ++ its), ← e, List.replicate_succ, List.foldl_cons]

section
variable {X : Cx} {pins : List (Addr × Obj)} {σ : St} {H : Hp} {s : Shared} {l b : Addr} {xs ys zs : List V}

theorem Inv.lset {its its' : List Value} {n : Nat} {f : Array Value → Array Value} {t' : Nat} (I : Inv X pins σ H s) (hH : H l = some (.lst xs))
    (e : s.heap.get? l = some { cls := .type "list", data := .seq its.toArray n }) (hf : f its.toArray = its'.toArray) (hv : Vals ys its') (hz : ys.length ≤ sizeLine) :
    Inv X pins σ (upd H l (.lst ys)) { s with heap := s.heap.update l (Obj.mapSeq f), toks := t' } := by
  have q := PySem.IsL.update e f
  rw [hf] at q
  refine I.write (x := l) (e := l) (by rw [hH]; exact trivial) (.inl rfl) (fun b' u hb hu => (Heap.get?_update_other s.heap (Obj.mapSeq f) (Ne.symm hb)).trans hu) ⟨_, q⟩ ?_
  exact ⟨hz, its', _, hv, q⟩
theorem Inv.lnew {its : List Value} {t' : Nat} (I : Inv X pins σ H s) (hv : Vals ys its) (hz : ys.length ≤ sizeLine) :
    Inv X pins σ (upd H s.heap.objs.size (.lst ys)) { s with heap := s.heap.push { cls := .type "list", data := .seq its.toArray }, toks := t' } :=
  I.laid (fun _ _ q => Heap.get?_push_of_some _ q) (Nat.le_refl _) ⟨hz, its, 0, hv, Heap.get?_push_size _ rfl⟩
theorem Inv.fresh (I : Inv X pins σ H s) : H s.heap.objs.size = none := I.hok.fresh (Nat.le_refl _)
theorem Inv.lstM (I : Inv X pins σ H s) (hH : H l = some (.lst xs)) : xs.length ≤ sizeLine ∧ ∃ (its : List Value) (n : Nat), Vals xs its ∧ xs.length = its.length ∧ s.heap.get? l = some { cls := .type "list", data := .seq its.toArray n } := by
  obtain ⟨z, its, n, r, e⟩ := I.hok l _ hH
  exact ⟨z, its, n, r, r.length, e⟩

theorem notLongL {n : Nat} (h : n ≤ sizeLine) : Builtin.List.listTooLong n = false := by
  unfold Builtin.List.listTooLong
  exact decide_eq_false (by omega)
end

section
variable {X : Cx}

def rAppend : V → List V → Hp → VK → Prop := fun x vs H Q => ∃ l xs y, x = .ref l ∧ vs = [y] ∧ H l = some (.lst xs) ∧ xs.length < sizeLine ∧ Q .non (upd H l (.lst (xs ++ [y])))
theorem mt_append : MtM X "list.append" rAppend := by
  intro pins s σ H x vs v us Q I rx rv h
  obtain ⟨l, xs, y, rfl, rfl, hH, hz, q⟩ := h
  cases rx
  obtain ⟨u, rfl, ru⟩ := rv.one
  obtain ⟨z, its, n, r, hl, e⟩ := I.lstM hH
  refine call_meets F.slot_list_append ⟨_, e, rfl⟩ F.entry_list_append (F.args_list_append_2 _ _) (PySem.list_append l its.toArray n u (by rw [List.size_toArray]; omega)) ⟨e, ?_⟩
  refine ⟨.non, _, I.lset (its' := its ++ [u]) hH e (by simp) (r.append (.cons ru .nil)) ?_, rfl, q⟩
  rw [List.length_append, List.length_singleton]
  omega

def rPopAt : V → List V → Hp → VK → Prop := fun x vs H Q => ∃ l xs i k y, x = .ref l ∧ vs = [.int i] ∧ H l = some (.lst xs) ∧ -(2 ^ 63) ≤ i ∧ i < 2 ^ 63 ∧ seqIndex? i xs.length = some k ∧ xs[k]? = some y ∧ Q y (upd H l (.lst (xs.eraseIdx k)))
theorem mt_popAt : MtM X "list.pop" rPopAt := by
  intro pins s σ H x vs v us Q I rx rv h
  obtain ⟨l, xs, i, k, y, rfl, rfl, hH, h1, h2, hk, hy, q⟩ := h
  cases rx
  obtain ⟨u, rfl, ru⟩ := rv.one
  obtain ⟨t, rfl⟩ := ru
  obtain ⟨z, its, n, r, hl, e⟩ := I.lstM hH
  obtain ⟨w, hw, rw'⟩ := r.get hy
  refine call_meets F.slot_list_pop ⟨_, e, rfl⟩ F.entry_list_pop (F.args_list_pop_2 _ _)
    (MeetsSeq.list_pop_at l its.toArray n i t k w (fitsIndex_both h1 h2) (by rw [List.size_toArray, ← hl]; exact hk) (by rw [← Array.getElem?_toList]; exact hw) (by rw [List.size_toArray]; omega)) ⟨e, ?_⟩
  refine ⟨y, _, I.lset (its' := its.eraseIdx k) hH e ?_ (r.eraseIdx k) ?_, rw', q⟩
  · show its.toArray.eraseIdxIfInBounds k = (its.eraseIdx k).toArray
    rw [List.eraseIdxIfInBounds_toArray]
  · have := len_erase xs k
    omega

def rCat : R2 := fun x y H Q => ∃ l b xs zs, x = .ref l ∧ y = .ref b ∧ H l = some (.lst xs) ∧ H b = some (.lst zs) ∧ xs.length + zs.length ≤ sizeLine ∧ ∀ p, H p = none → Q (.ref p) (upd H p (.lst (xs ++ zs)))
theorem op_cat : OpR X (binaryOp .Add) rCat := by
  intro pins s σ H x y v u Q I rx ry h
  obtain ⟨l, b, xs, zs, rfl, rfl, hH, hB, hz, q⟩ := h
  cases rx
  cases ry
  obtain ⟨z, its, n, r, hl, e⟩ := I.lstM hH
  obtain ⟨z2, its2, n2, r2, hl2, e2⟩ := I.lstM hB
  refine PySem.P.add_list e e2 ?_ (by rw [List.size_toArray, List.size_toArray]; omega)
  have ea : its.toArray ++ its2.toArray = (its ++ its2).toArray := by simp
  rw [ea]
  exact ⟨.ref _, _, I.lnew (t' := s.toks) (r.append r2) (by rw [List.length_append]; omega), rfl, q _ I.fresh⟩
/-- a list times an int (a negative one is nothing) -/
def rRep : R2 := fun x y H Q => ∃ l k xs, x = .ref l ∧ y = .int k ∧ H l = some (.lst xs) ∧ -(2 ^ 63) ≤ k ∧ k < 2 ^ 63 ∧ xs.length * k.toNat ≤ sizeLine ∧
  ∀ p, H p = none → Q (.ref p) (upd H p (.lst (List.replicate k.toNat xs).flatten))
theorem len_rep {α : Type} (xs : List α) (k : Nat) : (List.replicate k xs).flatten.length = k * xs.length := by
  induction k with
  | zero => simp
  | succ k ih => rw [List.replicate_succ, List.flatten_cons, List.length_append, ih, Nat.succ_mul, Nat.add_comm]
theorem op_rep : OpR X (binaryOp .Mult) rRep := by
  intro pins s σ H x y v u Q I rx ry h
  obtain ⟨l, k, xs, rfl, rfl, hH, h1, h2, hz, q⟩ := h
  cases rx
  obtain ⟨t, rfl⟩ := ry
  obtain ⟨z, its, n, r, hl, e⟩ := I.lstM hH
  have hlen : its.toArray.size * k.toNat ≤ sizeLine := by rw [List.size_toArray, ← hl]; exact hz
  have hcap : ¬ its.toArray.size * k.toNat > (2 ^ 63 - 1) / 8 := by
    have : (sizeLine : Nat) ≤ (2 ^ 63 - 1) / 8 := by decide
    omega
  have hfit : ¬ (!Builtin.List.listFitsIndex k) = true := by
    rw [fitsIndex_both h1 h2]
    exact Bool.false_ne_true
  have hlong : ¬ Builtin.List.listTooLong (its.toArray.size * k.toNat) = true := by
    rw [notLongL hlen]
    exact Bool.false_ne_true
  have hnew : List.foldl (fun x1 x2 => x1 ++ x2) #[] (List.replicate (if its.toArray.isEmpty = true then 0 else k.toNat) its.toArray) = (List.replicate k.toNat its).flatten.toArray := by
    have f0 : ∀ m : Nat, List.foldl (fun x1 x2 => x1 ++ x2) #[] (List.replicate m its.toArray) = (List.replicate m its).flatten.toArray := fun m => by
      have := foldl_rep its m []
      rw [List.nil_append] at this
      exact this
    rw [f0]
    cases its with
    | nil => simp
    | cons a r' => rw [if_neg (by simp)]
  refine wpAny_binaryOp_repeat_ref (T := "list") (U := "int") (by decide) ⟨_, e, rfl⟩ (fun s' => typeIs_int s' k t) noFill_list_mul F.fills_int_mul F.slot_int_rmul repeat_list F.slot_int_index.lookup
    (call_meets F.slot_int_rmul (typeIs_int s k t) F.entry_int_rmul (F.args_int_rmul_2 _ _) (int___rmul___int_list k t l its.toArray n)
      ⟨e, rfl, ⟨_, e, rfl⟩, call_meets F.slot_list_mul ⟨_, e, rfl⟩ F.entry_list_mul (F.args_list_mul_2 _ _) (AutoListH.list___mul___list_int_3 l its.toArray n k t hfit hcap hlong) ⟨e, ?_⟩⟩)
  rw [hnew]
  exact ⟨.ref _, _, I.lnew (t' := s.toks) (r.rep k.toNat) (by rw [len_rep, Nat.mul_comm]; exact hz), rfl, q _ I.fresh⟩

end

section
variable {prog : Program} {w : World} {A : Around} {E : Value → Shared → Prop} {s : Shared}
end

section
variable {X : Cx}
end
end L2

namespace Att
open PySem PySem.W PySem.Calls PyProof.Rows

theorem ints_of_wellAll {P : Params} {h : Heap} : ∀ (ns : List Int) (vs : List Value), WellAll P h vs (ns.map WData.int) → IntsAre vs ns := by
  intro ns
  induction ns with
  | nil =>
    intro vs w
    rw [List.map_nil] at w
    cases w
    exact .nil
  | cons n ns ih =>
    intro vs w
    rw [List.map_cons] at w
    cases w with
    | cons a b =>
      cases a
      exact .cons _ _ (ih _ b)

theorem script_of {l : OpenLaw} {n : Nat} (hn : l.most = some n) {P : Params} {h : Heap} {args : List WData} {vals : List Value}
    (hpre : l.row.toRowW.claim.pre args = true) (hwl : WellAll P h vals args) :
    ∃ a vs ns, vals = [Value.ref a] ∧ args = [WData.list (ns.map WData.int)] ∧ h.get? a = some { cls := .type "list", data := .seq vs.toArray } ∧ IntsAre vs ns ∧ ns.length ≤ n := by
  have hsh : WShape.hasAll [] args [.list .int] = true := (pre_splitW hpre).1
  have hc : l.pre.holds [] { args := args } = true := (pre_splitW hpre).2
  obtain ⟨d, r, rfl, h1, h2⟩ := hasAllW_cons hsh
  obtain rfl := hasAllW_nil h2
  obtain ⟨xs, rfl, h3⟩ := hasW_list h1
  obtain ⟨ns, rfl⟩ := items_int h3
  have hlen : ns.length ≤ n := by
    unfold OpenLaw.pre at hc
    have h4 : (WTm.not (.lt (.lit (.int (n : Int))) (.len (.arg 0)))).holds [] { args := [.list (ns.map .int)] } = true := by
      have h4 := (holds_andW hc).1
      rw [hn] at h4
      exact h4
    have h5 := condW_of h4 (w_not (w_lt w_lit (w_len_list (w_arg rfl))))
    rw [List.length_map] at h5
    refine Nat.le_of_not_lt fun q => ?_
    have q' : (n : Int) < ((ns.length : Nat) : Int) := by omega
    first
      | (rw [decide_eq_true q'] at h5; exact absurd h5 (by decide))
      | (simp at h5; omega)
  cases hwl with
  | cons w1 w2 =>
    cases w2
    cases w1 with
    | list ho hall => exact ⟨_, _, ns, rfl, rfl, ho, ints_of_wellAll ns _ hall, hlen⟩

theorem post_true (l : OpenLaw) (args : List WData) : l.row.toRowW.claim.post args (.bool true) args = true :=
  postW_of (r := l.row.toRowW) (X := (true == true))
    (show WShape.has [] (.bool true) .bool = true by first | rfl | decide | simp [WShape.has, WShape.arms, WShape.armsAll])
    (show (WTm.eq .res (.lit (.bool true))).value [] { args := args, res := some (.bool true), after := args } = some (.bool (true == true)) from w_eq_bool (w_res rfl) w_lit) rfl

/-- the same from a codeAny of the CALL (for a layer whose function contracts speak of calls) -/
theorem attach_call {l : OpenLaw} {n : Nat} {q : Program} {loose : List Str} {XP : (Str → Option Value) → Heap → Prop} {YP : World → Heap → Prop} {d : DefRec}
    (hn : l.most = some n) (hdf : d.params.defaults = [])
    (call : ∀ (w : World) (s₀ s₁ : Shared) (mg mb : Str → Option Value) (fa : Addr) (o : Obj) (pm cd doc : Value) (a : Addr) (vs : List Value) (ns : List Int),
      Ground q loose [] XP w s₀ mg mb s₁.heap → YP w s₁.heap →
      s₁.heap.get? fa = some o → o.data = .func (docDef d.name d.params d.body d.scope pm cd doc) → s₁.heap.CodeRec cd d.name → mg d.name = some (.ref fa) →
      s₁.heap.get? a = some { cls := .type "list", data := .seq vs.toArray } → IntsAre vs ns → ns.length ≤ n → s₁.gens = #[] →
      codeAny (model l.prog w) callerA (.call (.ref fa) ⟨[.ref a], []⟩) (fun r s' => r = .ok (.ret (.bool true)) ∧ OldK s₁.heap s'.heap ∧ s'.os = s₁.os ∧ AllBare s'.gens) s₁) :
    WalkO q loose XP YP l.row.toRowW d [] (fun f vs => PySem.call f vs) := by
  intro w s₀ s₁ mg mb G Y fa o pm cd doc dV kV ho hd hcd hD hmg hg args vals as hpre hlay hrd hwl hlo
  obtain rfl : dV = .none := Dflts.none hD hdf
  obtain rfl : kV = .none := Dflts.noKw hD
  obtain ⟨a, vs, ns, rfl, rfl, hobj, hints, hlen⟩ := script_of hn hpre hwl
  refine enter_call (codeAny_mono (call w s₀ s₁ mg mb fa o pm cd doc a vs ns G Y ho (fd_plain hd) hcd hmg hobj hints hlen hg) fun r s' hq => ?_)
  obtain ⟨rfl, h2, h3, h4⟩ := hq
  exact ⟨.inl ⟨.bool true, .bool true, [], rfl, fun _ => rfl, .bool true, post_true l _, fun _ => ⟨List.Pairwise.nil, fun _ hm => (nomatch hm)⟩⟩, h2, h3, h4⟩

section
variable {prog : Program} {w : World} {A : Around} {E : Value → Shared → Prop} {s : Shared} {K : Frag}

def ledger (h : Heap) (L d : Addr) : List (Addr × Obj) := (List.range h.objs.size).filterMap fun a => if a = L ∨ a = d then none else (h.get? a).map fun o => (a, o)
end
end Att

namespace L2
open PySem PySem.Spec PyProof.Rows

theorem vals_ints : ∀ {vs : List Value} {ns : List Int}, IntsAre vs ns → Vals (ns.map V.int) vs
  | _, _, .nil => .nil
  | _, _, .cons n t h => .cons ⟨t, rfl⟩ (vals_ints h)

/-- nothing is tracked but the script, known to the object (or it is an object of the module) -/
def Only (H : Hp) : Prop := ∀ b, H b = none ∨ ∃ o xs, H b = some (.frz o (.lst xs))

/-- THE HEAD: the law's promise, at the heap behind the top. F, the promise of the law's def, may use that base is part of the heap (so K.In base, base.Ns mainGlobals mg stand in Mod) -/
theorem law_call {P : Program} {w : World} {K : PySem.W.Frag} {mg mb : Str → Option Value} {CX : CXT} {k : Nat} {fa a : Addr} {fd : FuncData} {x : Str} {sp : Sp} {s₁ : Shared} {vs : List Value} {ns : List Int}
    (KX : K.In s₁.heap) (hns : s₁.heap.Ns mainGlobals mg) (hb : s₁.heap.Ns builtinsNs mb) (hbb : ∀ x : Str, x ≠ "__name__" → mb x = bootBuiltins x) (hlim : s₁.heap.NoLimit) (hg : s₁.gens = #[])
    (ha : s₁.heap.get? a = some { cls := .type "list", data := .seq vs.toArray }) (hi : IntsAre vs ns) (hl : ns.length ≤ sizeLine) (hr : Room k callerA)
    (F : ∀ base : Heap, K.In base → base.Ns mainGlobals mg → FnOk P w K mg base CX k fa fd [x] sp) (hbind : ∀ (s : Shared) (u : Value), BindsTo s fd ⟨[u], []⟩ [(x, u)])
    (hsp : ∀ H : Hp, Only H → SqL K H a (ns.map V.int) → sp [.ref a] H (fun v _ => v = .bl true) fun _ _ _ => False)
    (hCX : ∀ H e s', CX [] H s₁ (fun _ _ _ => False) e s' → False) :
    codeAny (model P w) callerA (.call (.ref fa) ⟨[.ref a], []⟩) (fun r s' => r = .ok (.ret (.bool true)) ∧ OldK s₁.heap s'.heap ∧ s'.os = s₁.os ∧ AllBare s'.gens) s₁ := by
  have rv := vals_ints hi
  have lenV := hi.length
  -- from an abstract heap in which nothing but the script may be tracked
  have core : ∀ H : Hp, Only H → SqL K H a (ns.map V.int) → HOk P w H s₁.heap → (∀ b, H b ≠ none → b = a) → (H a ≠ none → K.lookup a = none) →
      codeAny (model P w) callerA (.call (.ref fa) ⟨[.ref a], []⟩) (fun r s' => r = .ok (.ret (.bool true)) ∧ OldK s₁.heap s'.heap ∧ s'.os = s₁.os ∧ AllBare s'.gens) s₁ := by
    intro H hO hS hok hA hK
    have base_of : ∀ {b : Addr} {o : Obj}, s₁.heap.get? b = some o → H b = none → (hidT s₁.heap H).get? b = some o := fun e n => hidT_get e n
    have noA : ∀ {b : Addr} {o : Obj} {es : Array DictEntry} {ep : Nat}, s₁.heap.get? b = some o → o.data = .dict es ep → H b = none := fun {b o es ep} e d => by
      cases q : H b with
      | none => rfl
      | some u =>
        have e' : b = a := hA b (by rw [q]; simp)
        subst e'
        rw [ha] at e; cases e
        have d' : Data.seq vs.toArray _ = Data.dict es ep := d
        cases d'
    have nsK : ∀ {b : Addr} {m : Str → Option Value}, s₁.heap.Ns b m → (hidT s₁.heap H).Ns b m := fun {b m} ⟨o, es, ep, e, d, r⟩ => ⟨o, es, ep, base_of e (noA e d), d, r⟩
    have hKb : K.In (hidT s₁.heap H) := fun b o e => base_of (KX b o e) (by
      cases q : H b with
      | none => rfl
      | some u =>
        have e' : b = a := hA b (by rw [q]; simp)
        subst e'
        rw [hK (by rw [q]; simp)] at e; cases e)
    have hM : Mod K mg (hidT s₁.heap H) := ⟨hKb, nsK hns, ⟨mb, nsK hb, hbb⟩, let ⟨mc, h1, h2⟩ := hlim; ⟨mc, nsK h1, h2⟩⟩
    have e0 : Env0 P w K mg (hidT s₁.heap H) callerA [] s₁ H := ⟨rfl, hM, fun b o e => of_hidT e, Nat.le_of_eq (hidT_size _ _), trivial, fun b hb => absurd (show b ∈ ([] : List Addr) from hb) (by simp), hok, .of_eq hg⟩
    refine codeAny_mono ((F _ hKb (nsK hns)).run callerA [] s₁ H ⟨[.ref a], []⟩ [.ref a] [.ref a] _ _ hr e0 (hbind s₁ (.ref a)) (.cons rfl .nil) (hsp H hO hS)) fun r s' h => ?_
    cases r with
    | error e => exact (hCX H e s' h).elim
    | ok fl =>
      cases fl with
      | next => exact False.elim h
      | brk => exact False.elim h
      | cont => exact False.elim h
      | ret u =>
        obtain ⟨v, H', os, bare, un, hok', r', q⟩ := h
        have q' : v = .bl true := q
        subst q'
        obtain rfl : u = Value.bool true := r'
        refine ⟨rfl, OldK.of_keep fun b o e => ?_, os, bare⟩
        cases q : H b with
        | none => exact un.keep b o e q (by intro z; exact absurd (show b ∈ ([] : List Addr) from z) (by simp)) (by simp)
        | some u =>
          rcases hO b with z | ⟨ob, xs, z⟩
          · rw [q] at z; cases z
          · have z2 := un.frzs b ob _ z
            obtain ⟨e1, _⟩ := hok b _ z
            obtain ⟨e2, _⟩ := hok' b _ z2
            rw [e] at e1; cases e1
            exact e2
  cases hk : K.lookup a with
  | some o =>
    -- the script is one of the module's own objects
    have e := KX a o hk
    rw [ha] at e
    cases e
    refine core (fun _ => none) (fun _ => .inl rfl) (.inr ⟨_, vs.toArray, _, hk, rfl, rfl, rfl, by rw [List.size_toArray, lenV]; exact hl, by simpa using rv⟩) (fun b u z => by have z' : (none : Option HO) = some u := z; cases z') (fun b z => absurd rfl z) fun z => absurd rfl z
  | none =>
    refine core (fun b => if b = a then some (.frz { cls := .type "list", data := .seq vs.toArray } (.lst (ns.map V.int))) else none) (fun b => ?_) (.inl (.inr ⟨{ cls := .type "list", data := .seq vs.toArray }, if_pos rfl⟩)) (fun b u z => ?_) (fun b z => ?_) fun _ => hk
    · by_cases hb : b = a
      · exact .inr ⟨_, _, if_pos hb⟩
      · exact .inl (if_neg hb)
    · by_cases hb : b = a
      · have z' := (if_pos hb).symm.trans z
        cases z'
        subst hb
        exact ⟨ha, by rw [List.length_map]; exact hl, vs, _, rv, ha⟩
      · have z' := (if_neg hb).symm.trans z
        cases z'
    · by_cases hb : b = a
      · exact hb
      · exact absurd (if_neg hb) z
end L2

namespace L2
open PySem PySem.Spec PyProof.Rows

abbrev KOf {K : PySem.W.Frag} {h : Heap} (_ : K.In h) : PySem.W.Frag := K

/-- the goal that k_head leaves (case hc), from the law's promise. F gives the function object fd (K's own) once, then the promise over every base -/
theorem walk_of {l : PySem.W.OpenLaw} {n k : Nat} {q : Program} {loose : List Str} {XP : (Str → Option Value) → Heap → Prop} {YP : World → Heap → Prop} {d : DefRec} {K : Params → PySem.W.Frag} {CX : World → CXT} {sp : World → Sp} {x : Str}
    (hn : l.most = some n) (hn2 : n ≤ sizeLine) (hdf : d.params.defaults = []) (hr : Room k callerA)
    (hY : ∀ (w : World) (h : Heap), YP w h → (K w.params).In h)
    (F : ∀ (w : World) (mg : Str → Option Value) (fa : Addr) (h : Heap), (K w.params).In h → h.Ns mainGlobals mg → mg d.name = some (.ref fa) →
      ∃ fd : FuncData, (∀ (s : Shared) (u : Value), BindsTo s fd ⟨[u], []⟩ [(x, u)]) ∧
        ∀ base : Heap, (K w.params).In base → base.Ns mainGlobals mg → FnOk l.prog w (K w.params) mg base (CX w) k fa fd [x] (sp w))
    (hsp : ∀ (w : World) (H : Hp) (a : Addr) (ns : List Int), ns.length ≤ n → Only H → SqL (K w.params) H a (ns.map V.int) → sp w [.ref a] H (fun v _ => v = .bl true) fun _ _ _ => False)
    (hCX : ∀ (w : World) (H : Hp) (s : Shared) (e : Value) (s' : Shared), CX w [] H s (fun _ _ _ => False) e s' → False) :
    PySem.W.WalkO q loose XP YP l.row.toRowW d [] (fun f vs => PySem.call f vs) := by
  refine Att.attach_call hn hdf fun w s₀ s₁ mg mb fa o pm cd doc a vs ns G Y ho hd hcd hmg hobj hints hlen hg => ?_
  have KX := hY w _ Y
  obtain ⟨fd, hb, hF⟩ := F w mg fa _ KX G.T.g hmg
  exact law_call KX G.T.g G.T.b G.T.builtins G.T.nolimit hg hobj hints (Nat.le_trans hlen hn2) hr hF hb (fun H hO hS => hsp w H a ns hlen hO hS) fun H e s' => hCX w H s₁ e s'
end L2

/- THE LAST THEOREM (shape; LID, My.* are yours):
   My.Adr: a structure of the addresses that your layer names (classes, functions); My.Txt K t: a structure (Prop) of the equations over K;
   My.txt_mk : {K} {implicit addresses ..} (e1 : nsIn K mainGlobals "law" = some (some (.ref f))) (e2 : K.lookup f = some ⟨oc, od, .func (fnOf "law" "law" params body scope dV kV doc pm an cdv ct), sl⟩) (e3 : codeIn K cdv "law" = true) .. : ∃ t, My.Txt K t

set_option maxRecDepth 100000 in
set_option maxHeartbeats 0 in
theorem PySem.Challenge.cw_LID_holds : PySem.Challenge.rw_LID.Holds := by
  w_on; o_law; k_head; (case hw => w_witness2)
  k_fill
  refine L2.walk_of (l := PySem.Challenge.rw_LID) (n := 63) (k := 40) (x := "script") (CX := fun w => ..) (sp := fun _ => My.sp_law) rfl (by decide) rfl ⟨rfl, by decide, by decide⟩ (fun w h Y => PySem.W.kIn_of Y) ?F ?S ?C
  case F =>
    intro w mg fa h KX G hmg
    have T : ∃ t, My.Txt (L2.KOf KX) t := by
      dsimp only [L2.KOf]                          -- K must stand as «<heap const> w.params» for k_is
      refine' My.txt_mk ?e1 ?e2 ?e3 ..
      (case e1 => PySem.W.k_is)                    -- in the order: a name -> its address -> its object -> its parts
      (case e2 => PySem.W.k_is)
      ..
    obtain ⟨t, T⟩ := T
    have e0 := hmg.symm.trans (PySem.W.mg_of KX G T.law)
    cases e0                                       -- fa is the law's own address
    exact ⟨_, fun s u => .of_eq rfl, fun base kb nb => My.law_fn T kb nb⟩     -- if «.of_eq rfl» comes too early: refine' ⟨_, ?b, fun base kb nb => My.law_fn T kb nb⟩; exact fun s u => .of_eq rfl
  case S => exact fun w H a ns hl hO hS => ..
  case C => exact ..
(the tactic k_is has no namespace: write k_is) -/

namespace L2
open PySem PySem.Spec PyProof.Rows

def defArgs (s : Stmt) : Arguments := match s with
  | .FunctionDef _ a _ _ _ _ _ _ _ _ => a
  | _ => { posonlyargs := [], args := [], vararg := none, kwonlyargs := [], kw_defaults := [], kwarg := none, defaults := [] }
def defBody (s : Stmt) : List Stmt := match s with
  | .FunctionDef _ _ b _ _ _ _ _ _ _ => b
  | _ => []
def defScope (s : Stmt) : Scope := match s with
  | .FunctionDef _ _ _ _ _ _ sc _ _ _ => sc
  | _ => { kind := .function, names := [], isGenerator := false, isCoroutine := false }

abbrev CX0 : CXT := fun _ _ _ _ _ _ => False
abbrev E0 : XK := fun _ _ _ => False
theorem pass0 {X : Cx} : Passes CX0 X E0 := fun _ _ _ _ _ _ _ h => h.elim

structure Fun (K : PySem.W.Frag) (x qual : Str) (st : Stmt) (f : Addr) (fd : FuncData) : Prop where
  ex : ∃ (oc : Value) (od : Option Addr) (kV doc pm : Value) (an : Option Addr) (cdv ct : Value) (osl : Array (Option Value)),
    fd = PySem.W.fnOf x qual (defArgs st) (defBody st) (defScope st) .none kV doc pm an cdv ct ∧ K.lookup f = some ⟨oc, od, .func fd, osl⟩ ∧ PySem.W.codeIn K cdv qual = true
  kp : PySem.W.keepIn K (.ref f) = true
section
variable {P : Program} {w : World} {K : PySem.W.Frag} {mg : Str → Option Value} {base : Heap}
/-- THE RULE for a def: its body as a term of rules, and the reading of that term -/
theorem Fun.ok {x qual : Str} {st : Stmt} {f : Addr} {fd : FuncData} {N ps : List Str} {k : Nat} {sp : Sp} (F : Fun K x qual st f fd) (S : FnScope N ps (defScope st)) (len : ∀ vs H Q E, sp vs H Q E → vs.length = ps.length)
    (hbody : ∀ (cdv : Value) (A : Around) (outer : List Env) (s : Shared) (H : Hp) (vs : List V) (Q : VK) (E : XK), Room k (A.deeper (envOfC qual (defScope st) s.heap.objs.size f cdv)) → sp vs H Q E →
      ∃ t, PSs (cxOf CX0 P w K mg base N qual (defScope st) f cdv A outer s H E).nox (defBody st) t ∧ t { nx := fun _ H' => Q .non H', rt := Q } (start N vs) H) : FnOk P w K mg base CX0 (k + 1) f fd ps sp := by
  obtain ⟨oc, od, kV, doc, pm, an, cdv, ct, osl, rfl, lk, hcd⟩ := F.ex
  refine fn_of lk hcd S len fun A outer s H vs Q E hr hsp => ?_
  obtain ⟨t, h, q⟩ := hbody cdv A outer s H vs Q E hr hsp
  exact ⟨t, h.nox, q⟩
/-- how its arguments bind (no defaults): h is «fun _ _ _ _ _ _ us hl => match us, hl with | [_, _], _ => rfl», one _ a parameter -/
theorem Fun.binds {x qual : Str} {st : Stmt} {f : Addr} {fd : FuncData} {ps : List Str} (F : Fun K x qual st f fd)
    (h : ∀ (kV doc pm : Value) (an : Option Addr) (cdv ct : Value) (us : List Value), us.length = ps.length → bindArgs (PySem.W.fnOf x qual (defArgs st) (defBody st) (defScope st) .none kV doc pm an cdv ct) ⟨us, []⟩ = pure (ps.zip us)) : Binds K fd ps [] := by
  obtain ⟨oc, od, kV, doc, pm, an, cdv, ct, osl, rfl, lk, hcd⟩ := F.ex
  exact .all (h kV doc pm an cdv ct)
theorem fun_mk {x qual : Str} {st : Stmt} {f : Addr} {oc : Value} {od an : Option Addr} {osl : Array (Option Value)} {kV doc pm cdv ct : Value} (l : K.lookup f = some ⟨oc, od, .func (PySem.W.fnOf x qual (defArgs st) (defBody st) (defScope st) .none kV doc pm an cdv ct), osl⟩)
    (c : PySem.W.codeIn K cdv qual = true) (k : PySem.W.keepIn K (.ref f) = true) : Fun K x qual st f (PySem.W.fnOf x qual (defArgs st) (defBody st) (defScope st) .none kV doc pm an cdv ct) := ⟨⟨oc, od, kV, doc, pm, an, cdv, ct, osl, rfl, l, c⟩, k⟩
end
theorem hu_of {A : Around} {k : Nat} (hr : Room k A) : A.units + 1 < cLine := Nat.lt_of_le_of_lt (Nat.add_le_add_left (by decide : 1 ≤ 64) _) hr.units
theorem small1000 {n : Nat} (h : n ≤ 1000) : n < sizeLine := Nat.lt_of_le_of_lt h (by decide)

section
variable {X : Cx}
theorem pv (i : Nat) {x : Str} {pos : Pos} (hN : X.N[i]? = some x := by rfl) (hv : Vis X.env.scope x := by first | exact Or.inl rfl | exact Or.inr (Or.inl rfl) | exact Or.inr (Or.inr rfl)) (hd : (x == ("__debug__" : Str)) = false := by decide)
    (hcd : (x == ("__classdict__" : Str)) = false := by decide) : PE X (.Name x pos) (tVar i) := pe_var hN hv hd hcd
end

theorem iteF {A B : Prop} (h : B) : if false = true then A else B := by
  rw [if_neg Bool.false_ne_true]
  exact h
theorem iteT {A B : Prop} (h : A) : if true = true then A else B := by
  rw [if_pos rfl]
  exact h
theorem ite2 {c A B : Prop} [Decidable c] (h1 : c → A) (h2 : ¬ c → B) : if c then A else B := by
  by_cases h : c
  · rw [if_pos h]
    exact h1 h
  · rw [if_neg h]
    exact h2 h
/-- all that was tracked is as it was -/
def Same (H H' : Hp) : Prop := ∀ b o, H b = some o → H' b = some o
theorem Same.refl (H : Hp) : Same H H := fun _ _ h => h
theorem Same.trans {H H1 H2 : Hp} (a : Same H H1) (b : Same H1 H2) : Same H H2 := fun c o h => b c o (a c o h)
theorem Same.free {H H' : Hp} (e : Same H H') {l : Addr} (h : H' l = Option.none) : H l = Option.none := by
  cases q : H l with
  | none => rfl
  | some o =>
    rw [e l o q] at h
    cases h
theorem Same.seq {K : PySem.W.Frag} {H H' : Hp} {a : Addr} {xs : List V} (e : Same H H') (h : SqL K H a xs) : SqL K H' a xs := by
  rcases h with (h | ⟨o, h⟩) | h
  · exact .inl (.inl (e _ _ h))
  · exact .inl (.inr ⟨o, e _ _ h⟩)
  · exact .inr h

end L2

set_option Elab.async false
set_option linter.all false
set_option maxRecDepth 100000
set_option maxHeartbeats 4000000
namespace L2
open PySem PySem.Spec PyProof.Rows

theorem closure_walk {env : Env} : ∀ (names : List (Str × NameKind)) (acc : List (Str × Addr)), (∀ y ∈ names, y.2 = .free → ∃ c, env.cells.lookup y.1 = some c) →
    ∃ cl, (forIn names acc (fun (x : Str × NameKind) (cs : List (Str × Addr)) => (if x.2 == .free then (do let c ← cellOf env x.1; pure (ForInStep.yield ((x.1, c) :: cs))) else pure (ForInStep.yield cs) : Sem (ForInStep (List (Str × Addr)))))) = pure cl ∧
      (∀ y ∈ names, y.2 = .free → ∃ c, cl.lookup y.1 = some c) ∧ (∀ y c, acc.lookup y = some c → ∃ d, cl.lookup y = some d) ∧ (∀ y c, cl.lookup y = some c → env.cells.lookup y = some c ∨ acc.lookup y = some c)
  | [], acc, _ => ⟨acc, rfl, (fun _ h => nomatch h), (fun y c h => ⟨c, h⟩), (fun y c h => .inr h)⟩
  | (n, k) :: r, acc, h => by
    rw [List.forIn_cons]
    by_cases hk : k = .free
    · subst hk
      obtain ⟨c, hc⟩ := h (n, .free) List.mem_cons_self rfl
      obtain ⟨cl, e, h1, h2, h3⟩ := closure_walk r ((n, c) :: acc) fun y hy => h y (List.mem_cons_of_mem _ hy)
      refine ⟨cl, ?_, ?_, ?_, ?_⟩
      · have e0 : cellOf env n = pure c := by unfold cellOf; rw [hc]
        simp only [beq_self_eq_true, if_true, e0, pure_bind]
        exact e
      · intro y hy hf
        rcases List.mem_cons.mp hy with rfl | hy
        · exact h2 n c (by simp)
        · exact h1 y hy hf
      · intro y d hd
        by_cases e1 : y = n
        · subst e1; exact h2 y c (by simp)
        · exact h2 y d (by rw [List.lookup_cons, beq_eq_false_iff_ne.mpr e1]; exact hd)
      · intro y d hd
        rcases h3 y d hd with q | q
        · exact .inl q
        · by_cases e1 : y = n
          · subst e1
            simp at q
            exact .inl (by rw [← q]; exact hc)
          · rw [List.lookup_cons, beq_eq_false_iff_ne.mpr e1] at q
            exact .inr q
    · have hb : (k == NameKind.free) = false := by simpa using hk
      obtain ⟨cl, e, h1, h2, h3⟩ := closure_walk r acc fun y hy => h y (List.mem_cons_of_mem _ hy)
      refine ⟨cl, ?_, ?_, h2, h3⟩
      · simp only [hb, Bool.false_eq_true, if_false, pure_bind]
        exact e
      · intro y hy hf
        rcases List.mem_cons.mp hy with rfl | hy
        · exact absurd hf hk
        · exact h1 y hy hf
theorem closure_of {scope : Scope} {env : Env} (h : ∀ y ∈ scope.names, y.2 = .free → ∃ c, env.cells.lookup y.1 = some c) :
    ∃ cl, closureFor scope env = pure cl ∧ (∀ y ∈ scope.names, y.2 = .free → ∃ c, cl.lookup y.1 = some c) ∧ ∀ y c, cl.lookup y = some c → env.cells.lookup y = some c := by
  obtain ⟨cl, e, h1, _, h3⟩ := closure_walk scope.names [] h
  refine ⟨cl, ?_, h1, fun y c q => (h3 y c q).elim id fun z => by simp at z⟩
  rw [← e]
  unfold closureFor
  simp only [bind_pure]

theorem relabel_free {env : Env} : ∀ {names : List (Str × NameKind)} {x : Str}, names.lookup x = some .free →
    (names.map fun (n, k) => if (k == NameKind.free && env.scope.kind == .function && env.kindOf n == some .cell) then (n, NameKind.cell) else (n, k)).lookup x = some .cell ∨
    (names.map fun (n, k) => if (k == NameKind.free && env.scope.kind == .function && env.kindOf n == some .cell) then (n, NameKind.cell) else (n, k)).lookup x = some .free
  | [], _, h => by simp at h
  | (n, k) :: r, x, h => by
    have ih := @relabel_free env r x
    rw [List.map_cons]
    cases hx : x == n with
    | true =>
      simp only [List.lookup_cons, hx] at h
      cases h
      by_cases hc : (NameKind.free == NameKind.free && env.scope.kind == .function && env.kindOf n == some .cell) = true
      · left; simp only [if_pos hc, List.lookup_cons, hx]
      · right; simp only [if_neg hc, List.lookup_cons, hx]
    | false =>
      simp only [List.lookup_cons, hx] at h
      by_cases hc : (k == NameKind.free && env.scope.kind == .function && env.kindOf n == some .cell) = true
      · simp only [if_pos hc, List.lookup_cons, hx]; exact ih h
      · simp only [if_neg hc, List.lookup_cons, hx]; exact ih h
theorem relabel_inv {env : Env} : ∀ {names : List (Str × NameKind)} {x : Str} {k' : NameKind},
    (names.map fun (n, k) => if (k == NameKind.free && env.scope.kind == .function && env.kindOf n == some .cell) then (n, NameKind.cell) else (n, k)).lookup x = some k' → (k' = .cell ∨ k' = .free) →
    ∃ k, (x, k) ∈ names ∧ (k = .cell ∨ k = .free)
  | [], _, _, h, _ => by simp at h
  | (n, k) :: r, x, k', h, hk => by
    have ih := @relabel_inv env r x k'
    rw [List.map_cons] at h
    cases hx : x == n with
    | true =>
      have e : x = n := by simpa using hx
      subst e
      by_cases hc : (k == NameKind.free && env.scope.kind == .function && env.kindOf x == some .cell) = true
      · refine ⟨k, List.mem_cons_self, .inr ?_⟩
        simp only [Bool.and_eq_true, beq_iff_eq] at hc
        exact hc.1.1
      · simp only [if_neg hc, List.lookup_cons, beq_self_eq_true] at h
        cases h
        exact ⟨k, List.mem_cons_self, hk⟩
    | false =>
      have h' : (r.map fun (n, k) => if (k == NameKind.free && env.scope.kind == .function && env.kindOf n == some .cell) then (n, NameKind.cell) else (n, k)).lookup x = some k' := by
        by_cases hc : (k == NameKind.free && env.scope.kind == .function && env.kindOf n == some .cell) = true
        · simpa only [if_pos hc, List.lookup_cons, hx] using h
        · simpa only [if_neg hc, List.lookup_cons, hx] using h
      obtain ⟨q, m, z⟩ := ih h' hk
      exact ⟨q, List.mem_cons_of_mem _ m, z⟩

/-- the context of a comprehension's block: its own names beside those of the def -/
abbrev blockCx (X : Cx) (scope : Scope) (N : List Str) (cl : List (Str × Addr)) (C : Addr) (s : Shared) (H : Hp) (ex : List Addr) (pn : List (Addr × Obj)) (E : Value → Shared → Prop) : Cx :=
  { X with N := N, s₀ := s, H₀ := H, env := compEnvC scope cl C X.env, outer := X.stack, stack := X.stack, ex := ex, fn := fun _ => false, pn := pn, xe := E }

theorem block_ok {X : Cx} {pins : List (Addr × Obj)} {σ σ' : St} {H : Hp} {s : Shared} {scope : Scope} {N : List Str} {cl : List (Str × Addr)} {fp : List Addr} {E : Value → Shared → Prop} {h1 : Heap} {t : Nat}
    (I : Inv X pins σ H s) (hkind : scope.kind = .function) (hcell : ∀ y ∈ scope.names, y.2 ≠ .cell) (hfree : ∀ y ∈ scope.names, y.2 = .free → X.env.kindOf y.1 = some .cell ∨ X.env.kindOf y.1 = some .free)
    (hcl1 : ∀ y ∈ scope.names, y.2 = .free → ∃ c, cl.lookup y.1 = some c) (hcl2 : ∀ y c, cl.lookup y = some c → X.env.cells.lookup y = some c)
    (hf : ∀ b ∈ fp, FpOk X pins H b) (hfo : ∀ b ∈ fp, ∃ o, s.heap.get? b = some o)
    (hl : σ'.length = N.length) (hσ : ∀ (i : Nat) (x : Str) (v : V), N[i]? = some x → σ'[i]? = some (some v) → scope.names.lookup x = some .free ∧ ∃ j : Nat, X.N[j]? = some x ∧ σ[j]? = some (some v))
    (hns : h1.Ns s.heap.objs.size (fun _ => none)) (hold : ∀ b o, s.heap.get? b = some o → h1.get? b = some o) :
    Inv (blockCx X scope N cl s.heap.objs.size s H fp (X.pn ++ pins) E) [] σ' H { s with heap := h1, toks := t } := by
  have szc : ∀ b o, s.heap.get? b = some o → b ≠ s.heap.objs.size := fun b o e => Nat.ne_of_lt (Heap.lt_size e)
  have okY : (blockCx X scope N cl s.heap.objs.size s H fp (X.pn ++ pins) E).Ok := by
    refine ⟨I.ok.mod, hkind, I.ok.glob, I.ok.blt, Nat.le_refl _, fun x y c e1 e2 => I.ok.inj x y c (hcl2 _ _ e1) (hcl2 _ _ e2), fun x hx => ?_, fun x c hfn _ => ?_, I.ok.hd, I.ok.frames, .inl rfl, fun b hb => ⟨?_, fun x c e z => ?_⟩, I.bs, Nat.le_trans I.ok.bsz I.sz, fun b o e hb => ?_, fun b hb z => ?_, I.stack, I.stkFree⟩
    · have hx' : (relabel scope X.env).names.lookup x = some .cell ∨ (relabel scope X.env).names.lookup x = some .free := hx
      have q : ∃ k, (x, k) ∈ scope.names ∧ (k = .cell ∨ k = .free) := by
        rcases hx' with z | z
        · exact relabel_inv z (.inl rfl)
        · exact relabel_inv z (.inr rfl)
      obtain ⟨k, hm, hk⟩ := q
      rcases hk with rfl | rfl
      · exact absurd rfl (hcell _ hm)
      · exact hcl1 _ hm rfl
    · exact absurd (show false = true from hfn) (by decide)
    · obtain ⟨o, e⟩ := hfo b hb
      exact szc b o e
    · exact (hf b hb).2.2.2.2.1 x c (hcl2 _ _ e) z
    · rcases (hf b hb).2.2.2.1 with z | z
      · exact I.ok.noex b o e z
      · exact absurd (Nat.lt_of_lt_of_le (Heap.lt_size e) (Nat.le_trans I.ok.bsz z)) (Nat.lt_irrefl _)
    · rcases List.mem_cons.mp (I.stkSub b z) with q | q
      · exact (hf b hb).2.1 q
      · exact (hf b hb).2.2.1 q
  obtain ⟨m, hn, hlook⟩ := id I.loc
  refine ⟨okY, rfl, I.bare, Un.kept hold, ⟨_, hns, fun i x v e1 e2 _ => ?_⟩, fun x c e => ?_, I.hok.fresh (Nat.le_refl _), fun x c e => I.freeC x c (hcl2 _ _ e), fun p hp => ?_, I.hok.kept hold, hl⟩
  · obtain ⟨hfr, j, ej, es⟩ := hσ i x v e1 e2
    have hm : (x, NameKind.free) ∈ scope.names := PySem.mem_of_lookup hfr
    have hk := hfree _ hm rfl
    have hv : Vis X.env.scope x := by
      rcases hk with z | z
      · exact .inr (.inl z)
      · exact .inr (.inr z)
    obtain ⟨u, r, l⟩ := hlook j x v ej es hv
    refine ⟨u, r, .inr ⟨?_, ?_⟩⟩
    · exact relabel_free hfr
    · rcases l with ⟨k, _⟩ | ⟨_, c, ec, hc⟩
      · rcases hk with z | z <;> (rw [k] at z; cases z)
      · obtain ⟨d, hd⟩ := hcl1 _ hm rfl
        have e := hcl2 _ _ hd
        have ec' : X.env.cells.lookup x = some d := e
        rw [ec] at ec'; cases ec'
        obtain ⟨o, ho, hod⟩ := hc
        exact ⟨c, hd, o, hold c o ho, hod⟩
  · obtain ⟨v, o, ho, hod⟩ := I.cell x c (hcl2 _ _ e)
    exact ⟨v, o, hold c o ho, hod⟩
  · have hp' : p ∈ X.pn ++ pins := by simpa using hp
    obtain ⟨a1, a2, a3, a4, a5⟩ := I.pin p hp'
    refine ⟨hold _ _ a1, a2, szc _ _ a1, fun z => ?_, a5⟩
    rcases List.mem_cons.mp (I.stkSub _ z) with q | q
    · exact a3 q
    · exact a4 q

def PIfs (X : Cx) (ifs : List Expr) (t : TT) : Prop :=
  ∀ (pins : List (Addr × Obj)) (s : Shared) (σ : St) (H : Hp) (Q : Bool → Hp → Prop), Inv X pins σ H s → t σ H Q →
    wpAny (model X.prog X.w) X.A (forIn ifs true fun c r => if r = true then do let ok ← isTrue c X.env (eval c X.env); pure (ForInStep.yield ok) else pure (ForInStep.yield r)) (TP X pins σ Q) X.xe s
def tYes : TT := fun _ H Q => Q true H
theorem pifs_nil {X : Cx} : PIfs X [] tYes := fun _ _ _ H _ I h => wpAny_tests_nil ⟨H, I, h⟩
section
variable {prog : Program} {w : World} {A : Around} {R : Result → Shared → Prop} {s : Shared}
theorem codeAny_compLoop_any {elt target iter : Expr} {ifs : List Expr} {scope : Scope} {pos : Pos} {it acc : Value} {env : Env} (I : Nat → Shared → Prop)
    (turn : ∀ n s, I n s → wpAny (model prog w) A (pyNext it) (fun r s₁ => match r with
      | none => R (.ok .next) s₁
      | some v => wpAny (model prog w) A (letOwnedTupleGo target it v) (fun _ s₁' => wpAny (model prog w) A (assign target env v) (fun _ s₂ =>
          wpAny (model prog w) A (forIn ifs true fun c r => if r = true then do let ok ← isTrue c env (eval c env); pure (ForInStep.yield ok) else pure (ForInStep.yield r)) (fun ok s₃ =>
            if ok = true then wpAny (model prog w) A (eval elt env) (fun x s₄ =>
              wpAny (model prog w) A (call (.builtin "list.append") [acc, x]) (fun _ s₅ => ∃ m, m < n ∧ I m s₅) (notedBy (model prog w) A env fun e s' => R (.error e) s') s₄) (notedBy (model prog w) A env fun e s' => R (.error e) s') s₃
            else ∃ m, m < n ∧ I m s₃) (notedBy (model prog w) A env fun e s' => R (.error e) s') s₂) (notedBy (model prog w) A env fun e s' => R (.error e) s') s₁') (notedBy (model prog w) A env fun e s' => R (.error e) s') s₁)
        (notedBy (model prog w) A env fun e s' => R (.error e) s') s)
    (n : Nat) (h : I n s) :
    codeAny (model prog w) A (.compLoop (.ListComp elt [⟨target, iter, ifs, 0⟩] scope pos) 0 it acc env) R s := by
  refine codeAny_loop rfl I (fun n s hI => ?_) n h
  show wpAny _ A ((compTurn (.ListComp elt [⟨target, iter, ifs, 0⟩] scope pos) 0 it acc env).onRaise (fun x => do noteFrame x env; theTreesLotGoes x)) _ _ s
  refine wpAny_noted ?_
  rw [compTurn_list]
  refine wpAny_bind (wpAny_standAt (wpAny_bind (wpAny_mono (turn n s hI) (fun r s₁ h₁ => ?_) fun _ _ h' => h')))
  cases r with
  | none => exact wpAny_pure h₁
  | some v =>
    refine wpAny_bind (wpAny_mono h₁ (fun _ s₁' h₁' => ?_) fun _ _ h' => h')
    refine wpAny_bind (wpAny_mono h₁' (fun _ s₂ h₂ => wpAny_bind (wpAny_mono h₂ (fun ok s₃ h₃ => ?_) fun _ _ h' => h')) fun _ _ h' => h')
    cases ok with
    | false => exact wpAny_pure ⟨rfl, h₃⟩
    | true =>
      exact wpAny_bind (wpAny_bind (wpAny_mono h₃ (fun x s₄ h₄ => wpAny_bind (wpAny_mono h₄ (fun _ s₅ h₅ => wpAny_pure (wpAny_pure ⟨rfl, h₅⟩)) fun _ _ h' => h')) fun _ _ h' => h'))
end

def tComp (wi : TI) (g : TG) (tc : TT) (te : TE) (lift : St → St) : TE := fun σ H Q => wi σ H fun J H1 => ∀ l, H1 l = none → ∃ W : Nat → Nat → St → Hp → Prop, (∃ m, W 0 m (lift σ) (upd H1 l (.lst []))) ∧ ∀ i m σ H, W i m σ H →
  (J.stop i H ∧ Q (.ref l) H) ∨ (J.go i H ∧ ∃ N : St → Hp → Prop, (∀ σ' H', N σ' H' → ∃ m', m' < m ∧ W (i + 1) m' σ' H') ∧
    ∀ x H', J.yld i H x H' → g x σ H' fun σ2 H2 => tc σ2 H2 fun b H3 => if b = true then te σ2 H3 fun v H4 => ∃ ys, H4 l = some (.lst ys) ∧ ys.length < sizeLine ∧ N σ2 (upd H4 l (.lst (ys ++ [v]))) else N σ2 H3)

theorem pe_comp {X : Cx} {elt tg iter : Expr} {ifs : List Expr} {scope : Scope} {pos : Pos} {wi : TI} {g : TG} {tc : TT} {te : TE} (N : List Str) (lift : St → St) (hc : X.calm = true) (hi : PI X tg iter wi)
    (hkind : scope.kind = .function) (hcell : ∀ y ∈ scope.names, y.2 ≠ .cell) (hfree : ∀ y ∈ scope.names, y.2 = .free → X.env.kindOf y.1 = some .cell ∨ X.env.kindOf y.1 = some .free)
    (hnames : ∀ y ∈ scope.names, y.2 = .local → scope.names.lookup y.1 = some .local)
    (hlen : ∀ σ : St, σ.length = X.N.length → (lift σ).length = N.length)
    (hσ : ∀ (σ : St) (i : Nat) (x : Str) (v : V), σ.length = X.N.length → N[i]? = some x → (lift σ)[i]? = some (some v) → scope.names.lookup x = some .free ∧ ∃ j : Nat, X.N[j]? = some x ∧ σ[j]? = some (some v))
    (hg : ∀ cl C s H ex pn E, PG (blockCx X scope N cl C s H ex pn E) tg g) (ht : ∀ cl C s H ex pn E, PIfs (blockCx X scope N cl C s H ex pn E) ifs tc) (he : ∀ cl C s H ex pn E, PE (blockCx X scope N cl C s H ex pn E) elt te)
    (hs : ∀ x, foldedSetIterable iter X.env x = pure x := by intro _; rfl) :
    PE X (.ListComp elt [⟨tg, iter, ifs, 0⟩] scope pos) (tComp wi g tc te lift) := by
  intro pins s σ H Q I h
  rw [eval_ListComp]
  obtain ⟨cl, hclos, hcl1, hcl2⟩ := closure_of (scope := scope) (env := X.env) fun y hy hf => I.ok.has y.1 (hfree y hy hf)
  refine wpAny_comprehension_free (use := none) rfl hs hclos hkind hnames (thn (hi pins s σ H _ I h) fun v s1 h1 => thn h1 fun itv s2 h2 => ?_)
  obtain ⟨it, fp, tn, J, H2, e, I2, T, st2, f2, q⟩ := h2
  subst e
  refine wpAny_newObj_type (wpAny_newFunctionEnv hcell (by intro y hy; simp at hy) (fun h₁ hns₁ hsb₁ => ?_) hkind)
  have I3 : Inv X pins σ (upd H2 s2.heap.objs.size (.lst [])) { s2 with heap := s2.heap.push { cls := .type "list", data := .seq ([] : List Value).toArray } } := I2.lnew (its := []) (t' := s2.toks) .nil (Nat.zero_le _)
  have fr : H2 s2.heap.objs.size = none := I2.fresh
  have hold : ∀ b o, (s2.heap.push { cls := .type "list", data := .seq ([] : List Value).toArray }).get? b = some o → h₁.get? b = some o := fun b o e => hsb₁.extBut b o (Nat.ne_of_lt (Heap.lt_size e)) (Heap.get?_push_of_some _ e)
  have f3 : ∀ b ∈ fp, FpOk X pins (upd H2 s2.heap.objs.size (.lst [])) b := fun b hb => by
    obtain ⟨o, eo, _⟩ := T.obj 0 _ st2 b hb
    exact ⟨by rw [upd_ne (Nat.ne_of_lt (Heap.lt_size eo))]; exact (f2 b hb).1, (f2 b hb).2⟩
  have fo : ∀ b ∈ fp, ∃ o, (s2.heap.push { cls := .type "list", data := .seq ([] : List Value).toArray }).get? b = some o := fun b hb => by
    obtain ⟨o, eo, _⟩ := T.obj 0 _ st2 b hb
    exact ⟨o, Heap.get?_push_of_some _ eo⟩
  generalize hP : s2.heap.push { cls := .type "list", data := .seq ([] : List Value).toArray } = P at *
  obtain ⟨W, ⟨m0, w0⟩, turn⟩ := q s2.heap.objs.size fr
  generalize hL : s2.heap.objs.size = L at *
  let R : Result → Shared → Prop := compPost (model X.prog X.w) X.A X.xe none (EP X pins σ Q) (.ref L) P.objs.size
  let Y : Cx := blockCx X scope N cl P.objs.size { s2 with heap := P } (upd H2 L (.lst [])) fp (X.pn ++ pins) (notedBy (model X.prog X.w) X.A (compEnvC scope cl P.objs.size X.env) fun e s' => R (.error e) s')
  have IY : Inv Y [] (lift σ) (upd H2 L (.lst [])) { s2 with heap := h₁, toks := s2.toks + ([] : List (Str × Value)).length } :=
    block_ok (s := { s2 with heap := P }) I3 hkind hcell hfree hcl1 hcl2 f3 fo (hlen σ I.len) (fun i x v => hσ σ i x v I.len) hns₁ hold
  have stY : tn 0 h₁ := T.keep _ _ _ st2 fun b hb o e => hold b o (by rw [← hP]; exact Heap.get?_push_of_some _ e)
  have fC : ∀ b ∈ fp, b ≠ P.objs.size ∧ (b ∈ fp) := fun b hb => by
    obtain ⟨o, eo⟩ := fo b hb
    exact ⟨Nat.ne_of_lt (Heap.lt_size eo), hb⟩
  have fpY : ∀ {H' : Hp}, (∀ b ∈ fp, H' b = none) → ∀ b ∈ fp, FpOk Y [] H' b := fun {H'} hn b hb => by
    refine ⟨hn b hb, (fC b hb).1, fun z => ?_, .inl hb, fun x c ex => (f3 b hb).2.2.2.2.1 x c (hcl2 _ _ ex), fun p hp => ?_⟩
    · rcases List.mem_cons.mp (I3.stkSub b z) with y | y
      · exact (f3 b hb).2.1 y
      · exact (f3 b hb).2.2.1 y
    · have hp' : p ∈ (X.pn ++ pins) ++ [] := hp
      rw [List.append_nil] at hp'
      exact (f3 b hb).2.2.2.2.2 p hp'
  have loop : ∀ s4 : Shared, s4 = { s2 with heap := h₁, toks := s2.toks + ([] : List (Str × Value)).length } →
      codeAny (model X.prog X.w) X.A (.compLoop (.ListComp elt [⟨tg, iter, ifs, 0⟩] scope pos) 0 (.ref it) (.ref L) (compEnvC scope cl P.objs.size X.env)) R s4 := by
    rintro s4 rfl
    refine codeAny_compLoop_any (fun n s' => ∃ i σ' H', Inv Y [] σ' H' s' ∧ tn i s'.heap ∧ (∀ b ∈ fp, H' b = none) ∧ W i n σ' H') ?_ m0 ⟨0, _, _, IY, stY, fun b hb => (f3 b hb).1, w0⟩
    rintro n s5 ⟨i, σ5, H5, I5, st5, fr5, w5⟩
    rcases turn i n σ5 H5 w5 with ⟨stop, qn⟩ | ⟨go, Nx, hNx, step⟩
    · refine thn (T.done Y rfl rfl rfl hc i [] s5 σ5 H5 Y.xe I5 (fpY fr5) st5 stop) fun r s6 ⟨hr, I6⟩ => ?_
      subst hr
      show R (.ok .next) s6
      obtain ⟨m6, hn6, _⟩ := id I6.loc
      have IX : Inv X pins σ H5 s6 := I3.call' (s' := s6) (ch := fp) I6.os I6.base I6.hok I6.bare fun b hb => ⟨(f3 b hb).2.2.2.1, (f3 b hb).2.1, (f3 b hb).2.2.2.2.1, (f3 b hb).2.2.2.2.2⟩
      refine ⟨m6, hn6, fun h' sb => ⟨.ref L, H5, IX.turned (t' := s6.toks) (it := P.objs.size) (fun b o hb e => (sb.2 b hb).trans e) I6.free (Nat.ne_of_gt I3.lt) (.inr I3.sz) (fun x c ec z => ?_) fun p hp z => ?_, rfl, qn⟩⟩
      · obtain ⟨v0, qv⟩ := I3.cell x c ec
        exact absurd qv.lt (by rw [z]; exact Nat.lt_irrefl _)
      · have z0 := Heap.lt_size (I3.pin p hp).1
        exact absurd z0 (by rw [z]; exact Nat.lt_irrefl _)
    · refine thn (T.item Y rfl rfl rfl hc i [] s5 σ5 H5 Y.xe I5 (fpY fr5) st5 go) fun r s6 ⟨u, hr, h6⟩ => ?_
      subst hr
      refine thn h6 fun _ s7 ⟨x, H7, I7, r7, y7, st7, fr7⟩ => ?_
      have I7' := I7.pinned (fpY fr7) (T.obj _ _ st7)
      refine thn (hg _ _ _ _ _ _ _ _ s7 σ5 H7 x u _ I7' r7 (step x H7 y7)) fun _ s8 ⟨σ8, H8, I8, q8⟩ => ?_
      refine thn (ht _ _ _ _ _ _ _ _ s8 σ8 H8 _ I8 q8) fun ok s9 ⟨H9, I9, q9⟩ => ?_
      have again : ∀ {sx : Shared} {Hx : Hp}, Inv Y ([] ++ pinsAt fp s7.heap) σ8 Hx sx → Nx σ8 Hx → ∃ m, m < n ∧ ∃ i σ' H', Inv Y [] σ' H' sx ∧ tn i sx.heap ∧ (∀ b ∈ fp, H' b = none) ∧ W i m σ' H' := fun {sx Hx} Ix nx => by
        obtain ⟨m', hm, wx⟩ := hNx σ8 Hx nx
        refine ⟨m', hm, i + 1, σ8, Hx, Ix.unpinned, T.keep _ _ _ st7 fun b hb o e => (Ix.pin (b, o) (List.mem_append_right _ (List.mem_append_right _ (mem_pinsAt hb e)))).1, fun b hb => ?_, wx⟩
        obtain ⟨o, e, d⟩ := T.obj _ _ st7 b hb
        exact (Ix.pin (b, o) (List.mem_append_right _ (List.mem_append_right _ (mem_pinsAt hb e)))).2.1
      cases ok with
      | false =>
        rw [if_neg Bool.false_ne_true] at q9 ⊢
        exact again I9 q9
      | true =>
        rw [if_pos rfl] at q9 ⊢
        refine thn (he _ _ _ _ _ _ _ _ s9 σ8 H9 _ I9 q9) fun y s10 ⟨v10, H10, I10, r10, ys, hys, hz, q10⟩ => ?_
        refine thn (mt_append (X := Y) _ s10 σ8 H10 (.ref L) [v10] (.ref L) [y] (fun _ H' => Nx σ8 H') I10 rfl (.cons r10 .nil) ⟨L, ys, v10, rfl, rfl, hys, hz, q10⟩) fun _ s11 ⟨_, H11, I11, _, q11⟩ => ?_
        exact again I11 q11
  exact codeAny_compStart_list (loop _ rfl) (T.self X.A 0 _ _ _ stY (loop _ rfl))
end L2
set_option Elab.async false
set_option linter.all false
set_option maxRecDepth 100000
set_option maxHeartbeats 4000000
namespace L2
open PySem PySem.Spec PyProof.Rows

theorem comp_by {J : It} {g : TG} {tc : TT} {te : TE} {R : Hp → Prop} {l : Addr} {σ0 : St} {H0 : Hp} (n : Nat) (Pv : Nat → St → Hp → Prop) (h0 : Pv 0 σ0 H0) (hstop : ∀ σ H, Pv n σ H → J.stop n H ∧ R H)
    (hgo : ∀ i σ H, i < n → Pv i σ H → J.go i H ∧ ∀ x H', J.yld i H x H' → g x σ H' fun σ2 H2 => tc σ2 H2 fun b H3 => if b = true then te σ2 H3 fun v H4 => ∃ ys, H4 l = some (.lst ys) ∧ ys.length < sizeLine ∧ Pv (i + 1) σ2 (upd H4 l (.lst (ys ++ [v]))) else Pv (i + 1) σ2 H3) :
    ∃ W : Nat → Nat → St → Hp → Prop, (∃ m, W 0 m σ0 H0) ∧ ∀ i m σ H, W i m σ H →
      (J.stop i H ∧ R H) ∨ (J.go i H ∧ ∃ N : St → Hp → Prop, (∀ σ' H', N σ' H' → ∃ m', m' < m ∧ W (i + 1) m' σ' H') ∧
        ∀ x H', J.yld i H x H' → g x σ H' fun σ2 H2 => tc σ2 H2 fun b H3 => if b = true then te σ2 H3 fun v H4 => ∃ ys, H4 l = some (.lst ys) ∧ ys.length < sizeLine ∧ N σ2 (upd H4 l (.lst (ys ++ [v]))) else N σ2 H3) := by
  refine ⟨fun i m σ H => m = n - i ∧ i ≤ n ∧ Pv i σ H, ⟨n, by simp, Nat.zero_le _, h0⟩, ?_⟩
  rintro i m σ H ⟨rfl, hi, p⟩
  by_cases hlt : i < n
  · obtain ⟨go, st⟩ := hgo i σ H hlt p
    exact .inr ⟨go, Pv (i + 1), fun σ' H' p' => ⟨n - (i + 1), by omega, rfl, hlt, p'⟩, st⟩
  · have e : i = n := by omega
    subst e
    exact .inl (hstop σ H p)

theorem yesT {σ : St} {H : Hp} {F : Bool → Hp → Prop} (h : F true H) : tYes σ H F := h
theorem gN {i : Nat} {v : V} {σ : St} {H : Hp} {Q : St → Hp → Prop} (h : Q (σ.set i (some v)) H) : gName i v σ H Q := h
def Its (x : Str) : It := ⟨fun i _ => i < x.cps.size, fun i H v H' => H' = H ∧ ∃ c, x.cps[i]? = some c ∧ v = .str ⟨#[c]⟩, fun i _ => x.cps.size ≤ i⟩
theorem turn_str {P : Program} {w : World} {K : PySem.W.Frag} {tg : Expr} {it : Addr} {x : Str} {t : Tok} {ty : String} (hty : ty = "str_ascii_iterator" ∨ ty = "str_iterator") :
    Turn P w K tg (Its x) [it] it (fun i h => i ≤ x.cps.size ∧ h.IsStrIter it ty x t i) where
  mem := by simp
  obj := fun i h st b hb => by
    have e : b = it := by simpa using hb
    subst e
    obtain ⟨_, o, e, c, d⟩ := st
    exact ⟨o, e, fun v z => by rw [d] at z; cases z⟩
  keep := fun i h h' st k => by
    obtain ⟨hi, o, e, r⟩ := st
    exact ⟨hi, o, k it (by simp) o e, r⟩
  item := by
    intro X hP hw hK hc i pins s σ H E I hf st hg
    subst hP hw hK
    obtain ⟨f0, f1, f2, f3, f4, f5⟩ := hf it (by simp)
    have hlt : i < x.cps.size := hg
    obtain ⟨_, st⟩ := st
    have W : Walks X.prog X.w X.A it [it] [it] x.cps.size (SignAt x) (fun i h => h.IsStrIter it ty x t i) := by
      rcases hty with rfl | rfl
      · exact Walks.strAscii (I.ok.hd hc) it x t
      · exact Walks.strWide (I.ok.hd hc) it x t
    refine W.item i s _ _ hlt st fun v h' tk hv st' kk => ?_
    obtain ⟨c, u, hc', rfl⟩ := hv
    have I1 : Inv X pins σ H { s with heap := h', toks := tk } := I.turned (fun b o hb e => kk b o (by simpa using hb) e) f0 f1 f3 f4 f5
    obtain ⟨o, e, c2, d⟩ := id st'
    refine ⟨_, rfl, go_of (s := { s with heap := h', toks := tk }) (n := ty) e c2 d ?_ ⟨.str ⟨#[c]⟩, H, I1, ⟨u, rfl⟩, ⟨rfl, c, hc', rfl⟩, ⟨by omega, st'⟩, fun b hb => (hf b hb).1⟩⟩
    rcases hty with rfl | rfl <;> decide
  done := by
    intro X hP hw hK hc i pins s σ H E I hf st hg
    subst hP hw hK
    obtain ⟨f0, f1, f2, f3, f4, f5⟩ := hf it (by simp)
    have hge : x.cps.size ≤ i := hg
    obtain ⟨hi, st⟩ := st
    have e : i = x.cps.size := by omega
    subst e
    have W : Walks X.prog X.w X.A it [it] [it] x.cps.size (SignAt x) (fun i h => h.IsStrIter it ty x t i) := by
      rcases hty with rfl | rfl
      · exact Walks.strAscii (I.ok.hd hc) it x t
      · exact Walks.strWide (I.ok.hd hc) it x t
    exact W.done s _ _ st fun h' tk kk => ⟨rfl, I.turned (fun b o hb e => kk b o (by simpa using hb) e) f0 f1 f3 f4 f5⟩
  self := fun A i s Q E st h => by
    obtain ⟨_, st⟩ := st
    rcases hty with rfl | rfl
    · exact wpAny_pyIter_striter_ascii st h
    · exact wpAny_pyIter_striter_wide st h
def iStr (tl : TE) : TI := fun σ H R => tl σ H fun v H1 => ∃ x, v = .str x ∧ R (Its x) H1
theorem pi_str {X : Cx} {tg l : Expr} {tl : TE} (hl : PE X l tl) : PI X tg l (iStr tl) := by
  intro pins s σ H R I h
  refine thn (hl pins s σ H _ I h) fun v s1 ⟨y, H1, I1, r1, q1⟩ => ?_
  obtain ⟨x, e, q⟩ := q1
  subst e
  obtain ⟨t, rfl⟩ := r1
  refine wpAny_pyIter_strU ?_
  have hty : strIterType x = "str_ascii_iterator" ∨ strIterType x = "str_iterator" := by
    unfold strIterType
    split
    · exact .inl rfl
    · exact .inr rfl
  refine ⟨s1.heap.objs.size, [s1.heap.objs.size], _, _, H1, rfl, I1.kept (t' := s1.toks) fun b o e => Heap.get?_push_of_some _ e, turn_str (t := t) hty, ⟨Nat.zero_le _, _, Heap.get?_push_size _ rfl, rfl, rfl⟩, fun b hb => ?_, q⟩
  have e : b = s1.heap.objs.size := by simpa using hb
  subst e
  exact I1.fpOk (Nat.le_refl _) (I1.hok.fresh (Nat.le_refl _))
theorem call_isinst {X : Cx} : CallR X (.builtin "isinstance") (fun xs H Q => ∃ x n t b, xs = [x, .ty n] ∧ TyOf X.K H x t ∧ PySem.W.kitOne X.K t (.type n) = some b ∧ Q (.bl b) H) := by
  intro pins s σ H xs us Q I r h
  obtain ⟨x, n, t, b, rfl, ty, e, q⟩ := h
  obtain ⟨u, v, rfl, ru, rv⟩ := vals2 r
  cases rv
  exact isinst_ok I ru ty e fun tk => ⟨.bl b, H, I.tok _, rfl, q⟩

def CDivB (i j : Int) : Prop := 0 < j ∧ j < 2 ^ 64
theorem op_fdivB {X : Cx} : OpR X (binaryOp .FloorDiv) (rI CDivB fun i j => .int (i / j)) := opI fun i j _ _ _ _ _ hc q => by
  have h1 : (0 : Int) < j := hc.1
  have h2 : j < 2 ^ 64 := hc.2
  refine floordiv_int (by omega) (by rw [Int.fdiv_eq_ediv_of_nonneg i (by omega)]; exact q) (.inl (PyProof.noPylong_of_log2 ?_))
  have h3 : j.natAbs ≠ 0 := by omega
  have h4 : j.natAbs < 2 ^ 64 := by omega
  have h5 : j.natAbs.log2 < 64 := (Nat.log2_lt h3).mpr h4
  omega
end L2
set_option Elab.async false
set_option linter.all false
set_option maxRecDepth 100000
set_option maxHeartbeats 4000000
namespace L2
open PySem PySem.Spec PyProof.Rows

def liftBy (js : List (Option Nat)) (σ : St) : St := js.map fun j => match j with | some j => σ.getD j none | none => none
def chkLift (N : List Str) (js : List (Option Nat)) (XN : List Str) (names : List (Str × NameKind)) : Bool :=
  decide (N.length = js.length) && (N.zip js).all fun p => match p.2 with | none => true | some j => decide (XN[j]? = some p.1) && decide (names.lookup p.1 = some .free)
theorem chk_len {N : List Str} {js : List (Option Nat)} {XN : List Str} {names : List (Str × NameKind)} (h : chkLift N js XN names = true) (σ : St) : (liftBy js σ).length = N.length := by
  unfold chkLift at h
  rw [Bool.and_eq_true] at h
  unfold liftBy
  rw [List.length_map]
  exact (of_decide_eq_true h.1).symm
theorem chk_at {N : List Str} {js : List (Option Nat)} {XN : List Str} {names : List (Str × NameKind)} (h : chkLift N js XN names = true) (σ : St) (i : Nat) (x : Str) (v : V) (h1 : N[i]? = some x) (h2 : (liftBy js σ)[i]? = some (some v)) :
    names.lookup x = some .free ∧ ∃ j : Nat, XN[j]? = some x ∧ σ[j]? = some (some v) := by
  unfold chkLift at h
  rw [Bool.and_eq_true, List.all_eq_true] at h
  unfold liftBy at h2
  rw [List.getElem?_map] at h2
  cases e : js[i]? with
  | none => rw [e] at h2; cases h2
  | some j =>
    rw [e] at h2
    cases j with
    | none => cases h2
    | some j =>
      have h3 : σ.getD j none = some v := Option.some.inj h2
      have hm : (x, some j) ∈ N.zip js := by
        refine List.mem_of_getElem? (i := i) ?_
        rw [List.getElem?_zip_eq_some]
        exact ⟨h1, e⟩
      have q := h.2 _ hm
      simp only [Bool.and_eq_true, decide_eq_true_eq] at q
      refine ⟨q.2, j, q.1, ?_⟩
      rw [List.getD_eq_getElem?_getD] at h3
      cases e2 : σ[j]? with
      | none => rw [e2] at h3; cases h3
      | some o => rw [e2] at h3; exact congrArg some h3
theorem pe_compL {X : Cx} {elt tg iter : Expr} {ifs : List Expr} {scope : Scope} {pos : Pos} {wi : TI} {g : TG} {tc : TT} {te : TE} (XN : List Str) (sc : Scope) (N : List Str) (js : List (Option Nat)) (hXN : X.N = XN) (hsc : X.env.scope = sc) (hc : X.calm = true) (hi : PI X tg iter wi)
    (hkind : scope.kind = .function) (hchk : chkLift N js XN scope.names = true) (hcell : ∀ y ∈ scope.names, y.2 ≠ .cell) (hfree : ∀ y ∈ scope.names, y.2 = .free → sc.names.lookup y.1 = some .cell ∨ sc.names.lookup y.1 = some .free)
    (hnames : ∀ y ∈ scope.names, y.2 = .local → scope.names.lookup y.1 = some .local)
    (hg : ∀ cl C s H ex pn E, PG (blockCx X scope N cl C s H ex pn E) tg g) (ht : ∀ cl C s H ex pn E, PIfs (blockCx X scope N cl C s H ex pn E) ifs tc) (he : ∀ cl C s H ex pn E, PE (blockCx X scope N cl C s H ex pn E) elt te)
    (hs : ∀ x, foldedSetIterable iter X.env x = pure x := by intro _; rfl) :
    PE X (.ListComp elt [⟨tg, iter, ifs, 0⟩] scope pos) (tComp wi g tc te (liftBy js)) := by
  subst hXN
  subst hsc
  exact pe_comp N (liftBy js) hc hi hkind hcell hfree hnames (fun σ _ => chk_len hchk σ) (fun σ i x v _ h1 h2 => chk_at hchk σ i x v h1 h2) hg ht he hs

theorem kit_tt (K : PySem.W.Frag) {T U : String} {b : Bool} (h : (if (Value.type T == Value.type U) = true then some true else (if PySem.W.kitMeta U = true then (fastBuiltinMro T).map (·.contains (.type U)) else none)) = some b) :
    PySem.W.kitOne K (.type T) (.type U) = some b := h
theorem atI_lt {α : Type} {xs : List α} {r : Int} (h0 : 0 ≤ r) (h1 : r < xs.length) : ∃ v, atI xs r = some v ∧ v ∈ xs := by
  have hk : r.toNat < xs.length := by omega
  have ek : r = ((r.toNat : Nat) : Int) := by omega
  refine ⟨xs[r.toNat], ?_, List.getElem_mem hk⟩
  have q : atI xs ((r.toNat : Nat) : Int) = some xs[r.toNat] := atI_nat (List.getElem?_eq_getElem hk)
  rw [← ek] at q
  exact q
theorem same_new {H : Hp} {p : Addr} (h : H p = none) (o : HO) : Same H (upd H p o) := fun b u q => by rw [upd_ne (ne_of_none q h)]; exact q
theorem map_int_at {ns : List Int} {i : Nat} {y : V} (h : (ns.map V.int)[i]? = some y) : ∃ z, y = V.int z := by
  rw [List.getElem?_map] at h
  cases e : ns[i]? with
  | none => rw [e] at h; cases h
  | some z => rw [e] at h; exact ⟨z, (Option.some.inj h).symm⟩
theorem small {n : Nat} (h : n ≤ 1000) : n ≤ sizeLine := Nat.le_of_lt (small1000 h)
theorem smn (n : Nat) (h : n ≤ 1000 := by decide) : n ≤ sizeLine := small h
theorem sizeLine_big : (1000000 : Nat) ≤ sizeLine := by rw [sizeLine_eq]; decide

/-- a pot: a list of two ints at p; all else that was tracked is as it was -/
structure Pot (H0 : Hp) (p : Addr) (H : Hp) : Prop where
  at_ : ∃ a b : Int, H p = some (.lst [.int a, .int b])
  old : ∀ c o, H0 c = some o → c ≠ p → H c = some o
theorem Pot.new {H0 H : Hp} {p l : Addr} {o : HO} (P : Pot H0 p H) (h : H l = none) : Pot H0 p (upd H l o) := by
  obtain ⟨a, b, e⟩ := P.at_
  exact ⟨⟨a, b, by rw [upd_ne (ne_of_none e h)]; exact e⟩, fun c u q hc => by
    have q' := P.old c u q hc
    rw [upd_ne (ne_of_none q' h)]
    exact q'⟩
theorem Pot.turn {H0 H : Hp} {p : Addr} {a b : Int} (P : Pot H0 p H) : Pot H0 p (upd H p (.lst [.int a, .int b])) :=
  ⟨⟨a, b, upd_same⟩, fun c u q hc => by rw [upd_ne hc]; exact P.old c u q hc⟩
end L2
namespace L2
open PySem PySem.Spec PyProof.Rows
theorem Pot.free {H0 H : Hp} {p l : Addr} (P : Pot H0 p H) (h : H l = none) : H0 l = none := by
  cases e : H0 l with
  | none => rfl
  | some o =>
    by_cases hl : l = p
    · obtain ⟨a, b, q⟩ := P.at_
      rw [hl, q] at h
      cases h
    · rw [P.old l o e hl] at h
      cases h
theorem Pot.list {H0 H : Hp} {p l : Addr} {o : HO} (P : Pot H0 p H) (h : H0 l = none) (hl : l ≠ p) : Pot H0 p (upd H l o) := by
  obtain ⟨a, b, e⟩ := P.at_
  exact ⟨⟨a, b, by rw [upd_ne (Ne.symm hl)]; exact e⟩, fun c u q hc => by rw [upd_ne (ne_of_none q h)]; exact P.old c u q hc⟩
theorem Pot.apart {H0 H : Hp} {p l : Addr} (P : Pot H0 p H) (h : H l = none) : l ≠ p := by
  obtain ⟨a, b, e⟩ := P.at_
  exact (ne_of_none e h).symm
/-- how many signs are neither blanks nor line feeds -/
def sz : List Nat → Int
  | [] => 0
  | c :: r => (if c = 32 ∨ c = 10 then 0 else 1) + sz r
end L2
set_option Elab.async false
set_option linter.all false
set_option maxRecDepth 100000
set_option maxHeartbeats 4000000
namespace L2
open PySem PySem.Spec PyProof.Rows

theorem bls_at {bs : List Bool} {its : List Value} (r : Vals (bs.map V.bl) its) {i : Nat} {v : Value} (h : its.toArray[i]? = some v) : v = .bool (bs.getD i true) := by
  have h' : its[i]? = some v := by simpa using h
  have hl := r.length
  have hi : i < its.length := (List.getElem?_eq_some_iff.mp h').1
  have hb : i < bs.length := by rw [List.length_map] at hl; omega
  obtain ⟨u, hu, ru⟩ := r.get (i := i) (x := V.bl bs[i]) (by rw [List.getElem?_map, List.getElem?_eq_getElem hb]; rfl)
  rw [h'] at hu
  cases hu
  have e : bs.getD i true = bs[i] := by rw [List.getD_eq_getElem?_getD, List.getElem?_eq_getElem hb]; rfl
  rw [e]
  exact ru
theorem all_range (bs : List Bool) : (List.range bs.length).all (fun i => bs.getD i true) = bs.all id := by
  rw [Bool.eq_iff_iff, List.all_eq_true, List.all_eq_true]
  constructor
  · intro h b hb
    obtain ⟨i, hi, e⟩ := List.getElem_of_mem hb
    have q := h i (List.mem_range.mpr hi)
    rw [List.getD_eq_getElem?_getD, List.getElem?_eq_getElem hi] at q
    rw [← e]
    exact q
  · intro h i hi
    have hi' := List.mem_range.mp hi
    rw [List.getD_eq_getElem?_getD, List.getElem?_eq_getElem hi']
    exact h _ (List.getElem_mem hi')
theorem call_allB {X : Cx} (hc : X.calm = true) : CallR X (.builtin "all") (fun xs H Q => ∃ (l : Addr) (bs : List Bool), xs = [.ref l] ∧ SqL X.K H l (bs.map V.bl) ∧ Q (.bl (bs.all id)) H) := by
  intro pins s σ H xs us Q I r h
  obtain ⟨l, bs, rfl, hq, q⟩ := h
  obtain ⟨u, rfl, ru⟩ := vals1 r
  cases ru
  obtain ⟨its, rv, p, hz⟩ := I.list hq
  have hd : X.A.in1.handled = none := I.ok.hd hc
  have hl := rv.length
  refine call_all_walk (wpAny_pyIter_list p.isList ?_)
  obtain ⟨o, n, eo, _⟩ := id p
  have hne : l ≠ s.heap.objs.size := Nat.ne_of_lt (Heap.lt_size eo)
  refine ⟨s.heap.objs.size, _, _, _, _, _, fun i => bs.getD i true, rfl, Walks.list hd s.heap.objs.size l hne its.toArray, ⟨⟨_, Heap.get?_push_size _ rfl, rfl, rfl⟩, p.isList.push _⟩, fun i v s' Q' E' hv hQ' => ?_, fun h' tk hk => ?_⟩
  · rw [bls_at rv hv]
    exact wpAny_truthy_bool hQ'
  · have e : its.toArray.size = bs.length := by rw [List.size_toArray, ← hl, List.length_map]
    rw [e, all_range]
    have I1 : Inv X pins σ H { s with heap := s.heap.push { cls := .type "list_iterator", data := .fields #[.ref l, .int 0 0] } } := I.kept (t' := s.toks) fun b o q => Heap.get?_push_of_some _ q
    obtain ⟨f0, f1, f2, f3, f4, f5⟩ := I.fpOk (b := s.heap.objs.size) (Nat.le_refl _) I.fresh
    exact ⟨.bl _, H, I1.turned (it := s.heap.objs.size) (fun b o hb e => hk b o (by simpa using hb) e) f0 f1 f3 f4 f5, rfl, q⟩
theorem op_isnot_bl {X : Cx} : OpR X (compareOp .IsNot) (fun x y H Q => ∃ a b, x = .bl a ∧ y = .bl b ∧ Q (.bl (!(a == b))) H) := by
  intro pins s σ H x y v u Q I rx ry h
  obtain ⟨a, b, rfl, rfl, q⟩ := h
  cases rx
  cases ry
  refine wpAny_isNot_plain rfl ?_
  have e : (Value.bool a == Value.bool b) = (a == b) := by cases a <;> cases b <;> rfl
  rw [e]
  exact ⟨.bl _, H, I, rfl, q⟩
def LET : Str := "abcdefghijklmnopqrstuvwxyz"
theorem let_len : LET.length = 26 := by decide +kernel
theorem let_mem (c : Nat) : c ∈ LET.cps.toList ↔ 97 ≤ c ∧ c ≤ 122 := by
  have e : LET.cps.toList = List.range' 97 26 := by decide +kernel
  rw [e, List.mem_range']
  constructor
  · rintro ⟨i, hi, rfl⟩
    omega
  · rintro ⟨h1, h2⟩
    exact ⟨c - 97, by omega, by omega⟩
/-- a name: 1 to 8 small letters -/
def isNm (x : Str) : Bool := decide (1 ≤ x.length) && decide (x.length ≤ 8) && x.cps.toList.all fun c => decide (97 ≤ c ∧ c ≤ 122)
end L2
set_option Elab.async false
set_option linter.all false
set_option maxRecDepth 100000
set_option maxHeartbeats 4000000
namespace ZT
open PySem
open Sem (wp)
section
variable {prog : Program} {w : World} {A : Around} {E : Value → Shared → Prop} {s : Shared}
/-- what the next of a tuple's iterator is, as zip asks it -/
theorem tup_item {it t : Addr} {i : Nat} {its : Array Value} {x : Value} {Q : Value → Shared → Prop} (ti : s.heap.IsTupleIter it t i) (tt : s.heap.IsTuple t its) (tx : its[i]? = some x)
    (k : ∀ g, g.IsTupleIter it t (i + 1) → Heap.SameBut it s.heap g → Q x { s with heap := g }) : wpAny (model prog w) A (Builtin.SmallTypes.nextOf (.ref it)) Q E s := by
  obtain ⟨o, eo, ec, ed⟩ := id ti
  obtain ⟨ol, el, _, nl, dl⟩ := tt
  unfold Builtin.SmallTypes.nextOf
  refine wpAny_bind (wpAny_callSpecial?_slot (name := Str.ofString "__next__") ti.typeIs F.slot_tuple_iterator_next (wpAny_call_entry F.slot_tuple_iterator_next ti.typeIs F.entry_tuple_iterator_next ?_ (F.args_tuple_iterator_next_1 _)))
  show wpAny _ _ (field (.ref it) 0 >>= _) _ _ s
  refine wpAny_bind (wpAny_field eo ed (x := .ref t) rfl ?_)
  show wpAny _ _ (if (Value.ref t == Value.none) = true then _ else _) _ _ s
  rw [if_neg (by intro z; cases z)]
  show wpAny _ _ (field (.ref it) 1 >>= _) _ _ s
  refine wpAny_bind (wpAny_field eo ed (x := .int i 0) rfl ?_)
  show wpAny _ _ (seqItems? (.ref t) >>= _) _ _ s
  refine wpAny_bind (wpAny_seqItems el dl ?_)
  simp only [Int.toNat_natCast, tx]
  refine wpAny_bind (wpAny_setField eo ed (by simp) (wpAny_pure ⟨x, rfl, wpAny_pure (k _ ?_ (Heap.SameBut.update ..))⟩))
  refine ⟨_, Heap.get?_update_self _ eo (Obj.isFreed_of_fields (Obj.data_mapFields ed _)), (Obj.cls_mapFields ..).trans ec, ?_⟩
  rw [Obj.data_mapFields ed]
  simp [rawInt]
theorem tup_end {it t : Addr} {i : Nat} {its : Array Value} {Q : Value → Shared → Prop} (hd : A.handled = none) (ti : s.heap.IsTupleIter it t i) (tt : s.heap.IsTuple t its) (tx : its[i]? = none)
    (k : ∀ g e, Heap.ExtBut it s.heap g → (∃ o, g.get? e = some o ∧ o.cls = .type "StopIteration") → E (.ref e) { s with heap := g }) : wpAny (model prog w) A (Builtin.SmallTypes.nextOf (.ref it)) Q E s := by
  obtain ⟨o, eo, ec, ed⟩ := id ti
  obtain ⟨ol, el, _, nl, dl⟩ := tt
  unfold Builtin.SmallTypes.nextOf
  refine wpAny_bind (wpAny_callSpecial?_slot (name := Str.ofString "__next__") ti.typeIs F.slot_tuple_iterator_next (wpAny_call_entry F.slot_tuple_iterator_next ti.typeIs F.entry_tuple_iterator_next ?_ (F.args_tuple_iterator_next_1 _)))
  show wpAny _ _ (field (.ref it) 0 >>= _) _ _ s
  refine wpAny_bind (wpAny_field eo ed (x := .ref t) rfl ?_)
  show wpAny _ _ (if (Value.ref t == Value.none) = true then _ else _) _ _ s
  rw [if_neg (by intro z; cases z)]
  show wpAny _ _ (field (.ref it) 1 >>= _) _ _ s
  refine wpAny_bind (wpAny_field eo ed (x := .int i 0) rfl ?_)
  show wpAny _ _ (seqItems? (.ref t) >>= _) _ _ s
  refine wpAny_bind (wpAny_seqItems el dl ?_)
  simp only [Int.toNat_natCast, tx]
  refine wpAny_bind (wpAny_rule (wpAny_bind (wpAny_setField eo ed (by simp) ?_)))
  show wpAny _ _ (newExc (.type "StopIteration") [] >>= _) _ _ _
  refine wpAny_bind ?_
  simp only [newExc, newTuple]
  refine wpAny_bind (wpAny_newObj_type ?_ (by size_fits))
  refine wpAny_bind (m := firstArgMember _ _) (wpAny_of_eq (a := Value.none) (by first | rfl | (simp only [firstArgMember]; rfl)) ?_)
  refine wpAny_newObj_type ?_ (by size_fits)
  simp only [raiseNew]
  refine wpAny_bind (wpAny_handled ?_)
  first | rw [show A.in1.handled = none from hd] | rw [hd]
  refine wpAny_bind (wpAny_pure (wpAny_throw ?_))
  exact k _ _ (((Heap.SameBut.update ..).extBut.push _).push _) ⟨_, Heap.get?_push_size _ rfl, rfl⟩

/-- the records of a zip over two tuples stand apart -/
structure Apart (z TI TO i1 i2 t1 t2 : Addr) : Prop where
  a1 : TI ≠ z
  a2 : TO ≠ z
  a3 : i1 ≠ z
  a4 : i2 ≠ z
  b1 : TI ≠ TO
  b2 : TI ≠ i1
  b3 : TI ≠ i2
  b4 : TO ≠ i1
  b5 : TO ≠ i2
  b6 : i1 ≠ i2
  c1 : t1 ≠ z
  c2 : t1 ≠ TO
  c3 : t1 ≠ i1
  c4 : t1 ≠ i2
  d1 : t2 ≠ z
  d2 : t2 ≠ TO
  d3 : t2 ≠ i1
  d4 : t2 ≠ i2
theorem zip_item {z TI TO i1 i2 t1 t2 : Addr} {n1 n2 : Nat} {us vs : Array Value} {x y a b : Value} {Q : Value → Shared → Prop} (D : Apart z TI TO i1 i2 t1 t2) (zz : IsZip s.heap z TI TO .none) (zi : IsPair s.heap TI (.ref i1) (.ref i2)) (zo : IsPair s.heap TO a b)
    (r1 : s.heap.IsTupleIter i1 t1 n1) (r2 : s.heap.IsTupleIter i2 t2 n2) (u1 : s.heap.IsTuple t1 us) (u2 : s.heap.IsTuple t2 vs) (x1 : us[n1]? = some x) (x2 : vs[n2]? = some y)
    (k : ∀ g, IsZip g z TI TO (rawInt s.heap.objs.size) → IsPair g TO x y → g.IsTupleIter i1 t1 (n1 + 1) → g.IsTupleIter i2 t2 (n2 + 1) → IsPair g s.heap.objs.size x y → g.objs.size = s.heap.objs.size + 1 →
      (∀ c o, c ≠ z → c ≠ TO → c ≠ i1 → c ≠ i2 → s.heap.get? c = some o → g.get? c = some o) → Q (.ref s.heap.objs.size) { s with heap := g }) :
    wpAny (model prog w) A (Builtin.«zip.__next__» ⟨[.ref z], []⟩) (fun fin s' => ∃ v, fin = .done (.ret v) ∧ Q v s') E s := by
  show wpAny _ _ (field (.ref z) 2 >>= _) _ _ _
  refine wpAny_bind (wpAny_field zz rfl (x := .bool false) rfl ?_)
  show wpAny _ _ (field (.ref z) 3 >>= _) _ _ _
  refine wpAny_bind (wpAny_field zz rfl (x := .ref TI) rfl ?_)
  refine wpAny_bind (wpAny_seqItems zi rfl ?_)
  show wpAny _ _ (Builtin.SmallTypes.ownedTupleIsFree (.ref z) >>= _) _ _ _
  refine wpAny_bind ?_
  unfold Builtin.SmallTypes.ownedTupleIsFree
  refine wpAny_bind (wpAny_field zz rfl (x := .none) rfl (wpAny_pure ?_))
  simp only [if_true]
  refine wpAny_bind (wpAny_rule ?_)
  refine wpAny_bind (wpAny_field zz rfl (x := .ref TO) rfl ?_)
  refine wpAny_bind (wpAny_setField_rec zz (by simp) fun g1 zg1 s1 => ?_)
  replace zg1 : IsZip g1 z TI TO .ellipsis := zg1
  refine wpAny_bind ?_
  simp only [List.zipIdx_cons, List.zipIdx_nil, List.forIn_cons, List.forIn_nil]
  refine wpAny_bind (wpAny_bind (wpAny_onRaise ?_))
  show wpAny _ _ (Builtin.SmallTypes.nextOf (.ref i1) >>= _) _ _ _
  refine wpAny_bind (tup_item (r1.extBut s1.extBut D.a3) (u1.extBut s1.extBut D.c1) x1 fun g2 rg2 s2 => wpAny_pure ?_)
  have zo2 : IsPair g2 TO a b := s2.extBut _ _ D.b4 (s1.extBut _ _ D.a2 zo)
  refine wpAny_bind (wpAny_seqItems zo2 rfl ?_)
  refine wpAny_bind (wpAny_updateSeq_pair zo2 fun g3 zo3 s3 => ?_)
  replace zo3 : IsPair g3 TO x b := zo3
  refine wpAny_bind (wpAny_letGo (wpAny_pure ?_))
  refine wpAny_bind (wpAny_bind (wpAny_onRaise ?_))
  show wpAny _ _ (Builtin.SmallTypes.nextOf (.ref i2) >>= _) _ _ _
  refine wpAny_bind (tup_item (((r2.extBut s1.extBut D.a4).extBut s2.extBut D.b6.symm).extBut s3.extBut D.b5.symm) (((u2.extBut s1.extBut D.d1).extBut s2.extBut D.d3).extBut s3.extBut D.d2) x2 fun g4 rg4 s4 => wpAny_pure ?_)
  have zo4 : IsPair g4 TO x b := s4.extBut _ _ D.b5 zo3
  refine wpAny_bind (wpAny_seqItems zo4 rfl ?_)
  refine wpAny_bind (wpAny_updateSeq_pair zo4 fun g5 zo5 s5 => ?_)
  replace zo5 : IsPair g5 TO x y := zo5
  refine wpAny_bind (wpAny_letGo (wpAny_pure (wpAny_pure ?_)))
  refine wpAny_bind (wpAny_seqItems zo5 rfl ?_)
  refine wpAny_bind (wpAny_newTuple ?_)
  have sz : g5.objs.size = s.heap.objs.size := by rw [s5.1, s4.1, s3.1, s2.1, s1.1]
  have zg5 : IsZip g5 z TI TO .ellipsis := s5.extBut _ _ D.a2.symm (s4.extBut _ _ D.a4.symm (s3.extBut _ _ D.a2.symm (s2.extBut _ _ D.a3.symm zg1)))
  have kk : ∀ c o, c ≠ z → c ≠ TO → c ≠ i1 → c ≠ i2 → s.heap.get? c = some o → g5.get? c = some o := fun c o e1 e2 e3 e4 e =>
    s5.extBut _ _ e2 (s4.extBut _ _ e4 (s3.extBut _ _ e2 (s2.extBut _ _ e3 (s1.extBut _ _ e1 e))))
  have rg5 : g5.IsTupleIter i1 t1 (n1 + 1) := ((rg2.extBut s3.extBut D.b4.symm).extBut s4.extBut D.b6).extBut s5.extBut D.b4.symm
  have qg5 : g5.IsTupleIter i2 t2 (n2 + 1) := rg4.extBut s5.extBut D.b5.symm
  have lz : z < g5.objs.size := Heap.lt_size zg5
  show wpAny _ _ (Builtin.SmallTypes.ownedTupleHandOut (.ref z) (.ref g5.objs.size) >>= _) _ _ _
  refine wpAny_bind ?_
  unfold Builtin.SmallTypes.ownedTupleHandOut
  have zg6 : IsZip (g5.push { cls := .type "tuple", data := .seq #[x, y] }) z TI TO .ellipsis := Heap.get?_push_of_some _ zg5
  refine wpAny_bind (wpAny_setField_rec zg6 (by simp) fun g7 zg7 s7 => ?_)
  replace zg7 : IsZip g7 z TI TO (rawInt g5.objs.size) := zg7
  refine wpAny_setField_rec zg7 (by simp) fun g8 zg8 s8 => ?_
  replace zg8 : IsZip g8 z TI TO (rawInt g5.objs.size) := zg8
  have up : ∀ c o, c ≠ z → g5.get? c = some o → g8.get? c = some o := fun c o e1 e => s8.extBut _ _ e1 (s7.extBut _ _ e1 (Heap.get?_push_of_some _ e))
  have pg8 : IsPair g8 g5.objs.size x y := s8.extBut _ _ (Nat.ne_of_gt lz) (s7.extBut _ _ (Nat.ne_of_gt lz) (Heap.get?_push_size _ rfl))
  have sz8 : g8.objs.size = g5.objs.size + 1 := by rw [s8.1, s7.1, Heap.size_push]
  rw [sz] at zg8 pg8 sz8
  refine wpAny_pure ⟨_, rfl, ?_⟩
  show Q (.ref g5.objs.size) _
  rw [sz]
  obtain ⟨o1, eo1, q1⟩ := rg5
  obtain ⟨o2, eo2, q2⟩ := qg5
  exact k g8 zg8 (up _ _ D.a2 zo5) ⟨o1, up _ _ D.a3 eo1, q1⟩ ⟨o2, up _ _ D.a4 eo2, q2⟩ pg8 sz8 fun c o e1 e2 e3 e4 e => up c o e1 (kk c o e1 e2 e3 e4 e)
theorem zip_end {z TI TO i1 i2 t1 t2 : Addr} {n1 : Nat} {us : Array Value} {a b : Value} {Q : Fin → Shared → Prop} (hd : A.handled = none) (D : Apart z TI TO i1 i2 t1 t2) (zz : IsZip s.heap z TI TO .none) (zi : IsPair s.heap TI (.ref i1) (.ref i2)) (zo : IsPair s.heap TO a b)
    (r1 : s.heap.IsTupleIter i1 t1 n1) (u1 : s.heap.IsTuple t1 us) (x1 : us[n1]? = none)
    (k : ∀ g e, (∀ c o, c ≠ z → c ≠ TO → c ≠ i1 → c ≠ i2 → s.heap.get? c = some o → g.get? c = some o) → (∃ o, g.get? e = some o ∧ o.cls = .type "StopIteration") → E (.ref e) { s with heap := g }) :
    wpAny (model prog w) A (Builtin.«zip.__next__» ⟨[.ref z], []⟩) Q E s := by
  show wpAny _ _ (field (.ref z) 2 >>= _) _ _ _
  refine wpAny_bind (wpAny_field zz rfl (x := .bool false) rfl ?_)
  show wpAny _ _ (field (.ref z) 3 >>= _) _ _ _
  refine wpAny_bind (wpAny_field zz rfl (x := .ref TI) rfl ?_)
  refine wpAny_bind (wpAny_seqItems zi rfl ?_)
  show wpAny _ _ (Builtin.SmallTypes.ownedTupleIsFree (.ref z) >>= _) _ _ _
  refine wpAny_bind ?_
  unfold Builtin.SmallTypes.ownedTupleIsFree
  refine wpAny_bind (wpAny_field zz rfl (x := .none) rfl (wpAny_pure ?_))
  simp only [if_true]
  refine wpAny_bind (wpAny_rule ?_)
  refine wpAny_bind (wpAny_field zz rfl (x := .ref TO) rfl ?_)
  refine wpAny_bind (wpAny_setField_rec zz (by simp) fun g1 zg1 s1 => ?_)
  replace zg1 : IsZip g1 z TI TO .ellipsis := zg1
  refine wpAny_bind ?_
  simp only [List.zipIdx_cons, List.zipIdx_nil, List.forIn_cons, List.forIn_nil]
  refine wpAny_bind (wpAny_bind (wpAny_onRaise ?_))
  show wpAny _ _ (Builtin.SmallTypes.nextOf (.ref i1) >>= _) _ _ _
  refine wpAny_bind (tup_end hd (r1.extBut s1.extBut D.a3) (u1.extBut s1.extBut D.c1) x1 fun g2 e s2 he => ?_)
  obtain ⟨oe, eoe, ece⟩ := he
  have zg2 : IsZip g2 z TI TO .ellipsis := s2 _ _ D.a3.symm zg1
  have nez : e ≠ z := fun q => by subst q; rw [zg2] at eoe; cases eoe; simp at ece
  exact wpAny_setField_rec zg2 (by simp) fun g3 _ s3 => k g3 e (fun c o e1 _ e3 _ q => s3.extBut _ _ e1 (s2 _ _ e3 (s1.extBut _ _ e1 q))) ⟨oe, s3.extBut _ _ nez eoe, ece⟩
theorem next_item {z TI TO i1 i2 t1 t2 : Addr} {n1 n2 : Nat} {us vs : Array Value} {x y a b : Value} {Q : Option Value → Shared → Prop} (D : Apart z TI TO i1 i2 t1 t2) (zz : IsZip s.heap z TI TO .none) (zi : IsPair s.heap TI (.ref i1) (.ref i2)) (zo : IsPair s.heap TO a b)
    (r1 : s.heap.IsTupleIter i1 t1 n1) (r2 : s.heap.IsTupleIter i2 t2 n2) (u1 : s.heap.IsTuple t1 us) (u2 : s.heap.IsTuple t2 vs) (x1 : us[n1]? = some x) (x2 : vs[n2]? = some y)
    (k : ∀ g, IsZip g z TI TO (rawInt s.heap.objs.size) → IsPair g TO x y → g.IsTupleIter i1 t1 (n1 + 1) → g.IsTupleIter i2 t2 (n2 + 1) → IsPair g s.heap.objs.size x y → g.objs.size = s.heap.objs.size + 1 →
      (∀ c o, c ≠ z → c ≠ TO → c ≠ i1 → c ≠ i2 → s.heap.get? c = some o → g.get? c = some o) → Q (some (.ref s.heap.objs.size)) { s with heap := g }) :
    wpAny (model prog w) A (pyNext (.ref z)) Q E s := by
  have tz : s.TypeIs (.ref z) "zip" := ⟨_, zz, rfl⟩
  unfold pyNext
  exact wpAny_bind (wpAny_attempt (wpAny_callSpecial?_slot (name := Str.ofString "__next__") tz F.slot_zip_next (wpAny_call_entry F.slot_zip_next tz F.entry_zip_next
    (zip_item D zz zi zo r1 r2 u1 u2 x1 x2 fun g p1 p2 p3 p4 p5 p6 p7 => wpAny_pure (k g p1 p2 p3 p4 p5 p6 p7)) (F.args_zip_next_1 _))))
theorem next_end {z TI TO i1 i2 t1 t2 : Addr} {n1 : Nat} {us : Array Value} {a b : Value} {Q : Option Value → Shared → Prop} (hd : A.handled = none) (D : Apart z TI TO i1 i2 t1 t2) (zz : IsZip s.heap z TI TO .none) (zi : IsPair s.heap TI (.ref i1) (.ref i2)) (zo : IsPair s.heap TO a b)
    (r1 : s.heap.IsTupleIter i1 t1 n1) (u1 : s.heap.IsTuple t1 us) (x1 : us[n1]? = none)
    (k : ∀ g, (∀ c o, c ≠ z → c ≠ TO → c ≠ i1 → c ≠ i2 → s.heap.get? c = some o → g.get? c = some o) → Q none { s with heap := g }) : wpAny (model prog w) A (pyNext (.ref z)) Q E s := by
  have tz : s.TypeIs (.ref z) "zip" := ⟨_, zz, rfl⟩
  unfold pyNext
  refine wpAny_bind (wpAny_attempt (wpAny_callSpecial?_slot (name := Str.ofString "__next__") tz F.slot_zip_next (wpAny_call_entry F.slot_zip_next tz F.entry_zip_next (zip_end hd D zz zi zo r1 u1 x1 fun g e kk he => ?_) (F.args_zip_next_1 _))))
  obtain ⟨o, eo, ec⟩ := he
  exact wpAny_bind (wpAny_isInstance (T := "StopIteration") (b := true) ⟨o, eo, ec⟩ isSubtype_stop (wpAny_pure (k _ kk)))
end
abbrev zh1 (h : Heap) (t1 : Addr) : Heap := h.push { cls := .type "tuple_iterator", data := .fields #[.ref t1, .int 0 0] }
abbrev zh2 (h : Heap) (t1 t2 : Addr) : Heap := (zh1 h t1).push { cls := .type "tuple_iterator", data := .fields #[.ref t2, .int 0 0] }
abbrev zh3 (h : Heap) (t1 t2 : Addr) : Heap := (zh2 h t1 t2).push { cls := .type "tuple", data := .seq #[.ref h.objs.size, .ref (zh1 h t1).objs.size] }
abbrev zh4 (h : Heap) (t1 t2 : Addr) : Heap := (zh3 h t1 t2).push { cls := .type "tuple", data := .seq #[.none, .none] }
abbrev zh5 (h : Heap) (t1 t2 : Addr) : Heap := (zh4 h t1 t2).push { cls := .type "zip", data := .fields #[.none, .bool false, .bool false, .ref (zh2 h t1 t2).objs.size, .ref (zh3 h t1 t2).objs.size] }
theorem zip_new (t1 t2 : Addr) (us vs : Array Value) : Meets (Builtin.«zip.__new__» ⟨[.type "zip", .ref t1, .ref t2], []⟩) (fun _ R s => s.heap.IsTuple t1 us ∧ s.heap.IsTuple t2 vs ∧
      R (.ok (.ret (.ref (zh4 s.heap t1 t2).objs.size))) { s with heap := zh5 s.heap t1 t2 }) :=
  .of_wp fun prog w A R s h => by
    obtain ⟨hp, g, d, tk, os⟩ := s; obtain ⟨u1, u2, h⟩ := h
    have hsub := sub_zip
    have v1 : Heap.IsTuple (Shared.heap ⟨hp, g, d, tk, os⟩) t1 us := u1
    have v2 : Heap.IsTuple (Shared.heap ⟨zh1 hp t1, g, d, tk, os⟩) t2 vs := Heap.IsTuple.push u2 _
    wp_walk using wpAny_pyIter_tuple v1, wpAny_pyIter_tuple v2
    exact ⟨_, rfl, h⟩
theorem call_zip {prog : Program} {w : World} {A : Around} {E : Value → Shared → Prop} {s : Shared} {t1 t2 : Addr} {us vs : Array Value} {Q : Value → Shared → Prop} (u1 : s.heap.IsTuple t1 us) (u2 : s.heap.IsTuple t2 vs)
    (k : ∀ g, IsZip g (s.heap.objs.size + 4) (s.heap.objs.size + 2) (s.heap.objs.size + 3) .none → IsPair g (s.heap.objs.size + 2) (.ref s.heap.objs.size) (.ref (s.heap.objs.size + 1)) → IsPair g (s.heap.objs.size + 3) .none .none →
      g.IsTupleIter s.heap.objs.size t1 0 → g.IsTupleIter (s.heap.objs.size + 1) t2 0 → g.objs.size = s.heap.objs.size + 5 → (∀ c o, s.heap.get? c = some o → g.get? c = some o) → Q (.ref (s.heap.objs.size + 4)) { s with heap := g }) :
    wpAny (model prog w) A (call (.type "zip") [.ref t1, .ref t2]) Q E s := by
  refine callType_new F.called_zip (by decide) (F.typeCall_zip_2 _ _) (F.newCall_zip_2 _ _) (fun obj => F.args_object_init_3 obj _ _) F.entry_zip_new (zip_new t1 t2 us vs) ⟨u1, u2, ?_⟩
  have n1 : (zh1 s.heap t1).objs.size = s.heap.objs.size + 1 := Heap.size_push ..
  have n2 : (zh2 s.heap t1 t2).objs.size = s.heap.objs.size + 2 := by rw [Heap.size_push, n1]
  have n3 : (zh3 s.heap t1 t2).objs.size = s.heap.objs.size + 3 := by rw [Heap.size_push, n2]
  have n4 : (zh4 s.heap t1 t2).objs.size = s.heap.objs.size + 4 := by rw [Heap.size_push, n3]
  have n5 : (zh5 s.heap t1 t2).objs.size = s.heap.objs.size + 5 := by rw [Heap.size_push, n4]
  have p5 : (zh5 s.heap t1 t2).get? (zh4 s.heap t1 t2).objs.size = some _ := Heap.get?_push_size _ rfl
  have p4 : (zh5 s.heap t1 t2).get? (zh3 s.heap t1 t2).objs.size = some _ := Heap.get?_push_of_some _ (Heap.get?_push_size _ rfl)
  have p3 : (zh5 s.heap t1 t2).get? (zh2 s.heap t1 t2).objs.size = some _ := Heap.get?_push_of_some _ (Heap.get?_push_of_some _ (Heap.get?_push_size _ rfl))
  have p2 : (zh5 s.heap t1 t2).get? (zh1 s.heap t1).objs.size = some _ := Heap.get?_push_of_some _ (Heap.get?_push_of_some _ (Heap.get?_push_of_some _ (Heap.get?_push_size _ rfl)))
  have p1 : (zh5 s.heap t1 t2).get? s.heap.objs.size = some _ := Heap.get?_push_of_some _ (Heap.get?_push_of_some _ (Heap.get?_push_of_some _ (Heap.get?_push_of_some _ (Heap.get?_push_size _ rfl))))
  show _ ∧ _
  rw [n2, n3, n4] at p5
  rw [n1, n2] at p3
  rw [n3] at p4
  rw [n1] at p2
  rw [n4]
  exact ⟨⟨_, p5, rfl⟩, k _ p5 p3 p4 ⟨_, p1, rfl, rfl⟩ ⟨_, p2, rfl, rfl⟩ n5 fun c o q => Heap.get?_push_of_some _ (Heap.get?_push_of_some _ (Heap.get?_push_of_some _ (Heap.get?_push_of_some _ (Heap.get?_push_of_some _ q))))⟩
end ZT
set_option Elab.async false
set_option linter.all false
set_option maxRecDepth 100000
set_option maxHeartbeats 4000000
namespace L2
open PySem PySem.Spec PyProof.Rows

section
variable {X : Cx} {pins : List (Addr × Obj)} {σ : St} {H : Hp} {s : Shared} {h' : Heap} {t' : Nat} {ch : List Addr}
theorem Inv.turnedL (I : Inv X pins σ H s) (k : ∀ b o, b ∉ ch → s.heap.get? b = some o → h'.get? b = some o) (f : ∀ b ∈ ch, FpOk X pins H b) : Inv X pins σ H { s with heap := h', toks := t' } := by
  refine I.step (g' := s.gens) (d' := s.drawn) (ch := ch) (fun b hb => ?_) (fun b o _ _ hc q _ => k b o hc q) (fun b o _ _ hc q _ => ⟨o.slots, k b o hc q⟩) (fun b o _ q n => n)
    (fun b o hc q => ⟨o, k b o hc q⟩) (fun b ys q => q) (fun b o u q => q) (fun b ps q => ⟨#[], by rw [q]; simp⟩) (fun m hm => ?_) (fun b u q => ?_) I.bare
  · have fe := f b hb
    exact ⟨fe.2.2.2.1, fe.2.1, fe.2.2.2.2.1, fe.2.2.2.2.2⟩
  · obtain ⟨o, es, ep, ho, r⟩ := hm
    exact ⟨o, es, ep, k _ o (fun z => (f _ z).2.1 rfl) ho, r⟩
  · refine (I.hok b u q).stay (fun c v hc q' => k c v (fun z => ?_) q') (fun _ q' => q') fun _ _ q' => q'
    have fz := (f c z).1
    rcases hc with e | e
    · rw [e, q] at fz; cases fz
    · rw [e] at fz; cases fz
theorem Inv.turnedLT {xs : List V} {its : List Value} (I : Inv X pins σ H s) (k : ∀ b o, b ∉ ch → s.heap.get? b = some o → h'.get? b = some o) (f : ∀ b ∈ ch, FpOk X pins H b) (hv : Vals xs its) (hz : xs.length ≤ sizeLine)
    (hn : h'.get? s.heap.objs.size = some { cls := .type "tuple", data := .seq its.toArray }) : Inv X pins σ (upd H s.heap.objs.size (.tup xs)) { s with heap := h', toks := t' } := by
  have fr : H s.heap.objs.size = none := I.fresh
  have nel : ∀ b o, s.heap.get? b = some o → b ≠ s.heap.objs.size := fun b o q => Nat.ne_of_lt (Heap.lt_size q)
  refine I.step (g' := s.gens) (d' := s.drawn) (ch := ch) (fun b hb => ?_) (fun b o _ _ hc q _ => k b o hc q) (fun b o _ _ hc q _ => ⟨o.slots, k b o hc q⟩) (fun b o _ q n => by rw [upd_ne (nel b o q)]; exact n)
    (fun b o hc q => ⟨o, k b o hc q⟩) (fun b ys q => by rw [upd_ne (ne_of_none q fr)]; exact q) (fun b o u q => by rw [upd_ne (ne_of_none q fr)]; exact q) (fun b ps q => ⟨#[], by rw [upd_ne (ne_of_none q fr), q]; simp⟩) (fun m hm => ?_) (fun b u q => ?_) I.bare
  · have fe := f b hb
    exact ⟨fe.2.2.2.1, fe.2.1, fe.2.2.2.2.1, fe.2.2.2.2.2⟩
  · obtain ⟨o, es, ep, ho, r⟩ := hm
    exact ⟨o, es, ep, k _ o (fun z => (f _ z).2.1 rfl) ho, r⟩
  · by_cases hb : b = s.heap.objs.size
    · subst hb
      rw [upd_same] at q
      cases q
      exact ⟨hz, its, hv, _, hn, rfl, _, rfl⟩
    · rw [upd_ne hb] at q
      refine (I.hok b u q).stay (fun c v hc q' => k c v (fun z => ?_) q') (fun c q' => by rw [upd_ne (ne_of_none q' fr)]; exact q') fun c ys q' => by rw [upd_ne (ne_of_none q' fr)]; exact q'
      have fz := (f c z).1
      rcases hc with e | e
      · rw [e, q] at fz; cases fz
      · rw [e] at fz; cases fz
end

theorem ne_nat {a b : Nat} (h : a < b ∨ b < a) : @Ne Addr a b := fun e => by
  have e' : @Eq Nat a b := e
  omega
def Itz (K : PySem.W.Frag) (a b : Addr) : It :=
  ⟨fun i H => ∃ xs ys x y, SqT K H a xs ∧ SqT K H b ys ∧ xs[i]? = some x ∧ ys[i]? = some y,
   fun i H v H' => ∃ t x y, v = .ref t ∧ H t = none ∧ H' = upd H t (.tup [x, y]) ∧ (∀ xs, SqT K H a xs → xs[i]? = some x) ∧ ∀ ys, SqT K H b ys → ys[i]? = some y,
   fun i H => ∃ xs, SqT K H a xs ∧ xs.length ≤ i⟩
theorem turn_zip {P : Program} {w : World} {K : PySem.W.Frag} {elts : List Expr} {k1 : Nat} {p1 : Pos} (a b z TI TO i1 i2 : Addr) (D : ZT.Apart z TI TO i1 i2 a b) :
    Turn P w K (.Tuple elts k1 p1) (Itz K a b) [z, TI, TO, i1, i2] z (fun i h => IsZip h z TI TO .none ∧ IsPair h TI (.ref i1) (.ref i2) ∧ (∃ u v, IsPair h TO u v) ∧ h.IsTupleIter i1 a i ∧ h.IsTupleIter i2 b i) where
  mem := by simp
  obj := fun i h st c hc => by
    obtain ⟨z1, z2, ⟨u, v, z3⟩, ⟨o1, e1, c1, d1⟩, ⟨o2, e2, c2, d2⟩⟩ := st
    have hc' : c = z ∨ c = TI ∨ c = TO ∨ c = i1 ∨ c = i2 := by simpa using hc
    rcases hc' with rfl | rfl | rfl | rfl | rfl
    · exact ⟨_, z1, fun v q => by have q' : Data.fields _ = Data.cell v := q; cases q'⟩
    · exact ⟨_, z2, fun v q => by have q' : Data.seq _ _ = Data.cell v := q; cases q'⟩
    · exact ⟨_, z3, fun v q => by have q' : Data.seq _ _ = Data.cell v := q; cases q'⟩
    · exact ⟨o1, e1, fun v q => by rw [d1] at q; cases q⟩
    · exact ⟨o2, e2, fun v q => by rw [d2] at q; cases q⟩
  keep := fun i h h' st k => by
    obtain ⟨z1, z2, ⟨u, v, z3⟩, ⟨o1, e1, r1⟩, ⟨o2, e2, r2⟩⟩ := st
    exact ⟨k z (by simp) _ z1, k TI (by simp) _ z2, ⟨u, v, k TO (by simp) _ z3⟩, ⟨o1, k i1 (by simp) _ e1, r1⟩, ⟨o2, k i2 (by simp) _ e2, r2⟩⟩
  item := by
    intro X hP hw hK hc i pins s σ H E I hf st hg
    subst hP hw hK
    obtain ⟨xs, ys, x, y, ha, hb, hx, hy⟩ := hg
    obtain ⟨z1, z2, ⟨u, v, z3⟩, r1, r2⟩ := st
    obtain ⟨ita, va, pa, _⟩ := I.tuple ha
    obtain ⟨itb, vb, pb, _⟩ := I.tuple hb
    obtain ⟨ux, eux, rx⟩ := va.get hx
    obtain ⟨uy, euy, ry⟩ := vb.get hy
    refine ZT.next_item D z1 z2 z3 r1 r2 (show s.heap.IsTuple a ita.toArray from pa) (show s.heap.IsTuple b itb.toArray from pb) (x := ux) (y := uy) (by simpa using eux) (by simpa using euy) fun g g1 g2 g3 g4 g5 g6 g7 => ?_
    refine ⟨_, rfl, wpAny_letOwnedTupleGo_zip g1 fun g' q1 q2 => ?_⟩
    have q2' : Heap.SameBut z g g' := q2
    have lz : z < s.heap.objs.size := Heap.lt_size z1
    have I1 : Inv X pins σ (upd H s.heap.objs.size (.tup [x, y])) { s with heap := g', toks := s.toks } :=
      I.turnedLT (ch := [z, TO, i1, i2]) (its := [ux, uy]) (fun c o hc q => by
        have hc' : ¬ (c = z ∨ c = TO ∨ c = i1 ∨ c = i2) := by simpa using hc
        exact q2'.extBut c o (fun e => hc' (.inl e)) (g7 c o (fun e => hc' (.inl e)) (fun e => hc' (.inr (.inl e))) (fun e => hc' (.inr (.inr (.inl e)))) (fun e => hc' (.inr (.inr (.inr e)))) q))
        (fun c hc => hf c (by
          have hc' : c = z ∨ c = TO ∨ c = i1 ∨ c = i2 := by simpa using hc
          rcases hc' with rfl | rfl | rfl | rfl <;> simp)) (.cons rx (.cons ry .nil)) (by show 2 ≤ sizeLine; decide) (q2'.extBut _ _ (Nat.ne_of_gt lz) g5)
    obtain ⟨o1, e1, w1⟩ := id g3
    obtain ⟨o2, e2, w2⟩ := id g4
    have old : ∀ c o, s.heap.get? c = some o → c ≠ s.heap.objs.size := fun c o e => Nat.ne_of_lt (Heap.lt_size e)
    refine ⟨.ref s.heap.objs.size, _, I1, rfl, ⟨s.heap.objs.size, x, y, rfl, I.fresh, rfl, fun xs' h' => by rw [I.tuple_inj h' ha]; exact hx, fun ys' h' => by rw [I.tuple_inj h' hb]; exact hy⟩,
      ⟨q1, q2'.extBut _ _ D.a1 (g7 _ _ D.a1 D.b1 D.b2 D.b3 z2), ⟨_, _, q2'.extBut _ _ D.a2 g2⟩, ⟨o1, q2'.extBut _ _ D.a3 e1, w1⟩, ⟨o2, q2'.extBut _ _ D.a4 e2, w2⟩⟩, fun c hc => ?_⟩
    have hc' : c = z ∨ c = TI ∨ c = TO ∨ c = i1 ∨ c = i2 := by simpa using hc
    have hn : c ≠ s.heap.objs.size := by
      obtain ⟨p1, f1, _⟩ := r1
      obtain ⟨p2, f2, _⟩ := r2
      rcases hc' with rfl | rfl | rfl | rfl | rfl
      · exact old _ _ z1
      · exact old _ _ z2
      · exact old _ _ z3
      · exact old _ _ f1
      · exact old _ _ f2
    rw [upd_ne hn]
    exact (hf c hc).1
  done := by
    intro X hP hw hK hc i pins s σ H E I hf st hg
    subst hP hw hK
    obtain ⟨xs, ha, hx⟩ := hg
    obtain ⟨z1, z2, ⟨u, v, z3⟩, r1, r2⟩ := st
    obtain ⟨ita, va, pa, _⟩ := I.tuple ha
    have hl := va.length
    refine ZT.next_end (I.ok.hd hc) D z1 z2 z3 r1 (show s.heap.IsTuple a ita.toArray from pa) (by simp; omega) fun g g7 => ⟨rfl, ?_⟩
    refine I.turnedL (t' := s.toks) (ch := [z, TO, i1, i2]) (fun c o hc q => ?_) fun c hc => hf c ?_
    · have hc' : ¬ (c = z ∨ c = TO ∨ c = i1 ∨ c = i2) := by simpa using hc
      exact g7 c o (fun e => hc' (.inl e)) (fun e => hc' (.inr (.inl e))) (fun e => hc' (.inr (.inr (.inl e)))) (fun e => hc' (.inr (.inr (.inr e)))) q
    · have hc' : c = z ∨ c = TO ∨ c = i1 ∨ c = i2 := by simpa using hc
      rcases hc' with rfl | rfl | rfl | rfl <;> simp
  self := fun A i s Q E st h => wpAny_pyIter_zip st.1 h
theorem boot_zip' : bootBuiltins "zip" = some (.type "zip") := by decide +kernel
end L2
set_option linter.all false
namespace M01
open PySem
/-- a letter or a figure -/
def isW (c : Nat) : Bool := decide (97 ≤ c ∧ c ≤ 122) || decide (65 ≤ c ∧ c ≤ 90) || decide (48 ≤ c ∧ c ≤ 57)
abbrev S := List (List Nat) × List Nat
def fn (st : S) : List (List Nat) := if st.2 = [] then st.1 else st.1 ++ [st.2]
/-- the runs begun in the first part, whole -/
def cmp (st : S) (rest : List Nat) : List (List Nat) := if st.2 = [] then st.1 else st.1 ++ [st.2 ++ rest.takeWhile isW]
/-- other signs made blanks -/
def bl (c : Nat) : Nat := if isW c = true then c else 32
end M01
set_option Elab.async false
set_option linter.all false
set_option maxRecDepth 100000
set_option maxHeartbeats 4000000
namespace L2
open PySem PySem.Spec PyProof.Rows

theorem isPart_of {v : Value} {o : Option Int} (h : IsPart v o) : ∃ q : Option (Int × Tok), v = partValue q ∧ o = q.map (·.1) := by
  cases h with
  | none => exact ⟨none, rfl, rfl⟩
  | int i t => exact ⟨some (i, t), rfl, rfl⟩
def rSlS : V → Option Int → Option Int → Hp → VK → Prop := fun x lo hi H Q => ∃ y : Str, x = .str y ∧ y.length ≤ sizeLine ∧ Q (.str (Txt.slice y lo hi)) H
theorem sl_str {X : Cx} : SlR X rSlS := by
  intro pins s σ H x v vl vu lo hi sl Q I rx hs pl pu h
  obtain ⟨y, rfl, hz, q⟩ := h
  obtain ⟨t, rfl⟩ := rx
  obtain ⟨ql, rfl, rfl⟩ := isPart_of pl
  obtain ⟨qu, rfl, rfl⟩ := isPart_of pu
  refine ⟨"str", _, F.slot_str_getitem.lookup, typeIs_str _ _ _, ?_⟩
  refine wpAny_getItem_str_slice (l := ql) (u := qu) (st := none) hs rfl ?_
  exact post_val_or_str ⟨Nat.le_trans (Txt.slice_le y _ _) hz, fun t' k => ⟨.str _, H, I.tok _, ⟨_, rfl⟩, q⟩⟩
theorem lt_sign (a c : Nat) : decide (([c] : List Nat) < [a]) = decide (c < a) := by
  rw [Bool.eq_iff_iff]
  simp only [decide_eq_true_eq]
  constructor
  · intro h
    cases h with
    | cons h => cases h
    | rel h => exact h
  · intro h
    exact List.Lex.rel h
def rLeS : R2 := fun x y H Q => ∃ a c : Nat, x = .str ⟨#[a]⟩ ∧ y = .str ⟨#[c]⟩ ∧ Q (.bl (decide (a ≤ c))) H
theorem op_leS {X : Cx} : OpR X (compareOp .LtE) rLeS := by
  intro pins s σ H x y v u Q I rx ry h
  obtain ⟨a, c, rfl, rfl, q⟩ := h
  obtain ⟨t, rfl⟩ := rx
  obtain ⟨t', rfl⟩ := ry
  refine PySem.P.le_str ?_
  have e : (!decide (([c] : List Nat) < [a])) = decide (a ≤ c) := by
    rw [lt_sign, Bool.eq_iff_iff]
    simp
  show EP X pins σ Q (.bool (!decide (([c] : List Nat) < [a]))) s
  rw [e]
  exact ⟨.bl _, H, I, rfl, q⟩
theorem chain_sign {i a b c : Nat} {x z : Str} {σ : St} {H : Hp} {Q : VK} (hx : x = ⟨#[a]⟩) (hz : z = ⟨#[b]⟩) (h0 : σ[i]? = some (some (.str ⟨#[c]⟩))) (q : Q (.bl (decide (a ≤ c ∧ c ≤ b))) H) :
    tChain rLeS rLeS (tC (.str x)) (tVar i) (tC (.str z)) σ H Q := by
  subst hx
  subst hz
  refine ⟨_, h0, a, c, rfl, rfl, _, rfl, ?_⟩
  refine ite2 (fun h => ?_) (fun h => ?_)
  · refine ⟨c, b, rfl, rfl, ?_⟩
    have h' : a ≤ c := of_decide_eq_true h
    have e : decide (a ≤ c ∧ c ≤ b) = decide (c ≤ b) := decide_eq_decide.mpr ⟨fun z => z.2, fun z => ⟨h', z⟩⟩
    rw [← e]
    exact q
  · have e : decide (a ≤ c ∧ c ≤ b) = false := decide_eq_false fun z => h (decide_eq_true z.1)
    rw [e] at q
    exact q
end L2
set_option Elab.async false
set_option linter.all false
set_option maxRecDepth 100000
set_option maxHeartbeats 4000000
namespace L2
open PySem PySem.Spec PyProof.Rows

structure Cal (P : Program) (w : World) (K : PySem.W.Frag) (mg : Str → Option Value) (base : Heap) (x : Str) (k : Nat) (ps : List Str) (sp : Sp) : Prop where
  ex : ∃ (f : Addr) (fd : FuncData), FnOk P w K mg base CX0 k f fd ps sp ∧ Binds K fd ps [] ∧ PySem.W.keepIn K (.ref f) = true ∧ mg x = some (.ref f)
structure Has (K : PySem.W.Frag) (mg : Str → Option Value) (x : Str) (st : Stmt) (ps : List Str) : Prop where
  ex : ∃ (f : Addr) (fd : FuncData), Fun K x x st f fd ∧ Binds K fd ps [] ∧ mg x = some (.ref f)
section
variable {P : Program} {w : World} {K : PySem.W.Frag} {mg : Str → Option Value} {base : Heap}
theorem Has.cal {x : Str} {st : Stmt} {ps : List Str} {k : Nat} {sp : Sp} (h : Has K mg x st ps) (ok : ∀ (f : Addr) (fd : FuncData), Fun K x x st f fd → mg x = some (.ref f) → Binds K fd ps [] → FnOk P w K mg base CX0 k f fd ps sp) : Cal P w K mg base x k ps sp := by
  obtain ⟨f, fd, F, b, m⟩ := h.ex
  exact ⟨f, fd, ok f fd F m b, b, F.kp, m⟩
theorem Has.mk' {x : Str} {st : Stmt} {N ps : List Str} {k : Nat} {sp : Sp} (h : Has K mg x st ps) (S : FnScope N ps (defScope st)) (len : ∀ vs H Q E, sp vs H Q E → vs.length = ps.length)
    (hbody : ∀ (f : Addr) (cdv : Value) (A : Around) (outer : List Env) (s : Shared) (H : Hp) (vs : List V) (Q : VK) (E : XK), Room k (A.deeper (envOfC x (defScope st) s.heap.objs.size f cdv)) → sp vs H Q E →
      ∃ t, PSs (cxOf CX0 P w K mg base N x (defScope st) f cdv A outer s H E).nox (defBody st) t ∧ t { nx := fun _ H' => Q .non H', rt := Q } (start N vs) H) : Cal P w K mg base x (k + 1) ps sp :=
  h.cal fun f fd F _ _ => F.ok S len (hbody f)
theorem Cal.mono {x : Str} {j k : Nat} {ps : List Str} {sp : Sp} (C : Cal P w K mg base x j ps sp) (h : j ≤ k) : Cal P w K mg base x k ps sp := by
  obtain ⟨f, fd, F, r⟩ := C.ex
  exact ⟨f, fd, F.mono h, r⟩
end
theorem pe_cal {X : Cx} {x : Str} {k n : Nat} {ps : List Str} {sp : Sp} {e : Expr} {es : List Expr} {t : TA} {p pos : Pos} (C : Cal X.prog X.w X.K X.mg X.base x k ps sp) (hr : Room n X.A) (hk : k ≤ n) (hg : Gl X x) (ha : PA X (e :: es) t)
    (hdb : (x == ("__debug__" : Str)) = false := by decide) (he : starEach (e :: es) X.env = (false, eval e X.env) :: starEach es X.env := by rfl) (hpl : (backTo pos (starEach es X.env)).any (·.1) = false := by rfl) :
    PE X (.Call (.Name x p) (e :: es) [] pos) (tCall sp [] E0 t) := by
  obtain ⟨f, fd, F, b, kp, m⟩ := C.ex
  exact pe_call F (hr.mono hk) hg m kp b .nil pass0 ha hdb he hpl

inductive D where
  | non | bl (b : Bool) | int (i : Int) | str (x : Str) | tup (ds : List D)
mutual
def Den (H : Hp) : V → D → Prop
  | v, .non => v = .non
  | v, .bl b => v = .bl b
  | v, .int i => v = .int i
  | v, .str x => v = .str x
  | v, .tup ds => ∃ (p : Addr) (vs : List V), v = .ref p ∧ H p = some (.tup vs) ∧ DenL H vs ds
def DenL (H : Hp) : List V → List D → Prop
  | [], [] => True
  | v :: vs, d :: ds => Den H v d ∧ DenL H vs ds
  | _, _ => False
end
mutual
theorem Den.same {H H' : Hp} (e : Same H H') : ∀ {d : D} {v : V}, Den H v d → Den H' v d
  | .non, _, h => h
  | .bl _, _, h => h
  | .int _, _, h => h
  | .str _, _, h => h
  | .tup ds, _, h => by
    obtain ⟨p, vs, rfl, hp, hd⟩ := h
    exact ⟨p, vs, rfl, e _ _ hp, DenL.same e hd⟩
theorem DenL.same {H H' : Hp} (e : Same H H') : ∀ {ds : List D} {vs : List V}, DenL H vs ds → DenL H' vs ds
  | [], [], _ => trivial
  | _ :: _, _ :: _, h => ⟨Den.same e h.1, DenL.same e h.2⟩
  | [], _ :: _, h => h.elim
  | _ :: _, [], h => h.elim
end
theorem DenL.len {H : Hp} : ∀ {ds : List D} {vs : List V}, DenL H vs ds → vs.length = ds.length
  | [], [], _ => rfl
  | _ :: ds, _ :: vs, h => by rw [List.length_cons, List.length_cons, DenL.len h.2]
  | [], _ :: _, h => h.elim
  | _ :: _, [], h => h.elim
theorem DenL.at_ {H : Hp} : ∀ {ds : List D} {vs : List V} {i : Nat} {v : V}, DenL H vs ds → vs[i]? = some v → ∃ d, ds[i]? = some d ∧ Den H v d
  | [], [], i, v, _, h => by simp at h
  | d :: ds, _ :: vs, 0, v, h, e => by
    simp at e
    subst e
    exact ⟨d, rfl, h.1⟩
  | _ :: ds, _ :: vs, i + 1, v, h, e => DenL.at_ (i := i) h.2 (by simpa using e)
  | [], _ :: _, _, _, h, _ => h.elim
  | _ :: _, [], _, _, h, _ => h.elim
theorem DenL.strs {H : Hp} : ∀ xs : List Str, DenL H (xs.map V.str) (xs.map D.str)
  | [] => trivial
  | _ :: r => ⟨rfl, DenL.strs r⟩
theorem DenL.snoc {H : Hp} {v : V} {d : D} (hd : Den H v d) : ∀ {ds : List D} {vs : List V}, DenL H vs ds → DenL H (vs ++ [v]) (ds ++ [d])
  | [], [], _ => ⟨hd, trivial⟩
  | _ :: _, _ :: _, h => ⟨h.1, DenL.snoc hd h.2⟩
  | [], _ :: _, h => h.elim
  | _ :: _, [], h => h.elim
/-- at most n tuples deep, none of them too long, no None -/
def Shal : Nat → D → Prop
  | 0, d => d ≠ .non ∧ ∀ ds, d ≠ .tup ds
  | n + 1, d => d ≠ .non ∧ ∀ ds, d = .tup ds → ds.length ≤ 100000 ∧ ∀ e ∈ ds, Shal n e
theorem Shal.up : ∀ {n : Nat} {d : D}, Shal n d → Shal (n + 1) d
  | 0, d, h => ⟨h.1, fun ds e => absurd e (h.2 ds)⟩
  | n + 1, d, h => ⟨h.1, fun ds e => ⟨(h.2 ds e).1, fun x hx => ((h.2 ds e).2 x hx).up⟩⟩
theorem Shal.ne : ∀ {n : Nat} {d : D}, Shal n d → d ≠ .non
  | 0, _, h => h.1
  | _ + 1, _, h => h.1
theorem Has.never {P : Program} {w : World} {K : PySem.W.Frag} {mg : Str → Option Value} {base : Heap} {x : Str} {st : Stmt} {ps : List Str} {sp : Sp} (h : Has K mg x st ps) (no : ∀ vs H Q E, ¬ sp vs H Q E) : Cal P w K mg base x 0 ps sp :=
  h.cal fun f fd F _ _ => ⟨fun vs H Q E z => absurd z (no vs H Q E), fun A outer s H args us vs Q E _ _ _ _ z => absurd z (no vs H Q E)⟩
theorem den_tup {H : Hp} {ds : List D} {v : V} (h : Den H v (.tup ds)) : ∃ (p : Addr) (vs : List V), v = .ref p ∧ H p = some (.tup vs) ∧ DenL H vs ds := h

/-- all but p is as it was -/
def Same2 (p : Addr) (H H' : Hp) : Prop := ∀ c o, H c = some o → c ≠ p → H' c = some o
theorem Same2.trans {p : Addr} {H H1 H2 : Hp} (a : Same2 p H H1) (b : Same2 p H1 H2) : Same2 p H H2 := fun c o e n => b c o (a c o e n) n
theorem Same2.of {p : Addr} {H H1 : Hp} (a : Same H H1) : Same2 p H H1 := fun c o e _ => a c o e
theorem Pot.same {H0 H H' : Hp} {p : Addr} (P : Pot H0 p H) (s : Same H H') : Pot H0 p H' := by
  obtain ⟨a, b, e⟩ := P.at_
  exact ⟨⟨a, b, s _ _ e⟩, fun c o e n => s c o (P.old c o e n)⟩
theorem Pot.trans {H0 H1 H2 : Hp} {p : Addr} (P : Pot H0 p H1) (R : Pot H1 p H2) : Pot H0 p H2 := ⟨R.at_, fun c o e n => R.old c o (P.old c o e n) n⟩
section
variable {X : Cx} {K : PySem.W.Frag} {o e : Expr} {es : List Expr} {to : TE} {t : TA} {name : Str} {apos cpos : Pos} {T id : String} {r : V → List V → Hp → VK → Prop}
end
end L2
set_option Elab.async false
set_option linter.all false
set_option maxRecDepth 100000
set_option maxHeartbeats 4000000
namespace L2
open PySem PySem.Spec PyProof.Rows

section
variable {κ : Type} [DecidableEq κ]
def valV (kvs : List (κ × V)) (k : κ) : Option V := (kvs.find? fun kv => decide (kv.1 = k)).map (·.2)
/-- in its place, or at the end -/
def putK (kvs : List (κ × V)) (k : κ) (v : V) : List (κ × V) :=
  if (kvs.any fun kv => decide (kv.1 = k)) = true then kvs.map (fun kv => if kv.1 = k then (kv.1, v) else kv) else kvs ++ [(k, v)]
def dropK (kvs : List (κ × V)) (k : κ) : List (κ × V) := kvs.filter fun kv => decide (kv.1 ≠ k)

theorem valV_pos {p : κ × V} {r : List (κ × V)} {k : κ} (e : p.1 = k) : valV (p :: r) k = some p.2 := by simp [valV, List.find?_cons, e]
theorem valV_neg {p : κ × V} {r : List (κ × V)} {k : κ} (e : ¬ p.1 = k) : valV (p :: r) k = valV r k := by simp [valV, List.find?_cons, e]
theorem valV_any (k : κ) : ∀ kvs : List (κ × V), (kvs.any fun kv => decide (kv.1 = k)) = (valV kvs k).isSome
  | [] => rfl
  | p :: r => by
    rw [List.any_cons]
    by_cases e : p.1 = k
    · simp only [valV_pos e, decide_eq_true e, Bool.true_or, Option.isSome_some]
    · rw [valV_neg e, decide_eq_false e, Bool.false_or]; exact valV_any k r
theorem length_putK (kvs : List (κ × V)) (k : κ) (v : V) : (putK kvs k v).length ≤ kvs.length + 1 := by
  unfold putK
  split
  · rw [List.length_map]; omega
  · rw [List.length_append, List.length_cons, List.length_nil]; omega
theorem RelO.isSome_eq {o : Option V} {u : Option Value} (r : RelO o u) : o.isSome = u.isSome := by
  cases o with
  | none => cases u with
    | none => rfl
    | some _ => exact (show False from r).elim
  | some _ => cases u with
    | none => exact (show False from r).elim
    | some _ => rfl
theorem RelO.getD {o : Option V} {u : Option Value} {d : V} {d' : Value} (r : RelO o u) (rd : RelV d d') : RelV (o.getD d) (u.getD d') := by
  cases o with
  | none => cases u with
    | none => exact rd
    | some _ => exact (show False from r).elim
  | some _ => cases u with
    | none => exact (show False from r).elim
    | some _ => exact r

/-- raw tables of the same keys -/
theorem KV.val {kvs : List (κ × V)} {vs : List (κ × Value)} (r : KV kvs vs) (k : κ) : RelO (valV kvs k) (valueAt vs k) := by
  unfold KV at r
  induction r with
  | nil => exact True.intro
  | @cons p q ps qs h t ih =>
    obtain ⟨h1, h2⟩ := h
    by_cases e : p.1 = k
    · have e' : q.1 = k := h1.symm.trans e
      have b : valueAt (q :: qs) k = some q.2 := by simp [valueAt, List.find?_cons, e']
      rw [valV_pos e, b]; exact h2
    · have e' : ¬ q.1 = k := fun z => e (h1.trans z)
      have b : valueAt (q :: qs) k = valueAt qs k := by simp [valueAt, List.find?_cons, e']
      rw [valV_neg e, b]; exact ih
theorem KV.any {kvs : List (κ × V)} {vs : List (κ × Value)} (r : KV kvs vs) (k : κ) : (kvs.any fun kv => decide (kv.1 = k)) = vs.any fun kv => decide (kv.1 = k) := by
  unfold KV at r
  induction r with
  | nil => rfl
  | cons h t ih => rw [List.any_cons, List.any_cons, ih, h.1]
theorem KV.repl {kvs : List (κ × V)} {vs : List (κ × Value)} (r : KV kvs vs) (k : κ) {y : V} {u : Value} (ry : RelV y u) :
    KV (kvs.map fun kv => if kv.1 = k then (kv.1, y) else kv) (vs.map fun kv => if kv.1 = k then (kv.1, u) else kv) := by
  unfold KV at r ⊢
  induction r with
  | nil => exact .nil
  | @cons p q ps qs h t ih =>
    rw [List.map_cons, List.map_cons]
    refine .cons ?_ ih
    obtain ⟨h1, h2⟩ := h
    by_cases e : p.1 = k
    · rw [if_pos e, if_pos (h1.symm.trans e)]; exact ⟨h1, ry⟩
    · rw [if_neg e, if_neg (fun z => e (h1.trans z))]; exact ⟨h1, h2⟩
theorem KV.put {kvs : List (κ × V)} {vs : List (κ × Value)} (r : KV kvs vs) (k : κ) {y : V} {u : Value} (ry : RelV y u) : KV (putK kvs k y) (stored vs k u) := by
  unfold putK stored
  rw [r.any k]
  by_cases e : (vs.any fun kv => decide (kv.1 = k)) = true
  · rw [if_pos e, if_pos e]; exact r.repl k ry
  · rw [if_neg e, if_neg e]; exact Paired.snoc r ⟨rfl, ry⟩
theorem KV.drop {kvs : List (κ × V)} {vs : List (κ × Value)} (r : KV kvs vs) (k : κ) : KV (dropK kvs k) (without vs k) := by
  unfold KV at r ⊢
  unfold dropK without
  induction r with
  | nil => exact .nil
  | @cons p q ps qs h t ih =>
    obtain ⟨h1, h2⟩ := h
    rw [List.filter_cons, List.filter_cons]
    by_cases e : p.1 = k
    · have a : ¬ decide (p.1 ≠ k) = true := by simp [e]
      have b : ¬ decide (q.1 ≠ k) = true := by simp [h1.symm.trans e]
      rw [if_neg a, if_neg b]; exact ih
    · have e' : ¬ q.1 = k := fun z => e (h1.trans z)
      have a : decide (p.1 ≠ k) = true := by simp [e]
      have b : decide (q.1 ≠ k) = true := by simp [e']
      rw [if_pos a, if_pos b]; exact .cons ⟨h1, h2⟩ ih
theorem KV.keys {kvs : List (κ × V)} {vs : List (κ × Value)} (r : KV kvs vs) : kvs.map (·.1) = vs.map (·.1) := by
  unfold KV at r
  induction r with
  | nil => rfl
  | cons h t ih => rw [List.map_cons, List.map_cons, ih, h.1]
theorem KV.length {kvs : List (κ × V)} {vs : List (κ × Value)} (r : KV kvs vs) : kvs.length = vs.length := Paired.length r
end


theorem kV_is {P : Program} {w : World} {k : Key} {u : Value} (r : RelV (kV k) u) : (mixKind P w).is k u = true := by
  cases k with
  | inl i => obtain ⟨t, e⟩ := (show ∃ t, u = Value.int i t from r); subst e; exact mixKind_int P w i t
  | inr x => obtain ⟨t, e⟩ := (show ∃ t, u = Value.str x t from r); subst e; exact mixKind_str P w x t
theorem items_are {P : Program} {w : World} : ∀ {ks : List Key} {us : List Value}, Vals (ks.map kV) us → ItemsAre (mixKind P w) ks us
  | [], _, r => by rw [List.map_nil] at r; cases r; exact .nil
  | k :: ks, _, r => by
    rw [List.map_cons] at r
    cases r with
    | cons h t => exact .cons (kV_is h) (items_are t)

/-- raw entries of a dict with tuple keys -/
abbrev KT (H : Hp) : List (List Key × V) → List (List Key × Addr × Value) → Prop := Paired fun p q => p.1 = q.1 ∧ H q.2.1 = some (.tup (p.1.map kV)) ∧ RelV p.2 q.2.2
theorem KT.val {H : Hp} {kvs : List (List Key × V)} {xs : List (List Key × Addr × Value)} (r : KT H kvs xs) (k : List Key) : RelO (valV kvs k) ((atKey xs k).map (·.2)) := by
  induction r with
  | nil => exact True.intro
  | @cons p q ps qs h t ih =>
    obtain ⟨h1, _, h2⟩ := h
    by_cases e : p.1 = k
    · have e' : q.1 = k := h1.symm.trans e
      have b : atKey (q :: qs) k = some q.2 := by simp [atKey, List.find?_cons, e']
      rw [valV_pos e, b]; exact h2
    · have e' : ¬ q.1 = k := fun z => e (h1.trans z)
      have b : atKey (q :: qs) k = atKey qs k := by simp [atKey, List.find?_cons, e']
      rw [valV_neg e, b]; exact ih
theorem KT.repl {H : Hp} {kvs : List (List Key × V)} {xs : List (List Key × Addr × Value)} (r : KT H kvs xs) (k : List Key) {y : V} {u : Value} (ry : RelV y u) :
    KT H (kvs.map fun kv => if kv.1 = k then (kv.1, y) else kv) (xs.map (putAt k u)) := by
  induction r with
  | nil => exact .nil
  | @cons p q ps qs h t ih =>
    rw [List.map_cons, List.map_cons]
    refine .cons ?_ ih
    obtain ⟨h1, h2, h3⟩ := h
    unfold putAt
    by_cases e : p.1 = k
    · rw [if_pos e, if_pos (h1.symm.trans e)]; exact ⟨h1, h2, ry⟩
    · rw [if_neg e, if_neg (fun z => e (h1.trans z))]; exact ⟨h1, h2, h3⟩
theorem KT.put {H : Hp} {kvs : List (List Key × V)} {xs : List (List Key × Addr × Value)} (r : KT H kvs xs) (k : List Key) {b : Addr} {y : V} {u : Value} (hb : H b = some (.tup (k.map kV))) (ry : RelV y u) :
    KT H (putK kvs k y) (storedH xs k b u) := by
  have e : (kvs.any fun kv => decide (kv.1 = k)) = (atKey xs k).isSome := by
    rw [valV_any, (r.val k).isSome_eq, Option.isSome_map]
  unfold putK storedH
  rw [e]
  by_cases q : (atKey xs k).isSome = true
  · rw [if_pos q, if_pos q]; exact r.repl k ry
  · rw [if_neg q, if_neg q]; exact Paired.snoc r ⟨rfl, hb, ry⟩
theorem KT.keeps {H H' : Hp} {kvs : List (List Key × V)} {xs : List (List Key × Addr × Value)} (r : KT H kvs xs) (ht : ∀ b ys, H b = some (.tup ys) → H' b = some (.tup ys)) : KT H' kvs xs :=
  Paired.mapP r fun _ _ z => ⟨z.1, ht _ _ z.2.1, z.2.2⟩

section
variable {P : Program} {w : World} {H : Hp} {h : Heap} {a : Addr}
theorem rd_of {u : HO} (ok : HOk P w H h) (e : Rd H a u) : ObjOk P w H h a u := e.ok ok
theorem dk_rd {kvs : List (Key × V)} (ok : HOk P w H h) (e : Rd H a (.dK kvs)) : kvs.length ≤ sizeLine ∧ (a == sysModules) = false ∧ ∃ vs, KV kvs vs ∧ h.DictOf (mixKind P w) a vs :=
  show ObjOk P w H h a (.dK kvs) from rd_of ok e
theorem dk_of {kvs : List (Key × V)} (ok : HOk P w H h) (e : H a = some (.dK kvs)) : kvs.length ≤ sizeLine ∧ (a == sysModules) = false ∧ ∃ vs, KV kvs vs ∧ h.DictOf (mixKind P w) a vs := dk_rd ok (.inl e)
/-- a tracked tuple of ints and texts is a key -/
theorem key_of {ks : List Key} (ok : HOk P w H h) (e : H a = some (.tup (ks.map kV))) : (tupleKind (mixKind P w)).is h ks a := by
  obtain ⟨_, its, r, o, h1, h2, n, h3⟩ := (show ObjOk P w H h a (.tup (ks.map kV)) from ok a _ e)
  exact ⟨o, its.toArray, n, h1, h2, h3, by simpa using items_are r⟩
theorem dt_rd {kvs : List (List Key × V)} (ok : HOk P w H h) (e : Rd H a (.dT kvs)) : kvs.length ≤ sizeLine ∧ (a == sysModules) = false ∧
    ∃ xs, KT H kvs xs ∧ h.DictOfH (tupleKind (mixKind P w)) a xs := by
  obtain ⟨z, y, xs, r, o, es, ep, h1, h2, h3, h4, h5⟩ := (show ObjOk P w H h a (.dT kvs) from rd_of ok e)
  refine ⟨z, y, xs, r, o, es, ep, h1, h2, h3, h4, fun x hx => ?_, h5⟩
  have all : ∀ {l : List (List Key × V)} {m : List (List Key × Addr × Value)}, KT H l m → ∀ x ∈ m, (tupleKind (mixKind P w)).is h x.1 x.2.1 := by
    intro l m q
    induction q with
    | nil => intro x hx; exact nomatch hx
    | @cons p q ps qs hq t ih =>
      intro x hx
      rcases List.mem_cons.mp hx with e | hx
      · subst e
        exact key_of ok (by rw [← hq.1]; exact hq.2.1)
      · exact ih x hx
  exact all r x hx
theorem dt_of {kvs : List (List Key × V)} (ok : HOk P w H h) (e : H a = some (.dT kvs)) : kvs.length ≤ sizeLine ∧ (a == sysModules) = false ∧
    ∃ xs, KT H kvs xs ∧ h.DictOfH (tupleKind (mixKind P w)) a xs := dt_rd ok (.inl e)
end

/-- what the dict at a holds at the key y -/
def DGet (H : Hp) (a : Addr) (y : V) (r : Option V) : Prop :=
  (∃ kvs k, Rd H a (.dK kvs) ∧ y = kV k ∧ r = valV kvs k) ∨ ∃ kvs k b, Rd H a (.dT kvs) ∧ y = .ref b ∧ H b = some (.tup (k.map kV)) ∧ r = valV kvs k
/-- the heap behind a[y] = v -/
def DPut (H : Hp) (a : Addr) (y v : V) (H' : Hp) : Prop :=
  (∃ kvs k, H a = some (.dK kvs) ∧ y = kV k ∧ kvs.length < sizeLine ∧ H' = upd H a (.dK (putK kvs k v))) ∨
  ∃ kvs k b, H a = some (.dT kvs) ∧ y = .ref b ∧ H b = some (.tup (k.map kV)) ∧ kvs.length < sizeLine ∧ H' = upd H a (.dT (putK kvs k v))
theorem DGet.k {H : Hp} {a : Addr} {kvs : List (Key × V)} {k : Key} (e : H a = some (.dK kvs)) : DGet H a (kV k) (valV kvs k) := .inl ⟨kvs, k, .inl e, rfl, rfl⟩
theorem DGet.t {H : Hp} {a b : Addr} {kvs : List (List Key × V)} {k : List Key} (e : H a = some (.dT kvs)) (eb : H b = some (.tup (k.map kV))) : DGet H a (.ref b) (valV kvs k) := .inr ⟨kvs, k, b, .inl e, rfl, eb, rfl⟩
theorem DPut.k {H : Hp} {a : Addr} {kvs : List (Key × V)} {k : Key} {v : V} (e : H a = some (.dK kvs)) (hl : kvs.length < sizeLine) : DPut H a (kV k) v (upd H a (.dK (putK kvs k v))) := .inl ⟨kvs, k, e, rfl, hl, rfl⟩
theorem DPut.t {H : Hp} {a b : Addr} {kvs : List (List Key × V)} {k : List Key} {v : V} (e : H a = some (.dT kvs)) (eb : H b = some (.tup (k.map kV))) (hl : kvs.length < sizeLine) :
    DPut H a (.ref b) v (upd H a (.dT (putK kvs k v))) := .inr ⟨kvs, k, b, e, rfl, eb, hl, rfl⟩


section
variable {X : Cx} {pins : List (Addr × Obj)} {σ : St} {H : Hp} {s : Shared} {a : Addr} {y v : V} {u r : Value} {o : Option V} {A : Around} {E : Value → Shared → Prop}

theorem Inv.big (I : Inv X pins σ H s) : sysModules < s.heap.objs.size := by
  have h : mainGlobals < s.heap.objs.size := (I.mod.glob.keeps I.bk).lt
  exact Nat.lt_trans (by decide) h

/-- d[y], there -/
theorem d_getItem {Q : Value → Shared → Prop} (hu : A.units + 1 < cLine) (I : Inv X pins σ H s) (g : DGet H a y (some v)) (ry : RelV y u) (h : ∀ w' s', Inv X pins σ H s' → RelV v w' → Q w' s') :
    wpAny (model X.prog X.w) A (getItem (.ref a) u) Q E s := by
  rcases g with ⟨kvs, k, e, ey, l⟩ | ⟨kvs, k, b, e, ey, eb, l⟩
  · subst ey
    obtain ⟨z, hd, vs, rel, dd⟩ := dk_rd I.hok e
    obtain ⟨w', hw, rw'⟩ := RelO.some_of (v := v) (o := valueAt vs k) (by rw [l]; exact rel.val k)
    exact wpAny_getItem_of (kV_is ry) dd.mapOf hw (h w' _ (I.tok _) rw')
  · subst ey
    cases (show u = Value.ref b from ry)
    obtain ⟨z, hd, xs, rel, dd⟩ := dt_rd I.hok e
    obtain ⟨w', hw, rw'⟩ := RelO.some_of (v := v) (o := (atKey xs k).map (·.2)) (by rw [l]; exact rel.val k)
    obtain ⟨p, hp, hp2⟩ := Option.map_eq_some_iff.mp hw
    refine wpAny_getItem_heap (tupleKind_room_in1 hu) (key_of I.hok eb) dd hp ?_
    rw [hp2]
    exact h w' _ (I.tok _) rw'
/-- a dict's object is replaced -/
theorem d_write {h' : Heap} {t' : Nat} {ob : HO} (I : Inv X pins σ H s) (mu : Mut (H a)) (hs : Heap.SameBut a s.heap h') (he : ∃ q, h'.get? a = some q) (new : ObjOk X.prog X.w (upd H a ob) h' a ob) :
    Inv X pins σ (upd H a ob) { s with heap := h', toks := t' } :=
  I.write (x := a) (e := a) mu (.inl rfl) (fun b q hb z => (hs.2 b hb).trans z) he new
theorem dk_new {P : Program} {w : World} {H' : Hp} {h' : Heap} {kvs : List (Key × V)} {vs : List (Key × Value)} (z : kvs.length ≤ sizeLine) (hd : (a == sysModules) = false) (rel : KV kvs vs) (dd : h'.DictOf (mixKind P w) a vs) :
    ObjOk P w H' h' a (.dK kvs) := ⟨z, hd, vs, rel, dd⟩
/-- d[y] = v -/
theorem d_setItem {H' : Hp} {Q : Unit → Shared → Prop} (hu : A.units + 1 < cLine) (I : Inv X pins σ H s) (g : DPut H a y v H') (ry : RelV y u) (rv : RelV v r) (h : ∀ s', Inv X pins σ H' s' → Q () s') :
    wpAny (model X.prog X.w) A (setItem (.ref a) u r) Q E s := by
  rcases g with ⟨kvs, k, e, ey, l, eH⟩ | ⟨kvs, k, b, e, ey, eb, l, eH⟩
  · subst ey eH
    obtain ⟨z, hd, vs, rel, dd⟩ := dk_of I.hok e
    have hz : vs.length ≤ sizeLine := by rw [← rel.length]; exact z
    have hl : (putK kvs k v).length ≤ sizeLine := by have := length_putK kvs k v; omega
    refine wpAny_setItem_pairs (hsz := hz) (kV_is ry) dd fun h' dd' hs => h _ ?_
    have he : ∃ q, h'.get? a = some q := let ⟨q, _, _, hq, _⟩ := dd'; ⟨q, hq⟩
    exact d_write I (by rw [e]; exact True.intro) hs he (dk_new hl hd (rel.put k rv) dd')
  · subst ey eH
    cases (show u = Value.ref b from ry)
    obtain ⟨z, hd, xs, rel, dd⟩ := dt_of I.hok e
    have hz : xs.length ≤ sizeLine := by rw [← Paired.length rel]; exact z
    have hl : (putK kvs k v).length ≤ sizeLine := by have := length_putK kvs k v; omega
    refine wpAny_setItem_heap (hsz := hz) (tupleKind_room_in1 hu) (key_of I.hok eb) dd fun h' dd' hs => h _ ?_
    obtain ⟨q, es, ep, hq, h2, h3, h4, _, h5⟩ := dd'
    refine d_write I (by rw [e]; exact True.intro) hs ⟨q, hq⟩ ⟨hl, hd, _, (rel.put k eb rv).keeps fun c ys ec => ?_, q, es, ep, hq, h2, h3, h4, h5⟩
    rw [upd_ne (ne_of ec e (fun z => nomatch z))]
    exact ec
end

section
variable {X : Cx} {pins : List (Addr × Obj)} {σ : St} {H : Hp} {s : Shared} {a : Addr} {kvs : List (Key × V)} {k : Key} {u : Value} {A : Around} {E : Value → Shared → Prop}
end


/-- the element of a subscription, not a slice -/
def NoSl (i : Expr) : Prop := ∀ ov iv, subscripted i false ov iv = operate [ov, iv] (getItem ov iv)
theorem subD_of {prog : Program} {w : World} {A : Around} {E : Value → Shared → Prop} {s : Shared} {env : Env} {value slice : Expr} {pos : Pos} {T id : String} {Q : Value → Shared → Prop}
    (hl : typeLookup (.type T) "__getitem__" = pure (some (.builtin id))) (hs : NoSl slice)
    (h : wpAny (model prog w) A (eval value env) (fun o s₁ => wpAny (model prog w) A (eval slice env) (fun i s₂ => s₂.TypeIs o T ∧ wpAny (model prog w) A (getItem o i) Q E s₂) E s₁) E s) :
    wpAny (model prog w) A (eval (.Subscript value slice pos) env) Q E s := by
  refine Subscript_ (wpAny_mono h (fun o s₁ h₁ => wpAny_mono h₁ (fun i s₂ h₂ => ?_) fun _ _ x => x) fun _ _ x => x)
  obtain ⟨hT, h₂⟩ := h₂
  unfold subscriptTail
  refine wpAny_bind ?_
  rw [getitemInPython_of_ne hT.not_modules]
  refine wpAny_bind (wpAny_specialOf hT hl ?_)
  have fin : wpAny (model prog w) A (subscripted slice false o i) (fun r s₃ => wpAny (model prog w) A (letTemporaryGo value o r >>= fun _ => pure r) Q E s₃) E s₂ := by
    rw [hs o i]
    exact wpAny_operating (wpAny_mono h₂ (fun r s₃ h₃ => wpAny_bind (wpAny_letTemporaryGo (wpAny_pure h₃))) fun _ _ x => x)
  first
    | exact wpAny_pure (wpAny_bind fin)
    | exact wpAny_bind (wpAny_pure (wpAny_bind fin))
    | exact wpAny_bind fin

theorem dict_typeIs {X : Cx} {pins : List (Addr × Obj)} {σ : St} {H : Hp} {s : Shared} {a : Addr} {y : V} {o : Option V} (I : Inv X pins σ H s) (g : DGet H a y o) : s.TypeIs (.ref a) "dict" := by
  rcases g with ⟨kvs, k, e, _, _⟩ | ⟨kvs, k, b, e, _, _, _⟩
  · obtain ⟨_, _, vs, _, dd⟩ := dk_rd I.hok e
    exact dd.typeIs
  · obtain ⟨_, _, xs, _, dd⟩ := dt_rd I.hok e
    exact dd.typeIs
/-- d[y] -/
def tDGet (td ty : TE) : TE := fun σ H Q => td σ H fun x H1 => ty σ H1 fun y H2 => ∃ a v, x = .ref a ∧ DGet H2 a y (some v) ∧ Q v H2
/-- d[y] = v -/
def sDPut (td ty tv : TE) : TS := fun D σ H => tv σ H fun v H1 => td σ H1 fun x H2 => ty σ H2 fun y H3 => ∃ a H4, x = .ref a ∧ DPut H3 a y v H4 ∧ D.nx σ H4
section
variable {X : Cx} {o i e value : Expr} {pos pos' tpos : Pos} {td ty tv : TE}
theorem pe_dget (hu : X.A.units + 1 < cLine) (ho : PE X o td) (hi : PE X i ty) (hs : NoSl i) : PE X (.Subscript o i pos) (tDGet td ty) := by
  intro pins s σ H Q I h
  refine subD_of PySem.F.slot_dict_getitem.lookup hs (thn (ho pins s σ H _ I h) fun u s1 ⟨x, H1, I1, rx, q1⟩ => thn (hi pins s1 σ H1 _ I1 q1) fun iv s2 ⟨y, H2, I2, ry, a, v, ex, g, q2⟩ => ?_)
  subst ex
  obtain rfl : u = Value.ref a := rx
  exact ⟨dict_typeIs I2 g, d_getItem hu I2 g ry fun w' s3 I3 rw' => ⟨v, H2, I3, rw', q2⟩⟩
theorem ps_dput (hu : X.A.units + 1 < cLine) (ho : PE X o td) (hi : PE X i ty) (hv : PE X value tv) (hs : swapsWith value (some (.Subscript o i pos')) pos.line X.env = pure false) :
    PS X (.Assign [.Subscript o i pos'] value pos) (sDPut td ty tv) := by
  intro pins s σ H D I h
  refine wpAny_Assign_Subscript (thn (hv pins s σ H _ I h) fun r s1 ⟨v, H1, I1, rv, q1⟩ => thn (ho pins s1 σ H1 _ I1 q1) fun u s2 ⟨x, H2, I2, rx, q2⟩ => thn (hi pins s2 σ H2 _ I2 q2) fun iv s3 ⟨y, H3, I3, ry, a, H4, ex, g, q3⟩ => ?_) hs
  subst ex
  obtain rfl : u = Value.ref a := rx
  exact d_setItem hu I3 g ry rv fun s4 I4 => ⟨σ, H4, I4, q3⟩
end


theorem dk_empty {P : Program} {w : World} {H : Hp} (h : Heap) (hb : sysModules < h.objs.size) : ObjOk P w H (h.push { cls := .type "dict", data := .dict #[] }) h.objs.size (.dK []) :=
  ⟨Nat.zero_le _, beq_eq_false_iff_ne.mpr (Ne.symm (Nat.ne_of_lt hb)), [], .nil, Heap.DictOf.new h⟩
/-- {}, to be a dict of the kind that is wanted -/
def tDNewK : TE := fun _ H Q => ∀ p, H p = none → Q (.ref p) (upd H p (.dK []))
section
variable {X : Cx} {pos : Pos}
theorem pe_dnewK : PE X (.Dict [] [] pos) tDNewK := fun pins s σ H Q I h =>
  wpAny_Dict_empty ⟨.ref s.heap.objs.size, _, I.laid (a := s.heap.objs.size) (o := .dK []) (t' := s.toks) (fun _ _ q => Heap.get?_push_of_some _ q) (Nat.le_refl _) (dk_empty s.heap I.big), rfl, h _ (I.hok.fresh (Nat.le_refl _))⟩
end

/-- the pairs of a display, from the left -/
def tPairs : List (TE × TE) → St → Hp → (List (V × V) → Hp → Prop) → Prop
  | [], _, H, Q => Q [] H
  | (tk, tv) :: r, σ, H, Q => tk σ H fun x H1 => tv σ H1 fun y H2 => tPairs r σ H2 fun ps H3 => Q ((x, y) :: ps) H3
abbrev VV : List (V × V) → List (Value × Value) → Prop := Paired fun p q => RelV p.1 q.1 ∧ RelV p.2 q.2
def PPs (X : Cx) (pos : Pos) (keys : List (Option Expr)) (values : List Expr) (trs : List (TE × TE)) : Prop :=
  ∀ (pins : List (Addr × Obj)) (s : Shared) (σ : St) (H : Hp) (Q : List (V × V) → Hp → Prop), Inv X pins σ H s → tPairs trs σ H Q →
    wpAny (model X.prog X.w) X.A (evalPairs (pairTrees keys values X.env pos)) (fun vs s' => ∃ ps H', Inv X pins σ H' s' ∧ VV ps vs ∧ Q ps H') X.xe s
theorem pps_nil {X : Cx} {pos : Pos} : PPs X pos [] [] [] := fun pins s σ H Q I h => pairTrees_nil_walk ⟨[], H, I, .nil, h⟩
theorem pps_cons {X : Cx} {pos : Pos} {k v : Expr} {ks : List (Option Expr)} {vs : List Expr} {tk tv : TE} {trs : List (TE × TE)} (hk : PE X k tk) (hv : PE X v tv) (hr : PPs X pos ks vs trs) :
    PPs X pos (some k :: ks) (v :: vs) ((tk, tv) :: trs) := fun pins s σ H Q I h =>
  pairTrees_cons_walk (thn (hk pins s σ H _ I h) fun u s1 ⟨x, H1, I1, rx, q1⟩ => thn (hv pins s1 σ H1 _ I1 q1) fun w2 s2 ⟨y, H2, I2, ry, q2⟩ =>
    thn (hr pins s2 σ H2 _ I2 q2) fun ws s3 ⟨ps, H3, I3, rel, q3⟩ => ⟨(x, y) :: ps, H3, I3, .cons ⟨rx, ry⟩ rel, q3⟩)

def mergeK (kvs more : List (Key × V)) : List (Key × V) := more.foldl (fun acc kv => putK acc kv.1 kv.2) kvs
theorem KV.merge : ∀ {more : List (Key × V)} {rs : List (Key × Value)} {kvs : List (Key × V)} {vs : List (Key × Value)}, KV more rs → KV kvs vs → KV (mergeK kvs more) (merged vs rs) := by
  intro more rs kvs vs r
  unfold KV at r
  induction r generalizing kvs vs with
  | nil => intro q; exact q
  | @cons p q ps qs h t ih =>
    intro r0
    have e : KV (putK kvs p.1 p.2) (stored vs q.1 q.2) := by
      have := r0.put p.1 h.2
      rw [← h.1]; exact this
    exact ih e
theorem length_mergeK : ∀ (more kvs : List (Key × V)), (mergeK kvs more).length ≤ kvs.length + more.length
  | [], kvs => by show kvs.length ≤ kvs.length + 0; omega
  | p :: r, kvs => by
    have h1 := length_mergeK r (putK kvs p.1 p.2)
    have h2 := length_putK kvs p.1 p.2
    show (mergeK (putK kvs p.1 p.2) r).length ≤ _
    rw [List.length_cons]; omega
theorem carries_of {P : Program} {w : World} : ∀ {kvs : List (Key × V)} {ws : List (Value × Value)}, VV (kvs.map fun kv => (kV kv.1, kv.2)) ws → ∃ rs, Carries (mixKind P w) ws rs ∧ KV kvs rs
  | [], _, r => by rw [List.map_nil] at r; cases r; exact ⟨[], True.intro, .nil⟩
  | p :: kvs, _, r => by
    rw [List.map_cons] at r
    cases r with
    | @cons a b as bs h t =>
      obtain ⟨rs, c, q⟩ := carries_of (P := P) (w := w) t
      obtain ⟨b1, b2⟩ := b
      exact ⟨(p.1, b2) :: rs, ⟨kV_is h.1, rfl, c⟩, .cons ⟨rfl, h.2⟩ q⟩
/-- {k: v, ..} with keys ints and texts; the new dict stands empty while the pairs are made -/
def tDisp (trs : List (TE × TE)) : TE := fun σ H Q => ∀ p, H p = none → tPairs trs σ (upd H p (.dK [])) fun ps H2 => H2 p = some (.dK []) ∧ ∃ kvs : List (Key × V), ps = kvs.map (fun kv => (kV kv.1, kv.2)) ∧ kvs.length ≤ 15 ∧ Q (.ref p) (upd H2 p (.dK (mergeK [] kvs)))
theorem pe_disp {X : Cx} {pos : Pos} {keys : List (Option Expr)} {values : List Expr} {trs : List (TE × TE)} (h : PPs X pos keys values trs) (hall : keys.all (·.isSome) = true) (hl : keys.length = values.length) (h0 : keys ≠ [])
    (h15 : keys.length ≤ 15) : PE X (.Dict keys values pos) (tDisp trs) := by
  intro pins s σ H Q I q
  have hn := I.hok.fresh (Nat.le_refl s.heap.objs.size)
  have I1 := I.laid (a := s.heap.objs.size) (o := .dK []) (h' := s.heap.push { cls := .type "dict", data := .dict #[] }) (t' := s.toks) (fun _ _ q => Heap.get?_push_of_some _ q) (Nat.le_refl _) (dk_empty s.heap I.big)
  refine wpAny_Dict_walk (knd := mixKind X.prog X.w) hall hl h0 h15 (thn (h pins _ σ _ _ I1 (q _ hn)) fun ws s2 ⟨ps, H2, I2, rel, e, kvs, ep, lk, q2⟩ => ?_)
  subst ep
  obtain ⟨rs, c, rk⟩ := carries_of (P := X.prog) (w := X.w) rel
  obtain ⟨z, hd, vs0, r0, dd⟩ := dk_of I2.hok e
  cases r0
  refine ⟨rs, c, dd, fun h' dd' hs => ⟨.ref s.heap.objs.size, _, ?_, rfl, q2⟩⟩
  have hz : (mergeK [] kvs).length ≤ sizeLine := by
    have h1 := length_mergeK kvs []
    rw [List.length_nil] at h1
    rw [sizeLine_eq]; omega
  have he : ∃ q, h'.get? s.heap.objs.size = some q := let ⟨q, _, _, hq, _⟩ := dd'; ⟨q, hq⟩
  exact d_write I2 (by rw [e]; exact True.intro) hs he (dk_new hz hd (rk.merge .nil) dd')


/-- a method call o.m(e) of a built-in, with one argument: what must be seen of the text -/
structure M1 (X : Cx) (o : Expr) (m : Str) (apos : Pos) (e : Expr) (cpos : Pos) : Prop where
  base : attributeBase o m X.env (eval o X.env) = eval o X.env
  few : ((backTo cpos (starEach [e] X.env)).all (fun x => !x.1) && (backToKw cpos (keywordEach [] X.env)).all (fun x => x.1.isSome)
    && decide (([e] : List Expr).length + ([] : List Keyword).length + (if ([] : List Keyword).isEmpty then 0 else 1) < 30)) = true
  line : (apos.endLine == cpos.line) = true
  trees : backTo cpos (starEach [e] X.env) = [(false, eval e X.env)]
structure M2 (X : Cx) (o : Expr) (m : Str) (apos : Pos) (e f : Expr) (cpos : Pos) : Prop where
  base : attributeBase o m X.env (eval o X.env) = eval o X.env
  few : ((backTo cpos (starEach [e, f] X.env)).all (fun x => !x.1) && (backToKw cpos (keywordEach [] X.env)).all (fun x => x.1.isSome)
    && decide (([e, f] : List Expr).length + ([] : List Keyword).length + (if ([] : List Keyword).isEmpty then 0 else 1) < 30)) = true
  line : (apos.endLine == cpos.line) = true
  trees : backTo cpos (starEach [e, f] X.env) = [(false, eval e X.env), (false, eval f X.env)]

section
variable {X : Cx} {pins : List (Addr × Obj)} {σ : St} {H : Hp} {s : Shared} {a : Addr} {y d : V} {u r : Value} {o : Option V} {A : Around} {E : Value → Shared → Prop}
end

section
variable {X : Cx} {o e f : Expr} {apos cpos : Pos} {td ty tx : TE}
end

section
variable {X : Cx} {pins : List (Addr × Obj)} {σ : St} {H : Hp} {s : Shared} {a : Addr} {kvs : List (Key × V)} {A : Around} {E : Value → Shared → Prop}
end


section
variable {X : Cx} {pins : List (Addr × Obj)} {σ : St} {H : Hp} {s : Shared} {a : Addr} {y : V} {u : Value} {A : Around} {E : Value → Shared → Prop}
end
end L2

set_option linter.all false
namespace MD
open PySem
abbrev kwD (d : Value) : List (Str × Value) := [(Str.ofString "default", d)]
theorem args_d (a v : Value) : argsOk "max" ⟨[a], kwD v⟩ := by
  unfold argsOk kwD
  kernel_rfl
section
variable {prog : Program} {w : World} {A : Around} {R : Result → Shared → Prop} {It : Addr} {fp wr : List Addr} {n : Nat} {Pr : Nat → Value → Prop} {Sx : Nat → Heap → Prop}
theorem nm : (toString "max" ++ toString ".loop" : String) = "max.loop" := by decide
/-- the walk with a best one in hand -/
theorem on (W : Walks prog w A.in1 It fp wr n Pr Sx) (bt : Nat → Nat → Bool) (cm : CmpOf prog w A.in1 .Gt Pr bt) (B : Addr) (nB : B ∉ fp) (d : Value) :
    ∀ (k j : Nat) (s : Shared) (best : Value) (c : Nat), n - (j + 1) = k → j + 1 ≤ n → Sx (j + 1) s.heap → Pr (argBest bt j) best →
    s.heap.get? B = some { cls := .type "list", dict := none, data := .seq #[best, best] c, slots := #[] } →
    (∀ v h' tk, Pr (argBest bt (n - 1)) v → (∀ b o, b ∉ wr → b ≠ B → s.heap.get? b = some o → h'.get? b = some o) → R (.ok (.ret v)) { s with heap := h', toks := tk }) →
    codeAny (model prog w) A (.builtin "max.loop" ⟨[.ref It, .none, .ref B], kwD d⟩) R s := by
  have nW : B ∉ wr := fun z => nB (W.sub _ z)
  intro k
  induction k with
  | zero =>
    intro j s best c ek ej st pb eB fin
    have en : j + 1 = n := by omega
    refine codeAny_builtin PySem.F.entry_max_loop ?_
    rw [Around.under_plainId (PySem.F.plain_max_loop) _]
    show wpAny _ A.in1 (seqItems? (.ref B) >>= _) _ _ s
    refine wpAny_bind (wpAny_seqItems eB rfl ?_)
    show wpAny _ A.in1 (tryCatch (pyNext (.ref It)) _ >>= _) _ _ s
    refine wpAny_bind (wpAny_tryCatch (W.done s _ _ (en ▸ st) fun h' tk kp => ?_))
    have eB' := kp B _ nW eB
    show wpAny _ A.in1 (updateSeq B (fun _ => #[]) >>= _) _ _ _
    refine wpAny_bind ?_
    refine wpAny_updateSeq eB' rfl (wpAny_bind (wpAny_letGo (wpAny_pure ?_)))
    exact fin best _ tk (by rw [← en]; exact pb) fun b o nb nS e => (Heap.get?_update_other _ _ (Ne.symm nS)).trans (kp b o nb e)
  | succ k ih =>
    intro j s best c ek ej st pb eB fin
    have lt : j + 1 < n := by omega
    refine codeAny_builtin PySem.F.entry_max_loop ?_
    rw [Around.under_plainId (PySem.F.plain_max_loop) _]
    show wpAny _ A.in1 (seqItems? (.ref B) >>= _) _ _ s
    refine wpAny_bind (wpAny_seqItems eB rfl ?_)
    show wpAny _ A.in1 (tryCatch (pyNext (.ref It)) _ >>= _) _ _ s
    refine wpAny_bind (wpAny_tryCatch (W.item (j + 1) s _ _ lt st fun v h' tk pv st' kp => ?_))
    have eB' := kp B _ nW eB
    show wpAny _ A.in1 (tryCatch (holding [v, v] (richCompare .Gt v best >>= _)) _ >>= _) _ _ _
    refine wpAny_bind (wpAny_tryCatch (wpAny_holding (wpAny_bind (cm (j + 1) (argBest bt j) v best _ _ _ pv pb ?_))))
    refine wpAny_bind (wpAny_holding (wpAny_truthy_bool ?_))
    refine wpAny_bind (wpAny_letGo (wpAny_pure ?_))
    cases eb : bt (j + 1) (argBest bt j) with
    | true =>
      rw [if_pos rfl]
      refine wpAny_bind ?_
      refine wpAny_updateSeq eB' rfl (wpAny_bind (wpAny_letGo ?_))
      rw [nm]
      refine wpAny_pure ⟨plainId_quiet PySem.F.plain_max_loop _, ih (j + 1) _ v _ (by omega) lt (W.frame _ _ _ st' fun b bf o e => ?_) (by simp only [argBest, eb, if_true]; exact pv) (Heap.get?_update_self _ eB' rfl) fun v' h2 tk2 pv' kp2 => ?_⟩
      · exact (Heap.get?_update_other _ _ (fun z : B = b => nB (by rw [z]; exact bf))).trans e
      · exact fin v' h2 tk2 pv' fun b o nb nS e => kp2 b o nb nS ((Heap.get?_update_other _ _ (Ne.symm nS)).trans (kp b o nb e))
    | false =>
      rw [if_neg Bool.false_ne_true]
      refine wpAny_bind (wpAny_letGo ?_)
      rw [nm]
      refine wpAny_pure ⟨plainId_quiet PySem.F.plain_max_loop _, ih (j + 1) _ best c (by omega) lt st' (by simp only [argBest, eb, Bool.false_eq_true, if_false]; exact pb) eB' fun v' h2 tk2 pv' kp2 => ?_⟩
      exact fin v' h2 tk2 pv' fun b o nb nS e => kp2 b o nb nS (kp b o nb e)
/-- the walk from its begin -/
theorem begin_ (W : Walks prog w A.in1 It fp wr n Pr Sx) (bt : Nat → Nat → Bool) (cm : CmpOf prog w A.in1 .Gt Pr bt) (B : Addr) (nB : B ∉ fp) (d : Value) {s : Shared} {c : Nat} (st : Sx 0 s.heap)
    (eB : s.heap.get? B = some { cls := .type "list", dict := none, data := .seq #[] c, slots := #[] })
    (none_ : n = 0 → ∀ h' tk, (∀ b o, b ∉ wr → s.heap.get? b = some o → h'.get? b = some o) → R (.ok (.ret d)) { s with heap := h', toks := tk })
    (fin : 0 < n → ∀ v h' tk, Pr (argBest bt (n - 1)) v → (∀ b o, b ∉ wr → b ≠ B → s.heap.get? b = some o → h'.get? b = some o) → R (.ok (.ret v)) { s with heap := h', toks := tk }) :
    codeAny (model prog w) A (.builtin "max.loop" ⟨[.ref It, .none, .ref B], kwD d⟩) R s := by
  have nW : B ∉ wr := fun z => nB (W.sub _ z)
  refine codeAny_builtin PySem.F.entry_max_loop ?_
  rw [Around.under_plainId (PySem.F.plain_max_loop) _]
  show wpAny _ A.in1 (seqItems? (.ref B) >>= _) _ _ s
  refine wpAny_bind (wpAny_seqItems eB rfl ?_)
  show wpAny _ A.in1 (tryCatch (pyNext (.ref It)) _ >>= _) _ _ s
  by_cases h0 : n = 0
  · refine wpAny_bind (wpAny_tryCatch (W.done s _ _ (h0 ▸ st) fun h' tk kp => ?_))
    show wpAny _ A.in1 (rule _ >>= _) _ _ _
    exact wpAny_bind (wpAny_rule (wpAny_pure (none_ h0 h' tk kp)))
  · have hn : 0 < n := by omega
    refine wpAny_bind (wpAny_tryCatch (W.item 0 s _ _ hn st fun v h' tk pv st' kp => ?_))
    have eB' := kp B _ nW eB
    show wpAny _ A.in1 (updateSeq B (fun _ => #[v, v]) >>= _) _ _ _
    refine wpAny_bind ?_
    refine wpAny_updateSeq eB' rfl ?_
    rw [nm]
    refine wpAny_pure ⟨plainId_quiet PySem.F.plain_max_loop _, on W bt cm B nB d _ 0 _ v _ rfl hn (W.frame _ _ _ st' fun b bf o e => ?_) pv (Heap.get?_update_self _ eB' rfl) fun v' h2 tk2 pv' kp2 => ?_⟩
    · exact (Heap.get?_update_other _ _ (fun z : B = b => nB (by rw [z]; exact bf))).trans e
    · exact fin hn v' h2 tk2 pv' fun b o nb nS e => kp2 b o nb nS ((Heap.get?_update_other _ _ (Ne.symm nS)).trans (kp b o nb e))
end
section
variable {prog : Program} {w : World} {A : Around} {E : Value → Shared → Prop} {s : Shared}
theorem tree_kw {id : String} {b : Builtin} {args : List Value} {kw : List (Str × Value)} {Q : Value → Shared → Prop} (h1 : builtinKind id = none) (h2 : plainId id = true) (h3 : entryFor table id = some b) (h4 : argsOk id ⟨args, kw⟩)
    (h : wpAny (model prog w) A.in1 (b ⟨args, kw⟩) (fun fin s' => match fin with
      | .done f => (match (Except.ok f : Result) with | .ok (.ret v) => Q v s' | .ok _ => False | .error e => E e s')
      | .again c' => c'.quiet = true ∧ codeAny (model prog w) A c' (fun r s' => match r with | .ok (.ret v) => Q v s' | .ok _ => False | .error e => E e s') s') E s) : wpAny (model prog w) A (call (.builtin id) args kw) Q E s := by
  refine wpAny_call (codeAny_call_builtin h2 h3 ?_)
  simp only [checkBuiltinCall, h1]
  cases e : Manifest.signature? id with
  | none => exact wpAny_pure h
  | some sg =>
    have h4' : Bind.checkArgs id sg ⟨args, kw⟩ = pure () := by simpa only [argsOk, e] using h4
    simp only [h4']
    exact wpAny_pure h
/-- max(x, default=d) -/
theorem call {x d : Value} {Q : Value → Shared → Prop}
    (h : wpAny (model prog w) A.in1 (pyIter x) (fun it s2 => ∃ I fp wr n Pr Sx bt, it = .ref I ∧ Walks prog w A.in1 I fp wr n Pr Sx ∧ Sx 0 s2.heap ∧ (∀ b ∈ fp, b < s2.heap.objs.size) ∧ CmpOf prog w A.in1 .Gt Pr bt ∧
      (n = 0 → ∀ h' tk, (∀ b o, b ∉ wr → s2.heap.get? b = some o → h'.get? b = some o) → Q d { s2 with heap := h', toks := tk }) ∧
      (0 < n → ∀ v h' tk, Pr (argBest bt (n - 1)) v → (∀ b o, b ∉ wr → s2.heap.get? b = some o → h'.get? b = some o) → Q v { s2 with heap := h', toks := tk })) E s) :
    wpAny (model prog w) A (PySem.call (.builtin "max") [x] (kwD d)) Q E s := by
  refine tree_kw PySem.F.kind_max PySem.F.plain_max PySem.F.entry_max (args_d _ _) ?_
  show wpAny _ A.in1 (Builtin.Builtins.bindParams "max" ["key", "default"] 0 ⟨[], kwD d⟩ >>= _) _ _ s
  refine wpAny_bind (wpAny_of_eq (show Builtin.Builtins.bindParams "max" ["key", "default"] 0 ⟨[], kwD d⟩ = pure [none, some d] from rfl) ?_)
  refine wpAny_bind (wpAny_pure ?_)
  refine wpAny_bind (wpAny_mono h (fun it s2 h2 => ?_) fun _ _ e => e)
  obtain ⟨I, fp, wr, n, Pr, Sx, bt, rfl, W, st, hf, cm, q0, q1⟩ := h2
  refine wpAny_bind (wpAny_newObj_type ?_)
  have nB : s2.heap.objs.size ∉ fp := fun z => Nat.lt_irrefl _ (hf _ z)
  rw [nm]
  refine wpAny_pure ⟨plainId_quiet PySem.F.plain_max_loop _, begin_ W bt cm s2.heap.objs.size nB d (W.frame _ _ _ st fun b _ o e => Heap.get?_push_of_some _ e) (Heap.get?_push_size _ rfl) (fun z h' tk kp => ?_) fun z v h' tk pv kp => ?_⟩
  · exact q0 z h' tk fun b o nb e => kp b o nb (Heap.get?_push_of_some _ e)
  · exact q1 z v h' tk pv fun b o nb e => kp b o nb (Nat.ne_of_lt (Heap.lt_size e)) (Heap.get?_push_of_some _ e)
end
end MD
set_option linter.all false
namespace MQ
open PySem
theorem no_keys : typeLookup (.type "list") "keys" = pure none := am_miss_of_fast (by decide +kernel)
/-- a list has no attribute keys: asked quietly, nothing is told -/
theorem ask {prog : Program} {w : World} {A : Around} {E : Value → Shared → Prop} {s : Shared} {a : Addr} {xs : Array Value} {k : Nat} {sl : Array (Option Value)} {Q : Option Value → Shared → Prop}
    (hx : s.heap.get? a = some { cls := .type "list", dict := none, data := .seq xs k, slots := sl }) (hA : A.handled = none)
    (h : ∀ h' tk, (∀ b o, s.heap.get? b = some o → h'.get? b = some o) → Q none { s with heap := h', toks := tk }) : wpAny (model prog w) A (getAttr? (.ref a) "keys") Q E s := by
  obtain ⟨hp, g, d, tk, os⟩ := s
  have ty : ∀ tk', (⟨hp, g, d, tk', os⟩ : Shared).TypeIs (.ref a) "list" := fun _ => ⟨_, hx, rfl⟩
  have f1 := sub_AttributeError
  have f3 := PySem.F.slot_list_getattribute.lookup
  have f4 := PySem.F.slot_list_getattribute.bind (.ref a)
  have f5 := am_list_getattr_none
  unfold getAttr? getAttrBy? getAttrBy
  repeat (any_goals (first | assumption | exact ty _ | ((with_reducible show wpAny _ _ (PySem.call (Value.builtin "list.__getattribute__") _ _) _ _ _); refine call_meets PySem.F.slot_list_getattribute (ty _) am_entry_list_getattribute (PySem.F.args_list_getattribute_2 _ _) (meets_getattribute_miss_list a xs k sl "keys" _ no_keys (by decide +kernel) (by decide +kernel)) ⟨hx, hA, fun h' tk' e ne => ?_⟩) | wp_step))
  obtain ⟨t', u', he⟩ := ne.there
  show wpAny _ _ (getattributeRaised _ _ _ _ _ _ _) _ _ _
  unfold getattributeRaised
  repeat (any_goals (first | assumption | wp_step))
  exact h _ _ ne.keeps
end MQ
set_option linter.all false
namespace DP
open PySem
section
variable {prog : Program} {w : World} {K : Type} [DecidableEq K] {knd : KeyKind prog w K} {A : Around} {R : Result → Shared → Prop} {It : Addr} {fp wr : List Addr} {n : Nat} {Pr : Nat → Value → Prop} {Sx : Nat → Heap → Prop}
end
end DP
set_option linter.all false
namespace DP
open PySem
section
variable {prog : Program} {w : World} {K : Type} [DecidableEq K] {knd : KeyKind prog w K} {A : Around} {E : Value → Shared → Prop} {s : Shared}
end
end DP
set_option Elab.async false
set_option linter.all false
set_option maxRecDepth 100000
set_option maxHeartbeats 4000000
namespace L2
open PySem PySem.Spec PyProof.Rows

theorem vals_of {xs : List V} : ∀ {us : List Value}, xs.length = us.length → (∀ (i : Nat) (x : V) (u : Value), xs[i]? = some x → us[i]? = some u → RelV x u) → Vals xs us := by
  induction xs with
  | nil =>
    intro us hl _
    cases us with
    | nil => exact .nil
    | cons u us => cases hl
  | cons x xs ih =>
    intro us hl h
    cases us with
    | nil => cases hl
    | cons u us => exact .cons (h 0 x u rfl rfl) (ih (by simpa using hl) fun i y v e1 e2 => h (i + 1) y v (by simpa using e1) (by simpa using e2))
theorem rel_key {k : Key} {v : Value} (h : keyIs k v = true) : RelV (kV k) v := by
  rcases keyIs_shape h with ⟨i, t, rfl, rfl⟩ | ⟨x, t, rfl, rfl⟩
  · exact ⟨t, rfl⟩
  · exact ⟨t, rfl⟩
theorem KV.at_ {κ : Type} {kvs : List (κ × V)} {vs : List (κ × Value)} (r : KV kvs vs) : ∀ (i : Nat) (p : κ × Value), vs[i]? = some p → ∃ q : κ × V, kvs[i]? = some q ∧ q.1 = p.1 ∧ RelV q.2 p.2 := by
  induction r with
  | nil => intro i p h; simp at h
  | cons h1 h2 ih =>
    intro i p h
    cases i with
    | zero =>
      simp at h
      subst h
      exact ⟨_, rfl, h1⟩
    | succ i => simpa using ih i p (by simpa using h)

def Prs (H : Hp) : List V → List (Key × V) → Prop := Paired fun v kv => ∃ p : Addr, v = .ref p ∧ H p = some (.tup [kV kv.1, kv.2])
theorem Prs.same {H H' : Hp} (e : Same H H') {vs : List V} {kvs : List (Key × V)} (h : Prs H vs kvs) : Prs H' vs kvs := Paired.mapP h fun _ _ ⟨p, a, b⟩ => ⟨p, a, e _ _ b⟩
theorem Prs.snoc {H : Hp} {v : V} {kv : Key × V} (hv : ∃ p : Addr, v = .ref p ∧ H p = some (.tup [kV kv.1, kv.2])) : ∀ {vs : List V} {kvs : List (Key × V)}, Prs H vs kvs → Prs H (vs ++ [v]) (kvs ++ [kv])
  | _, _, .nil => .cons hv .nil
  | _, _, .cons h r => .cons h (Prs.snoc hv r)
theorem Prs.len {H : Hp} {vs : List V} {kvs : List (Key × V)} (h : Prs H vs kvs) : vs.length = kvs.length := Paired.length h
theorem Prs.at_ {H : Hp} {vs : List V} {kvs : List (Key × V)} (r : Prs H vs kvs) : ∀ (i : Nat) (v : V), vs[i]? = some v → ∃ (kv : Key × V) (p : Addr), kvs[i]? = some kv ∧ v = .ref p ∧ H p = some (.tup [kV kv.1, kv.2]) := by
  induction r with
  | nil => intro i p h; simp at h
  | cons h1 h2 ih =>
    intro i v h
    cases i with
    | zero =>
      simp at h
      subst h
      obtain ⟨p, a, b⟩ := h1
      exact ⟨_, p, rfl, a, b⟩
    | succ i => simpa using ih i v (by simpa using h)
end L2
set_option Elab.async false
set_option linter.all false
set_option maxRecDepth 100000
set_option maxHeartbeats 4000000
namespace L2
open PySem PySem.Spec PyProof.Rows

end L2
set_option linter.all false
namespace M08
end M08
set_option linter.all false
namespace SLi
open PySem
theorem clip (a b n : Nat) : Builtin.Str.strSliceIndices (some (a : Int)) (some (b : Int)) 1 n = Builtin.Str.strSliceIndices (some ((min a n : Nat) : Int)) (some ((min b n : Nat) : Int)) 1 n := by
  have e1 : ¬ ((a : Int) < 0) := by omega
  have e2 : ¬ ((b : Int) < 0) := by omega
  have e3 : ¬ (((min a n : Nat) : Int) < 0) := by omega
  have e4 : ¬ (((min b n : Nat) : Int) < 0) := by omega
  have h1 : max (0 : Int) (min (a : Int) (n : Int)) = max 0 (min ((min a n : Nat) : Int) (n : Int)) := by omega
  have h2 : max (0 : Int) (min (b : Int) (n : Int)) = max 0 (min ((min b n : Nat) : Int) (n : Int)) := by omega
  simp only [Builtin.Str.strSliceIndices, e1, e2, e3, e4, if_false, h1, h2]
  rfl
theorem both (x : Str) {a b : Nat} (h : a ≤ b) : Txt.slice x (some (a : Int)) (some (b : Int)) = ⟨((x.cps.toList.drop a).take (b - a)).toArray⟩ := by
  have hl : x.cps.toList.length = x.length := by simp [Str.length]
  have e : Txt.slice x (some (a : Int)) (some (b : Int)) = Txt.slice x (some ((min a x.length : Nat) : Int)) (some ((min b x.length : Nat) : Int)) := by
    unfold Txt.slice
    rw [clip]
  rw [e]
  have p := StrLaws.sliceText_plain (x := x) (i := ((min a x.length : Nat) : Int)) (j := ((min b x.length : Nat) : Int)) ⟨by omega, by omega, by omega⟩
  have p' : Txt.slice x (some ((min a x.length : Nat) : Int)) (some ((min b x.length : Nat) : Int)) = _ := p
  rw [p']
  congr 1
  have e1 : (((min a x.length : Nat) : Int)).toNat = min a x.length := by omega
  have e2 : (((min b x.length : Nat) : Int) - ((min a x.length : Nat) : Int)).toNat = min b x.length - min a x.length := by omega
  rw [e1, e2]
  congr 1
  by_cases ha : a ≤ x.length
  · rw [Nat.min_eq_left ha]
    by_cases hb : b ≤ x.length
    · rw [Nat.min_eq_left hb]
    · rw [Nat.min_eq_right (by omega)]
      rw [List.take_of_length_le (by rw [List.length_drop]; omega), List.take_of_length_le (by rw [List.length_drop]; omega)]
  · rw [Nat.min_eq_right (by omega), List.drop_eq_nil_of_le (by omega), List.drop_eq_nil_of_le (by omega)]
    simp
theorem upto (x : Str) (b : Nat) : Txt.slice x none (some (b : Int)) = ⟨(x.cps.toList.take b).toArray⟩ := by
  have e : Txt.slice x none (some (b : Int)) = Txt.slice x (some ((0 : Nat) : Int)) (some (b : Int)) := by
    unfold Txt.slice
    rw [StrLaws.sliceIdx_none_lo]
    rfl
  rw [e, both x (Nat.zero_le b)]
  simp
theorem from_ (x : Str) (a : Nat) : Txt.slice x (some (a : Int)) none = ⟨(x.cps.toList.drop a).toArray⟩ := by
  have hl : x.cps.toList.length = x.length := by simp [Str.length]
  have e : Txt.slice x (some (a : Int)) none = Txt.slice x (some (a : Int)) (some (x.length : Int)) := by
    unfold Txt.slice
    rw [StrLaws.sliceIdx_none_hi]
  rw [e]
  by_cases h : a ≤ x.length
  · rw [both x h, List.take_of_length_le (by rw [List.length_drop]; omega)]
  · have e2 : Txt.slice x (some (a : Int)) (some (x.length : Int)) = Txt.slice x (some ((x.length : Nat) : Int)) (some (x.length : Int)) := by
      unfold Txt.slice
      rw [clip, clip x.length x.length]
      rw [Nat.min_eq_right (by omega : x.length ≤ a), Nat.min_self]
    rw [e2, both x (Nat.le_refl _), List.drop_eq_nil_of_le (by omega : x.cps.toList.length ≤ a), Nat.sub_self]
    simp
end SLi
set_option Elab.async false
set_option linter.all false
set_option maxRecDepth 100000
set_option maxHeartbeats 4000000
namespace L2
open PySem PySem.Spec PyProof.Rows M08

abbrev mkT (r : List Nat) : V := V.str ⟨r.toArray⟩
/-- rules are few and short -/
structure OkC (cs : List (List Nat)) : Prop where
  few : cs.length ≤ 100
  size : ∀ c ∈ cs, 1 ≤ c.length ∧ c.length ≤ 8
theorem atI_zero {α : Type} (x : α) (xs : List α) : atI (x :: xs) 0 = some x := atI_nat (xs := x :: xs) (j := 0) rfl
end L2
set_option Elab.async false
set_option linter.all false
set_option maxRecDepth 100000
set_option maxHeartbeats 4000000
namespace L2
open PySem PySem.Spec PyProof.Rows M08

end L2
namespace M08
end M08
set_option Elab.async false
set_option linter.all false
set_option maxRecDepth 100000
set_option maxHeartbeats 4000000
namespace L2
open PySem PySem.Spec PyProof.Rows

def GoodV (H : Hp) : V → Prop
  | .str x => x.length ≤ 1000
  | .non => True
  | .bl _ => True
  | .int _ => True
  | .ref p => (∃ xs, H p = some (.lst xs)) ∨ (∃ xs, H p = some (.tup xs)) ∨ ∃ kvs, H p = some (.dK kvs)
  | _ => False
theorem GoodV.same {H H' : Hp} (s : Same H H') : ∀ {v : V}, GoodV H v → GoodV H' v
  | .str _, h => h
  | .non, h => h
  | .bl _, h => h
  | .int _, h => h
  | .ref p, h => by
    rcases h with ⟨xs, e⟩ | ⟨xs, e⟩ | ⟨xs, e⟩
    · exact .inl ⟨xs, s _ _ e⟩
    · exact .inr (.inl ⟨xs, s _ _ e⟩)
    · exact .inr (.inr ⟨xs, s _ _ e⟩)
  | .byt _, h => h.elim
  | .flt _, h => h.elim
  | .ty _, h => h.elim
theorem GoodV.lst {H : Hp} {l : Addr} {ys : List V} : ∀ {v : V}, GoodV H v → ∀ H' : Hp, H' l = some (.lst ys) → (∀ c o, H c = some o → c ≠ l → H' c = some o) → GoodV H' v
  | .str _, h, _, _, _ => h
  | .non, h, _, _, _ => h
  | .bl _, h, _, _, _ => h
  | .int _, h, _, _, _ => h
  | .ref p, h, H', e, s => by
    by_cases hp : p = l
    · subst hp
      exact .inl ⟨ys, e⟩
    · rcases h with ⟨xs, e⟩ | ⟨xs, e⟩ | ⟨xs, e⟩
      · exact .inl ⟨xs, s _ _ e hp⟩
      · exact .inr (.inl ⟨xs, s _ _ e hp⟩)
      · exact .inr (.inr ⟨xs, s _ _ e hp⟩)
  | .byt _, h, _, _, _ => h.elim
  | .flt _, h, _, _, _ => h.elim
  | .ty _, h, _, _, _ => h.elim
theorem GoodV.pot {H H' : Hp} {p : Addr} {v : V} (h : GoodV H v) (P : Pot H p H') : GoodV H' v := by
  obtain ⟨a, b, e⟩ := P.at_
  exact h.lst H' e P.old
theorem GoodV.upd {H : Hp} {l : Addr} {ys : List V} {v : V} (h : GoodV H v) : GoodV (upd H l (.lst ys)) v := h.lst _ upd_same fun c o e n => (upd_ne n).trans e
end L2
namespace L2
open PySem PySem.Spec PyProof.Rows
def notStar : Expr → Bool
  | .Starred .. => false
  | _ => true
theorem star_cons {e : Expr} {es : List Expr} {env : Env} (h : notStar e = true) : starEach (e :: es) env = (false, eval e env) :: starEach es env := by
  cases e <;> first | rfl | cases h
theorem pa_c {X : Cx} {e : Expr} {es : List Expr} {te : TE} {t : TA} (ha : PE X e te) (hr : PA X es t) (h : notStar e = true := by rfl) : PA X (e :: es) (tCons te t) := pa_cons ha hr (star_cons h)
structure QSs (X : Cx) (st : List Stmt) (t : TS) : Prop where
  h : PSs X st t
structure QS (X : Cx) (st : Stmt) (t : TS) : Prop where
  h : PS X st t
structure QE (X : Cx) (e : Expr) (t : TE) : Prop where
  h : PE X e t
structure QA (X : Cx) (es : List Expr) (t : TA) : Prop where
  h : PA X es t
theorem qss_cons {X : Cx} {st : Stmt} {rest : List Stmt} {t u : TS} (h1 : QS X st t) (h2 : QSs X rest u) : QSs X (st :: rest) (tSeq t u) := ⟨pss_cons h1.h h2.h⟩
theorem qs_set {X : Cx} {i : Nat} {x : Str} {e : Expr} {te : TE} {pos pos' : Pos} (hN : X.N.Nodup) (hi : X.N[i]? = some x) (hx : Loc X.env.scope x) (he : QE X e te) (hs : swapsWith e (some (.Name x pos')) pos.line X.env = pure false := by rfl)
    (hf : X.fn x = true ∨ X.env.scope.names.lookup x = some .local := by first | exact .inl rfl | exact .inr rfl) : QS X (.Assign [.Name x pos'] e pos) (tAsg te (gName i)) := ⟨ps_set hN hi hx he.h hs hf⟩
theorem qe_lst {X : Cx} {es : List Expr} {t : TA} {pos : Pos} (h : QA X es t) : QE X (.List es pos) (tLst t) := ⟨pe_lst h.h⟩
theorem qa_nil {X : Cx} : QA X [] tNil := ⟨pa_nil⟩
theorem qa_c {X : Cx} {e : Expr} {es : List Expr} {te : TE} {t : TA} (ha : QE X e te) (hr : QA X es t) (h : notStar e = true := by rfl) : QA X (e :: es) (tCons te t) := ⟨pa_c ha.h hr.h h⟩
end L2
namespace M05
/-- the digits of a name: those of r, without nought -/
def nmN : Nat → Nat → List Nat
  | 0, _ => []
  | f + 1, r => if r = 0 then [] else nmN f ((r - 1) / 26) ++ [97 + (r - 1) % 26]
theorem nmN_more : ∀ (f g r : Nat), r ≤ f → r ≤ g → nmN f r = nmN g r
  | 0, g, r, h, _ => by
    have e : r = 0 := by omega
    subst e
    cases g <;> simp [nmN]
  | f + 1, 0, r, _, h => by
    have e : r = 0 := by omega
    subst e
    simp [nmN]
  | f + 1, g + 1, r, h1, h2 => by
    unfold nmN
    by_cases e : r = 0
    · simp [e]
    · rw [if_neg e, if_neg e, nmN_more f g ((r - 1) / 26) (by omega) (by omega)]
def nm (r : Nat) : List Nat := nmN r r
theorem nm_zero : nm 0 = [] := rfl
theorem nm_step {r : Nat} (h : r ≠ 0) : nm r = nm ((r - 1) / 26) ++ [97 + (r - 1) % 26] := by
  unfold nm
  obtain ⟨q, rfl⟩ : ∃ q, r = q + 1 := ⟨r - 1, by omega⟩
  show nmN (q + 1) (q + 1) = _
  rw [nmN, if_neg h, nmN_more q ((q + 1 - 1) / 26) _ (by omega) (Nat.le_refl _)]
/-- how many names are shorter than s letters, but for s = 0 -/
def sh : Nat → Nat
  | 0 => 0
  | s + 1 => 26 * sh s + (if s = 0 then 0 else 26)
theorem sh_one : sh 1 = 0 := rfl
theorem sh_succ (s : Nat) (h : s ≠ 0) : sh (s + 1) = 26 * sh s + 26 := by
  show 26 * sh s + (if s = 0 then 0 else 26) = _
  rw [if_neg h]
/-- the length's bound -/
theorem nm_len : ∀ (b r : Nat), r < sh (b + 1) + 1 → (nm r).length ≤ b ∨ False
  | 0, r, h => by
    have e : r = 0 := by rw [sh_one] at h; omega
    subst e
    exact .inl (by rw [nm_zero]; exact Nat.le_refl _)
  | b + 1, r, h => by
    by_cases e : r = 0
    · subst e
      exact .inl (by rw [nm_zero]; exact Nat.zero_le _)
    · rw [nm_step e, List.length_append]
      have e0 := sh_succ (b + 1) (by omega)
      rcases nm_len b ((r - 1) / 26) (by omega) with q | q
      · exact .inl (by show _ + 1 ≤ b + 1; omega)
      · exact q.elim
end M05
set_option linter.all false
namespace M05
end M05
set_option Elab.async false
set_option linter.all false
set_option maxRecDepth 100000
set_option maxHeartbeats 4000000
namespace L2
open PySem PySem.Spec PyProof.Rows

end L2
set_option Elab.async false
set_option linter.all false
set_option maxRecDepth 100000
set_option maxHeartbeats 4000000
namespace ET
open PySem
open Sem (wp)
open AutoSeq1 (wpAny_loadPart')
end ET
namespace L2
open PySem PySem.Spec PyProof.Rows
theorem getItem_tuple_all {prog : Program} {w : World} {A : Around} {E : Value → Shared → Prop} {s : Shared} {t sl : Addr} {items : Array Value} {vl vu : Value} {lo hi : Option Int} {Q : Value → Shared → Prop} (ht : IsTup s.heap t items) (hs : s.heap.IsSliceOf sl vl vu .none) (pl : IsPart vl lo) (pu : IsPart vu hi)
    (hw : HT.sIx items.size 0 lo = 0 ∧ HT.sIx items.size items.size hi = items.size) (h : Q (.ref t) s) : wpAny (model prog w) A (getItem (.ref t) (.ref sl)) Q E s := by
  obtain ⟨os, hos, hcs, hds⟩ := id hs
  have hTs : s.TypeIs (.ref sl) "slice" := ⟨os, hos, hcs⟩
  unfold getItem
  try with_reducible refine wpAny_holding ?_
  first | refine wpAny_bind (wpAny_pure ?_) | skip
  refine wpAny_bind (wpAny_sequenceKey ht.typeIs (by decide) ?_)
  refine wpAny_bind (wpAny_callSpecial?_slot (name := Str.ofString "__getitem__") ht.typeIs PyProof.Rows.slot_tuple_getitem
    (wpAny_call_entry PyProof.Rows.slot_tuple_getitem ht.typeIs PyProof.Rows.entry_tuple_getitem ?_ (PyProof.Rows.args_tuple_getitem _ _)))
  show wpAny _ _ (Builtin.Tuple.tupleItemsOf (.ref t) >>= _) _ _ s
  refine wpAny_bind (PyProof.Rows.tupleItemsOf_ ht ?_)
  refine wpAny_bind (wpAny_typeOf hTs ?_)
  rw [if_pos (by decide)]
  refine wpAny_bind (HT.sliceApplied_gen hs pl pu ?_)
  have hno : (((HT.sIx items.size 0 lo : Nat) : Int) == 0 && (1 : Int) == 1 && (HT.sIx items.size items.size hi - HT.sIx items.size 0 lo) == items.size) = true := by
    rw [hw.1, hw.2]
    simp
  show wpAny _ _ (if (((HT.sIx items.size 0 lo : Nat) : Int) == 0 && (1 : Int) == 1 && (HT.sIx items.size items.size hi - HT.sIx items.size 0 lo) == items.size) = true then _ else _) _ _ s
  rw [if_pos hno]
  refine wpAny_bind (m := Builtin.Tuple.tupleIsExact _) (wpAny_bind (wpAny_typeOf ht.typeIs (wpAny_pure ?_)))
  rw [if_pos (by decide)]
  exact wpAny_bind (wpAny_rule (wpAny_pure ⟨_, rfl, wpAny_pure h⟩))
end L2
set_option Elab.async false
set_option linter.all false
set_option maxRecDepth 100000
set_option maxHeartbeats 4000000
namespace L2
open PySem PySem.Spec PyProof.Rows
def rNeE : R2 := fun x y H Q => ∃ (l b : Addr) (xs : List V), x = .ref l ∧ y = .ref b ∧ H l = some (.lst xs) ∧ H b = some (.lst []) ∧ Q (.bl (!xs.isEmpty)) H
theorem op_neE {X : Cx} (hu : X.A.units < cLine) : OpR X (compareOp .NotEq) rNeE := by
  intro pins s σ H x y v u Q I rx ry h
  obtain ⟨l, b, xs, rfl, rfl, hl, hb, q⟩ := h
  cases rx
  cases ry
  obtain ⟨its, r1, p1, _⟩ := I.list (SqL.of (K := X.K) hl)
  obtain ⟨its2, r2, p2, _⟩ := I.list (SqL.of (K := X.K) hb)
  cases r2
  cases r1 with
  | nil => exact SeqAt.RcNeAt.lists (e := fun _ => true) p1.isList p2.isList rfl hu (fun j h1 _ => absurd h1 (Nat.not_lt_zero j)) X.prog X.w _ _ ⟨.bl false, H, I, rfl, q⟩
  | cons _ _ => exact SeqAt.RcNeAt.lists_lengths p1.isList p2.isList (by simp) hu X.prog X.w _ _ ⟨.bl true, H, I, rfl, q⟩
end L2
set_option Elab.async false
set_option linter.all false
set_option maxRecDepth 100000
set_option maxHeartbeats 4000000
namespace DR
open PySem PySem.W
open Sem (wp)
/-- a dict by its entries, whatever its keys are -/
def Raw (g : Heap) (d : Addr) (es : Array DictEntry) (ep : Nat) : Prop := ∃ o, g.get? d = some o ∧ o.ExactDict ∧ o.data = .dict es ep
section
variable {prog : Program} {w : World} {A : Around} {E : Value → Shared → Prop} {s : Shared} {it dd : Addr} {es : Array DictEntry} {i ep : Nat}
theorem Raw.typeIs (r : Raw s.heap dd es ep) : s.TypeIs (.ref dd) "dict" := by
  obtain ⟨o, eo, ec, ed⟩ := r
  exact ⟨o, eo, ec.1⟩
theorem Raw.lt {g : Heap} (r : Raw g dd es ep) : dd < g.objs.size := by
  obtain ⟨o, eo, _⟩ := r
  exact Heap.lt_size eo
theorem Raw.at {g g' : Heap} (r : Raw g dd es ep) (k : ∀ o, g.get? dd = some o → g'.get? dd = some o) : Raw g' dd es ep := by
  obtain ⟨o, eo, x⟩ := r
  exact ⟨o, k o eo, x⟩
end
end DR
namespace L2
open PySem PySem.Spec PyProof.Rows
end L2
set_option Elab.async false
set_option linter.all false
set_option maxRecDepth 100000
set_option maxHeartbeats 4000000
namespace SX
open PySem PySem.Spec PyProof.Rows
theorem sub_tuple_set : isSubtype (.type "tuple") (.type "set") = pure false := by rw [isSubtype_type]; kernel_rfl
theorem sub_tuple_frozenset : isSubtype (.type "tuple") (.type "frozenset") = pure false := by rw [isSubtype_type]; kernel_rfl
def have_ {K : Type} [DecidableEq K] (val : Nat → K) (i : Nat) (k : K) : Bool := ((List.range i).map val).any fun y => decide (y = k)
theorem have_succ {K : Type} [DecidableEq K] (val : Nat → K) (i : Nat) (k : K) : have_ val (i + 1) k = (have_ val i k || decide (k = val i)) := by
  unfold have_
  rw [List.range_succ, List.map_append, List.any_append]
  congr 1
  simp [eq_comm]
/-- how many unlike ones among the first i -/
def many {K : Type} [DecidableEq K] (val : Nat → K) : Nat → Nat
  | 0 => 0
  | i + 1 => if have_ val i (val i) = true then many val i else many val i + 1
theorem many_le {K : Type} [DecidableEq K] (val : Nat → K) : ∀ i, many val i ≤ i
  | 0 => Nat.le_refl _
  | i + 1 => by
    have := many_le val i
    unfold many
    split <;> omega
theorem have_new {K : Type} [DecidableEq K] {val : Nat → K} {i n : Nat} (hi : i < n) (inj : ∀ a b, a < n → b < n → val a = val b → a = b) : have_ val i (val i) = false := by
  unfold have_
  rw [List.any_eq_false]
  intro y hy
  obtain ⟨j, hj, rfl⟩ := List.mem_map.mp hy
  have hj' := List.mem_range.mp hj
  simp only [decide_eq_true_eq]
  intro e
  have := inj j i (by omega) hi e
  omega
section
variable {prog : Program} {w : World} {A : Around} {R : Result → Shared → Prop} {I : Addr} {fp wr : List Addr} {G : Array GenState → Array GenState → Prop} {n : Nat} {P : Nat → Value → Prop} {St : Nat → Shared → Prop} {K : Type} [DecidableEq K] {knd : KeyKind prog w K}
/-- a set filled from things -/
theorem fill (W : WalksS prog w A.in1 I fp wr G n P St) (S : Addr) (nf : S ∉ fp) (val : Nat → K) (hv : ∀ i v, P i v → knd.is (val i) v = true ∧ v.scannable = true) (room : n + 1 < scanBound) :
    ∀ (k i : Nat) (s : Shared), n - i = k → i ≤ n → St i s → s.heap.SetOf knd S (have_ val i) (many val i) → (∀ s', Moved (S :: wr) G s s' → s'.heap.SetOf knd S (have_ val n) (many val n) → R (.ok (.ret .none)) s') →
      codeAny (model prog w) A (.builtin "set.update.loop" ⟨[.ref S, .ref I], []⟩) R s := by
  have nw : S ∉ wr := fun z => nf (W.sub _ z)
  have sub : ∀ b ∈ wr, b ∈ S :: wr := fun b z => List.mem_cons_of_mem _ z
  intro k
  induction k with
  | zero =>
    intro i s ek le st hS q
    have e : i = n := by omega
    subst e
    refine codeAny_builtin F.entry_set_update_loop ?_
    rw [Around.under_plainId F.plain_set_update_loop _]
    show wpAny _ A.in1 (pyNext (.ref I) >>= _) _ _ _
    refine wpAny_bind (W.done s _ _ st fun s' mv => ?_)
    show wpAny _ A.in1 (ret Value.none) _ _ _
    refine wpAny_pure (q s' (mv.mono sub) ?_)
    obtain ⟨o, es, ep, t, eo, rest⟩ := hS
    exact ⟨o, es, ep, t, mv.heap S _ nw eo, rest⟩
  | succ k ih =>
    intro i s ek le st hS q
    have lt : i < n := by omega
    refine codeAny_builtin F.entry_set_update_loop ?_
    rw [Around.under_plainId F.plain_set_update_loop _]
    show wpAny _ A.in1 (pyNext (.ref I) >>= _) _ _ _
    refine wpAny_bind (W.item i s _ _ lt st fun v s' hP st' mv => ?_)
    obtain ⟨hk, hsc⟩ := hv i v hP
    have hS' : s'.heap.SetOf knd S (have_ val i) (many val i) := by
      obtain ⟨o, es, ep, tb, eo, rest⟩ := hS
      exact ⟨o, es, ep, tb, mv.heap S _ nw eo, rest⟩
    show wpAny _ A.in1 (holding [v] (setAdd S v) >>= _) _ _ _
    refine wpAny_bind (wpAny_holding ?_)
    unfold setAdd
    refine wpAny_holding (wpAny_bind (knd.pyHash hk ?_))
    refine wpAny_setAddHashed_of (knd := knd) (s := { s' with toks := s'.toks + 1 }) hk hsc hS' (Nat.lt_of_le_of_lt (Nat.succ_le_succ (many_le val i)) (by omega)) fun g sb hS2 => ?_
    have hSi : g.SetOf knd S (have_ val (i + 1)) (many val (i + 1)) := by
      have e : (fun k' => have_ val i k' || decide (k' = val i)) = have_ val (i + 1) := funext fun k' => (have_succ val i k').symm
      rw [← e]
      exact hS2
    refine wpAny_pure ⟨plainId_quiet F.plain_set_update_loop _, ih (i + 1) _ (by omega) lt (W.frame _ s' _ _ st' (Nat.le_succ _) fun b hb o e => ?_) hSi fun s'' mv2 hS'' => ?_⟩
    · rw [sb.2 b fun z => nf (z ▸ hb)]
      exact e
    · refine q s'' (Moved.trans W.gtrans ((mv.mono sub).then_heap (Nat.le_succ _) fun b o hb e => ?_) mv2) hS''
      rw [sb.2 b fun z => hb (by rw [z]; exact List.mem_cons_self)]
      exact e
end
set_option maxHeartbeats 6400000 in
theorem call_set_tuple {prog : Program} {w : World} {A : Around} {E : Value → Shared → Prop} {s : Shared} {K : Type} [DecidableEq K] {knd : KeyKind prog w K} {l : Addr} {items : Array Value} {val : Nat → K} {Q : Value → Shared → Prop}
    (hd : A.handled = none) (tl : s.heap.IsTuple l items) (hv : ∀ i v, items[i]? = some v → knd.is (val i) v = true ∧ v.scannable = true) (room : items.size + 1 < scanBound)
    (q : ∀ (g : Heap) (tk : Nat), g.SetOf knd s.heap.objs.size (have_ val items.size) (many val items.size) → (∀ b o, b < s.heap.objs.size → s.heap.get? b = some o → g.get? b = some o) → Q (.ref s.heap.objs.size) { s with heap := g, toks := tk }) :
    wpAny (model prog w) A (call (.type "set") [.ref l]) Q E s := by
  obtain ⟨c, tl', hmro⟩ := PySem.F.called_set.mro
  have hmade := PySem.F.called_set.made
  have hsub := PySem.F.called_set.sub
  refine wpAny_call (codeAny_of_tree ?_)
  show wpAny _ _ (callAny (.type "set") _) _ _ _
  refine wpAny_pure ⟨Code.quiet_builtin _ (by decide +kernel), codeAny_builtin PySem.F.entry_type_call ?_⟩
  rw [Around.under_plain (weight_type_call_type "set" [.ref l] []) rfl]
  have h1 := PySem.F.called_set.notType
  have h2 := PySem.F.called_set.canCreate
  have hct := PySem.F.typeCall_set_1 (.ref l)
  repeat (any_goals (first | assumption | wp_step))
  refine codeAny_mono (code_set_new_1 (.ref l) (E := E) (Q₁ := fun ob s₁ => ∃ led : Bool, ob = .ref s.heap.objs.size ∧ s₁ = { s with heap := s.heap.push { cls := .type "set", dict := none, data := .set #[] 0 (.fresh 0 0 led) } }) fun led => ⟨led, rfl, rfl⟩) fun r s₁ hr => ?_
  cases r with
  | error e => exact hr
  | ok fl =>
    cases fl with
    | ret ob =>
      obtain ⟨led, rfl, rfl⟩ := hr
      have eS : (s.heap.push { cls := .type "set", dict := none, data := .set #[] 0 (.fresh 0 0 led) }).get? s.heap.objs.size = some { cls := .type "set", dict := none, data := .set #[] 0 (.fresh 0 0 led) } := Heap.get?_push_size _ rfl
      have tS : Shared.TypeIs { s with heap := s.heap.push { cls := .type "set", dict := none, data := .set #[] 0 (.fresh 0 0 led) } } (.ref s.heap.objs.size) "set" := ⟨_, eS, rfl⟩
      have hli := PySem.F.called_set.init.lookup
      have hbi := PySem.F.called_set.init.bind (.ref s.heap.objs.size)
      repeat (any_goals (first | assumption | wp_step))
      refine codeAny_mono (codeAny_call_builtin (R := wants (fun r s₂ => r = .none ∧ ∃ g tk, s₂ = { s with heap := g, toks := tk } ∧ g.SetOf knd s.heap.objs.size (have_ val items.size) (many val items.size) ∧
          (∀ b o, b < s.heap.objs.size → s.heap.get? b = some o → g.get? b = some o)) E) PySem.F.called_set.init.plain PySem.F.entry_set_init (check_set_init_1 tS ?_)) fun r₂ s₂ hr₂ => ?_
      · obtain ⟨⟨oc, od, odt, osl⟩, eol, ecl, nl, edl⟩ := tl
        simp only at ecl edl
        subst ecl
        subst edl
        have eol' : (s.heap.push { cls := .type "set", dict := none, data := .set #[] 0 (.fresh 0 0 led) }).get? l = some { cls := .type "tuple", dict := od, data := .seq items nl, slots := osl } := Heap.get?_push_of_some _ eol
        have hsls := sub_tuple_set
        have hslf := sub_tuple_frozenset
        have hne : (Value.type "tuple" == Value.type "dict") = false := by decide
        have tl1 : (s.heap.push { cls := .type "set", dict := none, data := .set #[] 0 (.fresh 0 0 led) }).IsTuple l items := ⟨_, eol', rfl, nl, rfl⟩
        unfold Builtin.«set.__init__» noKeywords Builtin.Frozenset.updateFrom
        generalize hPI : pyIter = PI
        wp_walk
        subst hPI
        refine wpAny_pyIter_tuple tl1 (wpAny_bind (wpAny_runValue ?_))
        have lS : l < s.heap.objs.size := Heap.lt_size eol
        have hd3 : A.in1.in1.in1.handled = none := by simp [hd]
        have neI : l ≠ (s.heap.push { cls := .type "set", dict := none, data := .set #[] 0 (.fresh 0 0 led) }).objs.size := by
          rw [Heap.size_push]
          exact Nat.ne_of_lt (Nat.lt_succ_of_lt lS)
        have nf : s.heap.objs.size ∉ [(s.heap.push { cls := .type "set", dict := none, data := .set #[] 0 (.fresh 0 0 led) }).objs.size, l] := by
          rw [Heap.size_push]
          simp only [List.mem_cons, List.mem_singleton, List.not_mem_nil, or_false, not_or]
          exact ⟨Nat.ne_of_lt (Nat.lt_succ_self _), Nat.ne_of_gt lS⟩
        refine fill ((Walks.tuple hd3 _ l neI items).toS) s.heap.objs.size nf val hv room (items.size - 0) 0 _ (by omega) (Nat.zero_le _) ⟨⟨_, Heap.get?_push_size _ rfl, rfl, rfl⟩, tl1.push _⟩ ?hS0 ?hR
        case hS0 =>
          have eg : ((s.heap.push { cls := .type "set", dict := none, data := .set #[] 0 (.fresh 0 0 led) }).push { cls := .type "tuple_iterator", data := .fields #[.ref l, .int 0 0] }).get? s.heap.objs.size = some { cls := .type "set", dict := none, data := .set #[] 0 (.fresh 0 0 led) } := Heap.get?_push_of_some _ eS
          exact (setObjOf_fresh (knd := knd) led).setOf eg (by unfold scanBound; omega)
        case hR =>
          intro s' mv hS'
          obtain ⟨g, gg, d', tk', os'⟩ := s'
          have e1 : gg = s.gens := mv.gens
          have e2 : d' = s.drawn := mv.drawn
          have e3 : os' = s.os := mv.os
          subst e1
          subst e2
          subst e3
          show wpAny _ _ _ _ _ _
          refine wpAny_pure ?_
          show wpAny _ _ (ret Value.none) _ _ _
          refine wpAny_pure ⟨rfl, g, tk', rfl, hS', fun b o hb e => ?_⟩
          have hb2 : b ≠ (s.heap.push { cls := .type "set", dict := none, data := .set #[] 0 (.fresh 0 0 led) }).objs.size := by
            rw [Heap.size_push]
            exact Nat.ne_of_lt (Nat.lt_succ_of_lt hb)
          exact mv.heap b o (by simp only [List.mem_cons, List.mem_singleton, List.not_mem_nil, or_false, not_or]; exact ⟨Nat.ne_of_lt hb, hb2⟩) (Heap.get?_push_of_some _ (Heap.get?_push_of_some _ e))
      · cases r₂ with
        | error e => exact hr₂
        | ok fl₂ =>
          cases fl₂ with
          | ret r =>
            obtain ⟨rfl, g, tk, rfl, hS', hk'⟩ := hr₂
            repeat (any_goals (first | assumption | wp_step))
            exact q _ _ hS' hk'
          | _ => exact hr₂.elim
    | _ => exact hr.elim
set_option maxHeartbeats 6400000 in
theorem call_set_list {prog : Program} {w : World} {A : Around} {E : Value → Shared → Prop} {s : Shared} {K : Type} [DecidableEq K] {knd : KeyKind prog w K} {l : Addr} {items : Array Value} {val : Nat → K} {Q : Value → Shared → Prop}
    (hd : A.handled = none) (tl : s.heap.IsList l items) (hv : ∀ i v, items[i]? = some v → knd.is (val i) v = true ∧ v.scannable = true) (room : items.size + 1 < scanBound)
    (q : ∀ (g : Heap) (tk : Nat), g.SetOf knd s.heap.objs.size (have_ val items.size) (many val items.size) → (∀ b o, b < s.heap.objs.size → s.heap.get? b = some o → g.get? b = some o) → Q (.ref s.heap.objs.size) { s with heap := g, toks := tk }) :
    wpAny (model prog w) A (call (.type "set") [.ref l]) Q E s := by
  obtain ⟨c, tl', hmro⟩ := PySem.F.called_set.mro
  have hmade := PySem.F.called_set.made
  have hsub := PySem.F.called_set.sub
  refine wpAny_call (codeAny_of_tree ?_)
  show wpAny _ _ (callAny (.type "set") _) _ _ _
  refine wpAny_pure ⟨Code.quiet_builtin _ (by decide +kernel), codeAny_builtin PySem.F.entry_type_call ?_⟩
  rw [Around.under_plain (weight_type_call_type "set" [.ref l] []) rfl]
  have h1 := PySem.F.called_set.notType
  have h2 := PySem.F.called_set.canCreate
  have hct := PySem.F.typeCall_set_1 (.ref l)
  repeat (any_goals (first | assumption | wp_step))
  refine codeAny_mono (code_set_new_1 (.ref l) (E := E) (Q₁ := fun ob s₁ => ∃ led : Bool, ob = .ref s.heap.objs.size ∧ s₁ = { s with heap := s.heap.push { cls := .type "set", dict := none, data := .set #[] 0 (.fresh 0 0 led) } }) fun led => ⟨led, rfl, rfl⟩) fun r s₁ hr => ?_
  cases r with
  | error e => exact hr
  | ok fl =>
    cases fl with
    | ret ob =>
      obtain ⟨led, rfl, rfl⟩ := hr
      have eS : (s.heap.push { cls := .type "set", dict := none, data := .set #[] 0 (.fresh 0 0 led) }).get? s.heap.objs.size = some { cls := .type "set", dict := none, data := .set #[] 0 (.fresh 0 0 led) } := Heap.get?_push_size _ rfl
      have tS : Shared.TypeIs { s with heap := s.heap.push { cls := .type "set", dict := none, data := .set #[] 0 (.fresh 0 0 led) } } (.ref s.heap.objs.size) "set" := ⟨_, eS, rfl⟩
      have hli := PySem.F.called_set.init.lookup
      have hbi := PySem.F.called_set.init.bind (.ref s.heap.objs.size)
      repeat (any_goals (first | assumption | wp_step))
      refine codeAny_mono (codeAny_call_builtin (R := wants (fun r s₂ => r = .none ∧ ∃ g tk, s₂ = { s with heap := g, toks := tk } ∧ g.SetOf knd s.heap.objs.size (have_ val items.size) (many val items.size) ∧
          (∀ b o, b < s.heap.objs.size → s.heap.get? b = some o → g.get? b = some o)) E) PySem.F.called_set.init.plain PySem.F.entry_set_init (check_set_init_1 tS ?_)) fun r₂ s₂ hr₂ => ?_
      · obtain ⟨⟨oc, od, odt, osl⟩, eol, ecl, nl, edl⟩ := tl
        simp only at ecl edl
        subst ecl
        subst edl
        have eol' : (s.heap.push { cls := .type "set", dict := none, data := .set #[] 0 (.fresh 0 0 led) }).get? l = some { cls := .type "list", dict := od, data := .seq items nl, slots := osl } := Heap.get?_push_of_some _ eol
        have hsls := PySem.F.sub_list_set
        have hslf := PySem.F.sub_list_frozenset
        have hne : (Value.type "list" == Value.type "dict") = false := by decide
        have tl1 : (s.heap.push { cls := .type "set", dict := none, data := .set #[] 0 (.fresh 0 0 led) }).IsList l items := ⟨_, eol', rfl, nl, rfl⟩
        unfold Builtin.«set.__init__» noKeywords Builtin.Frozenset.updateFrom
        generalize hPI : pyIter = PI
        wp_walk
        subst hPI
        refine wpAny_pyIter_list tl1 (wpAny_bind (wpAny_runValue ?_))
        have lS : l < s.heap.objs.size := Heap.lt_size eol
        have hd3 : A.in1.in1.in1.handled = none := by simp [hd]
        have neI : l ≠ (s.heap.push { cls := .type "set", dict := none, data := .set #[] 0 (.fresh 0 0 led) }).objs.size := by
          rw [Heap.size_push]
          exact Nat.ne_of_lt (Nat.lt_succ_of_lt lS)
        have nf : s.heap.objs.size ∉ [(s.heap.push { cls := .type "set", dict := none, data := .set #[] 0 (.fresh 0 0 led) }).objs.size, l] := by
          rw [Heap.size_push]
          simp only [List.mem_cons, List.mem_singleton, List.not_mem_nil, or_false, not_or]
          exact ⟨Nat.ne_of_lt (Nat.lt_succ_self _), Nat.ne_of_gt lS⟩
        refine fill ((Walks.list hd3 _ l neI items).toS) s.heap.objs.size nf val hv room (items.size - 0) 0 _ (by omega) (Nat.zero_le _) ⟨⟨_, Heap.get?_push_size _ rfl, rfl, rfl⟩, tl1.push _⟩ ?hS0 ?hR
        case hS0 =>
          have eg : ((s.heap.push { cls := .type "set", dict := none, data := .set #[] 0 (.fresh 0 0 led) }).push { cls := .type "list_iterator", data := .fields #[.ref l, .int 0 0] }).get? s.heap.objs.size = some { cls := .type "set", dict := none, data := .set #[] 0 (.fresh 0 0 led) } := Heap.get?_push_of_some _ eS
          exact (setObjOf_fresh (knd := knd) led).setOf eg (by unfold scanBound; omega)
        case hR =>
          intro s' mv hS'
          obtain ⟨g, gg, d', tk', os'⟩ := s'
          have e1 : gg = s.gens := mv.gens
          have e2 : d' = s.drawn := mv.drawn
          have e3 : os' = s.os := mv.os
          subst e1
          subst e2
          subst e3
          show wpAny _ _ _ _ _ _
          refine wpAny_pure ?_
          show wpAny _ _ (ret Value.none) _ _ _
          refine wpAny_pure ⟨rfl, g, tk', rfl, hS', fun b o hb e => ?_⟩
          have hb2 : b ≠ (s.heap.push { cls := .type "set", dict := none, data := .set #[] 0 (.fresh 0 0 led) }).objs.size := by
            rw [Heap.size_push]
            exact Nat.ne_of_lt (Nat.lt_succ_of_lt hb)
          exact mv.heap b o (by simp only [List.mem_cons, List.mem_singleton, List.not_mem_nil, or_false, not_or]; exact ⟨Nat.ne_of_lt hb, hb2⟩) (Heap.get?_push_of_some _ (Heap.get?_push_of_some _ e))
      · cases r₂ with
        | error e => exact hr₂
        | ok fl₂ =>
          cases fl₂ with
          | ret r =>
            obtain ⟨rfl, g, tk, rfl, hS', hk'⟩ := hr₂
            repeat (any_goals (first | assumption | wp_step))
            exact q _ _ hS' hk'
          | _ => exact hr₂.elim
    | _ => exact hr.elim
theorem many_inj {K : Type} [DecidableEq K] {val : Nat → K} : ∀ {n : Nat}, (∀ a b, a < n → b < n → val a = val b → a = b) → many val n = n
  | 0, _ => rfl
  | n + 1, inj => by
    unfold many
    rw [have_new (Nat.lt_succ_self n) inj, many_inj fun a b ha hb => inj a b (by omega) (by omega)]
    rfl
theorem many_all {K : Type} [DecidableEq K] {val : Nat → K} : ∀ {n : Nat}, many val n = n → ∀ a b, a < b → b < n → val a ≠ val b
  | 0, _, _, _, _, hb => absurd hb (Nat.not_lt_zero _)
  | n + 1, e, a, b, hab, hb => by
    unfold many at e
    have hn := many_le val n
    split at e
    · omega
    · rename_i hh
      rcases Nat.lt_or_ge b n with z | z
      · exact many_all (by omega) a b hab z
      · have eb : b = n := by omega
        subst eb
        intro ev
        refine hh ?_
        unfold have_
        rw [List.any_eq_true]
        exact ⟨val a, List.mem_map_of_mem (List.mem_range.mpr hab), decide_eq_true ev⟩
end SX
set_option Elab.async false
set_option linter.all false
set_option maxRecDepth 100000
set_option maxHeartbeats 4000000
namespace L2
open PySem PySem.Spec PyProof.Rows
def setΦ (P : Program) (w : World) (a : Addr) (n : Nat) : Heap → Prop := fun h => ∃ S : Str → Bool, h.SetOf (PySem.strKind P w) a S n
theorem strs_at {ns : List Str} {its : List Value} (r : Vals (ns.map V.str) its) {i : Nat} {v : Value} (h : its.toArray[i]? = some v) : ∃ t, v = .str (ns.getD i default) t := by
  have hl := r.length
  rw [List.length_map] at hl
  have h' : its[i]? = some v := by simpa using h
  have hi : i < its.length := (List.getElem?_eq_some_iff.mp h').1
  have hn : (ns.map V.str)[i]? = some (.str ns[i]) := by rw [List.getElem?_map, List.getElem?_eq_getElem (by omega)]; rfl
  obtain ⟨u, hu, t, ru⟩ := r.get hn
  rw [h'] at hu
  cases hu
  exact ⟨t, by rw [ru, List.getD_eq_getElem?_getD, List.getElem?_eq_getElem (by omega)]; rfl⟩
theorem nodup_getD {ns : List Str} (h : ns.Nodup) : ∀ a b, a < ns.length → b < ns.length → ns.getD a default = ns.getD b default → a = b := by
  intro a b ha hb e
  rw [List.getD_eq_getElem?_getD, List.getD_eq_getElem?_getD, List.getElem?_eq_getElem ha, List.getElem?_eq_getElem hb] at e
  have e' : ns[a] = ns[b] := e
  rw [List.nodup_iff_pairwise_ne, List.pairwise_iff_getElem] at h
  rcases Nat.lt_trichotomy a b with z | z | z
  · exact absurd e' (h a b ha hb z)
  · exact z
  · exact absurd e'.symm (h b a hb ha z)
/-- how many unlike texts -/
def manyS (ns : List Str) : Nat := SX.many (fun i => ns.getD i default) ns.length
theorem manyS_nodup {ns : List Str} (h : ns.Nodup) : manyS ns = ns.length := SX.many_inj (nodup_getD h)
theorem nodup_manyS {ns : List Str} (h : manyS ns = ns.length) : ns.Nodup := by
  rw [List.nodup_iff_pairwise_ne, List.pairwise_iff_getElem]
  intro i j hi hj hij e
  refine SX.many_all h i j hij hj ?_
  rw [List.getD_eq_getElem?_getD, List.getD_eq_getElem?_getD, List.getElem?_eq_getElem hi, List.getElem?_eq_getElem hj]
  exact e
def rSetG (K : PySem.W.Frag) (P : Program) (w : World) : List V → Hp → VK → Prop := fun xs H Q => ∃ (p : Addr) (ns : List Str), xs = [.ref p] ∧ (SqL K H p (ns.map V.str) ∨ SqT K H p (ns.map V.str)) ∧ ns.length ≤ 4000 ∧ ∀ a, H a = none → Q (.ref a) (upd H a (.ext (setΦ P w a (manyS ns))))
theorem call_setG {X : Cx} (hc : X.calm = true) : CallR X (.type "set") (rSetG X.K X.prog X.w) := by
  intro pins s σ H xs us Q I r h
  obtain ⟨p, ns, rfl, hp, hz, q⟩ := h
  obtain ⟨u, rfl, rx⟩ := vals1 r
  cases rx
  have fin : ∀ (n : Nat), n = ns.length → ∀ (g : Heap) (tk : Nat), g.SetOf (PySem.strKind X.prog X.w) s.heap.objs.size (SX.have_ (fun i => ns.getD i default) n) (SX.many (fun i => ns.getD i default) n) → (∀ b o, b < s.heap.objs.size → s.heap.get? b = some o → g.get? b = some o) →
      EP X pins σ Q (.ref s.heap.objs.size) { s with heap := g, toks := tk } := by
    intro n en g tk hS kp
    subst en
    refine ⟨.ref s.heap.objs.size, _, I.laid (t' := tk) (o := .ext (setΦ X.prog X.w s.heap.objs.size (manyS ns))) (fun b o e => kp b o (Heap.lt_size e) e) (Nat.le_refl _) ?_, rfl, q _ I.fresh⟩
    refine ⟨⟨_, hS⟩, ?_, fun h1 h2 ⟨S, o, es, ep, t, eo, rest⟩ k => ⟨S, o, es, ep, t, k o eo, rest⟩⟩
    obtain ⟨o, es, ep, t, eo, _⟩ := hS
    exact ⟨o, eo⟩
  rcases hp with hp | hp
  · obtain ⟨its, rv, pl, hzz⟩ := I.list hp
    have hl := rv.length
    rw [List.length_map] at hl
    have hsz : its.toArray.size = ns.length := by simp [hl]
    refine SX.call_set_list (knd := PySem.strKind X.prog X.w) (val := fun i => ns.getD i default) (I.ok.hd hc) pl.isList (fun i v hv => ?_) (by rw [hsz]; unfold scanBound; omega) fun g tk hS kp => fin _ hsz g tk hS kp
    obtain ⟨t, rfl⟩ := strs_at rv hv
    exact ⟨by simp [PySem.strKind, Value.isStrOf], rfl⟩
  · obtain ⟨its, rv, pl, hzz⟩ := I.tuple hp
    have hl := rv.length
    rw [List.length_map] at hl
    have hsz : its.toArray.size = ns.length := by simp [hl]
    refine SX.call_set_tuple (knd := PySem.strKind X.prog X.w) (val := fun i => ns.getD i default) (I.ok.hd hc) pl (fun i v hv => ?_) (by rw [hsz]; unfold scanBound; omega) fun g tk hS kp => fin _ hsz g tk hS kp
    obtain ⟨t, rfl⟩ := strs_at rv hv
    exact ⟨by simp [PySem.strKind, Value.isStrOf], rfl⟩
theorem call_len_setS {X : Cx} : CallR X (.builtin "len") (fun xs H Q => ∃ (p : Addr) (n : Nat), xs = [.ref p] ∧ H p = some (.ext (setΦ X.prog X.w p n)) ∧ Q (.int (n : Nat)) H) := by
  intro pins s σ H xs us Q I r h
  obtain ⟨p, n, rfl, hp, q⟩ := h
  obtain ⟨u, rfl, rx⟩ := vals1 r
  cases rx
  obtain ⟨⟨S, o, es, ep, t, eo, ex, ed, _, _, hb, hf, hn⟩, _⟩ := (show ObjOk X.prog X.w H s.heap p (.ext (setΦ X.prog X.w p n)) from I.hok p _ hp)
  refine call_len_set eo ex ed hf (by unfold scanBound at hb; omega) ?_
  rw [hn]
  exact ⟨.int (n : Nat), H, I.tok _, ⟨_, rfl⟩, q⟩
end L2
set_option Elab.async false
set_option linter.all false
set_option maxRecDepth 100000
set_option maxHeartbeats 4000000
namespace L2
open PySem PySem.Spec PyProof.Rows
end L2
set_option Elab.async false
set_option linter.all false
set_option maxRecDepth 100000
set_option maxHeartbeats 4000000
namespace ZZ
open PySem
open Sem (wp)
section
variable {prog : Program} {w : World} {A : Around} {E : Value → Shared → Prop} {s : Shared}
theorem zip_end2 {z TI TO i1 i2 t1 t2 : Addr} {n1 n2 : Nat} {us vs : Array Value} {x a b : Value} {Q : Fin → Shared → Prop} (hd : A.handled = none) (D : ZT.Apart z TI TO i1 i2 t1 t2) (zz : IsZip s.heap z TI TO .none) (zi : IsPair s.heap TI (.ref i1) (.ref i2)) (zo : IsPair s.heap TO a b)
    (r1 : s.heap.IsTupleIter i1 t1 n1) (r2 : s.heap.IsTupleIter i2 t2 n2) (u1 : s.heap.IsTuple t1 us) (u2 : s.heap.IsTuple t2 vs) (x1 : us[n1]? = some x) (x2 : vs[n2]? = none)
    (k : ∀ g e, (∀ c o, c ≠ z → c ≠ TO → c ≠ i1 → c ≠ i2 → s.heap.get? c = some o → g.get? c = some o) → (∃ o, g.get? e = some o ∧ o.cls = .type "StopIteration") → E (.ref e) { s with heap := g }) :
    wpAny (model prog w) A (Builtin.«zip.__next__» ⟨[.ref z], []⟩) Q E s := by
  show wpAny _ _ (field (.ref z) 2 >>= _) _ _ _
  refine wpAny_bind (wpAny_field zz rfl (x := .bool false) rfl ?_)
  show wpAny _ _ (field (.ref z) 3 >>= _) _ _ _
  refine wpAny_bind (wpAny_field zz rfl (x := .ref TI) rfl ?_)
  refine wpAny_bind (wpAny_seqItems zi rfl ?_)
  show wpAny _ _ (Builtin.SmallTypes.ownedTupleIsFree (.ref z) >>= _) _ _ _
  refine wpAny_bind ?_
  unfold Builtin.SmallTypes.ownedTupleIsFree
  refine wpAny_bind (wpAny_field zz rfl (x := .none) rfl (wpAny_pure ?_))
  simp only [if_true]
  refine wpAny_bind (wpAny_rule ?_)
  refine wpAny_bind (wpAny_field zz rfl (x := .ref TO) rfl ?_)
  refine wpAny_bind (wpAny_setField_rec zz (by simp) fun g1 zg1 s1 => ?_)
  replace zg1 : IsZip g1 z TI TO .ellipsis := zg1
  refine wpAny_bind ?_
  simp only [List.zipIdx_cons, List.zipIdx_nil, List.forIn_cons, List.forIn_nil]
  refine wpAny_bind (wpAny_bind (wpAny_onRaise ?_))
  show wpAny _ _ (Builtin.SmallTypes.nextOf (.ref i1) >>= _) _ _ _
  refine wpAny_bind (ZT.tup_item (r1.extBut s1.extBut D.a3) (u1.extBut s1.extBut D.c1) x1 fun g2 rg2 s2 => wpAny_pure ?_)
  have zo2 : IsPair g2 TO a b := s2.extBut _ _ D.b4 (s1.extBut _ _ D.a2 zo)
  refine wpAny_bind (wpAny_seqItems zo2 rfl ?_)
  refine wpAny_bind (wpAny_updateSeq_pair zo2 fun g3 zo3 s3 => ?_)
  replace zo3 : IsPair g3 TO x b := zo3
  refine wpAny_bind (wpAny_letGo (wpAny_pure ?_))
  refine wpAny_bind (wpAny_bind (wpAny_onRaise ?_))
  show wpAny _ _ (Builtin.SmallTypes.nextOf (.ref i2) >>= _) _ _ _
  refine wpAny_bind (ZT.tup_end hd (((r2.extBut s1.extBut D.a4).extBut s2.extBut D.b6.symm).extBut s3.extBut D.b5.symm) (((u2.extBut s1.extBut D.d1).extBut s2.extBut D.d3).extBut s3.extBut D.d2) x2 fun g4 e s4 he => ?_)
  obtain ⟨oe, eoe, ece⟩ := he
  have zg4 : IsZip g4 z TI TO .ellipsis := s4 _ _ D.a4.symm (s3.extBut _ _ D.a2.symm (s2.extBut _ _ D.a3.symm zg1))
  have nez : e ≠ z := fun q => by subst q; rw [zg4] at eoe; cases eoe; simp at ece
  exact wpAny_setField_rec zg4 (by simp) fun g5 _ s5 => k g5 e (fun c o e1 e2 e3 e4 q => s5.extBut _ _ e1 (s4 _ _ e4 (s3.extBut _ _ e2 (s2.extBut _ _ e3 (s1.extBut _ _ e1 q))))) ⟨oe, s5.extBut _ _ nez eoe, ece⟩
theorem next_end2 {z TI TO i1 i2 t1 t2 : Addr} {n1 n2 : Nat} {us vs : Array Value} {x a b : Value} {Q : Option Value → Shared → Prop} (hd : A.handled = none) (D : ZT.Apart z TI TO i1 i2 t1 t2) (zz : IsZip s.heap z TI TO .none) (zi : IsPair s.heap TI (.ref i1) (.ref i2)) (zo : IsPair s.heap TO a b)
    (r1 : s.heap.IsTupleIter i1 t1 n1) (r2 : s.heap.IsTupleIter i2 t2 n2) (u1 : s.heap.IsTuple t1 us) (u2 : s.heap.IsTuple t2 vs) (x1 : us[n1]? = some x) (x2 : vs[n2]? = none)
    (k : ∀ g, (∀ c o, c ≠ z → c ≠ TO → c ≠ i1 → c ≠ i2 → s.heap.get? c = some o → g.get? c = some o) → Q none { s with heap := g }) : wpAny (model prog w) A (pyNext (.ref z)) Q E s := by
  have tz : s.TypeIs (.ref z) "zip" := ⟨_, zz, rfl⟩
  unfold pyNext
  refine wpAny_bind (wpAny_attempt (wpAny_callSpecial?_slot (name := Str.ofString "__next__") tz F.slot_zip_next (wpAny_call_entry F.slot_zip_next tz F.entry_zip_next (zip_end2 hd D zz zi zo r1 r2 u1 u2 x1 x2 fun g e kk he => ?_) (F.args_zip_next_1 _))))
  obtain ⟨o, eo, ec⟩ := he
  exact wpAny_bind (wpAny_isInstance (T := "StopIteration") (b := true) ⟨o, eo, ec⟩ isSubtype_stop (wpAny_pure (k _ kk)))
end
end ZZ
namespace L2
open PySem PySem.Spec PyProof.Rows
def Itz2 (K : PySem.W.Frag) (a b : Addr) : It :=
  ⟨(Itz K a b).go, (Itz K a b).yld, fun i H => (∃ xs, SqT K H a xs ∧ xs.length ≤ i) ∨ ∃ xs ys x, SqT K H a xs ∧ SqT K H b ys ∧ xs[i]? = some x ∧ ys.length ≤ i⟩
theorem turn_zip2 {P : Program} {w : World} {K : PySem.W.Frag} {elts : List Expr} {k1 : Nat} {p1 : Pos} (a b z TI TO i1 i2 : Addr) (D : ZT.Apart z TI TO i1 i2 a b) :
    Turn P w K (.Tuple elts k1 p1) (Itz2 K a b) [z, TI, TO, i1, i2] z (fun i h => IsZip h z TI TO .none ∧ IsPair h TI (.ref i1) (.ref i2) ∧ (∃ u v, IsPair h TO u v) ∧ h.IsTupleIter i1 a i ∧ h.IsTupleIter i2 b i) where
  mem := (turn_zip (P := P) (w := w) (K := K) (elts := elts) (k1 := k1) (p1 := p1) a b z TI TO i1 i2 D).mem
  obj := (turn_zip (P := P) (w := w) (K := K) (elts := elts) (k1 := k1) (p1 := p1) a b z TI TO i1 i2 D).obj
  keep := (turn_zip (P := P) (w := w) (K := K) (elts := elts) (k1 := k1) (p1 := p1) a b z TI TO i1 i2 D).keep
  item := (turn_zip (P := P) (w := w) (K := K) (elts := elts) (k1 := k1) (p1 := p1) a b z TI TO i1 i2 D).item
  self := (turn_zip (P := P) (w := w) (K := K) (elts := elts) (k1 := k1) (p1 := p1) a b z TI TO i1 i2 D).self
  done := by
    intro X hP hw hK hc i pins s σ H E I hf st hg
    rcases hg with hg | ⟨xs, ys, x, ha, hb, hx, hy⟩
    · exact (turn_zip (P := P) (w := w) (K := K) (elts := elts) (k1 := k1) (p1 := p1) a b z TI TO i1 i2 D).done X hP hw hK hc i pins s σ H E I hf st hg
    · subst hP hw hK
      obtain ⟨z1, z2, ⟨u, v, z3⟩, r1, r2⟩ := st
      obtain ⟨ita, va, pa, _⟩ := I.tuple ha
      obtain ⟨itb, vb, pb, _⟩ := I.tuple hb
      obtain ⟨ux, eux, rx⟩ := va.get hx
      have hl := vb.length
      refine ZZ.next_end2 (I.ok.hd hc) D z1 z2 z3 r1 r2 (show s.heap.IsTuple a ita.toArray from pa) (show s.heap.IsTuple b itb.toArray from pb) (x := ux) (by simpa using eux) (by simp; omega) fun g g7 => ⟨rfl, ?_⟩
      refine I.turnedL (t' := s.toks) (ch := [z, TO, i1, i2]) (fun c o hc q => ?_) fun c hc => hf c ?_
      · have hc' : ¬ (c = z ∨ c = TO ∨ c = i1 ∨ c = i2) := by simpa using hc
        exact g7 c o (fun e => hc' (.inl e)) (fun e => hc' (.inr (.inl e))) (fun e => hc' (.inr (.inr (.inl e)))) (fun e => hc' (.inr (.inr (.inr e)))) q
      · have hc' : c = z ∨ c = TO ∨ c = i1 ∨ c = i2 := by simpa using hc
        rcases hc' with rfl | rfl | rfl | rfl <;> simp
def iZip2 (K : PySem.W.Frag) (ta : TA) : TI := fun σ H R => ta σ H fun vs H1 => ∃ a b, vs = [.ref a, .ref b] ∧ (∃ xs, SqT K H1 a xs) ∧ (∃ ys, SqT K H1 b ys) ∧ R (Itz2 K a b) H1
theorem pi_zip2 {X : Cx} {elts : List Expr} {k1 : Nat} {p1 : Pos} {a b : Expr} {ta : TA} {p pos : Pos} (hg : Gl X "zip") (hm : X.mg "zip" = none) (ha : PA X [a, b] ta) (hs : starEach [a, b] X.env = [(false, eval a X.env), (false, eval b X.env)] := by rfl)
    (hs2 : starEach [b] X.env = [(false, eval b X.env)] := by rfl) : PI X (.Tuple elts k1 p1) (.Call (.Name "zip" p) [a, b] [] pos) (iZip2 X.K ta) := by
  intro pins s σ H R I h
  refine Call_ (ld_blt I hg hm boot_zip' (PyProof.Rows.callWith_type1 (thn (ha pos pins s σ H _ I h) fun us s1 ⟨vs, H1, I1, r1, q1⟩ => ?_) (by rw [hs, hs2]) (by rw [hs2]; rfl)))
  obtain ⟨l1, l2, e, ⟨xs, hq⟩, ⟨ys, hq'⟩, q⟩ := q1
  subst e
  cases r1 with
  | cons r rr =>
    cases rr with
    | cons r' rr =>
      cases rr
      cases r
      cases r'
      obtain ⟨ita, va, pa, _⟩ := I1.tuple hq
      obtain ⟨itb, vb, pb, _⟩ := I1.tuple hq'
      have la : l1 < s1.heap.objs.size := pa.lt
      have lb : l2 < s1.heap.objs.size := pb.lt
      refine ZT.call_zip (show s1.heap.IsTuple l1 ita.toArray from pa) (show s1.heap.IsTuple l2 itb.toArray from pb) fun g g1 g2 g3 g4 g5 g6 g7 => ?_
      refine wpAny_pyIter_zip g1 ?_
      have I2 : Inv X pins σ H1 { s1 with heap := g } := I1.kept (t' := s1.toks) g7
      have D : ZT.Apart (s1.heap.objs.size + 4) (s1.heap.objs.size + 2) (s1.heap.objs.size + 3) s1.heap.objs.size (s1.heap.objs.size + 1) l1 l2 := by
        constructor <;> (apply ne_nat; first | exact Or.inl (by omega) | exact Or.inr (by omega) | exact Or.inl (Nat.lt_of_lt_of_le (by assumption) (by omega)))
      refine ⟨s1.heap.objs.size + 4, _, _, _, H1, rfl, I2, turn_zip2 l1 l2 _ _ _ _ _ D, ⟨g1, g2, ⟨_, _, g3⟩, g4, g5⟩, fun c hc => ?_, q⟩
      have hc' : c = s1.heap.objs.size + 4 ∨ c = s1.heap.objs.size + 2 ∨ c = s1.heap.objs.size + 3 ∨ c = s1.heap.objs.size ∨ c = s1.heap.objs.size + 1 := by simpa using hc
      have hle : s1.heap.objs.size ≤ c := by rcases hc' with rfl | rfl | rfl | rfl | rfl <;> omega
      exact I1.fpOk hle (I1.hok.fresh hle)
end L2
set_option Elab.async false
set_option linter.all false
set_option maxRecDepth 100000
set_option maxHeartbeats 4000000
namespace L2
open PySem PySem.Spec PyProof.Rows
end L2
set_option Elab.async false
set_option linter.all false
set_option maxRecDepth 100000
set_option maxHeartbeats 4000000
namespace L2
open PySem PySem.Spec PyProof.Rows
end L2
set_option Elab.async false
set_option linter.all false
set_option maxRecDepth 100000
set_option maxHeartbeats 1000000
namespace SO
open PySem PySem.W PyProof.Rows
variable {O : KeyOrd} {key : Nat → O.α} {N : Nat}
/-- the key at a place of the row of places -/
def KN (key : Nat → O.α) (p : Array Nat) (i : Nat) : O.α := key (p.getD i 0)
def SortedN (key : Nat → O.α) (p : Array Nat) (k : Nat) : Prop := ∀ i j, i ≤ j → j < k → O.kle (KN key p i) (KN key p j)
def FallN (key : Nat → O.α) (p : Array Nat) (k : Nat) : Prop := ∀ i j, i ≤ j → j < k → O.kle (KN key p j) (KN key p i)
def InN (N : Nat) (p : Array Nat) : Prop := p.toList.Perm (List.range N)
theorem InN.size {p : Array Nat} (h : InN N p) : p.size = N := by simpa using h.length_eq
theorem InN.lt {p : Array Nat} (h : InN N p) {i : Nat} (hi : i < N) : p.getD i 0 < N := by
  have hs : i < p.size := by rw [h.size]; exact hi
  have e : p.getD i 0 = p[i] := by simp [Array.getD, hs]
  rw [e]
  exact List.mem_range.mp (h.mem_iff.mp (by simp))
theorem InN.of {p q : Array Nat} (h : InN N p) (g : q.Perm p) : InN N q := (Array.perm_iff_toList_perm.mp g).trans h
theorem KN_congr {p q : Array Nat} {i j : Nat} (h : p[i]? = q[j]?) : KN key p i = KN key q j := by
  unfold KN
  rw [Array.getD_eq_getD_getElem?, Array.getD_eq_getD_getElem?, h]
theorem KN_bubble {p : Array Nat} {src d : Nat} (hs : src < p.size) (hd : d ≤ src) (k : Nat) :
    KN key (bubble p src d) k = if k = src - d then KN key p src else if src - d < k ∧ k ≤ src then KN key p (k - 1) else KN key p k := by
  have e := getElem?_bubble hs d hd k
  by_cases h1 : k = src - d
  · rw [if_pos h1] at e ⊢; exact KN_congr e
  · rw [if_neg h1] at e ⊢
    by_cases h2 : src - d < k ∧ k ≤ src
    · rw [if_pos h2] at e ⊢; exact KN_congr e
    · rw [if_neg h2] at e ⊢; exact KN_congr e
theorem KN_rev {p : Array Nat} {i j : Nat} (hj : j ≤ p.size) (k : Nat) : KN key (kas_rev p i j) k = if i ≤ k ∧ k < j then KN key p (i + j - 1 - k) else KN key p k := by
  have e := getElem?_mirror_all (i := i) hj k
  unfold kas_rev
  by_cases h1 : i ≤ k ∧ k < j
  · rw [if_pos h1] at e ⊢; exact KN_congr e
  · rw [if_neg h1] at e ⊢; exact KN_congr e
theorem KN_rev_equal {p : Array Nat} {i j : Nat} (hj : j ≤ p.size) (heq : ∀ k, i ≤ k → k < j → KN key p k = KN key p (j - 1)) (k : Nat) : KN key (kas_rev p i j) k = KN key p k := by
  rw [KN_rev hj]
  split
  · rw [heq _ (by omega) (by omega), heq k (by omega) (by omega)]
  · rfl
theorem InN.rev {p : Array Nat} (h : InN N p) (i j : Nat) : InN N (kas_rev p i j) := h.of (mirror_perm _ _ _ _)
section
variable {cmp : Nat → Nat → (Bool → Shared → Prop) → Shared → Prop} {s : Shared}
/-- what a comparison answers: the order of the keys, and nothing is changed -/
def Cmp (key : Nat → O.α) (N : Nat) (cmp : Nat → Nat → (Bool → Shared → Prop) → Shared → Prop) (s : Shared) : Prop :=
  ∀ (i j : Nat) (C : Bool → Shared → Prop), i < N → j < N → C (O.blt (key i) (key j)) s → cmp i j C s
theorem ask {α : Type} {p : Array Nat} {i j : Nat} {k : Bool → KasT α} {G : α → Shared → Prop} (hc : Cmp key N cmp s) (hp : InN N p) (hi : i < N) (hj : j < N)
    (h : (k (O.blt (KN key p i) (KN key p j))).kasWp cmp G s) : (KasT.ask (p.getD i 0) (p.getD j 0) k).kasWp cmp G s :=
  hc _ _ _ (hp.lt hi) (hp.lt hj) h
theorem asc {p : Array Nat} {G : Nat → Shared → Prop} {nrem : Nat} (hc : Cmp key N cmp s) (hp : InN N p) (hN : nrem ≤ N) : ∀ (f n : Nat), 1 ≤ n → n + f = nrem → SortedN key p n →
    (∀ m, n ≤ m → m ≤ nrem → SortedN key p m → (m = nrem ∨ O.klt (KN key p m) (KN key p (m - 1))) → G m s) → (kas_asc p f n).kasWp cmp G s
  | 0, n, h1, hf, hs, h => h n (Nat.le_refl _) (by omega) hs (.inl (by omega))
  | f + 1, n, h1, hf, hs, h => by
    unfold kas_asc
    refine ask hc hp (by omega) (by omega) ?_
    cases hl : O.blt (KN key p n) (KN key p (n - 1)) with
    | true =>
      rw [if_pos rfl]
      exact h n (Nat.le_refl _) (by omega) hs (.inr hl)
    | false =>
      rw [if_neg (by simp)]
      refine asc hc hp hN f (n + 1) (by omega) (by omega) (fun i j hij hj => ?_) fun m a b c d => h m (by omega) b c d
      by_cases hjx : j < n
      · exact hs i j hij hjx
      · have hj' : j = n := by omega
        subst hj'
        by_cases hi' : i = j
        · subst hi'; exact KeyOrd.kle_refl _
        · exact KeyOrd.kle_trans (hs i (j - 1) (by omega) (by omega)) hl
theorem desc {G : Array Nat × Nat × Nat → Shared → Prop} {nrem : Nat} (hc : Cmp key N cmp s) (hN : nrem ≤ N) : ∀ (f : Nat) (p : Array Nat) (n q : Nat), InN N p → 1 ≤ n → n + f = nrem → FallN key p n → q + 1 ≤ n →
    (∀ i, n - (q + 1) ≤ i → i < n → KN key p i = KN key p (n - 1)) →
    (∀ p m q, InN N p → n ≤ m → m ≤ nrem → FallN key p m → q + 1 ≤ m → (∀ i, m - (q + 1) ≤ i → i < m → KN key p i = KN key p (m - 1)) → G (p, m, q) s) → (kas_desc f p n q).kasWp cmp G s
  | 0, p, n, q, hp, h1, hf, hs, hq, he, h => h p n q hp (Nat.le_refl _) (by omega) hs hq he
  | f + 1, p, n, q, hp, h1, hf, hs, hq, he, h => by
    unfold kas_desc
    have hsz : n ≤ p.size := by rw [hp.size]; omega
    refine ask hc hp (by omega) (by omega) ?_
    cases hl : O.blt (KN key p n) (KN key p (n - 1)) with
    | true =>
      rw [if_pos rfl]
      have step1 : ∀ xs : Array Nat, (∀ k, KN key xs k = KN key p k) → FallN key xs (n + 1) := by
        intro xs hk i j hij hj
        rw [hk, hk]
        by_cases hjx : j < n
        · exact hs i j hij hjx
        · have hj' : j = n := by omega
          subst hj'
          by_cases hi' : i = j
          · subst hi'; exact KeyOrd.kle_refl _
          · exact KeyOrd.kle_trans (KeyOrd.kle_of_klt hl) (hs i (j - 1) (by omega) (by omega))
      by_cases hneq : q > 0
      · rw [if_pos hneq]
        exact desc hc hN f _ (n + 1) 0 (hp.rev _ _) (by omega) (by omega) (step1 _ (KN_rev_equal hsz he)) (by omega) (fun i a b => by congr 1; omega) fun p m q x a b c d e => h p m q x (by omega) b c d e
      · rw [if_neg hneq]
        exact desc hc hN f _ (n + 1) 0 hp (by omega) (by omega) (step1 _ fun _ => rfl) (by omega) (fun i a b => by congr 1; omega) fun p m q x a b c d e => h p m q x (by omega) b c d e
    | false =>
      rw [if_neg (by simp)]
      refine ask hc hp (by omega) (by omega) ?_
      cases hg : O.blt (KN key p (n - 1)) (KN key p n) with
      | true =>
        rw [if_pos rfl]
        exact h p n q hp (Nat.le_refl _) (by omega) hs hq he
      | false =>
        rw [if_neg (by simp)]
        have heqx : KN key p n = KN key p (n - 1) := KeyOrd.kle_antisymm hg hl
        refine desc hc hN f p (n + 1) (q + 1) hp (by omega) (by omega) (fun i j hij hj => ?_) (by omega) (fun i a b => ?_) fun p m q x a b c d e => h p m q x (by omega) b c d e
        · by_cases hjx : j < n
          · exact hs i j hij hjx
          · have hj' : j = n := by omega
            subst hj'
            by_cases hi' : i = j
            · subst hi'; exact KeyOrd.kle_refl _
            · rw [heqx]; exact hs i (j - 1) (by omega) (by omega)
        · rw [show n + 1 - 1 = n by omega]
          by_cases hix : i = n
          · subst hix; rfl
          · rw [heqx]; exact he i (by omega) (by omega)
theorem tail3 {p : Array Nat} {n nrem : Nat} {G : Nat × Array Nat → Shared → Prop} (hc : Cmp key N cmp s) (hp : InN N p) (hN : nrem ≤ N) (h1 : 1 ≤ n) (hn : n ≤ nrem) (hs : FallN key p n)
    (h : ∀ m q, InN N q → 1 ≤ m → m ≤ nrem → SortedN key q m → G (m, q) s) : (kas_tail3 n nrem p).kasWp cmp G s := by
  unfold kas_tail3
  rw [KasT.kasWp_bind]
  have hsz : n ≤ p.size := by rw [hp.size]; omega
  refine asc (nrem := nrem) hc (hp.rev _ _) hN _ n h1 (by omega) (fun i j hij hj => ?_) fun m a b c _ => h m _ (hp.rev _ _) (by omega) b c
  rw [KN_rev hsz, KN_rev hsz, if_pos (by omega), if_pos (by omega)]
  exact hs _ _ (by omega) (by omega)
theorem descPart {p : Array Nat} {n nrem : Nat} {G : Nat × Array Nat → Shared → Prop} (hc : Cmp key N cmp s) (hp : InN N p) (hN : nrem ≤ N) (hn : n + 1 ≤ nrem) (hs : FallN key p (n + 1))
    (h : ∀ m q, InN N q → 1 ≤ m → m ≤ nrem → SortedN key q m → G (m, q) s) : (kas_descPart n nrem p).kasWp cmp G s := by
  unfold kas_descPart
  rw [KasT.kasWp_bind]
  refine desc (nrem := nrem) hc hN _ p (n + 1) 0 hp (by omega) (by omega) hs (by omega) (fun i a b => by congr 1; omega) fun p' m q hp' hm1 hm2 hf hq he => ?_
  dsimp only
  have hsz : m ≤ p'.size := by rw [hp'.size]; omega
  by_cases hneq : q > 0
  · rw [if_pos hneq]
    refine tail3 hc (hp'.rev _ _) hN (by omega) hm2 (fun i j hij hj => ?_) h
    rw [KN_rev_equal hsz he, KN_rev_equal hsz he]
    exact hf i j hij hj
  · rw [if_neg hneq]
    exact tail3 hc hp' hN (by omega) hm2 hf h
theorem count {p : Array Nat} {nrem : Nat} {G : Nat × Array Nat → Shared → Prop} (hc : Cmp key N cmp s) (hp : InN N p) (hN : nrem ≤ N) (h1 : 1 ≤ nrem)
    (h : ∀ m q, InN N q → 1 ≤ m → m ≤ nrem → SortedN key q m → G (m, q) s) : (kas_count nrem p).kasWp cmp G s := by
  unfold kas_count
  rw [KasT.kasWp_bind]
  refine asc (nrem := nrem) hc hp hN _ 1 (Nat.le_refl _) (by omega) (fun i j hij hj => by have : i = j := (by omega); subst this; exact KeyOrd.kle_refl _) fun n hn1 hn2 hsn hor => ?_
  by_cases hnn : n = nrem
  · rw [if_pos (by simpa using hnn)]
    exact h n p hp hn1 hn2 hsn
  · rw [if_neg (by simpa using hnn)]
    have hlt : O.klt (KN key p n) (KN key p (n - 1)) := hor.resolve_left hnn
    by_cases hgt : n > 1
    · rw [if_pos hgt]
      refine ask hc hp (by omega) (by omega) ?_
      cases hrose : O.blt (KN key p 0) (KN key p (n - 1)) with
      | true =>
        rw [if_pos rfl]
        exact h n p hp hn1 hn2 hsn
      | false =>
        rw [if_neg (by simp)]
        have hsz : n ≤ p.size := by rw [hp.size]; omega
        have hall : ∀ k, 0 ≤ k → k < n → KN key p k = KN key p (n - 1) := by
          intro k _ hk
          have a1 := hsn 0 k (by omega) hk
          have a2 := hsn k (n - 1) (by omega) (by omega)
          exact KeyOrd.kle_antisymm a2 (KeyOrd.kle_trans hrose a1)
        refine descPart hc (hp.rev _ _) hN (by omega) (fun i j hij hj => ?_) h
        rw [KN_rev_equal hsz hall, KN_rev_equal hsz hall]
        by_cases hjn : j < n
        · rw [hall i (by omega) (by omega), hall j (by omega) hjn]; exact KeyOrd.kle_refl _
        · have hj' : j = n := by omega
          subst hj'
          by_cases hi' : i = j
          · subst hi'; exact KeyOrd.kle_refl _
          · rw [hall i (by omega) (by omega)]; exact KeyOrd.kle_of_klt hlt
    · rw [if_neg hgt]
      have hn1' : n = 1 := by omega
      subst hn1'
      refine descPart hc hp hN (by omega) (fun i j hij hj => ?_) h
      by_cases hi' : i = j
      · subst hi'; exact KeyOrd.kle_refl _
      · have hi0 : i = 0 := by omega
        have hj1 : j = 1 := by omega
        subst hi0; subst hj1
        exact KeyOrd.kle_of_klt hlt
theorem place {p : Array Nat} {k : Nat} {G : Nat → Shared → Prop} (hc : Cmp key N cmp s) (hp : InN N p) (hk : k < N) (hs : SortedN key p k) : ∀ (f l r : Nat), l ≤ r → r ≤ k → r - l ≤ f →
    (∀ i, i < l → O.kle (KN key p i) (KN key p k)) → (∀ i, r ≤ i → i < k → O.klt (KN key p k) (KN key p i)) →
    (∀ l, l ≤ k → (∀ i, i < l → O.kle (KN key p i) (KN key p k)) → (∀ i, l ≤ i → i < k → O.klt (KN key p k) (KN key p i)) → G l s) → (kas_place p k f l r).kasWp cmp G s
  | 0, l, r, hlr, hrk, hf, hlo, hhi, h => by
    have e : l = r := by omega
    subst e
    exact h l hrk hlo hhi
  | f + 1, l, r, hlr, hrk, hf, hlo, hhi, h => by
    unfold kas_place
    by_cases hge : l ≥ r
    · rw [if_pos hge]
      have e : l = r := by omega
      subst e
      exact h l hrk hlo hhi
    · rw [if_neg hge]
      refine ask hc hp hk (by omega) ?_
      cases hl : O.blt (KN key p k) (KN key p ((l + r) / 2)) with
      | true =>
        rw [if_pos rfl]
        exact place hc hp hk hs f l ((l + r) / 2) (by omega) (by omega) (by omega) hlo (fun i a b => KeyOrd.klt_of_klt_of_kle hl (hs _ _ a b)) h
      | false =>
        rw [if_neg (by simp)]
        exact place hc hp hk hs f ((l + r) / 2 + 1) r (by omega) (by omega) (by omega) (fun i a => KeyOrd.kle_trans (hs i ((l + r) / 2) (by omega) (by omega)) hl) hhi h
theorem bin {n : Nat} {G : Array Nat → Shared → Prop} (hc : Cmp key N cmp s) (hN : n ≤ N) : ∀ (f : Nat) (p : Array Nat) (k : Nat), InN N p → k + f = n → SortedN key p k →
    (∀ p, InN N p → SortedN key p n → G p s) → (kas_bin f p k).kasWp cmp G s
  | 0, p, k, hp, hf, hs, h => h p hp (by rw [show n = k by omega]; exact hs)
  | f + 1, p, k, hp, hf, hs, h => by
    unfold kas_bin
    rw [KasT.kasWp_bind]
    refine place hc hp (by omega) hs k 0 k (by omega) (Nat.le_refl _) (by omega) (fun i a => by omega) (fun i a b => by omega) fun l hlk hlo hhi => ?_
    refine bin hc hN f _ (k + 1) (hp.of (bubble_perm _ _ _)) (by omega) (fun i j hij hj => ?_) h
    have hks : k < p.size := by rw [hp.size]; omega
    rw [KN_bubble hks (by omega), KN_bubble hks (by omega), show k - (k - l) = l by omega]
    repeat' split
    all_goals first
      | (exfalso; omega)
      | exact KeyOrd.kle_refl _
      | exact hlo _ (by omega)
      | exact KeyOrd.kle_of_klt (hhi _ (by omega) (by omega))
      | exact hs _ _ (by omega) (by omega)
theorem sort {G : Array Nat → Shared → Prop} (hc : Cmp key N cmp s) (h1 : 1 ≤ N) (h : ∀ p, InN N p → SortedN key p N → G p s) : (kas_sort N).kasWp cmp G s := by
  unfold kas_sort
  rw [KasT.kasWp_bind]
  refine count hc (show InN N _ by unfold InN; simp) (Nat.le_refl _) h1 fun m q hq hm1 hm2 hs => ?_
  dsimp only
  by_cases hlt : m < N
  · rw [if_pos hlt, show max m 1 = m by omega]
    exact bin hc (Nat.le_refl _) _ q m hq (by omega) hs h
  · rw [if_neg hlt]
    obtain rfl : m = N := by omega
    exact h q hq hs
end
section
variable {prog : Program} {w : World} {A : Around} {E : Value → Shared → Prop} {s : Shared}
/-- what stood keeps standing -/
def Keeps (h h' : Heap) : Prop := ∀ b o, h.get? b = some o → h'.get? b = some o
theorem list_sort {a : Addr} {vs : List Value} {n : Nat} {P : PySem.Fin → Shared → Prop} (key : Nat → O.α) (κ : SortKind) (ho : s.heap.get? a = some (seqObj "list" vs.toArray n)) (h64 : vs.length < 64)
    (hk : 2 ≤ vs.length → ∀ h', (∀ b o, b ≠ a → s.heap.get? b = some o → h'.get? b = some o) → ∀ (Q : SortKind → Shared → Prop), Q κ { s with heap := h' } → wpAny (model prog w) A (keyKind' vs.toArray) Q E { s with heap := h' })
    (hc : ∀ h', (∀ b o, b ≠ a → s.heap.get? b = some o → h'.get? b = some o) → Cmp key vs.length (kas_ask prog w A κ vs) { s with heap := h' })
    (h : ∀ p, InN vs.length p → SortedN key p vs.length → P (.done (.ret .none)) { s with heap := sortedHeap s.heap a vs (List.toArray (p.toList.map fun i => vs.getD i Value.none)) }) :
    wpAny (model prog w) A (Builtin.«list.sort» ⟨[.ref a], []⟩) P E s := by
  rw [list_sort_plain]
  have ha : a < s.heap.objs.size := Heap.lt_size ho
  refine wpAny_bind (listItems_at ho rfl ?_)
  refine wpAny_bind (listUpdate_at ho rfl ?_ (by rw [sizeLine_eq]; simp; omega))
  obtain ⟨e1, ho1⟩ : ∃ e1, (s.heap.update a (Obj.mapSeq fun _ => #[])).get? a = some (seqObj "list" #[] e1) := ⟨_, get?_update_seq ho (fun _ => #[])⟩
  refine wpAny_bind (seqEpoch_at ho1 rfl ?_)
  refine wpAny_bind (wpAny_newTuple ?_ (by rw [sizeLine_eq]; simp; omega))
  refine wpAny_bind (wpAny_newList ?_)
  refine wpAny_holding ?_
  have keep : ∀ b o, b ≠ a → s.heap.get? b = some o → (((s.heap.update a (Obj.mapSeq fun _ => #[])).push (seqObj "tuple" vs.toArray 0)).push (seqObj "list" #[] 0)).get? b = some o := fun b o hb q => by
    have hlt : b < s.heap.objs.size := Heap.lt_size q
    rw [Heap.get?_push_ne _ _ _ (by rw [size_push', Heap.size_update]; exact Nat.ne_of_lt (Nat.lt_succ_of_lt hlt)), Heap.get?_push_ne _ _ _ (by rw [Heap.size_update]; exact Nat.ne_of_lt hlt), Heap.get?_update_ne _ _ _ _ hb]
    exact q
  have ho6 : (((s.heap.update a (Obj.mapSeq fun _ => #[])).push (seqObj "tuple" vs.toArray 0)).push (seqObj "list" #[] 0)).get? a = some (seqObj "list" #[] e1) := by
    rw [Heap.get?_push_ne _ _ _ (by rw [size_push', Heap.size_update]; exact Nat.ne_of_lt (Nat.lt_succ_of_lt ha)), Heap.get?_push_ne _ _ _ (by rw [Heap.size_update]; exact Nat.ne_of_lt ha)]
    exact ho1
  show wpAny (model prog w) A _ P E { s with heap := ((s.heap.update a (Obj.mapSeq fun _ => #[])).push (seqObj "tuple" vs.toArray 0)).push (seqObj "list" #[] 0) }
  dsimp only
  have hsz : vs.toArray.size = vs.length := by simp
  by_cases h2 : vs.toArray.size < 2
  · rw [if_pos h2, if_pos h2]
    refine wpAny_bind (wpAny_pure ?_)
    rw [StateT.run_pure]
    refine wpAny_bind (wpAny_pure ?_)
    dsimp only
    refine wpAny_bind (seqEpoch_at ho6 rfl ?_)
    have e : ((arrOf (SortSt.mk' general' (vs.toArray.zip vs.toArray) #[] 7 none)).map (·.2)) = List.toArray ((List.range vs.length).toArray.toList.map fun i => vs.getD i Value.none) := by
      show (vs.toArray.zip vs.toArray).map (·.2) = _
      apply Array.toList_inj.mp
      apply List.ext_getElem
      · simp
      · intro i h1 h2'
        simp at h1 h2' ⊢
        simp [h1]
    rw [e]
    refine wpAny_bind (listUpdate_at ho6 rfl ?_ (hsz2 := by rw [sizeLine_eq]; simp; omega))
    simp only [bne_self_eq_false, Bool.false_eq_true, if_false]
    refine wpAny_pure (h _ (show InN vs.length (List.range vs.length).toArray from List.Perm.refl _) ?_)
    intro i j hij hj
    have : i = j := by omega
    subst this; exact KeyOrd.kle_refl _
  · rw [if_neg h2, if_neg h2]
    refine wpAny_bind (hk (by omega) _ keep _ ?_)
    refine wpAny_bind (wpAny_mono (kat_run (ks := vs) (vs := vs) (Q := fun st' s' => ∃ p : Array Nat, arrOf st' = p.map (kas_item (vs.toArray.zip vs.toArray)) ∧ failedOf st' = none ∧ s' = _ ∧ InN vs.length p ∧ SortedN key p vs.length)
      (G := fun p s' => s' = _ ∧ InN vs.length p ∧ SortedN key p vs.length) rfl (by omega) h64 (fun p st' s' _ har hf hg => ⟨p, har, hf, hg⟩) (sort (hc _ keep) (by omega) fun p a b => ⟨rfl, a, b⟩)) ?_ fun _ _ x => x)
    rintro ⟨⟨⟩, st'⟩ s' ⟨p, har, hf, rfl, hi, hso⟩
    dsimp only
    have hpl : p.size ≤ 63 := by rw [hi.size]; omega
    refine wpAny_bind (seqEpoch_at ho6 rfl ?_)
    rw [kat_snds rfl har]
    refine wpAny_bind (listUpdate_at ho6 rfl ?_ (hsz2 := by rw [sizeLine_eq]; simp; omega))
    rw [hf]
    simp only [bne_self_eq_false, Bool.false_eq_true, if_false]
    exact wpAny_pure (h p hi hso)
end
end SO
set_option Elab.async false
set_option linter.all false
set_option maxRecDepth 100000
set_option maxHeartbeats 4000000
namespace PySem.SeqAt
open AutoSeq1 (wpAny_loadPart')
open MeetsSeq MeetsSeq2 MeetsSeq3 SeqRoads2
def LtAt (A : Around) (s : Shared) (y x : Value) (b : Bool) : Prop :=
  ∀ (prog : Program) (w : World) (E : Value → Shared → Prop) (Q : Value → Shared → Prop), Q (.bool b) s → wpAny (model prog w) A (richCompare .Lt y x) Q E s
/-- by the first place that differs, else by the lengths -/
def lexR (e f : Nat → Bool) (fin : Bool) : List Nat → Bool
  | [] => fin
  | i :: r => if e i = true then lexR e f fin r else f i
theorem tuple_ltAt (l b : Addr) (items items2 : Array Value) (n n2 : Nat) (dd dd2 : Option Addr) (sl sl2 : Array (Option Value)) (e f : Nat → Bool) :
    Meets (Builtin.«tuple.__lt__» ⟨[.ref l, .ref b], []⟩)
      (fun A R s => s.heap.get? l = some { cls := .type "tuple", dict := dd, data := .seq items n, slots := sl } ∧ s.heap.get? b = some { cls := .type "tuple", dict := dd2, data := .seq items2 n2, slots := sl2 } ∧
        (∀ j (h1 : j < items.size) (h2 : j < items2.size), EqAt A.in1 s items[j] items2[j] (e j)) ∧ (∀ j (h1 : j < items.size) (h2 : j < items2.size), e j = false → LtAt A.in1 s items[j] items2[j] (f j)) ∧
        R (.ok (.ret (.bool (lexR e f (decide (items.size < items2.size)) (List.range (min items.size items2.size)))))) s) :=
  .of_wp fun prog w A R s h => by
    obtain ⟨hp, g, d, tk, os⟩ := s; obtain ⟨hl, hb, he, hf, h⟩ := h
    have f2 := AutoSeq1.sub_tuple_tuple
    have hZ : (items.toList.zip items2.toList).length = min items.size items2.size := by simp
    wp_walk using wpAny_loadPart' hl, wpAny_loadPart' hb, wpAny_forIn_list _ (fun rest b s' => b.1 = none ∧ s' = ⟨hp, g, d, tk, os⟩ ∧ ∃ i, rest = (items.toList.zip items2.toList).drop i ∧
      R (.ok (.ret (.bool (lexR e f (decide (items.size < items2.size)) ((List.range (min items.size items2.size)).drop i))))) ⟨hp, g, d, tk, os⟩) _
    case turn =>
      rintro ⟨y, x⟩ rest b s' ⟨hb', rfl, i, hz, hR⟩
      have hlt : i < (items.toList.zip items2.toList).length := by
        rcases Nat.lt_or_ge i (items.toList.zip items2.toList).length with h' | h'
        · exact h'
        · rw [List.drop_of_length_le h'] at hz; cases hz
      have hm : i < min items.size items2.size := hZ ▸ hlt
      have h1 : i < items.size := Nat.lt_of_lt_of_le hm (Nat.min_le_left _ _)
      have h2 : i < items2.size := Nat.lt_of_lt_of_le hm (Nat.min_le_right _ _)
      rw [List.drop_eq_getElem_cons hlt] at hz
      injection hz with hyx hrest
      have hy : y = items[i] := by have := congrArg Prod.fst hyx; simpa using this
      have hx : x = items2[i] := by have := congrArg Prod.snd hyx; simpa using this
      subst hy hx
      have hd : (List.range (min items.size items2.size)).drop i = i :: (List.range (min items.size items2.size)).drop (i + 1) := by simp [List.drop_eq_getElem_cons, hm]
      rw [hd] at hR
      refine wpAny_bind (he i h1 h2 prog w _ _ ?_)
      cases hy : e i with
      | true =>
        have hR' : R (.ok (.ret (.bool (lexR e f (decide (items.size < items2.size)) ((List.range (min items.size items2.size)).drop (i + 1)))))) ⟨hp, g, d, tk, os⟩ := by
          have : lexR e f (decide (items.size < items2.size)) (i :: (List.range (min items.size items2.size)).drop (i + 1)) = lexR e f (decide (items.size < items2.size)) ((List.range (min items.size items2.size)).drop (i + 1)) := by
            show (if e i = true then _ else _) = _
            rw [if_pos hy]
          rw [this] at hR
          exact hR
        wp_walk
        exact ⟨rfl, rfl, i + 1, hrest, hR'⟩
      | false =>
        have hR' : R (.ok (.ret (.bool (f i)))) ⟨hp, g, d, tk, os⟩ := by
          have : lexR e f (decide (items.size < items2.size)) (i :: (List.range (min items.size items2.size)).drop (i + 1)) = f i := by
            show (if e i = true then _ else _) = _
            rw [if_neg (by simp [hy])]
          rw [this] at hR
          exact hR
        simp only [Bool.not_false, if_true]
        refine wpAny_bind (wpAny_rule (wpAny_bind (hf i h1 h2 hy prog w _ _ ?_)))
        wp_walk
        exact ⟨_, rfl, hR'⟩
    case fin =>
      rintro ⟨b1, b2⟩ s' ⟨hb', rfl, i, hz, hR⟩
      simp only at hb'
      subst hb'
      have hge : min items.size items2.size ≤ i := by
        rcases Nat.lt_or_ge i (items.toList.zip items2.toList).length with h' | h'
        · rw [List.drop_eq_getElem_cons h'] at hz; cases hz
        · exact hZ ▸ h'
      rw [List.drop_of_length_le (by simpa using hge)] at hR
      wp_walk
      exact ⟨_, rfl, by simpa [Builtin.Tuple.tupleCompareSizes, lexR] using hR⟩
    case h =>
      exact ⟨rfl, rfl, 0, rfl, by simpa using h⟩
section
variable {A : Around} {s : Shared}
theorem LtAt.tuples {l b : Addr} {items items2 : Array Value} {e f : Nat → Bool} (hl : s.heap.IsTuple l items) (hb : s.heap.IsTuple b items2) (hu : A.units < cLine)
    (he : ∀ j (h1 : j < items.size) (h2 : j < items2.size), EqAt A.in1 s items[j] items2[j] (e j)) (hf : ∀ j (h1 : j < items.size) (h2 : j < items2.size), e j = false → LtAt A.in1 s items[j] items2[j] (f j)) :
    LtAt A s (.ref l) (.ref b) (lexR e f (decide (items.size < items2.size)) (List.range (min items.size items2.size))) := fun prog w E Q h => by
  obtain ⟨⟨cls, dd, data, sl⟩, ho, hc, n, hd⟩ := id hl
  obtain ⟨⟨cls2, dd2, data2, sl2⟩, ho2, hc2, n2, hd2⟩ := id hb
  simp only at hc hd hc2 hd2
  subst hc hd hc2 hd2
  exact richCompare_meets_room (op := .Lt) ⟨_, ho, rfl⟩ ⟨_, ho2, rfl⟩ F.slot_tuple_lt F.entry_tuple_lt (F.args_tuple_lt_2 _ _) (tuple_ltAt l b items items2 n n2 dd dd2 sl sl2 e f)
    ⟨ho, ho2, he, hf, show Value.bool (lexR e f (decide (items.size < items2.size)) (List.range (min items.size items2.size))) ≠ Value.notImplemented ∧ Q (.bool (lexR e f (decide (items.size < items2.size)) (List.range (min items.size items2.size)))) s from ⟨(fun x => nomatch x), h⟩⟩ hu
end
end PySem.SeqAt
set_option Elab.async false
set_option linter.all false
set_option maxRecDepth 100000
set_option maxHeartbeats 400000
namespace L2
open PySem PySem.Spec PyProof.Rows
def rankD : D → Nat
  | .non => 0 | .bl _ => 1 | .int _ => 2 | .str _ => 3 | .tup _ => 4
mutual
def eqD : D → D → Bool
  | .non, .non => true
  | .bl a, .bl b => decide (a = b)
  | .int a, .int b => decide (a = b)
  | .str x, .str y => decide (x.cps.toList = y.cps.toList)
  | .tup xs, .tup ys => eqDL xs ys
  | _, _ => false
def eqDL : List D → List D → Bool
  | [], [] => true
  | x :: xs, y :: ys => eqD x y && eqDL xs ys
  | _, _ => false
end
theorem str_ext {x y : Str} (e : x.cps.toList = y.cps.toList) : x = y := by
  cases x; cases y
  simp only at e
  congr
  exact Array.toList_inj.mp e
mutual
theorem eqD_eq : ∀ {a b : D}, eqD a b = true → a = b
  | .non, b, h => by cases b <;> simp [eqD] at h ⊢
  | .bl x, b, h => by
    cases b <;> simp [eqD] at h ⊢
    exact h
  | .int x, b, h => by
    cases b <;> simp [eqD] at h ⊢
    exact h
  | .str x, .str y, h => by
    simp only [eqD, decide_eq_true_eq] at h
    rw [str_ext h]
  | .str x, .non, h => by simp [eqD] at h
  | .str x, .bl _, h => by simp [eqD] at h
  | .str x, .int _, h => by simp [eqD] at h
  | .str x, .tup _, h => by simp [eqD] at h
  | .tup xs, .tup ys, h => by
    rw [eqD] at h
    rw [eqDL_eq h]
  | .tup x, .non, h => by simp [eqD] at h
  | .tup x, .bl _, h => by simp [eqD] at h
  | .tup x, .int _, h => by simp [eqD] at h
  | .tup x, .str _, h => by simp [eqD] at h
theorem eqDL_eq : ∀ {a b : List D}, eqDL a b = true → a = b
  | [], [], _ => rfl
  | [], _ :: _, h => by simp [eqDL] at h
  | _ :: _, [], h => by simp [eqDL] at h
  | x :: xs, y :: ys, h => by
    rw [eqDL, Bool.and_eq_true] at h
    rw [eqD_eq h.1, eqDL_eq h.2]
end
mutual
theorem eqD_self : ∀ d : D, eqD d d = true
  | .non => by simp [eqD]
  | .bl b => by simp [eqD]
  | .int i => by simp [eqD]
  | .str x => by simp [eqD]
  | .tup xs => by rw [eqD]; exact eqDL_self xs
theorem eqDL_self : ∀ ds : List D, eqDL ds ds = true
  | [] => by simp [eqDL]
  | d :: ds => by rw [eqDL, eqD_self d, eqDL_self ds]; rfl
end
theorem eqD_iff {a b : D} : eqD a b = true ↔ a = b := ⟨eqD_eq, fun h => by subst h; exact eqD_self _⟩
theorem eqD_no {a b : D} (h : eqD a b = false) : a ≠ b := fun e => by
  rw [eqD_iff.mpr e] at h
  cases h
mutual
def dlt : D → D → Bool
  | .bl a, .bl b => !a && b
  | .int a, .int b => decide (a < b)
  | .str x, .str y => decide (x.cps.toList < y.cps.toList)
  | .tup xs, .tup ys => dltL xs ys
  | x, y => decide (rankD x < rankD y)
def dltL : List D → List D → Bool
  | [], [] => false
  | [], _ :: _ => true
  | _ :: _, [] => false
  | x :: xs, y :: ys => if eqD x y = true then dltL xs ys else dlt x y
end
theorem str_tri {x y : Str} (h1 : ¬ x.cps.toList < y.cps.toList) (h2 : ¬ y.cps.toList < x.cps.toList) : x = y :=
  str_ext (List.le_antisymm (List.not_lt.mp h2) (List.not_lt.mp h1))
mutual
theorem dlt_irr : ∀ d : D, dlt d d = false
  | .non => by simp [dlt]
  | .bl b => by cases b <;> simp [dlt]
  | .int i => by simp [dlt]
  | .str x => by simp [dlt]
  | .tup xs => by rw [dlt]; exact dltL_irr xs
theorem dltL_irr : ∀ ds : List D, dltL ds ds = false
  | [] => by simp [dltL]
  | d :: ds => by rw [dltL, if_pos (eqD_self d)]; exact dltL_irr ds
end
mutual
theorem dlt_tot : ∀ a b : D, dlt a b = false → dlt b a = false → a = b
  | .non, b, h1, h2 => by cases b <;> simp [dlt, rankD] at h1 h2 ⊢
  | .bl x, b, h1, h2 => by
    cases b with
    | bl y => cases x <;> cases y <;> simp [dlt] at h1 h2 ⊢
    | _ => simp [dlt, rankD] at h1 h2
  | .int x, b, h1, h2 => by
    cases b with
    | int y =>
      simp only [dlt, decide_eq_false_iff_not, Int.not_lt] at h1 h2
      rw [Int.le_antisymm h2 h1]
    | _ => simp [dlt, rankD] at h1 h2
  | .str x, b, h1, h2 => by
    cases b with
    | str y =>
      simp only [dlt, decide_eq_false_iff_not] at h1 h2
      rw [str_tri h1 h2]
    | _ => simp [dlt, rankD] at h1 h2
  | .tup xs, b, h1, h2 => by
    cases b with
    | tup ys =>
      rw [dlt] at h1 h2
      rw [dltL_tot xs ys h1 h2]
    | _ => simp [dlt, rankD] at h1 h2
theorem dltL_tot : ∀ a b : List D, dltL a b = false → dltL b a = false → a = b
  | [], [], _, _ => rfl
  | [], _ :: _, h1, _ => by simp [dltL] at h1
  | _ :: _, [], _, h2 => by simp [dltL] at h2
  | x :: xs, y :: ys, h1, h2 => by
    rw [dltL] at h1 h2
    cases he : eqD x y with
    | true =>
      have e := eqD_eq he
      subst e
      rw [if_pos he] at h1 h2
      rw [dltL_tot xs ys h1 h2]
    | false =>
      rw [if_neg (by simp [he])] at h1
      rw [if_neg (fun z => eqD_no he (eqD_eq z).symm)] at h2
      exact absurd (dlt_tot x y h1 h2) (eqD_no he)
end
mutual
theorem dlt_tr : ∀ a b c : D, dlt a b = true → dlt b c = true → dlt a c = true
  | .non, b, c, h1, h2 => by cases b <;> cases c <;> simp [dlt, rankD] at h1 h2 ⊢
  | .bl x, b, c, h1, h2 => by
    cases b <;> cases c <;> simp [dlt, rankD] at h1 h2 ⊢
    rw [h1.2] at h2
    simp at h2
  | .int x, b, c, h1, h2 => by
    cases b <;> cases c <;> simp [dlt, rankD] at h1 h2 ⊢
    omega
  | .str x, b, c, h1, h2 => by
    cases b <;> cases c <;> simp [dlt, rankD] at h1 h2 ⊢
    exact List.lt_trans h1 h2
  | .tup xs, .tup ys, .tup zs, h1, h2 => by
    rw [dlt] at h1 h2 ⊢
    exact dltL_tr xs ys zs h1 h2
  | .tup xs, .non, c, h1, h2 => by simp [dlt, rankD] at h1
  | .tup xs, .bl _, c, h1, h2 => by simp [dlt, rankD] at h1
  | .tup xs, .int _, c, h1, h2 => by simp [dlt, rankD] at h1
  | .tup xs, .str _, c, h1, h2 => by simp [dlt, rankD] at h1
  | .tup xs, .tup _, .non, h1, h2 => by simp [dlt, rankD] at h2
  | .tup xs, .tup _, .bl _, h1, h2 => by simp [dlt, rankD] at h2
  | .tup xs, .tup _, .int _, h1, h2 => by simp [dlt, rankD] at h2
  | .tup xs, .tup _, .str _, h1, h2 => by simp [dlt, rankD] at h2
theorem dltL_tr : ∀ a b c : List D, dltL a b = true → dltL b c = true → dltL a c = true
  | [], [], _, h1, _ => by simp [dltL] at h1
  | [], _ :: _, [], _, h2 => by simp [dltL] at h2
  | [], _ :: _, _ :: _, _, _ => by simp [dltL]
  | _ :: _, [], _, h1, _ => by simp [dltL] at h1
  | _ :: _, _ :: _, [], _, h2 => by simp [dltL] at h2
  | x :: xs, y :: ys, z :: zs, h1, h2 => by
    rw [dltL] at h1 h2 ⊢
    cases hxy : eqD x y with
    | true =>
      have e := eqD_eq hxy
      subst e
      rw [if_pos hxy] at h1
      cases hxz : eqD x z with
      | true =>
        rw [if_pos hxz] at h2
        rw [if_pos rfl]
        exact dltL_tr xs ys zs h1 h2
      | false =>
        rw [if_neg (by simp [hxz])] at h2
        rw [if_neg (by simp)]
        exact h2
    | false =>
      rw [if_neg (by simp [hxy])] at h1
      cases hyz : eqD y z with
      | true =>
        have e := eqD_eq hyz
        subst e
        rw [if_neg (by simp [hxy])]
        exact h1
      | false =>
        rw [if_neg (by simp [hyz])] at h2
        have g := dlt_tr x y z h1 h2
        rw [if_neg]
        · exact g
        · intro z'
          have e := eqD_eq z'
          subst e
          rw [dlt_irr] at g
          cases g
end
def ordD : KeyOrd where
  α := D
  blt := dlt
  irrefl := dlt_irr
  trans := dlt_tr
  negTrans := fun a b c h => by
    cases h1 : dlt a b with
    | true => exact .inl rfl
    | false =>
      cases h2 : dlt b a with
      | true => exact .inr (dlt_tr b a c h2 h)
      | false =>
        have e := dlt_tot a b h1 h2
        subst e
        exact .inr h
  total := dlt_tot
end L2
set_option Elab.async false
set_option linter.all false
set_option maxRecDepth 100000
set_option maxHeartbeats 200000
namespace L2
open PySem PySem.Spec PyProof.Rows
mutual
def Sim : D → D → Prop
  | .int _, .int _ => True
  | .str _, .str _ => True
  | .tup xs, .tup ys => SimL xs ys
  | _, _ => False
def SimL : List D → List D → Prop
  | x :: xs, y :: ys => Sim x y ∧ SimL xs ys
  | _, _ => True
end
theorem SimL.at_ : ∀ {xs ys : List D} {i : Nat} {x y : D}, SimL xs ys → xs[i]? = some x → ys[i]? = some y → Sim x y
  | [], _, i, x, y, _, hx, _ => by simp at hx
  | _ :: _, [], i, x, y, _, _, hy => by simp at hy
  | a :: xs, b :: ys, 0, x, y, h, hx, hy => by
    simp at hx hy
    subst hx; subst hy
    rw [SimL] at h
    exact h.1
  | a :: xs, b :: ys, i + 1, x, y, h, hx, hy => by
    rw [SimL] at h
    exact SimL.at_ (i := i) h.2 (by simpa using hx) (by simpa using hy)
open SeqAt (lexR)
end L2
set_option Elab.async false
set_option linter.all false
set_option maxRecDepth 100000
set_option maxHeartbeats 200000
namespace L2
open PySem PySem.Spec PyProof.Rows
section
variable {X : Cx} {pins : List (Addr × Obj)} {σ : St} {H : Hp} {s : Shared}
theorem sim_cases {P : D → D → Prop} (hi : ∀ i j, P (.int i) (.int j)) (hs : ∀ i j, P (.str i) (.str j)) (ht : ∀ xs ys, SimL xs ys → P (.tup xs) (.tup ys)) : ∀ {d e : D}, Sim d e → P d e := by
  intro d e h
  cases d <;> cases e <;> first | exact hi _ _ | exact hs _ _ | (rw [Sim] at h; exact ht _ _ h) | (simp [Sim] at h)
end
end L2
set_option Elab.async false
set_option linter.all false
set_option maxRecDepth 100000
set_option maxHeartbeats 400000
namespace SO
open PySem PySem.W PyProof.Rows
section
variable {prog : Program} {w : World} {A : Around} {E : Value → Shared → Prop} {s : Shared}
end
end SO
namespace L2
open PySem PySem.Spec PyProof.Rows
open SeqAt (lexR)
theorem denL_map {H : Hp} {vs : List V} {ds : List D} (h : DenL H vs ds) : ∀ l : List Nat, (∀ i ∈ l, i < ds.length) → DenL H (l.map fun i => vs.getD i .non) (l.map fun i => ds.getD i .non)
  | [], _ => trivial
  | i :: l, hl => by
    refine ⟨?_, denL_map h l fun j hj => hl j (.tail _ hj)⟩
    have hi : i < vs.length := by rw [h.len]; exact hl i (.head _)
    obtain ⟨d, hd, r⟩ := h.at_ (List.getElem?_eq_getElem hi)
    dsimp only
    rw [List.getD_eq_getElem?_getD, List.getD_eq_getElem?_getD, hd, List.getElem?_eq_getElem hi]
    exact r
theorem vals_map {vs : List V} {its : List Value} (h : Vals vs its) : ∀ l : List Nat, (∀ i ∈ l, i < vs.length) → Vals (l.map fun i => vs.getD i .non) (l.map fun i => its.getD i Value.none)
  | [], _ => .nil
  | i :: l, hl => by
    refine .cons ?_ (vals_map h l fun j hj => hl j (.tail _ hj))
    have hi : i < vs.length := hl i (.head _)
    obtain ⟨d, hd, r⟩ := h.get (List.getElem?_eq_getElem hi)
    dsimp only
    rw [List.getD_eq_getElem?_getD, List.getD_eq_getElem?_getD, hd, List.getElem?_eq_getElem hi]
    exact r
section
variable {X : Cx} {pins : List (Addr × Obj)} {σ : St} {H : Hp} {s : Shared}
/-- the value, the thing and what is said at a place -/
theorem at3 {vs : List V} {ds : List D} {its : List Value} (hd : DenL H vs ds) (r : Vals vs its) {i : Nat} (hi : i < ds.length) : ∃ (x : V) (v : Value), vs[i]? = some x ∧ its[i]? = some v ∧ its.getD i Value.none = v ∧ Den H x (ds.getD i .non) ∧ RelV x v ∧ ds.getD i .non ∈ ds := by
  have hv : i < vs.length := by rw [hd.len]; exact hi
  obtain ⟨d, g, b⟩ := hd.at_ (List.getElem?_eq_getElem hv)
  obtain ⟨u, hu, ru⟩ := r.get (List.getElem?_eq_getElem hv)
  have e : ds.getD i .non = d := by rw [List.getD_eq_getElem?_getD, g]; rfl
  rw [e]
  exact ⟨_, u, List.getElem?_eq_getElem hv, hu, by rw [List.getD_eq_getElem?_getD, hu]; rfl, b, ru, List.mem_of_getElem? g⟩
theorem one_true {s' : Shared} {prog : Program} {w : World} {A : Around} {x y : V} {d e : D} {v u : Value} (hm : Sim d e) (hd : Den H x d) (he : Den H y e) (rx : RelV x v) (ry : RelV y u) (nt : ∀ ds, d ≠ .tup ds) (Q : Bool → Shared → Prop) (E : Value → Shared → Prop) (q : Q (dlt d e) s') :
    wpAny (model prog w) A (oneLt' true v u) Q E s' := by
  revert hd he nt q
  refine sim_cases (P := fun d e => Den H x d → Den H y e → (∀ ds, d ≠ .tup ds) → Q (dlt d e) s' → wpAny (model prog w) A (oneLt' true v u) Q E s') ?_ ?_ ?_ hm
  · intro i j hx hy _ q
    have e1 : x = .int i := hx
    have e2 : y = .int j := hy
    subst e1
    subst e2
    obtain ⟨t, rfl⟩ := rx
    obtain ⟨t', rfl⟩ := ry
    rw [dlt] at q
    exact oneLt_int q
  · intro i j hx hy _ q
    have e1 : x = .str i := hx
    have e2 : y = .str j := hy
    subst e1
    subst e2
    obtain ⟨t, rfl⟩ := rx
    obtain ⟨t', rfl⟩ := ry
    rw [dlt] at q
    exact oneLt_str q
  · intro xs ys _ _ _ nt _
    exact absurd rfl (nt xs)
theorem looks_of {M : Model} {x : V} {v : Value} {d : D} (I : Inv X pins σ H s) {h' : Heap} (kp : SO.Keeps s.heap h') (hd : Den H x d) (rx : RelV x v) : (∀ i, d = .int i → PySem.W.Looks M h' (typeOf v) (.type "int")) ∧ (∀ i, d = .str i → PySem.W.Looks M h' (typeOf v) (.type "str")) ∧
    (∀ ds, d = .tup ds → PySem.W.Looks M h' (typeOf v) (.type "tuple")) := by
  refine ⟨fun i e => ?_, fun i e => ?_, fun ds e => ?_⟩
  · subst e
    have e1 : x = .int i := hd
    subst e1
    obtain ⟨t, rfl⟩ := rx
    exact PySem.W.Looks.of_pure rfl
  · subst e
    have e1 : x = .str i := hd
    subst e1
    obtain ⟨t, rfl⟩ := rx
    exact PySem.W.Looks.of_pure rfl
  · subst e
    obtain ⟨a, vs, rfl, ha, hda⟩ := den_tup hd
    cases rx
    obtain ⟨its, r1, ⟨o, eo, ec, _⟩, _⟩ := I.tuple (SqT.of (K := X.K) ha)
    rw [← ec]
    exact (PySem.W.Looks.ld (kp _ _ eo)).andThen .now
def tyD : D → Value
  | .int _ => .type "int"
  | .str _ => .type "str"
  | _ => .type "tuple"
theorem looks_ty {M : Model} {x : V} {v : Value} {d e : D} (I : Inv X pins σ H s) {h' : Heap} (kp : SO.Keeps s.heap h') (hm : Sim d e) (hd : Den H x d) (rx : RelV x v) : PySem.W.Looks M h' (typeOf v) (tyD d) := by
  obtain ⟨a, b, c⟩ := looks_of (M := M) I kp hd rx
  revert a b c
  exact sim_cases (P := fun d e => (∀ i, d = .int i → PySem.W.Looks M h' (typeOf v) (.type "int")) → (∀ i, d = .str i → PySem.W.Looks M h' (typeOf v) (.type "str")) → (∀ ds, d = .tup ds → PySem.W.Looks M h' (typeOf v) (.type "tuple")) → PySem.W.Looks M h' (typeOf v) (tyD d))
    (fun i _ a _ _ => a i rfl) (fun i _ _ b _ => b i rfl) (fun xs _ _ _ _ c => c xs rfl) hm
end
end L2
set_option Elab.async false
set_option linter.all false
set_option maxRecDepth 100000
set_option maxHeartbeats 400000
namespace PySem.SeqAt
open AutoSeq1 (wpAny_loadPart')
open MeetsSeq MeetsSeq2 MeetsSeq3 SeqRoads2
end PySem.SeqAt
namespace L2
open PySem PySem.Spec PyProof.Rows
end L2
set_option Elab.async false
set_option linter.all false
set_option maxRecDepth 100000
set_option maxHeartbeats 400000
namespace L2
open PySem PySem.Spec PyProof.Rows
theorem foldl_repN (t : List Nat) : ∀ (k : Nat) (acc : List Nat), List.foldl (fun x1 x2 => x1 ++ x2) acc.toArray (List.replicate k t.toArray) = (acc ++ (List.replicate k t).flatten).toArray
  | 0, acc => by simp
  | k + 1, acc => by
    have e : acc.toArray ++ t.toArray = (acc ++ t).toArray := by simp
    have e2 : (acc ++ t) ++ (List.replicate k t).flatten = acc ++ (List.replicate (k + 1) t).flatten := by
      rw [List.replicate_succ, List.flatten_cons, List.append_assoc]
    rw [← e2, ← foldl_repN t k (acc ++ t), ← e, List.replicate_succ, List.foldl_cons]
theorem rep_nil (n : Nat) : (List.replicate n ([] : List Nat)).flatten = [] := by
  induction n with
  | zero => rfl
  | succ n ih => rw [List.replicate_succ, List.flatten_cons, ih]; rfl
theorem mul_rep (t : List Nat) (n : Nat) : Txt.mul ⟨t.toArray⟩ (n : Int) = ⟨(List.replicate n t).flatten.toArray⟩ := by
  unfold Txt.mul
  by_cases h1 : (n : Int) < 1
  · rw [if_pos h1]
    have : n = 0 := by omega
    subst this
    rfl
  · rw [if_neg h1]
    by_cases h2 : (((n : Int) == 1 || (⟨t.toArray⟩ : Str).length == 0) = true)
    · rw [if_pos h2]
      rw [Bool.or_eq_true, beq_iff_eq, beq_iff_eq] at h2
      rcases h2 with z | z
      · have : n = 1 := by omega
        subst this
        simp
      · have z' : t = [] := by
          have : t.toArray.size = 0 := z
          simpa using this
        subst z'
        rw [rep_nil]
    · rw [if_neg h2]
      have := foldl_repN t n []
      simp only [List.nil_append] at this
      rw [← this]
      simp
def rMulS : R2 := fun x y H Q => ∃ (t : List Nat) (n : Nat), x = .str ⟨t.toArray⟩ ∧ y = .int (n : Nat) ∧ n ≤ 100000 ∧ t.length * n ≤ 100000 ∧ Q (.str ⟨(List.replicate n t).flatten.toArray⟩) H
theorem op_mulS {X : Cx} : OpR X (binaryOp .Mult) rMulS := by
  intro pins s σ H x y v u Q I rx ry h
  obtain ⟨t, n, rfl, rfl, hn, hl, q⟩ := h
  obtain ⟨t', rfl⟩ := rx
  obtain ⟨t'', rfl⟩ := ry
  have hlen : (⟨t.toArray⟩ : Str).length = t.length := by show t.toArray.size = _; simp
  refine SB.mul ⟨?_, fun h1 _ => ?_, fun h1 _ => ?_⟩ fun t3 k => ?_
  · simp only [Bool.or_eq_false_iff, decide_eq_false_iff_not]
    omega
  · rw [hlen]
    intro z
    have h0 : 0 < n := by omega
    have z2 : ((2 : Int) ^ 63 - 1) / (n : Int) < (t.length : Int) := z
    rw [Int.ediv_lt_iff_lt_mul (by omega)] at z2
    have e : ((t.length : Int) * (n : Int)) = ((t.length * n : Nat) : Int) := by push_cast; rfl
    rw [e] at z2
    omega
  · rw [hlen, Int.toNat_natCast]
    unfold Builtin.Str.tooLong
    exact decide_eq_false (by have := sizeLine_big; omega)
  · rw [mul_rep]
    exact ⟨.str _, H, I.tok _, ⟨_, rfl⟩, q⟩
end L2
set_option Elab.async false
set_option linter.all false
set_option maxRecDepth 100000
namespace L2
open PySem
/-- the letters, turned -/
def ltr (t i : Nat) : Nat := 97 + (t + i) % 26
def nm0 (t k : Nat) : List Nat := ltr t (k % 26) :: List.replicate (k % 7) (ltr t (k / 26))
def nm1 (t k : Nat) : List Nat := List.replicate (1 + k % 8) (ltr t (k / 8))
def nm2 (t a k : Nat) : List Nat := List.replicate a (ltr t 25) ++ ltr t (k % 20) :: ltr t (k / 20) :: List.replicate (6 - a) (ltr t 25)
theorem ltr_inj {t i j : Nat} (hi : i < 26) (hj : j < 26) (h : ltr t i = ltr t j) : i = j := by
  unfold ltr at h
  omega
theorem nm0_inj {t i j : Nat} (hi : i < 70) (hj : j < 70) (h : nm0 t i = nm0 t j) : i = j := by
  have hl := congrArg List.length h
  unfold nm0 at h hl
  rw [List.length_cons, List.length_cons, List.length_replicate, List.length_replicate] at hl
  have := ltr_inj (Nat.mod_lt _ (by decide)) (Nat.mod_lt _ (by decide)) (List.cons.inj h).1
  omega
theorem nm1_inj {t i j : Nat} (hi : i < 70) (hj : j < 70) (h : nm1 t i = nm1 t j) : i = j := by
  have hl := congrArg List.length h
  have h0 := congrArg (fun x => x[0]?) h
  unfold nm1 at h0 hl
  rw [List.length_replicate, List.length_replicate] at hl
  simp only [List.getElem?_replicate] at h0
  rw [if_pos (by omega), if_pos (by omega)] at h0
  have := ltr_inj (by omega) (by omega) (Option.some.inj h0)
  omega
theorem nm2_inj {t a i j : Nat} (hi : i < 70) (hj : j < 70) (h : nm2 t a i = nm2 t a j) : i = j := by
  unfold nm2 at h
  have h' := List.append_cancel_left h
  have h1 := (List.cons.inj h').1
  have h2 := (List.cons.inj (List.cons.inj h').2).1
  have := ltr_inj (by omega) (by omega) h1
  have := ltr_inj (by omega) (by omega) h2
  omega
theorem nodup_map_range {f : Nat → List Nat} {n : Nat} (h : ∀ i j, i < n → j < n → f i = f j → i = j) : ((List.range n).map f).Nodup := by
  rw [List.nodup_iff_pairwise_ne, List.pairwise_map]
  refine (List.pairwise_lt_range (n := n)).imp_of_mem fun {a b} ha hb hab e => ?_
  have := h a b (List.mem_range.mp ha) (List.mem_range.mp hb) e
  omega
theorem isNm_of {x : List Nat} (h1 : 1 ≤ x.length) (h2 : x.length ≤ 8) (h : ∀ c ∈ x, 97 ≤ c ∧ c ≤ 122) : isNm ⟨x.toArray⟩ = true := by
  unfold isNm
  have hl : (⟨x.toArray⟩ : Str).length = x.length := by show x.toArray.size = _; simp
  rw [hl, decide_eq_true h1, decide_eq_true h2]
  simp only [Bool.true_and, List.all_eq_true]
  intro c hc
  exact decide_eq_true (h c (by simpa using hc))
theorem ltr_ok (t i : Nat) : 97 ≤ ltr t i ∧ ltr t i ≤ 122 := by
  unfold ltr
  omega
theorem nm0_ok (t k : Nat) : isNm ⟨(nm0 t k).toArray⟩ = true := by
  refine isNm_of (by simp [nm0]) (by simp [nm0]; omega) fun c hc => ?_
  rcases List.mem_cons.mp hc with rfl | hc
  · exact ltr_ok _ _
  · rw [(List.mem_replicate.mp hc).2]
    exact ltr_ok _ _
theorem nm1_ok (t k : Nat) : isNm ⟨(nm1 t k).toArray⟩ = true := by
  refine isNm_of (by simp [nm1]) (by simp [nm1]; omega) fun c hc => ?_
  rw [(List.mem_replicate.mp hc).2]
  exact ltr_ok _ _
theorem nm2_ok {t a : Nat} (k : Nat) (ha : a ≤ 6) : isNm ⟨(nm2 t a k).toArray⟩ = true := by
  refine isNm_of (by simp [nm2]; omega) (by simp [nm2]; omega) fun c hc => ?_
  unfold nm2 at hc
  rcases List.mem_append.mp hc with hc | hc
  · rw [(List.mem_replicate.mp hc).2]
    exact ltr_ok _ _
  rcases List.mem_cons.mp hc with rfl | hc
  · exact ltr_ok _ _
  rcases List.mem_cons.mp hc with rfl | hc
  · exact ltr_ok _ _
  rw [(List.mem_replicate.mp hc).2]
  exact ltr_ok _ _
/-- a row of names: unlike, all of them names, seventy -/
structure Row70 (xs : List (List Nat)) : Prop where
  len : xs.length = 70
  nd : xs.Nodup
  nm : ∀ x ∈ xs, isNm ⟨x.toArray⟩ = true
theorem row70 {f : Nat → List Nat} (h1 : ∀ i j, i < 70 → j < 70 → f i = f j → i = j) (h2 : ∀ k, isNm ⟨(f k).toArray⟩ = true) : Row70 ((List.range 70).map f) :=
  ⟨by simp, nodup_map_range h1, fun x hx => by obtain ⟨k, _, rfl⟩ := List.mem_map.mp hx; exact h2 k⟩
theorem row0 (t : Nat) : Row70 ((List.range 70).map (nm0 t)) := row70 (fun _ _ hi hj => nm0_inj hi hj) (nm0_ok t)
theorem row1 (t : Nat) : Row70 ((List.range 70).map (nm1 t)) := row70 (fun _ _ hi hj => nm1_inj hi hj) (nm1_ok t)
theorem row2 {t a : Nat} (ha : a ≤ 6) : Row70 ((List.range 70).map (nm2 t a)) := row70 (fun _ _ hi hj => nm2_inj hi hj) (fun k => nm2_ok k ha)
/-- the turned letters -/
theorem turned_at {t i : Nat} (ht : t < 26) (hi : i < 26) : ((List.range 26).map (97 + ·)).drop t ++ ((List.range 26).map (97 + ·)).take t = (List.range 26).map (ltr t) := by
  apply List.ext_getElem
  · simp; omega
  · intro n h1 h2
    simp only [List.length_append, List.length_drop, List.length_take, List.length_map, List.length_range] at h1 h2
    rw [List.getElem_append]
    split
    · simp [ltr]
      simp at *
      omega
    · simp [ltr]
      simp at *
      omega
end L2
set_option Elab.async false
set_option linter.all false
set_option maxRecDepth 100000
set_option maxHeartbeats 400000
namespace L2
open PySem PySem.Spec PyProof.Rows
end L2
set_option Elab.async false
set_option linter.all false
set_option maxRecDepth 100000
set_option maxHeartbeats 400000
namespace L2
open PySem PySem.Spec PyProof.Rows
def KTup (K : PySem.W.Frag) (a : Addr) (xs : List V) : Prop := ∃ (o : Obj) (its : Array Value) (n : Nat), K.lookup a = some o ∧ o.cls = .type "tuple" ∧ o.data = .seq its n ∧ its.size ≤ sizeLine ∧ Vals xs its.toList
theorem KTup.sq {K : PySem.W.Frag} {a : Addr} {xs : List V} {H : Hp} (h : KTup K a xs) : SqT K H a xs := .inr h
theorem stT {K : PySem.W.Frag} {H H' : Hp} {a : Addr} {xs : List V} (e : Same H H') (h : SqT K H a xs) : SqT K H' a xs := by
  rcases h with (h | ⟨o, h⟩) | h
  · exact .inl (.inl (e _ _ h))
  · exact .inl (.inr ⟨o, e _ _ h⟩)
  · exact .inr h
/-- isinstance of a tuple, tracked or of the module -/
def rIsT (K : PySem.W.Frag) : List V → Hp → VK → Prop := fun xs H Q => ∃ (p : Addr) (us : List V) (n : String) (b : Bool), xs = [.ref p, .ty n] ∧ SqT K H p us ∧ PySem.W.kitOne K (.type "tuple") (.type n) = some b ∧ Q (.bl b) H
theorem call_isinstT {X : Cx} : CallR X (.builtin "isinstance") (rIsT X.K) := by
  intro pins s σ H xs us Q I r h
  obtain ⟨p, ys, n, b, rfl, hp, e, q⟩ := h
  obtain ⟨u, v, rfl, ru, rv⟩ := vals2 r
  cases rv
  cases ru
  obtain ⟨its, _, pp, _⟩ := I.tuple hp
  obtain ⟨o, h1, h2, _⟩ := pp
  exact PySem.W.kia_one PySem.W.kitx_tuple I.kIn ⟨o, h1, h2⟩ e (fun z => nomatch z) fun tk => ⟨.bl b, H, I.tok _, rfl, q⟩
/-- t[lo:hi], whole or not, tracked or of the module -/
def rSlT3 (K : PySem.W.Frag) : V → Option Int → Option Int → Hp → VK → Prop := fun x lo hi H Q => ∃ a xs, x = .ref a ∧ SqT K H a xs ∧ ∀ (p : Addr) (H' : Hp), Same H H' → SqT K H' p (cutV xs lo hi) → Q (.ref p) H'
theorem sl_tup3 {X : Cx} : SlR X (rSlT3 X.K) := by
  intro pins s σ H x v vl vu lo hi sl Q I rx hs pl pu h
  obtain ⟨a, xs, rfl, hx, q⟩ := h
  by_cases hw : HT.sIx xs.length 0 lo = 0 ∧ HT.sIx xs.length xs.length hi = xs.length
  · cases rx
    obtain ⟨its, r, ht, hz⟩ := I.tuple hx
    have hlen : its.toArray.size = xs.length := by rw [List.size_toArray]; exact r.length.symm
    refine ⟨"tuple", _, PyProof.Rows.slot_tuple_getitem.lookup, ht.typeIs, ?_⟩
    refine getItem_tuple_all ht hs pl pu (by rw [hlen]; exact hw) ⟨.ref a, H, I, rfl, q a H (Same.refl H) ?_⟩
    unfold cutV
    rw [hw.1, hw.2, List.drop_zero, Nat.sub_zero, List.take_length]
    exact hx
  · exact sl_tup pins s σ H _ v vl vu lo hi sl Q I rx hs pl pu ⟨a, xs, rfl, hx, hw, fun p hp => q p _ (same_new hp _) (SqT.of upd_same)⟩
/-- t + u, tracked or of the module -/
def rCat3 (K : PySem.W.Frag) : R2 := fun x y H Q => ∃ (a b : Addr) (xs ys : List V), x = .ref a ∧ y = .ref b ∧ SqT K H a xs ∧ SqT K H b ys ∧ xs.length + ys.length ≤ sizeLine ∧ ∀ (q : Addr) (H' : Hp), Same H H' → SqT K H' q (xs ++ ys) → Q (.ref q) H'
theorem op_catT3 {X : Cx} : OpR X (binaryOp .Add) (rCat3 X.K) := by
  intro pins s σ H x y v u Q I rx ry h
  obtain ⟨a, b, xs, ys, rfl, rfl, ha, hb, hz, q⟩ := h
  cases xs with
  | cons x1 xs =>
    refine op_catT pins s σ H (.ref a) (.ref b) v u Q I rx ry ⟨a, b, _, _, rfl, rfl, ha, hb, by simp, hz, fun z => ?_, fun z p hp => q p _ (same_new hp _) (SqT.of upd_same)⟩
    refine q a H (Same.refl H) ?_
    rw [z, List.append_nil]
    exact ha
  | nil =>
    cases rx
    cases ry
    obtain ⟨its, r1, p1, _⟩ := I.tuple ha
    obtain ⟨its2, r2, p2, _⟩ := I.tuple hb
    cases r1
    obtain ⟨⟨cls, dd, data, sl⟩, ho, hc, n, hd⟩ := id p1
    obtain ⟨⟨cls2, dd2, data2, sl2⟩, ho2, hc2, n2, hd2⟩ := id p2
    simp only at hc hd hc2 hd2
    subst hc hd hc2 hd2
    refine concat_meets ⟨_, ho, rfl⟩ ⟨_, ho2, rfl⟩ noFill_tuple_add seq_tuple_add PySem.F.slot_tuple_add PySem.F.entry_tuple_add (PySem.F.args_tuple_add_2 _ _) (tuple_addW0 a b _ its2.toArray n n2 dd dd2 sl sl2 rfl) ⟨ho, ho2, ?_⟩
    exact ⟨.ref b, H, I, rfl, q b H (Same.refl H) hb⟩
end L2
set_option Elab.async false
set_option linter.all false
set_option maxRecDepth 100000
set_option maxHeartbeats 4000000
namespace M08
end M08
namespace L2
open M08
def lvs : Nat → List Int → D → List (List Int × List Nat)
  | n + 1, ks, .tup ds => ds.zipIdx.flatMap fun p => lvs n (ks ++ [((p.2 : Nat) : Int)]) p.1
  | 0, ks, .str x => [(ks, x.cps.toList)]
  | _, _, _ => []
end L2
set_option Elab.async false
set_option linter.all false
set_option maxRecDepth 100000
set_option maxHeartbeats 4000000
namespace L2
open PySem PySem.Spec PyProof.Rows
end L2
set_option linter.all false
namespace MN
open PySem
abbrev kwD (d : Value) : List (Str × Value) := [(Str.ofString "default", d)]
theorem args_d (a v : Value) : argsOk "min" ⟨[a], kwD v⟩ := by
  unfold argsOk kwD
  kernel_rfl
section
variable {prog : Program} {w : World} {A : Around} {R : Result → Shared → Prop} {It : Addr} {fp wr : List Addr} {n : Nat} {Pr : Nat → Value → Prop} {Sx : Nat → Heap → Prop}
theorem nm : (toString "min" ++ toString ".loop" : String) = "min.loop" := by decide
/-- the walk with a best one in hand -/
theorem on (W : Walks prog w A.in1 It fp wr n Pr Sx) (bt : Nat → Nat → Bool) (cm : CmpOf prog w A.in1 .Lt Pr bt) (B : Addr) (nB : B ∉ fp) (d : Value) :
    ∀ (k j : Nat) (s : Shared) (best : Value) (c : Nat), n - (j + 1) = k → j + 1 ≤ n → Sx (j + 1) s.heap → Pr (argBest bt j) best →
    s.heap.get? B = some { cls := .type "list", dict := none, data := .seq #[best, best] c, slots := #[] } →
    (∀ v h' tk, Pr (argBest bt (n - 1)) v → (∀ b o, b ∉ wr → b ≠ B → s.heap.get? b = some o → h'.get? b = some o) → R (.ok (.ret v)) { s with heap := h', toks := tk }) →
    codeAny (model prog w) A (.builtin "min.loop" ⟨[.ref It, .none, .ref B], kwD d⟩) R s := by
  have nW : B ∉ wr := fun z => nB (W.sub _ z)
  intro k
  induction k with
  | zero =>
    intro j s best c ek ej st pb eB fin
    have en : j + 1 = n := by omega
    refine codeAny_builtin PySem.F.entry_min_loop ?_
    rw [Around.under_plainId (PySem.F.plain_min_loop) _]
    show wpAny _ A.in1 (seqItems? (.ref B) >>= _) _ _ s
    refine wpAny_bind (wpAny_seqItems eB rfl ?_)
    show wpAny _ A.in1 (tryCatch (pyNext (.ref It)) _ >>= _) _ _ s
    refine wpAny_bind (wpAny_tryCatch (W.done s _ _ (en ▸ st) fun h' tk kp => ?_))
    have eB' := kp B _ nW eB
    show wpAny _ A.in1 (updateSeq B (fun _ => #[]) >>= _) _ _ _
    refine wpAny_bind ?_
    refine wpAny_updateSeq eB' rfl (wpAny_bind (wpAny_letGo (wpAny_pure ?_)))
    exact fin best _ tk (by rw [← en]; exact pb) fun b o nb nS e => (Heap.get?_update_other _ _ (Ne.symm nS)).trans (kp b o nb e)
  | succ k ih =>
    intro j s best c ek ej st pb eB fin
    have lt : j + 1 < n := by omega
    refine codeAny_builtin PySem.F.entry_min_loop ?_
    rw [Around.under_plainId (PySem.F.plain_min_loop) _]
    show wpAny _ A.in1 (seqItems? (.ref B) >>= _) _ _ s
    refine wpAny_bind (wpAny_seqItems eB rfl ?_)
    show wpAny _ A.in1 (tryCatch (pyNext (.ref It)) _ >>= _) _ _ s
    refine wpAny_bind (wpAny_tryCatch (W.item (j + 1) s _ _ lt st fun v h' tk pv st' kp => ?_))
    have eB' := kp B _ nW eB
    show wpAny _ A.in1 (tryCatch (holding [v, v] (richCompare .Lt v best >>= _)) _ >>= _) _ _ _
    refine wpAny_bind (wpAny_tryCatch (wpAny_holding (wpAny_bind (cm (j + 1) (argBest bt j) v best _ _ _ pv pb ?_))))
    refine wpAny_bind (wpAny_holding (wpAny_truthy_bool ?_))
    refine wpAny_bind (wpAny_letGo (wpAny_pure ?_))
    cases eb : bt (j + 1) (argBest bt j) with
    | true =>
      rw [if_pos rfl]
      refine wpAny_bind ?_
      refine wpAny_updateSeq eB' rfl (wpAny_bind (wpAny_letGo ?_))
      rw [nm]
      refine wpAny_pure ⟨plainId_quiet PySem.F.plain_min_loop _, ih (j + 1) _ v _ (by omega) lt (W.frame _ _ _ st' fun b bf o e => ?_) (by simp only [argBest, eb, if_true]; exact pv) (Heap.get?_update_self _ eB' rfl) fun v' h2 tk2 pv' kp2 => ?_⟩
      · exact (Heap.get?_update_other _ _ (fun z : B = b => nB (by rw [z]; exact bf))).trans e
      · exact fin v' h2 tk2 pv' fun b o nb nS e => kp2 b o nb nS ((Heap.get?_update_other _ _ (Ne.symm nS)).trans (kp b o nb e))
    | false =>
      rw [if_neg Bool.false_ne_true]
      refine wpAny_bind (wpAny_letGo ?_)
      rw [nm]
      refine wpAny_pure ⟨plainId_quiet PySem.F.plain_min_loop _, ih (j + 1) _ best c (by omega) lt st' (by simp only [argBest, eb, Bool.false_eq_true, if_false]; exact pb) eB' fun v' h2 tk2 pv' kp2 => ?_⟩
      exact fin v' h2 tk2 pv' fun b o nb nS e => kp2 b o nb nS (kp b o nb e)
/-- the walk from its begin -/
theorem begin_ (W : Walks prog w A.in1 It fp wr n Pr Sx) (bt : Nat → Nat → Bool) (cm : CmpOf prog w A.in1 .Lt Pr bt) (B : Addr) (nB : B ∉ fp) (d : Value) {s : Shared} {c : Nat} (st : Sx 0 s.heap)
    (eB : s.heap.get? B = some { cls := .type "list", dict := none, data := .seq #[] c, slots := #[] })
    (none_ : n = 0 → ∀ h' tk, (∀ b o, b ∉ wr → s.heap.get? b = some o → h'.get? b = some o) → R (.ok (.ret d)) { s with heap := h', toks := tk })
    (fin : 0 < n → ∀ v h' tk, Pr (argBest bt (n - 1)) v → (∀ b o, b ∉ wr → b ≠ B → s.heap.get? b = some o → h'.get? b = some o) → R (.ok (.ret v)) { s with heap := h', toks := tk }) :
    codeAny (model prog w) A (.builtin "min.loop" ⟨[.ref It, .none, .ref B], kwD d⟩) R s := by
  have nW : B ∉ wr := fun z => nB (W.sub _ z)
  refine codeAny_builtin PySem.F.entry_min_loop ?_
  rw [Around.under_plainId (PySem.F.plain_min_loop) _]
  show wpAny _ A.in1 (seqItems? (.ref B) >>= _) _ _ s
  refine wpAny_bind (wpAny_seqItems eB rfl ?_)
  show wpAny _ A.in1 (tryCatch (pyNext (.ref It)) _ >>= _) _ _ s
  by_cases h0 : n = 0
  · refine wpAny_bind (wpAny_tryCatch (W.done s _ _ (h0 ▸ st) fun h' tk kp => ?_))
    show wpAny _ A.in1 (rule _ >>= _) _ _ _
    exact wpAny_bind (wpAny_rule (wpAny_pure (none_ h0 h' tk kp)))
  · have hn : 0 < n := by omega
    refine wpAny_bind (wpAny_tryCatch (W.item 0 s _ _ hn st fun v h' tk pv st' kp => ?_))
    have eB' := kp B _ nW eB
    show wpAny _ A.in1 (updateSeq B (fun _ => #[v, v]) >>= _) _ _ _
    refine wpAny_bind ?_
    refine wpAny_updateSeq eB' rfl ?_
    rw [nm]
    refine wpAny_pure ⟨plainId_quiet PySem.F.plain_min_loop _, on W bt cm B nB d _ 0 _ v _ rfl hn (W.frame _ _ _ st' fun b bf o e => ?_) pv (Heap.get?_update_self _ eB' rfl) fun v' h2 tk2 pv' kp2 => ?_⟩
    · exact (Heap.get?_update_other _ _ (fun z : B = b => nB (by rw [z]; exact bf))).trans e
    · exact fin hn v' h2 tk2 pv' fun b o nb nS e => kp2 b o nb nS ((Heap.get?_update_other _ _ (Ne.symm nS)).trans (kp b o nb e))
end
section
variable {prog : Program} {w : World} {A : Around} {E : Value → Shared → Prop} {s : Shared}
theorem tree_kw {id : String} {b : Builtin} {args : List Value} {kw : List (Str × Value)} {Q : Value → Shared → Prop} (h1 : builtinKind id = none) (h2 : plainId id = true) (h3 : entryFor table id = some b) (h4 : argsOk id ⟨args, kw⟩)
    (h : wpAny (model prog w) A.in1 (b ⟨args, kw⟩) (fun fin s' => match fin with
      | .done f => (match (Except.ok f : Result) with | .ok (.ret v) => Q v s' | .ok _ => False | .error e => E e s')
      | .again c' => c'.quiet = true ∧ codeAny (model prog w) A c' (fun r s' => match r with | .ok (.ret v) => Q v s' | .ok _ => False | .error e => E e s') s') E s) : wpAny (model prog w) A (call (.builtin id) args kw) Q E s := by
  refine wpAny_call (codeAny_call_builtin h2 h3 ?_)
  simp only [checkBuiltinCall, h1]
  cases e : Manifest.signature? id with
  | none => exact wpAny_pure h
  | some sg =>
    have h4' : Bind.checkArgs id sg ⟨args, kw⟩ = pure () := by simpa only [argsOk, e] using h4
    simp only [h4']
    exact wpAny_pure h
/-- max(x, default=d) -/
theorem call {x d : Value} {Q : Value → Shared → Prop}
    (h : wpAny (model prog w) A.in1 (pyIter x) (fun it s2 => ∃ I fp wr n Pr Sx bt, it = .ref I ∧ Walks prog w A.in1 I fp wr n Pr Sx ∧ Sx 0 s2.heap ∧ (∀ b ∈ fp, b < s2.heap.objs.size) ∧ CmpOf prog w A.in1 .Lt Pr bt ∧
      (n = 0 → ∀ h' tk, (∀ b o, b ∉ wr → s2.heap.get? b = some o → h'.get? b = some o) → Q d { s2 with heap := h', toks := tk }) ∧
      (0 < n → ∀ v h' tk, Pr (argBest bt (n - 1)) v → (∀ b o, b ∉ wr → s2.heap.get? b = some o → h'.get? b = some o) → Q v { s2 with heap := h', toks := tk })) E s) :
    wpAny (model prog w) A (PySem.call (.builtin "min") [x] (kwD d)) Q E s := by
  refine tree_kw PySem.F.kind_min PySem.F.plain_min PySem.F.entry_min (args_d _ _) ?_
  show wpAny _ A.in1 (Builtin.Builtins.bindParams "min" ["key", "default"] 0 ⟨[], kwD d⟩ >>= _) _ _ s
  refine wpAny_bind (wpAny_of_eq (show Builtin.Builtins.bindParams "min" ["key", "default"] 0 ⟨[], kwD d⟩ = pure [none, some d] from rfl) ?_)
  refine wpAny_bind (wpAny_pure ?_)
  refine wpAny_bind (wpAny_mono h (fun it s2 h2 => ?_) fun _ _ e => e)
  obtain ⟨I, fp, wr, n, Pr, Sx, bt, rfl, W, st, hf, cm, q0, q1⟩ := h2
  refine wpAny_bind (wpAny_newObj_type ?_)
  have nB : s2.heap.objs.size ∉ fp := fun z => Nat.lt_irrefl _ (hf _ z)
  rw [nm]
  refine wpAny_pure ⟨plainId_quiet PySem.F.plain_min_loop _, begin_ W bt cm s2.heap.objs.size nB d (W.frame _ _ _ st fun b _ o e => Heap.get?_push_of_some _ e) (Heap.get?_push_size _ rfl) (fun z h' tk kp => ?_) fun z v h' tk pv kp => ?_⟩
  · exact q0 z h' tk fun b o nb e => kp b o nb (Heap.get?_push_of_some _ e)
  · exact q1 z v h' tk pv fun b o nb e => kp b o nb (Nat.ne_of_lt (Heap.lt_size e)) (Heap.get?_push_of_some _ e)
end
end MN
set_option Elab.async false
set_option linter.all false
set_option maxRecDepth 100000
set_option maxHeartbeats 4000000
namespace L2
open PySem PySem.Spec PyProof.Rows
end L2
set_option Elab.async false
set_option linter.all false
set_option maxRecDepth 100000
set_option maxHeartbeats 4000000
namespace L2
open PySem PySem.Spec PyProof.Rows
end L2
set_option Elab.async false
set_option linter.all false
set_option maxRecDepth 100000
set_option maxHeartbeats 4000000
namespace L2
open PySem PySem.Spec PyProof.Rows
end L2
set_option Elab.async false
set_option linter.all false
set_option maxRecDepth 100000
set_option maxHeartbeats 4000000
namespace L2
open PySem PySem.Spec PyProof.Rows
def ExcAt (cls : Value) (T e : Addr) (h : Heap) : Prop := ∃ oe vs a0, h.get? e = some oe ∧ oe.cls = cls ∧ oe.data = .fields vs ∧ vs[0]? = some a0 ∧ vs[1]? = some (.ref T)
def TrAt (T : Addr) (h : Heap) : Prop := ∃ oT ts, h.get? T = some oT ∧ oT.data = .fields ts ∧ ts[3]? = some .none
def ExcO (cls : Value) (T e : Addr) : HO := .ext (ExcAt cls T e)
def TrO (T : Addr) : HO := .ext (TrAt T)
theorem excO_ok {P : Program} {w : World} {H : Hp} {h : Heap} {cls : Value} {T e : Addr} (x : ExcAt cls T e h) : ObjOk P w H h e (ExcO cls T e) := by
  refine ⟨x, ?_, fun h1 h2 p k => ?_⟩
  · obtain ⟨oe, _, _, he, _⟩ := x
    exact ⟨oe, he⟩
  · obtain ⟨oe, vs, a0, he, r⟩ := p
    exact ⟨oe, vs, a0, k oe he, r⟩
theorem trO_ok {P : Program} {w : World} {H : Hp} {h : Heap} {T : Addr} (x : TrAt T h) : ObjOk P w H h T (TrO T) := by
  refine ⟨x, ?_, fun h1 h2 p k => ?_⟩
  · obtain ⟨oe, _, he, _⟩ := x
    exact ⟨oe, he⟩
  · obtain ⟨oe, vs, he, r⟩ := p
    exact ⟨oe, vs, k oe he, r⟩
/-- how an exception lies behind a call: E gets its class, its address and the abstract heap -/
def CX1 (P : Program) (w : World) : CXT := fun outer H s E e s' => ∃ (ea T : Addr) (cls : Value) (H' : Hp), e = .ref ea ∧ T ≠ ea ∧ s'.os = s.os ∧ AllBare s'.gens ∧ Un (frs outer) [] H H' s.heap s'.heap ∧ HOk P w H' s'.heap ∧
  H' ea = some (ExcO cls T ea) ∧ H' T = some (TrO T) ∧ E cls (some ea) H'

section
variable {M : Model} {A : Around} {E : Value → Shared → Prop} {s : Shared} {base : Heap} {env : Env} {outer : List Env} {L e : Addr}
/-- all but the frames (up to slots) and e is kept, T is new -/
structure Left (fs : List Addr) (e : Addr) (cls : Value) (T : Addr) (h h' : Heap) : Prop where
  keep : ∀ b o, h.get? b = some o → b ∉ fs → b ≠ e → h'.get? b = some o
  slot : ∀ b o, h.get? b = some o → b ∈ fs → ∃ sl, h'.get? b = some { o with slots := sl }
  new : h.get? T = none
  ne : T ≠ e
  exc : ExcAt cls T e h'
  tr : TrAt T h'
end

theorem ObjOk.has {P : Program} {w : World} {H : Hp} {h : Heap} {a : Addr} {o : HO} (x : ObjOk P w H h a o) : ∃ u, h.get? a = some u := by
  cases o with
  | lst xs => obtain ⟨_, _, _, _, e⟩ := x; exact ⟨_, e⟩
  | tup xs => obtain ⟨_, _, _, ob, e, _⟩ := x; exact ⟨_, e⟩
  | dK kvs => obtain ⟨_, _, _, _, ob, _, _, e, _⟩ := x; exact ⟨_, e⟩
  | dT kvs => obtain ⟨_, _, _, _, ob, _, _, e, _⟩ := x; exact ⟨_, e⟩
  | set S n => obtain ⟨ob, _, _, _, e, _⟩ := x; exact ⟨_, e⟩
  | ins C dx fs => obtain ⟨_, _, _, e, _⟩ := x; exact ⟨_, e⟩
  | own y => exact x
  | xd fs => obtain ⟨_, ⟨ob, _, _, e, _⟩, _⟩ := x; exact ⟨_, e⟩
  | rng lo hi => obtain ⟨_, _, _, e⟩ := x; exact ⟨_, e⟩
  | frz ob u => exact ⟨_, x.1⟩
  | tbl ps => exact ⟨_, x⟩
  | met f y => exact ⟨_, x⟩
  | ext φ => exact x.2.1
theorem HOk.new {P : Program} {w : World} {H : Hp} {h : Heap} {a : Addr} (x : HOk P w H h) (e : h.get? a = none) : H a = none := by
  cases q : H a with
  | none => rfl
  | some u =>
    obtain ⟨o, z⟩ := (x a u q).has
    rw [e] at z; cases z
/-- the abstract heap with the thing and its new head -/
abbrev xH (H : Hp) (T e : Addr) (cls : Value) : Hp := upd (upd H T (TrO T)) e (ExcO cls T e)
section
variable {P : Program} {w : World} {fs : List Addr} {e T T0 : Addr} {cls : Value} {H : Hp} {h0 h1 h' : Heap}
theorem Left.un (x : Left fs e cls T h1 h') (hok : HOk P w H h0) (hfs : ∀ b ∈ fs, H b = none) (k : ∀ b o, h0.get? b = some o → b ≠ T0 → h1.get? b = some o) (kn : ∀ b, h1.get? b = none → h0.get? b = none)
    (e1 : ∀ o, h0.get? e = some o → ∃ T1, H e = some (ExcO cls T1 e)) (t1 : T0 = e ∨ (H T0 = some (TrO T0) ∧ TrAt T0 h1)) : Un fs [] H (xH H T e cls) h0 h' ∧ HOk P w (xH H T e cls) h' := by
  have hT0 : h0.get? T = none := kn T x.new
  have hTn : H T = none := hok.new hT0
  have exx : ∀ u, H e = some u → ∃ T1, u = ExcO cls T1 e := fun u q => by
    obtain ⟨o, z⟩ := (hok e u q).has
    obtain ⟨T1, r⟩ := e1 o z
    rw [r] at q; cases q; exact ⟨T1, rfl⟩
  have gen : ∀ b u, H b = some u → (∀ φ, u ≠ .ext φ) → xH H T e cls b = some u := fun b u q ne => by
    have hbe : b ≠ e := fun z => by
      subst z
      obtain ⟨T1, r⟩ := exx u q
      exact ne _ r
    have hbT : b ≠ T := fun z => by subst z; rw [hTn] at q; cases q
    show upd (upd H T (TrO T)) e (ExcO cls T e) b = some u
    rw [upd_ne hbe, upd_ne hbT]; exact q
  have ke : ∀ b o, h0.get? b = some o → H b = none → b ≠ e := fun b o q n z => by
    subst z
    obtain ⟨T1, r⟩ := e1 o q
    rw [n] at r; cases r
  have kT : ∀ b o, h0.get? b = some o → H b = none → b ≠ T0 := fun b o q n z => by
    rcases t1 with r | ⟨r, _⟩
    · exact ke b o q n (z.trans r)
    · subst z; rw [n] at r; cases r
  have on : ∀ b o, h1.get? b = some o → b ≠ e → ∃ o', h'.get? b = some o' := fun b o q hbe => by
    by_cases hb : b ∈ fs
    · obtain ⟨sl, z⟩ := x.slot b o q hb
      exact ⟨_, z⟩
    · exact ⟨o, x.keep b o q hb hbe⟩
  refine ⟨⟨fun b o q n hb _ => x.keep b o (k b o q (kT b o q n)) hb (ke b o q n), fun b o q n hb _ => x.slot b o (k b o q (kT b o q n)) hb, fun b o q n _ => ?_, fun b o q _ => ?_, fun b xs q => gen b _ q fun φ z => (nomatch z), fun b o u q => gen b _ q fun φ z => (nomatch z), fun b ps q => ⟨#[], by rw [gen b _ q fun φ z => (nomatch z)]; simp⟩⟩, fun b u q => ?_⟩
  · have hbT : b ≠ T := fun z => by subst z; rw [hT0] at q; cases q
    show upd (upd H T (TrO T)) e (ExcO cls T e) b = none
    rw [upd_ne (ke b o q n), upd_ne hbT]; exact n
  · by_cases hbe : b = e
    · subst hbe
      obtain ⟨oe, _, _, z, _⟩ := x.exc
      exact ⟨oe, z⟩
    · by_cases hb0 : b = T0
      · subst hb0
        rcases t1 with r | ⟨_, oT, _, z, _⟩
        · exact absurd r hbe
        · exact on b oT z hbe
      · exact on b o (k b o q hb0) hbe
  · by_cases hbe : b = e
    · subst hbe
      have : u = ExcO cls T b := by
        have q' : upd (upd H T (TrO T)) b (ExcO cls T b) b = some u := q
        rw [upd_same] at q'; cases q'; rfl
      subst this
      exact excO_ok x.exc
    · have q1 : upd (upd H T (TrO T)) e (ExcO cls T e) b = some u := q
      rw [upd_ne hbe] at q1
      by_cases hbT : b = T
      · subst hbT
        rw [upd_same] at q1; cases q1
        exact trO_ok x.tr
      · rw [upd_ne hbT] at q1
        have hbf : b ∉ fs := fun z => by rw [hfs b z] at q1; cases q1
        by_cases hb0 : b = T0
        · subst hb0
          rcases t1 with r | ⟨r, oT, ts, z, y⟩
          · exact absurd r hbe
          · rw [r] at q1; cases q1
            exact trO_ok ⟨oT, ts, x.keep b oT z hbf hbe, y⟩
        · refine (hok b u q1).stay (fun c v hc q2 => ?_) (fun c q2 => gen c _ q2 fun φ z => (nomatch z)) fun c xs q2 => gen c _ q2 fun φ z => (nomatch z)
          rcases hc with rfl | hc
          · exact x.keep c v (k c v q2 hb0) hbf hbe
          · have hce : c ≠ e := fun z => by
              subst z
              obtain ⟨T1, r⟩ := exx _ hc
              cases r
            have hc0 : c ≠ T0 := fun z => by
              rcases t1 with r | ⟨r, _⟩
              · exact hce (z.trans r)
              · subst z; rw [r] at hc; cases hc
            exact x.keep c v (k c v q2 hc0) (fun z => by rw [hfs c z] at hc; cases hc) hce
end
section
variable {X : Cx} {pins : List (Addr × Obj)} {σ : St} {H H' : Hp} {s : Shared} {h' : Heap}
/-- from within a def to its caller -/
theorem Inv.out (I : Inv X pins σ H s) (hx : X.ex = []) (u : Un (frs X.stack) [] H H' s.heap h') : Un (frs X.outer) [] X.H₀ H' X.s₀.heap h' := by
  have hsub : ∀ b ∈ X.fs, b ∈ frs X.stack := fun b hb => by
    rcases I.ok.stk with e | ⟨e, hf⟩
    · rw [e]; exact hb
    · rw [e]; unfold frs; rw [List.filterMap_cons, hf]; exact List.mem_cons_of_mem _ hb
  have b0 := I.base
  rw [hx] at b0
  have t := (b0.mono (fs' := frs X.stack) (ex' := []) hsub fun _ z => z).trans u
  refine ⟨fun b o q n hb hx => t.keep b o q n (fun z => ?_) hx, fun b o q n hb hx => t.slot b o q n (hsub b hb) hx, t.free, t.there, t.tups, t.frzs, t.tbls⟩
  rcases List.mem_cons.mp (I.stkSub b z) with r | r
  · subst r
    exact absurd (Nat.lt_of_lt_of_le (Heap.lt_size q) I.ok.above) (Nat.lt_irrefl _)
  · exact hb r
end
section
variable {P : Program} {w : World} {K : PySem.W.Frag} {mg : Str → Option Value} {base : Heap} {N : List Str} {qual : Str} {scope : Scope} {f : Addr} {cd : Value} {A : Around} {outer : List Env} {s0 : Shared} {H0 : Hp} {E : XK}
  {pins : List (Addr × Obj)} {σ : St} {H : Hp} {s : Shared}
end
end L2
set_option Elab.async false
set_option linter.all false
set_option maxRecDepth 100000
set_option maxHeartbeats 4000000
namespace L2
open PySem PySem.Spec PyProof.Rows
abbrev TJ := St → Hp → Str → VK → Prop
section
variable {X : Cx} {e e2 : Expr} {es : List Expr} {te te2 : TE} {tj : TJ} {pos : Pos}
end
end L2
set_option Elab.async false
set_option linter.all false
set_option maxRecDepth 100000
set_option maxHeartbeats 4000000
namespace L2
open PySem PySem.Spec PyProof.Rows
structure Cal1 (P : Program) (w : World) (K : PySem.W.Frag) (mg : Str → Option Value) (base : Heap) (x : Str) (k : Nat) (ps : List Str) (sp : Sp) : Prop where
  ex : ∃ (f : Addr) (fd : FuncData), FnOk P w K mg base (CX1 P w) k f fd ps sp ∧ Binds K fd ps [] ∧ PySem.W.keepIn K (.ref f) = true ∧ mg x = some (.ref f)
section
variable {P : Program} {w : World} {K : PySem.W.Frag} {mg : Str → Option Value} {base : Heap} {x : Str} {ps : List Str} {sp : Sp}
theorem Cal1.mono {j k : Nat} (C : Cal1 P w K mg base x j ps sp) (h : j ≤ k) : Cal1 P w K mg base x k ps sp := by
  obtain ⟨f, fd, F, r⟩ := C.ex
  exact ⟨f, fd, F.mono h, r⟩
end
/-- .. the wish may speak of the names' values at the call -/
def PassesS (CX : CXT) (X : Cx) (E : St → XK) : Prop := ∀ (pins : List (Addr × Obj)) (σ : St) (H : Hp) (s : Shared) (e : Value) (s' : Shared), Inv X pins σ H s → CX X.stack H s (E σ) e s' → X.xe e s'
theorem Passes.s {CX : CXT} {X : Cx} {E : XK} (h : Passes CX X E) : PassesS CX X fun _ => E := h
end L2
set_option Elab.async false
set_option linter.all false
set_option maxRecDepth 100000
set_option maxHeartbeats 4000000
namespace L2
open PySem PySem.Spec PyProof.Rows
abbrev XR := Value → Addr → St → Hp → Prop
section
variable {X : Cx} {pins more : List (Addr × Obj)} {σ : St} {H : Hp} {s : Shared} {R : XR}
end
end L2
namespace L2
open PySem PySem.Spec PyProof.Rows
section
variable {X : Cx} {pins : List (Addr × Obj)} {σ : St} {H : Hp} {s : Shared} {e : Addr}
end
/-- the class at C is one of the exceptions under the own class at D -/
structure Under (K : PySem.W.Frag) (D : Addr) (cls : Value) : Prop where
  ex : ∃ C, cls = .ref C ∧ PySem.W.subIn K (.ref C) (.ref D) = some true
end L2
set_option Elab.async false
set_option linter.all false
set_option maxRecDepth 100000
set_option maxHeartbeats 4000000
namespace L2
open PySem PySem.Spec PyProof.Rows
end L2
set_option Elab.async false
set_option linter.all false
set_option maxRecDepth 100000
set_option maxHeartbeats 4000000
namespace L2
open PySem PySem.Spec PySem.Calls PyProof.Rows PySem.W Builtin.Getset_descriptor
section
variable {prog : Program} {w : World} {A : Around} {E : Value → Shared → Prop} {K : Frag} {x C D : Addr} {ox : Obj} {h : Heap} {g : Array GenState} {d : Drawn} {t : Nat} {os : OsState}
/-- an object of the own class at D -/
structure ObAt (h : Heap) (x : Addr) (ox : Obj) (D : Addr) : Prop where
  at_ : h.get? x = some ox
  cls : ox.cls = .ref D
theorem ObAt.type {M : Model} (I : ObAt h x ox D) : Looks M h (typeOf (.ref x)) (.ref D) := I.cls ▸ (Looks.ld I.at_).andThen .now
/-- the facts of K about a class of exceptions -/
structure ExcK (K : Frag) (D : Addr) : Prop where
  ga : findIn K (.ref D) "__getattribute__" = some (some (.builtin "BaseException.__getattribute__"))
  no : findIn K (.ref D) "__getattr__" = some none
  cl : findIn K (.ref D) "__class__" = some (some (.builtin "object.__class__"))
  bs : subIn K (.ref D) (.type "BaseException") = some true
  ob : mroIn K D (.type "object") = some true
  is : isClsIn K D = true
end
end L2
set_option Elab.async false
set_option linter.all false
set_option maxRecDepth 100000
set_option maxHeartbeats 4000000
namespace L2
open PySem PySem.Spec PyProof.Rows
/-- what a callee's exception must be, so that ours is as E asks -/
def outX (E : XK) : XK := fun cls o H' => ∀ e, o = some e → ∀ T', H' T' = none → E cls o (xH H' T' e cls)
/-- the class at C is thrown, all that was tracked being as it was -/
def Thrown (C : Addr) (H : Hp) (E : XK) : Prop := ∀ (e T : Addr) (H' : Hp), Same H H' → H e = none → H' e = some (ExcO (.ref C) T e) → E (.ref C) (some e) H'
theorem same_xH {H H1 : Hp} {T e : Addr} {cls : Value} (s : Same H H1) (he : H e = none) (hT : H1 T = none) : Same H (xH H1 T e cls) := fun b o h => by
  have hbe : b ≠ e := fun z => by subst z; rw [he] at h; cases h
  have hbT : b ≠ T := fun z => by subst z; rw [s _ _ h] at hT; cases hT
  show upd (upd H1 T (TrO T)) e (ExcO cls T e) b = some o
  rw [upd_ne hbe, upd_ne hbT]; exact s b o h
section
variable {C : Addr} {H H1 : Hp} {E : XK}
theorem Thrown.up (h : Thrown C H E) (s : Same H H1) : Thrown C H1 E := fun e T H' s' he hx => h e T H' (s.trans s') (s.free he) hx
/-- by a raise of this def -/
theorem Thrown.made (h : Thrown C H E) {e T : Addr} (he : H e = none) (hT : H T = none) : E (.ref C) (some e) (xH H T e (.ref C)) := h e T _ (same_xH (Same.refl H) he hT) he upd_same
/-- by a callee -/
theorem Thrown.out (h : Thrown C H E) : Thrown C H (outX E) := fun e T H' s he hx e' z T' n => by
  cases z
  exact h e T' _ (same_xH s he n) he upd_same
end
structure Fn1 (P : Program) (w : World) (K : PySem.W.Frag) (mg : Str → Option Value) (base : Heap) (f : Addr) (k : Nat) (ps : List Str) (sp : Sp) : Prop where
  ex : ∃ (fd : FuncData), FnOk P w K mg base (CX1 P w) k f fd ps sp ∧ Binds K fd ps [] ∧ PySem.W.keepIn K (.ref f) = true
theorem Cal1.fn {P : Program} {w : World} {K : PySem.W.Frag} {mg : Str → Option Value} {base : Heap} {x : Str} {k : Nat} {ps : List Str} {sp : Sp} (C : Cal1 P w K mg base x k ps sp) : ∃ f, mg x = some (.ref f) ∧ Fn1 P w K mg base f k ps sp := by
  obtain ⟨f, fd, F, b, kp, m⟩ := C.ex
  exact ⟨f, m, fd, F, b, kp⟩
end L2
set_option Elab.async false
set_option linter.all false
set_option maxRecDepth 100000
set_option maxHeartbeats 4000000
namespace L2
open PySem PySem.Spec PyProof.Rows
section
variable {prog : Program} {w : World} {A : Around} {E : Value → Shared → Prop} {s : Shared}
end
def AllSay (n : Nat) (H : Hp) : List V → List V → Prop
  | [], [] => True
  | x :: xs, y :: ys => ((x = .non ∧ y = .non) ∨ ∃ d, Shal n d ∧ Den H x d ∧ Den H y d) ∧ AllSay n H xs ys
  | _, _ => False
theorem AllSay.len {n : Nat} {H : Hp} : ∀ {xs ys : List V}, AllSay n H xs ys → xs.length = ys.length
  | [], [], _ => rfl
  | _ :: _, _ :: _, h => congrArg (· + 1) h.2.len
  | [], _ :: _, h => h.elim
  | _ :: _, [], h => h.elim
theorem AllSay.at_ {n : Nat} {H : Hp} : ∀ {xs ys : List V} {j : Nat} (h1 : j < xs.length) (h2 : j < ys.length), AllSay n H xs ys → ((xs[j] = .non ∧ ys[j] = .non) ∨ ∃ d, Shal n d ∧ Den H xs[j] d ∧ Den H ys[j] d)
  | _ :: _, _ :: _, 0, _, _, h => h.1
  | _ :: _, _ :: _, j + 1, h1, h2, h => AllSay.at_ (j := j) (Nat.lt_of_succ_lt_succ h1) (Nat.lt_of_succ_lt_succ h2) h.2
end L2
set_option Elab.async false
set_option linter.all false
set_option maxRecDepth 100000
set_option maxHeartbeats 4000000
namespace L2
open PySem PySem.Spec PyProof.Rows
def TabD (F : List (Str × List Str)) : List (Str × KTD.Dat) := F.map fun p => (p.1, .tup (p.2.map PyData.str))
def KTbl (K : PySem.W.Frag) (t : Addr) (F : List (Str × List Str)) : Prop := KTD.tabLook (KTD.datLooks fun b => K.lookup b) (fun b => K.lookup b) t (TabD F) = true
def RK (K : PySem.W.Frag) (d : KTD.Dat) (v : Value) : Prop := KTD.datLooks (fun b => K.lookup b) d v = true
theorem KTbl.tab {K : PySem.W.Frag} {t : Addr} {F : List (Str × List Str)} {h : Heap} (k : KTbl K t F) (X : K.In h) : KTD.TabOf (RK K) h t (TabD F) := KTD.tab_of_look (fun _ _ x => x) (fun b o q => X b o q) k
theorem KTbl.here {K : PySem.W.Frag} {t : Addr} {F : List (Str × List Str)} {h : Heap} (k : KTbl K t F) (X : K.In h) : KTD.Here h h t (TabD F) := ⟨PySem.W.kt_text_in X k, fun _ _ e => e⟩
theorem datum_tab (k : Str) : ∀ F : List (Str × List Str), KTD.datumAt k (TabD F) = (F.lookup k).map fun ss => .tup (ss.map PyData.str)
  | [] => rfl
  | (x, ss) :: F => by
    show (if decide (k = x) = true then _ else KTD.datumAt k (TabD F)) = _
    rw [List.lookup_cons]
    by_cases h : k = x
    · subst h
      simp
    · have : (k == x) = false := by simpa using h
      rw [this, if_neg (by simpa using h), datum_tab k F]
theorem keys_tab (k : Str) (F : List (Str × List Str)) : KTD.inKeys k (TabD F) = (F.lookup k).isSome := by
  rw [← KTD.isSome_datumAt, datum_tab, Option.isSome_map]
theorem vals_strs : ∀ {ss : List Str} {vs : List Value}, KTD.flatsLook (ss.map PyData.str) vs = true → Vals (ss.map V.str) vs
  | [], [], _ => .nil
  | s :: ss, v :: vs, h => by
    simp only [List.map_cons, KTD.flatsLook, Bool.and_eq_true] at h
    refine .cons ?_ (vals_strs h.2)
    have h1 := h.1
    cases v <;> simp [KTD.flatLooks] at h1
    subst h1
    exact ⟨_, rfl⟩
  | [], _ :: _, h => by simp [KTD.flatsLook] at h
  | _ :: _, [], h => by simp [KTD.flatsLook] at h
theorem row_of {K : PySem.W.Frag} {ss : List Str} {v : Value} (hl : ss.length ≤ 1000) (h : RK K (.tup (ss.map PyData.str)) v) : ∃ b, v = .ref b ∧ ∀ H, SqT K H b (ss.map V.str) := by
  unfold RK at h
  cases v with
  | ref b =>
    refine ⟨b, rfl, fun H => .inr ?_⟩
    simp only [KTD.datLooks] at h
    cases e : K.lookup b with
    | none => rw [e] at h; cases h
    | some o =>
      rw [e] at h
      simp only [Bool.and_eq_true] at h
      obtain ⟨h1, h2⟩ := h
      cases ed : o.data <;> rw [ed] at h2 <;> try cases h2
      rename_i its n
      have r := vals_strs h2
      refine ⟨o, its, n, rfl, beq_iff_eq.mp h1, ed, ?_, r⟩
      have := r.length
      rw [List.length_map] at this
      rw [← Array.length_toList, ← this]
      exact small hl
  | _ => simp [KTD.datLooks] at h
section
variable {prog : Program} {w : World} {A : Around} {E : Value → Shared → Prop} {s : Shared}
theorem tbl_get {R : KTD.Dat → Value → Prop} {a : Addr} {k : Str} {tk : Tok} {D : List (Str × KTD.Dat)} {Q : Option Value → Shared → Prop} (T : KTD.TabOf R s.heap a D) {d : KTD.Dat} (hd : KTD.datumAt k D = some d)
    (q : ∀ v, R d v → Q (some v) { s with toks := s.toks + 1 }) : wpAny (model prog w) A (dictGet a (.str k tk)) Q E s := by
  obtain ⟨_, o, es, ep, ho, hc, he, hr⟩ := T
  unfold dictGet
  try with_reducible refine wpAny_holding ?_
  refine wpAny_bind (wpAny_pyHash_str (wpAny_bind (KTD.kt_dictFind_strs (s := { s with toks := s.toks + 1 }) ho he (by obtain ⟨l⟩ := es; simpa using hr.exact) ?_)))
  obtain ⟨v, hv, rv⟩ := hr.find_some hd
  have z : findBy (fun k v => v.isStr k) es k = some v := by
    obtain ⟨l⟩ := es
    simpa [findBy] using hv
  rw [findBy_of_findIdx?] at z
  cases hi : es.findIdx? fun e => e.key.isStr k with
  | none => rw [hi] at z; cases z
  | some i =>
    rw [hi] at z
    refine wpAny_bind (wpAny_dictEntries (s := { s with toks := s.toks + 1 }) ho he (wpAny_pure ?_))
    rw [show (es[i]?.map (·.val)) = some v from z]
    exact q v rv
end
def tTGet (K : PySem.W.Frag) (td ty : TE) : TE := fun σ H Q => td σ H fun x H1 => ty σ H1 fun y H2 => ∃ (t : Addr) (F : List (Str × List Str)) (k : Str) (ss : List Str), x = .ref t ∧ y = .str k ∧ KTbl K t F ∧ F.lookup k = some ss ∧ ss.length ≤ 1000 ∧
  ∀ b, (∀ H, SqT K H b (ss.map V.str)) → Q (.ref b) H2
theorem pe_tget {X : Cx} {o i : Expr} {pos : Pos} {td ty : TE} (ho : PE X o td) (hi : PE X i ty) (hs : NoSl i) : PE X (.Subscript o i pos) (tTGet X.K td ty) := by
  intro pins s σ H Q I h
  refine subD_of PySem.F.slot_dict_getitem.lookup hs (thn (ho pins s σ H _ I h) fun u s1 ⟨x, H1, I1, rx, q1⟩ => thn (hi pins s1 σ H1 _ I1 q1) fun iv s2 ⟨y, H2, I2, ry, t, F, k, ss, ex, ey, kt, hk, hl, q2⟩ => ?_)
  subst ex ey
  cases rx
  obtain ⟨tk, rfl⟩ := ry
  have T := kt.here I2.kIn
  refine ⟨T.typeIs, ?_⟩
  unfold getItem
  try with_reducible refine wpAny_holding ?_
  refine wpAny_bind (wpAny_sequenceKey T.typeIs (by decide) (wpAny_bind (wpAny_callSpecial?_slot (name := Str.ofString "__getitem__") T.typeIs slot_dict_getitem
    (wpAny_call_entry slot_dict_getitem T.typeIs entry_dict_getitem ?_ (args_dict_getitem _ _)))))
  show wpAny _ _ (dictGet t (.str k tk) >>= _) _ _ s2
  refine wpAny_bind (tbl_get (kt.tab I2.kIn) (d := .tup (ss.map PyData.str)) (by rw [datum_tab, hk]; rfl) fun v rv => wpAny_pure ⟨v, rfl, wpAny_pure ?_⟩)
  obtain ⟨b, rfl, hb⟩ := row_of hl rv
  exact ⟨.ref b, H2, I2.tok _, rfl, q2 b hb⟩
def rInTab (K : PySem.W.Frag) (neg : Bool) : R2 := fun x y H Q => ∃ (t : Addr) (F : List (Str × List Str)) (k : Str), x = .str k ∧ y = .ref t ∧ KTbl K t F ∧ Q (.bl (if neg then !(F.lookup k).isSome else (F.lookup k).isSome)) H
theorem op_notInTab {X : Cx} : OpR X (compareOp .NotIn) (rInTab X.K true) := by
  intro pins s σ H x y v u Q I rx ry h
  obtain ⟨t, F, k, rfl, rfl, kt, q⟩ := h
  obtain ⟨tk, rfl⟩ := rx
  cases ry
  refine KTD.notin_text (kt.here I.kIn) ?_
  rw [keys_tab]
  exact ⟨.bl (!(F.lookup k).isSome), H, I.tok _, rfl, q⟩
end L2
set_option Elab.async false
set_option linter.all false
set_option maxRecDepth 100000
set_option maxHeartbeats 4000000
namespace L2
open PySem PySem.Spec PyProof.Rows
inductive Th where
  | non | bl (b : Bool) | int (i : Int) | str (x : Str) | tup (ts : List Th) | lst | dct
mutual
def ThV (K : PySem.W.Frag) (B : List Addr) (H : Hp) : V → Th → Prop
  | v, .non => v = .non
  | v, .bl b => v = .bl b
  | v, .int i => v = .int i
  | v, .str x => v = .str x ∧ x.length ≤ 1000
  | v, .tup ts => ∃ (p : Addr) (vs : List V), v = .ref p ∧ SqT K H p vs ∧ ThL K B H vs ts
  | v, .lst => ∃ (p : Addr) (vs : List V), v = .ref p ∧ p ∉ B ∧ H p = some (.lst vs)
  | v, .dct => ∃ (p : Addr) (kvs : List (Key × V)), v = .ref p ∧ p ∉ B ∧ H p = some (.dK kvs)
def ThL (K : PySem.W.Frag) (B : List Addr) (H : Hp) : List V → List Th → Prop
  | [], [] => True
  | v :: vs, t :: ts => ThV K B H v t ∧ ThL K B H vs ts
  | _, _ => False
end
section
variable {K : PySem.W.Frag} {B : List Addr} {H H' : Hp}
theorem sqT_kept {a : Addr} {xs : List V} (e : ∀ (b : Addr) (o : HO), H b = some o → (∀ ys, o ≠ .lst ys) → (∀ ys, o ≠ .dK ys) → H' b = some o) (h : SqT K H a xs) : SqT K H' a xs := by
  rcases h with (h | ⟨o, h⟩) | h
  · exact .inl (.inl (e _ _ h (fun _ z => nomatch z) (fun _ z => nomatch z)))
  · exact .inl (.inr ⟨o, e _ _ h (fun _ z => nomatch z) (fun _ z => nomatch z)⟩)
  · exact .inr h
mutual
theorem ThV.keep (e : ∀ (b : Addr) (o : HO), H b = some o → (∀ ys, o ≠ .lst ys) → (∀ ys, o ≠ .dK ys) → H' b = some o) (f : ∀ (b : Addr) (o : HO), b ∉ B → H b = some o → H' b = some o) : ∀ {t : Th} {v : V}, ThV K B H v t → ThV K B H' v t
  | .non, _, h => h
  | .bl _, _, h => h
  | .int _, _, h => h
  | .str _, _, h => h
  | .tup ts, _, h => by
    obtain ⟨p, vs, rfl, hp, hd⟩ := h
    exact ⟨p, vs, rfl, sqT_kept e hp, ThL.keep e f hd⟩
  | .lst, _, h => by
    obtain ⟨p, vs, rfl, hb, hp⟩ := h
    exact ⟨p, vs, rfl, hb, f _ _ hb hp⟩
  | .dct, _, h => by
    obtain ⟨p, vs, rfl, hb, hp⟩ := h
    exact ⟨p, vs, rfl, hb, f _ _ hb hp⟩
theorem ThL.keep (e : ∀ (b : Addr) (o : HO), H b = some o → (∀ ys, o ≠ .lst ys) → (∀ ys, o ≠ .dK ys) → H' b = some o) (f : ∀ (b : Addr) (o : HO), b ∉ B → H b = some o → H' b = some o) : ∀ {ts : List Th} {vs : List V}, ThL K B H vs ts → ThL K B H' vs ts
  | [], [], _ => trivial
  | _ :: _, _ :: _, h => ⟨ThV.keep e f h.1, ThL.keep e f h.2⟩
  | [], _ :: _, h => h.elim
  | _ :: _, [], h => h.elim
end
theorem ThV.same (s : Same H H') {t : Th} {v : V} (h : ThV K B H v t) : ThV K B H' v t := h.keep (fun b o e _ _ => s b o e) fun b o _ e => s b o e
theorem ThL.same (s : Same H H') {ts : List Th} {vs : List V} (h : ThL K B H vs ts) : ThL K B H' vs ts := h.keep (fun b o e _ _ => s b o e) fun b o _ e => s b o e
theorem ThL.len : ∀ {ts : List Th} {vs : List V}, ThL K B H vs ts → vs.length = ts.length
  | [], [], _ => rfl
  | _ :: _, _ :: _, h => congrArg (· + 1) (ThL.len h.2)
  | [], _ :: _, h => h.elim
  | _ :: _, [], h => h.elim
theorem ThL.at_ : ∀ {ts : List Th} {vs : List V} {i : Nat} {v : V}, ThL K B H vs ts → vs[i]? = some v → ∃ t, ts[i]? = some t ∧ ThV K B H v t
  | t :: _, _ :: _, 0, _, h, e => by
    cases e
    exact ⟨t, rfl, h.1⟩
  | _ :: ts, _ :: vs, i + 1, _, h, e => ThL.at_ (ts := ts) (vs := vs) (i := i) h.2 (by simpa using e)
  | [], [], _, _, _, e => by cases e
  | [], _ :: _, _, _, h, _ => h.elim
  | _ :: _, [], _, _, h, _ => h.elim
theorem ThL.app : ∀ {ts us : List Th} {vs ws : List V}, ThL K B H vs ts → ThL K B H ws us → ThL K B H (vs ++ ws) (ts ++ us)
  | [], _, [], _, _, h => h
  | _ :: _, _, _ :: _, _, h, g => ⟨h.1, ThL.app h.2 g⟩
  | [], _, _ :: _, _, h, _ => h.elim
  | _ :: _, _, [], _, h, _ => h.elim
theorem ThL.drop : ∀ {ts : List Th} {vs : List V} (n : Nat), ThL K B H vs ts → ThL K B H (vs.drop n) (ts.drop n)
  | _, _, 0, h => h
  | _ :: _, _ :: _, n + 1, h => ThL.drop n h.2
  | [], [], _ + 1, _ => trivial
  | [], _ :: _, _, h => h.elim
  | _ :: _, [], _, h => h.elim
theorem ThL.take : ∀ {ts : List Th} {vs : List V} (n : Nat), ThL K B H vs ts → ThL K B H (vs.take n) (ts.take n)
  | [], [], 0, _ => trivial
  | _ :: _, _ :: _, 0, _ => trivial
  | _ :: _, _ :: _, n + 1, h => ⟨h.1, ThL.take n h.2⟩
  | [], [], _ + 1, _ => trivial
  | [], _ :: _, _, h => h.elim
  | _ :: _, [], _, h => h.elim
/-- the name of its type -/
def tyTh : Th → String
  | .non => "NoneType"
  | .bl _ => "bool"
  | .int _ => "int"
  | .str _ => "str"
  | .tup _ => "tuple"
  | .lst => "list"
  | .dct => "dict"
/-- isinstance(t, n) -/
def isTh (n : String) (t : Th) : Bool := tyTh t == n || (tyTh t == "bool" && n == "int")
theorem kit_all : ∀ T ∈ ["NoneType", "bool", "int", "str", "tuple", "list", "dict"], ∀ n ∈ ["int", "bool", "str", "tuple"],
    (if (Value.type T == Value.type n) = true then some true else (if PySem.W.kitMeta n = true then (fastBuiltinMro T).map (·.contains (.type n)) else none)) = some (T == n || (T == "bool" && n == "int")) := by decide +kernel
theorem kit_th (K : PySem.W.Frag) (n : String) (hn : n = "int" ∨ n = "bool" ∨ n = "str" ∨ n = "tuple") (t : Th) : PySem.W.kitOne K (.type (tyTh t)) (.type n) = some (isTh n t) := by
  refine kit_tt K (kit_all _ ?_ _ ?_)
  · cases t <;> simp [tyTh]
  · rcases hn with rfl | rfl | rfl | rfl <;> simp
end
def rIsTh (K : PySem.W.Frag) : List V → Hp → VK → Prop := fun xs H Q => ∃ (x : V) (n : String) (B : List Addr) (t : Th), xs = [x, .ty n] ∧ ThV K B H x t ∧ (n = "int" ∨ n = "bool" ∨ n = "str" ∨ n = "tuple") ∧ Q (.bl (isTh n t)) H
theorem call_isinstTh {X : Cx} : CallR X (.builtin "isinstance") (rIsTh X.K) := by
  intro pins s σ H xs us Q I r h
  obtain ⟨x, n, B, t, rfl, ht, hn, q⟩ := h
  have e := kit_th X.K n hn t
  cases t with
  | non =>
    obtain rfl : x = .non := ht
    exact call_isinst pins s σ H _ _ Q I r ⟨_, n, _, _, rfl, .non, e, q⟩
  | bl b =>
    obtain rfl : x = .bl b := ht
    exact call_isinst pins s σ H _ _ Q I r ⟨_, n, _, _, rfl, .bl b, e, q⟩
  | int i =>
    obtain rfl : x = .int i := ht
    exact call_isinst pins s σ H _ _ Q I r ⟨_, n, _, _, rfl, .int i, e, q⟩
  | str z =>
    obtain ⟨rfl, _⟩ : x = .str z ∧ _ := ht
    exact call_isinst pins s σ H _ _ Q I r ⟨_, n, _, _, rfl, .str z, e, q⟩
  | tup ts =>
    obtain ⟨p, vs, rfl, hp, _⟩ := ht
    exact call_isinstT pins s σ H _ _ Q I r ⟨p, vs, n, _, rfl, hp, e, q⟩
  | lst =>
    obtain ⟨p, vs, rfl, _, hp⟩ := ht
    exact call_isinst pins s σ H _ _ Q I r ⟨_, n, _, _, rfl, .lst hp, e, q⟩
  | dct =>
    obtain ⟨p, vs, rfl, _, hp⟩ := ht
    exact call_isinst pins s σ H _ _ Q I r ⟨_, n, _, _, rfl, .dK hp, e, q⟩
end L2
set_option Elab.async false
set_option linter.all false
set_option maxRecDepth 100000
set_option maxHeartbeats 4000000
namespace L2
open PySem PySem.Spec PyProof.Rows
theorem Paired.app {α β : Type} {F : α → β → Prop} : ∀ {as as' : List α} {bs bs' : List β}, Paired F as bs → Paired F as' bs' → Paired F (as ++ as') (bs ++ bs')
  | _, _, _, _, .nil, h => h
  | _, _, _, _, .cons r t, h => .cons r (Paired.app t h)
def rUpd : V → List V → Hp → VK → Prop := fun x xs H Q => ∃ (a b : Addr) (kvs kv2 : List (Key × V)), x = .ref a ∧ xs = [.ref b] ∧ a ≠ b ∧ H a = some (.dK kvs) ∧ H b = some (.dK kv2) ∧ ((kvs ++ kv2).map (·.1)).Nodup ∧ (kvs ++ kv2).length ≤ sizeLine ∧ Q .non (upd H a (.dK (kvs ++ kv2)))
theorem mt_update {X : Cx} : MtR X "dict.update" rUpd := by
  intro pins s σ H x xs v us Q I rx r h
  obtain ⟨a, b, kvs, kv2, rfl, rfl, hab, ha, hb, hnd, hl, q⟩ := h
  cases rx
  obtain ⟨u, rfl, ru⟩ := vals1 r
  cases ru
  obtain ⟨z, hd, vs, rel, dd⟩ := dk_of I.hok ha
  obtain ⟨z2, hd2, vs2, rel2, dd2⟩ := dk_of I.hok hb
  have hnd' : ((vs ++ vs2).map (·.1)).Nodup := by
    rw [List.map_append, ← rel.keys, ← rel2.keys, ← List.map_append]
    exact hnd
  have hll : vs.length + vs2.length ≤ sizeLine := by
    rw [← rel.length, ← rel2.length, ← List.length_append]
    exact hl
  refine call_meetsIn PySem.F.slot_dict_update dd.typeIs PySem.F.entry_dict_update (PySem.F.args_dict_update_2 _ _) (meets_dict_update (mixKind X.prog X.w) a b hab hd2) ⟨vs, vs2, dd, dd2, hll, fun h' dd' dd2' hs => ?_⟩
  have he : ∃ q, h'.get? a = some q := let ⟨q, _, _, hq, _⟩ := dd'; ⟨q, hq⟩
  rw [merged_append_of_fresh _ _ hnd'] at dd'
  exact ⟨.non, _, d_write (t' := s.toks) I (by rw [ha]; exact True.intro) hs he (dk_new hl hd (Paired.app rel rel2) dd'), rfl, q⟩
end L2
namespace L2
open PySem PySem.Spec PyProof.Rows
structure QPs (X : Cx) (pos : Pos) (keys : List (Option Expr)) (values : List Expr) (trs : List (TE × TE)) : Prop where
  h : PPs X pos keys values trs
theorem qps_nil {X : Cx} {pos : Pos} : QPs X pos [] [] [] := ⟨pps_nil⟩
theorem qps_cons {X : Cx} {pos : Pos} {k v : Expr} {ks : List (Option Expr)} {vs : List Expr} {tk tv : TE} {trs : List (TE × TE)} (hk : QE X k tk) (hv : QE X v tv) (hr : QPs X pos ks vs trs) : QPs X pos (some k :: ks) (v :: vs) ((tk, tv) :: trs) := ⟨pps_cons hk.h hv.h hr.h⟩
theorem qe_disp {X : Cx} {pos : Pos} {keys : List (Option Expr)} {values : List Expr} {trs : List (TE × TE)} (h : QPs X pos keys values trs) (hall : keys.all (·.isSome) = true) (hl : keys.length = values.length) (h0 : keys ≠ []) (h15 : keys.length ≤ 15) : QE X (.Dict keys values pos) (tDisp trs) := ⟨pe_disp h.h hall hl h0 h15⟩
theorem qe_str {X : Cx} {x : Str} {k : Nat} {pos : Pos} : QE X (.Constant (.str x) k pos) (tC (.str x)) := ⟨pe_str⟩
theorem qs_expr {X : Cx} {e : Expr} {te : TE} {pos : Pos} (he : QE X e te) (hs : swapsWith e none pos.line X.env = pure false := by rfl) : QS X (.Expr e pos) (tDrop te) := ⟨ps_expr he.h hs⟩
theorem qe_upd {X : Cx} {o e : Expr} {to te : TE} {apos cpos : Pos} (ho : QE X o to) (ha : QE X e te)
    (hbase : attributeBase o "update" X.env (eval o X.env) = eval o X.env := by rfl)
    (hfew : ((backTo cpos (starEach [e] X.env)).all (fun x => !x.1) && (backToKw cpos (keywordEach [] X.env)).all (fun x => x.1.isSome)
      && decide (([e] : List Expr).length + ([] : List Keyword).length + (if ([] : List Keyword).isEmpty then 0 else 1) < 30)) = true := by rfl)
    (hline : (apos.endLine == cpos.line) = true := by rfl) (hs : starEach [e] X.env = (false, eval e X.env) :: starEach [] X.env := by rfl) :
    QE X (.Call (.Attribute o "update" apos) [e] [] cpos) (tBM X.K "dict" rUpd to (tCons te tNil)) :=
  ⟨pe_bm PySem.F.plainAttrs_dict PySem.F.slot_dict_update PySem.F.type_dict_update mt_update ho.h (pa_cons ha.h pa_nil hs) hbase hfew hline hs rfl⟩
end L2
set_option Elab.async false
set_option linter.all false
set_option maxRecDepth 100000
set_option maxHeartbeats 4000000
namespace SO
open PySem PySem.W PyProof.Rows
section
variable {O : KeyOrd} {prog : Program} {w : World} {A : Around} {E : Value → Shared → Prop} {s : Shared}
theorem collect_dict {T : String} {r d : Addr} {n : Nat} {P : Nat → Value → Prop} {OK : Heap → Prop} (K : KdlSrc prog w T r d n P OK) (hh : A.handled = none) (hok : OK s.heap) (hn : n ≤ sizeLine) {Q : List Value → Shared → Prop}
    (h : ∀ (g : Heap) (tk : Nat) (acc : Array Value), Keeps s.heap g → s.heap.objs.size ≤ g.objs.size → ItemsOf P acc n → Q acc.toList { s with heap := g, toks := tk }) : wpAny (model prog w) A (collect (.ref r)) Q E s := by
  have lt := K.there _ hok
  unfold collect
  refine wpAny_bind (wpAny_runValue (codeAny_builtin entry_proto_collect' ?_))
  show wpAny _ _ (do again (.builtin "list.__iadd__" ⟨[← newList [], .ref r], []⟩)) _ _ s
  refine wpAny_bind (wpAny_newList (wpAny_pure ⟨Code.quiet_builtin _ (by decide +kernel), codeAny_builtin entry_list_iadd' ?_⟩))
  rw [Around.under_plainId PySem.F.plain_list_iadd _]
  have got := kdl_extend (A := A) (s := { s with heap := s.heap.push (seqObj "list" #[] 0) })
    (R := fun z s' => ∃ (g : Heap) (tk : Nat) (acc : Array Value) (c : Nat), z = .ok (.ret (.ref s.heap.objs.size)) ∧ s' = { s with heap := g, toks := tk } ∧ Keeps s.heap g ∧ g.get? s.heap.objs.size = some { cls := .type "list", dict := none, data := .seq acc c, slots := #[] } ∧ ItemsOf P acc n)
    K hh (K.keep _ _ hok fun b _ o e => Heap.get?_push_of_some _ e) s.heap.objs.size (Nat.ne_of_gt lt.1) (Nat.ne_of_gt lt.2) (.ref s.heap.objs.size) 0 (Heap.get?_push_size _ rfl)
    (fun g tk acc c kp eS ia => ⟨g, tk, acc, c, rfl, rfl, fun b o e => kp b o (Nat.ne_of_lt (Heap.lt_size e)) (Heap.get?_push_of_some _ e), eS, ia⟩) hn
  refine wpAny_mono got (fun f s' x => ?_) fun e s' x => ?_
  · cases f with
    | done f =>
      obtain ⟨g, tk, acc, c, ez, rfl, kp, eS, ia⟩ := x
      cases ez
      exact wpAny_bind (wpAny_load eS (wpAny_pure (h g tk acc kp (Nat.le_of_lt (Heap.lt_size eS)) ia)))
    | again c1 =>
      refine ⟨x.1, codeAny_mono x.2 fun z s2 y => ?_⟩
      obtain ⟨g, tk, acc, c, rfl, rfl, kp, eS, ia⟩ := y
      exact wpAny_bind (wpAny_load eS (wpAny_pure (h g tk acc kp (Nat.le_of_lt (Heap.lt_size eS)) ia)))
  · obtain ⟨_, _, _, _, ez, _⟩ := x
    cases ez
/-- sorted() of whatever is walked through, all of which is known behind it -/
theorem sorted_ofG {v : Value} {Q : Value → Shared → Prop} (G : List Value → Heap → Nat → Prop)
    (hcol : ∀ (Q : List Value → Shared → Prop), (∀ vs g tk, G vs g tk → Q vs { s with heap := g, toks := tk }) → wpAny (model prog w) A.in1 (collect v) Q E s)
    (hrest : ∀ vs g tk, G vs g tk → ∃ (key : Nat → O.α) (κ : SortKind), vs.length < 64 ∧ Keeps s.heap g ∧
      (2 ≤ vs.length → ∀ h', Keeps s.heap h' → ∀ (E : Value → Shared → Prop) (Q : SortKind → Shared → Prop), Q κ { s with heap := h', toks := tk } → wpAny (model prog w) A.in1.in1 (keyKind' vs.toArray) Q E { s with heap := h', toks := tk }) ∧
      (∀ h', Keeps s.heap h' → Cmp key vs.length (kas_ask prog w A.in1.in1 κ vs) { s with heap := h', toks := tk }) ∧
      (∀ (g' : Heap) (p : Array Nat), Keeps s.heap g' → InN vs.length p → SortedN key p vs.length → (∃ n, g'.get? g.objs.size = some (seqObj "list" (List.toArray (p.toList.map fun i => vs.getD i Value.none)) n)) → Q (.ref g.objs.size) { s with heap := g', toks := tk })) :
    wpAny (model prog w) A (call (.builtin "sorted") [v]) Q E s := by
  refine Calls.call_function_entry kind_sorted plain_sorted entry_sorted (args_sorted1 _) ?_
  unfold Builtin.«sorted»
  refine wpAny_bind (m := checkCount "sorted" 1 1 _) (wpAny_pure ?_)
  refine wpAny_bind (hcol _ fun vs g tk hG => ?_)
  obtain ⟨key, κ, h64, kg, hk, hc, h⟩ := hrest vs g tk hG
  refine wpAny_bind (wpAny_newList ?_ (by rw [sizeLine_eq]; omega))
  have hoL : (g.push (seqObj "list" vs.toArray 0)).get? g.objs.size = some (seqObj "list" vs.toArray 0) := Heap.get?_push_size _ rfl
  have kp : ∀ h', (∀ b o, b ≠ g.objs.size → (g.push (seqObj "list" vs.toArray 0)).get? b = some o → h'.get? b = some o) → Keeps s.heap h' := fun h' k b o q => by
    have q' := kg b o q
    exact k b o (Nat.ne_of_lt (Heap.lt_size q')) (Heap.get?_push_of_some _ q')
  show wpAny _ _ _ _ _ { s with heap := g.push (seqObj "list" vs.toArray 0), toks := tk }
  refine wpAny_bind (wpAny_holding (wpAny_call_entry slot_list_sort ⟨_, hoL, rfl⟩ entry_list_sort (list_sort (s := { s with heap := g.push (seqObj "list" vs.toArray 0), toks := tk }) key κ hoL h64 (fun z h' k Q q => hk z h' (kp h' k) _ Q q) (fun h' k => hc h' (kp h' k)) fun p a1 a2 => ⟨_, rfl, ?_⟩) (args_list_sort _)))
  refine wpAny_pure ⟨_, rfl, h _ p (kp _ fun b o hb q => ?_) a1 a2 ?_⟩
  · unfold sortedHeap
    have hlt : b < (g.push (seqObj "list" vs.toArray 0)).objs.size := Heap.lt_size q
    rw [Heap.get?_update_ne _ _ _ _ hb, Heap.get?_push_ne _ _ _ (by rw [size_push', Heap.size_update]; exact Nat.ne_of_lt (Nat.lt_succ_of_lt hlt)), Heap.get?_push_ne _ _ _ (by rw [Heap.size_update]; exact Nat.ne_of_lt hlt), Heap.get?_update_ne _ _ _ _ hb]
    exact q
  · unfold sortedHeap
    have ha : g.objs.size < (g.push (seqObj "list" vs.toArray 0)).objs.size := Heap.lt_size hoL
    obtain ⟨e1, ho1⟩ : ∃ e1, ((g.push (seqObj "list" vs.toArray 0)).update g.objs.size (Obj.mapSeq fun _ => #[])).get? g.objs.size = some (seqObj "list" #[] e1) := ⟨_, get?_update_seq hoL (fun _ => #[])⟩
    have ho6 : ((((g.push (seqObj "list" vs.toArray 0)).update g.objs.size (Obj.mapSeq fun _ => #[])).push (seqObj "tuple" vs.toArray 0)).push (seqObj "list" #[] 0)).get? g.objs.size = some (seqObj "list" #[] e1) := by
      rw [Heap.get?_push_ne _ _ _ (by rw [size_push', Heap.size_update]; exact Nat.ne_of_lt (Nat.lt_succ_of_lt ha)), Heap.get?_push_ne _ _ _ (by rw [Heap.size_update]; exact Nat.ne_of_lt ha)]
      exact ho1
    exact ⟨_, get?_update_seq ho6 _⟩
end
end SO
namespace L2
open PySem PySem.Spec PyProof.Rows
def rSortK : List V → Hp → VK → Prop := fun xs H Q => ∃ (p : Addr) (kvs : List (Key × V)) (ks : List Str), xs = [.ref p] ∧ H p = some (.dK kvs) ∧ kvs.map (·.1) = ks.map Sum.inr ∧ ks.length < 64 ∧
  ∀ (l : Addr) (us : List V) (ds' : List D), H l = none → ds'.Perm (ks.map D.str) → DenL H us ds' → Q (.ref l) (upd H l (.lst us))
theorem den_strs (H : Hp) : ∀ ks : List Str, DenL H (ks.map V.str) (ks.map D.str)
  | [] => trivial
  | _ :: ks => ⟨rfl, den_strs H ks⟩
theorem call_sortedDict {X : Cx} (hc : X.calm = true) (hu : X.A.units + 64 < cLine) : CallR X (.builtin "sorted") rSortK := by
  intro pins s σ H xs us Q I r h
  obtain ⟨p, kvs, ks, rfl, hp, hks, h64, q⟩ := h
  obtain ⟨u, rfl, rx⟩ := vals1 r
  cases rx
  obtain ⟨hz, lo, vs0, rel, dd⟩ := dk_of I.hok hp
  obtain ⟨ep, da⟩ := dd.dictAt
  have hl : vs0.length = kvs.length := rel.length.symm
  have hkl : kvs.length = ks.length := by
    have := congrArg List.length hks
    simpa using this
  have hD := den_strs H ks
  refine SO.sorted_ofG (O := ordD) (fun its g tk => Vals (ks.map V.str) its ∧ SO.Keeps s.heap g ∧ s.heap.objs.size ≤ g.objs.size) (fun Q' q' => SO.collect_dict (PySem.W.kdl_dict lo) (by first | exact I.ok.hd hc | simp [I.ok.hd hc]) da (by rw [hl]; exact hz) fun g tk acc kp hsz it => q' _ _ _ ⟨?_, kp, hsz⟩) fun its g tk ⟨rv, kg, hsz⟩ => ?_
  · refine vals_of (by rw [List.length_map, ← hkl, ← hl, ← it.1]; exact Array.length_toList.symm) fun i x u hx hu => ?_
    obtain ⟨k, y, hk, hi⟩ := it.2 i u (by simpa using hu)
    obtain ⟨q1, hq, e1, _⟩ := rel.at_ i (k, y) hk
    have hki : (kvs.map (·.1))[i]? = some q1.1 := by rw [List.getElem?_map, hq]; rfl
    rw [hks, List.getElem?_map] at hki
    rw [List.getElem?_map] at hx
    cases hs : ks[i]? with
    | none => rw [hs] at hx; cases hx
    | some z =>
      rw [hs] at hx hki
      have ex : x = .str z := (Option.some.inj hx).symm
      have ek : k = Sum.inr z := (show q1.1 = k from e1).symm.trans (Option.some.inj hki).symm
      rw [ex]
      have := rel_key hi
      rw [ek] at this
      exact this
  have l1 := hD.len
  have l2 := rv.length
  rw [List.length_map] at l1 l2
  have I1 : Inv X pins σ H { s with toks := tk } := I.tok tk
  have sim : ∀ d ∈ ks.map D.str, ∀ e ∈ ks.map D.str, Sim d e := fun d hd e he => by
    obtain ⟨a, _, rfl⟩ := List.mem_map.mp hd
    obtain ⟨b, _, rfl⟩ := List.mem_map.mp he
    rw [Sim]
    exact trivial
  have hdl : (ks.map D.str).length = ks.length := List.length_map _
  refine ⟨fun i => (ks.map D.str).getD i .non, oneType', by omega, kg, fun h2 h' kp E Q q => ?_, fun h' kp i j C hi hj q => ?_, fun g' pp kp hpp hs hob => ?_⟩
  · refine PySem.W.kas_kind (s := { s with heap := h', toks := tk }) h2 (T := .type "str") (fun v hv => ?_) (by decide) (by rfl) q
    obtain ⟨i, hi, rfl⟩ := List.mem_iff_getElem.mp hv
    obtain ⟨x, v, e1, e2, e3, e4, e5, e6⟩ := at3 (i := i) hD rv (by omega)
    rw [List.getElem?_eq_getElem hi] at e2
    cases e2
    obtain ⟨z, _, ez⟩ := List.mem_map.mp e6
    have := looks_ty (M := model X.prog X.w) I1 kp (sim _ e6 _ e6) e4 e5
    rw [← ez] at this
    exact this
  · obtain ⟨x, v, e1, e2, e3, e4, e5, e6⟩ := at3 (i := i) hD rv (by omega)
    obtain ⟨y, u, f1, f2, f3, f4, f5, f6⟩ := at3 (i := j) hD rv (by omega)
    unfold PySem.W.kas_ask
    rw [e3, f3, keyLt'_oneType]
    refine one_true (sim _ e6 _ f6) e4 f4 e5 f5 (fun ds z => ?_) _ _ q
    obtain ⟨a, _, ea⟩ := List.mem_map.mp e6
    rw [← ea] at z
    cases z
  · obtain ⟨m, hob⟩ := hob
    have hlt : ∀ i ∈ pp.toList, i < its.length := fun i hi => List.mem_range.mp (hpp.mem_iff.mp hi)
    have hps : pp.toList.length = its.length := by simpa using hpp.length_eq
    have hU := vals_map rv pp.toList fun i hi => by rw [List.length_map]; have := hlt i hi; omega
    refine ⟨.ref _, _, I.laid (t' := tk) (o := .lst (pp.toList.map fun i => (ks.map V.str).getD i .non)) kp hsz ⟨?_, _, m, hU, hob⟩, rfl, q _ _ (pp.toList.map fun i => (ks.map D.str).getD i .non) (I.hok.fresh hsz) ?_ (denL_map hD _ fun i hi => by have := hlt i hi; omega)⟩
    · rw [List.length_map, sizeLine_eq]
      omega
    · have e : (List.range its.length).map (fun i => (ks.map D.str).getD i .non) = ks.map D.str := by
        apply List.ext_getElem
        · simp; omega
        · intro i h1 h2
          simp [List.getD_eq_getElem?_getD] at h2 ⊢
          simp [h2]
      have := hpp.map fun i => (ks.map D.str).getD i D.non
      rw [e] at this
      exact this
end L2
set_option Elab.async false
set_option linter.all false
set_option maxRecDepth 100000
set_option maxHeartbeats 4000000
namespace L2
open PySem PySem.Spec PyProof.Rows
structure QI (X : Cx) (tg e : Expr) (t : TI) : Prop where
  h : PI X tg e t
theorem qss_one {X : Cx} {st : Stmt} {t : TS} (h1 : QS X st t) : QSs X [st] t := ⟨pss_one h1.h⟩
theorem qs_if {X : Cx} {c : Expr} {a b : List Stmt} {tc : TT} {t u : TS} {pos : Pos} (hc : PT X c tc) (ha : QSs X a t) (hb : QSs X b u) : QS X (.If c a b pos) (tIfS tc t u) := ⟨ps_if hc ha.h hb.h⟩
theorem qs_ret {X : Cx} {e : Expr} {te : TE} {pos : Pos} (he : QE X e te) : QS X (.Return (some e) pos) (tRet te) := ⟨ps_ret he.h⟩
theorem qi_list {X : Cx} {tg l : Expr} {tl : TE} (hl : QE X l tl) : QI X tg l (iList X.K tl) := ⟨pi_list hl.h⟩
theorem qs_for {X : Cx} {tg iter : Expr} {body : List Stmt} {wi : TI} {g : TG} {tb : TS} {pos : Pos} (hp : PassesOwn (model X.prog X.w) X.A X.env X.xe) (hc : X.calm = true) (hi : QI X tg iter wi) (hg : PG X tg g) (hb : QSs X body tb)
    (hs : ∀ x, foldedSetIterable iter X.env x = pure x := by intro _; rfl) : QS X (.For tg iter body [] pos) (tFor wi g tb) := ⟨ps_for hp hc hi.h hg hb.h hs⟩
theorem qe_cal {X : Cx} {x : Str} {k n : Nat} {ps : List Str} {sp : Sp} {e : Expr} {es : List Expr} {t : TA} {p pos : Pos} (C : Cal X.prog X.w X.K X.mg X.base x k ps sp) (hr : Room n X.A) (hk : k ≤ n) (hg : Gl X x) (ha : QA X (e :: es) t)
    (hdb : (x == ("__debug__" : Str)) = false := by decide) (he : starEach (e :: es) X.env = (false, eval e X.env) :: starEach es X.env := by rfl) (hpl : (backTo pos (starEach es X.env)).any (·.1) = false := by rfl) :
    QE X (.Call (.Name x p) (e :: es) [] pos) (tCall sp [] E0 t) := ⟨pe_cal C hr hk hg ha.h hdb he hpl⟩
theorem qe_op {X : Cx} {a b : Expr} {ta tb : TE} {pos : Pos} {op : Operator} {r : R2} (ho : OpR X (binaryOp op) r) (ha : QE X a ta) (hb : QE X b tb) : QE X (.BinOp a op b pos) (tOp r ta tb) := ⟨pe_op ho ha.h hb.h⟩
end L2
namespace L2
open PySem PySem.Spec PyProof.Rows
/-- f() -/
theorem pe_cal0 {X : Cx} {x : Str} {k n : Nat} {sp : Sp} {p pos : Pos} (C : Cal X.prog X.w X.K X.mg X.base x k [] sp) (hr : Room n X.A) (hk : k ≤ n) (hg : Gl X x)
    (hdb : (x == ("__debug__" : Str)) = false := by decide) : PE X (.Call (.Name x p) [] [] pos) (tCall sp [] E0 tNil) := by
  obtain ⟨f, fd, F, b, kp, m⟩ := C.ex
  exact pe_call0 F (hr.mono hk) hg m kp b .nil pass0 hdb
end L2
set_option Elab.async false
set_option linter.all false
set_option maxRecDepth 100000
set_option maxHeartbeats 4000000
namespace Mine
open PySem L2 PyProof.Rows
def top (i : Nat) : Stmt := PySem.Challenge.pw_twainkeep_k18_what_is_a_deed.main.body.getD i (.Pass ⟨0, 0, 0, 0⟩)
abbrev sIsNumber : Stmt := top 2
abbrev sIsMoment : Stmt := top 3
abbrev sIsSide : Stmt := top 4
abbrev sIsSign : Stmt := top 5
abbrev sIsText : Stmt := top 6
abbrev sIsName : Stmt := top 10
abbrev sAreUnlike : Stmt := top 12
abbrev sIsW : Stmt := top 14
abbrev sIsWord : Stmt := top 19
abbrev sAreLinkable : Stmt := top 20
abbrev sIsOfKind : Stmt := top 21
abbrev sIsDeed : Stmt := top 22
abbrev sPot : Stmt := top 24
abbrev sNext : Stmt := top 25
abbrev sNames : Stmt := top 26
abbrev sTaken : Stmt := top 27
abbrev sText : Stmt := top 28
abbrev sOneOf : Stmt := top 29
abbrev sForms : Stmt := top 30
abbrev sThing : Stmt := top 31
abbrev sOdd : Stmt := top 32
abbrev sSpoilt : Stmt := top 33
abbrev sLaw : Stmt := top 34
def isNumTh : Th → Bool
  | .int _ => true
  | _ => false
def isMomTh : Th → Bool
  | .int i => decide (0 ≤ i) && decide (i ≤ 1000000000000)
  | _ => false
def isSideTh : Th → Bool
  | .int i => decide (0 ≤ i) && decide (i ≤ 1)
  | _ => false
def goodC (c : Nat) : Bool := decide (32 ≤ c ∧ c ≤ 126) || decide (c = 10)
def isTxTh : Th → Bool
  | .str x => x.cps.toList.all goodC
  | _ => false
def isNmTh : Th → Bool
  | .str x => isNm x
  | _ => false
def isWdTh : Th → Bool
  | .str x => decide (1 ≤ x.length) && decide (x.length ≤ 20) && x.cps.toList.all M01.isW
  | _ => false
def isLkTh : Th → Bool
  | .tup ts => decide (1 ≤ ts.length) && decide (ts.length ≤ 8) && ts.all isNmTh
  | _ => false
def isBhTh : Th → Bool
  | .str x => isNm x || decide (x = "")
  | _ => false
def kindTh (k : Str) (t : Th) : Bool :=
  if k = "side" then isSideTh t else if k = "behind" then isBhTh t else if k = "name" then isNmTh t else if k = "names" then isLkTh t else if k = "number" then isMomTh t else if k = "word" then isWdTh t else isTxTh t
/-- whatever the thing, its kind is told -/
def spTh (K : PySem.W.Frag) (f : Th → Bool) : Sp := fun vs H Q _ => ∃ (v : V) (B : List Addr) (t : Th), vs = [v] ∧ ThV K B H v t ∧ ∀ H', Same H H' → Q (.bl (f t)) H'
def spSignT : Sp := fun vs H Q _ => ∃ c : Nat, vs = [.str ⟨#[c]⟩] ∧ Q (.bl (goodC c)) H
def spIsW : Sp := fun vs H Q _ => ∃ c : Nat, vs = [.str ⟨#[c]⟩] ∧ Q (.bl (M01.isW c)) H
def spKindT (K : PySem.W.Frag) : Sp := fun vs H Q _ => ∃ (v : V) (B : List Addr) (t : Th) (k : Str), vs = [v, .str k] ∧ ThV K B H v t ∧ ∀ H', Same H H' → Q (.bl (kindTh k t)) H'
def spUnlikeT (K : PySem.W.Frag) : Sp := fun vs H Q _ => ∃ (p : Addr) (ns : List Str), vs = [.ref p] ∧ SqT K H p (ns.map V.str) ∧ ns.length ≤ 4000 ∧ ∀ H', Same H H' → Q (.bl (decide ns.Nodup)) H'
theorem isTh_int (t : Th) : isTh "int" t = (match t with | .bl _ => true | .int _ => true | _ => false) := by cases t <;> rfl
theorem isTh_str (t : Th) : isTh "str" t = (match t with | .str _ => true | _ => false) := by cases t <;> rfl
theorem isTh_tup (t : Th) : isTh "tuple" t = (match t with | .tup _ => true | _ => false) := by cases t <;> rfl
theorem boot_bool : bootBuiltins "bool" = some (.type "bool") := by decide +kernel
theorem take_text {x : Str} {i c : Nat} (hc : x.cps[i]? = some c) : x.cps.toList.take (i + 1) = x.cps.toList.take i ++ [c] := by
  rw [List.take_add_one]
  have hc' : x.cps.toList[i]? = some c := by simpa using hc
  rw [hc']
  rfl
theorem take_whole (x : Str) : x.cps.toList.take x.cps.size = x.cps.toList := by rw [← Array.length_toList]; exact List.take_length
section
variable {P : Program} {w : World} {K : PySem.W.Frag} {mg : Str → Option Value} {base : Heap}
theorem scIsNumber : FnScope ["thing"] ["thing"] (defScope sIsNumber) := ⟨rfl, rfl, rfl, by decide +kernel, rfl, by decide +kernel, by decide +kernel⟩
theorem c_is_number (h : Has K mg "is_number" sIsNumber ["thing"]) (m_isinstance : mg "isinstance" = none) (m_bool : mg "bool" = none) (m_int : mg "int" = none) : Cal P w K mg base "is_number" 1 ["thing"] (spTh K isNumTh) := by
  refine h.mk' scIsNumber (fun vs H Q E hs => ?_) (fun f cdv A outer s H vs Q E hr hs => ?_)
  · obtain ⟨v, B, t, rfl, _⟩ := hs
    rfl
  obtain ⟨v, B, t, rfl, ht, k⟩ := hs
  refine ⟨_, (pss_one (ps_ret (pe_and (pe_callB call_isinstTh rfl m_isinstance boot_isinstance (pa_cons (pv 0) (pa_cons (pe_bltn (v := .ty "int") rfl m_int boot_int rfl) pa_nil))) (pe_one (pe_not (pe_callB call_isinstTh rfl m_isinstance boot_isinstance (pa_cons (pv 0) (pa_cons (pe_bltn (v := .ty "bool") rfl m_bool boot_bool rfl) pa_nil)))))))), ?_⟩
  have q := k H (Same.refl H)
  refine ⟨_, rfl, v, _, B, t, rfl, ht, .inl rfl, _, rfl, ?_⟩
  rw [isTh_int]
  cases t with
  | int i => exact iteT ⟨_, rfl, v, _, B, _, rfl, ht, .inr (.inl rfl), _, rfl, q⟩
  | bl b => exact iteT ⟨_, rfl, v, _, B, _, rfl, ht, .inr (.inl rfl), _, rfl, q⟩
  | _ => exact iteF q
theorem scIsMoment : FnScope ["thing"] ["thing"] (defScope sIsMoment) := ⟨rfl, rfl, rfl, by decide +kernel, rfl, by decide +kernel, by decide +kernel⟩
theorem c_is_moment (h : Has K mg "is_moment" sIsMoment ["thing"]) (C_is_number : Cal P w K mg base "is_number" 1 ["thing"] (spTh K isNumTh)) {t_LAST_MOMENT : Tok} (q_LAST_MOMENT : mg "LAST_MOMENT" = some (.int 1000000000000 t_LAST_MOMENT)) : Cal P w K mg base "is_moment" 2 ["thing"] (spTh K isMomTh) := by
  refine h.mk' scIsMoment (fun vs H Q E hs => ?_) (fun f cdv A outer s H vs Q E hr hs => ?_)
  · obtain ⟨v, B, t, rfl, _⟩ := hs
    rfl
  obtain ⟨v, B, t, rfl, ht, k⟩ := hs
  refine ⟨_, (pss_one (ps_ret (pe_and (pe_cal C_is_number hr (by decide) rfl (pa_cons (pv 0) pa_nil)) (pe_one (pe_chain op_le op_le pe_int (pv 0) (pe_glob (v := .int 1000000000000) rfl q_LAST_MOMENT ⟨t_LAST_MOMENT, rfl⟩)))))), ?_⟩
  refine ⟨_, rfl, v, B, t, rfl, ht, fun H1 s1 => ⟨_, rfl, ?_⟩⟩
  have q := k H1 s1
  cases t with
  | int i =>
    obtain rfl : v = .int i := ht
    refine iteT ⟨_, rfl, _, _, rfl, rfl, _, rfl, ?_⟩
    have e : isMomTh (.int i) = (decide (0 ≤ i) && decide (i ≤ 1000000000000)) := rfl
    rw [e] at q
    refine ite2 (fun z => ?_) (fun z => ?_)
    · rw [z, Bool.true_and] at q
      exact ⟨_, _, rfl, rfl, q⟩
    · rw [Bool.eq_false_iff.mpr z, Bool.false_and] at q
      exact q
  | _ => exact iteF q
theorem scIsSide : FnScope ["thing"] ["thing"] (defScope sIsSide) := ⟨rfl, rfl, rfl, by decide +kernel, rfl, by decide +kernel, by decide +kernel⟩
theorem c_is_side (h : Has K mg "is_side" sIsSide ["thing"]) (C_is_number : Cal P w K mg base "is_number" 1 ["thing"] (spTh K isNumTh)) : Cal P w K mg base "is_side" 2 ["thing"] (spTh K isSideTh) := by
  refine h.mk' scIsSide (fun vs H Q E hs => ?_) (fun f cdv A outer s H vs Q E hr hs => ?_)
  · obtain ⟨v, B, t, rfl, _⟩ := hs
    rfl
  obtain ⟨v, B, t, rfl, ht, k⟩ := hs
  refine ⟨_, (pss_one (ps_ret (pe_and (pe_cal C_is_number hr (by decide) rfl (pa_cons (pv 0) pa_nil)) (pe_one (pe_chain op_le op_le pe_int (pv 0) pe_int))))), ?_⟩
  refine ⟨_, rfl, v, B, t, rfl, ht, fun H1 s1 => ⟨_, rfl, ?_⟩⟩
  have q := k H1 s1
  cases t with
  | int i =>
    obtain rfl : v = .int i := ht
    refine iteT ⟨_, rfl, _, _, rfl, rfl, _, rfl, ?_⟩
    have e : isSideTh (.int i) = (decide (0 ≤ i) && decide (i ≤ 1)) := rfl
    rw [e] at q
    refine ite2 (fun z => ?_) (fun z => ?_)
    · rw [z, Bool.true_and] at q
      exact ⟨_, _, rfl, rfl, q⟩
    · rw [Bool.eq_false_iff.mpr z, Bool.false_and] at q
      exact q
  | _ => exact iteF q
theorem scIsSign : FnScope ["sign"] ["sign"] (defScope sIsSign) := ⟨rfl, rfl, rfl, by decide +kernel, rfl, by decide +kernel, by decide +kernel⟩
theorem c_is_sign (h : Has K mg "is_sign" sIsSign ["sign"])  : Cal P w K mg base "is_sign" 1 ["sign"] spSignT := by
  refine h.mk' scIsSign (fun vs H Q E hs => ?_) (fun f cdv A outer s H vs Q E hr hs => ?_)
  · obtain ⟨c, rfl, _⟩ := hs
    rfl
  obtain ⟨c, rfl, k⟩ := hs
  refine ⟨_, (pss_one (ps_ret (pe_or (pe_chain op_leS op_leS pe_str (pv 0) pe_str) (pe_one (pe_cmpR op_eq (pv 0) pe_str (nomark _)))))), ?_⟩
  refine chain_sign (a := 32) (b := 126) (by decide +kernel) (by decide +kernel) rfl ⟨_, rfl, ?_⟩
  unfold goodC at k
  refine ite2 (fun h => ?_) (fun h => ?_)
  · rw [h, Bool.true_or] at k
    exact k
  · rw [Bool.eq_false_iff.mpr h, Bool.false_or] at k
    refine ⟨_, rfl, rfl, ?_⟩
    have e : decide (V.str ⟨#[c]⟩ = V.str "\n") = decide (c = 10) := by
      by_cases z : c = 10
      · subst z
        decide +kernel
      · rw [decide_eq_false z]
        refine decide_eq_false fun y => z ?_
        injection y with y
        have : (⟨#[c]⟩ : Str).cps.toList = [10] := by rw [y]; decide +kernel
        simpa using this
    rw [e]
    exact k
theorem scIsW : FnScope ["sign"] ["sign"] (defScope sIsW) := ⟨rfl, rfl, rfl, by decide +kernel, rfl, by decide +kernel, by decide +kernel⟩
theorem c_isw (h : Has K mg "is_word_sign" sIsW ["sign"])  : Cal P w K mg base "is_word_sign" 1 ["sign"] spIsW := by
  refine h.mk' scIsW (fun vs H Q E hs => ?_) (fun f cdv A outer s H vs Q E hr hs => ?_)
  · obtain ⟨c, rfl, _⟩ := hs
    rfl
  obtain ⟨c, rfl, k⟩ := hs
  refine ⟨_, (pss_one (ps_ret (pe_or (pe_chain op_leS op_leS pe_str (pv 0) pe_str) (pe_or (pe_chain op_leS op_leS pe_str (pv 0) pe_str) (pe_one (pe_chain op_leS op_leS pe_str (pv 0) pe_str)))))), ?_⟩
  unfold M01.isW at k
  refine chain_sign (a := 97) (b := 122) (by decide +kernel) (by decide +kernel) rfl ⟨_, rfl, ?_⟩
  refine ite2 (fun h => ?_) (fun h => ?_)
  · rw [h] at k
    exact k
  · have h' : decide (97 ≤ c ∧ c ≤ 122) = false := by simpa using h
    rw [h', Bool.false_or] at k
    refine chain_sign (a := 65) (b := 90) (by decide +kernel) (by decide +kernel) rfl ⟨_, rfl, ?_⟩
    refine ite2 (fun g => ?_) (fun g => ?_)
    · rw [g] at k
      exact k
    · have g' : decide (65 ≤ c ∧ c ≤ 90) = false := by simpa using g
      rw [g', Bool.false_or] at k
      exact chain_sign (a := 48) (b := 57) (by decide +kernel) (by decide +kernel) rfl k
theorem scIsText : FnScope ["thing"] ["thing"] (defScope sIsText) := ⟨rfl, rfl, rfl, by decide +kernel, rfl, by decide +kernel, by decide +kernel⟩
theorem c_is_text (h : Has K mg "is_text" sIsText ["thing"]) (C_is_sign : Cal P w K mg base "is_sign" 1 ["sign"] spSignT) (m_all : mg "all" = none) (m_isinstance : mg "isinstance" = none) (m_str : mg "str" = none) : Cal P w K mg base "is_text" 2 ["thing"] (spTh K isTxTh) := by
  refine h.mk' scIsText (fun vs H Q E hs => ?_) (fun f cdv A outer s H vs Q E hr hs => ?_)
  · obtain ⟨v, B, t, rfl, _⟩ := hs
    rfl
  obtain ⟨v, B, t, rfl, ht, k⟩ := hs
  refine ⟨_, (pss_one (ps_ret (pe_and (pe_callB call_isinstTh rfl m_isinstance boot_isinstance (pa_cons (pv 0) (pa_cons (pe_bltn (v := .ty "str") rfl m_str boot_str rfl) pa_nil))) (pe_one (pe_callB (call_allB rfl) rfl m_all boot_all (pa_cons (pe_compL ["thing"] (defScope sIsText) ["sign"] [none] rfl rfl rfl (pi_str (pv 0)) rfl (by decide +kernel) (by decide +kernel) (by decide +kernel) (by decide +kernel) (hg := fun cl C s H ex pn E => (pg_name (i := 0) (by decide +kernel : (["sign"] : List Str).Nodup) rfl (Or.inl rfl))) (ht := fun cl C s H ex pn E => pifs_nil) (he := fun cl C s H ex pn E => (pe_cal C_is_sign hr (by decide) rfl (pa_cons (pv 0) pa_nil)))) pa_nil)))))), ?_⟩
  refine ⟨_, rfl, v, _, B, t, rfl, ht, .inr (.inr (.inl rfl)), _, rfl, ?_⟩
  rw [isTh_str]
  cases t with
  | str x =>
    obtain ⟨rfl, hx⟩ : v = .str x ∧ x.length ≤ 1000 := ht
    refine iteT ⟨_, rfl, _, rfl, fun l hl' => ?_⟩
    refine comp_by (J := Its x) (l := l) x.cps.size (fun i σ' H' => ∃ v : Option V, σ' = [v] ∧ H' = upd H l (.lst (((x.cps.toList.take i).map goodC).map V.bl))) ⟨none, rfl, rfl⟩ ?_ ?_
    · rintro σ' H' ⟨v, rfl, rfl⟩
      refine ⟨Nat.le_refl _, l, _, rfl, SqL.of upd_same, ?_⟩
      rw [take_whole, List.all_map]
      exact k _ (same_new hl' _)
    · rintro i σ' H' hi ⟨v, rfl, rfl⟩
      refine ⟨hi, ?_⟩
      rintro y H'' ⟨rfl, c, hc, rfl⟩
      refine gN (yesT (iteT ?_))
      refine ⟨_, rfl, c, rfl, _, upd_same, ?_, _, rfl, ?_⟩
      · rw [List.length_map, List.length_map, List.length_take]
        have : x.cps.size ≤ 1000 := hx
        exact small1000 (by omega)
      · rw [upd_upd, take_text hc, List.map_append, List.map_append]
        rfl
  | _ => exact iteF (k H (Same.refl H))
theorem scIsName : FnScope ["thing"] ["thing"] (defScope sIsName) := ⟨rfl, rfl, rfl, by decide +kernel, rfl, by decide +kernel, by decide +kernel⟩
theorem c_is_name (h : Has K mg "is_name" sIsName ["thing"]) (m_isinstance : mg "isinstance" = none) (m_str : mg "str" = none) (m_all : mg "all" = none) (m_len : mg "len" = none) {t_LETTERS : Tok} (q_LETTERS : mg "LETTERS" = some (.str LET t_LETTERS)) {t_MOST_LETTERS : Tok} (q_MOST_LETTERS : mg "MOST_LETTERS" = some (.int 8 t_MOST_LETTERS)) : Cal P w K mg base "is_name" 1 ["thing"] (spTh K isNmTh) := by
  refine h.mk' scIsName (fun vs H Q E hs => ?_) (fun f cdv A outer s H vs Q E hr hs => ?_)
  · obtain ⟨v, B, t, rfl, _⟩ := hs
    rfl
  obtain ⟨v, B, t, rfl, ht, k⟩ := hs
  refine ⟨_, (pss_cons (ps_if (pt_not (pt_val (pe_callB call_isinstTh rfl m_isinstance boot_isinstance (pa_cons (pv 0) (pa_cons (pe_bltn (v := .ty "str") rfl m_str boot_str rfl) pa_nil)))))
      (pss_one (ps_ret pe_bl))
      pss_nil)
    (pss_one (ps_ret (pe_and (pe_chain op_le op_le pe_int (pe_callB call_len_str rfl m_len PySem.boot_len (pa_cons (pv 0) pa_nil)) (pe_glob (v := .int 8) rfl q_MOST_LETTERS ⟨t_MOST_LETTERS, rfl⟩)) (pe_one (pe_callB (call_allB rfl) rfl m_all boot_all (pa_cons (pe_compL ["thing"] (defScope sIsName) ["sign"] [none] rfl rfl rfl (pi_str (pv 0)) rfl (by decide +kernel) (by decide +kernel) (by decide +kernel) (by decide +kernel) (hg := fun cl C s H ex pn E => (pg_name (i := 0) (by decide +kernel : (["sign"] : List Str).Nodup) rfl (Or.inl rfl))) (ht := fun cl C s H ex pn E => pifs_nil) (he := fun cl C s H ex pn E => (pe_cmpR op_in_str (pv 0) (pe_glob (v := .str LET) rfl q_LETTERS ⟨t_LETTERS, rfl⟩) (by with_unfolding_all rfl)))) pa_nil))))))), ?_⟩
  refine ⟨_, rfl, v, _, B, t, rfl, ht, .inr (.inr (.inl rfl)), _, rfl, ?_⟩
  rw [isTh_str]
  have q := k H (Same.refl H)
  cases t with
  | str x =>
    obtain ⟨rfl, hx⟩ : v = .str x ∧ x.length ≤ 1000 := ht
    refine iteF ?_
    have e : isNmTh (.str x) = isNm x := rfl
    rw [e] at q
    refine ⟨_, rfl, x, rfl, small hx, _, _, rfl, rfl, _, rfl, ?_⟩
    refine ite2 (fun c1 => ?_) (fun c1 => ?_)
    · have d1 : 1 ≤ x.length := by
        have := of_decide_eq_true c1
        omega
      refine ⟨_, _, rfl, rfl, _, rfl, ?_⟩
      refine ite2 (fun c2 => ?_) (fun c2 => ?_)
      · have d2 : x.length ≤ 8 := by
          have := of_decide_eq_true c2
          omega
        refine ⟨_, rfl, x, rfl, fun l hl => ?_⟩
        refine comp_by (J := Its x) (l := l) x.cps.size (fun i σ' H' => ∃ v : Option V, σ' = [v] ∧ H' = upd H l (.lst (((x.cps.toList.take i).map fun c => decide (97 ≤ c ∧ c ≤ 122)).map V.bl))) ⟨none, rfl, rfl⟩ ?_ ?_
        · rintro σ' H' ⟨v, rfl, rfl⟩
          refine ⟨Nat.le_refl _, l, _, rfl, SqL.of upd_same, ?_⟩
          have e2 : isNm x = ((x.cps.toList.take x.cps.size).map fun c => decide (97 ≤ c ∧ c ≤ 122)).all id := by
            unfold isNm
            rw [take_whole, decide_eq_true d1, decide_eq_true d2, List.all_map]
            rfl
          rw [← e2]
          exact k _ (same_new hl _)
        · rintro i σ' H' hi ⟨v, rfl, rfl⟩
          refine ⟨hi, ?_⟩
          rintro y H'' ⟨rfl, c, hc, rfl⟩
          refine gN (yesT (iteT ?_))
          refine ⟨_, rfl, _, _, rfl, rfl, _, upd_same, ?_, _, rfl, ?_⟩
          · rw [List.length_map, List.length_map, List.length_take]
            have hx8 : x.cps.size ≤ 8 := d2
            exact small1000 (by omega)
          · rw [upd_upd, empty_one, Bool.not_not]
            have ed : decide (c ∈ LET.cps.toList) = decide (97 ≤ c ∧ c ≤ 122) := decide_eq_decide.mpr (let_mem c)
            rw [take_text hc, ed, List.map_append, List.map_append]
            rfl
      · have e2 : isNm x = false := by
          unfold isNm
          have : ¬ x.length ≤ 8 := fun z => c2 (decide_eq_true (by omega))
          rw [decide_eq_false this, Bool.and_false, Bool.false_and]
        rw [e2] at q
        exact q
    · have e2 : isNm x = false := by
        unfold isNm
        have : ¬ 1 ≤ x.length := fun z => c1 (decide_eq_true (by omega))
        rw [decide_eq_false this, Bool.false_and, Bool.false_and]
      rw [e2] at q
      exact ⟨_, rfl, iteF q⟩
  | _ => exact iteT q
theorem scIsWord : FnScope ["thing"] ["thing"] (defScope sIsWord) := ⟨rfl, rfl, rfl, by decide +kernel, rfl, by decide +kernel, by decide +kernel⟩
theorem c_is_word (h : Has K mg "is_word" sIsWord ["thing"]) (C_isw : Cal P w K mg base "is_word_sign" 1 ["sign"] spIsW) (m_isinstance : mg "isinstance" = none) (m_str : mg "str" = none) (m_all : mg "all" = none) (m_len : mg "len" = none) {t_MOST_WORD_SIGNS : Tok} (q_MOST_WORD_SIGNS : mg "MOST_WORD_SIGNS" = some (.int 20 t_MOST_WORD_SIGNS)) : Cal P w K mg base "is_word" 2 ["thing"] (spTh K isWdTh) := by
  refine h.mk' scIsWord (fun vs H Q E hs => ?_) (fun f cdv A outer s H vs Q E hr hs => ?_)
  · obtain ⟨v, B, t, rfl, _⟩ := hs
    rfl
  obtain ⟨v, B, t, rfl, ht, k⟩ := hs
  refine ⟨_, (pss_cons (ps_if (pt_not (pt_val (pe_callB call_isinstTh rfl m_isinstance boot_isinstance (pa_cons (pv 0) (pa_cons (pe_bltn (v := .ty "str") rfl m_str boot_str rfl) pa_nil)))))
      (pss_one (ps_ret pe_bl))
      pss_nil)
    (pss_one (ps_ret (pe_and (pe_chain op_le op_le pe_int (pe_callB call_len_str rfl m_len PySem.boot_len (pa_cons (pv 0) pa_nil)) (pe_glob (v := .int 20) rfl q_MOST_WORD_SIGNS ⟨t_MOST_WORD_SIGNS, rfl⟩)) (pe_one (pe_callB (call_allB rfl) rfl m_all boot_all (pa_cons (pe_compL ["thing"] (defScope sIsWord) ["sign"] [none] rfl rfl rfl (pi_str (pv 0)) rfl (by decide +kernel) (by decide +kernel) (by decide +kernel) (by decide +kernel) (hg := fun cl C s H ex pn E => (pg_name (i := 0) (by decide +kernel : (["sign"] : List Str).Nodup) rfl (Or.inl rfl))) (ht := fun cl C s H ex pn E => pifs_nil) (he := fun cl C s H ex pn E => (pe_cal C_isw hr (by decide) rfl (pa_cons (pv 0) pa_nil)))) pa_nil))))))), ?_⟩
  refine ⟨_, rfl, v, _, B, t, rfl, ht, .inr (.inr (.inl rfl)), _, rfl, ?_⟩
  rw [isTh_str]
  have q := k H (Same.refl H)
  cases t with
  | str x =>
    obtain ⟨rfl, hx⟩ : v = .str x ∧ x.length ≤ 1000 := ht
    refine iteF ?_
    have e : isWdTh (.str x) = (decide (1 ≤ x.length) && decide (x.length ≤ 20) && x.cps.toList.all M01.isW) := rfl
    refine ⟨_, rfl, x, rfl, small hx, _, _, rfl, rfl, _, rfl, ?_⟩
    refine ite2 (fun c1 => ?_) (fun c1 => ?_)
    · have d1 : 1 ≤ x.length := by
        have := of_decide_eq_true c1
        omega
      refine ⟨_, _, rfl, rfl, _, rfl, ?_⟩
      refine ite2 (fun c2 => ?_) (fun c2 => ?_)
      · have d2 : x.length ≤ 20 := by
          have := of_decide_eq_true c2
          omega
        refine ⟨_, rfl, x, rfl, fun l hl => ?_⟩
        refine comp_by (J := Its x) (l := l) x.cps.size (fun i σ' H' => ∃ v : Option V, σ' = [v] ∧ H' = upd H l (.lst (((x.cps.toList.take i).map M01.isW).map V.bl))) ⟨none, rfl, rfl⟩ ?_ ?_
        · rintro σ' H' ⟨v, rfl, rfl⟩
          refine ⟨Nat.le_refl _, l, _, rfl, SqL.of upd_same, ?_⟩
          have e2 : isWdTh (.str x) = ((x.cps.toList.take x.cps.size).map M01.isW).all id := by
            rw [e, take_whole, decide_eq_true d1, decide_eq_true d2, List.all_map]
            rfl
          rw [← e2]
          exact k _ (same_new hl _)
        · rintro i σ' H' hi ⟨v, rfl, rfl⟩
          refine ⟨hi, ?_⟩
          rintro y H'' ⟨rfl, c, hc, rfl⟩
          refine gN (yesT (iteT ?_))
          refine ⟨_, rfl, c, rfl, _, upd_same, ?_, _, rfl, ?_⟩
          · rw [List.length_map, List.length_map, List.length_take]
            have hx8 : x.cps.size ≤ 20 := d2
            exact small1000 (by omega)
          · rw [upd_upd, take_text hc, List.map_append, List.map_append]
            rfl
      · have : ¬ x.length ≤ 20 := fun z => c2 (decide_eq_true (by omega))
        rw [e, decide_eq_false this, Bool.and_false, Bool.false_and] at q
        exact q
    · have : ¬ 1 ≤ x.length := fun z => c1 (decide_eq_true (by omega))
      rw [e, decide_eq_false this, Bool.false_and, Bool.false_and] at q
      exact ⟨_, rfl, iteF q⟩
  | _ => exact iteT q
theorem scAreLinkable : FnScope ["thing"] ["thing"] (defScope sAreLinkable) := ⟨rfl, rfl, rfl, by decide +kernel, rfl, by decide +kernel, by decide +kernel⟩
theorem c_are_linkable (h : Has K mg "are_linkable" sAreLinkable ["thing"]) (C_is_name : Cal P w K mg base "is_name" 1 ["thing"] (spTh K isNmTh)) (m_isinstance : mg "isinstance" = none) (m_tuple : mg "tuple" = none) (m_all : mg "all" = none) (m_len : mg "len" = none) {t_MOST_LINKED : Tok} (q_MOST_LINKED : mg "MOST_LINKED" = some (.int 8 t_MOST_LINKED)) : Cal P w K mg base "are_linkable" 2 ["thing"] (spTh K isLkTh) := by
  refine h.mk' scAreLinkable (fun vs H Q E hs => ?_) (fun f cdv A outer s H vs Q E hr hs => ?_)
  · obtain ⟨v, B, t, rfl, _⟩ := hs
    rfl
  obtain ⟨v, B, t, rfl, ht, k⟩ := hs
  refine ⟨_, (pss_cons (ps_if (pt_not (pt_val (pe_callB call_isinstTh rfl m_isinstance boot_isinstance (pa_cons (pv 0) (pa_cons (pe_bltn (v := .ty "tuple") rfl m_tuple boot_tuple rfl) pa_nil)))))
      (pss_one (ps_ret pe_bl))
      pss_nil)
    (pss_one (ps_ret (pe_and (pe_chain op_le op_le pe_int (pe_callB call_len_seq rfl m_len PySem.boot_len (pa_cons (pv 0) pa_nil)) (pe_glob (v := .int 8) rfl q_MOST_LINKED ⟨t_MOST_LINKED, rfl⟩)) (pe_one (pe_callB (call_allB rfl) rfl m_all boot_all (pa_cons (pe_compL ["thing"] (defScope sAreLinkable) ["each"] [none] rfl rfl rfl (pi_tup (pv 0)) rfl (by decide +kernel) (by decide +kernel) (by decide +kernel) (by decide +kernel) (hg := fun cl C s H ex pn E => (pg_name (i := 0) (by decide +kernel : (["each"] : List Str).Nodup) rfl (Or.inl rfl))) (ht := fun cl C s H ex pn E => pifs_nil) (he := fun cl C s H ex pn E => (pe_cal C_is_name hr (by decide) rfl (pa_cons (pv 0) pa_nil)))) pa_nil))))))), ?_⟩
  refine ⟨_, rfl, v, _, B, t, rfl, ht, .inr (.inr (.inr rfl)), _, rfl, ?_⟩
  rw [isTh_tup]
  have q := k H (Same.refl H)
  cases t with
  | tup ts =>
    obtain ⟨p, vs, rfl, hp, hd⟩ := ht
    refine iteF ?_
    have e : isLkTh (.tup ts) = (decide (1 ≤ ts.length) && decide (ts.length ≤ 8) && ts.all isNmTh) := rfl
    have hl0 := hd.len
    refine ⟨_, rfl, p, _, rfl, .inr hp, _, _, rfl, rfl, _, rfl, ?_⟩
    refine ite2 (fun c1 => ?_) (fun c1 => ?_)
    · have d1 : 1 ≤ ts.length := by
        have := of_decide_eq_true c1
        omega
      refine ⟨_, _, rfl, rfl, _, rfl, ?_⟩
      refine ite2 (fun c2 => ?_) (fun c2 => ?_)
      · have d2 : ts.length ≤ 8 := by
          have := of_decide_eq_true c2
          omega
        refine ⟨_, rfl, p, rfl, ⟨_, hp⟩, fun l hl => ?_⟩
        refine comp_by (J := Itt K p) (l := l) vs.length (fun i σ' H' => ∃ v : Option V, σ' = [v] ∧ Same H H' ∧ H' l = some (.lst (((ts.take i).map isNmTh).map V.bl))) ⟨none, rfl, same_new hl _, upd_same⟩ ?_ ?_
        · rintro σ' H' ⟨v, rfl, s', e'⟩
          refine ⟨⟨_, stT s' hp, Nat.le_refl _⟩, l, _, rfl, SqL.of e', ?_⟩
          have e2 : isLkTh (.tup ts) = ((ts.take vs.length).map isNmTh).all id := by
            rw [e, hl0, List.take_length, decide_eq_true d1, decide_eq_true d2, List.all_map]
            rfl
          rw [← e2]
          exact k _ s'
        · rintro i σ' H' hi ⟨v, rfl, s', e'⟩
          have hat' : vs[i]? = some vs[i] := List.getElem?_eq_getElem hi
          refine ⟨⟨_, _, stT s' hp, hat'⟩, ?_⟩
          rintro y H'' ⟨rfl, hy⟩
          have ey : y = vs[i] := Option.some.inj ((hy _ (stT s' hp)).symm.trans hat')
          subst ey
          obtain ⟨t, ht, hv⟩ := hd.at_ hat'
          refine gN (yesT (iteT ?_))
          refine ⟨_, rfl, _, B, t, rfl, hv.same s', fun H3 s3 => ⟨_, s3 _ _ e', ?_, _, rfl, ?_, ?_⟩⟩
          · rw [List.length_map, List.length_map, List.length_take]
            exact small1000 (by omega)
          · intro c o z
            rw [upd_ne (ne_of_none z hl)]
            exact s3 _ _ (s' _ _ z)
          · rw [upd_same, List.take_add_one, ht, List.map_append, List.map_append]
            rfl
      · have : ¬ ts.length ≤ 8 := fun z => c2 (decide_eq_true (by omega))
        rw [e, decide_eq_false this, Bool.and_false, Bool.false_and] at q
        exact q
    · have : ¬ 1 ≤ ts.length := fun z => c1 (decide_eq_true (by omega))
      rw [e, decide_eq_false this, Bool.false_and, Bool.false_and] at q
      exact ⟨_, rfl, iteF q⟩
  | _ => exact iteT q
theorem ez_str (a b : Str) : decide (V.str a = V.str b) = decide (a = b) := by
  by_cases h : a = b
  · subst h; simp
  · rw [decide_eq_false h]
    exact decide_eq_false fun z => h (by injection z)
theorem scIsOfKind : FnScope ["thing", "kind"] ["thing", "kind"] (defScope sIsOfKind) := ⟨rfl, rfl, rfl, by decide +kernel, rfl, by decide +kernel, by decide +kernel⟩
theorem c_is_of_kind (h : Has K mg "is_of_kind" sIsOfKind ["thing", "kind"]) (C_is_side : Cal P w K mg base "is_side" 2 ["thing"] (spTh K isSideTh)) (C_is_name : Cal P w K mg base "is_name" 1 ["thing"] (spTh K isNmTh)) (C_are_linkable : Cal P w K mg base "are_linkable" 2 ["thing"] (spTh K isLkTh)) (C_is_moment : Cal P w K mg base "is_moment" 2 ["thing"] (spTh K isMomTh)) (C_is_word : Cal P w K mg base "is_word" 2 ["thing"] (spTh K isWdTh)) (C_is_text : Cal P w K mg base "is_text" 2 ["thing"] (spTh K isTxTh)) (m_isinstance : mg "isinstance" = none) (m_str : mg "str" = none) : Cal P w K mg base "is_of_kind" 3 ["thing", "kind"] (spKindT K) := by
  refine h.mk' scIsOfKind (fun vs H Q E hs => ?_) (fun f cdv A outer s H vs Q E hr hs => ?_)
  · obtain ⟨v, B, t, kd, rfl, _⟩ := hs
    rfl
  obtain ⟨v, B, t, kd, rfl, ht, k⟩ := hs
  refine ⟨_, (pss_cons (ps_if (pt_cmpR op_eq (pv 1) pe_str (nomark _))
      (pss_one (ps_ret (pe_cal C_is_side hr (by decide) rfl (pa_cons (pv 0) pa_nil))))
      pss_nil)
    (pss_cons (ps_if (pt_cmpR op_eq (pv 1) pe_str (nomark _))
      (pss_one (ps_ret (pe_or (pe_cal C_is_name hr (by decide) rfl (pa_cons (pv 0) pa_nil)) (pe_one (pe_and (pe_callB call_isinstTh rfl m_isinstance boot_isinstance (pa_cons (pv 0) (pa_cons (pe_bltn (v := .ty "str") rfl m_str boot_str rfl) pa_nil))) (pe_one (pe_cmpR op_eq (pv 0) pe_str (nomark _))))))))
      pss_nil)
    (pss_cons (ps_if (pt_cmpR op_eq (pv 1) pe_str (nomark _))
      (pss_one (ps_ret (pe_cal C_is_name hr (by decide) rfl (pa_cons (pv 0) pa_nil))))
      pss_nil)
    (pss_cons (ps_if (pt_cmpR op_eq (pv 1) pe_str (nomark _))
      (pss_one (ps_ret (pe_cal C_are_linkable hr (by decide) rfl (pa_cons (pv 0) pa_nil))))
      pss_nil)
    (pss_cons (ps_if (pt_cmpR op_eq (pv 1) pe_str (nomark _))
      (pss_one (ps_ret (pe_cal C_is_moment hr (by decide) rfl (pa_cons (pv 0) pa_nil))))
      pss_nil)
    (pss_cons (ps_if (pt_cmpR op_eq (pv 1) pe_str (nomark _))
      (pss_one (ps_ret (pe_cal C_is_word hr (by decide) rfl (pa_cons (pv 0) pa_nil))))
      pss_nil)
    (pss_one (ps_ret (pe_cal C_is_text hr (by decide) rfl (pa_cons (pv 0) pa_nil)))))))))), ?_⟩
  unfold kindTh at k
  refine ⟨_, rfl, rfl, _, rfl, ?_⟩
  rw [ez_str]
  refine ite2 (fun z => ?_) (fun z => ?_)
  · rw [if_pos (of_decide_eq_true z)] at k
    exact ⟨_, rfl, v, B, t, rfl, ht, k⟩
  rw [if_neg (by simpa using z)] at k
  refine ⟨_, rfl, rfl, _, rfl, ?_⟩
  rw [ez_str]
  refine ite2 (fun z => ?_) (fun z => ?_)
  · rw [if_pos (of_decide_eq_true z)] at k
    refine ⟨_, rfl, v, B, t, rfl, ht, fun H1 s1 => ⟨_, rfl, ?_⟩⟩
    have q := k H1 s1
    refine ite2 (fun y => ?_) (fun y => ?_)
    · cases t with
      | str x =>
        have e : isBhTh (.str x) = (isNm x || decide (x = "")) := rfl
        rw [e, show isNm x = true from y, Bool.true_or] at q
        exact q
      | _ => cases y
    · refine ⟨_, rfl, v, _, B, t, rfl, ht.same s1, .inr (.inr (.inl rfl)), _, rfl, ?_⟩
      rw [isTh_str]
      cases t with
      | str x =>
        obtain ⟨rfl, hx⟩ : v = .str x ∧ x.length ≤ 1000 := ht
        refine iteT ⟨_, rfl, rfl, ?_⟩
        rw [ez_str]
        have e : isBhTh (.str x) = (isNm x || decide (x = "")) := rfl
        rw [e, show isNm x = false from Bool.eq_false_iff.mpr y, Bool.false_or] at q
        exact q
      | _ => exact iteF q
  rw [if_neg (by simpa using z)] at k
  refine ⟨_, rfl, rfl, _, rfl, ?_⟩
  rw [ez_str]
  refine ite2 (fun z => ?_) (fun z => ?_)
  · rw [if_pos (of_decide_eq_true z)] at k
    exact ⟨_, rfl, v, B, t, rfl, ht, k⟩
  rw [if_neg (by simpa using z)] at k
  refine ⟨_, rfl, rfl, _, rfl, ?_⟩
  rw [ez_str]
  refine ite2 (fun z => ?_) (fun z => ?_)
  · rw [if_pos (of_decide_eq_true z)] at k
    exact ⟨_, rfl, v, B, t, rfl, ht, k⟩
  rw [if_neg (by simpa using z)] at k
  refine ⟨_, rfl, rfl, _, rfl, ?_⟩
  rw [ez_str]
  refine ite2 (fun z => ?_) (fun z => ?_)
  · rw [if_pos (of_decide_eq_true z)] at k
    exact ⟨_, rfl, v, B, t, rfl, ht, k⟩
  rw [if_neg (by simpa using z)] at k
  refine ⟨_, rfl, rfl, _, rfl, ?_⟩
  rw [ez_str]
  refine ite2 (fun z => ?_) (fun z => ?_)
  · rw [if_pos (of_decide_eq_true z)] at k
    exact ⟨_, rfl, v, B, t, rfl, ht, k⟩
  rw [if_neg (by simpa using z)] at k
  exact ⟨_, rfl, v, B, t, rfl, ht, k⟩
theorem scAreUnlike : FnScope ["names"] ["names"] (defScope sAreUnlike) := ⟨rfl, rfl, rfl, by decide +kernel, rfl, by decide +kernel, by decide +kernel⟩
theorem c_are_unlike (h : Has K mg "are_unlike" sAreUnlike ["names"]) (m_len : mg "len" = none) (m_set : mg "set" = none) : Cal P w K mg base "are_unlike" 1 ["names"] (spUnlikeT K) := by
  refine h.mk' scAreUnlike (fun vs H Q E hs => ?_) (fun f cdv A outer s H vs Q E hr hs => ?_)
  · obtain ⟨p, ns, rfl, _⟩ := hs
    rfl
  obtain ⟨p, ns, rfl, hp, hl, k⟩ := hs
  refine ⟨_, (pss_one (ps_ret (pe_cmpR op_eq (pe_callB call_len_setS rfl m_len PySem.boot_len (pa_cons (pe_callTy (call_setG rfl) rfl m_set boot_set (pa_cons (pv 0) pa_nil)) pa_nil)) (pe_callB call_len_seq rfl m_len PySem.boot_len (pa_cons (pv 0) pa_nil)) (nomark _)))), ?_⟩
  refine ⟨_, rfl, p, ns, rfl, .inr hp, hl, fun a ha => ?_⟩
  refine ⟨a, _, rfl, upd_same, ?_⟩
  refine ⟨_, rfl, p, _, rfl, .inr (stT (same_new ha _) hp), rfl, ?_⟩
  have q := k _ (same_new ha (.ext (setΦ P w a (manyS ns))))
  rw [List.length_map]
  have e : decide (V.int ((manyS ns : Nat) : Int) = V.int ((ns.length : Nat) : Int)) = decide ns.Nodup := by
    refine decide_eq_decide.mpr ⟨fun z => nodup_manyS (by injection z with z; omega), fun z => by rw [manyS_nodup z]⟩
  rw [e]
  exact q
end
def tab_FORMS : List (Str × List Str) := [("put", ["side", "behind", "name", "text"]), ("take", ["name"]), ("part", ["name", "number", "name"]), ("join", ["name", "name"]), ("move", ["name", "behind"]), ("change", ["name", "text"]), ("word", ["name", "number", "word"]), ("link", ["names", "names"]), ("loose", ["name"]), ("step", ["name"]), ("alone", ["name"]), ("lack", ["name"])]
def strTh : Th → Option Str
  | .str x => some x
  | _ => none
def nmsTh : Th → List Str
  | .tup ts => ts.filterMap strTh
  | _ => []
def isDeedTh : Th → Bool
  | .tup (.str w :: t :: ts) =>
    match tab_FORMS.lookup w with
    | none => false
    | some form => isMomTh t && decide (ts.length = form.length) && (ts.zip form).all (fun p => kindTh p.2 p.1) && (!decide (w = "link") || decide (ts.flatMap nmsTh).Nodup)
  | _ => false
theorem forms_short : ∀ p ∈ tab_FORMS, p.2.length ≤ 4 := by decide +kernel
theorem lookup_mem {α β : Type} [BEq α] [LawfulBEq α] : ∀ {l : List (α × β)} {k : α} {v : β}, l.lookup k = some v → (k, v) ∈ l
  | (a, b) :: l, k, v, h => by
    rw [List.lookup_cons] at h
    cases e : k == a with
    | true =>
      rw [e] at h
      cases h
      rw [eq_of_beq e]
      exact .head _
    | false =>
      rw [e] at h
      exact .tail _ (lookup_mem h)
/-- names are texts -/
theorem nms_th {K : PySem.W.Frag} {B : List Addr} {H : Hp} : ∀ {ts : List Th} {vs : List V}, ThL K B H vs ts → ts.all isNmTh = true → vs = (ts.filterMap strTh).map V.str
  | [], [], _, _ => rfl
  | t :: ts, v :: vs, h, e => by
    rw [List.all_cons, Bool.and_eq_true] at e
    obtain ⟨e1, e2⟩ := e
    cases t with
    | str x =>
      obtain ⟨rfl, _⟩ : v = .str x ∧ x.length ≤ 1000 := h.1
      rw [List.filterMap_cons_some (show strTh (.str x) = some x from rfl), List.map_cons, ← nms_th h.2 e2]
    | _ => cases e1
  | [], _ :: _, h, _ => h.elim
  | _ :: _, [], h, _ => h.elim
theorem cut2 {us : List V} (h : 2 ≤ us.length) : cutV us (some 2) none = us.drop 2 := by
  unfold cutV
  have e1 : HT.sIx us.length 0 (some 2) = min 2 us.length := HT.sIx_nat us.length 0 2
  rw [e1, HT.sIx_none, show min 2 us.length = 2 by omega]
  refine List.take_of_length_le ?_
  rw [List.length_drop]
  omega
theorem short_deed {ts : List Th} (h : ts.length < 2) : isDeedTh (.tup ts) = false := by
  match ts, h with
  | [], _ => rfl
  | [a], _ => cases a <;> rfl
theorem long2 {α : Type} : ∀ {xs : List α}, 2 ≤ xs.length → ∃ x y r, xs = x :: y :: r
  | x :: y :: r, _ => ⟨x, y, r, rfl⟩
theorem two_of {α : Type} : ∀ {xs : List α}, xs.length = 2 → ∃ x y, xs = [x, y]
  | [x, y], _ => ⟨x, y, rfl⟩
/-- a deed of that form -/
def isDf (wd : Str) (b : Th) (ts : List Th) (form : List Str) : Bool := isMomTh b && decide (ts.length = form.length) && (ts.zip form).all (fun p => kindTh p.2 p.1) && (!decide (wd = "link") || decide (ts.flatMap nmsTh).Nodup)
theorem deed_eq (wd : Str) (b : Th) (ts : List Th) : isDeedTh (.tup (.str wd :: b :: ts)) = (match tab_FORMS.lookup wd with | none => false | some form => isDf wd b ts form) := rfl
theorem deed_some {wd : Str} {b : Th} {ts : List Th} {form : List Str} (h : tab_FORMS.lookup wd = some form) : isDeedTh (.tup (.str wd :: b :: ts)) = isDf wd b ts form := by
  rw [deed_eq, h]
theorem deed_none {wd : Str} {b : Th} {ts : List Th} (h : tab_FORMS.lookup wd = none) : isDeedTh (.tup (.str wd :: b :: ts)) = false := by
  rw [deed_eq, h]
theorem lk_tup {t : Th} (h : isLkTh t = true) : ∃ ts, t = .tup ts ∧ ts.length ≤ 8 ∧ ts.all isNmTh = true := by
  cases t with
  | tup ts =>
    have e : isLkTh (.tup ts) = (decide (1 ≤ ts.length) && decide (ts.length ≤ 8) && ts.all isNmTh) := rfl
    rw [e, Bool.and_eq_true, Bool.and_eq_true] at h
    exact ⟨ts, rfl, of_decide_eq_true h.1.2, h.2⟩
  | _ => cases h
theorem kind_names (t : Th) : kindTh "names" t = isLkTh t := by
  unfold kindTh
  rw [if_neg (by decide +kernel), if_neg (by decide +kernel), if_neg (by decide +kernel), if_pos rfl]
section
variable {P : Program} {w : World} {K : PySem.W.Frag} {mg : Str → Option Value} {base : Heap}
theorem scIsDeed : FnScope ["thing", "form"] ["thing"] (defScope sIsDeed) := ⟨rfl, rfl, rfl, by decide +kernel, rfl, by decide +kernel, by decide +kernel⟩
theorem c_is_deed (h : Has K mg "is_deed" sIsDeed ["thing"]) (C_is_moment : Cal P w K mg base "is_moment" 2 ["thing"] (spTh K isMomTh)) (C_is_of_kind : Cal P w K mg base "is_of_kind" 3 ["thing", "kind"] (spKindT K)) (C_are_unlike : Cal P w K mg base "are_unlike" 1 ["names"] (spUnlikeT K)) (m_len : mg "len" = none) (m_isinstance : mg "isinstance" = none) (m_tuple : mg "tuple" = none) (m_str : mg "str" = none) (m_all : mg "all" = none) (m_zip : mg "zip" = none) {t_FORMS : Addr} (q_FORMS : mg "FORMS" = some (.ref t_FORMS)) (kt_FORMS : KTbl K t_FORMS tab_FORMS) : Cal P w K mg base "is_deed" 4 ["thing"] (spTh K isDeedTh) := by
  refine h.mk' scIsDeed (fun vs H Q E hs => ?_) (fun f cdv A outer s H vs Q E hr hs => ?_)
  · obtain ⟨v, B, t, rfl, _⟩ := hs
    rfl
  obtain ⟨v, B, t, rfl, ht, k⟩ := hs
  refine ⟨_, (pss_cons (ps_if (PW.pt (pw_or (pt_not (pt_val (pe_callB call_isinstTh rfl m_isinstance boot_isinstance (pa_cons (pv 0) (pa_cons (pe_bltn (v := .ty "tuple") rfl m_tuple boot_tuple rfl) pa_nil))))) (pw_or1 (pt_cmpR op_lt (pe_callB call_len_seq rfl m_len PySem.boot_len (pa_cons (pv 0) pa_nil)) pe_int (nomark _)))))
      (pss_one (ps_ret pe_bl))
      pss_nil)
    (pss_cons (ps_if (PW.pt (pw_or (pt_not (pt_val (pe_callB call_isinstTh rfl m_isinstance boot_isinstance (pa_cons (pe_ix ix_tup (pv 0) pe_int (fun _ _ => rfl)) (pa_cons (pe_bltn (v := .ty "str") rfl m_str boot_str rfl) pa_nil))))) (pw_or (pt_cmpR op_notInTab (pe_ix ix_tup (pv 0) pe_int (fun _ _ => rfl)) (pe_glob (v := .ref t_FORMS) rfl q_FORMS rfl) (by with_unfolding_all rfl)) (pw_or1 (pt_not (pt_val (pe_cal C_is_moment hr (by decide) rfl (pa_cons (pe_ix ix_tup (pv 0) pe_int (fun _ _ => rfl)) pa_nil))))))))
      (pss_one (ps_ret pe_bl))
      pss_nil)
    (pss_cons (ps_set (i := 1) scIsDeed.nd rfl (Or.inl rfl) (pe_tget (pe_glob (v := .ref t_FORMS) rfl q_FORMS rfl) (pe_ix ix_tup (pv 0) pe_int (fun _ _ => rfl)) (fun _ _ => rfl)))
    (pss_cons (ps_if (pt_cmpR op_ne (pe_callB call_len_seq rfl m_len PySem.boot_len (pa_cons (pv 0) pa_nil)) (pe_op op_add (pe_callB call_len_seq rfl m_len PySem.boot_len (pa_cons (pv 1) pa_nil)) pe_int) (nomark _))
      (pss_one (ps_ret pe_bl))
      pss_nil)
    (pss_cons (ps_if (pt_not (pt_val (pe_callB (call_allB rfl) rfl m_all boot_all (pa_cons (pe_compL ["thing", "form"] (defScope sIsDeed) ["each", "kind"] [none, none] rfl rfl rfl (pi_zip2 rfl m_zip (pa_cons (pe_slice sl_tup3 (pv 0) (po_some pe_int) po_none) (pa_cons (pv 1) pa_nil))) rfl (by decide +kernel) (by decide +kernel) (by decide +kernel) (by decide +kernel) (g := gTup K 2 (gCons (gName 0) (gCons (gName 1) gNil))) (hg := fun cl C s H ex pn E => pg_tup (n := 2) rfl (pgs_cons (pg_name (i := 0) (by decide +kernel : (["each", "kind"] : List Str).Nodup) rfl (Or.inl rfl) (Or.inr rfl)) (pgs_cons (pg_name (i := 1) (by decide +kernel : (["each", "kind"] : List Str).Nodup) rfl (Or.inl rfl) (Or.inr rfl)) pgs_nil))) (ht := fun cl C s H ex pn E => pifs_nil) (he := fun cl C s H ex pn E => (pe_cal C_is_of_kind hr (by decide) rfl (pa_cons (pv 0) (pa_cons (pv 1) pa_nil))))) pa_nil))))
      (pss_one (ps_ret pe_bl))
      pss_nil)
    (pss_one (ps_ret (pe_or (pe_cmpR op_ne (pe_ix ix_tup (pv 0) pe_int (fun _ _ => rfl)) pe_str (nomark _)) (pe_one (pe_cal C_are_unlike hr (by decide) rfl (pa_cons (pe_op op_catT3 (pe_ix ix_tup (pv 0) pe_int (fun _ _ => rfl)) (pe_ix ix_tup (pv 0) pe_int (fun _ _ => rfl))) pa_nil))))))))))), ?_⟩
  refine ⟨_, rfl, v, _, B, t, rfl, ht, .inr (.inr (.inr rfl)), _, rfl, ?_⟩
  rw [isTh_tup]
  have q := k H (Same.refl H)
  cases t with
  | tup ts =>
    refine iteF ?_
    obtain ⟨p, vs, rfl, hp, hd⟩ := ht
    refine ⟨_, rfl, p, _, rfl, .inr hp, _, _, rfl, rfl, _, rfl, ?_⟩
    have hl0 := hd.len
    refine ite2 (fun z => ?_) (fun z => ?_)
    · have z' : ts.length < 2 := by
        have := of_decide_eq_true z
        omega
      rw [short_deed z'] at q
      exact q
    · have z' : 2 ≤ vs.length := by
        have : ¬ ((vs.length : Int) < 2) := fun y => z (decide_eq_true y)
        omega
      obtain ⟨x, y, us, hvs⟩ : ∃ x y us, vs = x :: y :: us := long2 z'
      obtain ⟨a, b, us', hts⟩ : ∃ a b ts', ts = a :: b :: ts' := long2 (by omega)
      have hd' : ThL K B H (x :: y :: us) (a :: b :: us') := by
        rw [← hvs, ← hts]
        exact hd
      have at0 : atI vs 0 = some x := by rw [hvs]; exact atI_zero _ _
      have at1 : atI vs 1 = some y := by rw [hvs]; exact atI_nat (xs := x :: y :: us) (j := 1) rfl
      have hul := hd'.2.2.len
      have hvl : vs.length = us.length + 2 := by rw [hvs]; rfl
      rw [hts] at q k
      refine ⟨_, rfl, p, _, _, _, rfl, rfl, hp, at0, x, _, B, a, rfl, hd'.1, .inr (.inr (.inl rfl)), _, rfl, ?_⟩
      rw [isTh_str]
      cases a with
      | str wd =>
        refine iteF ?_
        obtain ⟨hx, hwl⟩ : x = .str wd ∧ wd.length ≤ 1000 := hd'.1
        have at0' : atI vs 0 = some (.str wd) := at0.trans (by rw [hx])
        refine ⟨_, rfl, p, _, _, _, rfl, rfl, hp, at0', t_FORMS, tab_FORMS, wd, rfl, rfl, kt_FORMS, _, rfl, ?_⟩
        refine ite2 (fun z => ?_) (fun z => ?_)
        · have hn : tab_FORMS.lookup wd = none := by
            cases h : tab_FORMS.lookup wd with
            | none => rfl
            | some f => rw [h] at z; cases z
          rw [deed_none hn] at q
          exact iteT q
        obtain ⟨form, hf⟩ : ∃ form, tab_FORMS.lookup wd = some form := by
          cases h : tab_FORMS.lookup wd with
          | none => rw [h] at z; exact absurd rfl z
          | some f => exact ⟨f, rfl⟩
        rw [deed_some hf] at q k
        have hfl := forms_short _ (lookup_mem hf)
        have hfl4 : form.length ≤ 4 := hfl
        refine ⟨_, rfl, p, _, _, _, rfl, rfl, hp, at1, y, B, b, rfl, hd'.2.1, fun H1 s1 => ⟨_, rfl, ?_⟩⟩
        refine ite2 (fun z => ?_) (fun z => ?_)
        · have hm : isMomTh b = false := by simpa using z
          have q1 := k H1 s1
          rw [isDf, hm, Bool.false_and, Bool.false_and, Bool.false_and] at q1
          exact q1
        have hm : isMomTh b = true := by simpa using z
        have hp1 := stT s1 hp
        refine ⟨_, rfl, p, _, _, _, rfl, rfl, hp1, at0', t_FORMS, tab_FORMS, wd, form, rfl, rfl, kt_FORMS, hf, Nat.le_trans hfl (by decide), fun fb hfb => gN ?_⟩
        refine ⟨_, rfl, p, _, rfl, .inr hp1, _, rfl, fb, _, rfl, .inr (hfb _), _, _, rfl, rfl, rfl, _, rfl, ?_⟩
        have el : (!decide (V.int ((vs.length : Nat) : Int) = V.int ((((form.map V.str).length : Nat) : Int) + 2))) = !decide (us'.length = form.length) := by
          congr 1
          refine decide_eq_decide.mpr ⟨fun z => ?_, fun z => ?_⟩
          · injection z with z
            rw [List.length_map] at z
            omega
          · rw [List.length_map, hvl, hul, z]
            rfl
        rw [el]
        refine ite2 (fun z => ?_) (fun z => ?_)
        · have hz : decide (us'.length = form.length) = false := by simpa using z
          have q1 := k H1 s1
          rw [isDf, hz, Bool.and_false, Bool.false_and, Bool.false_and] at q1
          exact q1
        have hz : decide (us'.length = form.length) = true := by simpa using z
        have hzl := of_decide_eq_true hz
        refine ⟨_, rfl, _, rfl, p, _, rfl, hp1, fun p2 H2 s2 e2 => ?_⟩
        have e2' : SqT K H2 p2 us := by
          rw [cut2 (by omega), hvs] at e2
          exact e2
        refine ⟨_, rfl, p2, fb, rfl, ⟨_, e2'⟩, ⟨_, hfb _⟩, fun l hl => ?_⟩
        have s12 := s1.trans s2
        refine comp_by (J := Itz2 K p2 fb) (l := l) us.length (fun i σ' H' => ∃ v0 v1 : Option V, σ' = [v0, v1] ∧ Same H2 H' ∧ H' l = some (.lst ((((us'.zip form).take i).map fun p => kindTh p.2 p.1).map V.bl))) ⟨none, none, rfl, same_new hl _, upd_same⟩ ?_ ?_
        · rintro σ' H' ⟨v0, v1, rfl, s', e'⟩
          refine ⟨.inl ⟨_, stT s' e2', Nat.le_refl _⟩, l, _, rfl, SqL.of e', ?_⟩
          have e3 : (((us'.zip form).take us.length).map fun p => kindTh p.2 p.1).all id = (us'.zip form).all fun p => kindTh p.2 p.1 := by
            rw [List.take_of_length_le (by rw [List.length_zip]; omega), List.all_map]
            rfl
          rw [e3]
          have s13 := s12.trans s'
          refine ⟨_, rfl, ?_⟩
          refine ite2 (fun z => ?_) (fun z => ?_)
          · have ha : ((us'.zip form).all fun p => kindTh p.2 p.1) = false := by simpa using z
            have q3 := k H' s13
            rw [isDf, ha, Bool.and_false, Bool.false_and] at q3
            exact q3
          have ha : ((us'.zip form).all fun p => kindTh p.2 p.1) = true := by simpa using z
          have hp3 := stT s13 hp
          refine ⟨_, rfl, p, _, _, _, rfl, rfl, hp3, at0', rfl, _, rfl, ?_⟩
          rw [ez_str]
          refine ite2 (fun z => ?_) (fun z => ?_)
          · have hw : decide (wd = "link") = false := by simpa using z
            have q3 := k H' s13
            rw [isDf, hm, hz, ha, hw] at q3
            exact q3
          have hw : decide (wd = "link") = true := by simpa using z
          have ef : form = (["names", "names"] : List Str) := by
            have := hf
            rw [of_decide_eq_true hw] at this
            exact Option.some.inj (this.symm.trans (by decide +kernel))
          obtain ⟨t2, t3, ht23⟩ : ∃ t2 t3, us' = [t2, t3] := by
            rw [ef] at hzl
            exact two_of hzl
          obtain ⟨u2, u3, hu23⟩ : ∃ u2 u3, us = [u2, u3] := by
            exact two_of (by rw [hul, ht23]; rfl)
          have ha' : kindTh "names" t2 = true ∧ kindTh "names" t3 = true := by
            rw [ht23, ef] at ha
            simpa using ha
          obtain ⟨ts2, et2, l2, n2⟩ := lk_tup (by rw [← kind_names]; exact ha'.1)
          obtain ⟨ts3, et3, l3, n3⟩ := lk_tup (by rw [← kind_names]; exact ha'.2)
          have hd2 : ThL K B H [u2, u3] [.tup ts2, .tup ts3] := by
            have := hd'.2.2
            rw [hu23, ht23, et2, et3] at this
            exact this
          obtain ⟨p4, vs4, ev4, hp4, d4⟩ := hd2.1
          obtain ⟨p5, vs5, ev5, hp5, d5⟩ := hd2.2.1
          have f4 := nms_th d4 n2
          have f5 := nms_th d5 n3
          have m4 := d4.len
          have m5 := d5.len
          have g2 : atI vs 2 = some (.ref p4) := by rw [hvs, hu23, ev4]; exact atI_nat (xs := [x, y, V.ref p4, u3]) (j := 2) rfl
          have g3 : atI vs 3 = some (.ref p5) := by rw [hvs, hu23, ev5]; exact atI_nat (xs := [x, y, u2, V.ref p5]) (j := 3) rfl
          refine ⟨_, rfl, p, _, _, _, rfl, rfl, hp3, g2, _, rfl, p, _, _, _, rfl, rfl, hp3, g3, p4, p5, _, _, rfl, rfl, stT s13 hp4, stT s13 hp5, small (by omega), fun q6 H6 s6 e6 => ?_⟩
          have e6' : SqT K H6 q6 ((ts2.filterMap strTh ++ ts3.filterMap strTh).map V.str) := by
            rw [f4, f5, ← List.map_append] at e6
            exact e6
          refine ⟨q6, ts2.filterMap strTh ++ ts3.filterMap strTh, rfl, e6', ?_, fun H7 s7 => ?_⟩
          · have y4 := congrArg List.length f4
            have y5 := congrArg List.length f5
            rw [List.length_map] at y4 y5
            rw [List.length_append]
            omega
          · have q7 := k H7 (s13.trans (s6.trans s7))
            have e7 : us'.flatMap nmsTh = ts2.filterMap strTh ++ ts3.filterMap strTh := by
              rw [ht23, et2, et3]
              show nmsTh (.tup ts2) ++ (nmsTh (.tup ts3) ++ []) = _
              rw [List.append_nil]
              rfl
            rw [isDf, hm, hz, ha, hw, e7] at q7
            exact q7
        · rintro i σ' H' hi ⟨v0, v1, rfl, s', e'⟩
          have hit : i < us'.length := by omega
          have hif : i < form.length := by omega
          have hx1 : us[i]? = some us[i] := List.getElem?_eq_getElem hi
          have hx2 : (form.map V.str)[i]? = some (.str form[i]) := by rw [List.getElem?_map, List.getElem?_eq_getElem hif]; rfl
          refine ⟨⟨_, _, _, _, stT s' e2', hfb _, hx1, hx2⟩, ?_⟩
          rintro y' H'' ⟨t', x', z', rfl, ht', rfl, h1, h2⟩
          have f1 : x' = us[i] := Option.some.inj ((h1 _ (stT s' e2')).symm.trans hx1)
          have f2 : z' = .str form[i] := Option.some.inj ((h2 _ (hfb _)).symm.trans hx2)
          obtain ⟨ti, hti, hvi⟩ := hd'.2.2.at_ hx1
          rw [List.getElem?_eq_getElem hit] at hti
          have eti := Option.some.inj hti
          have hs2 : Same H (upd H' t' (.tup [x', z'])) := (s12.trans s').trans (same_new ht' _)
          refine ⟨t', _, rfl, SqT.of upd_same, rfl, _, _, rfl, gN ⟨_, _, rfl, gN ⟨rfl, yesT (iteT ?_)⟩⟩⟩
          refine ⟨_, rfl, _, rfl, x', B, ti, form[i], congrArg (fun v => [x', v]) f2, by have := hvi.same hs2; rw [← f1] at this; exact this, fun H3 s3 => ?_⟩
          have ntl : l ≠ t' := ne_of_none e' ht'
          refine ⟨_, s3 _ _ ((upd_ne ntl).trans e'), ?_, _, _, rfl, ?_, ?_⟩
          · rw [List.length_map, List.length_map, List.length_take, List.length_zip]
            exact small1000 (by omega)
          · intro c o z
            rw [upd_ne (ne_of_none z hl)]
            exact s3 _ _ ((same_new ht' _) _ _ (s' _ _ z))
          · rw [upd_same, List.take_add_one, List.map_append, List.map_append]
            have ez : (us'.zip form)[i]? = some (ti, form[i]) := by
              rw [List.getElem?_eq_getElem (by rw [List.length_zip]; omega), List.getElem_zip, eti]
            rw [ez]
            rfl
      | _ => exact iteT (iteT q)
  | _ => exact iteT (iteT q)
end
def goodS (c : Nat) : Prop := (32 ≤ c ∧ c ≤ 126) ∨ c = 10
abbrev Nms := List (List Nat)
def potK (lo : Addr) (l s m : Int) : List (Key × V) := [(Sum.inr "own", .ref lo), (Sum.inr "left", .int l), (Sum.inr "seed", .int s), (Sum.inr "many", .int m)]
theorem kn1 : ¬ ((Sum.inr (Str.ofString "own") : Key) = Sum.inr (Str.ofString "left")) := by decide +kernel
theorem kn2 : ¬ ((Sum.inr (Str.ofString "own") : Key) = Sum.inr (Str.ofString "seed")) := by decide +kernel
theorem kn3 : ¬ ((Sum.inr (Str.ofString "own") : Key) = Sum.inr (Str.ofString "many")) := by decide +kernel
theorem kn4 : ¬ ((Sum.inr (Str.ofString "left") : Key) = Sum.inr (Str.ofString "seed")) := by decide +kernel
theorem kn5 : ¬ ((Sum.inr (Str.ofString "left") : Key) = Sum.inr (Str.ofString "many")) := by decide +kernel
theorem kn6 : ¬ ((Sum.inr (Str.ofString "seed") : Key) = Sum.inr (Str.ofString "many")) := by decide +kernel
theorem sn1 : ¬ (Str.ofString "own" = Str.ofString "left") := by decide +kernel
theorem sm1 : ¬ (Str.ofString "left" = Str.ofString "own") := by decide +kernel
theorem sn2 : ¬ (Str.ofString "own" = Str.ofString "seed") := by decide +kernel
theorem sm2 : ¬ (Str.ofString "seed" = Str.ofString "own") := by decide +kernel
theorem sn3 : ¬ (Str.ofString "own" = Str.ofString "many") := by decide +kernel
theorem sm3 : ¬ (Str.ofString "many" = Str.ofString "own") := by decide +kernel
theorem sn4 : ¬ (Str.ofString "left" = Str.ofString "seed") := by decide +kernel
theorem sm4 : ¬ (Str.ofString "seed" = Str.ofString "left") := by decide +kernel
theorem sn5 : ¬ (Str.ofString "left" = Str.ofString "many") := by decide +kernel
theorem sm5 : ¬ (Str.ofString "many" = Str.ofString "left") := by decide +kernel
theorem sn6 : ¬ (Str.ofString "seed" = Str.ofString "many") := by decide +kernel
theorem sm6 : ¬ (Str.ofString "many" = Str.ofString "seed") := by decide +kernel
theorem v_own (lo : Addr) (l s m : Int) : valV (potK lo l s m) (Sum.inr "own" : Key) = some (.ref lo) := valV_pos rfl
theorem v_left (lo : Addr) (l s m : Int) : valV (potK lo l s m) (Sum.inr "left" : Key) = some (.int l) := (valV_neg kn1).trans (valV_pos rfl)
theorem v_seed (lo : Addr) (l s m : Int) : valV (potK lo l s m) (Sum.inr "seed" : Key) = some (.int s) := (valV_neg kn2).trans ((valV_neg kn4).trans (valV_pos rfl))
theorem v_many (lo : Addr) (l s m : Int) : valV (potK lo l s m) (Sum.inr "many" : Key) = some (.int m) := (valV_neg kn3).trans ((valV_neg kn5).trans ((valV_neg kn6).trans (valV_pos rfl)))
theorem p_left (lo : Addr) (l s m i : Int) : putK (potK lo l s m) (Sum.inr "left" : Key) (.int i) = potK lo i s m := by
  unfold putK potK
  simp [sn1, sm1, sn2, sm2, sn3, sm3, sn4, sm4, sn5, sm5, sn6, sm6]
theorem p_seed (lo : Addr) (l s m i : Int) : putK (potK lo l s m) (Sum.inr "seed" : Key) (.int i) = potK lo l i m := by
  unfold putK potK
  simp [sn1, sm1, sn2, sm2, sn3, sm3, sn4, sm4, sn5, sm5, sn6, sm6]
theorem p_many (lo : Addr) (l s m i : Int) : putK (potK lo l s m) (Sum.inr "many" : Key) (.int i) = potK lo l s i := by
  unfold putK potK
  simp [sn1, sm1, sn2, sm2, sn3, sm3, sn4, sm4, sn5, sm5, sn6, sm6]
theorem merge_pot (lo : Addr) (l s m : Int) : mergeK [] (potK lo l s m) = potK lo l s m := by
  unfold potK
  simp [mergeK, putK, sn1, sm1, sn2, sm2, sn3, sm3, sn4, sm4, sn5, sm5, sn6, sm6]
def PotAt (d lo : Addr) (H : Hp) : Prop := ∃ (cs : List Int) (l s m : Int), H d = some (.dK (potK lo l s m)) ∧ H lo = some (.lst (cs.map V.int)) ∧ 0 ≤ l ∧ ∀ c ∈ cs, 0 ≤ c
def Old (d lo : Addr) (H H' : Hp) : Prop := ∀ c o, H c = some o → c ≠ d → c ≠ lo → H' c = some o
def spPot (K : PySem.W.Frag) : Sp := fun vs H Q _ => ∃ (a : Addr) (ns : List Int), vs = [.ref a] ∧ SqL K H a (ns.map V.int) ∧ ns.length ≤ 63 ∧ ∀ (d lo : Addr) (H' : Hp), Same H H' → PotAt d lo H' → Q (.ref d) H'
def spNext : Sp := fun vs H Q _ => ∃ (d lo : Addr) (m : Int), vs = [.ref d, .int m] ∧ PotAt d lo H ∧ 0 < m ∧ m < 2 ^ 63 ∧ ∀ (r : Int) (H' : Hp), 0 ≤ r → r < m → PotAt d lo H' → Old d lo H H' → Q (.int r) H'
theorem g_own {H : Hp} {d lo : Addr} {l s m : Int} (h : H d = some (.dK (potK lo l s m))) : DGet H d (.str "own") (some (.ref lo)) := by
  have := DGet.k (k := (Sum.inr "own" : Key)) h
  rwa [v_own] at this
theorem g_left {H : Hp} {d lo : Addr} {l s m : Int} (h : H d = some (.dK (potK lo l s m))) : DGet H d (.str "left") (some (.int l)) := by
  have := DGet.k (k := (Sum.inr "left" : Key)) h
  rwa [v_left] at this
theorem g_seed {H : Hp} {d lo : Addr} {l s m : Int} (h : H d = some (.dK (potK lo l s m))) : DGet H d (.str "seed") (some (.int s)) := by
  have := DGet.k (k := (Sum.inr "seed" : Key)) h
  rwa [v_seed] at this
theorem g_many {H : Hp} {d lo : Addr} {l s m : Int} (h : H d = some (.dK (potK lo l s m))) : DGet H d (.str "many") (some (.int m)) := by
  have := DGet.k (k := (Sum.inr "many" : Key)) h
  rwa [v_many] at this
theorem u_left {H : Hp} {d lo : Addr} {l s m : Int} (i : Int) (h : H d = some (.dK (potK lo l s m))) : DPut H d (.str "left") (.int i) (upd H d (.dK (potK lo i s m))) := by
  have := DPut.k (k := (Sum.inr "left" : Key)) (v := .int i) h (small1000 (by show 4 ≤ 1000; decide))
  rwa [p_left] at this
theorem u_seed {H : Hp} {d lo : Addr} {l s m : Int} (i : Int) (h : H d = some (.dK (potK lo l s m))) : DPut H d (.str "seed") (.int i) (upd H d (.dK (potK lo l i m))) := by
  have := DPut.k (k := (Sum.inr "seed" : Key)) (v := .int i) h (small1000 (by show 4 ≤ 1000; decide))
  rwa [p_seed] at this
theorem u_many {H : Hp} {d lo : Addr} {l s m : Int} (i : Int) (h : H d = some (.dK (potK lo l s m))) : DPut H d (.str "many") (.int i) (upd H d (.dK (potK lo l s i))) := by
  have := DPut.k (k := (Sum.inr "many" : Key)) (v := .int i) h (small1000 (by show 4 ≤ 1000; decide))
  rwa [p_many] at this
theorem Old.upd_d {d lo : Addr} {H H' : Hp} {o : HO} (h : Old d lo H H') : Old d lo H (upd H' d o) := fun c o' e h1 h2 => by
  rw [upd_ne h1]
  exact h c o' e h1 h2
theorem Old.upd_lo {d lo : Addr} {H H' : Hp} {o : HO} (h : Old d lo H H') : Old d lo H (upd H' lo o) := fun c o' e h1 h2 => by
  rw [upd_ne h2]
  exact h c o' e h1 h2
theorem Old.new {d lo b : Addr} {H H' : Hp} {o : HO} (h : Old d lo H H') (hb : H' b = none) : Old d lo H (upd H' b o) := fun c o' e h1 h2 => same_new hb o _ _ (h c o' e h1 h2)
section
variable {P : Program} {w : World} {K : PySem.W.Frag} {mg : Str → Option Value} {base : Heap}
theorem scPot : FnScope ["_law_script", "_law_seed", "_law_own", "_law_cell"] ["_law_script"] (defScope sPot) := ⟨rfl, rfl, rfl, by decide +kernel, rfl, by decide +kernel, by decide +kernel⟩
theorem c_pot (h : Has K mg "_law_pot" sPot ["_law_script"])  : Cal P w K mg base "_law_pot" 1 ["_law_script"] (spPot K) := by
  refine h.mk' scPot (fun vs H Q E hs => ?_) (fun f cdv A outer s H vs Q E hr hs => ?_)
  · obtain ⟨a, ns, rfl, _⟩ := hs
    rfl
  obtain ⟨a, ns, rfl, hS, h63, k⟩ := hs
  refine ⟨_, (pss_cons (ps_set (i := 1) scPot.nd rfl (Or.inl rfl) pe_int)
    (pss_cons (ps_set (i := 2) scPot.nd rfl (Or.inl rfl) (pe_lst pa_nil))
    (pss_cons (ps_for PassesOwn.never rfl (pi_list (pv 0)) (pg_name (i := 3) scPot.nd rfl (Or.inl rfl))
      (pss_cons (ps_set (i := 1) scPot.nd rfl (Or.inl rfl) (pe_op op_mod (pe_op op_add (pe_op op_add (pe_op op_mul (pv 1) pe_int) (pe_op op_mod (pv 3) pe_int)) pe_int) pe_int))
    (pss_one (ps_if (pt_cmpR op_ge (pv 3) (pe_op op_pow pe_int pe_int) (nomark _))
      (pss_one (ps_expr (pe_bm PySem.F.plainAttrs_list PySem.F.slot_list_append PySem.F.type_list_append mt_append (pv 2) (pa_cons (pv 3) pa_nil))))
      pss_nil))))
    (pss_one (ps_ret (pe_disp (pps_cons pe_str (pv 2) (pps_cons pe_str pe_int (pps_cons pe_str (pv 1) (pps_cons pe_str pe_int pps_nil)))) rfl rfl (by simp) (by decide +kernel))))))), ?_⟩
  refine ⟨smn 0, fun lo hlo => ?_⟩
  have hloN : H lo = none := hlo
  refine ⟨_, rfl, a, rfl, ⟨_, (same_new hlo (.lst [])).seq hS⟩, ?_⟩
  refine for_list (K := K) (a := a) (xs := ns.map V.int) (fun i σ H2 => ∃ (s : Int) (cs : List Int) (v3 : Option V), σ = [some (.ref a), some (.int s), some (.ref lo), v3] ∧ H2 = upd H lo (.lst (cs.map V.int)) ∧ (∀ c ∈ cs, 0 ≤ c) ∧ cs.length ≤ i) ⟨11, [], none, rfl, rfl, (fun c h => by cases h), Nat.le_refl _⟩ ?_ ?_ ?_
  · rintro i σ H2 _ ⟨s, cs, v3, rfl, rfl, _, _⟩
    exact (same_new hlo _).seq hS
  · rintro i y σ H2 hi ⟨s, cs, v3, rfl, rfl, hc, hl⟩
    obtain ⟨c, rfl⟩ := map_int_at hi
    have hi63 : i < 63 := by
      have := (List.getElem?_eq_some_iff.mp hi).1
      rw [List.length_map] at this
      omega
    refine ⟨_, rfl, _, _, rfl, rfl, .inr ⟨by decide, by decide⟩, _, rfl, _, _, rfl, rfl, (by show (0 : Int) < 2147483629; decide), _, _, rfl, rfl, _, _, rfl, rfl, _, _, rfl, rfl, (by show (0 : Int) < 2305843009213693951; decide), ?_⟩
    refine ⟨_, rfl, _, _, rfl, rfl, ⟨by decide, by decide, by decide⟩, _, _, rfl, rfl, _, rfl, ?_⟩
    refine ite2 (fun z => ?_) (fun z => ?_)
    · have hc0 : 0 ≤ c := by
        have := of_decide_eq_true z
        have e : (10 : Int) ^ (18 : Int).toNat = 1000000000000000000 := by decide
        rw [e] at this
        omega
      refine ⟨_, rfl, .inl ⟨rfl, _, SqL.of upd_same⟩, _, rfl, lo, _, _, rfl, rfl, upd_same, by rw [List.length_map]; exact small1000 (by omega), _, cs ++ [c], _, rfl, ?_, ?_, ?_⟩
      · rw [upd_upd, List.map_append]
        rfl
      · intro c' h'
        rcases List.mem_append.mp h' with z | z
        · exact hc c' z
        · rw [List.mem_singleton.mp z]
          exact hc0
      · rw [List.length_append, List.length_singleton]
        omega
    · exact ⟨_, cs, _, rfl, rfl, hc, by omega⟩
  · rintro σ H2 ⟨s, cs, v3, rfl, rfl, hc, hl⟩
    refine fun d hd => ⟨_, rfl, _, rfl, upd_same, potK lo 0 s 0, rfl, (by show 4 ≤ 15; decide), ?_⟩
    have ndl : lo ≠ d := ne_of_none upd_same hd
    rw [merge_pot, upd_upd]
    exact k d lo _ ((same_new hlo _).trans (same_new hd _)) ⟨cs, 0, s, 0, upd_same, (upd_ne ndl).trans upd_same, Int.le_refl _, hc⟩
theorem scNext : FnScope ["_law_pot_here", "_law_many", "_law_drawn", "_law_mixed"] ["_law_pot_here", "_law_many"] (defScope sNext) := ⟨rfl, rfl, rfl, by decide +kernel, rfl, by decide +kernel, by decide +kernel⟩
theorem c_next (h : Has K mg "_law_next" sNext ["_law_pot_here", "_law_many"])  : Cal P w K mg base "_law_next" 1 ["_law_pot_here", "_law_many"] spNext := by
  refine h.mk' scNext (fun vs H Q E hs => ?_) (fun f cdv A outer s H vs Q E hr hs => ?_)
  · obtain ⟨d, lo, m, rfl, _⟩ := hs
    rfl
  obtain ⟨d, lo, m, rfl, ⟨cs, l, sd, mn, ed, elo, hl, hcs⟩, m0, m1, k⟩ := hs
  refine ⟨_, (pss_cons (ps_if (PW.pt (pw_and (pt_cmpR op_eq (pe_dget (hu_of hr) (pv 0) pe_str (fun _ _ => rfl)) pe_int (nomark _)) (pw_and1 (pt_cmpR (op_neE hr.units0) (pe_dget (hu_of hr) (pv 0) pe_str (fun _ _ => rfl)) (pe_lst pa_nil) (nomark _)))))
      (pss_one (ps_dput (hu_of hr) (pv 0) pe_str (pe_bm PySem.F.plainAttrs_list PySem.F.slot_list_pop PySem.F.type_list_pop mt_popAt (pe_dget (hu_of hr) (pv 0) pe_str (fun _ _ => rfl)) (pa_cons pe_int pa_nil)) rfl))
      pss_nil)
    (pss_cons (ps_if (pt_cmpR op_gt (pe_dget (hu_of hr) (pv 0) pe_str (fun _ _ => rfl)) pe_int (nomark _))
      (pss_cons (ps_set (i := 2) scNext.nd rfl (Or.inl rfl) (pe_op op_mod (pe_dget (hu_of hr) (pv 0) pe_str (fun _ _ => rfl)) (pv 1)))
    (pss_cons (ps_dput (hu_of hr) (pv 0) pe_str (pe_op op_fdivB (pe_dget (hu_of hr) (pv 0) pe_str (fun _ _ => rfl)) (pv 1)) rfl)
    (pss_one (ps_ret (pv 2)))))
      pss_nil)
    (pss_cons (ps_dput (hu_of hr) (pv 0) pe_str (pe_op op_add (pe_dget (hu_of hr) (pv 0) pe_str (fun _ _ => rfl)) pe_int) rfl)
    (pss_cons (ps_set (i := 3) scNext.nd rfl (Or.inl rfl) (pe_op op_mod (pe_op op_mul (pe_op op_add (pe_dget (hu_of hr) (pv 0) pe_str (fun _ _ => rfl)) (pe_op op_mul (pe_dget (hu_of hr) (pv 0) pe_str (fun _ _ => rfl)) pe_int)) pe_int) pe_int))
    (pss_cons (ps_dput (hu_of hr) (pv 0) pe_str (pe_op op_mod (pe_op op_mul (pv 3) (pe_op op_add (pe_op op_mod (pv 3) pe_int) pe_int)) pe_int) rfl)
    (pss_one (ps_ret (pe_op op_mod (pe_op op_fdivB (pe_dget (hu_of hr) (pv 0) pe_str (fun _ _ => rfl)) pe_int) (pv 1))))))))), ?_⟩
  have ndl : d ≠ lo := ne_of ed elo (by intro z; cases z)
  have old0 : Old d lo H H := fun c o e _ _ => e
  refine ⟨_, rfl, d, _, rfl, g_left ed, rfl, _, rfl, ?_⟩
  refine ite2 (fun z0 => ?_) (fun z0 => ?_)
  · have hl0 : l = 0 := by
      have := of_decide_eq_true z0
      injection this
    subst hl0
    refine ⟨_, rfl, d, _, rfl, g_own ed, smn 0, fun b hb => ?_⟩
    have nbd : d ≠ b := ne_of_none ed hb
    have nbl : lo ≠ b := ne_of_none elo hb
    have s2 := same_new hb (.lst [])
    refine ⟨lo, b, _, rfl, rfl, s2 _ _ elo, upd_same, _, rfl, ?_⟩
    have ed2 := s2 _ _ ed
    have elo2 := s2 _ _ elo
    have old2 : Old d lo H (upd H b (.lst [])) := Old.new old0 hb
    generalize upd H b (.lst []) = H2 at ed2 elo2 old2
    cases cs with
    | nil =>
      refine iteF ?_
      refine ⟨_, rfl, d, _, rfl, g_left ed2, _, _, rfl, rfl, _, rfl, ?_⟩
      refine ite2 (fun z => ?_) (fun z => ?_)
      · refine ⟨_, rfl, d, _, rfl, g_left ed2, _, rfl, _, _, rfl, rfl, m0, ?_⟩
        refine ⟨_, rfl, d, _, rfl, g_left ed2, _, rfl, _, _, rfl, rfl, ⟨m0, by omega⟩, _, rfl, d, _, rfl, u_left _ ed2, ?_⟩
        refine ⟨_, rfl, k _ _ (Int.emod_nonneg _ (by omega)) (Int.emod_lt_of_pos _ m0) ⟨[], _, sd, mn, upd_same, (upd_ne ndl.symm).trans elo2, Int.ediv_nonneg (Int.le_refl 0) (by omega), hcs⟩ (Old.upd_d old2)⟩
      · refine ⟨_, rfl, d, _, rfl, g_many ed2, _, _, rfl, rfl, _, rfl, d, _, rfl, u_many _ ed2, ?_⟩
        have ed2 : (upd H2 d (.dK (potK lo 0 sd (mn + 1)))) d = some (.dK (potK lo 0 sd (mn + 1))) := upd_same
        refine ⟨_, rfl, d, _, rfl, g_seed ed2, _, rfl, d, _, rfl, g_many ed2, _, _, rfl, rfl, .inr ⟨by decide, by decide⟩, _, _, rfl, rfl, _, _, rfl, rfl, .inr ⟨by decide, by decide⟩, _, _, rfl, rfl, (by show (0 : Int) < 2305843009213693951; decide), ?_⟩
        have q0 : 0 ≤ (sd + (mn + 1) * 7919) * 48271 % 2305843009213693951 := Int.emod_nonneg _ (by decide)
        have q1 : (sd + (mn + 1) * 7919) * 48271 % 2305843009213693951 < 2305843009213693951 := Int.emod_lt_of_pos _ (by decide)
        refine ⟨_, rfl, _, rfl, _, _, rfl, rfl, (by show (0 : Int) < 1009; decide), _, _, rfl, rfl, _, _, rfl, rfl, .inl ⟨by omega, by omega⟩, _, _, rfl, rfl, (by show (0 : Int) < 2305843009213693951; decide), _, rfl, d, _, rfl, u_seed _ ed2, ?_⟩
        refine ⟨_, rfl, d, _, rfl, g_seed upd_same, _, _, rfl, rfl, ⟨by decide, by decide⟩, _, rfl, _, _, rfl, rfl, m0, ?_⟩
        exact k _ _ (Int.emod_nonneg _ (by omega)) (Int.emod_lt_of_pos _ m0) ⟨[], 0, _, _, upd_same, (upd_ne ndl.symm).trans ((upd_ne ndl.symm).trans elo2), (Int.le_refl 0), hcs⟩ (Old.upd_d (Old.upd_d old2))
    | cons c cs =>
      refine iteT ?_
      refine ⟨_, rfl, d, _, rfl, g_own ed2, .inl ⟨rfl, _, SqL.of elo2⟩, lo, _, 0, 0, .int c, rfl, rfl, elo2, by decide, by decide, by simp [seqIndex?], rfl, ?_⟩
      have eloP : (upd H2 lo (.lst (((c :: cs).map V.int).eraseIdx 0))) lo = some (.lst (cs.map V.int)) := upd_same
      have edP : (upd H2 lo (.lst (((c :: cs).map V.int).eraseIdx 0))) d = some (.dK (potK lo 0 sd mn)) := (upd_ne ndl).trans ed2
      have oldP : Old d lo H (upd H2 lo (.lst (((c :: cs).map V.int).eraseIdx 0))) := Old.upd_lo old2
      have hc0 : 0 ≤ c := hcs c List.mem_cons_self
      have hcs' : ∀ x ∈ cs, 0 ≤ x := fun x hx => hcs x (List.mem_cons_of_mem _ hx)
      refine ⟨_, rfl, d, _, rfl, u_left c edP, ?_⟩
      have ed3 : (upd (upd H2 lo (.lst (((c :: cs).map V.int).eraseIdx 0))) d (.dK (potK lo c sd mn))) d = some (.dK (potK lo c sd mn)) := upd_same
      have elo3 := (upd_ne (o := HO.dK (potK lo c sd mn)) ndl.symm).trans eloP
      have old3 := Old.upd_d (o := HO.dK (potK lo c sd mn)) oldP
      generalize upd (upd H2 lo (.lst (((c :: cs).map V.int).eraseIdx 0))) d (.dK (potK lo c sd mn)) = H3 at ed3 elo3 old3
      refine ⟨_, rfl, d, _, rfl, g_left ed3, _, _, rfl, rfl, _, rfl, ?_⟩
      refine ite2 (fun z => ?_) (fun z => ?_)
      · refine ⟨_, rfl, d, _, rfl, g_left ed3, _, rfl, _, _, rfl, rfl, m0, ?_⟩
        refine ⟨_, rfl, d, _, rfl, g_left ed3, _, rfl, _, _, rfl, rfl, ⟨m0, by omega⟩, _, rfl, d, _, rfl, u_left _ ed3, ?_⟩
        refine ⟨_, rfl, k _ _ (Int.emod_nonneg _ (by omega)) (Int.emod_lt_of_pos _ m0) ⟨cs, _, sd, mn, upd_same, (upd_ne ndl.symm).trans elo3, Int.ediv_nonneg hc0 (by omega), hcs'⟩ (Old.upd_d old3)⟩
      · refine ⟨_, rfl, d, _, rfl, g_many ed3, _, _, rfl, rfl, _, rfl, d, _, rfl, u_many _ ed3, ?_⟩
        have ed2 : (upd H3 d (.dK (potK lo c sd (mn + 1)))) d = some (.dK (potK lo c sd (mn + 1))) := upd_same
        refine ⟨_, rfl, d, _, rfl, g_seed ed2, _, rfl, d, _, rfl, g_many ed2, _, _, rfl, rfl, .inr ⟨by decide, by decide⟩, _, _, rfl, rfl, _, _, rfl, rfl, .inr ⟨by decide, by decide⟩, _, _, rfl, rfl, (by show (0 : Int) < 2305843009213693951; decide), ?_⟩
        have q0 : 0 ≤ (sd + (mn + 1) * 7919) * 48271 % 2305843009213693951 := Int.emod_nonneg _ (by decide)
        have q1 : (sd + (mn + 1) * 7919) * 48271 % 2305843009213693951 < 2305843009213693951 := Int.emod_lt_of_pos _ (by decide)
        refine ⟨_, rfl, _, rfl, _, _, rfl, rfl, (by show (0 : Int) < 1009; decide), _, _, rfl, rfl, _, _, rfl, rfl, .inl ⟨by omega, by omega⟩, _, _, rfl, rfl, (by show (0 : Int) < 2305843009213693951; decide), _, rfl, d, _, rfl, u_seed _ ed2, ?_⟩
        refine ⟨_, rfl, d, _, rfl, g_seed upd_same, _, _, rfl, rfl, ⟨by decide, by decide⟩, _, rfl, _, _, rfl, rfl, m0, ?_⟩
        exact k _ _ (Int.emod_nonneg _ (by omega)) (Int.emod_lt_of_pos _ m0) ⟨cs, c, _, _, upd_same, (upd_ne ndl.symm).trans ((upd_ne ndl.symm).trans elo3), hc0, hcs'⟩ (Old.upd_d (Old.upd_d old3))
  · refine iteF ?_
    refine ⟨_, rfl, d, _, rfl, g_left ed, _, _, rfl, rfl, _, rfl, ?_⟩
    refine ite2 (fun z => ?_) (fun z => ?_)
    · refine ⟨_, rfl, d, _, rfl, g_left ed, _, rfl, _, _, rfl, rfl, m0, ?_⟩
      refine ⟨_, rfl, d, _, rfl, g_left ed, _, rfl, _, _, rfl, rfl, ⟨m0, by omega⟩, _, rfl, d, _, rfl, u_left _ ed, ?_⟩
      refine ⟨_, rfl, k _ _ (Int.emod_nonneg _ (by omega)) (Int.emod_lt_of_pos _ m0) ⟨cs, _, sd, mn, upd_same, (upd_ne ndl.symm).trans elo, Int.ediv_nonneg hl (by omega), hcs⟩ (Old.upd_d old0)⟩
    · refine ⟨_, rfl, d, _, rfl, g_many ed, _, _, rfl, rfl, _, rfl, d, _, rfl, u_many _ ed, ?_⟩
      have ed2 : (upd H d (.dK (potK lo l sd (mn + 1)))) d = some (.dK (potK lo l sd (mn + 1))) := upd_same
      refine ⟨_, rfl, d, _, rfl, g_seed ed2, _, rfl, d, _, rfl, g_many ed2, _, _, rfl, rfl, .inr ⟨by decide, by decide⟩, _, _, rfl, rfl, _, _, rfl, rfl, .inr ⟨by decide, by decide⟩, _, _, rfl, rfl, (by show (0 : Int) < 2305843009213693951; decide), ?_⟩
      have q0 : 0 ≤ (sd + (mn + 1) * 7919) * 48271 % 2305843009213693951 := Int.emod_nonneg _ (by decide)
      have q1 : (sd + (mn + 1) * 7919) * 48271 % 2305843009213693951 < 2305843009213693951 := Int.emod_lt_of_pos _ (by decide)
      refine ⟨_, rfl, _, rfl, _, _, rfl, rfl, (by show (0 : Int) < 1009; decide), _, _, rfl, rfl, _, _, rfl, rfl, .inl ⟨by omega, by omega⟩, _, _, rfl, rfl, (by show (0 : Int) < 2305843009213693951; decide), _, rfl, d, _, rfl, u_seed _ ed2, ?_⟩
      refine ⟨_, rfl, d, _, rfl, g_seed upd_same, _, _, rfl, rfl, ⟨by decide, by decide⟩, _, rfl, _, _, rfl, rfl, m0, ?_⟩
      exact k _ _ (Int.emod_nonneg _ (by omega)) (Int.emod_lt_of_pos _ m0) ⟨cs, l, _, _, upd_same, (upd_ne ndl.symm).trans ((upd_ne ndl.symm).trans elo), hl, hcs⟩ (Old.upd_d (Old.upd_d old0))
end
section
variable {P : Program} {w : World} {K : PySem.W.Frag} {mg : Str → Option Value} {base : Heap}
theorem qex {X : Cx} {st : List Stmt} {D : Ends} {σ : L2.St} {H : Hp} (h : ∃ t, QSs X st t ∧ t D σ H) : ∃ t, PSs X st t ∧ t D σ H := h.elim fun t h => ⟨t, h.1.h, h.2⟩
theorem PotAt.same {d lo : Addr} {H H' : Hp} (h : PotAt d lo H) (s : Same H H') : PotAt d lo H' := by
  obtain ⟨cs, l, sd, m, e1, e2, r⟩ := h
  exact ⟨cs, l, sd, m, s _ _ e1, s _ _ e2, r⟩
theorem PotAt.new {d lo b : Addr} {H : Hp} {o : HO} (h : PotAt d lo H) (hb : H b = none) : PotAt d lo (upd H b o) := h.same (same_new hb o)
theorem PotAt.ne {d lo b : Addr} {H : Hp} (h : PotAt d lo H) (hb : H b = none) : b ≠ d ∧ b ≠ lo := by
  obtain ⟨cs, l, sd, m, e1, e2, r⟩ := h
  exact ⟨(ne_of_none e1 hb).symm, (ne_of_none e2 hb).symm⟩
theorem PotAt.upd {d lo b : Addr} {H : Hp} {o : HO} (h : PotAt d lo H) (h1 : b ≠ d) (h2 : b ≠ lo) : PotAt d lo (upd H b o) := by
  obtain ⟨cs, l, sd, m, e1, e2, r⟩ := h
  exact ⟨cs, l, sd, m, (upd_ne h1.symm).trans e1, (upd_ne h2.symm).trans e2, r⟩
theorem Old.refl (d lo : Addr) (H : Hp) : Old d lo H H := fun _ _ e _ _ => e
theorem Old.trans {d lo : Addr} {H H1 H2 : Hp} (a : Old d lo H H1) (b : Old d lo H1 H2) : Old d lo H H2 := fun c o e h1 h2 => b c o (a c o e h1 h2) h1 h2
theorem Old.of {d lo : Addr} {H H1 : Hp} (a : Same H H1) : Old d lo H H1 := fun c o e _ _ => a c o e
theorem Old.free {d lo b : Addr} {H H1 : Hp} {o : HO} (a : Old d lo H H1) (hb : H b = none) : Old d lo H (L2.upd H1 b o) := fun c o' e h1 h2 => by
  rw [upd_ne (ne_of_none e hb)]
  exact a c o' e h1 h2
theorem drawN {σ : L2.St} {H : Hp} {i : Nat} {d lo : Addr} {m : Int} {Q : VK} (hσ : σ[i]? = some (some (.ref d))) (hp : PotAt d lo H) (h0 : 0 < m) (h1 : m < 2 ^ 63) (k : ∀ (r : Int) (H' : Hp), 0 ≤ r → r < m → PotAt d lo H' → Old d lo H H' → Q (.int r) H') :
    tCall spNext [] E0 (tCons (tVar i) (tCons (tC (.int m)) tNil)) σ H Q := ⟨_, hσ, d, lo, m, rfl, hp, h0, h1, k⟩
theorem seq_nat {k n : Nat} (h : k < n) : seqIndex? ((k : Nat) : Int) n = some k := by
  unfold seqIndex?
  simp
  omega
theorem erase_map {α β : Type} (f : α → β) : ∀ (xs : List α) (i : Nat), (xs.map f).eraseIdx i = (xs.eraseIdx i).map f
  | [], _ => rfl
  | _ :: _, 0 => rfl
  | x :: xs, i + 1 => by
    show f x :: (xs.map f).eraseIdx i = f x :: (xs.eraseIdx i).map f
    rw [erase_map f xs i]
theorem good_str {x y : Str} (hx : ∀ c ∈ x.cps.toList, goodS c) (hy : ∀ c ∈ y.cps.toList, goodS c) : ∀ c ∈ (x ++ y).cps.toList, goodS c := fun c hc => by
  have e : (x ++ y).cps.toList = x.cps.toList ++ y.cps.toList := by
    show (x.cps ++ y.cps).toList = _
    simp
  rw [e] at hc
  rcases List.mem_append.mp hc with z | z
  · exact hx c z
  · exact hy c z
instance (c : Nat) : Decidable (goodS c) := by unfold goodS; infer_instance
end
def Old3 (d lo l : Addr) (H H' : Hp) : Prop := ∀ c o, H c = some o → c ≠ d → c ≠ lo → c ≠ l → H' c = some o
def spTaken : Sp := fun vs H Q _ => ∃ (d lo l : Addr) (xs : Nms), vs = [.ref d, .ref l] ∧ PotAt d lo H ∧ H l = some (.lst (xs.map mkT)) ∧ l ≠ d ∧ l ≠ lo ∧ xs ≠ [] ∧ xs.length ≤ 1000 ∧ ∀ (i : Nat) (h : i < xs.length) (H' : Hp), H' l = some (.lst ((xs.eraseIdx i).map mkT)) → PotAt d lo H' → Old3 d lo l H H' → Q (mkT xs[i]) H'
section
variable {P : Program} {w : World} {K : PySem.W.Frag} {mg : Str → Option Value} {base : Heap}
theorem scTaken : FnScope ["_law_pot_here", "_law_names_here"] ["_law_pot_here", "_law_names_here"] (defScope sTaken) := ⟨rfl, rfl, rfl, by decide +kernel, rfl, by decide +kernel, by decide +kernel⟩
theorem c_taken (h : Has K mg "_law_taken" sTaken ["_law_pot_here", "_law_names_here"]) (C_next : Cal P w K mg base "_law_next" 1 ["_law_pot_here", "_law_many"] spNext) (m_len : mg "len" = none) : Cal P w K mg base "_law_taken" 2 ["_law_pot_here", "_law_names_here"] spTaken := by
  refine h.mk' scTaken (fun vs H Q E hs => ?_) (fun f cdv A outer s H vs Q E hr hs => ?_)
  · obtain ⟨d, lo, l, xs, rfl, _⟩ := hs
    rfl
  obtain ⟨d, lo, l, xs, rfl, hp, hl, nd, nl, hne, hlen, k⟩ := hs
  refine ⟨_, (pss_one (ps_ret (pe_bm PySem.F.plainAttrs_list PySem.F.slot_list_pop PySem.F.type_list_pop mt_popAt (pv 1) (pa_cons (pe_cal C_next hr (by decide) rfl (pa_cons (pv 0) (pa_cons (pe_callB call_len_seq rfl m_len PySem.boot_len (pa_cons (pv 1) pa_nil)) pa_nil))) pa_nil)))), ?_⟩
  have hpos : 0 < xs.length := List.length_pos_iff.mpr hne
  refine ⟨_, rfl, .inl ⟨rfl, _, SqL.of hl⟩, _, rfl, _, rfl, l, _, rfl, .inl (SqL.of hl), ?_⟩
  refine ⟨d, lo, _, rfl, hp, (by rw [List.length_map]; omega), (by rw [List.length_map]; omega), fun r H2 r0 r1 p2 o2 => ?_⟩
  have hl2 : H2 l = some (.lst (xs.map mkT)) := o2 l _ hl nd nl
  obtain ⟨i, rfl⟩ := Int.eq_ofNat_of_zero_le r0
  have hi : i < xs.length := by
    rw [List.length_map] at r1
    omega
  refine ⟨l, _, _, i, mkT xs[i], rfl, rfl, hl2, by omega, by omega, by rw [List.length_map]; exact seq_nat hi, by rw [List.getElem?_map, List.getElem?_eq_getElem hi]; rfl, ?_⟩
  rw [erase_map]
  exact k i hi _ upd_same (p2.upd nd nl) fun c o e h1 h2 h3 => (upd_ne h3).trans (o2 c o e h1 h2)
theorem Old3.of {d lo l : Addr} {H H' : Hp} (s : Same H H') : Old3 d lo l H H' := fun c o e _ _ _ => s c o e
theorem Old3.of2 {d lo l : Addr} {H H' : Hp} (s : Old d lo H H') : Old3 d lo l H H' := fun c o e h1 h2 _ => s c o e h1 h2
theorem Old3.trans {d lo l : Addr} {H H1 H2 : Hp} (a : Old3 d lo l H H1) (b : Old3 d lo l H1 H2) : Old3 d lo l H H2 := fun c o e h1 h2 h3 => b c o (a c o e h1 h2 h3) h1 h2 h3
theorem Old3.free {d lo l b : Addr} {H H1 : Hp} {o : HO} (a : Old3 d lo l H H1) (hb : H b = none) : Old3 d lo l H (L2.upd H1 b o) := fun c o' e h1 h2 h3 => by
  rw [upd_ne (ne_of_none e hb)]
  exact a c o' e h1 h2 h3
end
def spText : Sp := fun vs H Q _ => ∃ (d lo : Addr), vs = [.ref d] ∧ PotAt d lo H ∧ ∀ (t : List Nat) (H' : Hp), t.length ≤ 400 → (∀ c ∈ t, goodS c) → PotAt d lo H' → Old d lo H H' → Q (.str ⟨t.toArray⟩) H'
section
variable {P : Program} {w : World} {K : PySem.W.Frag} {mg : Str → Option Value} {base : Heap}
theorem len_rep {α : Type} (n : Nat) (t : List α) : (List.replicate n t).flatten.length = n * t.length := by
  induction n with
  | zero => simp
  | succ n ih => rw [List.replicate_succ, List.flatten_cons, List.length_append, ih, Nat.succ_mul, Nat.add_comm]
theorem mem_rep {α : Type} {n : Nat} {t : List α} {c : α} (h : c ∈ (List.replicate n t).flatten) : c ∈ t := by
  obtain ⟨l, hl, hc⟩ := List.mem_flatten.mp h
  rw [(List.mem_replicate.mp hl).2] at hc
  exact hc
theorem str_self (x : Str) : x = ⟨x.cps.toList.toArray⟩ := by cases x; simp
theorem scText : FnScope ["_law_pot_here", "_law_pieces", "_law_text_here", "_law_k"] ["_law_pot_here"] (defScope sText) := ⟨rfl, rfl, rfl, by decide +kernel, rfl, by decide +kernel, by decide +kernel⟩
theorem c_text (h : Has K mg "_law_text" sText ["_law_pot_here"]) (C_next : Cal P w K mg base "_law_next" 1 ["_law_pot_here", "_law_many"] spNext) (m_range : mg "range" = none) : Cal P w K mg base "_law_text" 2 ["_law_pot_here"] spText := by
  refine h.mk' scText (fun vs H Q E hs => ?_) (fun f cdv A outer s H vs Q E hr hs => ?_)
  · obtain ⟨d, lo, rfl, _⟩ := hs
    rfl
  obtain ⟨d, lo, rfl, hp, k⟩ := hs
  refine qex ⟨_, (qss_cons (qs_set (i := 1) scText.nd rfl (Or.inl rfl) (qe_lst (qa_c ⟨pe_str⟩ (qa_c ⟨pe_str⟩ (qa_c ⟨pe_str⟩ (qa_c ⟨pe_str⟩ (qa_c ⟨pe_str⟩ (qa_c ⟨pe_str⟩ (qa_c ⟨pe_str⟩ (qa_c ⟨pe_str⟩ (qa_c ⟨pe_str⟩ (qa_c ⟨pe_str⟩ (qa_c ⟨pe_str⟩ qa_nil)))))))))))))
    ⟨(pss_cons (ps_set (i := 1) scText.nd rfl (Or.inl rfl) (pe_op op_cat (pv 1) (pe_lst (pa_cons pe_str (pa_cons pe_str (pa_cons pe_str pa_nil))))))
    (pss_cons (ps_set (i := 2) scText.nd rfl (Or.inl rfl) pe_str)
    (pss_cons (ps_for PassesOwn.never rfl (pi_range1 rfl m_range (pa_cons (pe_cal C_next hr (by decide) rfl (pa_cons (pv 0) (pa_cons pe_int pa_nil))) pa_nil)) (pg_name (i := 3) scText.nd rfl (Or.inl rfl))
      (pss_one (ps_set (i := 2) scText.nd rfl (Or.inl rfl) (pe_op op_add_str (pv 2) (pe_ix ix_list (pv 1) (pe_cal C_next hr (by decide) rfl (pa_cons (pv 0) (pa_cons pe_int pa_nil))) (fun _ _ => rfl))))))
    (pss_cons (ps_if (pt_cmpR op_eq (pe_cal C_next hr (by decide) rfl (pa_cons (pv 0) (pa_cons pe_int pa_nil))) pe_int (nomark _))
      (pss_one (ps_set (i := 2) scText.nd rfl (Or.inl rfl) (pe_op op_mulS (pe_op op_add_str (pv 2) pe_str) pe_int)))
      pss_nil)
    (pss_one (ps_ret (pe_slice sl_str (pv 2) po_none (po_some pe_int))))))))⟩), ?_⟩
  refine ⟨smn 11, fun lm hlm => ?_⟩
  have hp1 := hp.new (o := HO.lst ((["One", "two 3", "a", " ", "x-y", "Zz9", "~", "Word word", "4", ", ", "_b"] : List Str).map V.str)) hlm
  have em : (upd H lm (.lst ((["One", "two 3", "a", " ", "x-y", "Zz9", "~", "Word word", "4", ", ", "_b"] : List Str).map V.str))) lm = some (.lst ((["One", "two 3", "a", " ", "x-y", "Zz9", "~", "Word word", "4", ", ", "_b"] : List Str).map V.str)) := upd_same
  refine ⟨_, rfl, smn 3, fun l2 hl2 => ?_⟩
  have e2 : (upd (upd H lm (.lst ((["One", "two 3", "a", " ", "x-y", "Zz9", "~", "Word word", "4", ", ", "_b"] : List Str).map V.str))) l2 (.lst ((["\n", "\\", "\""] : List Str).map V.str))) l2 = some (.lst ((["\n", "\\", "\""] : List Str).map V.str)) := upd_same
  have hp2 := hp1.new (o := HO.lst ((["\n", "\\", "\""] : List Str).map V.str)) hl2
  refine ⟨lm, l2, _, _, rfl, rfl, same_new hl2 _ _ _ em, e2, smn 14, fun l3 hl3 => ?_⟩
  have oA : Old d lo H _ := ((Old.of (same_new hlm _)).trans (Old.of (same_new hl2 _))).trans (Old.of (same_new hl3 (.lst ((["One", "two 3", "a", " ", "x-y", "Zz9", "~", "Word word", "4", ", ", "_b", "\n", "\\", "\""] : List Str).map V.str))))
  have hp3 := hp2.new (o := HO.lst ((["One", "two 3", "a", " ", "x-y", "Zz9", "~", "Word word", "4", ", ", "_b", "\n", "\\", "\""] : List Str).map V.str)) hl3
  obtain ⟨nmd, nml⟩ := hp2.ne hl3
  have gm : ∀ x ∈ (["One", "two 3", "a", " ", "x-y", "Zz9", "~", "Word word", "4", ", ", "_b", "\n", "\\", "\""] : List Str), x.length ≤ 9 ∧ ∀ c ∈ x.cps.toList, goodS c := by decide +kernel
  have hml : (["One", "two 3", "a", " ", "x-y", "Zz9", "~", "Word word", "4", ", ", "_b", "\n", "\\", "\""] : List Str).length = 14 := rfl
  refine drawN (σ := [some (.ref d), some (.ref l3), some (.str ""), none]) (i := 0) (m := 6) rfl hp3 (by decide) (by decide) fun r H2 r0 r1 p2 o2 => ?_
  have e3m : H2 l3 = some (.lst ((["One", "two 3", "a", " ", "x-y", "Zz9", "~", "Word word", "4", ", ", "_b", "\n", "\\", "\""] : List Str).map V.str)) := o2 l3 _ upd_same nmd nml
  have oB := oA.trans o2
  refine ⟨r, rfl, by omega, by omega, ?_⟩
  generalize (["One", "two 3", "a", " ", "x-y", "Zz9", "~", "Word word", "4", ", ", "_b", "\n", "\\", "\""] : List Str) = MENU at e3m gm hml
  refine for_range (lo := 0) (n := r.toNat) (fun j σ H4 => ∃ (x : Str) (v3 : Option V), σ = [some (.ref d), some (.ref l3), some (.str x), v3] ∧ PotAt d lo H4 ∧ Old d lo H H4 ∧ H4 l3 = some (.lst (MENU.map V.str)) ∧ x.length ≤ 9 * j ∧ ∀ c ∈ x.cps.toList, goodS c)
    ⟨"", none, rfl, p2, oB, e3m, by decide +kernel, by decide +kernel⟩ ?_ ?_
  · rintro j σ H4 hj ⟨x, v3, rfl, p4, o4, e4m, hx, gx⟩
    have hj41 : j < 6 := by omega
    refine ⟨_, rfl, _, rfl, ?_⟩
    refine drawN (σ := [some (.ref d), some (.ref l3), some (.str x), some (.int (0 + (j : Int)))]) (i := 0) (m := 14) rfl p4 (by decide) (by decide) fun r5 H5 w0 w1 p5 o5 => ?_
    obtain ⟨y, hy, hm⟩ := atI_lt (xs := MENU.map V.str) w0 (by rw [List.length_map, hml]; exact w1)
    obtain ⟨m, hmm, rfl⟩ := List.mem_map.mp hm
    obtain ⟨g1, g2⟩ := gm m hmm
    refine ⟨l3, _, r5, _, rfl, rfl, SqL.of (o5 l3 _ e4m nmd nml), hy, _, _, rfl, rfl, small (by omega), ?_⟩
    refine ⟨x ++ m, _, rfl, p5, o4.trans o5, o5 l3 _ e4m nmd nml, ?_, good_str gx g2⟩
    have e : (x ++ m).length = x.length + m.length := by
      show (x.cps ++ m.cps).size = _
      rw [Array.size_append]
      rfl
    rw [e]
    omega
  · rintro σ H4 ⟨x, v3, rfl, p4, o4, e4m, hx, gx⟩
    refine drawN (σ := [some (.ref d), some (.ref l3), some (.str x), v3]) (i := 0) (m := 16) rfl p4 (by decide) (by decide) fun r5 H5 w0 w1 p5 o5 => ?_
    refine ⟨rfl, _, rfl, ?_⟩
    have fin : ∀ (z : Str), z.length ≤ 20000 → (∀ c ∈ z.cps.toList, goodS c) → Q (.str (Txt.slice z none (some 400))) H5 := fun z hz gz => by
      have es : Txt.slice z none (some 400) = ⟨(z.cps.toList.take 400).toArray⟩ := SLi.upto z 400
      rw [es]
      exact k _ H5 (by rw [List.length_take]; omega) (fun c hc => gz c (List.mem_of_mem_take hc)) p5 (o4.trans o5)
    refine ite2 (fun h1 => ?_) (fun h1 => ?_)
    · have e : (x ++ "q ").length = x.length + 2 := by
        show (x.cps ++ ("q " : Str).cps).size = _
        rw [Array.size_append]
        rfl
      have gy : ∀ c ∈ (x ++ "q ").cps.toList, goodS c := good_str gx (by decide +kernel)
      refine ⟨_, rfl, _, _, rfl, rfl, small (by rw [show (("q " : Str)).length = 2 from rfl]; omega), ?_⟩
      generalize x ++ "q " = y at e gy
      have hyl : y.cps.toList.length ≤ 60 := by
        have : y.cps.size = x.length + 2 := e
        rw [Array.length_toList]
        omega
      rw [str_self y]
      refine ⟨y.cps.toList, 200, rfl, rfl, by decide, by omega, ?_⟩
      have hl : (List.replicate 200 y.cps.toList).flatten.length ≤ 20000 := by
        rw [len_rep]
        omega
      refine ⟨_, rfl, _, rfl, _, rfl, ?_, fin _ ?_ ?_⟩
      · show (List.replicate 200 y.cps.toList).flatten.toArray.size ≤ _
        rw [List.size_toArray]
        exact Nat.le_trans hl (Nat.le_trans (by decide) sizeLine_big)
      · show (List.replicate 200 y.cps.toList).flatten.toArray.size ≤ _
        rw [List.size_toArray]
        exact hl
      · intro c hc
        have hc' : c ∈ (List.replicate 200 y.cps.toList).flatten := by
          have e : (List.replicate 200 y.cps.toList).flatten.toArray.toList = (List.replicate 200 y.cps.toList).flatten := List.toList_toArray
          rw [← e]
          exact hc
        exact gy c (mem_rep hc')
    · refine ⟨_, rfl, _, rfl, x, rfl, small (by omega), fin x (by omega) gx⟩
end
def spNames : Sp := fun vs H Q _ => ∃ (d lo : Addr), vs = [.ref d] ∧ PotAt d lo H ∧ ∀ (l : Addr) (xs : Nms) (H' : Hp), H l = none → H' l = some (.lst (xs.map mkT)) → Row70 xs → PotAt d lo H' → Old d lo H H' → Q (.ref l) H'
def letS (t : Nat) : Str := ⟨((List.range 26).map (ltr t)).toArray⟩
theorem let_list : LET.cps.toList = (List.range 26).map (97 + ·) := by decide +kernel
theorem let_turned {t : Nat} (h : t < 26) : Txt.slice LET (some (t : Int)) none ++ Txt.slice LET none (some (t : Int)) = letS t := by
  rw [SLi.from_, SLi.upto, let_list]
  show (⟨_ ++ _⟩ : Str) = _
  rw [List.append_toArray, turned_at h (i := 0) (by decide)]
  rfl
theorem letS_len (t : Nat) : (letS t).length = 26 := by
  show ((List.range 26).map (ltr t)).toArray.size = 26
  simp
theorem letS_at {t i : Nat} (hi : i < 26) {x : Int} (hx : x = (i : Nat)) : atI (letS t).cps.toList x = some (ltr t i) := by
  subst hx
  refine atI_nat ?_
  show (((List.range 26).map (ltr t)).toArray).toList[i]? = _
  simp [List.getElem?_range hi]
theorem rep1 (n c : Nat) : (List.replicate n [c]).flatten = List.replicate n c := by
  induction n with
  | zero => rfl
  | succ n ih => rw [List.replicate_succ, List.flatten_cons, ih]; rfl
theorem str_app (a b : List Nat) : (⟨a.toArray⟩ : Str) ++ (⟨b.toArray⟩ : Str) = ⟨(a ++ b).toArray⟩ := by
  show (⟨_ ++ _⟩ : Str) = _
  rw [List.append_toArray]
theorem len_mk (a : List Nat) : (⟨a.toArray⟩ : Str).length = a.length := by show a.toArray.size = _; simp
theorem range_snoc (f : Nat → List Nat) (i : Nat) : ((List.range i).map f).map mkT ++ [mkT (f i)] = ((List.range (i + 1)).map f).map mkT := by
  rw [List.range_succ, List.map_append, List.map_append]
  rfl
theorem Old.none {d lo b : Addr} {H H' : Hp} (o : Old d lo H H') (hp : PotAt d lo H) (hp' : PotAt d lo H') (hb : H' b = none) : H b = none := by
  obtain ⟨h1, h2⟩ := hp'.ne hb
  cases e : H b with
  | none => rfl
  | some u =>
    have := o b u e h1 h2
    rw [hb] at this
    cases this
section
variable {P : Program} {w : World} {K : PySem.W.Frag} {mg : Str → Option Value} {base : Heap}
theorem scNames : FnScope ["_law_pot_here", "_law_letters", "_law_turn", "_law_way", "_law_at", "_law_ahead", "_law_behind"] ["_law_pot_here"] (defScope sNames) := ⟨rfl, rfl, rfl, by decide +kernel, rfl, by decide +kernel, by decide +kernel⟩
theorem c_names (h : Has K mg "_law_names" sNames ["_law_pot_here"]) (C_next : Cal P w K mg base "_law_next" 1 ["_law_pot_here", "_law_many"] spNext) (m_range : mg "range" = none) : Cal P w K mg base "_law_names" 2 ["_law_pot_here"] spNames := by
  refine h.mk' scNames (fun vs H Q E hs => ?_) (fun f cdv A outer s H vs Q E hr hs => ?_)
  · obtain ⟨d, lo, rfl, _⟩ := hs
    rfl
  obtain ⟨d, lo, rfl, hp, k⟩ := hs
  refine ⟨_, (pss_cons (ps_set (i := 1) scNames.nd rfl (Or.inr rfl) pe_str)
    (pss_cons (ps_set (i := 2) scNames.nd rfl (Or.inl rfl) (pe_cal C_next hr (by decide) rfl (pa_cons (pv 0) (pa_cons pe_int pa_nil))))
    (pss_cons (ps_set (i := 1) scNames.nd rfl (Or.inr rfl) (pe_op op_add_str (pe_slice sl_str (pv 1) (po_some (pv 2)) po_none) (pe_slice sl_str (pv 1) po_none (po_some (pv 2)))))
    (pss_cons (ps_set (i := 3) scNames.nd rfl (Or.inl rfl) (pe_cal C_next hr (by decide) rfl (pa_cons (pv 0) (pa_cons pe_int pa_nil))))
    (pss_cons (ps_if (pt_cmpR op_eq (pv 3) pe_int (nomark _))
      (pss_one (ps_ret (pe_compL ["_law_pot_here", "_law_letters", "_law_turn", "_law_way", "_law_at", "_law_ahead", "_law_behind"] (defScope sNames) ["_law_letters", "_law_k"] [some 1, none] rfl rfl rfl (pi_range1 rfl m_range (pa_cons pe_int pa_nil)) rfl (by decide +kernel) (by decide +kernel) (by decide +kernel) (by decide +kernel) (hg := fun cl C s H ex pn E => (pg_name (i := 1) (by decide +kernel : (["_law_letters", "_law_k"] : List Str).Nodup) rfl (Or.inl rfl))) (ht := fun cl C s H ex pn E => pifs_nil) (he := fun cl C s H ex pn E => (pe_op op_add_str (pe_ix ix_str (pv 0) (pe_op op_mod (pv 1) pe_int) (fun _ _ => rfl)) (pe_op op_mulS (pe_ix ix_str (pv 0) (pe_op op_fdivB (pv 1) pe_int) (fun _ _ => rfl)) (pe_op op_mod (pv 1) pe_int)))))))
      pss_nil)
    (pss_cons (ps_if (pt_cmpR op_eq (pv 3) pe_int (nomark _))
      (pss_one (ps_ret (pe_compL ["_law_pot_here", "_law_letters", "_law_turn", "_law_way", "_law_at", "_law_ahead", "_law_behind"] (defScope sNames) ["_law_letters", "_law_k"] [some 1, none] rfl rfl rfl (pi_range1 rfl m_range (pa_cons pe_int pa_nil)) rfl (by decide +kernel) (by decide +kernel) (by decide +kernel) (by decide +kernel) (hg := fun cl C s H ex pn E => (pg_name (i := 1) (by decide +kernel : (["_law_letters", "_law_k"] : List Str).Nodup) rfl (Or.inl rfl))) (ht := fun cl C s H ex pn E => pifs_nil) (he := fun cl C s H ex pn E => (pe_op op_mulS (pe_ix ix_str (pv 0) (pe_op op_fdivB (pv 1) pe_int) (fun _ _ => rfl)) (pe_op op_add pe_int (pe_op op_mod (pv 1) pe_int)))))))
      pss_nil)
    (pss_cons (ps_set (i := 4) scNames.nd rfl (Or.inl rfl) (pe_cal C_next hr (by decide) rfl (pa_cons (pv 0) (pa_cons pe_int pa_nil))))
    (pss_cons (ps_asg (pe_tup (pa_cons (pe_op op_mulS (pe_ix ix_str (pv 1) pe_int (fun _ _ => rfl)) (pv 4)) (pa_cons (pe_op op_mulS (pe_ix ix_str (pv 1) pe_int (fun _ _ => rfl)) (pe_op op_sub pe_int (pv 4))) pa_nil))) (pg_tup rfl (pgs_cons (pg_name (i := 5) scNames.nd rfl (Or.inr rfl)) (pgs_cons (pg_name (i := 6) scNames.nd rfl (Or.inr rfl)) pgs_nil))))
    (pss_one (ps_ret (pe_compL ["_law_pot_here", "_law_letters", "_law_turn", "_law_way", "_law_at", "_law_ahead", "_law_behind"] (defScope sNames) ["_law_letters", "_law_ahead", "_law_behind", "_law_k"] [some 1, some 5, some 6, none] rfl rfl rfl (pi_range1 rfl m_range (pa_cons pe_int pa_nil)) rfl (by decide +kernel) (by decide +kernel) (by decide +kernel) (by decide +kernel) (hg := fun cl C s H ex pn E => (pg_name (i := 3) (by decide +kernel : (["_law_letters", "_law_ahead", "_law_behind", "_law_k"] : List Str).Nodup) rfl (Or.inl rfl))) (ht := fun cl C s H ex pn E => pifs_nil) (he := fun cl C s H ex pn E => (pe_op op_add_str (pe_op op_add_str (pe_op op_add_str (pv 1) (pe_ix ix_str (pv 0) (pe_op op_mod (pv 3) pe_int) (fun _ _ => rfl))) (pe_ix ix_str (pv 0) (pe_op op_fdivB (pv 3) pe_int) (fun _ _ => rfl))) (pv 2)))))))))))))), ?_⟩
  refine drawN (σ := [some (.ref d), some (.str LET), none, none, none, none, none]) (i := 0) (m := 26) rfl hp (by decide) (by decide) fun r H1 r0 r1 p1 o1 => ?_
  obtain ⟨t, rfl⟩ := Int.eq_ofNat_of_zero_le r0
  have ht : t < 26 := by omega
  refine ⟨_, rfl, _, rfl, _, rfl, LET, rfl, small (by rw [let_len]; decide), _, rfl, _, rfl, _, rfl, LET, rfl, small (by rw [let_len]; decide), _, _, rfl, rfl, ?_, ?_⟩
  · exact small (Nat.le_trans (Nat.add_le_add (Txt.slice_le _ _ _) (Txt.slice_le _ _ _)) (by rw [let_len]; decide))
  rw [let_turned ht]
  have hL : (letS t).length ≤ sizeLine := small (by rw [letS_len]; decide)
  refine drawN (σ := [some (.ref d), some (.str (letS t)), some (.int (t : Nat)), none, none, none, none]) (i := 0) (m := 3) rfl p1 (by decide) (by decide) fun r2 H2 q0 q1 p2 o2 => ?_
  have o12 := o1.trans o2
  refine ⟨_, rfl, rfl, _, rfl, ?_⟩
  refine ite2 (fun z => ?_) (fun z => ?_)
  · refine ⟨70, rfl, by omega, by omega, fun lc hlc => ?_⟩
    have hcH : H lc = none := o12.none hp p2 hlc
    refine comp_by (J := Itr 0 70) (l := lc) 70 (fun i σ' H' => ∃ (v : Option V), σ' = [some (.str (letS t)), v] ∧ H' = upd H2 lc (.lst (((List.range i).map (nm0 t)).map mkT))) ⟨none, rfl, rfl⟩ ?_ ?_
    · rintro σ' H' ⟨v, rfl, rfl⟩
      exact ⟨Nat.le_refl _, k lc _ _ hcH upd_same (row0 t) (p2.new hlc) (o12.new hlc)⟩
    · rintro i σ' H' hi ⟨v, rfl, rfl⟩
      refine ⟨hi, ?_⟩
      rintro y H'' ⟨rfl, rfl⟩
      refine gN (yesT (iteT ?_))
      refine ⟨_, rfl, _, rfl, _, _, rfl, rfl, by show (0 : Int) < 26; decide, _, _, _, rfl, rfl, hL, letS_at (i := i % 26) (by omega) (by omega), ?_⟩
      refine ⟨_, rfl, _, rfl, _, _, rfl, rfl, by show (0 : Int) < 26 ∧ _; decide, _, _, _, rfl, rfl, hL, letS_at (i := i / 26) (by omega) (by omega), ?_⟩
      refine ⟨_, rfl, _, _, rfl, rfl, by show (0 : Int) < 7; decide, [ltr t (i / 26)], i % 7, rfl, congrArg V.int (by omega), by omega, by simp; omega, ?_⟩
      rw [rep1]
      refine ⟨⟨[ltr t (i % 26)].toArray⟩, _, rfl, rfl, small (by rw [len_mk, len_mk, List.length_replicate]; simp; omega), ?_⟩
      rw [str_app]
      refine ⟨_, upd_same, by rw [List.length_map, List.length_map, List.length_range]; exact small1000 (by omega), _, rfl, ?_⟩
      rw [upd_upd, ← range_snoc]
      rfl
  refine ⟨_, rfl, rfl, _, rfl, ?_⟩
  refine ite2 (fun z1 => ?_) (fun z1 => ?_)
  · refine ⟨70, rfl, by omega, by omega, fun lc hlc => ?_⟩
    have hcH : H lc = none := o12.none hp p2 hlc
    refine comp_by (J := Itr 0 70) (l := lc) 70 (fun i σ' H' => ∃ (v : Option V), σ' = [some (.str (letS t)), v] ∧ H' = upd H2 lc (.lst (((List.range i).map (nm1 t)).map mkT))) ⟨none, rfl, rfl⟩ ?_ ?_
    · rintro σ' H' ⟨v, rfl, rfl⟩
      exact ⟨Nat.le_refl _, k lc _ _ hcH upd_same (row1 t) (p2.new hlc) (o12.new hlc)⟩
    · rintro i σ' H' hi ⟨v, rfl, rfl⟩
      refine ⟨hi, ?_⟩
      rintro y H'' ⟨rfl, rfl⟩
      refine gN (yesT (iteT ?_))
      refine ⟨_, rfl, _, rfl, _, _, rfl, rfl, by show (0 : Int) < 8 ∧ _; decide, _, _, _, rfl, rfl, hL, letS_at (i := i / 8) (by omega) (by omega), ?_⟩
      refine ⟨_, rfl, _, _, rfl, rfl, by show (0 : Int) < 8; decide, _, _, rfl, rfl, [ltr t (i / 8)], 1 + i % 8, rfl, congrArg V.int (by omega), by omega, by simp; omega, ?_⟩
      rw [rep1]
      refine ⟨_, upd_same, by rw [List.length_map, List.length_map, List.length_range]; exact small1000 (by omega), _, rfl, ?_⟩
      rw [upd_upd, ← range_snoc]
      rfl
  refine drawN (σ := [some (.ref d), some (.str (letS t)), some (.int (t : Nat)), some (.int r2), none, none, none]) (i := 0) (m := 7) rfl p2 (by decide) (by decide) fun r3 H3 u0 u1 p3 o3 => ?_
  obtain ⟨a, rfl⟩ := Int.eq_ofNat_of_zero_le u0
  have ha : a ≤ 6 := by omega
  have o13 := o12.trans o3
  refine ⟨_, rfl, _, _, _, rfl, rfl, hL, letS_at (i := 25) (by omega) (by omega), _, rfl, [ltr t 25], a, rfl, rfl, by omega, by simp; omega, ?_⟩
  rw [rep1]
  refine ⟨_, rfl, _, _, _, rfl, rfl, hL, letS_at (i := 25) (by omega) (by omega), _, rfl, _, _, rfl, rfl, [ltr t 25], 6 - a, rfl, congrArg V.int (by omega), by omega, by simp; omega, ?_⟩
  rw [rep1]
  refine ⟨smn 2, fun tp htp => ?_⟩
  have p4 := p3.new (o := HO.tup [mkT (List.replicate a (ltr t 25)), mkT (List.replicate (6 - a) (ltr t 25))]) htp
  have o14 := o13.new (o := HO.tup [mkT (List.replicate a (ltr t 25)), mkT (List.replicate (6 - a) (ltr t 25))]) htp
  refine ⟨tp, _, rfl, SqT.of upd_same, rfl, _, _, rfl, _, _, rfl, rfl, ?_⟩
  refine ⟨70, rfl, by omega, by omega, fun lc hlc => ?_⟩
  have hcH : H lc = none := o14.none hp p4 hlc
  generalize upd H3 tp (.tup [mkT (List.replicate a (ltr t 25)), mkT (List.replicate (6 - a) (ltr t 25))]) = H4 at p4 o14 hlc
  refine comp_by (J := Itr 0 70) (l := lc) 70 (fun i σ' H' => ∃ (v : Option V), σ' = [some (.str (letS t)), some (mkT (List.replicate a (ltr t 25))), some (mkT (List.replicate (6 - a) (ltr t 25))), v] ∧ H' = upd H4 lc (.lst (((List.range i).map (nm2 t a)).map mkT))) ⟨none, rfl, rfl⟩ ?_ ?_
  · rintro σ' H' ⟨v, rfl, rfl⟩
    exact ⟨Nat.le_refl _, k lc _ _ hcH upd_same (row2 ha) (p4.new hlc) (o14.new hlc)⟩
  · rintro i σ' H' hi ⟨v, rfl, rfl⟩
    refine ⟨hi, ?_⟩
    rintro y H'' ⟨rfl, rfl⟩
    refine gN (yesT (iteT ?_))
    refine ⟨_, rfl, _, rfl, _, rfl, _, _, rfl, rfl, by show (0 : Int) < 20; decide, _, _, _, rfl, rfl, hL, letS_at (i := i % 20) (by omega) (by omega), ?_⟩
    refine ⟨_, ⟨[ltr t (i % 20)].toArray⟩, rfl, rfl, small (by rw [len_mk, len_mk, List.length_replicate]; simp; omega), ?_⟩
    rw [str_app]
    refine ⟨_, rfl, _, rfl, _, _, rfl, rfl, by show (0 : Int) < 20 ∧ _; decide, _, _, _, rfl, rfl, hL, letS_at (i := i / 20) (by omega) (by omega), ?_⟩
    refine ⟨_, ⟨[ltr t (i / 20)].toArray⟩, rfl, rfl, small (by rw [len_mk, len_mk, List.length_append, List.length_replicate]; simp; omega), ?_⟩
    rw [str_app]
    refine ⟨_, rfl, _, _, rfl, rfl, small (by rw [len_mk, len_mk, List.length_append, List.length_append, List.length_replicate, List.length_replicate]; simp; omega), ?_⟩
    rw [str_app]
    refine ⟨_, upd_same, by rw [List.length_map, List.length_map, List.length_range]; exact small1000 (by omega), _, rfl, ?_⟩
    rw [upd_upd, ← range_snoc]
    simp only [nm2, List.append_assoc]
    rfl
end
def formsL : List (Str × Str) := [("put", "tsbnx"), ("take", "tn"), ("part", "tntn"), ("join", "tnn"), ("move", "tnb"), ("change", "tnx"), ("word", "tntw"), ("loose", "tn"), ("step", "tn"), ("alone", "tn"), ("lack", "tn"), ("link", "tll")]
def formsA : List (Key × V) := [(Sum.inr "put", .str "tsbnx"), (Sum.inr "take", .str "tn"), (Sum.inr "part", .str "tntn"), (Sum.inr "join", .str "tnn"), (Sum.inr "move", .str "tnb"), (Sum.inr "change", .str "tnx")]
def formsB : List (Key × V) := [(Sum.inr "word", .str "tntw"), (Sum.inr "loose", .str "tn"), (Sum.inr "step", .str "tn"), (Sum.inr "alone", .str "tn"), (Sum.inr "lack", .str "tn"), (Sum.inr "link", .str "tll")]
def formsK : List (Key × V) := formsA ++ formsB
theorem mA : mergeK [] formsA = formsA := by decide +kernel
theorem mB : mergeK [] formsB = formsB := by decide +kernel
theorem nAB : ((formsA ++ formsB).map (·.1)).Nodup := by decide +kernel
theorem formsK_eq : formsK = formsL.map fun p => (Sum.inr p.1, V.str p.2) := rfl
def spForms : Sp := fun vs H Q _ => vs = [] ∧ ∀ (f : Addr) (H' : Hp), H f = none → H' f = some (.dK formsK) → Same H H' → Q (.ref f) H'
def spOneOf : Sp := fun vs H Q _ => ∃ (d lo l : Addr) (xs : List V), vs = [.ref d, .ref l] ∧ PotAt d lo H ∧ H l = some (.lst xs) ∧ l ≠ d ∧ l ≠ lo ∧ xs ≠ [] ∧ xs.length ≤ 1000 ∧ ∀ (i : Nat) (hi : i < xs.length) (H' : Hp), PotAt d lo H' → Old d lo H H' → Q xs[i] H'
section
variable {P : Program} {w : World} {K : PySem.W.Frag} {mg : Str → Option Value} {base : Heap}
theorem scOneOf : FnScope ["_law_pot_here", "_law_some"] ["_law_pot_here", "_law_some"] (defScope sOneOf) := ⟨rfl, rfl, rfl, by decide +kernel, rfl, by decide +kernel, by decide +kernel⟩
theorem c_one_of (h : Has K mg "_law_one_of" sOneOf ["_law_pot_here", "_law_some"]) (C_next : Cal P w K mg base "_law_next" 1 ["_law_pot_here", "_law_many"] spNext) (m_len : mg "len" = none) : Cal P w K mg base "_law_one_of" 2 ["_law_pot_here", "_law_some"] spOneOf := by
  refine h.mk' scOneOf (fun vs H Q E hs => ?_) (fun f cdv A outer s H vs Q E hr hs => ?_)
  · obtain ⟨d, lo, l, xs, rfl, _⟩ := hs
    rfl
  obtain ⟨d, lo, l, xs, rfl, hp, hl, nd, nl, hne, hlen, k⟩ := hs
  refine ⟨_, (pss_one (ps_ret (pe_ix ix_list (pv 1) (pe_cal C_next hr (by decide) rfl (pa_cons (pv 0) (pa_cons (pe_callB call_len_seq rfl m_len PySem.boot_len (pa_cons (pv 1) pa_nil)) pa_nil))) (fun _ _ => rfl)))), ?_⟩
  have hpos : 0 < xs.length := List.length_pos_iff.mpr hne
  refine ⟨_, rfl, _, rfl, _, rfl, l, _, rfl, .inl (SqL.of hl), ?_⟩
  refine ⟨d, lo, _, rfl, hp, (by omega), (by omega), fun r H2 r0 r1 p2 o2 => ?_⟩
  have hl2 : H2 l = some (.lst xs) := o2 l _ hl nd nl
  obtain ⟨i, rfl⟩ := Int.eq_ofNat_of_zero_le r0
  have hi : i < xs.length := by omega
  exact ⟨l, _, _, xs[i], rfl, rfl, SqL.of hl2, atI_nat (List.getElem?_eq_getElem hi), k i hi H2 p2 o2⟩
theorem scForms : FnScope ["_law_words"] [] (defScope sForms) := ⟨rfl, rfl, rfl, by decide +kernel, rfl, by decide +kernel, by decide +kernel⟩
theorem c_forms (h : Has K mg "_law_forms" sForms [])  : Cal P w K mg base "_law_forms" 1 [] spForms := by
  refine h.mk' scForms (fun vs H Q E hs => ?_) (fun f cdv A outer s H vs Q E hr hs => ?_)
  · obtain ⟨rfl, _⟩ := hs
    rfl
  obtain ⟨rfl, k⟩ := hs
  refine qex ⟨_, qss_cons (qs_set (i := 0) scForms.nd rfl (Or.inl rfl) (qe_disp (qps_cons qe_str qe_str (qps_cons qe_str qe_str (qps_cons qe_str qe_str (qps_cons qe_str qe_str (qps_cons qe_str qe_str (qps_cons qe_str qe_str qps_nil)))))) rfl rfl (by simp) (by decide))) (qss_cons (qs_expr (qe_upd ⟨pv 0⟩ (qe_disp (qps_cons qe_str qe_str (qps_cons qe_str qe_str (qps_cons qe_str qe_str (qps_cons qe_str qe_str (qps_cons qe_str qe_str (qps_cons qe_str qe_str qps_nil)))))) rfl rfl (by simp) (by decide)))) ⟨pss_one (ps_ret (pv 0))⟩), ?_⟩
  refine fun d1 hd1 => ⟨upd_same, formsA, rfl, by show 6 ≤ 15; decide, gN ?_⟩
  rw [mA, upd_upd]
  have n1 := same_new hd1 (.dK formsA)
  refine ⟨_, rfl, .inr (.inr (.inl ⟨rfl, .inl ⟨_, upd_same⟩⟩)), fun d2 hd2 => ⟨upd_same, formsB, rfl, by show 6 ≤ 15; decide, ?_⟩⟩
  rw [mB, upd_upd]
  have n2 := same_new hd2 (.dK formsB)
  have n12 : d1 ≠ d2 := ne_of_none upd_same hd2
  refine ⟨d1, d2, formsA, formsB, rfl, rfl, n12, n2 _ _ upd_same, upd_same, nAB, smn 12, ?_⟩
  refine ⟨_, rfl, k d1 _ hd1 upd_same fun c o e => ?_⟩
  rw [upd_ne (ne_of_none e hd1)]
  exact n2 _ _ (n1 _ _ e)
end
def kindS (c : Nat) : Str := if c = 116 then "number" else if c = 115 then "side" else if c = 120 then "text" else if c = 119 then "word" else if c = 108 then "names" else if c = 98 then "behind" else "name"
def isSg (c : Nat) : Prop := c = 116 ∨ c = 115 ∨ c = 120 ∨ c = 119 ∨ c = 108 ∨ c = 98 ∨ c = 110
/-- names in a list of a law -/
structure NmL (xs : Nms) : Prop where
  nm : ∀ x ∈ xs, isNm ⟨x.toArray⟩ = true
  lo : 20 ≤ xs.length
  hi : xs.length ≤ 100
def sT (x : List Nat) : Str := ⟨x.toArray⟩
def spThing (K : PySem.W.Frag) : Sp := fun vs H Q _ => ∃ (d lo l : Addr) (xs : Nms) (c : Nat), vs = [.ref d, .ref l, .str ⟨#[c]⟩] ∧ PotAt d lo H ∧ H l = some (.lst (xs.map mkT)) ∧ l ≠ d ∧ l ≠ lo ∧ NmL xs ∧ isSg c ∧
  ∀ (v : V) (t : Th) (ms rest : Nms) (H' : Hp), (∀ B, ThV K B H' v t) → kindTh (kindS c) t = true → (c = 108 → nmsTh t = ms.map sT) → (c ≠ 108 → ms = []) → ms.length ≤ 8 → xs.Perm (ms ++ rest) → H' l = some (.lst (rest.map mkT)) → PotAt d lo H' → Old3 d lo l H H' → Q v H'
theorem ez_sg {c a : Nat} {x : Str} (hx : x = ⟨#[a]⟩) : decide (V.str ⟨#[c]⟩ = V.str x) = decide (c = a) := by
  subst hx
  by_cases h : c = a
  · subst h; simp
  · rw [decide_eq_false h]
    refine decide_eq_false fun z => h ?_
    injection z with z
    injection z with z
    simpa using z
theorem kn_num (t : Th) : kindTh (kindS 116) t = isMomTh t := by
  have e : kindS 116 = "number" := by decide +kernel
  rw [e]
  unfold kindTh
  rw [if_neg (by decide +kernel), if_neg (by decide +kernel), if_neg (by decide +kernel), if_neg (by decide +kernel), if_pos rfl]
theorem kn_side (t : Th) : kindTh (kindS 115) t = isSideTh t := by
  have e : kindS 115 = "side" := by decide +kernel
  rw [e]
  unfold kindTh
  rw [if_pos rfl]
theorem kn_text (t : Th) : kindTh (kindS 120) t = isTxTh t := by
  have e : kindS 120 = "text" := by decide +kernel
  rw [e]
  unfold kindTh
  rw [if_neg (by decide +kernel), if_neg (by decide +kernel), if_neg (by decide +kernel), if_neg (by decide +kernel), if_neg (by decide +kernel), if_neg (by decide +kernel)]
theorem kn_word (t : Th) : kindTh (kindS 119) t = isWdTh t := by
  have e : kindS 119 = "word" := by decide +kernel
  rw [e]
  unfold kindTh
  rw [if_neg (by decide +kernel), if_neg (by decide +kernel), if_neg (by decide +kernel), if_neg (by decide +kernel), if_neg (by decide +kernel), if_pos rfl]
theorem kn_names (t : Th) : kindTh (kindS 108) t = isLkTh t := by
  have e : kindS 108 = "names" := by decide +kernel
  rw [e]
  unfold kindTh
  rw [if_neg (by decide +kernel), if_neg (by decide +kernel), if_neg (by decide +kernel), if_pos rfl]
theorem kn_behind (t : Th) : kindTh (kindS 98) t = isBhTh t := by
  have e : kindS 98 = "behind" := by decide +kernel
  rw [e]
  unfold kindTh
  rw [if_neg (by decide +kernel), if_pos rfl]
theorem kn_name (t : Th) : kindTh (kindS 110) t = isNmTh t := by
  have e : kindS 110 = "name" := by decide +kernel
  rw [e]
  unfold kindTh
  rw [if_neg (by decide +kernel), if_neg (by decide +kernel), if_pos rfl]
theorem th_mkT {K : PySem.W.Frag} {H : Hp} {x : List Nat} (h : x.length ≤ 1000) (B : List Addr) : ThV K B H (mkT x) (.str (sT x)) := ⟨rfl, by show x.toArray.size ≤ 1000; simpa using h⟩
theorem nm_len {x : List Nat} (h : isNm ⟨x.toArray⟩ = true) : x.length ≤ 8 := by
  unfold isNm at h
  rw [Bool.and_eq_true, Bool.and_eq_true] at h
  have := of_decide_eq_true h.1.2
  have e : (⟨x.toArray⟩ : Str).length = x.length := List.size_toArray
  omega
theorem good_tx {t : List Nat} (h : ∀ c ∈ t, goodS c) : isTxTh (.str ⟨t.toArray⟩) = true := by
  show (t.toArray.toList).all goodC = true
  rw [List.all_eq_true]
  intro c hc
  have hc' : c ∈ t := by simpa using hc
  unfold goodC
  rcases h c hc' with z | z
  · rw [decide_eq_true z]; rfl
  · rw [decide_eq_true z, Bool.or_true]
theorem words5 : ∀ x ∈ (["W", "0", "aZ9aZ9aZ9aZ9aZ9aZ9", "bbbbbbbbbbbbbbbbbbbb", "Zz"] : List Str), isWdTh (.str x) = true ∧ x.length ≤ 1000 := by decide +kernel
theorem rpA : (⟨(List.replicate 6 ("aZ9" : Str).cps.toList).flatten.toArray⟩ : Str) = "aZ9aZ9aZ9aZ9aZ9aZ9" := by decide +kernel
theorem rpB : (⟨(List.replicate 20 ("b" : Str).cps.toList).flatten.toArray⟩ : Str) = "bbbbbbbbbbbbbbbbbbbb" := by decide +kernel
theorem rpC : (∀ c ∈ ("Long one\n" : Str).cps.toList, goodS c) ∧ ("Long one\n" : Str).cps.toList.length = 9 := by decide +kernel
theorem pickV {K : PySem.W.Frag} {H : Hp} {l : Addr} {a b : V} {r : Int} {Q : VK} (h : H l = some (.lst [a, b])) (k : ∀ v : V, v = a ∨ v = b → Q v H) : rIxL K (.ref l) (.int (if decide (V.int r = V.int 0) = true then 1 else 0)) H Q := by
  by_cases hr : decide (V.int r = V.int 0) = true
  · rw [if_pos hr]
    exact ⟨l, _, _, b, rfl, rfl, SqL.of h, atI_nat (xs := [a, b]) (j := 1) rfl, k b (.inr rfl)⟩
  · rw [if_neg hr]
    exact ⟨l, _, _, a, rfl, rfl, SqL.of h, atI_zero _ _, k a (.inl rfl)⟩
theorem perm_out {xs : Nms} {i : Nat} (h : i < xs.length) : xs.Perm (xs[i] :: xs.eraseIdx i) := by
  have e : xs = xs.take i ++ xs[i] :: xs.drop (i + 1) := by
    rw [← List.drop_eq_getElem_cons h, List.take_append_drop]
  rw [List.eraseIdx_eq_take_drop_succ]
  conv => lhs; rw [e]
  exact List.perm_middle
theorem th_names {K : PySem.W.Frag} {H : Hp} {p : Addr} : ∀ {ms : Nms}, (∀ x ∈ ms, isNm ⟨x.toArray⟩ = true) → ∀ B, ThL K B H (ms.map mkT) (ms.map fun x => .str (sT x))
  | [], _, _ => trivial
  | x :: ms, h, B => ⟨th_mkT (Nat.le_trans (nm_len (h x (.head _))) (by decide)) B, th_names (p := p) (fun y hy => h y (.tail _ hy)) B⟩
theorem lk_of {ms : Nms} (h : ∀ x ∈ ms, isNm ⟨x.toArray⟩ = true) (h0 : 1 ≤ ms.length) (h1 : ms.length ≤ 8) : isLkTh (.tup (ms.map fun x => .str (sT x))) = true := by
  show (decide (1 ≤ _) && decide (_ ≤ 8) && _) = true
  rw [List.length_map, decide_eq_true h0, decide_eq_true h1, List.all_map, Bool.true_and, Bool.true_and, List.all_eq_true]
  intro x hx
  exact h x hx
theorem nms_of (ms : Nms) : nmsTh (.tup (ms.map fun x => .str (sT x))) = ms.map sT := by
  show (ms.map fun x => Th.str (sT x)).filterMap strTh = _
  rw [List.filterMap_map]
  induction ms with
  | nil => rfl
  | cons x ms ih => rw [List.filterMap_cons_some (show (strTh ∘ fun x => Th.str (sT x)) x = some (sT x) from rfl), ih, List.map_cons]
section
variable {P : Program} {w : World} {K : PySem.W.Frag} {mg : Str → Option Value} {base : Heap}
theorem scThing : FnScope ["_law_pot_here", "_law_names_here", "_law_sign", "_law_most", "_law_many"] ["_law_pot_here", "_law_names_here", "_law_sign"] (defScope sThing) := ⟨rfl, rfl, rfl, by decide +kernel, rfl, by decide +kernel, by decide +kernel⟩
theorem c_thing (h : Has K mg "_law_thing" sThing ["_law_pot_here", "_law_names_here", "_law_sign"]) (C_next : Cal P w K mg base "_law_next" 1 ["_law_pot_here", "_law_many"] spNext) (C_one_of : Cal P w K mg base "_law_one_of" 2 ["_law_pot_here", "_law_some"] spOneOf) (C_text : Cal P w K mg base "_law_text" 2 ["_law_pot_here"] spText) (C_taken : Cal P w K mg base "_law_taken" 2 ["_law_pot_here", "_law_names_here"] spTaken) (m_int : mg "int" = none) (m_tuple : mg "tuple" = none) (m_range : mg "range" = none) : Cal P w K mg base "_law_thing" 3 ["_law_pot_here", "_law_names_here", "_law_sign"] (spThing K) := by
  refine h.mk' scThing (fun vs H Q E hs => ?_) (fun f cdv A outer s H vs Q E hr hs => ?_)
  · obtain ⟨d, lo, l, xs, c, rfl, _⟩ := hs
    rfl
  obtain ⟨d, lo, l, xs, c, rfl, hp, hl, nd, nl, hx, hc, k⟩ := hs
  refine ⟨_, (pss_cons (ps_if (pt_cmpR op_eq (pv 2) pe_str (nomark _))
      (pss_cons (ps_set (i := 3) scThing.nd rfl (Or.inl rfl) (pe_ix ix_list (pe_lst (pa_cons pe_int (pa_cons pe_int (pa_cons (pe_op op_pow pe_int pe_int) pa_nil)))) (pe_cal C_next hr (by decide) rfl (pa_cons (pv 0) (pa_cons pe_int pa_nil))) (fun _ _ => rfl)))
    (pss_one (ps_ret (pe_cal C_one_of hr (by decide) rfl (pa_cons (pv 0) (pa_cons (pe_lst (pa_cons (pe_cal C_next hr (by decide) rfl (pa_cons (pv 0) (pa_cons (pv 3) pa_nil))) (pa_cons (pe_op op_sub (pe_op op_pow pe_int pe_int) (pe_cal C_next hr (by decide) rfl (pa_cons (pv 0) (pa_cons pe_int pa_nil)))) pa_nil))) pa_nil))))))
      pss_nil)
    (pss_cons (ps_if (pt_cmpR op_eq (pv 2) pe_str (nomark _))
      (pss_one (ps_ret (pe_cal C_next hr (by decide) rfl (pa_cons (pv 0) (pa_cons pe_int pa_nil)))))
      pss_nil)
    (pss_cons (ps_if (pt_cmpR op_eq (pv 2) pe_str (nomark _))
      (pss_one (ps_ret (pe_ix ix_list (pe_lst (pa_cons (pe_cal C_text hr (by decide) rfl (pa_cons (pv 0) pa_nil)) (pa_cons (pe_op op_mulS pe_str pe_int) pa_nil))) (pe_callTy call_int1 rfl m_int boot_int (pa_cons (pe_cmpR op_eq (pe_cal C_next hr (by decide) rfl (pa_cons (pv 0) (pa_cons pe_int pa_nil))) pe_int (nomark _)) pa_nil)) (fun _ _ => rfl))))
      pss_nil)
    (pss_cons (ps_if (pt_cmpR op_eq (pv 2) pe_str (nomark _))
      (pss_one (ps_ret (pe_cal C_one_of hr (by decide) rfl (pa_cons (pv 0) (pa_cons (pe_lst (pa_cons pe_str (pa_cons pe_str (pa_cons (pe_op op_mulS pe_str pe_int) (pa_cons (pe_op op_mulS pe_str pe_int) (pa_cons pe_str pa_nil)))))) pa_nil)))))
      pss_nil)
    (pss_cons (ps_if (pt_cmpR op_eq (pv 2) pe_str (nomark _))
      (pss_cons (ps_set (i := 4) scThing.nd rfl (Or.inl rfl) (pe_op op_add pe_int (pe_cal C_next hr (by decide) rfl (pa_cons (pv 0) (pa_cons (pe_ix ix_list (pe_lst (pa_cons pe_int (pa_cons pe_int pa_nil))) (pe_cal C_next hr (by decide) rfl (pa_cons (pv 0) (pa_cons pe_int pa_nil))) (fun _ _ => rfl)) pa_nil)))))
    (pss_one (ps_ret (pe_callTy call_tuple_of rfl m_tuple boot_tuple (pa_cons (pe_compL ["_law_pot_here", "_law_names_here", "_law_sign", "_law_most", "_law_many"] (defScope sThing) ["_law_pot_here", "_law_names_here", "_law_k"] [some 0, some 1, none] rfl rfl rfl (pi_range1 rfl m_range (pa_cons (pv 4) pa_nil)) rfl (by decide +kernel) (by decide +kernel) (by decide +kernel) (by decide +kernel) (hg := fun cl C s H ex pn E => (pg_name (i := 2) (by decide +kernel : (["_law_pot_here", "_law_names_here", "_law_k"] : List Str).Nodup) rfl (Or.inl rfl))) (ht := fun cl C s H ex pn E => pifs_nil) (he := fun cl C s H ex pn E => (pe_cal C_taken hr (by decide) rfl (pa_cons (pv 0) (pa_cons (pv 1) pa_nil))))) pa_nil)))))
      pss_nil)
    (pss_cons (ps_if (PW.pt (pw_and (pt_cmpR op_eq (pv 2) pe_str (nomark _)) (pw_and1 (pt_cmpR op_eq (pe_cal C_next hr (by decide) rfl (pa_cons (pv 0) (pa_cons pe_int pa_nil))) pe_int (nomark _)))))
      (pss_one (ps_ret pe_str))
      pss_nil)
    (pss_one (ps_ret (pe_cal C_one_of hr (by decide) rfl (pa_cons (pv 0) (pa_cons (pv 1) pa_nil))))))))))), ?_⟩
  -- what is no row of names leaves the names as they are
  have k0 : c ≠ 108 → ∀ (v : V) (t : Th) (H' : Hp), (∀ B, ThV K B H' v t) → kindTh (kindS c) t = true → PotAt d lo H' → Old d lo H H' → Q v H' := fun hne v t H' h1 h2 p' o' =>
    k v t [] xs H' h1 h2 (fun z => absurd z hne) (fun _ => rfl) (Nat.zero_le _) (List.Perm.refl _) (o' l _ hl nd nl) p' (Old3.of2 o')
  have e10 : (10 : Int) ^ (12 : Int).toNat = 1000000000000 := by decide
  refine ⟨_, rfl, rfl, _, rfl, ?_⟩
  rw [ez_sg (a := 116) (by decide +kernel)]
  refine ite2 (fun z => ?_) (fun z1 => ?_)
  · -- a moment
    have hc6 := of_decide_eq_true z
    refine ⟨_, _, rfl, rfl, ⟨by decide, by decide, by decide⟩, smn 3, fun l1 h1 => ?_⟩
    obtain ⟨n1d, n1l⟩ := hp.ne h1
    have t1 := same_new h1 (.lst [.int 1, .int 50, .int (10 ^ (12 : Int).toNat)])
    refine drawN (σ := [some (.ref d), some (.ref l), some (.str ⟨#[c]⟩), none, none]) (i := 0) (m := 3) rfl (hp.same t1) (by decide) (by decide) fun r H2 r0 r1 p2 o2 => ?_
    obtain ⟨y, hy, hm⟩ := atI_lt (xs := [V.int 1, V.int 50, V.int (10 ^ (12 : Int).toNat)]) r0 (by show r < 3; omega)
    have e2 := o2 l1 _ upd_same n1d n1l
    obtain ⟨m, rfl, hm0, hm1⟩ : ∃ m : Int, y = .int m ∧ 0 < m ∧ m ≤ 1000000000000 := by
      rw [e10] at hm
      simp only [List.mem_cons, List.not_mem_nil, or_false] at hm
      rcases hm with rfl | rfl | rfl <;> exact ⟨_, rfl, by decide, by decide⟩
    refine ⟨l1, _, r, _, rfl, rfl, SqL.of e2, hy, gN ?_⟩
    refine ⟨_, rfl, _, rfl, _, rfl, d, lo, m, rfl, p2, hm0, by omega, fun r3 H3 q0 q1 p3 o3 => ?_⟩
    refine ⟨_, _, rfl, rfl, ⟨by decide, by decide, by decide⟩, ?_⟩
    refine drawN (σ := [some (.ref d), some (.ref l), some (.str ⟨#[c]⟩), some (.int m), none]) (i := 0) (m := 3) rfl p3 (by decide) (by decide) fun r4 H4 w0 w1 p4 o4 => ?_
    refine ⟨_, _, rfl, rfl, smn 2, fun l5 h5 => ?_⟩
    obtain ⟨n5d, n5l⟩ := p4.ne h5
    have t5 := same_new h5 (.lst [.int r3, .int (10 ^ (12 : Int).toNat - r4)])
    refine ⟨d, lo, l5, _, rfl, p4.same t5, upd_same, n5d, n5l, by simp, by show 2 ≤ 1000; decide, fun i hi H6 p6 o6 => ?_⟩
    have oA : Old d lo H H6 := ((((Old.of t1).trans o2).trans o3).trans o4).trans ((Old.of t5).trans o6)
    obtain ⟨w, hw, hw0, hw1⟩ : ∃ w : Int, ([V.int r3, V.int (10 ^ (12 : Int).toNat - r4)] : List V)[i] = .int w ∧ 0 ≤ w ∧ w ≤ 1000000000000 := by
      match i, hi with
      | 0, _ => exact ⟨r3, rfl, q0, by omega⟩
      | 1, _ => exact ⟨_, rfl, by rw [e10]; omega, by rw [e10]; omega⟩
    rw [hw]
    refine k0 (by omega) _ (.int w) H6 (fun B => rfl) ?_ p6 oA
    rw [hc6, kn_num]
    show (decide (0 ≤ w) && decide (w ≤ 1000000000000)) = true
    rw [decide_eq_true hw0, decide_eq_true hw1]
    rfl
  have c6 : c ≠ 116 := fun e => z1 (decide_eq_true e)
  refine ⟨_, rfl, rfl, _, rfl, ?_⟩
  rw [ez_sg (a := 115) (by decide +kernel)]
  refine ite2 (fun z => ?_) (fun z2 => ?_)
  · -- a side
    have hc5 := of_decide_eq_true z
    refine drawN (σ := [some (.ref d), some (.ref l), some (.str ⟨#[c]⟩), none, none]) (i := 0) (m := 2) rfl hp (by decide) (by decide) fun r H2 r0 r1 p2 o2 => ?_
    refine k0 (by omega) _ (.int r) H2 (fun B => rfl) ?_ p2 o2
    rw [hc5, kn_side]
    show (decide (0 ≤ r) && decide (r ≤ 1)) = true
    rw [decide_eq_true r0, decide_eq_true (by omega)]
    rfl
  have c5 : c ≠ 115 := fun e => z2 (decide_eq_true e)
  refine ⟨_, rfl, rfl, _, rfl, ?_⟩
  rw [ez_sg (a := 120) (by decide +kernel)]
  refine ite2 (fun z => ?_) (fun z3 => ?_)
  · -- a text
    have hc0 := of_decide_eq_true z
    refine ⟨_, rfl, d, lo, rfl, hp, fun tx H2 htx gtx p2 o2 => ?_⟩
    refine ⟨("Long one\n" : Str).cps.toList, 100, congrArg V.str (str_self _), rfl, by decide, by rw [rpC.2]; decide, ?_⟩
    generalize hLT : (List.replicate 100 ("Long one\n" : Str).cps.toList).flatten = LT
    have gLT : LT.length = 900 ∧ ∀ c ∈ LT, goodS c := by
      subst hLT
      refine ⟨by rw [len_rep, rpC.2], fun c hc => rpC.1 c (mem_rep hc)⟩
    refine ⟨smn 2, fun l1 h1 => ?_⟩
    obtain ⟨n1d, n1l⟩ := p2.ne h1
    have t1 := same_new h1 (.lst [mkT tx, mkT LT])
    refine drawN (σ := [some (.ref d), some (.ref l), some (.str ⟨#[c]⟩), none, none]) (i := 0) (m := 8) rfl (p2.same t1) (by decide) (by decide) fun r H3 r0 r1 p3 o3 => ?_
    refine ⟨rfl, .inr ⟨_, rfl, pickV (o3 l1 _ upd_same n1d n1l) fun v hv => ?_⟩⟩
    have oA : Old d lo H H3 := (o2.trans (Old.of t1)).trans o3
    obtain ⟨y, rfl, hy1, hy2⟩ : ∃ y : List Nat, v = mkT y ∧ y.length ≤ 1000 ∧ ∀ c ∈ y, goodS c := by
      rcases hv with rfl | rfl
      · exact ⟨tx, rfl, by omega, gtx⟩
      · exact ⟨LT, rfl, by omega, gLT.2⟩
    refine k0 (by omega) _ (.str (sT y)) H3 (th_mkT hy1) ?_ p3 oA
    rw [hc0, kn_text]
    exact good_tx hy2
  have c0 : c ≠ 120 := fun e => z3 (decide_eq_true e)
  refine ⟨_, rfl, rfl, _, rfl, ?_⟩
  rw [ez_sg (a := 119) (by decide +kernel)]
  refine ite2 (fun z => ?_) (fun z4 => ?_)
  · -- a word
    have hc9 := of_decide_eq_true z
    refine ⟨_, rfl, ("aZ9" : Str).cps.toList, 6, congrArg V.str (str_self _), rfl, by decide, by decide +kernel, ?_⟩
    refine ⟨("b" : Str).cps.toList, 20, congrArg V.str (str_self _), rfl, by decide, by decide +kernel, ?_⟩
    refine ⟨smn 5, fun l1 h1 => ?_⟩
    rw [rpA, rpB]
    obtain ⟨n1d, n1l⟩ := hp.ne h1
    have t1 := same_new h1 (.lst ((["W", "0", "aZ9aZ9aZ9aZ9aZ9aZ9", "bbbbbbbbbbbbbbbbbbbb", "Zz"] : List Str).map V.str))
    have e1 : (upd H l1 (.lst ((["W", "0", "aZ9aZ9aZ9aZ9aZ9aZ9", "bbbbbbbbbbbbbbbbbbbb", "Zz"] : List Str).map V.str))) l1 = some (.lst ((["W", "0", "aZ9aZ9aZ9aZ9aZ9aZ9", "bbbbbbbbbbbbbbbbbbbb", "Zz"] : List Str).map V.str)) := upd_same
    have w5 := words5
    refine ⟨d, lo, l1, _, rfl, hp.same t1, e1, n1d, n1l, by simp, by show 5 ≤ 1000; decide, fun i hi H2 p2 o2 => ?_⟩
    have oB : Old d lo H H2 := (Old.of t1).trans o2
    generalize (["W", "0", "aZ9aZ9aZ9aZ9aZ9aZ9", "bbbbbbbbbbbbbbbbbbbb", "Zz"] : List Str) = ws at w5 hi
    have hi' : i < ws.length := by simpa using hi
    obtain ⟨g1, g2⟩ := w5 ws[i] (List.getElem_mem hi')
    rw [List.getElem_map]
    refine k0 (by omega) _ (.str ws[i]) H2 (fun B => ⟨rfl, g2⟩) ?_ p2 oB
    rw [hc9, kn_word]
    exact g1
  have c9 : c ≠ 119 := fun e => z4 (decide_eq_true e)
  refine ⟨_, rfl, rfl, _, rfl, ?_⟩
  rw [ez_sg (a := 108) (by decide +kernel)]
  refine ite2 (fun z => ?_) (fun z5 => ?_)
  · -- a row of names
    have hc8 := of_decide_eq_true z
    refine ⟨_, rfl, smn 2, fun l1 h1 => ?_⟩
    obtain ⟨n1d, n1l⟩ := hp.ne h1
    have t1 := same_new h1 (.lst [.int 3, .int 8])
    refine drawN (σ := [some (.ref d), some (.ref l), some (.str ⟨#[c]⟩), none, none]) (i := 0) (m := 2) rfl (hp.same t1) (by decide) (by decide) fun r H2 r0 r1 p2 o2 => ?_
    obtain ⟨y, hy, hm⟩ := atI_lt (xs := [V.int 3, V.int 8]) r0 (by show r < 2; omega)
    have e2 := o2 l1 _ upd_same n1d n1l
    obtain ⟨m, rfl, hm0, hm1⟩ : ∃ m : Int, y = .int m ∧ 0 < m ∧ m ≤ 8 := by
      simp only [List.mem_cons, List.not_mem_nil, or_false] at hm
      rcases hm with rfl | rfl <;> exact ⟨_, rfl, by decide, by decide⟩
    refine ⟨l1, _, r, _, rfl, rfl, SqL.of e2, hy, d, lo, m, rfl, p2, hm0, by omega, fun r3 H3 q0 q1 p3 o3 => ?_⟩
    obtain ⟨n, rfl⟩ := Int.eq_ofNat_of_zero_le q0
    have oA : Old d lo H H3 := ((Old.of t1).trans o2).trans o3
    have e3l : H3 l = some (.lst (xs.map mkT)) := oA l _ hl nd nl
    have hn8 : 1 + n ≤ 8 := by omega
    refine ⟨_, _, rfl, rfl, gN ?_⟩
    refine ⟨_, rfl, 1 + (n : Int), rfl, by omega, by omega, fun lc hlc => ?_⟩
    rw [show (1 + (n : Int)).toNat = 1 + n by omega]
    obtain ⟨ncd, ncl⟩ := p3.ne hlc
    have ncL : lc ≠ l := (ne_of_none e3l hlc).symm
    have hlcH : H lc = none := by
      cases hh : H lc with
      | none => rfl
      | some o' =>
        have := oA lc o' hh ncd ncl
        rw [hlc] at this
        cases this
    have hx2 := hx.lo
    refine comp_by (J := Itr 0 (1 + n)) (l := lc) (1 + n) (fun i σ' H' => ∃ (v : Option V) (ts rest : Nms), σ' = [some (.ref d), some (.ref l), v] ∧ H' lc = some (.lst (ts.map mkT)) ∧ H' l = some (.lst (rest.map mkT)) ∧ ts.length = i ∧ xs.Perm (ts ++ rest) ∧ PotAt d lo H' ∧ Old3 d lo l H H')
      ⟨none, [], xs, rfl, upd_same, (upd_ne ncL.symm).trans e3l, rfl, List.Perm.refl _, p3.new hlc, fun c o e h1 h2 h3 => same_new hlc _ _ _ (oA c o e h1 h2)⟩ ?_ ?_
    · rintro σ' H' ⟨v, ts, rest, rfl, e1, e2, hlt, hpm, p4, o4⟩
      refine ⟨Nat.le_refl _, lc, _, rfl, .inl ⟨SqL.of e1, fun q hq => ?_⟩⟩
      have sq := same_new hq (.tup (ts.map mkT))
      have hnm : ∀ x ∈ ts, isNm ⟨x.toArray⟩ = true := fun x hx' => hx.nm x (hpm.mem_iff.mpr (List.mem_append_left _ hx'))
      refine k (.ref q) (.tup (ts.map fun x => .str (sT x))) ts rest _ (fun B => ⟨q, _, rfl, SqT.of upd_same, th_names (p := q) hnm B⟩) ?_ (fun _ => nms_of ts) (fun z => absurd hc8 z) (by omega) hpm (sq _ _ e2) (p4.same sq) (o4.trans (Old3.of sq))
      rw [hc8, kn_names]
      exact lk_of hnm (by omega) (by omega)
    · rintro i σ' H' hi ⟨v, ts, rest, rfl, e1, e2, hlt, hpm, p4, o4⟩
      refine ⟨hi, ?_⟩
      rintro y H'' ⟨rfl, rfl⟩
      have hpl := hpm.length_eq
      rw [List.length_append] at hpl
      have hrne : rest ≠ [] := fun z => by
        rw [z, List.length_nil] at hpl
        omega
      have hx3 := hx.hi
      refine gN (yesT (iteT ?_))
      refine ⟨_, rfl, _, rfl, d, lo, l, rest, rfl, p4, e2, nd, nl, hrne, by omega, fun j hj H5 e5 p5 o5 => ?_⟩
      have e5c : H5 lc = some (.lst (ts.map mkT)) := o5 lc _ e1 ncd ncl ncL
      refine ⟨_, e5c, ?_, _, ts ++ [rest[j]], rest.eraseIdx j, rfl, ?_, (upd_ne ncL.symm).trans e5, by rw [List.length_append, hlt]; rfl, ?_, p5.upd ncd ncl, (o4.trans o5).free hlcH⟩
      · rw [List.length_map]
        exact small1000 (by omega)
      · rw [upd_same, List.map_append]
        rfl
      · refine hpm.trans ?_
        rw [List.append_assoc]
        exact (perm_out hj).append_left _
  have c8 : c ≠ 108 := fun e => z5 (decide_eq_true e)
  have names : ∀ H2 : Hp, PotAt d lo H2 → Old d lo H H2 → (c = 98 ∨ c = 110) → ∀ (i : Nat) (hi : i < (xs.map mkT).length) (H3 : Hp), PotAt d lo H3 → Old d lo H2 H3 → Q (xs.map mkT)[i] H3 := fun H2 p2 o2 hcc i hi H3 p3 o3 => by
    have hi' : i < xs.length := by simpa using hi
    have hnm := hx.nm xs[i] (List.getElem_mem hi')
    rw [List.getElem_map]
    refine k0 c8 _ (.str (sT xs[i])) H3 (th_mkT (Nat.le_trans (nm_len hnm) (by decide))) ?_ p3 (o2.trans o3)
    rcases hcc with e | e
    · rw [e, kn_behind]
      show (isNm (sT xs[i]) || _) = true
      rw [show isNm (sT xs[i]) = true from hnm, Bool.true_or]
    · rw [e, kn_name]
      exact hnm
  have hxl := hx.hi
  have hxne : xs.map mkT ≠ [] := fun z => by
    have := congrArg List.length z
    rw [List.length_map, List.length_nil] at this
    have := hx.lo
    omega
  refine ⟨_, rfl, rfl, _, rfl, ?_⟩
  rw [ez_sg (a := 98) (by decide +kernel)]
  refine ite2 (fun z => ?_) (fun z6 => ?_)
  · have hc98 := of_decide_eq_true z
    refine drawN (σ := [some (.ref d), some (.ref l), some (.str ⟨#[c]⟩), none, none]) (i := 0) (m := 3) rfl hp (by decide) (by decide) fun r H2 r0 r1 p2 o2 => ?_
    refine ⟨rfl, _, rfl, ?_⟩
    refine ite2 (fun y => ?_) (fun y => ?_)
    · refine k0 c8 _ (.str "") H2 (fun B => ⟨rfl, by decide +kernel⟩) ?_ p2 o2
      rw [hc98, kn_behind]
      decide +kernel
    · refine ⟨_, rfl, _, rfl, d, lo, l, _, rfl, p2, o2 l _ hl nd nl, nd, nl, hxne, by rw [List.length_map]; omega, names H2 p2 o2 (.inl hc98)⟩
  · have c98 : c ≠ 98 := fun e => z6 (decide_eq_true e)
    have hc110 : c = 110 := by
      unfold isSg at hc
      omega
    refine iteF ?_
    refine ⟨_, rfl, _, rfl, d, lo, l, _, rfl, hp, hl, nd, nl, hxne, by rw [List.length_map]; omega, names H hp (Old.refl _ _ _) (.inr hc110)⟩
end
mutual
theorem th_mono {K : PySem.W.Frag} {B B' : List Addr} {H : Hp} (hB : ∀ b ∈ B', b ∈ B) : ∀ {t : Th} {v : V}, ThV K B H v t → ThV K B' H v t
  | .non, _, h => h
  | .bl _, _, h => h
  | .int _, _, h => h
  | .str _, _, h => h
  | .tup ts, _, h => by
    obtain ⟨p, vs, rfl, hp, hd⟩ := h
    exact ⟨p, vs, rfl, hp, thl_mono hB hd⟩
  | .lst, _, h => by
    obtain ⟨p, vs, rfl, hb, hp⟩ := h
    exact ⟨p, vs, rfl, fun z => hb (hB _ z), hp⟩
  | .dct, _, h => by
    obtain ⟨p, vs, rfl, hb, hp⟩ := h
    exact ⟨p, vs, rfl, fun z => hb (hB _ z), hp⟩
theorem thl_mono {K : PySem.W.Frag} {B B' : List Addr} {H : Hp} (hB : ∀ b ∈ B', b ∈ B) : ∀ {ts : List Th} {vs : List V}, ThL K B H vs ts → ThL K B' H vs ts
  | [], [], _ => trivial
  | _ :: _, _ :: _, h => ⟨th_mono hB h.1, thl_mono hB h.2⟩
  | [], _ :: _, h => h.elim
  | _ :: _, [], h => h.elim
end
theorem old_still {d lo : Addr} {H H' : Hp} (hp : PotAt d lo H) (o : Old d lo H H') : ∀ (b : Addr) (u : HO), H b = some u → (∀ ys, u ≠ .lst ys) → (∀ ys, u ≠ .dK ys) → H' b = some u := fun b u e h1 h2 => by
  obtain ⟨cs, l, sd, m, e1, e2, r⟩ := hp
  exact o b _ e (ne_of e e1 (h2 _)) (ne_of e e2 (h1 _))
/-- one of some things, a draw behind -/
theorem pick_th {K : PySem.W.Frag} {d lo : Addr} {Hx H2 : Hp} {xs : List V} {ts : List Th} {P : Th → Prop} (hp : PotAt d lo Hx) (o : Old d lo Hx H2) (h : ThL K [d, lo] Hx xs ts) (hb : ∀ t ∈ ts, P t) {i : Nat} (hi : i < xs.length) : ∃ t, ThV K [] H2 xs[i] t ∧ P t := by
  obtain ⟨t, ht, hv⟩ := h.at_ (List.getElem?_eq_getElem hi)
  refine ⟨t, th_mono (B := [d, lo]) (fun b hb => by cases hb) (hv.keep (old_still hp o) fun b u hb e => o b u e (fun z => hb (z ▸ .head _)) (fun z => hb (z ▸ .tail _ (.head _)))), hb t (List.mem_of_getElem? ht)⟩
def Bad (c : Nat) (o t : Th) : Prop := (c ≠ 108 → kindTh (kindS c) t = false) ∧ (c = 108 → isLkTh t = false ∨ ¬ (nmsTh t).Nodup ∨ ∃ x, x ∈ nmsTh t ∧ x ∈ nmsTh o)
def spOdd (K : PySem.W.Frag) : Sp := fun vs H Q _ => ∃ (d lo : Addr) (v u : V) (t o : Th) (c : Nat), vs = [.ref d, v, u, .str ⟨#[c]⟩] ∧ PotAt d lo H ∧ isSg c ∧ (∀ B, ThV K B H v t) ∧ (∀ B, ThV K B H u o) ∧ kindTh (kindS c) t = true ∧ (c = 108 → isLkTh o = true) ∧
  ∀ (v' : V) (t' : Th) (H' : Hp), ThV K [] H' v' t' → Bad c o t' → PotAt d lo H' → Old d lo H H' → Q v' H'
theorem nin {d lo p : Addr} (h1 : p ≠ d) (h2 : p ≠ lo) : p ∉ [d, lo] := fun z => by
  simp only [List.mem_cons, List.not_mem_nil, or_false] at z
  rcases z with z | z
  · exact h1 z
  · exact h2 z
theorem rpD : (⟨(List.replicate 21 ("a" : Str).cps.toList).flatten.toArray⟩ : Str) = "aaaaaaaaaaaaaaaaaaaaa" := by decide +kernel
theorem badT : ∀ x ∈ (["1"] : List Str), x.length ≤ 1000 := by decide +kernel
theorem badS : ∀ x ∈ (["left", ""] : List Str), x.length ≤ 1000 := by decide +kernel
theorem badX : ∀ x ∈ (["\t", "a\tb"] : List Str), x.length ≤ 1000 ∧ isTxTh (.str x) = false := by decide +kernel
theorem badW : ∀ x ∈ (["", "aaaaaaaaaaaaaaaaaaaaa", "a b", "a-b", "x\n", "x\t"] : List Str), x.length ≤ 1000 ∧ isWdTh (.str x) = false := by decide +kernel
theorem badN : ∀ x ∈ (["A1", "abcdefghi", "a b", " ", "a\t"] : List Str), x.length ≤ 1000 ∧ isNm x = false ∧ x ≠ "" := by decide +kernel
theorem badL : ∀ x ∈ (["A", ""] : List Str), x.length ≤ 1000 ∧ isNm x = false := by decide +kernel
theorem len_a : ("a" : Str).length ≤ 1000 := by decide +kernel
theorem lk_tup1 {t : Th} (h : isLkTh t = true) : ∃ a ts, t = .tup (a :: ts) ∧ ts.length ≤ 7 ∧ isNmTh a = true ∧ ts.all isNmTh = true := by
  obtain ⟨ts, rfl, h1, h2⟩ := lk_tup h
  cases ts with
  | nil => cases h
  | cons a ts =>
    rw [List.all_cons, Bool.and_eq_true] at h2
    exact ⟨a, ts, rfl, by simpa using h1, h2.1, h2.2⟩
theorem nm_str {a : Th} (h : isNmTh a = true) : ∃ x, a = .str x := by
  cases a with
  | str x => exact ⟨x, rfl⟩
  | _ => cases h
theorem th_nine {K : PySem.W.Frag} {B : List Addr} {H : Hp} : ∀ (cs : List Nat), ThL K B H (cs.map fun c => V.str ("q" ++ ⟨#[c]⟩)) (cs.map fun c => Th.str ("q" ++ ⟨#[c]⟩))
  | [] => trivial
  | c :: cs => ⟨⟨rfl, by show (("q" : Str).cps ++ #[c]).size ≤ 1000; rw [Array.size_append]; exact (by decide : 2 ≤ 1000)⟩, th_nine cs⟩
theorem cut_upto {vs : List V} {n : Nat} : cutV vs none (some (n : Int)) = vs.take n := by
  unfold cutV
  rw [HT.sIx_none, HT.sIx_nat, List.drop_zero, Nat.sub_zero]
  rcases Nat.le_total n vs.length with h | h
  · rw [show min n vs.length = n by omega]
  · rw [show min n vs.length = vs.length by omega, List.take_length, List.take_of_length_le h]
theorem dup_not {x : Str} {xs : List Str} (h : x ∈ xs) (ys : List Str) : ¬ (xs ++ x :: ys).Nodup := fun z => by
  rw [List.nodup_append] at z
  exact z.2.2 x h x (.head _) rfl
theorem fm_cons {a : Th} {x : Str} {ts : List Th} (h : a = .str x) : (a :: ts).filterMap strTh = x :: ts.filterMap strTh := by
  rw [h]
  exact List.filterMap_cons_some rfl
section
variable {P : Program} {w : World} {K : PySem.W.Frag} {mg : Str → Option Value} {base : Heap}
theorem scOdd : FnScope ["_law_pot_here", "_law_thing_here", "_law_other", "_law_sign", "_law_nine", "_law_some"] ["_law_pot_here", "_law_thing_here", "_law_other", "_law_sign"] (defScope sOdd) := ⟨rfl, rfl, rfl, by decide +kernel, rfl, by decide +kernel, by decide +kernel⟩
theorem c_odd (h : Has K mg "_law_odd" sOdd ["_law_pot_here", "_law_thing_here", "_law_other", "_law_sign"]) (C_one_of : Cal P w K mg base "_law_one_of" 2 ["_law_pot_here", "_law_some"] spOneOf) (m_tuple : mg "tuple" = none) (m_list : mg "list" = none) (m_int : mg "int" = none) : Cal P w K mg base "_law_odd" 3 ["_law_pot_here", "_law_thing_here", "_law_other", "_law_sign"] (spOdd K) := by
  refine h.mk' scOdd (fun vs H Q E hs => ?_) (fun f cdv A outer s H vs Q E hr hs => ?_)
  · obtain ⟨d, lo, v, u, t, o, c, rfl, _⟩ := hs
    rfl
  obtain ⟨d, lo, v, u, t, o, c, rfl, hp, hc, hv, hu, hk, hok, k⟩ := hs
  refine qex ⟨_, (qss_cons (qs_if (pt_cmpR op_eq (pv 3) pe_str (nomark _))
      (qss_one (qs_ret (qe_cal C_one_of hr (by decide) rfl (qa_c ⟨(pv 0)⟩ (qa_c (qe_lst (qa_c ⟨pe_bl⟩ (qa_c ⟨(pe_un un_neg pe_int)⟩ (qa_c ⟨(pe_op op_add (pe_op op_pow pe_int pe_int) pe_int)⟩ (qa_c ⟨pe_non⟩ (qa_c ⟨pe_str⟩ (qa_c ⟨(pe_tup (pa_cons pe_int pa_nil))⟩ qa_nil))))))) qa_nil)))))
      ⟨pss_nil⟩)
    (qss_cons (qs_if (pt_cmpR op_eq (pv 3) pe_str (nomark _))
      (qss_one (qs_ret (qe_cal C_one_of hr (by decide) rfl (qa_c ⟨(pv 0)⟩ (qa_c (qe_lst (qa_c ⟨pe_int⟩ (qa_c ⟨(pe_un un_neg pe_int)⟩ (qa_c ⟨pe_bl⟩ (qa_c ⟨pe_bl⟩ (qa_c ⟨pe_non⟩ (qa_c ⟨pe_str⟩ (qa_c ⟨pe_str⟩ qa_nil)))))))) qa_nil)))))
      ⟨pss_nil⟩)
    (qss_cons (qs_if (pt_cmpR op_eq (pv 3) pe_str (nomark _))
      (qss_one (qs_ret (qe_cal C_one_of hr (by decide) rfl (qa_c ⟨(pv 0)⟩ (qa_c (qe_lst (qa_c ⟨pe_non⟩ (qa_c ⟨pe_int⟩ (qa_c ⟨(pe_tup (pa_cons pe_str pa_nil))⟩ (qa_c ⟨pe_bl⟩ (qa_c ⟨pe_str⟩ (qa_c ⟨pe_str⟩ (qa_c ⟨(pe_lst (pa_cons pe_str pa_nil))⟩ qa_nil)))))))) qa_nil)))))
      ⟨pss_nil⟩)
    (qss_cons (qs_if (pt_cmpR op_eq (pv 3) pe_str (nomark _))
      (qss_one (qs_ret (qe_cal C_one_of hr (by decide) rfl (qa_c ⟨(pv 0)⟩ (qa_c (qe_lst (qa_c ⟨pe_str⟩ (qa_c ⟨(pe_op op_mulS pe_str pe_int)⟩ (qa_c ⟨pe_str⟩ (qa_c ⟨pe_str⟩ (qa_c ⟨pe_non⟩ (qa_c ⟨pe_int⟩ (qa_c ⟨(pe_tup (pa_cons pe_str pa_nil))⟩ (qa_c ⟨pe_str⟩ (qa_c ⟨pe_str⟩ qa_nil)))))))))) qa_nil)))))
      ⟨pss_nil⟩)
    (qss_cons (qs_if (pt_cmpR op_eq (pv 3) pe_str (nomark _))
      (qss_cons ⟨(ps_set (i := 4) scOdd.nd rfl (Or.inl rfl) (pe_callTy call_tuple_of rfl m_tuple boot_tuple (pa_cons (pe_compL ["_law_pot_here", "_law_thing_here", "_law_other", "_law_sign", "_law_nine", "_law_some"] (defScope sOdd) ["_law_letter"] [none] rfl rfl rfl (pi_str pe_str) rfl (by decide +kernel) (by decide +kernel) (by decide +kernel) (by decide +kernel) (hg := fun cl C s H ex pn E => (pg_name (i := 0) (by decide +kernel : (["_law_letter"] : List Str).Nodup) rfl (Or.inl rfl))) (ht := fun cl C s H ex pn E => pifs_nil) (he := fun cl C s H ex pn E => (pe_op op_add_str pe_str (pv 0)))) pa_nil)))⟩
    (qss_cons (qs_set (i := 5) scOdd.nd rfl (Or.inl rfl) (qe_lst (qa_c ⟨(pe_tup pa_nil)⟩ (qa_c ⟨(pe_callTy call_list_of rfl m_list boot_list (pa_cons (pv 1) pa_nil))⟩ (qa_c ⟨(pe_op op_catT3 (pv 1) (pe_slice sl_tup3 (pv 1) po_none (po_some pe_int)))⟩ (qa_c ⟨(pv 4)⟩ (qa_c ⟨pe_str⟩ (qa_c ⟨pe_non⟩ (qa_c ⟨(pe_tup (pa_cons pe_str pa_nil))⟩ (qa_c ⟨(pe_tup (pa_cons pe_str pa_nil))⟩ (qa_c ⟨(pe_tup (pa_cons pe_non pa_nil))⟩ qa_nil)))))))))))
    (qss_cons (qs_set (i := 5) scOdd.nd rfl (Or.inl rfl) (qe_op op_cat ⟨(pv 5)⟩ (qe_lst (qa_c ⟨(pe_ix ix_tup (pv 1) pe_int (fun _ _ => rfl))⟩ (qa_c ⟨(pe_op op_catT3 (pe_slice sl_tup3 (pv 1) po_none (po_some pe_int)) (pe_slice sl_tup3 (pv 2) po_none (po_some pe_int)))⟩ (qa_c ⟨(pe_tup (pa_cons (pe_ix ix_tup (pv 1) pe_int (fun _ _ => rfl)) (pa_cons pe_int pa_nil)))⟩ (qa_c ⟨(pe_tup (pa_cons (pe_lst pa_nil) pa_nil))⟩ qa_nil)))))))
    (qss_one ⟨(ps_ret (pe_cal C_one_of hr (by decide) rfl (pa_cons (pv 0) (pa_cons (pv 5) pa_nil))))⟩))))
      ⟨pss_nil⟩)
    (qss_cons (qs_set (i := 5) scOdd.nd rfl (Or.inl rfl) (qe_lst (qa_c ⟨pe_non⟩ (qa_c ⟨pe_str⟩ (qa_c ⟨pe_str⟩ (qa_c ⟨pe_int⟩ (qa_c ⟨(pe_tup (pa_cons pe_str pa_nil))⟩ (qa_c ⟨pe_bl⟩ (qa_c ⟨pe_str⟩ (qa_c ⟨pe_str⟩ (qa_c ⟨pe_str⟩ qa_nil)))))))))))
    (qss_one ⟨(ps_ret (pe_cal C_one_of hr (by decide) rfl (pa_cons (pv 0) (pa_cons (pe_op op_cat (pv 5) (pe_op op_rep (pe_lst (pa_cons pe_str pa_nil)) (pe_callTy call_int1 rfl m_int boot_int (pa_cons (pe_cmpR op_eq (pv 3) pe_str (nomark _)) pa_nil)))) pa_nil))))⟩))))))), ?_⟩
  have e10 : (10 : Int) ^ (12 : Int).toNat = 1000000000000 := by decide
  refine ⟨_, rfl, rfl, _, rfl, ?_⟩
  rw [ez_sg (a := 116) (by decide +kernel)]
  refine ite2 (fun z => ?_) (fun z1 => ?_)
  · -- no moment
    have hc6 := of_decide_eq_true z
    refine ⟨_, rfl, _, rfl, _, _, rfl, rfl, ⟨by decide, by decide, by decide⟩, _, _, rfl, rfl, smn 1, fun a1 h1 => ⟨smn 6, fun l1 hl1 => ?_⟩⟩
    have t1 := same_new h1 (.tup [.int 1])
    have p1 := hp.same t1
    obtain ⟨n1d, n1l⟩ := p1.ne hl1
    have t2 := same_new hl1 (.lst [.bl true, .int (-1), .int (10 ^ (12 : Int).toNat + 1), .non, .str "1", .ref a1])
    have hth : ThL K [d, lo] (upd (upd H a1 (.tup [.int 1])) l1 (.lst [.bl true, .int (-1), .int (10 ^ (12 : Int).toNat + 1), .non, .str "1", .ref a1])) [.bl true, .int (-1), .int (10 ^ (12 : Int).toNat + 1), .non, .str "1", .ref a1] [.bl true, .int (-1), .int (10 ^ (12 : Int).toNat + 1), .non, .str "1", .tup [.int 1]] :=
      ⟨rfl, rfl, rfl, rfl, ⟨rfl, badT _ (.head _)⟩, ⟨a1, _, rfl, SqT.of (t2 _ _ upd_same), rfl, trivial⟩, trivial⟩
    refine ⟨d, lo, l1, _, rfl, p1.same t2, upd_same, n1d, n1l, by simp, by show 6 ≤ 1000; decide, fun i hi H2 p2 o2 => ?_⟩
    obtain ⟨t', h1', h2'⟩ := pick_th (P := fun t => isMomTh t = false) (p1.same t2) o2 hth (fun t ht => by
      rw [e10] at ht
      simp only [List.mem_cons, List.not_mem_nil, or_false] at ht
      rcases ht with rfl | rfl | rfl | rfl | rfl | rfl <;> rfl) hi
    refine k _ t' H2 h1' ⟨fun _ => by rw [hc6, kn_num]; exact h2', fun e => absurd (hc6.symm.trans e) (by decide)⟩ p2 (((Old.of t1).trans (Old.of t2)).trans o2)
  have c6 : c ≠ 116 := fun e => z1 (decide_eq_true e)
  refine ⟨_, rfl, rfl, _, rfl, ?_⟩
  rw [ez_sg (a := 115) (by decide +kernel)]
  refine ite2 (fun z => ?_) (fun z2 => ?_)
  · -- no side
    have hc5 := of_decide_eq_true z
    refine ⟨_, rfl, _, rfl, smn 7, fun l1 hl1 => ?_⟩
    obtain ⟨n1d, n1l⟩ := hp.ne hl1
    have t2 := same_new hl1 (.lst [.int 2, .int (-1), .bl true, .bl false, .non, .str "left", .str ""])
    have hth : ThL K [d, lo] (upd H l1 (.lst [.int 2, .int (-1), .bl true, .bl false, .non, .str "left", .str ""])) [.int 2, .int (-1), .bl true, .bl false, .non, .str "left", .str ""] [.int 2, .int (-1), .bl true, .bl false, .non, .str "left", .str ""] :=
      ⟨rfl, rfl, rfl, rfl, rfl, ⟨rfl, badS _ (.head _)⟩, ⟨rfl, badS _ (.tail _ (.head _))⟩, trivial⟩
    refine ⟨d, lo, l1, _, rfl, hp.same t2, upd_same, n1d, n1l, by simp, by show 7 ≤ 1000; decide, fun i hi H2 p2 o2 => ?_⟩
    obtain ⟨t', h1', h2'⟩ := pick_th (P := fun t => isSideTh t = false) (hp.same t2) o2 hth (fun t ht => by
      simp only [List.mem_cons, List.not_mem_nil, or_false] at ht
      rcases ht with rfl | rfl | rfl | rfl | rfl | rfl | rfl <;> rfl) hi
    refine k _ t' H2 h1' ⟨fun _ => by rw [hc5, kn_side]; exact h2', fun e => absurd (hc5.symm.trans e) (by decide)⟩ p2 ((Old.of t2).trans o2)
  have c5 : c ≠ 115 := fun e => z2 (decide_eq_true e)
  refine ⟨_, rfl, rfl, _, rfl, ?_⟩
  rw [ez_sg (a := 120) (by decide +kernel)]
  refine ite2 (fun z => ?_) (fun z3 => ?_)
  · -- no text
    have hc0 := of_decide_eq_true z
    refine ⟨_, rfl, smn 1, fun a1 h1 => ⟨smn 1, fun a2 h2 => ⟨smn 7, fun l1 hl1 => ?_⟩⟩⟩
    have t1 := same_new h1 (.tup [.str "a"])
    have t2 := same_new h2 (.lst [.str "a"])
    have p1 := hp.same t1
    have p2' := p1.same t2
    obtain ⟨m1d, m1l⟩ := p1.ne h2
    obtain ⟨n1d, n1l⟩ := p2'.ne hl1
    have t3 := same_new hl1 (.lst [.non, .int 5, .ref a1, .bl true, .str "\t", .str "a\tb", .ref a2])
    have hth : ThL K [d, lo] (upd (upd (upd H a1 (.tup [.str "a"])) a2 (.lst [.str "a"])) l1 (.lst [.non, .int 5, .ref a1, .bl true, .str "\t", .str "a\tb", .ref a2])) [.non, .int 5, .ref a1, .bl true, .str "\t", .str "a\tb", .ref a2] [.non, .int 5, .tup [.str "a"], .bl true, .str "\t", .str "a\tb", .lst] :=
      ⟨rfl, rfl, ⟨a1, _, rfl, SqT.of (t3 _ _ (t2 _ _ upd_same)), ⟨rfl, len_a⟩, trivial⟩, rfl, ⟨rfl, (badX _ (.head _)).1⟩, ⟨rfl, (badX _ (.tail _ (.head _))).1⟩, ⟨a2, _, rfl, nin m1d m1l, t3 _ _ upd_same⟩, trivial⟩
    refine ⟨d, lo, l1, _, rfl, p2'.same t3, upd_same, n1d, n1l, by simp, by show 7 ≤ 1000; decide, fun i hi H2 p2 o2 => ?_⟩
    obtain ⟨t', h1', h2'⟩ := pick_th (P := fun t => isTxTh t = false) (p2'.same t3) o2 hth (fun t ht => by
      simp only [List.mem_cons, List.not_mem_nil, or_false] at ht
      rcases ht with rfl | rfl | rfl | rfl | rfl | rfl | rfl
      · rfl
      · rfl
      · rfl
      · rfl
      · exact (badX _ (.head _)).2
      · exact (badX _ (.tail _ (.head _))).2
      · rfl) hi
    refine k _ t' H2 h1' ⟨fun _ => by rw [hc0, kn_text]; exact h2', fun e => absurd (hc0.symm.trans e) (by decide)⟩ p2 ((((Old.of t1).trans (Old.of t2)).trans (Old.of t3)).trans o2)
  have c0 : c ≠ 120 := fun e => z3 (decide_eq_true e)
  refine ⟨_, rfl, rfl, _, rfl, ?_⟩
  rw [ez_sg (a := 119) (by decide +kernel)]
  refine ite2 (fun z => ?_) (fun z4 => ?_)
  · -- no word
    have hc9 := of_decide_eq_true z
    refine ⟨_, rfl, ("a" : Str).cps.toList, 21, congrArg V.str (str_self _), rfl, by decide, by decide +kernel, ?_⟩
    rw [rpD]
    refine ⟨smn 1, fun a1 h1 => ⟨smn 9, fun l1 hl1 => ?_⟩⟩
    have t1 := same_new h1 (.tup [.str "a"])
    have p1 := hp.same t1
    obtain ⟨n1d, n1l⟩ := p1.ne hl1
    have t3 := same_new hl1 (.lst [.str "", .str "aaaaaaaaaaaaaaaaaaaaa", .str "a b", .str "a-b", .non, .int 5, .ref a1, .str "x\n", .str "x\t"])
    have b := badW
    have hth : ThL K [d, lo] (upd (upd H a1 (.tup [.str "a"])) l1 (.lst [.str "", .str "aaaaaaaaaaaaaaaaaaaaa", .str "a b", .str "a-b", .non, .int 5, .ref a1, .str "x\n", .str "x\t"])) [.str "", .str "aaaaaaaaaaaaaaaaaaaaa", .str "a b", .str "a-b", .non, .int 5, .ref a1, .str "x\n", .str "x\t"] [.str "", .str "aaaaaaaaaaaaaaaaaaaaa", .str "a b", .str "a-b", .non, .int 5, .tup [.str "a"], .str "x\n", .str "x\t"] :=
      ⟨⟨rfl, (b _ (by simp)).1⟩, ⟨rfl, (b _ (by simp)).1⟩, ⟨rfl, (b _ (by simp)).1⟩, ⟨rfl, (b _ (by simp)).1⟩, rfl, rfl, ⟨a1, _, rfl, SqT.of (t3 _ _ upd_same), ⟨rfl, len_a⟩, trivial⟩, ⟨rfl, (b _ (by simp)).1⟩, ⟨rfl, (b _ (by simp)).1⟩, trivial⟩
    refine ⟨d, lo, l1, _, rfl, p1.same t3, upd_same, n1d, n1l, by simp, by show 9 ≤ 1000; decide, fun i hi H2 p2 o2 => ?_⟩
    obtain ⟨t', h1', h2'⟩ := pick_th (P := fun t => isWdTh t = false) (p1.same t3) o2 hth (fun t ht => by
      simp only [List.mem_cons, List.not_mem_nil, or_false] at ht
      rcases ht with rfl | rfl | rfl | rfl | rfl | rfl | rfl | rfl | rfl
      · exact (b _ (by simp)).2
      · exact (b _ (by simp)).2
      · exact (b _ (by simp)).2
      · exact (b _ (by simp)).2
      · rfl
      · rfl
      · rfl
      · exact (b _ (by simp)).2
      · exact (b _ (by simp)).2) hi
    refine k _ t' H2 h1' ⟨fun _ => by rw [hc9, kn_word]; exact h2', fun e => absurd (hc9.symm.trans e) (by decide)⟩ p2 (((Old.of t1).trans (Old.of t3)).trans o2)
  have c9 : c ≠ 119 := fun e => z4 (decide_eq_true e)
  refine ⟨_, rfl, rfl, _, rfl, ?_⟩
  rw [ez_sg (a := 108) (by decide +kernel)]
  refine ite2 (fun z => ?_) (fun z5 => ?_)
  · -- no row of names, or one of names twice
    have hc8 := of_decide_eq_true z
    rw [hc8, kn_names] at hk
    obtain ⟨a0, ts, et, hl7, ha0, hts⟩ := lk_tup1 hk
    obtain ⟨b0, os, eo, ol7, hb0, hos⟩ := lk_tup1 (hok hc8)
    obtain ⟨x0, ex0⟩ := nm_str ha0
    obtain ⟨y0, ey0⟩ := nm_str hb0
    have hv' := hv [d, lo]
    have hu' := hu [d, lo]
    rw [et] at hv'
    rw [eo] at hu'
    obtain ⟨p, vs, ev, hpq, hd⟩ := hv'
    obtain ⟨po, us, eu, hpo, hdo⟩ := hu'
    have hvl := hd.len
    have hol := hdo.len
    rw [List.length_cons] at hvl hol
    obtain ⟨v0, vr, evs⟩ : ∃ v0 vr, vs = v0 :: vr := by
      cases vs with
      | nil => cases hvl
      | cons a b => exact ⟨a, b, rfl⟩
    have at0 : atI vs 0 = some v0 := by rw [evs]; exact atI_zero _ _
    have hv0 : ThV K [d, lo] H v0 a0 := by rw [evs] at hd; exact hd.1
    refine ⟨_, rfl, fun lc hlc => ?_⟩
    refine comp_by (J := Its "abcdefghi") (l := lc) ("abcdefghi" : Str).cps.size (fun i σ' H' => ∃ v : Option V, σ' = [v] ∧ H' = upd H lc (.lst ((("abcdefghi" : Str).cps.toList.take i).map fun c => V.str ("q" ++ ⟨#[c]⟩)))) ⟨none, rfl, rfl⟩ ?_ ?_
    · rintro σ' H' ⟨v', rfl, rfl⟩
      rw [take_whole]
      have w1 := same_new hlc (.lst ((("abcdefghi" : Str).cps.toList).map fun c => V.str ("q" ++ ⟨#[c]⟩)))
      refine ⟨Nat.le_refl _, lc, _, rfl, .inl ⟨SqL.of upd_same, fun q9 hq9 => gN ?_⟩⟩
      have w2 := same_new hq9 (.tup ((("abcdefghi" : Str).cps.toList).map fun c => V.str ("q" ++ ⟨#[c]⟩)))
      have e9 : (upd (upd H lc (.lst ((("abcdefghi" : Str).cps.toList).map fun c => V.str ("q" ++ ⟨#[c]⟩)))) q9 (.tup ((("abcdefghi" : Str).cps.toList).map fun c => V.str ("q" ++ ⟨#[c]⟩)))) q9 = some (.tup ((("abcdefghi" : Str).cps.toList).map fun c => V.str ("q" ++ ⟨#[c]⟩))) := upd_same
      have s1 := w1.trans w2
      have hn9 : (("abcdefghi" : Str).cps.toList).length = 9 := by decide +kernel
      generalize upd (upd H lc (.lst ((("abcdefghi" : Str).cps.toList).map fun c => V.str ("q" ++ ⟨#[c]⟩)))) q9 (.tup ((("abcdefghi" : Str).cps.toList).map fun c => V.str ("q" ++ ⟨#[c]⟩))) = H1 at s1 e9
      generalize ("abcdefghi" : Str).cps.toList = cs at e9 hn9
      clear w1 w2
      -- the first row of things
      refine ⟨smn 0, fun a1 h1 => ?_⟩
      have s2 := s1.trans (same_new h1 (.tup []))
      have ea1 : (upd H1 a1 (.tup [])) a1 = some (.tup []) := upd_same
      have e9b := (same_new h1 (.tup [])) _ _ e9
      generalize upd H1 a1 (.tup []) = H2 at s2 ea1 e9b
      refine ⟨_, rfl, p, _, congrArg (fun x => [x]) ev, .inr (stT s2 hpq), fun l2 hl2 => ?_⟩
      obtain ⟨m2d, m2l⟩ := (hp.same s2).ne hl2
      have x3 := same_new hl2 (.lst vs)
      have s3 := s2.trans x3
      have el2 : (upd H2 l2 (.lst vs)) l2 = some (.lst vs) := upd_same
      have ea1' := x3 _ _ ea1
      have e9c := x3 _ _ e9b
      generalize upd H2 l2 (.lst vs) = H3 at s3 el2 ea1' e9c
      refine ⟨_, rfl, _, rfl, _, rfl, p, vs, ev, stT s3 hpq, fun p4 H4 x4 e4 => ?_⟩
      have ec4 : cutV vs none (some 1) = vs.take 1 := cut_upto (n := 1)
      rw [ec4] at e4
      have s4 := s3.trans x4
      refine ⟨p, p4, vs, _, ev, rfl, stT s4 hpq, e4, small (by rw [List.length_take]; omega), fun p5 H5 x5 e5 => ?_⟩
      have s5 := s4.trans x5
      refine ⟨_, rfl, smn 1, fun a6 h6 => ⟨smn 1, fun a7 h7 => ⟨smn 1, fun a8 h8 => ⟨smn 9, fun l9 hl9 => gN ?_⟩⟩⟩⟩
      have y6 := same_new h6 (.tup [.str "A"])
      have y7 := same_new h7 (.tup [.str ""])
      have y8 := same_new h8 (.tup [.non])
      have y9 := same_new hl9 (.lst [.ref a1, .ref l2, .ref p5, .ref q9, .str "abc", .non, .ref a6, .ref a7, .ref a8])
      have y89 := y8.trans y9
      have y79 := y7.trans y89
      have y69 := y6.trans y79
      have f6 := y79 _ _ (upd_same (H := H5) (a := a6) (o := .tup [.str "A"]))
      have f7 := y89 _ _ (upd_same (H := upd H5 a6 (.tup [.str "A"])) (a := a7) (o := .tup [.str ""]))
      have f8 := y9 _ _ (upd_same (H := upd (upd H5 a6 (.tup [.str "A"])) a7 (.tup [.str ""])) (a := a8) (o := .tup [.non]))
      have f9 : (upd (upd (upd (upd H5 a6 (.tup [.str "A"])) a7 (.tup [.str ""])) a8 (.tup [.non])) l9 (.lst [.ref a1, .ref l2, .ref p5, .ref q9, .str "abc", .non, .ref a6, .ref a7, .ref a8])) l9 = some (.lst [.ref a1, .ref l2, .ref p5, .ref q9, .str "abc", .non, .ref a6, .ref a7, .ref a8]) := upd_same
      generalize upd (upd (upd (upd H5 a6 (.tup [.str "A"])) a7 (.tup [.str ""])) a8 (.tup [.non])) l9 (.lst [.ref a1, .ref l2, .ref p5, .ref q9, .str "abc", .non, .ref a6, .ref a7, .ref a8]) = H9 at y69 f6 f7 f8 f9
      clear y6 y7 y8 y9 y89 y79
      have s9 := s5.trans y69
      have z35 := (x4.trans x5).trans y69
      have g1 := z35 _ _ ea1'
      have g2 := z35 _ _ el2
      have g3 := z35 _ _ e9c
      have g5 := stT y69 e5
      -- the second one
      refine ⟨_, rfl, _, rfl, p, _, _, _, ev, rfl, stT s9 hpq, at0, _, rfl, _, rfl, p, vs, ev, stT s9 hpq, fun p10 H10 x10 e10' => ?_⟩
      have ec10 : cutV vs none (some 7) = vs.take 7 := cut_upto (n := 7)
      rw [ec10] at e10'
      have s10 := s9.trans x10
      refine ⟨_, rfl, _, rfl, po, us, eu, stT s10 hpo, fun p11 H11 x11 e11 => ?_⟩
      have ec11 : cutV us none (some 1) = us.take 1 := cut_upto (n := 1)
      rw [ec11] at e11
      have s11 := s10.trans x11
      refine ⟨p10, p11, _, _, rfl, rfl, stT x11 e10', e11, small (by rw [List.length_take, List.length_take]; omega), fun p12 H12 x12 e12 => ?_⟩
      have s12 := s11.trans x12
      refine ⟨_, rfl, p, _, _, _, ev, rfl, stT s12 hpq, at0, smn 2, fun a13 h13 => ⟨smn 0, fun l14 hl14 => ⟨smn 1, fun a15 h15 => ⟨smn 4, fun l16 hl16 => ?_⟩⟩⟩⟩
      have y13 := same_new h13 (.tup [v0, .int 7])
      obtain ⟨m14d, m14l⟩ := ((hp.same s12).same y13).ne hl14
      have y14 := same_new hl14 (.lst [])
      have y15 := same_new h15 (.tup [.ref l14])
      have y16 := same_new hl16 (.lst [v0, .ref p12, .ref a13, .ref a15])
      have f13 := y16 _ _ (y15 _ _ (y14 _ _ (upd_same (H := H12) (a := a13) (o := .tup [v0, .int 7]))))
      have f14 := y16 _ _ (y15 _ _ (upd_same (H := upd H12 a13 (.tup [v0, .int 7])) (a := l14) (o := .lst [])))
      have f15 := y16 _ _ (upd_same (H := upd (upd H12 a13 (.tup [v0, .int 7])) l14 (.lst [])) (a := a15) (o := .tup [.ref l14]))
      have f16 : (upd (upd (upd (upd H12 a13 (.tup [v0, .int 7])) l14 (.lst [])) a15 (.tup [.ref l14])) l16 (.lst [v0, .ref p12, .ref a13, .ref a15])) l16 = some (.lst [v0, .ref p12, .ref a13, .ref a15]) := upd_same
      have z16 := ((y13.trans y14).trans y15).trans y16
      generalize upd (upd (upd (upd H12 a13 (.tup [v0, .int 7])) l14 (.lst [])) a15 (.tup [.ref l14])) l16 (.lst [v0, .ref p12, .ref a13, .ref a15]) = H16 at z16 f13 f14 f15 f16
      clear y13 y14 y15 y16
      have z9 := ((x10.trans x11).trans x12).trans z16
      refine ⟨l9, l16, _, _, rfl, rfl, z9 _ _ f9, f16, smn 13, fun l17 hl17 => gN ?_⟩
      have y17 := same_new hl17 (.lst [.ref a1, .ref l2, .ref p5, .ref q9, .str "abc", .non, .ref a6, .ref a7, .ref a8, v0, .ref p12, .ref a13, .ref a15])
      have s16 := s12.trans z16
      have s17 := s16.trans y17
      have p16 := hp.same s16
      obtain ⟨n17d, n17l⟩ := p16.ne hl17
      have q9' := z9.trans y17
      have q12 := z16.trans y17
      have hth : ThL K [d, lo] (upd H16 l17 (.lst [.ref a1, .ref l2, .ref p5, .ref q9, .str "abc", .non, .ref a6, .ref a7, .ref a8, v0, .ref p12, .ref a13, .ref a15])) [.ref a1, .ref l2, .ref p5, .ref q9, .str "abc", .non, .ref a6, .ref a7, .ref a8, v0, .ref p12, .ref a13, .ref a15]
          [.tup [], .lst, .tup ((a0 :: ts) ++ (a0 :: ts).take 1), .tup (cs.map fun c => Th.str ("q" ++ ⟨#[c]⟩)), .str "abc", .non, .tup [.str "A"], .tup [.str ""], .tup [.non], a0, .tup ((a0 :: ts).take 7 ++ (b0 :: os).take 1), .tup [a0, .int 7], .tup [.lst]] := by
        have hA : ("A" : Str).length ≤ 1000 := by decide +kernel
        have hE : ("" : Str).length ≤ 1000 := by decide +kernel
        have hB : ("abc" : Str).length ≤ 1000 := by decide +kernel
        refine ⟨⟨a1, _, rfl, SqT.of (q9' _ _ g1), trivial⟩, ⟨l2, _, rfl, nin m2d m2l, q9' _ _ g2⟩, ⟨p5, _, rfl, stT q9' g5, ThL.app (hd.same s17) ((hd.same s17).take 1)⟩, ⟨q9, _, rfl, SqT.of (q9' _ _ g3), th_nine cs⟩, ⟨rfl, hB⟩, rfl, ⟨a6, _, rfl, SqT.of (q9' _ _ f6), ⟨rfl, hA⟩, trivial⟩, ⟨a7, _, rfl, SqT.of (q9' _ _ f7), ⟨rfl, hE⟩, trivial⟩, ⟨a8, _, rfl, SqT.of (q9' _ _ f8), rfl, trivial⟩, hv0.same s17, ⟨p12, _, rfl, stT q12 e12, ThL.app ((hd.same s17).take 7) ((hdo.same s17).take 1)⟩, ⟨a13, _, rfl, SqT.of (y17 _ _ f13), hv0.same s17, rfl, trivial⟩, ⟨a15, _, rfl, SqT.of (y17 _ _ f15), ⟨l14, _, rfl, nin m14d m14l, y17 _ _ f14⟩, trivial⟩, trivial⟩
      refine ⟨_, rfl, _, rfl, d, lo, l17, _, rfl, p16.same y17, upd_same, n17d, n17l, by simp, by show 13 ≤ 1000; decide, fun i hi H2 p2 o2 => ?_⟩
      obtain ⟨t', h1', h2'⟩ := pick_th (P := fun t => isLkTh t = false ∨ ¬ (nmsTh t).Nodup ∨ ∃ x, x ∈ nmsTh t ∧ x ∈ nmsTh o) (p16.same y17) o2 hth (fun t ht => by
        have bl := badL
        have one : ∀ x : Str, isNm x = false → isLkTh (.tup [.str x]) = false := fun x hx => by
          show (true && true && (isNm x && true)) = false
          rw [hx]
          rfl
        simp only [List.mem_cons, List.not_mem_nil, or_false] at ht
        rcases ht with rfl | rfl | rfl | rfl | rfl | rfl | rfl | rfl | rfl | rfl | rfl | rfl | rfl
        · exact .inl rfl
        · exact .inl rfl
        · refine .inr (.inl ?_)
          show ¬ (((a0 :: ts) ++ [a0]).filterMap strTh).Nodup
          rw [List.filterMap_append, fm_cons ex0, fm_cons (ts := []) ex0]
          exact dup_not (.head _) _
        · refine .inl ?_
          show (decide (1 ≤ _) && decide (_ ≤ 8) && _) = false
          rw [List.length_map, hn9]
          rfl
        · exact .inl rfl
        · exact .inl rfl
        · exact .inl (one _ (bl _ (.head _)).2)
        · exact .inl (one _ (bl _ (.tail _ (.head _))).2)
        · exact .inl rfl
        · exact .inl (by rw [ex0]; rfl)
        · refine .inr (.inr ⟨y0, ?_, ?_⟩)
          · show y0 ∈ ((a0 :: ts).take 7 ++ [b0]).filterMap strTh
            rw [List.filterMap_append, fm_cons (ts := []) ey0]
            exact List.mem_append_right _ (.head _)
          · rw [eo]
            show y0 ∈ (b0 :: os).filterMap strTh
            rw [fm_cons ey0]
            exact .head _
        · refine .inl ?_
          show (true && true && (isNmTh a0 && (false && true))) = false
          rw [ha0]
          rfl
        · exact .inl rfl) hi
      exact k _ t' H2 h1' ⟨fun e => absurd hc8 e, fun _ => h2'⟩ p2 ((Old.of s17).trans o2)
    · rintro i σ' H' hi ⟨v', rfl, rfl⟩
      refine ⟨hi, ?_⟩
      rintro y H'' ⟨rfl, c', hc', rfl⟩
      refine gN (yesT (iteT ?_))
      refine ⟨_, rfl, _, _, rfl, rfl, small (by show ("q" : Str).length + 1 ≤ 1000; decide +kernel), _, upd_same, ?_, _, rfl, ?_⟩
      · rw [List.length_map, List.length_take]
        have : ("abcdefghi" : Str).cps.size = 9 := by decide +kernel
        exact small1000 (by omega)
      · rw [upd_upd, take_text hc', List.map_append]
        rfl
  have c8 : c ≠ 108 := fun e => z5 (decide_eq_true e)
  refine ⟨smn 1, fun a1 h1 => ⟨smn 9, fun l1 hl1 => gN ?_⟩⟩
  have t1 := same_new h1 (.tup [.str "a"])
  have p1 := hp.same t1
  obtain ⟨n1d, n1l⟩ := p1.ne hl1
  have t3 := same_new hl1 (.lst [.non, .str "A1", .str "abcdefghi", .int 7, .ref a1, .bl true, .str "a b", .str " ", .str "a\t"])
  have b := badN
  have hth : ThL K [d, lo] (upd (upd H a1 (.tup [.str "a"])) l1 (.lst [.non, .str "A1", .str "abcdefghi", .int 7, .ref a1, .bl true, .str "a b", .str " ", .str "a\t"])) [.non, .str "A1", .str "abcdefghi", .int 7, .ref a1, .bl true, .str "a b", .str " ", .str "a\t"] [.non, .str "A1", .str "abcdefghi", .int 7, .tup [.str "a"], .bl true, .str "a b", .str " ", .str "a\t"] :=
    ⟨rfl, ⟨rfl, (b _ (by simp)).1⟩, ⟨rfl, (b _ (by simp)).1⟩, rfl, ⟨a1, _, rfl, SqT.of (t3 _ _ upd_same), ⟨rfl, len_a⟩, trivial⟩, rfl, ⟨rfl, (b _ (by simp)).1⟩, ⟨rfl, (b _ (by simp)).1⟩, ⟨rfl, (b _ (by simp)).1⟩, trivial⟩
  have hbad : ∀ t ∈ ([.non, .str "A1", .str "abcdefghi", .int 7, .tup [.str "a"], .bl true, .str "a b", .str " ", .str "a\t"] : List Th), isNmTh t = false ∧ isBhTh t = false := fun t ht => by
    have bs : ∀ x : Str, isNm x = false → x ≠ "" → isNmTh (.str x) = false ∧ isBhTh (.str x) = false := fun x h1 h2 => ⟨h1, by
      show (isNm x || decide (x = "")) = false
      rw [h1, decide_eq_false h2]
      rfl⟩
    simp only [List.mem_cons, List.not_mem_nil, or_false] at ht
    rcases ht with rfl | rfl | rfl | rfl | rfl | rfl | rfl | rfl | rfl
    · exact ⟨rfl, rfl⟩
    · exact bs _ (b _ (by simp)).2.1 (b _ (by simp)).2.2
    · exact bs _ (b _ (by simp)).2.1 (b _ (by simp)).2.2
    · exact ⟨rfl, rfl⟩
    · exact ⟨rfl, rfl⟩
    · exact ⟨rfl, rfl⟩
    · exact bs _ (b _ (by simp)).2.1 (b _ (by simp)).2.2
    · exact bs _ (b _ (by simp)).2.1 (b _ (by simp)).2.2
    · exact bs _ (b _ (by simp)).2.1 (b _ (by simp)).2.2
  have oA : Old d lo H (upd (upd H a1 (.tup [.str "a"])) l1 (.lst [.non, .str "A1", .str "abcdefghi", .int 7, .ref a1, .bl true, .str "a b", .str " ", .str "a\t"])) := (Old.of t1).trans (Old.of t3)
  have e1 : (upd (upd H a1 (.tup [.str "a"])) l1 (.lst [.non, .str "A1", .str "abcdefghi", .int 7, .ref a1, .bl true, .str "a b", .str " ", .str "a\t"])) l1 = some (.lst [.non, .str "A1", .str "abcdefghi", .int 7, .ref a1, .bl true, .str "a b", .str " ", .str "a\t"]) := upd_same
  have p3 := p1.same t3
  generalize upd (upd H a1 (.tup [.str "a"])) l1 (.lst [.non, .str "A1", .str "abcdefghi", .int 7, .ref a1, .bl true, .str "a b", .str " ", .str "a\t"]) = H3 at hth oA e1 p3
  refine ⟨_, rfl, _, rfl, smn 1, fun l2 hl2 => ?_⟩
  have t4 := same_new hl2 (.lst [.str ""])
  refine ⟨_, rfl, rfl, .inr ⟨_, rfl, ?_⟩⟩
  rw [ez_sg (a := 110) (by decide +kernel)]
  obtain ⟨n, hn, hn1⟩ : ∃ n : Nat, (if decide (c = 110) = true then (1 : Int) else 0) = (n : Int) ∧ ((n = 0 ∧ c = 98) ∨ (n = 1 ∧ c = 110)) := by
    unfold isSg at hc
    by_cases e : c = 110
    · exact ⟨1, by rw [decide_eq_true e]; rfl, .inr ⟨rfl, e⟩⟩
    · exact ⟨0, by rw [decide_eq_false e]; rfl, .inl ⟨rfl, by omega⟩⟩
  rw [hn]
  have hn2 : n ≤ 1 := by omega
  refine ⟨l2, (n : Int), [.str ""], rfl, rfl, upd_same, by omega, by omega, by rw [Int.toNat_natCast]; exact small (by show 1 * n ≤ 1000; omega), fun l3 hl3 => ?_⟩
  rw [Int.toNat_natCast]
  have t5 := same_new hl3 (.lst (List.replicate n [V.str ""]).flatten)
  have hfl : (List.replicate n [V.str ""]).flatten.length ≤ 1 := by
    rcases hn1 with ⟨rfl, _⟩ | ⟨rfl, _⟩ <;> decide
  refine ⟨l1, l3, _, _, rfl, rfl, t5 _ _ (t4 _ _ e1), upd_same, small (by show 9 + _ ≤ 1000; omega), fun l4 hl4 => ?_⟩
  have t6 := same_new hl4 (.lst ([.non, .str "A1", .str "abcdefghi", .int 7, .ref a1, .bl true, .str "a b", .str " ", .str "a\t"] ++ (List.replicate n [V.str ""]).flatten))
  have sA := t4.trans (t5.trans t6)
  have p5 := p3.same (t4.trans t5)
  obtain ⟨n4d, n4l⟩ := p5.ne hl4
  have hth' := ThL.app (hth.same sA) (show ThL K [d, lo] _ (List.replicate n [V.str ""]).flatten (List.replicate n [Th.str ""]).flatten from by
    rcases hn1 with ⟨rfl, _⟩ | ⟨rfl, _⟩
    · exact trivial
    · exact ⟨⟨rfl, by decide +kernel⟩, trivial⟩)
  refine ⟨d, lo, l4, _, rfl, p5.same t6, upd_same, n4d, n4l, by simp, by rw [List.length_append]; show 9 + _ ≤ 1000; omega, fun i hi H2 p2 o2 => ?_⟩
  obtain ⟨t', h1', h2'⟩ := pick_th (P := fun t => kindTh (kindS c) t = false) (p5.same t6) o2 hth' (fun t ht => by
    rcases List.mem_append.mp ht with y | y
    · have := hbad t y
      rcases hn1 with ⟨_, e⟩ | ⟨_, e⟩
      · rw [e, kn_behind]; exact this.2
      · rw [e, kn_name]; exact this.1
    · rcases hn1 with ⟨rfl, e⟩ | ⟨rfl, e⟩
      · cases y
      · have : t = .str "" := by simpa using y
        rw [this, e, kn_name]
        decide +kernel) hi
  exact k _ t' H2 h1' ⟨fun _ => h2', fun e => absurd e c8⟩ p2 ((oA.trans (Old.of sA)).trans o2)
end
def FitL : List Nat → List Th → Prop
  | [], [] => True
  | c :: cs, t :: ts => (isSg c ∧ kindTh (kindS c) t = true) ∧ FitL cs ts
  | _, _ => False
theorem FitL.len : ∀ {cs : List Nat} {ts : List Th}, FitL cs ts → ts.length = cs.length
  | [], [], _ => rfl
  | _ :: _, _ :: _, h => congrArg (· + 1) (FitL.len h.2)
  | [], _ :: _, h => h.elim
  | _ :: _, [], h => h.elim
theorem FitL.snoc {c : Nat} {t : Th} (h1 : isSg c) (h2 : kindTh (kindS c) t = true) : ∀ {cs : List Nat} {ts : List Th}, FitL cs ts → FitL (cs ++ [c]) (ts ++ [t])
  | [], [], _ => ⟨⟨h1, h2⟩, trivial⟩
  | _ :: _, _ :: _, h => ⟨h.1, FitL.snoc h1 h2 h.2⟩
  | [], _ :: _, h => h.elim
  | _ :: _, [], h => h.elim
theorem FitL.at_ : ∀ {cs : List Nat} {ts : List Th} {j : Nat} {t : Th}, FitL cs ts → ts[j]? = some t → ∃ c, cs[j]? = some c ∧ isSg c ∧ kindTh (kindS c) t = true
  | c :: _, _ :: _, 0, _, h, e => by
    cases e
    exact ⟨c, rfl, h.1⟩
  | _ :: cs, _ :: ts, j + 1, _, h, e => FitL.at_ (cs := cs) (ts := ts) (j := j) h.2 (by simpa using e)
  | [], [], _, _, _, e => by cases e
  | [], _ :: _, _, _, h, _ => h.elim
  | _ :: _, [], _, _, h, _ => h.elim
theorem fit_zip : ∀ {cs : List Nat} {ts : List Th}, FitL cs ts → ((ts.zip (cs.map kindS)).all fun p => kindTh p.2 p.1) = true
  | [], [], _ => rfl
  | c :: cs, t :: ts, h => by
    rw [List.map_cons, List.zip_cons_cons, List.all_cons, fit_zip h.2, Bool.and_true]
    exact h.1.2
  | [], _ :: _, h => h.elim
  | _ :: _, [], h => h.elim
theorem bad_zip {t' : Th} : ∀ {cs : List Nat} {ts : List Th} {j : Nat} {c : Nat}, ts.length = cs.length → cs[j]? = some c → kindTh (kindS c) t' = false → (((ts.set j t').zip (cs.map kindS)).all fun p => kindTh p.2 p.1) = false
  | c :: cs, t :: ts, 0, _, _, e, h => by
    cases e
    rw [List.set_cons_zero, List.map_cons, List.zip_cons_cons, List.all_cons]
    show (kindTh (kindS c) t' && _) = false
    rw [h, Bool.false_and]
  | c :: cs, t :: ts, j + 1, _, l, e, h => by
    rw [List.set_cons_succ, List.map_cons, List.zip_cons_cons, List.all_cons, bad_zip (by simpa using l) (by simpa using e) h, Bool.and_false]
  | [], _, _, _, _, e, _ => by cases e
  | _ :: _, [], _, _, l, _, _ => by cases l
theorem forms_ok : ∀ p ∈ formsL, p.2.cps.toList = 116 :: p.2.cps.toList.drop 1 ∧ tab_FORMS.lookup p.1 = some ((p.2.cps.toList.drop 1).map kindS) ∧ 1 ≤ (p.2.cps.toList.drop 1).length ∧ (p.2.cps.toList.drop 1).length ≤ 4 ∧ (p.1 = "link" → p.2.cps.toList.drop 1 = [108, 108]) ∧ (108 ∈ p.2.cps.toList.drop 1 → p.1 = "link") ∧ (p.1 = "link" → p.2 = "tll") ∧ (p.2 = "tll" → p.1 = "link") ∧ p.1.length ≤ 1000 := by decide +kernel
/-- a deed as it is drawn -/
structure DeedOk (wd signs : Str) (us : List Th) : Prop where
  mem : (wd, signs) ∈ formsL
  fit : FitL signs.cps.toList us
  nd : wd = "link" → (us.flatMap nmsTh).Nodup
theorem DeedOk.parts {wd signs : Str} {us : List Th} (h : DeedOk wd signs us) : ∃ (i : Int) (ts : List Th) (cs : List Nat), us = .int i :: ts ∧ signs.cps.toList = 116 :: cs ∧ FitL cs ts ∧ tab_FORMS.lookup wd = some (cs.map kindS) ∧ isMomTh (.int i) = true ∧ 1 ≤ cs.length ∧ cs.length ≤ 4 ∧ (wd = "link" → cs = [108, 108]) ∧ (108 ∈ cs → wd = "link") := by
  obtain ⟨f1, f2, f3, f4, f5, f6, _, _⟩ := forms_ok _ h.mem
  have f := h.fit
  generalize hcs : signs.cps.toList.drop 1 = cs at f1 f2 f3 f4 f5 f6
  have f1' : signs.cps.toList = 116 :: cs := f1
  rw [f1'] at f
  match us, f with
  | t :: ts, f =>
    have hm := f.1.2
    rw [kn_num] at hm
    cases t with
    | int i => exact ⟨i, ts, cs, rfl, f1', f.2, f2, hm, f3, f4, f5, f6⟩
    | _ => cases hm
  | [], f => exact f.elim
theorem DeedOk.good {wd signs : Str} {us : List Th} (h : DeedOk wd signs us) : isDeedTh (.tup (.str wd :: us)) = true := by
  obtain ⟨i, ts, cs, rfl, _, hf, hl, hm, _, _, _, _⟩ := h.parts
  rw [deed_some hl]
  unfold isDf
  rw [hm, fit_zip hf, List.length_map, decide_eq_true hf.len]
  by_cases e : wd = "link"
  · have := h.nd e
    have e2 : (Th.int i :: ts).flatMap nmsTh = ts.flatMap nmsTh := by rw [List.flatMap_cons]; rfl
    rw [e2] at this
    rw [decide_eq_true e, decide_eq_true this]
    rfl
  · rw [decide_eq_false e]
    rfl
/-- a row of another length is none -/
theorem bad_len {wd : Str} {t : Th} {ts : List Th} {form : List Str} (hl : tab_FORMS.lookup wd = some form) (h : ts.length ≠ form.length) : isDeedTh (.tup (.str wd :: t :: ts)) = false := by
  rw [deed_some hl]
  unfold isDf
  rw [decide_eq_false h, Bool.and_false, Bool.false_and, Bool.false_and]
theorem bad_word {a : Th} {us : List Th} (h : ∀ x, a = .str x → tab_FORMS.lookup x = none) : isDeedTh (.tup (a :: us)) = false := by
  cases us with
  | nil => exact short_deed (by show 1 < 2; decide)
  | cons t ts =>
    cases a with
    | str x => exact deed_none (h x rfl)
    | _ => rfl
/-- with one thing that is none of its kind -/
theorem DeedOk.bad {wd signs : Str} {us : List Th} (h : DeedOk wd signs us) {j c : Nat} {t' o : Th} (hj : signs.cps.toList[j]? = some c) (hb : Bad c o t') (ho : c = 108 → (j = 1 ∧ us[2]? = some o) ∨ (j = 2 ∧ us[1]? = some o)) : isDeedTh (.tup (.str wd :: us.set j t')) = false := by
  obtain ⟨i, ts, cs, rfl, hsg, hf, hl, hm, h1, h4, hlk, hlk2⟩ := h.parts
  rw [hsg] at hj
  cases j with
  | zero =>
    cases hj
    rw [List.set_cons_zero, deed_some hl]
    have := hb.1 (by decide)
    rw [kn_num] at this
    unfold isDf
    rw [this, Bool.false_and, Bool.false_and, Bool.false_and]
  | succ j =>
    have hj' : cs[j]? = some c := by simpa using hj
    rw [List.set_cons_succ, deed_some hl]
    unfold isDf
    by_cases hc : c = 108
    · rcases hb.2 hc with z | z | z
      · rw [bad_zip hf.len hj' (by rw [hc, kn_names]; exact z), Bool.and_false, Bool.false_and]
      · have ew := hlk2 (by rw [← hc]; exact List.mem_of_getElem? hj')
        have hjl : j < ts.length := by rw [hf.len]; exact (List.getElem?_eq_some_iff.mp hj').1
        have hn : ¬ ((ts.set j t').flatMap nmsTh).Nodup := fun y => by
          have hm' : t' ∈ ts.set j t' := List.mem_iff_getElem.mpr ⟨j, by rw [List.length_set]; exact hjl, List.getElem_set_self _⟩
          have y' : (((ts.set j t').map nmsTh).flatten).Nodup := y
          exact z (y'.sublist (List.sublist_flatten_of_mem (List.mem_map_of_mem hm')))
        rw [decide_eq_true ew, decide_eq_false hn, Bool.not_true, Bool.or_self, Bool.and_false]
      · obtain ⟨x, x1, x2⟩ := z
        have ew := hlk2 (by rw [← hc]; exact List.mem_of_getElem? hj')
        have ec := hlk ew
        have hl2 : ts.length = 2 := by rw [hf.len, ec]; rfl
        obtain ⟨t2, t3, rfl⟩ := two_of hl2
        have hn : ¬ (([t2, t3].set j t').flatMap nmsTh).Nodup := fun y => by
          rcases ho hc with ⟨e, e2⟩ | ⟨e, e2⟩
          · have ej : j = 0 := by omega
            subst ej
            have : t3 = o := by simpa using e2
            subst this
            have y' : (nmsTh t' ++ (nmsTh t3 ++ [])).Nodup := y
            rw [List.append_nil, List.nodup_append] at y'
            exact y'.2.2 x x1 x x2 rfl
          · have ej : j = 1 := by omega
            subst ej
            have : t2 = o := by simpa using e2
            subst this
            have y' : (nmsTh t2 ++ (nmsTh t' ++ [])).Nodup := y
            rw [List.append_nil, List.nodup_append] at y'
            exact y'.2.2 x x2 x x1 rfl
        rw [decide_eq_true ew, decide_eq_false hn, Bool.not_true, Bool.or_self, Bool.and_false]
    · rw [bad_zip hf.len hj' (hb.1 hc), Bool.and_false, Bool.false_and]
def spSpoilt (K : PySem.W.Frag) : Sp := fun vs H Q _ => ∃ (d lo p : Addr) (wd signs : Str) (us : List Th) (ws : List V), vs = [.ref d, .ref p, .str signs] ∧ PotAt d lo H ∧ SqT K H p ws ∧ (∀ B, ThL K B H ws (.str wd :: us)) ∧ DeedOk wd signs us ∧
  ∀ (v' : V) (t' : Th) (H' : Hp), ThV K [] H' v' t' → isDeedTh t' = false → PotAt d lo H' → Old d lo H H' → Q v' H'
theorem cut_from {vs : List V} {n : Nat} (h : n ≤ vs.length) : cutV vs (some (n : Int)) none = vs.drop n := by
  unfold cutV
  rw [HT.sIx_none, HT.sIx_nat, show min n vs.length = n by omega]
  exact List.take_of_length_le (by rw [List.length_drop]; omega)
theorem cut_m1 {vs : List V} (h : 1 ≤ vs.length) : cutV vs none (some (-1)) = vs.take (vs.length - 1) := by
  unfold cutV
  rw [HT.sIx_none, List.drop_zero, Nat.sub_zero]
  congr 1
  show (if (-1 : Int) < 0 then ((-1 : Int) + (vs.length : Int)).toNat else min (-1 : Int).toNat vs.length) = _
  rw [if_pos (by decide)]
  omega
theorem drop_one {K : PySem.W.Frag} {B : List Addr} {H : Hp} {vs : List V} {wd : Str} {us : List Th} (h : ThL K B H vs (.str wd :: us)) : ThL K B H (vs.drop 1) us := h.drop 1
theorem badWd : ∀ x ∈ (["Put", "", "pot", "put ", "links"] : List Str), x.length ≤ 1000 ∧ tab_FORMS.lookup x = none := by decide +kernel
theorem set_parts {α : Type} (x : α) (xs : List α) (j : Nat) (t : α) (h : j < xs.length) : (x :: xs).take (j + 1) ++ [t] ++ (x :: xs).drop (j + 2) = x :: xs.set j t := by
  rw [List.take_succ_cons, List.drop_succ_cons, List.cons_append, List.cons_append, List.set_eq_take_append_cons_drop, if_pos h, List.append_assoc]
  rfl
section
variable {P : Program} {w : World} {K : PySem.W.Frag} {mg : Str → Option Value} {base : Heap}
theorem scSpoilt : FnScope ["_law_pot_here", "_law_deed", "_law_signs", "_law_way", "_law_some", "_law_words", "_law_at", "_law_other", "_law_odd_here"] ["_law_pot_here", "_law_deed", "_law_signs"] (defScope sSpoilt) := ⟨rfl, rfl, rfl, by decide +kernel, rfl, by decide +kernel, by decide +kernel⟩
theorem c_spoilt (h : Has K mg "_law_spoilt" sSpoilt ["_law_pot_here", "_law_deed", "_law_signs"]) (C_next : Cal P w K mg base "_law_next" 1 ["_law_pot_here", "_law_many"] spNext) (C_one_of : Cal P w K mg base "_law_one_of" 2 ["_law_pot_here", "_law_some"] spOneOf) (C_odd : Cal P w K mg base "_law_odd" 3 ["_law_pot_here", "_law_thing_here", "_law_other", "_law_sign"] (spOdd K)) (m_list : mg "list" = none) (m_len : mg "len" = none) (m_int : mg "int" = none) : Cal P w K mg base "_law_spoilt" 4 ["_law_pot_here", "_law_deed", "_law_signs"] (spSpoilt K) := by
  refine h.mk' scSpoilt (fun vs H Q E hs => ?_) (fun f cdv A outer s H vs Q E hr hs => ?_)
  · obtain ⟨d, lo, p, wd, signs, us, ws, rfl, _⟩ := hs
    rfl
  obtain ⟨d, lo, p, wd, signs, us, vs, rfl, hp, hpq, hdB, hok, k⟩ := hs
  refine qex ⟨_, (qss_cons ⟨(ps_set (i := 3) scSpoilt.nd rfl (Or.inl rfl) (pe_cal C_next hr (by decide) rfl (pa_cons (pv 0) (pa_cons pe_int pa_nil))))⟩
    (qss_cons (qs_if (pt_cmpR op_eq (pv 3) pe_int (nomark _))
      (qss_cons (qs_set (i := 4) scSpoilt.nd rfl (Or.inl rfl) (qe_lst (qa_c ⟨(pe_callTy call_list_of rfl m_list boot_list (pa_cons (pv 1) pa_nil))⟩ (qa_c ⟨(pe_slice sl_tup3 (pv 1) po_none (po_some (pe_un un_neg pe_int)))⟩ (qa_c ⟨(pe_op op_catT3 (pv 1) (pe_tup (pa_cons pe_int pa_nil)))⟩ (qa_c ⟨(pe_op op_catT3 (pv 1) (pe_tup (pa_cons pe_str pa_nil)))⟩ qa_nil))))))
    (qss_cons ⟨(ps_set (i := 4) scSpoilt.nd rfl (Or.inl rfl) (pe_op op_cat (pv 4) (pe_lst (pa_cons (pe_slice sl_tup3 (pv 1) (po_some pe_int) po_none) (pa_cons (pe_slice sl_tup3 (pv 1) po_none (po_some pe_int)) pa_nil)))))⟩
    (qss_one ⟨(ps_ret (pe_cal C_one_of hr (by decide) rfl (pa_cons (pv 0) (pa_cons (pv 4) pa_nil))))⟩)))
      ⟨pss_nil⟩)
    (qss_cons (qs_if (pt_cmpR op_eq (pv 3) pe_int (nomark _))
      (qss_cons (qs_set (i := 5) scSpoilt.nd rfl (Or.inl rfl) (qe_lst (qa_c ⟨pe_str⟩ (qa_c ⟨pe_str⟩ (qa_c ⟨pe_non⟩ (qa_c ⟨pe_str⟩ (qa_c ⟨pe_int⟩ (qa_c ⟨(pe_tup (pa_cons pe_str pa_nil))⟩ (qa_c ⟨pe_str⟩ (qa_c ⟨pe_bl⟩ (qa_c ⟨pe_str⟩ (qa_c ⟨(pe_lst (pa_cons pe_str pa_nil))⟩ qa_nil))))))))))))
    (qss_one ⟨(ps_ret (pe_op op_catT3 (pe_tup (pa_cons (pe_cal C_one_of hr (by decide) rfl (pa_cons (pv 0) (pa_cons (pv 5) pa_nil))) pa_nil)) (pe_slice sl_tup3 (pv 1) (po_some pe_int) po_none)))⟩))
      ⟨pss_nil⟩)
    (qss_cons ⟨(ps_set (i := 6) scSpoilt.nd rfl (Or.inl rfl) (pe_op op_add pe_int (pe_cal C_next hr (by decide) rfl (pa_cons (pv 0) (pa_cons (pe_callB call_len_str rfl m_len PySem.boot_len (pa_cons (pv 2) pa_nil)) pa_nil)))))⟩
    (qss_cons ⟨(ps_set (i := 7) scSpoilt.nd rfl (Or.inl rfl) (pe_ifExp (pt_cmpR op_eq (pv 2) pe_str (nomark _)) (pe_ix ix_tup (pv 1) (pe_op op_add pe_int (pe_callTy call_int1 rfl m_int boot_int (pa_cons (pe_cmpR op_eq (pv 6) pe_int (nomark _)) pa_nil))) (fun _ _ => rfl)) pe_non))⟩
    (qss_cons ⟨(ps_set (i := 8) scSpoilt.nd rfl (Or.inl rfl) (pe_cal C_odd hr (by decide) rfl (pa_cons (pv 0) (pa_cons (pe_ix ix_tup (pv 1) (pv 6) (fun _ _ => rfl)) (pa_cons (pv 7) (pa_cons (pe_ix ix_str (pv 2) (pe_op op_sub (pv 6) pe_int) (fun _ _ => rfl)) pa_nil))))))⟩
    (qss_one ⟨(ps_ret (pe_op op_catT3 (pe_op op_catT3 (pe_slice sl_tup3 (pv 1) po_none (po_some (pv 6))) (pe_tup (pa_cons (pv 8) pa_nil))) (pe_slice sl_tup3 (pv 1) (po_some (pe_op op_add (pv 6) pe_int)) po_none)))⟩))))))), ?_⟩
  obtain ⟨pi, ts, cs, eus, hsg, hf, hlk, hm, hc1, hc4, hlink0, hlink⟩ := hok.parts
  have htl := hf.len
  have hd := hdB [d, lo]
  have hvl := hd.len
  rw [List.length_cons, eus, List.length_cons, htl] at hvl
  refine drawN (σ := [some (.ref d), some (.ref p), some (.str signs), none, none, none, none, none, none]) (i := 0) (m := 8) rfl hp (by decide) (by decide) fun r H1 r0 r1 p1 o1 => gN ?_
  have kpT : ∀ (b : Addr) (o : HO), H b = some o → (∀ ys, o ≠ .lst ys) → (∀ ys, o ≠ .dK ys) → H1 b = some o := old_still hp o1
  have hpq1 : SqT K H1 p vs := sqT_kept kpT hpq
  have hd1 : ThL K [d, lo] H1 vs (.str wd :: us) := hd.keep kpT fun b u hb e => o1 b u e (fun z => hb (z ▸ .head _)) (fun z => hb (z ▸ .tail _ (.head _)))
  refine ⟨_, rfl, rfl, _, rfl, ?_⟩
  refine ite2 (fun z => ?_) (fun z1 => ?_)
  · -- of another length
    refine ⟨_, rfl, p, _, rfl, .inr hpq1, fun l2 hl2 => ?_⟩
    obtain ⟨m2d, m2l⟩ := p1.ne hl2
    have s2 := same_new hl2 (.lst vs)
    have el2 : (upd H1 l2 (.lst vs)) l2 = some (.lst vs) := upd_same
    generalize upd H1 l2 (.lst vs) = H2 at s2 el2
    refine ⟨_, rfl, _, rfl, _, rfl, p, vs, rfl, stT s2 hpq1, fun p3 H3 x3 e3 => ?_⟩
    rw [cut_m1 (by omega)] at e3
    have s3 := s2.trans x3
    refine ⟨_, rfl, smn 1, fun a4 h4 => ?_⟩
    have x4 := same_new h4 (.tup [.int 0])
    have ea4 : (upd H3 a4 (.tup [.int 0])) a4 = some (.tup [.int 0]) := upd_same
    generalize upd H3 a4 (.tup [.int 0]) = H4 at x4 ea4
    have s4 := s3.trans x4
    refine ⟨p, a4, vs, _, rfl, rfl, stT s4 hpq1, SqT.of ea4, small (by show vs.length + 1 ≤ 1000; omega), fun p5 H5 x5 e5 => ?_⟩
    have s5 := s4.trans x5
    refine ⟨_, rfl, smn 1, fun a6 h6 => ?_⟩
    have x6 := same_new h6 (.tup [.str "a"])
    have ea6 : (upd H5 a6 (.tup [.str "a"])) a6 = some (.tup [.str "a"]) := upd_same
    generalize upd H5 a6 (.tup [.str "a"]) = H6 at x6 ea6
    have s6 := s5.trans x6
    refine ⟨p, a6, vs, _, rfl, rfl, stT s6 hpq1, SqT.of ea6, small (by show vs.length + 1 ≤ 1000; omega), fun p7 H7 x7 e7 => ?_⟩
    have s7 := s6.trans x7
    refine ⟨smn 4, fun l8 hl8 => gN ?_⟩
    have x8 := same_new hl8 (.lst [.ref l2, .ref p3, .ref p5, .ref p7])
    have el8 : (upd H7 l8 (.lst [.ref l2, .ref p3, .ref p5, .ref p7])) l8 = some (.lst [.ref l2, .ref p3, .ref p5, .ref p7]) := upd_same
    generalize upd H7 l8 (.lst [.ref l2, .ref p3, .ref p5, .ref p7]) = H8 at x8 el8
    have s8 := s7.trans x8
    refine ⟨_, rfl, _, rfl, _, rfl, p, vs, rfl, stT s8 hpq1, fun p9 H9 x9 e9 => ?_⟩
    rw [show cutV vs (some 1) none = vs.drop 1 from cut_from (n := 1) (by omega)] at e9
    have s9 := s8.trans x9
    refine ⟨_, rfl, _, rfl, p, vs, rfl, stT s9 hpq1, fun p10 H10 x10 e10 => ?_⟩
    rw [show cutV vs none (some 1) = vs.take 1 from cut_upto (n := 1)] at e10
    have s10 := s9.trans x10
    refine ⟨smn 2, fun l11 hl11 => ?_⟩
    have x11 := same_new hl11 (.lst [.ref p9, .ref p10])
    have y8 := (x9.trans x10).trans x11
    refine ⟨l8, l11, _, _, rfl, rfl, y8 _ _ el8, upd_same, smn 6, fun l12 hl12 => gN ?_⟩
    have x12 := same_new hl12 (.lst [.ref l2, .ref p3, .ref p5, .ref p7, .ref p9, .ref p10])
    have s11 := s10.trans x11
    have s12 := s11.trans x12
    have p11 := p1.same s11
    obtain ⟨n12d, n12l⟩ := p11.ne hl12
    have y2 := ((((((x3.trans x4).trans x5).trans x6).trans x7).trans x8).trans y8).trans x12
    have y3 := (((((x4.trans x5).trans x6).trans x7).trans x8).trans y8).trans x12
    have y5 := (((x6.trans x7).trans x8).trans y8).trans x12
    have y7 := (x8.trans y8).trans x12
    have y9 := (x10.trans x11).trans x12
    have y10 := x11.trans x12
    have hth : ThL K [d, lo] (upd (upd H10 l11 (.lst [.ref p9, .ref p10])) l12 (.lst [.ref l2, .ref p3, .ref p5, .ref p7, .ref p9, .ref p10])) [.ref l2, .ref p3, .ref p5, .ref p7, .ref p9, .ref p10]
        [.lst, .tup ((Th.str wd :: us).take (vs.length - 1)), .tup ((Th.str wd :: us) ++ [.int 0]), .tup ((Th.str wd :: us) ++ [.str "a"]), .tup us, .tup [.str wd]] := by
      have hds := hd1.same s12
      refine ⟨⟨l2, _, rfl, nin m2d m2l, y2 _ _ el2⟩, ⟨p3, _, rfl, stT y3 e3, hds.take _⟩, ⟨p5, _, rfl, stT y5 e5, ThL.app hds ⟨rfl, trivial⟩⟩, ⟨p7, _, rfl, stT y7 e7, ThL.app hds ⟨⟨rfl, len_a⟩, trivial⟩⟩, ⟨p9, _, rfl, stT y9 e9, drop_one hds⟩, ⟨p10, _, rfl, stT y10 e10, hds.take 1⟩, trivial⟩
    refine ⟨_, rfl, _, rfl, d, lo, l12, _, rfl, p11.same x12, upd_same, n12d, n12l, by simp, by show 6 ≤ 1000; decide, fun i hi H13 p13 o13 => ?_⟩
    obtain ⟨t', h1', h2'⟩ := pick_th (P := fun t => isDeedTh t = false) (p11.same x12) o13 hth (fun t ht => by
      simp only [List.mem_cons, List.not_mem_nil, or_false] at ht
      rcases ht with rfl | rfl | rfl | rfl | rfl | rfl
      · rfl
      · rw [eus, hvl, show cs.length + 1 + 1 - 1 = cs.length + 1 by omega, List.take_succ_cons]
        obtain ⟨n, hn⟩ : ∃ n, cs.length = n + 1 := ⟨cs.length - 1, by omega⟩
        rw [hn, List.take_succ_cons]
        refine bad_len hlk ?_
        rw [List.length_take, List.length_map]
        omega
      · rw [eus, List.cons_append, List.cons_append]
        refine bad_len hlk ?_
        rw [List.length_append, List.length_map, htl]
        show cs.length + 1 ≠ _
        omega
      · rw [eus, List.cons_append, List.cons_append]
        refine bad_len hlk ?_
        rw [List.length_append, List.length_map, htl]
        show cs.length + 1 ≠ _
        omega
      · rw [eus]
        exact bad_word fun x e => by cases e
      · exact short_deed (by show 1 < 2; decide)) hi
    exact k _ t' H13 h1' h2' p13 ((o1.trans (Old.of s12)).trans o13)
  refine ⟨_, rfl, rfl, _, rfl, ?_⟩
  refine ite2 (fun z => ?_) (fun z2 => ?_)
  · -- of no word
    refine ⟨smn 1, fun a2 h2 => ⟨smn 1, fun l3 hl3 => ⟨smn 10, fun l4 hl4 => gN ?_⟩⟩⟩
    have x2 := same_new h2 (.tup [.str "put"])
    have q2 := p1.same x2
    obtain ⟨m3d, m3l⟩ := q2.ne hl3
    have x3 := same_new hl3 (.lst [.str "take"])
    have q3 := q2.same x3
    obtain ⟨n4d, n4l⟩ := q3.ne hl4
    have x4 := same_new hl4 (.lst [.str "Put", .str "", .non, .str "pot", .int 3, .ref a2, .str "put ", .bl true, .str "links", .ref l3])
    have b := badWd
    have hput : ("put" : Str).length ≤ 1000 := by decide +kernel
    have hth : ThL K [d, lo] (upd (upd (upd H1 a2 (.tup [.str "put"])) l3 (.lst [.str "take"])) l4 (.lst [.str "Put", .str "", .non, .str "pot", .int 3, .ref a2, .str "put ", .bl true, .str "links", .ref l3])) [.str "Put", .str "", .non, .str "pot", .int 3, .ref a2, .str "put ", .bl true, .str "links", .ref l3]
        [.str "Put", .str "", .non, .str "pot", .int 3, .tup [.str "put"], .str "put ", .bl true, .str "links", .lst] :=
      ⟨⟨rfl, (b _ (by simp)).1⟩, ⟨rfl, (b _ (by simp)).1⟩, rfl, ⟨rfl, (b _ (by simp)).1⟩, rfl, ⟨a2, _, rfl, SqT.of (x4 _ _ (x3 _ _ upd_same)), ⟨rfl, hput⟩, trivial⟩, ⟨rfl, (b _ (by simp)).1⟩, rfl, ⟨rfl, (b _ (by simp)).1⟩, ⟨l3, _, rfl, nin m3d m3l, x4 _ _ upd_same⟩, trivial⟩
    have s4 := (x2.trans x3).trans x4
    have q4 := q3.same x4
    refine ⟨_, rfl, _, rfl, d, lo, l4, _, rfl, q4, upd_same, n4d, n4l, by simp, by show 10 ≤ 1000; decide, fun i hi H5 p5 o5 => ?_⟩
    obtain ⟨t', h1', h2'⟩ := pick_th (P := fun t => ∀ x, t = .str x → tab_FORMS.lookup x = none) q4 o5 hth (fun t ht x ex => by
      rw [ex] at ht
      simp only [List.mem_cons, List.not_mem_nil, or_false, Th.str.injEq, reduceCtorEq, false_or, or_false] at ht
      refine (b x ?_).2
      simp only [List.mem_cons, List.not_mem_nil, or_false]
      exact ht) hi
    generalize ([.str "Put", .str "", .non, .str "pot", .int 3, .ref a2, .str "put ", .bl true, .str "links", .ref l3] : List V)[i] = v' at h1'
    refine ⟨smn 1, fun a6 h6 => ?_⟩
    have x6 := same_new h6 (.tup [v'])
    have ea6 : (upd H5 a6 (.tup [v'])) a6 = some (.tup [v']) := upd_same
    generalize upd H5 a6 (.tup [v']) = H6 at x6 ea6
    have kp5 : ∀ (b : Addr) (o : HO), H1 b = some o → (∀ ys, o ≠ .lst ys) → (∀ ys, o ≠ .dK ys) → H5 b = some o := fun b u e h1 h2 => old_still q4 o5 b u (s4 _ _ e) h1 h2
    have hd5 : ThL K [d, lo] H5 vs (.str wd :: us) := hd1.keep kp5 fun b u hb e => o5 b u (s4 _ _ e) (fun z => hb (z ▸ .head _)) (fun z => hb (z ▸ .tail _ (.head _)))
    refine ⟨_, rfl, _, rfl, p, vs, rfl, stT x6 (sqT_kept kp5 hpq1), fun p7 H7 x7 e7 => ?_⟩
    rw [show cutV vs (some 1) none = vs.drop 1 from cut_from (n := 1) (by omega)] at e7
    refine ⟨a6, p7, _, _, rfl, rfl, SqT.of (x7 _ _ ea6), e7, small (by rw [List.length_drop]; show 1 + _ ≤ 1000; omega), fun p8 H8 x8 e8 => ?_⟩
    have y5 := (x6.trans x7).trans x8
    refine k _ (.tup (t' :: us)) H8 ⟨p8, _, rfl, e8, h1'.same y5, thl_mono (B := [d, lo]) (fun b hb => by cases hb) (drop_one (hd5.same y5))⟩ (bad_word h2') (p5.same y5) (((o1.trans (Old.of s4)).trans o5).trans (Old.of y5))
  -- with one thing that is none of its kind
  have hsl : signs.length = cs.length + 1 := by
    have : signs.cps.toList.length = (116 :: cs).length := by rw [hsg]
    rw [Array.length_toList] at this
    exact this
  have hul : us.length = cs.length + 1 := by rw [eus, List.length_cons, htl]
  refine ⟨_, rfl, _, rfl, signs, rfl, small (by omega), d, lo, _, rfl, p1, by omega, by omega, fun r2 H2 q0 q1 p2 o2 => ?_⟩
  obtain ⟨j, rfl⟩ := Int.eq_ofNat_of_zero_le q0
  have hj : j < us.length := by omega
  refine ⟨_, _, rfl, rfl, gN ?_⟩
  have kp2 : ∀ (b : Addr) (o : HO), H b = some o → (∀ ys, o ≠ .lst ys) → (∀ ys, o ≠ .dK ys) → H2 b = some o := old_still hp (o1.trans o2)
  have hpq2 : SqT K H2 p vs := sqT_kept kp2 hpq
  have keep2 : ∀ {B : List Addr} {v : V} {t : Th}, (∀ B, ThV K B H v t) → ∀ B, ThV K B H2 v t := fun h B =>
    th_mono (B := d :: lo :: B) (fun b hb => .tail _ (.tail _ hb)) ((h (d :: lo :: B)).keep kp2 fun b u hb e => (o1.trans o2) b u e (fun z => hb (z ▸ .head _)) (fun z => hb (z ▸ .tail _ (.head _))))
  have hd2 : ThL K [d, lo] H2 vs (.str wd :: us) := hd.keep kp2 fun b u hb e => (o1.trans o2) b u e (fun z => hb (z ▸ .head _)) (fun z => hb (z ▸ .tail _ (.head _)))
  have each : ∀ n, n < us.length → ∃ v t, vs[n + 1]? = some v ∧ us[n]? = some t ∧ ∀ B, ThV K B H2 v t := fun n hn => by
    have hn' : n + 1 < vs.length := by omega
    refine ⟨vs[n + 1], us[n], List.getElem?_eq_getElem hn', List.getElem?_eq_getElem hn, keep2 (B := []) fun B => ?_⟩
    obtain ⟨t, ht, hvt⟩ := (hdB B).at_ (List.getElem?_eq_getElem hn')
    rw [List.getElem?_cons_succ, List.getElem?_eq_getElem hn] at ht
    rw [Option.some.inj ht]
    exact hvt
  obtain ⟨v, t, hv1, hut, hvt⟩ := each j hj
  obtain ⟨c, hjc, hsgc, hkt⟩ := hok.fit.at_ hut
  have atv : atI vs (1 + (j : Int)) = some v := by
    rw [show (1 : Int) + (j : Int) = ((j + 1 : Nat) : Int) by omega]
    exact atI_nat hv1
  have atc : atI signs.cps.toList (1 + (j : Int) - 1) = some c := by
    rw [show (1 : Int) + (j : Int) - 1 = ((j : Nat) : Int) by omega]
    exact atI_nat hjc
  have ec1 : cutV vs none (some (1 + (j : Int))) = vs.take (j + 1) := by
    rw [show (1 : Int) + (j : Int) = ((j + 1 : Nat) : Int) by omega]
    exact cut_upto
  have ec2 : cutV vs (some (1 + (j : Int) + 1)) none = vs.drop (j + 2) := by
    rw [show (1 : Int) + (j : Int) + 1 = ((j + 2 : Nat) : Int) by omega]
    exact cut_from (by omega)
  obtain ⟨_, _, _, _, _, _, fl1, fl2, _⟩ := forms_ok _ hok.mem
  refine ⟨_, rfl, rfl, _, rfl, ?_⟩
  rw [ez_str]
  refine ite2 (fun z => ?_) (fun z3 => ?_)
  · have ew : wd = "link" := fl2 (of_decide_eq_true z)
    have ec : cs = [108, 108] := hlink0 ew
    have hl3 : us.length = 3 := by rw [hul, ec]; rfl
    obtain ⟨v1, t1, hv11, hu1, hvt1⟩ := each 1 (by omega)
    obtain ⟨v2, t2, hv22, hu2, hvt2⟩ := each 2 (by omega)
    have lk1 : isLkTh t1 = true := by
      obtain ⟨c1, e1, _, e2⟩ := hok.fit.at_ hu1
      rw [hsg, ec] at e1
      cases e1
      rw [kn_names] at e2
      exact e2
    have lk2 : isLkTh t2 = true := by
      obtain ⟨c1, e1, _, e2⟩ := hok.fit.at_ hu2
      rw [hsg, ec] at e1
      cases e1
      rw [kn_names] at e2
      exact e2
    obtain ⟨u, o, hat, huo, hlo, hpos⟩ : ∃ (u : V) (o : Th), atI vs (2 + (if decide (V.int (1 + (j : Int)) = V.int 2) = true then (1 : Int) else 0)) = some u ∧ (∀ B, ThV K B H2 u o) ∧ isLkTh o = true ∧ (c = 108 → (j = 1 ∧ us[2]? = some o) ∨ (j = 2 ∧ us[1]? = some o)) := by
      by_cases e : j = 1
      · subst e
        refine ⟨v2, t2, ?_, hvt2, lk2, fun _ => .inl ⟨rfl, hu2⟩⟩
        exact atI_nat (j := 3) hv22
      · refine ⟨v1, t1, ?_, hvt1, lk1, fun h8 => .inr ⟨?_, hu1⟩⟩
        · rw [decide_eq_false (fun y => e (by injection y with y; omega)), if_neg (by decide)]
          exact atI_nat (j := 2) hv11
        · rw [hsg, ec, h8] at hjc
          match j, e, hjc, hj with
          | 0, _, hjc, _ => cases hjc
          | 2, _, _, _ => rfl
          | n + 3, _, _, hj => omega
    refine ⟨_, rfl, _, rfl, rfl, .inr ⟨_, rfl, _, _, rfl, rfl, p, vs, _, u, rfl, rfl, hpq2, hat, gN ?_⟩⟩
    refine ⟨_, rfl, _, rfl, _, rfl, p, vs, _, _, rfl, rfl, hpq2, atv, _, rfl, _, rfl, _, rfl, _, _, rfl, rfl, signs, _, c, rfl, rfl, small (by omega), atc, d, lo, v, u, t, o, c, rfl, p2, hsgc, hvt, huo, hkt, (fun _ => hlo), fun v' t' H3 h1' h2' p3 o3 => gN ?_⟩
    have kp3 : ∀ (b : Addr) (o : HO), H2 b = some o → (∀ ys, o ≠ .lst ys) → (∀ ys, o ≠ .dK ys) → H3 b = some o := old_still p2 o3
    have hd3 : ThL K [d, lo] H3 vs (.str wd :: us) := hd2.keep kp3 fun b u hb e => o3 b u e (fun z => hb (z ▸ .head _)) (fun z => hb (z ▸ .tail _ (.head _)))
    have hpq3 : SqT K H3 p vs := sqT_kept kp3 hpq2
    refine ⟨_, rfl, _, rfl, _, rfl, p, vs, rfl, hpq3, fun p4 H4 x4 e4 => ?_⟩
    have e4' : SqT K H4 p4 (vs.take (j + 1)) := by rw [← ec1]; exact e4
    refine ⟨_, rfl, smn 1, fun a5 h5 => ?_⟩
    have x5 := same_new h5 (.tup [v'])
    have ea5 : (upd H4 a5 (.tup [v'])) a5 = some (.tup [v']) := upd_same
    generalize upd H4 a5 (.tup [v']) = H5 at x5 ea5
    refine ⟨p4, a5, _, _, rfl, rfl, stT x5 e4', SqT.of ea5, small (by rw [List.length_take]; show _ + 1 ≤ 1000; omega), fun p6 H6 x6 e6 => ?_⟩
    have y3 := (x4.trans x5).trans x6
    refine ⟨_, rfl, _, rfl, _, _, rfl, rfl, _, rfl, p, vs, rfl, stT y3 hpq3, fun p7 H7 x7 e7 => ?_⟩
    have e7' : SqT K H7 p7 (vs.drop (j + 2)) := by rw [← ec2]; exact e7
    refine ⟨p6, p7, _, _, rfl, rfl, stT x7 e6, e7', small (by rw [List.length_append, List.length_take, List.length_drop]; show _ + 1 + _ ≤ 1000; omega), fun p8 H8 x8 e8 => ?_⟩
    have y8 := (y3.trans x7).trans x8
    have hds : ThL K [] H8 vs (.str wd :: us) := thl_mono (B := [d, lo]) (fun b hb => by cases hb) (hd3.same y8)
    have hres : ThL K [] H8 (vs.take (j + 1) ++ [v'] ++ vs.drop (j + 2)) (.str wd :: us.set j t') := by
      rw [← set_parts (.str wd) us j t' (by omega)]
      exact ThL.app (ThL.app (hds.take _) ⟨h1'.same y8, trivial⟩) (hds.drop _)
    exact k _ (.tup (.str wd :: us.set j t')) H8 ⟨p8, _, rfl, e8, hres⟩ (hok.bad hjc h2' hpos) (p3.same y8) (((o1.trans o2).trans o3).trans (Old.of y8))
  · have hc8 : c ≠ 108 := fun e => by
      have : wd = "link" := by
        refine hlink ?_
        rw [hsg] at hjc
        cases j with
        | zero => cases hjc; cases e
        | succ j =>
          rw [← e]
          exact List.mem_of_getElem? (by simpa using hjc)
      exact z3 (decide_eq_true (fl1 this))
    obtain ⟨u, o, eu, huo⟩ : ∃ (u : V) (o : Th), u = .non ∧ ∀ B, ThV K B H2 u o := ⟨.non, .non, rfl, fun B => rfl⟩
    rw [← eu]
    refine gN ?_
    refine ⟨_, rfl, _, rfl, _, rfl, p, vs, _, _, rfl, rfl, hpq2, atv, _, rfl, _, rfl, _, rfl, _, _, rfl, rfl, signs, _, c, rfl, rfl, small (by omega), atc, d, lo, v, u, t, o, c, rfl, p2, hsgc, hvt, huo, hkt, (fun e => absurd e hc8), fun v' t' H3 h1' h2' p3 o3 => gN ?_⟩
    have kp3 : ∀ (b : Addr) (o : HO), H2 b = some o → (∀ ys, o ≠ .lst ys) → (∀ ys, o ≠ .dK ys) → H3 b = some o := old_still p2 o3
    have hd3 : ThL K [d, lo] H3 vs (.str wd :: us) := hd2.keep kp3 fun b u hb e => o3 b u e (fun z => hb (z ▸ .head _)) (fun z => hb (z ▸ .tail _ (.head _)))
    have hpq3 : SqT K H3 p vs := sqT_kept kp3 hpq2
    refine ⟨_, rfl, _, rfl, _, rfl, p, vs, rfl, hpq3, fun p4 H4 x4 e4 => ?_⟩
    have e4' : SqT K H4 p4 (vs.take (j + 1)) := by rw [← ec1]; exact e4
    refine ⟨_, rfl, smn 1, fun a5 h5 => ?_⟩
    have x5 := same_new h5 (.tup [v'])
    have ea5 : (upd H4 a5 (.tup [v'])) a5 = some (.tup [v']) := upd_same
    generalize upd H4 a5 (.tup [v']) = H5 at x5 ea5
    refine ⟨p4, a5, _, _, rfl, rfl, stT x5 e4', SqT.of ea5, small (by rw [List.length_take]; show _ + 1 ≤ 1000; omega), fun p6 H6 x6 e6 => ?_⟩
    have y3 := (x4.trans x5).trans x6
    refine ⟨_, rfl, _, rfl, _, _, rfl, rfl, _, rfl, p, vs, rfl, stT y3 hpq3, fun p7 H7 x7 e7 => ?_⟩
    have e7' : SqT K H7 p7 (vs.drop (j + 2)) := by rw [← ec2]; exact e7
    refine ⟨p6, p7, _, _, rfl, rfl, stT x7 e6, e7', small (by rw [List.length_append, List.length_take, List.length_drop]; show _ + 1 + _ ≤ 1000; omega), fun p8 H8 x8 e8 => ?_⟩
    have y8 := (y3.trans x7).trans x8
    have hds : ThL K [] H8 vs (.str wd :: us) := thl_mono (B := [d, lo]) (fun b hb => by cases hb) (hd3.same y8)
    have hres : ThL K [] H8 (vs.take (j + 1) ++ [v'] ++ vs.drop (j + 2)) (.str wd :: us.set j t') := by
      rw [← set_parts (.str wd) us j t' (by omega)]
      exact ThL.app (ThL.app (hds.take _) ⟨h1'.same y8, trivial⟩) (hds.drop _)
    exact k _ (.tup (.str wd :: us.set j t')) H8 ⟨p8, _, rfl, e8, hres⟩ (hok.bad hjc h2' (fun e => absurd e hc8)) (p3.same y8) (((o1.trans o2).trans o3).trans (Old.of y8))
end
def spLaw (K : PySem.W.Frag) : Sp := fun vs H Q _ => ∃ (a : Addr) (ns : List Int), vs = [.ref a] ∧ SqL K H a (ns.map V.int) ∧ ns.length ≤ 63 ∧ ∀ H', Q (.bl true) H'
instance (c : Nat) : Decidable (isSg c) := by unfold isSg; infer_instance
theorem forms_sg : ∀ p ∈ formsL, ∀ c ∈ p.2.cps.toList, isSg c := by decide +kernel
theorem forms_val : ∀ p ∈ formsL, valV formsK (Sum.inr p.1) = some (.str p.2) := by decide +kernel
theorem forms_len : ∀ p ∈ formsL, p.2.cps.size ≤ 5 := by decide +kernel
theorem forms_keys : formsK.map (·.1) = (formsL.map (·.1)).map Sum.inr := by
  rw [formsK_eq, List.map_map, List.map_map]
  rfl
theorem nms_other {c : Nat} {t : Th} (hs : isSg c) (h : kindTh (kindS c) t = true) (hc : c ≠ 108) : nmsTh t = [] := by
  cases t with
  | tup ts =>
    exfalso
    rcases hs with rfl | rfl | rfl | rfl | rfl | rfl | rfl
    · rw [kn_num] at h; cases h
    · rw [kn_side] at h; cases h
    · rw [kn_text] at h; cases h
    · rw [kn_word] at h; cases h
    · exact hc rfl
    · rw [kn_behind] at h; cases h
    · rw [kn_name] at h; cases h
  | _ => rfl
theorem old3_still {d lo l : Addr} {H H' : Hp} {zs : List V} (hp : PotAt d lo H) (hl : H l = some (.lst zs)) (o : Old3 d lo l H H') : ∀ (b : Addr) (u : HO), H b = some u → (∀ ys, u ≠ .lst ys) → (∀ ys, u ≠ .dK ys) → H' b = some u := fun b u e h1 h2 => by
  obtain ⟨cs, k, sd, m, e1, e2, r⟩ := hp
  exact o b _ e (ne_of e e1 (h2 _)) (ne_of e e2 (h1 _)) (ne_of e hl (h1 _))
theorem upd_lst {l : Addr} {H : Hp} {zs ws : List V} (hl : H l = some (.lst zs)) : ∀ (b : Addr) (u : HO), H b = some u → (∀ ys, u ≠ .lst ys) → (∀ ys, u ≠ .dK ys) → (upd H l (.lst ws)) b = some u := fun b u e h1 _ => (upd_ne (ne_of e hl (h1 _))).trans e
def things14 : List Th := [.non, .bl true, .int 0, .str "", .tup [], .lst, .dct, .str "put", .tup [.str "put"], .tup [.non], .tup [.tup []], .tup [.lst], .tup [.dct], .tup [.str "take", .int 1]]
theorem things_no : ∀ t ∈ things14, isDeedTh t = false := by decide +kernel
theorem things_len : ("" : Str).length ≤ 1000 ∧ ("put" : Str).length ≤ 1000 ∧ ("take" : Str).length ≤ 1000 := by decide +kernel
section
variable {P : Program} {w : World} {K : PySem.W.Frag} {mg : Str → Option Value} {base : Heap}
theorem thl_keepB {H H' : Hp} {vs : List V} {ts : List Th} (B0 : List Addr) (h : ∀ B, ThL K B H vs ts) (e : ∀ (b : Addr) (o : HO), H b = some o → (∀ ys, o ≠ .lst ys) → (∀ ys, o ≠ .dK ys) → H' b = some o) (f : ∀ (b : Addr) (o : HO), b ∉ B0 → H b = some o → H' b = some o) : ∀ B, ThL K B H' vs ts := fun B =>
  thl_mono (B := B0 ++ B) (fun b hb => List.mem_append_right _ hb) ((h (B0 ++ B)).keep e fun b o hb eo => f b o (fun z => hb (List.mem_append_left _ z)) eo)
theorem thl_step {H H5 : Hp} {vs zs ys ws : List V} {us : List Th} {d lo l lc : Addr} {v : V} {t : Th} (hp : PotAt d lo H) (hl : H l = some (.lst zs)) (o : Old3 d lo l H H5) (h : ∀ B, ThL K B H vs us) (ht : ∀ B, ThV K B H5 v t) (elc : H5 lc = some (.lst ys)) : ∀ B, ThL K B (upd H5 lc (.lst ws)) (vs ++ [v]) (us ++ [t]) :=
  thl_keepB [lc] (fun B => ThL.app (thl_keepB [d, lo, l] h (old3_still hp hl o) (fun b u hb e => o b u e (fun z => hb (z ▸ .head _)) (fun z => hb (z ▸ .tail _ (.head _))) (fun z => hb (z ▸ .tail _ (.tail _ (.head _))))) B) ⟨ht B, trivial⟩) (upd_lst elc) fun b u hb e => (upd_ne fun z => hb (List.mem_singleton.mpr z)).trans e
theorem sT_nd {ms : Nms} (h : ms.Nodup) : (ms.map sT).Nodup := by
  refine List.Pairwise.map _ (fun a b hab z => hab ?_) h
  have : a.toArray = b.toArray := Str.mk.inj z
  simpa using this
theorem den_one {H : Hp} {us : List V} {ds : List D} {ks : List Str} (hp : ds.Perm (ks.map D.str)) (hd : DenL H us ds) {i : Nat} (hi : i < us.length) : ∃ x ∈ ks, us[i] = .str x := by
  obtain ⟨e, he, hv⟩ := hd.at_ (List.getElem?_eq_getElem hi)
  obtain ⟨x, hx, rfl⟩ := List.mem_map.mp (hp.mem_iff.mp (List.mem_of_getElem? he))
  exact ⟨x, hx, hv⟩
theorem scLaw : FnScope ["_law_script", "_law_pot_here", "_law_forms_here", "_law_k", "_law_names_here", "_law_word", "_law_signs", "_law_deed", "_law_thing_here"] ["_law_script"] (defScope sLaw) := ⟨rfl, rfl, rfl, by decide +kernel, rfl, by decide +kernel, by decide +kernel⟩
theorem ok_law {f : Addr} {fd : FuncData} (F : Fun K "law" "law" sLaw f fd) (C_pot : Cal P w K mg base "_law_pot" 1 ["_law_script"] (spPot K)) (C_forms : Cal P w K mg base "_law_forms" 1 [] spForms) (C_names : Cal P w K mg base "_law_names" 2 ["_law_pot_here"] spNames) (C_one_of : Cal P w K mg base "_law_one_of" 2 ["_law_pot_here", "_law_some"] spOneOf) (C_thing : Cal P w K mg base "_law_thing" 3 ["_law_pot_here", "_law_names_here", "_law_sign"] (spThing K)) (C_is_deed : Cal P w K mg base "is_deed" 4 ["thing"] (spTh K isDeedTh)) (C_spoilt : Cal P w K mg base "_law_spoilt" 4 ["_law_pot_here", "_law_deed", "_law_signs"] (spSpoilt K)) (m_range : mg "range" = none) (m_min : mg "min" = none) (m_len : mg "len" = none) (m_sorted : mg "sorted" = none) (m_tuple : mg "tuple" = none) : FnOk P w K mg base CX0 8 f fd ["_law_script"] (spLaw K) := by
  refine F.ok scLaw (fun vs H Q E hs => ?_) (fun cdv A outer s H vs Q E hr hs => ?_)
  · obtain ⟨a, ns, rfl, _⟩ := hs
    rfl
  obtain ⟨a, ns, rfl, hS, h63, k⟩ := hs
  refine qex ⟨_, (qss_cons ⟨(ps_set (i := 1) scLaw.nd rfl (Or.inr rfl) (pe_cal C_pot hr (by decide) rfl (pa_cons (pv 0) pa_nil)))⟩
    (qss_cons ⟨(ps_set (i := 2) scLaw.nd rfl (Or.inl rfl) (pe_cal0 C_forms hr (by decide) rfl))⟩
    (qss_cons ⟨(ps_for PassesOwn.never rfl (pi_range1 rfl m_range (pa_cons (pe_op op_add pe_int (pe_callB (call_min2 rfl) rfl m_min boot_min (pa_cons pe_int (pa_cons (pe_callB call_len_seq rfl m_len PySem.boot_len (pa_cons (pv 0) pa_nil)) pa_nil)))) pa_nil)) (pg_name (i := 3) scLaw.nd rfl (Or.inl rfl))
      (pss_cons (ps_set (i := 4) scLaw.nd rfl (Or.inr rfl) (pe_cal C_names hr (by decide) rfl (pa_cons (pv 1) pa_nil)))
    (pss_cons (ps_set (i := 5) scLaw.nd rfl (Or.inl rfl) (pe_cal C_one_of hr (by decide) rfl (pa_cons (pv 1) (pa_cons (pe_callB (call_sortedDict rfl hr.units) rfl m_sorted boot_sorted (pa_cons (pv 2) pa_nil)) pa_nil))))
    (pss_cons (ps_set (i := 6) scLaw.nd rfl (Or.inl rfl) (pe_dget (hu_of hr) (pv 2) (pv 5) (fun _ _ => rfl)))
    (pss_cons (ps_set (i := 7) scLaw.nd rfl (Or.inl rfl) (pe_callTy call_tuple_of rfl m_tuple boot_tuple (pa_cons (pe_op op_cat (pe_lst (pa_cons (pv 5) pa_nil)) (pe_compL ["_law_script", "_law_pot_here", "_law_forms_here", "_law_k", "_law_names_here", "_law_word", "_law_signs", "_law_deed", "_law_thing_here"] (defScope sLaw) ["_law_pot_here", "_law_names_here", "_law_sign"] [some 1, some 4, none] rfl rfl rfl (pi_str (pv 6)) rfl (by decide +kernel) (by decide +kernel) (by decide +kernel) (by decide +kernel) (hg := fun cl C s H ex pn E => (pg_name (i := 2) (by decide +kernel : (["_law_pot_here", "_law_names_here", "_law_sign"] : List Str).Nodup) rfl (Or.inl rfl))) (ht := fun cl C s H ex pn E => pifs_nil) (he := fun cl C s H ex pn E => (pe_cal C_thing hr (by decide) rfl (pa_cons (pv 0) (pa_cons (pv 1) (pa_cons (pv 2) pa_nil))))))) pa_nil)))
    (pss_one (ps_if (PW.pt (pw_or (pt_cmpR op_isnot_bl (pe_cal C_is_deed hr (by decide) rfl (pa_cons (pv 7) pa_nil)) pe_bl (nomark _)) (pw_or1 (pt_cmpR op_isnot_bl (pe_cal C_is_deed hr (by decide) rfl (pa_cons (pe_cal C_spoilt hr (by decide) rfl (pa_cons (pv 1) (pa_cons (pv 7) (pa_cons (pv 6) pa_nil)))) pa_nil)) pe_bl (nomark _)))))
      (pss_one (ps_ret pe_bl))
      pss_nil)))))))⟩
    (qss_cons (qs_for PassesOwn.never rfl (qi_list (qe_lst (qa_c ⟨pe_non⟩ (qa_c ⟨pe_bl⟩ (qa_c ⟨pe_int⟩ (qa_c ⟨pe_str⟩ (qa_c ⟨(pe_tup pa_nil)⟩ (qa_c ⟨(pe_lst pa_nil)⟩ (qa_c ⟨pe_dnewK⟩ (qa_c ⟨pe_str⟩ (qa_c ⟨(pe_tup (pa_cons pe_str pa_nil))⟩ (qa_c ⟨(pe_tup (pa_cons pe_non pa_nil))⟩ (qa_c ⟨(pe_tup (pa_cons (pe_tup pa_nil) pa_nil))⟩ (qa_c ⟨(pe_tup (pa_cons (pe_lst pa_nil) pa_nil))⟩ (qa_c ⟨(pe_tup (pa_cons pe_dnewK pa_nil))⟩ (qa_c ⟨(pe_tup (pa_cons pe_str (pa_cons pe_int pa_nil)))⟩ qa_nil)))))))))))))))) (pg_name (i := 8) scLaw.nd rfl (Or.inl rfl))
      (qss_one ⟨(ps_if (pt_cmpR op_isnot_bl (pe_cal C_is_deed hr (by decide) rfl (pa_cons (pv 8) pa_nil)) pe_bl (nomark _))
      (pss_one (ps_ret pe_bl))
      pss_nil)⟩))
    (qss_one ⟨(ps_ret pe_bl)⟩))))), ?_⟩
  refine ⟨_, rfl, a, ns, rfl, hS, h63, fun d lo H1 s1 p1 => ?_⟩
  refine gN ⟨rfl, fun fo H2 ffo efo s2 => gN ?_⟩
  obtain ⟨nfd, nfl⟩ := p1.ne ffo
  have p2 := p1.same s2
  have hlen : (ns.map V.int).length ≤ 63 := by rw [List.length_map]; exact h63
  refine ⟨_, rfl, a, _, rfl, .inl (s2.seq (s1.seq hS)), _, _, rfl, _, _, rfl, rfl, _, rfl, ?_, ?_, ?_⟩
  · split <;> omega
  · split <;> omega
  refine for_range (lo := 0) (fun i σ H3 => ∃ (v3 v4 v5 v6 v7 : Option V), σ = [some (.ref a), some (.ref d), some (.ref fo), v3, v4, v5, v6, v7, none] ∧ PotAt d lo H3 ∧ H3 fo = some (.dK formsK)) ⟨_, _, _, _, _, rfl, p2, efo⟩ ?_ ?_
  · rintro i σ H3 hi ⟨v3, v4, v5, v6, v7, rfl, p3, e3⟩
    refine gN ⟨_, rfl, d, lo, rfl, p3, fun l xs H4 f4 e4 r4 p4 o4 => gN ?_⟩
    have ef4 : H4 fo = some (.dK formsK) := o4 fo _ e3 nfd nfl
    have nfol : fo ≠ l := ne_of_none e3 f4
    obtain ⟨nld, nll⟩ := p3.ne f4
    -- the word
    refine ⟨_, rfl, _, rfl, fo, formsK, formsL.map (·.1), rfl, ef4, forms_keys, by decide, fun l5 us5 ds5 f5 hp5 hd5 => ?_⟩
    obtain ⟨n5d, n5l⟩ := p4.ne f5
    have hl5 : us5.length = 12 := by rw [hd5.len, hp5.length_eq]; rfl
    have s5 := same_new f5 (.lst us5)
    refine ⟨d, lo, l5, us5, rfl, p4.same s5, upd_same, n5d, n5l, (fun z => by rw [z] at hl5; cases hl5), by omega, fun j hj H6 p6 o6 => gN ?_⟩
    obtain ⟨wd, hwd, ewd⟩ := den_one hp5 hd5 hj
    obtain ⟨⟨wd', signs⟩, hmem, rfl⟩ := List.mem_map.mp hwd
    have ef6 : H6 fo = some (.dK formsK) := o6 fo _ (s5 _ _ ef4) nfd nfl
    have e6 : H6 l = some (.lst (xs.map mkT)) := o6 l _ (s5 _ _ e4) nld nll
    clear o6 s5 f5 hd5 p4 o4 e4 ef4 f4 n5d n5l
    rw [ewd]
    clear ewd
    -- its signs
    have hval := forms_val _ hmem
    have hg := DGet.k (k := Sum.inr wd') ef6
    rw [show valV formsK (Sum.inr wd') = some (.str signs) from hval] at hg
    refine ⟨_, rfl, _, rfl, fo, _, rfl, hg, gN ?_⟩
    -- the deed
    refine ⟨_, rfl, smn 1, fun l7 f7 => ?_⟩
    have s7 := same_new f7 (.lst [.str wd'])
    have e7 : (upd H6 l7 (.lst [.str wd'])) l7 = some (.lst [.str wd']) := upd_same
    have p7 := p6.same s7
    have e7l := s7 _ _ e6
    have e7f := s7 _ _ ef6
    obtain ⟨n7d, n7l⟩ := p6.ne f7
    have n7n : l7 ≠ l := (ne_of_none e6 f7).symm
    generalize upd H6 l7 (.lst [.str wd']) = H7 at e7 p7 e7l e7f
    clear s7
    refine ⟨_, rfl, signs, rfl, fun lc fc => ?_⟩
    obtain ⟨ncd, ncl⟩ := p7.ne fc
    have ncn : l ≠ lc := ne_of_none e7l fc
    have nc7 : l7 ≠ lc := ne_of_none e7 fc
    have ncf : fo ≠ lc := ne_of_none e7f fc
    have sc := same_new fc (.lst [])
    have hsz : signs.cps.size ≤ 5 := forms_len _ hmem
    have hsg : ∀ c ∈ signs.cps.toList, isSg c := forms_sg _ hmem
    refine comp_by (J := Its signs) (l := lc) signs.cps.size (fun i σ' H' => ∃ (v : Option V) (vs : List V) (us : List Th) (ms rest : Nms), σ' = [some (.ref d), some (.ref l), v] ∧ H' lc = some (.lst vs) ∧ (∀ B, ThL K B H' vs us) ∧ FitL (signs.cps.toList.take i) us ∧ us.flatMap nmsTh = ms.map sT ∧ xs.Perm (ms ++ rest) ∧ 70 ≤ rest.length + 8 * i ∧ H' l = some (.lst (rest.map mkT)) ∧ H' l7 = some (.lst [.str wd']) ∧ H' fo = some (.dK formsK) ∧ PotAt d lo H')
      ⟨none, [], [], [], xs, rfl, upd_same, (fun B => trivial), trivial, rfl, List.Perm.refl _, by rw [r4.len]; decide, sc _ _ e7l, sc _ _ e7, sc _ _ e7f, p7.new fc⟩ ?_ ?_
    · rintro σ' H8 ⟨v, vs, us, ms, rest, rfl, e8, th8, fit8, nm8, pm8, rl8, el8, e78, ef8, p8⟩
      refine ⟨Nat.le_refl _, ?_⟩
      have fit9 : FitL signs.cps.toList us := by
        rw [List.take_of_length_le (by rw [Array.length_toList]; exact Nat.le_refl _)] at fit8
        exact fit8
      have hok : DeedOk wd' signs us := ⟨hmem, fit9, fun _ => by
        rw [nm8]
        exact sT_nd ((pm8.nodup_iff.mp r4.nd).sublist (List.sublist_append_left _ _))⟩
      have lvs : vs.length ≤ 5 := by rw [(th8 []).len, fit9.len, Array.length_toList]; exact hsz
      refine ⟨l7, lc, _, _, rfl, rfl, e78, e8, small (by show 1 + vs.length ≤ 1000; omega), fun l9 f9 => ?_⟩
      have s9 := same_new f9 (.lst ([.str wd'] ++ vs))
      refine ⟨l9, _, rfl, .inl ⟨SqL.of upd_same, fun q f10 => gN ?_⟩⟩
      have s10 := s9.trans (same_new f10 (.tup ([.str wd'] ++ vs)))
      have e10 : (upd (upd H8 l9 (.lst ([.str wd'] ++ vs))) q (.tup ([.str wd'] ++ vs))) q = some (.tup (.str wd' :: vs)) := upd_same
      generalize upd (upd H8 l9 (.lst ([.str wd'] ++ vs))) q (.tup ([.str wd'] ++ vs)) = H10 at s10 e10
      have lwd : wd'.length ≤ 1000 := (forms_ok _ hmem).2.2.2.2.2.2.2.2
      have th10 : ∀ B, ThL K B H10 (.str wd' :: vs) (.str wd' :: us) := fun B => ⟨⟨rfl, lwd⟩, (th8 B).same s10⟩
      refine ⟨_, rfl, .ref q, [], .tup (.str wd' :: us), rfl, ⟨q, _, rfl, SqT.of e10, th10 []⟩, fun H11 s11 => ?_⟩
      rw [hok.good]
      refine ⟨_, _, rfl, rfl, _, rfl, iteF ?_⟩
      refine ⟨_, rfl, _, rfl, _, rfl, d, lo, q, wd', signs, us, _, rfl, (p8.same s10).same s11, SqT.of (s11 _ _ e10), (fun B => (th10 B).same s11), hok, fun v' t' H12 h1 h2 p12 o12 => ?_⟩
      refine ⟨v', [], t', rfl, h1, fun H13 s13 => ?_⟩
      rw [h2]
      refine ⟨_, _, rfl, rfl, _, rfl, iteF ?_⟩
      exact ⟨_, _, _, _, _, rfl, p12.same s13, s13 _ _ (o12 fo _ (s11 _ _ (s10 _ _ ef8)) nfd nfl)⟩
    · rintro j σ' H8 hj ⟨v, vs, us, ms, rest, rfl, e8, th8, fit8, nm8, pm8, rl8, el8, e78, ef8, p8⟩
      have hc : signs.cps.toList[j]? = some signs.cps[j] := by rw [Array.getElem?_toList, Array.getElem?_eq_getElem hj]
      have hcs : isSg signs.cps[j] := hsg _ (List.mem_of_getElem? hc)
      have hnl : NmL rest := ⟨fun x hx => r4.nm x (pm8.mem_iff.mpr (List.mem_append_right _ hx)), by omega, by have := pm8.length_eq; rw [r4.len, List.length_append] at this; omega⟩
      refine ⟨hj, ?_⟩
      rintro x H9 ⟨rfl, c, ec, rfl⟩
      have ecj : c = signs.cps[j] := by rw [Array.getElem?_eq_getElem hj] at ec; exact (Option.some.inj ec).symm
      refine gN ⟨_, rfl, _, rfl, _, rfl, d, lo, l, rest, c, rfl, p8, el8, nld, nll, hnl, by rw [ecj]; exact hcs, fun v' t' ms' rest' H10 h1 h2 h3 h4 h5 h6 e10 p10 o10 => ?_⟩
      have e10c : H10 lc = some (.lst vs) := o10 lc _ e8 ncd ncl ncn.symm
      have e107 : H10 l7 = some (.lst [.str wd']) := o10 l7 _ e78 n7d n7l n7n
      have e10f : H10 fo = some (.dK formsK) := o10 fo _ ef8 nfd nfl nfol
      have lvs : vs.length ≤ 5 := by
        rw [(th8 []).len, fit8.len, List.length_take]
        have : signs.cps.toList.length = signs.cps.size := Array.length_toList
        omega
      refine ⟨vs, e10c, small1000 (by omega), _, vs ++ [v'], us ++ [t'], ms ++ ms', rest', rfl, upd_same, thl_step p8 el8 o10 th8 h1 e10c, ?_, ?_, ?_, ?_, (upd_ne ncn).trans e10, (upd_ne nc7).trans e107, (upd_ne ncf).trans e10f, p10.upd ncd ncl⟩
      · have : signs.cps.toList.take (j + 1) = signs.cps.toList.take j ++ [c] := by
          rw [List.take_succ, hc, ecj]
          rfl
        rw [this]
        exact FitL.snoc (by rw [ecj]; exact hcs) h2 fit8
      · rw [List.flatMap_append, nm8, List.map_append]
        congr 1
        rw [List.flatMap_cons, List.flatMap_nil, List.append_nil]
        by_cases hc8 : c = 108
        · exact h3 hc8
        · rw [h4 hc8]
          exact nms_other (by rw [ecj]; exact hcs) h2 hc8
      · exact (pm8.trans (h6.append_left ms)).trans (by rw [List.append_assoc])
      · have := h6.length_eq
        rw [List.length_append] at this
        omega
  · rintro σ H3 ⟨v3, v4, v5, v6, v7, rfl, p3, e3⟩
    refine ⟨smn 0, fun a1 h1 => ⟨smn 0, fun a2 h2 => fun a3 h3 => ⟨smn 1, fun a4 h4 => ⟨smn 1, fun a5 h5 => ⟨smn 0, fun a6 h6 => ⟨smn 1, fun a7 h7 => ⟨smn 0, fun a8 h8 => ⟨smn 1, fun a9 h9 => fun a10 h10 => ⟨smn 1, fun a11 h11 => ⟨smn 2, fun a12 h12 => ⟨smn 14, fun a13 h13 => ?_⟩⟩⟩⟩⟩⟩⟩⟩⟩⟩⟩
    have t1 := same_new h1 (.tup [])
    have t2 := same_new h2 (.lst [])
    have t3 := same_new h3 (.dK [])
    have t4 := same_new h4 (.tup [.str "put"])
    have t5 := same_new h5 (.tup [.non])
    have t6 := same_new h6 (.tup [])
    have t7 := same_new h7 (.tup [.ref a6])
    have t8 := same_new h8 (.lst [])
    have t9 := same_new h9 (.tup [.ref a8])
    have t10 := same_new h10 (.dK [])
    have t11 := same_new h11 (.tup [.ref a10])
    have t12 := same_new h12 (.tup [.str "take", .int 1])
    have t13 := same_new h13 (.lst [.non, .bl true, .int 0, .str "", .ref a1, .ref a2, .ref a3, .str "put", .ref a4, .ref a5, .ref a7, .ref a9, .ref a11, .ref a12])
    have u13 := t13
    have u12 := t12.trans u13
    have u11 := t11.trans u12
    have u10 := t10.trans u11
    have u9 := t9.trans u10
    have u8 := t8.trans u9
    have u7 := t7.trans u8
    have u6 := t6.trans u7
    have u5 := t5.trans u6
    have u4 := t4.trans u5
    have u3 := t3.trans u4
    have u2 := t2.trans u3
    have hth : ThL K [] _ [.non, .bl true, .int 0, .str "", .ref a1, .ref a2, .ref a3, .str "put", .ref a4, .ref a5, .ref a7, .ref a9, .ref a11, .ref a12] things14 :=
      ⟨rfl, rfl, rfl, ⟨rfl, things_len.1⟩, ⟨a1, _, rfl, SqT.of (u2 _ _ upd_same), trivial⟩, ⟨a2, _, rfl, List.not_mem_nil, u3 _ _ upd_same⟩, ⟨a3, _, rfl, List.not_mem_nil, u4 _ _ upd_same⟩, ⟨rfl, things_len.2.1⟩,
        ⟨a4, _, rfl, SqT.of (u5 _ _ upd_same), ⟨rfl, things_len.2.1⟩, trivial⟩, ⟨a5, _, rfl, SqT.of (u6 _ _ upd_same), rfl, trivial⟩, ⟨a7, _, rfl, SqT.of (u8 _ _ upd_same), ⟨a6, _, rfl, SqT.of (u7 _ _ upd_same), trivial⟩, trivial⟩,
        ⟨a9, _, rfl, SqT.of (u10 _ _ upd_same), ⟨a8, _, rfl, List.not_mem_nil, u9 _ _ upd_same⟩, trivial⟩, ⟨a11, _, rfl, SqT.of (u12 _ _ upd_same), ⟨a10, _, rfl, List.not_mem_nil, u11 _ _ upd_same⟩, trivial⟩, ⟨a12, _, rfl, SqT.of (u13 _ _ upd_same), ⟨rfl, things_len.2.2⟩, rfl, trivial⟩, trivial⟩
    have e14 : (upd (upd (upd (upd (upd (upd (upd (upd (upd (upd (upd (upd (upd H3 a1 (.tup [])) a2 (.lst [])) a3 (.dK [])) a4 (.tup [.str "put"])) a5 (.tup [.non])) a6 (.tup [])) a7 (.tup [.ref a6])) a8 (.lst [])) a9 (.tup [.ref a8])) a10 (.dK [])) a11 (.tup [.ref a10])) a12 (.tup [.str "take", .int 1])) a13 (.lst [.non, .bl true, .int 0, .str "", .ref a1, .ref a2, .ref a3, .str "put", .ref a4, .ref a5, .ref a7, .ref a9, .ref a11, .ref a12])) a13 = some (.lst [.non, .bl true, .int 0, .str "", .ref a1, .ref a2, .ref a3, .str "put", .ref a4, .ref a5, .ref a7, .ref a9, .ref a11, .ref a12]) := upd_same
    generalize upd (upd (upd (upd (upd (upd (upd (upd (upd (upd (upd (upd (upd H3 a1 (.tup [])) a2 (.lst [])) a3 (.dK [])) a4 (.tup [.str "put"])) a5 (.tup [.non])) a6 (.tup [])) a7 (.tup [.ref a6])) a8 (.lst [])) a9 (.tup [.ref a8])) a10 (.dK [])) a11 (.tup [.ref a10])) a12 (.tup [.str "take", .int 1])) a13 (.lst [.non, .bl true, .int 0, .str "", .ref a1, .ref a2, .ref a3, .str "put", .ref a4, .ref a5, .ref a7, .ref a9, .ref a11, .ref a12]) = H14 at hth e14
    clear t1 t2 t3 t4 t5 t6 t7 t8 t9 t10 t11 t12 t13 u2 u3 u4 u5 u6 u7 u8 u9 u10 u11 u12 u13
    generalize ([.non, .bl true, .int 0, .str "", .ref a1, .ref a2, .ref a3, .str "put", .ref a4, .ref a5, .ref a7, .ref a9, .ref a11, .ref a12] : List V) = us at hth e14
    refine ⟨a13, rfl, ⟨_, SqL.of e14⟩, ?_⟩
    refine for_list (K := K) (a := a13) (xs := us) (fun i σ H15 => ∃ (v8 : Option V), σ = [some (.ref a), some (.ref d), some (.ref fo), v3, v4, v5, v6, v7, v8] ∧ Same H14 H15) ⟨_, rfl, Same.refl _⟩ ?_ ?_ ?_
    · rintro i σ H15 _ ⟨v8, rfl, s15⟩
      exact SqL.of (s15 _ _ e14)
    · rintro i y σ H15 hi ⟨v8, rfl, s15⟩
      obtain ⟨t, ht, hv⟩ := hth.at_ hi
      have hf : isDeedTh t = false := things_no t (List.mem_of_getElem? ht)
      refine gN ⟨_, rfl, y, [], t, rfl, hv.same s15, fun H16 s16 => ?_⟩
      rw [hf]
      exact ⟨_, _, rfl, rfl, _, rfl, iteF ⟨_, rfl, s15.trans s16⟩⟩
    · rintro σ H15 ⟨v8, rfl, s15⟩
      exact k _
end
theorem all_mk {l : PySem.W.OpenLaw} {w : World} {K : PySem.W.Frag} {h : Heap} {mg : Str → Option Value} {fa f1 f2 f3 f4 f5 f6 f7 f8 f9 f10 f11 f12 f13 f14 f15 f16 f17 f18 f19 f20 f21 f22 f23 : Addr} (X : K.In h) (G : h.Ns mainGlobals mg) (hfa : mg "law" = some (.ref fa))
    {od1 an1 od2 an2 od3 an3 od4 an4 od5 an5 od6 an6 od7 an7 od8 an8 od9 an9 od10 an10 od11 an11 od12 an12 od13 an13 od14 an14 od15 an15 od16 an16 od17 an17 od18 an18 od19 an19 od20 an20 od21 an21 od22 an22 od23 an23 : Option Addr} {sl1 sl2 sl3 sl4 sl5 sl6 sl7 sl8 sl9 sl10 sl11 sl12 sl13 sl14 sl15 sl16 sl17 sl18 sl19 sl20 sl21 sl22 sl23 : Array (Option Value)} {oc1 kV1 dc1 pm1 cd1 ct1 oc2 kV2 dc2 pm2 cd2 ct2 oc3 kV3 dc3 pm3 cd3 ct3 oc4 kV4 dc4 pm4 cd4 ct4 oc5 kV5 dc5 pm5 cd5 ct5 oc6 kV6 dc6 pm6 cd6 ct6 oc7 kV7 dc7 pm7 cd7 ct7 oc8 kV8 dc8 pm8 cd8 ct8 oc9 kV9 dc9 pm9 cd9 ct9 oc10 kV10 dc10 pm10 cd10 ct10 oc11 kV11 dc11 pm11 cd11 ct11 oc12 kV12 dc12 pm12 cd12 ct12 oc13 kV13 dc13 pm13 cd13 ct13 oc14 kV14 dc14 pm14 cd14 ct14 oc15 kV15 dc15 pm15 cd15 ct15 oc16 kV16 dc16 pm16 cd16 ct16 oc17 kV17 dc17 pm17 cd17 ct17 oc18 kV18 dc18 pm18 cd18 ct18 oc19 kV19 dc19 pm19 cd19 ct19 oc20 kV20 dc20 pm20 cd20 ct20 oc21 kV21 dc21 pm21 cd21 ct21 oc22 kV22 dc22 pm22 cd22 ct22 oc23 kV23 dc23 pm23 cd23 ct23 : Value}
    (a1 : PySem.W.nsIn K mainGlobals "is_number" = some (some (.ref f1))) (l1 : K.lookup f1 = some ⟨oc1, od1, .func (PySem.W.fnOf "is_number" "is_number" (defArgs sIsNumber) (defBody sIsNumber) (defScope sIsNumber) .none kV1 dc1 pm1 an1 cd1 ct1), sl1⟩) (c1 : PySem.W.codeIn K cd1 "is_number" = true) (k1 : PySem.W.keepIn K (.ref f1) = true)
    (a2 : PySem.W.nsIn K mainGlobals "is_moment" = some (some (.ref f2))) (l2 : K.lookup f2 = some ⟨oc2, od2, .func (PySem.W.fnOf "is_moment" "is_moment" (defArgs sIsMoment) (defBody sIsMoment) (defScope sIsMoment) .none kV2 dc2 pm2 an2 cd2 ct2), sl2⟩) (c2 : PySem.W.codeIn K cd2 "is_moment" = true) (k2 : PySem.W.keepIn K (.ref f2) = true)
    (a3 : PySem.W.nsIn K mainGlobals "is_side" = some (some (.ref f3))) (l3 : K.lookup f3 = some ⟨oc3, od3, .func (PySem.W.fnOf "is_side" "is_side" (defArgs sIsSide) (defBody sIsSide) (defScope sIsSide) .none kV3 dc3 pm3 an3 cd3 ct3), sl3⟩) (c3 : PySem.W.codeIn K cd3 "is_side" = true) (k3 : PySem.W.keepIn K (.ref f3) = true)
    (a4 : PySem.W.nsIn K mainGlobals "is_sign" = some (some (.ref f4))) (l4 : K.lookup f4 = some ⟨oc4, od4, .func (PySem.W.fnOf "is_sign" "is_sign" (defArgs sIsSign) (defBody sIsSign) (defScope sIsSign) .none kV4 dc4 pm4 an4 cd4 ct4), sl4⟩) (c4 : PySem.W.codeIn K cd4 "is_sign" = true) (k4 : PySem.W.keepIn K (.ref f4) = true)
    (a5 : PySem.W.nsIn K mainGlobals "is_text" = some (some (.ref f5))) (l5 : K.lookup f5 = some ⟨oc5, od5, .func (PySem.W.fnOf "is_text" "is_text" (defArgs sIsText) (defBody sIsText) (defScope sIsText) .none kV5 dc5 pm5 an5 cd5 ct5), sl5⟩) (c5 : PySem.W.codeIn K cd5 "is_text" = true) (k5 : PySem.W.keepIn K (.ref f5) = true)
    (a6 : PySem.W.nsIn K mainGlobals "is_name" = some (some (.ref f6))) (l6 : K.lookup f6 = some ⟨oc6, od6, .func (PySem.W.fnOf "is_name" "is_name" (defArgs sIsName) (defBody sIsName) (defScope sIsName) .none kV6 dc6 pm6 an6 cd6 ct6), sl6⟩) (c6 : PySem.W.codeIn K cd6 "is_name" = true) (k6 : PySem.W.keepIn K (.ref f6) = true)
    (a7 : PySem.W.nsIn K mainGlobals "are_unlike" = some (some (.ref f7))) (l7 : K.lookup f7 = some ⟨oc7, od7, .func (PySem.W.fnOf "are_unlike" "are_unlike" (defArgs sAreUnlike) (defBody sAreUnlike) (defScope sAreUnlike) .none kV7 dc7 pm7 an7 cd7 ct7), sl7⟩) (c7 : PySem.W.codeIn K cd7 "are_unlike" = true) (k7 : PySem.W.keepIn K (.ref f7) = true)
    (a8 : PySem.W.nsIn K mainGlobals "is_word_sign" = some (some (.ref f8))) (l8 : K.lookup f8 = some ⟨oc8, od8, .func (PySem.W.fnOf "is_word_sign" "is_word_sign" (defArgs sIsW) (defBody sIsW) (defScope sIsW) .none kV8 dc8 pm8 an8 cd8 ct8), sl8⟩) (c8 : PySem.W.codeIn K cd8 "is_word_sign" = true) (k8 : PySem.W.keepIn K (.ref f8) = true)
    (a9 : PySem.W.nsIn K mainGlobals "is_word" = some (some (.ref f9))) (l9 : K.lookup f9 = some ⟨oc9, od9, .func (PySem.W.fnOf "is_word" "is_word" (defArgs sIsWord) (defBody sIsWord) (defScope sIsWord) .none kV9 dc9 pm9 an9 cd9 ct9), sl9⟩) (c9 : PySem.W.codeIn K cd9 "is_word" = true) (k9 : PySem.W.keepIn K (.ref f9) = true)
    (a10 : PySem.W.nsIn K mainGlobals "are_linkable" = some (some (.ref f10))) (l10 : K.lookup f10 = some ⟨oc10, od10, .func (PySem.W.fnOf "are_linkable" "are_linkable" (defArgs sAreLinkable) (defBody sAreLinkable) (defScope sAreLinkable) .none kV10 dc10 pm10 an10 cd10 ct10), sl10⟩) (c10 : PySem.W.codeIn K cd10 "are_linkable" = true) (k10 : PySem.W.keepIn K (.ref f10) = true)
    (a11 : PySem.W.nsIn K mainGlobals "is_of_kind" = some (some (.ref f11))) (l11 : K.lookup f11 = some ⟨oc11, od11, .func (PySem.W.fnOf "is_of_kind" "is_of_kind" (defArgs sIsOfKind) (defBody sIsOfKind) (defScope sIsOfKind) .none kV11 dc11 pm11 an11 cd11 ct11), sl11⟩) (c11 : PySem.W.codeIn K cd11 "is_of_kind" = true) (k11 : PySem.W.keepIn K (.ref f11) = true)
    (a12 : PySem.W.nsIn K mainGlobals "is_deed" = some (some (.ref f12))) (l12 : K.lookup f12 = some ⟨oc12, od12, .func (PySem.W.fnOf "is_deed" "is_deed" (defArgs sIsDeed) (defBody sIsDeed) (defScope sIsDeed) .none kV12 dc12 pm12 an12 cd12 ct12), sl12⟩) (c12 : PySem.W.codeIn K cd12 "is_deed" = true) (k12 : PySem.W.keepIn K (.ref f12) = true)
    (a13 : PySem.W.nsIn K mainGlobals "_law_pot" = some (some (.ref f13))) (l13 : K.lookup f13 = some ⟨oc13, od13, .func (PySem.W.fnOf "_law_pot" "_law_pot" (defArgs sPot) (defBody sPot) (defScope sPot) .none kV13 dc13 pm13 an13 cd13 ct13), sl13⟩) (c13 : PySem.W.codeIn K cd13 "_law_pot" = true) (k13 : PySem.W.keepIn K (.ref f13) = true)
    (a14 : PySem.W.nsIn K mainGlobals "_law_next" = some (some (.ref f14))) (l14 : K.lookup f14 = some ⟨oc14, od14, .func (PySem.W.fnOf "_law_next" "_law_next" (defArgs sNext) (defBody sNext) (defScope sNext) .none kV14 dc14 pm14 an14 cd14 ct14), sl14⟩) (c14 : PySem.W.codeIn K cd14 "_law_next" = true) (k14 : PySem.W.keepIn K (.ref f14) = true)
    (a15 : PySem.W.nsIn K mainGlobals "_law_names" = some (some (.ref f15))) (l15 : K.lookup f15 = some ⟨oc15, od15, .func (PySem.W.fnOf "_law_names" "_law_names" (defArgs sNames) (defBody sNames) (defScope sNames) .none kV15 dc15 pm15 an15 cd15 ct15), sl15⟩) (c15 : PySem.W.codeIn K cd15 "_law_names" = true) (k15 : PySem.W.keepIn K (.ref f15) = true)
    (a16 : PySem.W.nsIn K mainGlobals "_law_taken" = some (some (.ref f16))) (l16 : K.lookup f16 = some ⟨oc16, od16, .func (PySem.W.fnOf "_law_taken" "_law_taken" (defArgs sTaken) (defBody sTaken) (defScope sTaken) .none kV16 dc16 pm16 an16 cd16 ct16), sl16⟩) (c16 : PySem.W.codeIn K cd16 "_law_taken" = true) (k16 : PySem.W.keepIn K (.ref f16) = true)
    (a17 : PySem.W.nsIn K mainGlobals "_law_text" = some (some (.ref f17))) (l17 : K.lookup f17 = some ⟨oc17, od17, .func (PySem.W.fnOf "_law_text" "_law_text" (defArgs sText) (defBody sText) (defScope sText) .none kV17 dc17 pm17 an17 cd17 ct17), sl17⟩) (c17 : PySem.W.codeIn K cd17 "_law_text" = true) (k17 : PySem.W.keepIn K (.ref f17) = true)
    (a18 : PySem.W.nsIn K mainGlobals "_law_one_of" = some (some (.ref f18))) (l18 : K.lookup f18 = some ⟨oc18, od18, .func (PySem.W.fnOf "_law_one_of" "_law_one_of" (defArgs sOneOf) (defBody sOneOf) (defScope sOneOf) .none kV18 dc18 pm18 an18 cd18 ct18), sl18⟩) (c18 : PySem.W.codeIn K cd18 "_law_one_of" = true) (k18 : PySem.W.keepIn K (.ref f18) = true)
    (a19 : PySem.W.nsIn K mainGlobals "_law_forms" = some (some (.ref f19))) (l19 : K.lookup f19 = some ⟨oc19, od19, .func (PySem.W.fnOf "_law_forms" "_law_forms" (defArgs sForms) (defBody sForms) (defScope sForms) .none kV19 dc19 pm19 an19 cd19 ct19), sl19⟩) (c19 : PySem.W.codeIn K cd19 "_law_forms" = true) (k19 : PySem.W.keepIn K (.ref f19) = true)
    (a20 : PySem.W.nsIn K mainGlobals "_law_thing" = some (some (.ref f20))) (l20 : K.lookup f20 = some ⟨oc20, od20, .func (PySem.W.fnOf "_law_thing" "_law_thing" (defArgs sThing) (defBody sThing) (defScope sThing) .none kV20 dc20 pm20 an20 cd20 ct20), sl20⟩) (c20 : PySem.W.codeIn K cd20 "_law_thing" = true) (k20 : PySem.W.keepIn K (.ref f20) = true)
    (a21 : PySem.W.nsIn K mainGlobals "_law_odd" = some (some (.ref f21))) (l21 : K.lookup f21 = some ⟨oc21, od21, .func (PySem.W.fnOf "_law_odd" "_law_odd" (defArgs sOdd) (defBody sOdd) (defScope sOdd) .none kV21 dc21 pm21 an21 cd21 ct21), sl21⟩) (c21 : PySem.W.codeIn K cd21 "_law_odd" = true) (k21 : PySem.W.keepIn K (.ref f21) = true)
    (a22 : PySem.W.nsIn K mainGlobals "_law_spoilt" = some (some (.ref f22))) (l22 : K.lookup f22 = some ⟨oc22, od22, .func (PySem.W.fnOf "_law_spoilt" "_law_spoilt" (defArgs sSpoilt) (defBody sSpoilt) (defScope sSpoilt) .none kV22 dc22 pm22 an22 cd22 ct22), sl22⟩) (c22 : PySem.W.codeIn K cd22 "_law_spoilt" = true) (k22 : PySem.W.keepIn K (.ref f22) = true)
    (a23 : PySem.W.nsIn K mainGlobals "law" = some (some (.ref f23))) (l23 : K.lookup f23 = some ⟨oc23, od23, .func (PySem.W.fnOf "law" "law" (defArgs sLaw) (defBody sLaw) (defScope sLaw) .none kV23 dc23 pm23 an23 cd23 ct23), sl23⟩) (c23 : PySem.W.codeIn K cd23 "law" = true) (k23 : PySem.W.keepIn K (.ref f23) = true)
    {t_LAST_MOMENT t_LETTERS t_MOST_LETTERS t_MOST_WORD_SIGNS t_MOST_LINKED : Tok} (p_LAST_MOMENT : PySem.W.nsIn K mainGlobals "LAST_MOMENT" = some (some (.int 1000000000000 t_LAST_MOMENT))) (p_LETTERS : PySem.W.nsIn K mainGlobals "LETTERS" = some (some (.str LET t_LETTERS))) (p_MOST_LETTERS : PySem.W.nsIn K mainGlobals "MOST_LETTERS" = some (some (.int 8 t_MOST_LETTERS))) (p_MOST_WORD_SIGNS : PySem.W.nsIn K mainGlobals "MOST_WORD_SIGNS" = some (some (.int 20 t_MOST_WORD_SIGNS))) (p_MOST_LINKED : PySem.W.nsIn K mainGlobals "MOST_LINKED" = some (some (.int 8 t_MOST_LINKED)))
    {t_FORMS : Addr} (p_FORMS : PySem.W.nsIn K mainGlobals "FORMS" = some (some (.ref t_FORMS))) (kt_FORMS : KTbl K t_FORMS tab_FORMS)
    (z_len : PySem.W.nsIn K mainGlobals "len" = some none) (z_int : PySem.W.nsIn K mainGlobals "int" = some none) (z_range : PySem.W.nsIn K mainGlobals "range" = some none) (z_isinstance : PySem.W.nsIn K mainGlobals "isinstance" = some none) (z_tuple : PySem.W.nsIn K mainGlobals "tuple" = some none) (z_bool : PySem.W.nsIn K mainGlobals "bool" = some none) (z_str : PySem.W.nsIn K mainGlobals "str" = some none) (z_list : PySem.W.nsIn K mainGlobals "list" = some none) (z_sorted : PySem.W.nsIn K mainGlobals "sorted" = some none) (z_min : PySem.W.nsIn K mainGlobals "min" = some none) (z_zip : PySem.W.nsIn K mainGlobals "zip" = some none) (z_set : PySem.W.nsIn K mainGlobals "set" = some none) (z_all : PySem.W.nsIn K mainGlobals "all" = some none) :
    ∃ fd : FuncData, (∀ (s : Shared) (v : Value), BindsTo s fd ⟨[v], []⟩ [("_law_script", v)]) ∧ ∀ base : Heap, K.In base → base.Ns mainGlobals mg → FnOk l.prog w K mg base CX0 8 fa fd ["_law_script"] (spLaw K) := by
  have e := hfa.symm.trans (PySem.W.mg_of X G a23)
  cases e
  have F1 := fun_mk (st := sIsNumber) l1 c1 k1
  have h_is_number : Has K mg "is_number" sIsNumber ["thing"] := ⟨_, _, F1, F1.binds fun _ _ _ _ _ _ us hl => match us, hl with | [_], _ => rfl, PySem.W.mg_of X G a1⟩
  have F2 := fun_mk (st := sIsMoment) l2 c2 k2
  have h_is_moment : Has K mg "is_moment" sIsMoment ["thing"] := ⟨_, _, F2, F2.binds fun _ _ _ _ _ _ us hl => match us, hl with | [_], _ => rfl, PySem.W.mg_of X G a2⟩
  have F3 := fun_mk (st := sIsSide) l3 c3 k3
  have h_is_side : Has K mg "is_side" sIsSide ["thing"] := ⟨_, _, F3, F3.binds fun _ _ _ _ _ _ us hl => match us, hl with | [_], _ => rfl, PySem.W.mg_of X G a3⟩
  have F4 := fun_mk (st := sIsSign) l4 c4 k4
  have h_is_sign : Has K mg "is_sign" sIsSign ["sign"] := ⟨_, _, F4, F4.binds fun _ _ _ _ _ _ us hl => match us, hl with | [_], _ => rfl, PySem.W.mg_of X G a4⟩
  have F5 := fun_mk (st := sIsText) l5 c5 k5
  have h_is_text : Has K mg "is_text" sIsText ["thing"] := ⟨_, _, F5, F5.binds fun _ _ _ _ _ _ us hl => match us, hl with | [_], _ => rfl, PySem.W.mg_of X G a5⟩
  have F6 := fun_mk (st := sIsName) l6 c6 k6
  have h_is_name : Has K mg "is_name" sIsName ["thing"] := ⟨_, _, F6, F6.binds fun _ _ _ _ _ _ us hl => match us, hl with | [_], _ => rfl, PySem.W.mg_of X G a6⟩
  have F7 := fun_mk (st := sAreUnlike) l7 c7 k7
  have h_are_unlike : Has K mg "are_unlike" sAreUnlike ["names"] := ⟨_, _, F7, F7.binds fun _ _ _ _ _ _ us hl => match us, hl with | [_], _ => rfl, PySem.W.mg_of X G a7⟩
  have F8 := fun_mk (st := sIsW) l8 c8 k8
  have h_isw : Has K mg "is_word_sign" sIsW ["sign"] := ⟨_, _, F8, F8.binds fun _ _ _ _ _ _ us hl => match us, hl with | [_], _ => rfl, PySem.W.mg_of X G a8⟩
  have F9 := fun_mk (st := sIsWord) l9 c9 k9
  have h_is_word : Has K mg "is_word" sIsWord ["thing"] := ⟨_, _, F9, F9.binds fun _ _ _ _ _ _ us hl => match us, hl with | [_], _ => rfl, PySem.W.mg_of X G a9⟩
  have F10 := fun_mk (st := sAreLinkable) l10 c10 k10
  have h_are_linkable : Has K mg "are_linkable" sAreLinkable ["thing"] := ⟨_, _, F10, F10.binds fun _ _ _ _ _ _ us hl => match us, hl with | [_], _ => rfl, PySem.W.mg_of X G a10⟩
  have F11 := fun_mk (st := sIsOfKind) l11 c11 k11
  have h_is_of_kind : Has K mg "is_of_kind" sIsOfKind ["thing", "kind"] := ⟨_, _, F11, F11.binds fun _ _ _ _ _ _ us hl => match us, hl with | [_, _], _ => rfl, PySem.W.mg_of X G a11⟩
  have F12 := fun_mk (st := sIsDeed) l12 c12 k12
  have h_is_deed : Has K mg "is_deed" sIsDeed ["thing"] := ⟨_, _, F12, F12.binds fun _ _ _ _ _ _ us hl => match us, hl with | [_], _ => rfl, PySem.W.mg_of X G a12⟩
  have F13 := fun_mk (st := sPot) l13 c13 k13
  have h_pot : Has K mg "_law_pot" sPot ["_law_script"] := ⟨_, _, F13, F13.binds fun _ _ _ _ _ _ us hl => match us, hl with | [_], _ => rfl, PySem.W.mg_of X G a13⟩
  have F14 := fun_mk (st := sNext) l14 c14 k14
  have h_next : Has K mg "_law_next" sNext ["_law_pot_here", "_law_many"] := ⟨_, _, F14, F14.binds fun _ _ _ _ _ _ us hl => match us, hl with | [_, _], _ => rfl, PySem.W.mg_of X G a14⟩
  have F15 := fun_mk (st := sNames) l15 c15 k15
  have h_names : Has K mg "_law_names" sNames ["_law_pot_here"] := ⟨_, _, F15, F15.binds fun _ _ _ _ _ _ us hl => match us, hl with | [_], _ => rfl, PySem.W.mg_of X G a15⟩
  have F16 := fun_mk (st := sTaken) l16 c16 k16
  have h_taken : Has K mg "_law_taken" sTaken ["_law_pot_here", "_law_names_here"] := ⟨_, _, F16, F16.binds fun _ _ _ _ _ _ us hl => match us, hl with | [_, _], _ => rfl, PySem.W.mg_of X G a16⟩
  have F17 := fun_mk (st := sText) l17 c17 k17
  have h_text : Has K mg "_law_text" sText ["_law_pot_here"] := ⟨_, _, F17, F17.binds fun _ _ _ _ _ _ us hl => match us, hl with | [_], _ => rfl, PySem.W.mg_of X G a17⟩
  have F18 := fun_mk (st := sOneOf) l18 c18 k18
  have h_one_of : Has K mg "_law_one_of" sOneOf ["_law_pot_here", "_law_some"] := ⟨_, _, F18, F18.binds fun _ _ _ _ _ _ us hl => match us, hl with | [_, _], _ => rfl, PySem.W.mg_of X G a18⟩
  have F19 := fun_mk (st := sForms) l19 c19 k19
  have h_forms : Has K mg "_law_forms" sForms [] := ⟨_, _, F19, F19.binds fun _ _ _ _ _ _ us hl => match us, hl with | [], _ => rfl, PySem.W.mg_of X G a19⟩
  have F20 := fun_mk (st := sThing) l20 c20 k20
  have h_thing : Has K mg "_law_thing" sThing ["_law_pot_here", "_law_names_here", "_law_sign"] := ⟨_, _, F20, F20.binds fun _ _ _ _ _ _ us hl => match us, hl with | [_, _, _], _ => rfl, PySem.W.mg_of X G a20⟩
  have F21 := fun_mk (st := sOdd) l21 c21 k21
  have h_odd : Has K mg "_law_odd" sOdd ["_law_pot_here", "_law_thing_here", "_law_other", "_law_sign"] := ⟨_, _, F21, F21.binds fun _ _ _ _ _ _ us hl => match us, hl with | [_, _, _, _], _ => rfl, PySem.W.mg_of X G a21⟩
  have F22 := fun_mk (st := sSpoilt) l22 c22 k22
  have h_spoilt : Has K mg "_law_spoilt" sSpoilt ["_law_pot_here", "_law_deed", "_law_signs"] := ⟨_, _, F22, F22.binds fun _ _ _ _ _ _ us hl => match us, hl with | [_, _, _], _ => rfl, PySem.W.mg_of X G a22⟩
  have F23 := fun_mk (st := sLaw) l23 c23 k23
  have m_len := PySem.W.mg_none_of X G z_len
  have m_int := PySem.W.mg_none_of X G z_int
  have m_range := PySem.W.mg_none_of X G z_range
  have m_isinstance := PySem.W.mg_none_of X G z_isinstance
  have m_tuple := PySem.W.mg_none_of X G z_tuple
  have m_bool := PySem.W.mg_none_of X G z_bool
  have m_str := PySem.W.mg_none_of X G z_str
  have m_list := PySem.W.mg_none_of X G z_list
  have m_sorted := PySem.W.mg_none_of X G z_sorted
  have m_min := PySem.W.mg_none_of X G z_min
  have m_zip := PySem.W.mg_none_of X G z_zip
  have m_set := PySem.W.mg_none_of X G z_set
  have m_all := PySem.W.mg_none_of X G z_all
  have q_LAST_MOMENT := PySem.W.mg_of X G p_LAST_MOMENT
  have q_LETTERS := PySem.W.mg_of X G p_LETTERS
  have q_MOST_LETTERS := PySem.W.mg_of X G p_MOST_LETTERS
  have q_MOST_WORD_SIGNS := PySem.W.mg_of X G p_MOST_WORD_SIGNS
  have q_MOST_LINKED := PySem.W.mg_of X G p_MOST_LINKED
  have q_FORMS := PySem.W.mg_of X G p_FORMS
  refine ⟨PySem.W.fnOf "law" "law" (defArgs sLaw) (defBody sLaw) (defScope sLaw) .none kV23 dc23 pm23 an23 cd23 ct23, fun s v => .of_eq rfl, fun base _ _ => ?_⟩
  have C_is_number := c_is_number (P := l.prog) (w := w) (base := base) h_is_number m_isinstance m_bool m_int
  have C_is_moment := c_is_moment (P := l.prog) (w := w) (base := base) h_is_moment C_is_number q_LAST_MOMENT
  have C_is_side := c_is_side (P := l.prog) (w := w) (base := base) h_is_side C_is_number
  have C_is_sign := c_is_sign (P := l.prog) (w := w) (base := base) h_is_sign 
  have C_is_text := c_is_text (P := l.prog) (w := w) (base := base) h_is_text C_is_sign m_all m_isinstance m_str
  have C_is_name := c_is_name (P := l.prog) (w := w) (base := base) h_is_name m_isinstance m_str m_all m_len q_LETTERS q_MOST_LETTERS
  have C_isw := c_isw (P := l.prog) (w := w) (base := base) h_isw 
  have C_is_word := c_is_word (P := l.prog) (w := w) (base := base) h_is_word C_isw m_isinstance m_str m_all m_len q_MOST_WORD_SIGNS
  have C_are_linkable := c_are_linkable (P := l.prog) (w := w) (base := base) h_are_linkable C_is_name m_isinstance m_tuple m_all m_len q_MOST_LINKED
  have C_is_of_kind := c_is_of_kind (P := l.prog) (w := w) (base := base) h_is_of_kind C_is_side C_is_name C_are_linkable C_is_moment C_is_word C_is_text m_isinstance m_str
  have C_are_unlike := c_are_unlike (P := l.prog) (w := w) (base := base) h_are_unlike m_len m_set
  have C_is_deed := c_is_deed (P := l.prog) (w := w) (base := base) h_is_deed C_is_moment C_is_of_kind C_are_unlike m_len m_isinstance m_tuple m_str m_all m_zip q_FORMS kt_FORMS
  have C_pot := c_pot (P := l.prog) (w := w) (base := base) h_pot 
  have C_next := c_next (P := l.prog) (w := w) (base := base) h_next 
  have C_taken := c_taken (P := l.prog) (w := w) (base := base) h_taken C_next m_len
  have C_text := c_text (P := l.prog) (w := w) (base := base) h_text C_next m_range
  have C_names := c_names (P := l.prog) (w := w) (base := base) h_names C_next m_range
  have C_one_of := c_one_of (P := l.prog) (w := w) (base := base) h_one_of C_next m_len
  have C_forms := c_forms (P := l.prog) (w := w) (base := base) h_forms 
  have C_thing := c_thing (P := l.prog) (w := w) (base := base) h_thing C_next C_one_of C_text C_taken m_int m_tuple m_range
  have C_odd := c_odd (P := l.prog) (w := w) (base := base) h_odd C_one_of m_tuple m_list m_int
  have C_spoilt := c_spoilt (P := l.prog) (w := w) (base := base) h_spoilt C_next C_one_of C_odd m_list m_len m_int
  exact ok_law F23 C_pot C_forms C_names C_one_of C_thing C_is_deed C_spoilt m_range m_min m_len m_sorted m_tuple
theorem walk {l : PySem.W.OpenLaw} {q : Program} {loose : List Str} {XP : (Str → Option Value) → Heap → Prop} {YP : World → Heap → Prop} {d : DefRec} {K : Params → PySem.W.Frag} (hn : l.most = some 63) (hdf : d.params.defaults = [])
    (hY : ∀ (w : World) (h : Heap), YP w h → (K w.params).In h)
    (F : ∀ (w : World) (mg : Str → Option Value) (fa : Addr) (h : Heap), (K w.params).In h → h.Ns mainGlobals mg → mg d.name = some (.ref fa) →
      ∃ fd : FuncData, (∀ (s : Shared) (u : Value), BindsTo s fd ⟨[u], []⟩ [("_law_script", u)]) ∧ ∀ base : Heap, (K w.params).In base → base.Ns mainGlobals mg → FnOk l.prog w (K w.params) mg base CX0 8 fa fd ["_law_script"] (spLaw (K w.params))) :
    PySem.W.WalkO q loose XP YP l.row.toRowW d [] (fun f vs => PySem.call f vs) :=
  L2.walk_of (n := 63) (k := 8) (x := "_law_script") (CX := fun _ => CX0) (sp := fun w => spLaw (K w.params)) hn (by decide) hdf ⟨rfl, by decide, by decide⟩ hY F (fun _ _ a ns hl _ hS => ⟨a, ns, rfl, hS, hl, fun _ => rfl⟩) fun _ _ _ _ _ z => z
end Mine

open PySem PySem.W PyProof.Rows
set_option maxRecDepth 100000 in
set_option maxHeartbeats 0 in
theorem PySem.Challenge.cw_twainkeep_k18_what_is_a_deed_holds : PySem.Challenge.rw_twainkeep_k18_what_is_a_deed.Holds := by
  w_on; o_law; k_head; (case hw => w_witness2)
  k_fill
  refine Mine.walk (l := PySem.Challenge.rw_twainkeep_k18_what_is_a_deed) rfl rfl (fun w h Y => PySem.W.kIn_of Y) ?F
  case F =>
    intro w mg fa h KX G hmg
    refine' Mine.all_mk KX G hmg ?a1 ?l1 ?c1 ?k1 ?a2 ?l2 ?c2 ?k2 ?a3 ?l3 ?c3 ?k3 ?a4 ?l4 ?c4 ?k4 ?a5 ?l5 ?c5 ?k5 ?a6 ?l6 ?c6 ?k6 ?a7 ?l7 ?c7 ?k7 ?a8 ?l8 ?c8 ?k8 ?a9 ?l9 ?c9 ?k9 ?a10 ?l10 ?c10 ?k10 ?a11 ?l11 ?c11 ?k11 ?a12 ?l12 ?c12 ?k12 ?a13 ?l13 ?c13 ?k13 ?a14 ?l14 ?c14 ?k14 ?a15 ?l15 ?c15 ?k15 ?a16 ?l16 ?c16 ?k16 ?a17 ?l17 ?c17 ?k17 ?a18 ?l18 ?c18 ?k18 ?a19 ?l19 ?c19 ?k19 ?a20 ?l20 ?c20 ?k20 ?a21 ?l21 ?c21 ?k21 ?a22 ?l22 ?c22 ?k22 ?a23 ?l23 ?c23 ?k23 ?p_LAST_MOMENT ?p_LETTERS ?p_MOST_LETTERS ?p_MOST_WORD_SIGNS ?p_MOST_LINKED ?p_FORMS ?kt_FORMS ?z_len ?z_int ?z_range ?z_isinstance ?z_tuple ?z_bool ?z_str ?z_list ?z_sorted ?z_min ?z_zip ?z_set ?z_all
    (case a1 => k_is)
    (case l1 => k_is)
    (case c1 => k_is)
    (case k1 => k_is)
    (case a2 => k_is)
    (case l2 => k_is)
    (case c2 => k_is)
    (case k2 => k_is)
    (case a3 => k_is)
    (case l3 => k_is)
    (case c3 => k_is)
    (case k3 => k_is)
    (case a4 => k_is)
    (case l4 => k_is)
    (case c4 => k_is)
    (case k4 => k_is)
    (case a5 => k_is)
    (case l5 => k_is)
    (case c5 => k_is)
    (case k5 => k_is)
    (case a6 => k_is)
    (case l6 => k_is)
    (case c6 => k_is)
    (case k6 => k_is)
    (case a7 => k_is)
    (case l7 => k_is)
    (case c7 => k_is)
    (case k7 => k_is)
    (case a8 => k_is)
    (case l8 => k_is)
    (case c8 => k_is)
    (case k8 => k_is)
    (case a9 => k_is)
    (case l9 => k_is)
    (case c9 => k_is)
    (case k9 => k_is)
    (case a10 => k_is)
    (case l10 => k_is)
    (case c10 => k_is)
    (case k10 => k_is)
    (case a11 => k_is)
    (case l11 => k_is)
    (case c11 => k_is)
    (case k11 => k_is)
    (case a12 => k_is)
    (case l12 => k_is)
    (case c12 => k_is)
    (case k12 => k_is)
    (case a13 => k_is)
    (case l13 => k_is)
    (case c13 => k_is)
    (case k13 => k_is)
    (case a14 => k_is)
    (case l14 => k_is)
    (case c14 => k_is)
    (case k14 => k_is)
    (case a15 => k_is)
    (case l15 => k_is)
    (case c15 => k_is)
    (case k15 => k_is)
    (case a16 => k_is)
    (case l16 => k_is)
    (case c16 => k_is)
    (case k16 => k_is)
    (case a17 => k_is)
    (case l17 => k_is)
    (case c17 => k_is)
    (case k17 => k_is)
    (case a18 => k_is)
    (case l18 => k_is)
    (case c18 => k_is)
    (case k18 => k_is)
    (case a19 => k_is)
    (case l19 => k_is)
    (case c19 => k_is)
    (case k19 => k_is)
    (case a20 => k_is)
    (case l20 => k_is)
    (case c20 => k_is)
    (case k20 => k_is)
    (case a21 => k_is)
    (case l21 => k_is)
    (case c21 => k_is)
    (case k21 => k_is)
    (case a22 => k_is)
    (case l22 => k_is)
    (case c22 => k_is)
    (case k22 => k_is)
    (case a23 => k_is)
    (case l23 => k_is)
    (case c23 => k_is)
    (case k23 => k_is)
    (case p_LAST_MOMENT => k_is)
    (case p_LETTERS => k_is)
    (case p_MOST_LETTERS => k_is)
    (case p_MOST_WORD_SIGNS => k_is)
    (case p_MOST_LINKED => k_is)
    (case p_FORMS => k_is)
    (case kt_FORMS => (unfold L2.KTbl; kernel_rfl))
    (case z_len => k_is)
    (case z_int => k_is)
    (case z_range => k_is)
    (case z_isinstance => k_is)
    (case z_tuple => k_is)
    (case z_bool => k_is)
    (case z_str => k_is)
    (case z_list => k_is)
    (case z_sorted => k_is)
    (case z_min => k_is)
    (case z_zip => k_is)
    (case z_set => k_is)
    (case z_all => k_is)
