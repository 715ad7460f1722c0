import PyProof.Rows.All
import Wide.All
import OpenK.AllK
import Wide.FinOn
import PyProof.EqAt
import PyProof.EqKinds
import PyProof.TupleCall
import KE.BitLaws
import PyProof.Rows.Rebase
import KE.KNest
import PyProof.GenCompD
import PyProof.ConsumeS
import PyProof.ListRange
import PyProof.WalksMore
import PyProof.Rows.SeqGenD
import PyProof.Rows.SeqMore
import PyProof.IsiPairs
import PyProof.IsiHeapPairs
import PyProof.IsiNone
import PyProof.FitsBits
import PyProof.TupleOfSeq
import PyProof.Rows.GenSrcRange
import PyProof.Rows.SetFrom
import PyProof.SetRoads
import PyProof.Rows.CatchOwn
import PyProof.NsDelKeeps
import PyProof.ExcBaseAll.ValueError
import OpenK.KOwn
import KE.KIsAll
import PyProof.ExcAttrAll.ValueError
import PyProof.Wp
import KE.KSortTupG
import PyProof.Rows.SortShellAny
import PyProof.Rows.SortRev
import PyProof.Draws
import PyProof.WalksU
import PyProof.EnumMake
import PyProof.ListMulRoad
import KE.KSortTup
import KE.KDictSum
import PyProof.DictWalks
import PyProof.ReprRoads
import PyProof.ReprLen
import PyProof.CallStr
import PyProof.P3In
import KE.KMinBuiltin
import KE.KPairComp
import KE.IntBitsLaws
import KE.KRevIter
import PyProof.FactsAll.range
import PyProof.Rows.RuleB_lshift
import PyProof.Rows.RuleM_int
import PyProof.CollectIter
import PyProof.TupleOfGen
import PySem.Challenge.RW_crossbends_k32_differences_along_words
set_option Elab.async false
set_option linter.all false
set_option maxRecDepth 100000
/-! THE HAND LAYER, for ints, bools, texts, own classes, lists, tuples, dicts, comprehensions, walks over dicts, enumerate, zip, reversed, texts, calls, loops. Paste it whole ahead of your own text; what your proof does not reach may be deleted. -/
namespace L2
open PySem PySem.Spec PyProof.Rows

/-- a key: an int or a str -/
abbrev Key := Sum Int Str
def keyIs : Key → Value → Bool
  | .inl k, v => Value.isInt k v
  | .inr x, v => Value.isStrOf x v
def keyH (w : World) : Key → Int
  | .inl k => hashInt k
  | .inr x => hashStr w x
theorem keyIs_shape : ∀ {k : Key} {v : Value}, keyIs k v = true → (∃ i t, k = Sum.inl i ∧ v = Value.int i t) ∨ (∃ x t, k = Sum.inr x ∧ v = Value.str x t)
  | .inl i, v, h => by
    obtain ⟨t, e⟩ := Value.isInt_shape (k := i) (v := v) h
    exact .inl ⟨i, t, rfl, e⟩
  | .inr x, v, h => by
    obtain ⟨t, e⟩ := Value.isStrOf_shape (x := x) (v := v) h
    exact .inr ⟨x, t, rfl, e⟩
theorem keyIs_int (i : Int) (t : Tok) : keyIs (.inl i) (.int i t) = true := by simp [keyIs, Value.isInt]
theorem keyIs_str (x : Str) (t : Tok) : keyIs (.inr x) (.str x t) = true := by simp [keyIs, Value.isStrOf]
theorem key_ll (a b : Int) : decide ((Sum.inl a : Key) = Sum.inl b) = (a == b) := by
  by_cases e : a = b
  · subst e; simp
  · have h : ¬ (Sum.inl a : Key) = Sum.inl b := fun q => e (Sum.inl.inj q)
    rw [decide_eq_false h]
    exact (beq_eq_false_iff_ne.mpr e).symm
theorem key_rr (a b : Str) : decide ((Sum.inr a : Key) = Sum.inr b) = decide (a = b) := by
  by_cases e : a = b
  · subst e; simp
  · have h : ¬ (Sum.inr a : Key) = Sum.inr b := fun q => e (Sum.inr.inj q)
    rw [decide_eq_false h, decide_eq_false e]
theorem key_lr (a : Int) (b : Str) : decide ((Sum.inl a : Key) = Sum.inr b) = false := decide_eq_false (fun q => nomatch q)
theorem key_rl (a : Str) (b : Int) : decide ((Sum.inr a : Key) = Sum.inl b) = false := decide_eq_false (fun q => nomatch q)

def mixKind (prog : Program) (w : World) : PySem.KeyKind prog w Key where
  is := keyIs
  hash := keyH w
  inj := fun v a b ha hb => by
    rcases keyIs_shape ha with ⟨i, t, rfl, rfl⟩ | ⟨x, t, rfl, rfl⟩
    · rcases keyIs_shape hb with ⟨j, u, rfl, e⟩ | ⟨y, u, rfl, e⟩
      · injection e with e1 _; rw [e1]
      · exact nomatch e
    · rcases keyIs_shape hb with ⟨j, u, rfl, e⟩ | ⟨y, u, rfl, e⟩
      · exact nomatch e
      · injection e with e1 _; rw [e1]
  byValue := fun k v h => by
    rcases keyIs_shape h with ⟨i, t, rfl, rfl⟩ | ⟨x, t, rfl, rfl⟩ <;> rfl
  pyHash := fun hv h => by
    rcases keyIs_shape hv with ⟨i, t, rfl, rfl⟩ | ⟨x, t, rfl, rfl⟩
    · exact wpAny_pyHash_int h
    · exact wpAny_pyHash_str h
  eqBool := fun hu hv h => by
    rcases keyIs_shape hu with ⟨i, t, rfl, rfl⟩ | ⟨x, t, rfl, rfl⟩
    · rcases keyIs_shape hv with ⟨j, u, rfl, rfl⟩ | ⟨y, u, rfl, rfl⟩
      · rw [key_ll] at h; exact wpAny_eqBool_int h
      · rw [key_lr] at h; exact SeqAt.EqAt.int_str i t y u _ _ _ _ h
    · rcases keyIs_shape hv with ⟨j, u, rfl, rfl⟩ | ⟨y, u, rfl, rfl⟩
      · rw [key_rl] at h; exact SeqAt.EqAt.str_int x t j u _ _ _ _ h
      · rw [key_rr] at h; exact wpAny_eqBool_str h
  «strs» := fun k x t v h => by
    rcases keyIs_shape h with ⟨i, u, rfl, e⟩ | ⟨y, u, rfl, e⟩
    · exact nomatch e
    · injection e with e1 _
      subst e1
      cases v <;> rfl

theorem mixKind_int (prog : Program) (w : World) (i : Int) (t : Tok) : (mixKind prog w).is (.inl i) (.int i t) = true := keyIs_int i t
theorem mixKind_str (prog : Program) (w : World) (x : Str) (t : Tok) : (mixKind prog w).is (.inr x) (.str x t) = true := keyIs_str x t
end L2

namespace L2
open PySem PySem.Spec PyProof.Rows

/-- a value, without the heap -/
inductive V where
  | non | bl (b : Bool) | int (i : Int) | str (x : Str) | byt (b : Array UInt8) | flt (b : UInt64) | ref (a : Addr) | ty (n : String)
  deriving DecidableEq

def RelV : V → Value → Prop
  | .non, u => u = Value.none
  | .bl b, u => u = Value.bool b
  | .int i, u => ∃ t, u = Value.int i t
  | .str x, u => ∃ t, u = Value.str x t
  | .byt b, u => ∃ t, u = Value.bytes b t
  | .flt b, u => ∃ t, u = Value.float b t
  | .ref a, u => u = Value.ref a
  | .ty n, u => u = Value.type n

abbrev Vals : List V → List Value → Prop := Paired RelV
theorem Vals.length {xs : List V} {us : List Value} (r : Vals xs us) : xs.length = us.length := Paired.length r
theorem Vals.get : ∀ {xs : List V} {us : List Value} {i : Nat} {x : V}, Vals xs us → xs[i]? = some x → ∃ u, us[i]? = some u ∧ RelV x u
  | _, _, _, _, .nil, e => by simp at e
  | _, _, 0, _, .cons r _, e => by simp at e; subst e; exact ⟨_, rfl, r⟩
  | _, _, i + 1, x, .cons _ t, e => by
    obtain ⟨u, h1, h2⟩ := Vals.get (i := i) (x := x) t (by simpa using e)
    exact ⟨u, by simpa using h1, h2⟩
theorem Vals.set {x : V} {u : Value} (r : RelV x u) : ∀ {xs : List V} {us : List Value} (i : Nat), Vals xs us → Vals (xs.set i x) (us.set i u)
  | _, _, _, .nil => .nil
  | _, _, 0, .cons _ t => .cons r t
  | _, _, i + 1, .cons q t => .cons q (Vals.set r i t)
theorem Vals.append : ∀ {xs ys : List V} {us ws : List Value}, Vals xs us → Vals ys ws → Vals (xs ++ ys) (us ++ ws)
  | _, _, _, _, .nil, s => s
  | _, _, _, _, .cons r t, s => .cons r (Vals.append t s)
theorem Vals.take : ∀ {xs : List V} {us : List Value} (n : Nat), Vals xs us → Vals (xs.take n) (us.take n)
  | _, _, 0, _ => .nil
  | _, _, _ + 1, .nil => .nil
  | _, _, n + 1, .cons r t => .cons r (Vals.take n t)
theorem Vals.drop : ∀ {xs : List V} {us : List Value} (n : Nat), Vals xs us → Vals (xs.drop n) (us.drop n)
  | _, _, 0, r => r
  | _, _, _ + 1, .nil => .nil
  | _, _, n + 1, .cons _ t => Vals.drop n t
def RelO : Option V → Option Value → Prop
  | some v, some u => RelV v u
  | none, none => True
  | _, _ => False
def KV {κ : Type} : List (κ × V) → List (κ × Value) → Prop := Paired fun (p : κ × V) (q : κ × Value) => p.1 = q.1 ∧ RelV p.2 q.2

/-- a key of a dict (00_mix): an int or a text -/
def kV : Key → V
  | .inl i => .int i
  | .inr x => .str x

/-- what stands at a tracked address -/
inductive HO where
  /-- a list -/
  | lst (xs : List V)
  /-- a tuple (never changes) -/
  | tup (xs : List V)
  /-- a dict whose keys are ints and texts; one whose keys are tuples of ints and texts (the empty one is both) -/
  | dK (kvs : List (Key × V)) | dT (kvs : List (List Key × V))
  /-- a set of ints: its members, its size -/
  | set (S : Int → Bool) (n : Nat)
  /-- an instance of the class at C, its dict at dx, its attributes -/
  | ins (C dx : Addr) (fs : List (Str × V))
  /-- the dict of the instance at x -/
  | own (x : Addr)
  /-- the dict of an exception -/
  | xd (fs : List (Str × V))
  /-- a bound method, f of x -/
  | met (f x : Addr)
  /-- a range object lo, lo + 1, .. below hi -/
  | rng (lo hi : Int)
  /-- a thing that is known to the object (the script; a dict while a loop walks it): read, never written while it is so -/
  | frz (o : Obj) (u : HO)
  /-- a code object's table -/
  | tbl (ps : Array Value)
  /-- any other thing, by what is true of its one object (a def of one's own: SetO a S n := HO.ext fun h => ..) -/
  | ext (φ : Heap → Prop)

abbrev Hp := Addr → Option HO
def upd (H : Hp) (a : Addr) (o : HO) : Hp := fun b => if b = a then some o else H b
theorem upd_same {H : Hp} {a : Addr} {o : HO} : upd H a o a = some o := by unfold upd; rw [if_pos rfl]
theorem upd_ne {H : Hp} {a b : Addr} {o : HO} (h : b ≠ a) : upd H a o b = H b := by unfold upd; rw [if_neg h]
/-- two objects of different content stand apart -/
theorem ne_of {H : Hp} {a b : Addr} {o u : HO} (h : H a = some o) (h' : H b = some u) (d : o ≠ u) : a ≠ b := by
  intro e; subst e; rw [h] at h'; exact d (Option.some.inj h')
theorem ne_of_none {H : Hp} {a b : Addr} {o : HO} (h : H a = some o) (h' : H b = none) : a ≠ b := by
  intro e; subst e; rw [h] at h'; cases h'

/-- no dict of its own -/
def TD (h : Heap) (a : Addr) : Prop := ∃ o, h.get? a = some o ∧ o.dict = none
section
variable (P : Program) (w : World)
def ObjOk (H : Hp) (h : Heap) (a : Addr) : HO → Prop
  | .lst xs => xs.length ≤ sizeLine ∧ ∃ (its : List Value) (n : Nat), Vals xs its ∧ h.get? a = some { cls := .type "list", data := .seq its.toArray n }
  | .tup xs => xs.length ≤ sizeLine ∧ ∃ its : List Value, Vals xs its ∧ IsTup h a its.toArray ∧ TD h a
  | .dK kvs => kvs.length ≤ sizeLine ∧ (a == sysModules) = false ∧ ∃ vs, KV kvs vs ∧ h.DictOf (mixKind P w) a vs
  | .dT kvs => kvs.length ≤ sizeLine ∧ (a == sysModules) = false ∧ ∃ xs : List (List Key × Addr × Value),
      Paired (fun (p : List Key × V) (q : List Key × Addr × Value) => p.1 = q.1 ∧ H q.2.1 = some (.tup (p.1.map kV)) ∧ RelV p.2 q.2.2) kvs xs ∧
      ∃ o es ep, h.get? a = some o ∧ o.ExactDict ∧ o.data = .dict es ep ∧ es.toList = xs.map (entryOfKey (tupleKind (mixKind P w))) ∧ (xs.map (·.1)).Nodup
  | .set S n => h.SetOf (intKind P w) a S n
  | .ins C dx fs => H dx = some (.own a) ∧ fs.length ≤ 1000 ∧ dx ≠ a ∧ h.get? a = some (PySem.W.instObj C dx) ∧
      ∃ mA, h.Ns1 dx mA ∧ (∀ f, RelO (fs.lookup f) (mA f)) ∧ PySem.Within mA (fs.map (·.1))
  | .own _ => ∃ o, h.get? a = some o
  | .xd fs => ∃ mA, h.Ns1 a mA ∧ ∀ f, RelO (fs.lookup f) (mA f)
  | .rng lo hi => ∃ t u v, h.get? a = some { cls := .type "range", data := .fields #[.int lo t, .int hi u, .int 1 v] }
  | .frz o u => h.get? a = some o ∧ ObjOk H h a u
  | .tbl ps => h.get? a = some { cls := .none, data := .fields ps }
  | .met f x => h.get? a = some (PySem.W.methodObj (.ref f) (.ref x))
  | .ext φ => φ h ∧ (∃ o, h.get? a = some o) ∧ ∀ h1 h2 : Heap, φ h1 → (∀ o, h1.get? a = some o → h2.get? a = some o) → φ h2
/-- the abstract heap is held -/
def HOk (H : Hp) (h : Heap) : Prop := ∀ a o, H a = some o → ObjOk P w H h a o
end

section
variable {P : Program} {w : World} {H H' : Hp} {h h' : Heap} {a : Addr} {o : HO}
theorem ObjOk.lt (x : ObjOk P w H h a o) : a < h.objs.size := by
  cases o with
  | lst xs => obtain ⟨_, _, _, _, e⟩ := x; exact Heap.lt_size e
  | tup xs => obtain ⟨_, _, _, p, _⟩ := x; exact p.lt
  | dK kvs => obtain ⟨_, _, _, _, o, _, _, e, _⟩ := x; exact Heap.lt_size e
  | dT kvs => obtain ⟨_, _, _, _, o, _, _, e, _⟩ := x; exact Heap.lt_size e
  | set S n => obtain ⟨o, _, _, _, e, _⟩ := x; exact Heap.lt_size e
  | ins C dx fs => obtain ⟨_, _, _, e, _⟩ := x; exact Heap.lt_size e
  | own y => obtain ⟨_, e⟩ := x; exact Heap.lt_size e
  | xd fs => obtain ⟨_, ⟨_, _, _, e, _⟩, _⟩ := x; exact Heap.lt_size e
  | rng lo hi => obtain ⟨_, _, _, e⟩ := x; exact Heap.lt_size e
  | frz ob u => obtain ⟨e, _⟩ := x; exact Heap.lt_size e
  | tbl ps => exact Heap.lt_size (show h.get? a = some _ from x)
  | met f y => exact Heap.lt_size (show h.get? a = some _ from x)
  | ext φ => obtain ⟨_, ⟨_, e⟩, _⟩ := x; exact Heap.lt_size e
theorem Paired.mapP {α β : Type} {F G : α → β → Prop} : ∀ {l₁ : List α} {l₂ : List β}, Paired F l₁ l₂ → (∀ a b, F a b → G a b) → Paired G l₁ l₂
  | _, _, .nil, _ => .nil
  | _, _, .cons r t, f => .cons (f _ _ r) (Paired.mapP t f)
theorem Paired.imp' {α β : Type} {F G : α → β → Prop} (f : ∀ a b, F a b → G a b) {l₁ : List α} {l₂ : List β} (r : Paired F l₁ l₂) : Paired G l₁ l₂ := Paired.mapP r f
/-- what an object's description leans on: its own object, its own dict, the tuples -/
theorem ObjOk.stay (x : ObjOk P w H h a o) (k : ∀ b u, (b = a ∨ H b = some (.own a)) → h.get? b = some u → h'.get? b = some u)
    (ho : ∀ b, H b = some (.own a) → H' b = some (.own a)) (ht : ∀ b xs, H b = some (.tup xs) → H' b = some (.tup xs)) : ObjOk P w H' h' a o := by
  induction o with
  | lst xs => obtain ⟨z, its, n, r, e⟩ := x; exact ⟨z, its, n, r, k _ _ (.inl rfl) e⟩
  | tup xs => obtain ⟨z, its, r, ⟨ob, e, c⟩, od, e', c'⟩ := x; exact ⟨z, its, r, ⟨ob, k _ _ (.inl rfl) e, c⟩, od, k _ _ (.inl rfl) e', c'⟩
  | dK kvs => obtain ⟨z, y, vs, r, ob, es, ep, e, c⟩ := x; exact ⟨z, y, vs, r, ob, es, ep, k _ _ (.inl rfl) e, c⟩
  | dT kvs =>
    obtain ⟨z, y, xs, r, ob, es, ep, e, c⟩ := x
    exact ⟨z, y, xs, Paired.mapP r fun p q z => ⟨z.1, ht _ _ z.2.1, z.2.2⟩, ob, es, ep, k _ _ (.inl rfl) e, c⟩
  | set S n => obtain ⟨ob, es, ep, t, e, c⟩ := x; exact ⟨ob, es, ep, t, k _ _ (.inl rfl) e, c⟩
  | ins C dx fs =>
    obtain ⟨d, z, ne, e, mA, ⟨od, es, ep, e2, c⟩, r⟩ := x
    exact ⟨ho _ d, z, ne, k _ _ (.inl rfl) e, mA, ⟨od, es, ep, k _ _ (.inr d) e2, c⟩, r⟩
  | own y => obtain ⟨ob, e⟩ := x; exact ⟨ob, k _ _ (.inl rfl) e⟩
  | xd fs => obtain ⟨mA, ⟨od, es, ep, e, c⟩, r⟩ := x; exact ⟨mA, ⟨od, es, ep, k _ _ (.inl rfl) e, c⟩, r⟩
  | rng lo hi => obtain ⟨t, u, v, e⟩ := x; exact ⟨t, u, v, k _ _ (.inl rfl) e⟩
  | frz ob u ih => obtain ⟨e, q⟩ := x; exact ⟨k _ _ (.inl rfl) e, ih q⟩
  | tbl ps =>
    have e : h.get? a = some { cls := .none, data := .fields ps } := x
    show h'.get? a = some { cls := .none, data := .fields ps }
    exact k a _ (.inl rfl) e
  | met f y =>
    have e : h.get? a = some (PySem.W.methodObj (.ref f) (.ref y)) := x
    show h'.get? a = some (PySem.W.methodObj (.ref f) (.ref y))
    exact k a _ (.inl rfl) e
  | ext φ => obtain ⟨p, ⟨o, e⟩, st⟩ := x; exact ⟨st _ _ p fun o q => k _ _ (.inl rfl) q, ⟨o, k _ _ (.inl rfl) e⟩, st⟩
theorem HOk.lt (x : HOk P w H h) (e : H a = some o) : a < h.objs.size := (x a o e).lt
theorem HOk.fresh (x : HOk P w H h) (e : h.objs.size ≤ a) : H a = none := by
  cases q : H a with
  | none => rfl
  | some u => exact absurd (Nat.lt_of_lt_of_le (x.lt q) e) (Nat.lt_irrefl _)
/-- every object of the heap is kept -/
theorem HOk.kept (x : HOk P w H h) (k : ∀ b u, h.get? b = some u → h'.get? b = some u) : HOk P w H h' := fun a o e =>
  (x a o e).stay (fun b u _ q => k b u q) (fun _ q => q) fun _ _ q => q
/-- a new object is laid and tracked -/
theorem HOk.laid (x : HOk P w H h) (k : ∀ b u, h.get? b = some u → h'.get? b = some u) (hp : h.objs.size ≤ a) (new : ObjOk P w (upd H a o) h' a o) : HOk P w (upd H a o) h' := fun b u e => by
  have hn := x.fresh hp
  by_cases hb : b = a
  · subst hb; rw [upd_same] at e; cases e; exact new
  · rw [upd_ne hb] at e
    exact (x b u e).stay (fun c v _ q => k c v q) (fun c q => by rw [upd_ne (ne_of_none q hn)]; exact q) fun c xs q => by rw [upd_ne (ne_of_none q hn)]; exact q
end

/-- what may be read as u: it is u, or a known u -/
def Rd (H : Hp) (a : Addr) (u : HO) : Prop := H a = some u ∨ ∃ o, H a = some (.frz o u)
theorem Rd.of {H : Hp} {a : Addr} {u : HO} (h : H a = some u) : Rd H a u := .inl h
theorem Rd.ok {P : Program} {w : World} {H : Hp} {h : Heap} {a : Addr} {u : HO} (r : Rd H a u) (x : HOk P w H h) : ObjOk P w H h a u := by
  rcases r with r | ⟨o, r⟩
  · exact x a u r
  · obtain ⟨_, q⟩ := x a _ r
    exact q
/-- what may be written -/
def Mut : Option HO → Prop
  | some (.lst _) => True
  | some (.dK _) => True
  | some (.dT _) => True
  | some (.set _ _) => True
  | some (.ins _ _ _) => True
  | some (.ext _) => True
  | _ => False
section
variable {P : Program} {w : World} {H : Hp} {h h' : Heap} {x e : Addr} {o' : HO}
/-- the object at e is changed: x itself, or the dict of the instance x -/
theorem HOk.write (ok : HOk P w H h) (mu : Mut (H x)) (he : e = x ∨ H e = some (.own x)) (k : ∀ b u, b ≠ e → h.get? b = some u → h'.get? b = some u) (heo : ∃ u, h'.get? e = some u)
    (new : ObjOk P w (upd H x o') h' x o') : HOk P w (upd H x o') h' := fun b u q => by
  have nown : ∀ c y, H c = some (.own y) → c ≠ x := fun c y r z => by subst z; rw [r] at mu; exact mu
  have ntup : ∀ c xs, H c = some (.tup xs) → c ≠ x := fun c xs r z => by subst z; rw [r] at mu; exact mu
  by_cases hb : b = x
  · subst hb; rw [upd_same] at q; cases q; exact new
  · rw [upd_ne hb] at q
    by_cases hbe : b = e
    · have q' : H b = some (.own x) := by
        rcases he with z | z
        · exact absurd (hbe.trans z) hb
        · rw [hbe]; exact z
      rw [q] at q'; cases q'
      obtain ⟨v, hv⟩ := heo
      exact ⟨v, by rw [hbe]; exact hv⟩
    · refine (ok b u q).stay (fun c v hc r => k c v ?_ r) (fun c r => by rw [upd_ne (nown c b r)]; exact r) fun c xs r => by rw [upd_ne (ntup c xs r)]; exact r
      rcases hc with rfl | hc
      · exact hbe
      · rintro rfl
        rcases he with z | z
        · exact nown c b hc z
        · rw [hc] at z; cases z; exact hb rfl
end

/-! ### kept unless tracked; of the frames at fs (the callers') the slots may change (an exception that passes writes there); of the records at ex (iterators) nothing is said -/
structure Un (fs ex : List Addr) (H H' : Hp) (h h' : Heap) : Prop where
  keep : ∀ b o, h.get? b = some o → H b = none → b ∉ fs → b ∉ ex → h'.get? b = some o
  slot : ∀ b o, h.get? b = some o → H b = none → b ∈ fs → b ∉ ex → ∃ sl, h'.get? b = some { o with slots := sl }
  free : ∀ b o, h.get? b = some o → H b = none → b ∉ ex → H' b = none
  there : ∀ b o, h.get? b = some o → b ∉ ex → ∃ o', h'.get? b = some o'
  tups : ∀ b xs, H b = some (.tup xs) → H' b = some (.tup xs)
  frzs : ∀ b o u, H b = some (.frz o u) → H' b = some (.frz o u)
  tbls : ∀ b ps, H b = some (.tbl ps) → ∃ more, H' b = some (.tbl (ps ++ more))
section
variable {fs fs' ex ex' : List Addr} {H H1 H2 : Hp} {h h1 h2 h' : Heap} {a x e : Addr} {o : HO}
theorem Un.any (u : Un fs ex H H1 h h1) {b : Addr} {ob : Obj} (q : h.get? b = some ob) (n : H b = none) (hx : b ∉ ex) : ∃ sl, h1.get? b = some { ob with slots := sl } := by
  by_cases hb : b ∈ fs
  · exact u.slot b ob q n hb hx
  · exact ⟨ob.slots, u.keep b ob q n hb hx⟩
theorem Un.trans (a : Un fs ex H H1 h h1) (b : Un fs ex H1 H2 h1 h2) : Un fs ex H H2 h h2 where
  keep := fun c ob q n hc hx => b.keep c ob (a.keep c ob q n hc hx) (a.free c ob q n hx) hc hx
  slot := fun c ob q n hc hx => by
    obtain ⟨sl, e1⟩ := a.slot c ob q n hc hx
    obtain ⟨sl', e2⟩ := b.slot c _ e1 (a.free c ob q n hx) hc hx
    exact ⟨sl', e2⟩
  free := fun c ob q n hx => by
    obtain ⟨o', e1⟩ := a.there c ob q hx
    exact b.free c o' e1 (a.free c ob q n hx) hx
  there := fun c ob q hx => by
    obtain ⟨o', e1⟩ := a.there c ob q hx
    exact b.there c o' e1 hx
  tups := fun c xs q => b.tups c xs (a.tups c xs q)
  frzs := fun c ob xs q => b.frzs c ob xs (a.frzs c ob xs q)
  tbls := fun c ps q => by
    obtain ⟨m1, e1⟩ := a.tbls c ps q
    obtain ⟨m2, e2⟩ := b.tbls c _ e1
    exact ⟨m1 ++ m2, by rw [e2, Array.append_assoc]⟩
theorem Un.kept (k : ∀ b u, h.get? b = some u → h'.get? b = some u) : Un fs ex H H h h' :=
  ⟨fun b ob q _ _ _ => k b ob q, fun b ob q _ _ _ => ⟨ob.slots, k b ob q⟩, fun _ _ _ n _ => n, fun b ob q _ => ⟨ob, k b ob q⟩, fun _ _ q => q, fun _ _ _ q => q, fun _ ps q => ⟨#[], by rw [q]; simp⟩⟩
theorem Un.refl : Un fs ex H H h h := Un.kept fun _ _ q => q
theorem Un.laid (k : ∀ b u, h.get? b = some u → h'.get? b = some u) (hp : h.objs.size ≤ a) (hn : H a = none) : Un fs ex H (upd H a o) h h' where
  keep := fun b u q _ _ _ => k b u q
  slot := fun b u q _ _ _ => ⟨u.slots, k b u q⟩
  free := fun b u q n _ => by rw [upd_ne (Nat.ne_of_lt (Nat.lt_of_lt_of_le (Heap.lt_size q) hp))]; exact n
  there := fun b u q _ => ⟨u, k b u q⟩
  tups := fun b xs q => by rw [upd_ne (ne_of_none q hn)]; exact q
  frzs := fun b u xs q => by rw [upd_ne (ne_of_none q hn)]; exact q
  tbls := fun b ps q => ⟨#[], by rw [upd_ne (ne_of_none q hn), q]; simp⟩
theorem Un.write (mu : Mut (H x)) (he : e = x ∨ H e = some (.own x)) (k : ∀ b u, b ≠ e → h.get? b = some u → h'.get? b = some u) (heo : ∃ u, h'.get? e = some u) : Un fs ex H (upd H x o) h h' := by
  have hx : ∀ b, H b = none → b ≠ x := fun b n z => by subst z; rw [n] at mu; exact mu
  have hb : ∀ b, H b = none → b ≠ e := fun b n z => by
    subst z
    rcases he with r | r
    · exact hx b n r
    · rw [n] at r; cases r
  have hm : ∀ b u, H b = some u → ¬ Mut (some u) → b ≠ x := fun b u q nm z => by subst z; rw [q] at mu; exact nm mu
  refine ⟨fun b u q n _ _ => k b u (hb b n) q, fun b u q n _ _ => ⟨u.slots, k b u (hb b n) q⟩, fun b u q n _ => by rw [upd_ne (hx b n)]; exact n, fun b u q _ => ?_,
    fun b xs q => by rw [upd_ne (hm b _ q fun z => z)]; exact q, fun b u xs q => by rw [upd_ne (hm b _ q fun z => z)]; exact q, fun b ps q => ⟨#[], by rw [upd_ne (hm b _ q fun z => z), q]; simp⟩⟩
  by_cases hbe : b = e
  · subst hbe; exact heo
  · exact ⟨u, k b u hbe q⟩
theorem Un.mono (u : Un fs ex H H1 h h1) (hs : ∀ b ∈ fs, b ∈ fs') (hx : ∀ b ∈ ex, b ∈ ex') : Un fs' ex' H H1 h h1 :=
  ⟨fun b ob q n hb he => u.keep b ob q n (fun z => hb (hs b z)) fun z => he (hx b z), fun _ _ q n _ he => u.any q n fun z => he (hx _ z), fun b ob q n he => u.free b ob q n fun z => he (hx b z), fun b ob q he => u.there b ob q fun z => he (hx b z), u.tups, u.frzs, u.tbls⟩
end

/-! ### the heap without what is tracked -/
def trk (h : Heap) (H : Hp) : List Addr := (List.range h.objs.size).filter fun a => (H a).isSome
def hidT (h : Heap) (H : Hp) : Heap := PySem.W.hideAll h (trk h H)
theorem hidT_size (h : Heap) (H : Hp) : (hidT h H).objs.size = h.objs.size := PySem.W.hideAll_size _ _
theorem hidT_get {h : Heap} {H : Hp} {b : Addr} {o : Obj} (e : h.get? b = some o) (n : H b = none) : (hidT h H).get? b = some o :=
  PySem.W.hideAll_get _ e fun hm => by
    have q : (H b).isSome = true := (List.mem_filter.mp hm).2
    rw [n] at q; simp at q
theorem of_hidT {h : Heap} {H : Hp} {b : Addr} {o : Obj} (e : (hidT h H).get? b = some o) : h.get? b = some o ∧ H b = none := by
  have e' : h.get? b = some o := PySem.W.of_hideAll (trk h H) e
  refine ⟨e', ?_⟩
  cases q : H b with
  | none => rfl
  | some x =>
    have hm : b ∈ trk h H := List.mem_filter.mpr ⟨List.mem_range.mpr (Heap.lt_size e'), by simp [q]⟩
    have z : (hidT h H).get? b = none := PySem.W.hideAll_none (trk h H) hm
    rw [z] at e; cases e

/-! ### OpenK's ledger, filled with every new object but one -/
def allNews (g h : Heap) (L : Addr) : List (Addr × Obj) := (List.range h.objs.size).filterMap fun a => if a = L ∨ (g.get? a).isSome = true then none else (h.get? a).map fun o => (a, o)
def rest (g h : Heap) (L d : Addr) : List (Addr × Obj) := (allNews g h L).filter fun p => decide (p.1 ≠ d)
end L2

namespace L2
open PySem PySem.Spec PyProof.Rows

/-- the module's facts, over the base: the heap at the law's entry without what is tracked there -/
structure Mod (K : PySem.W.Frag) (mg : Str → Option Value) (base : Heap) : Prop where
  kin : K.In base
  glob : base.Ns mainGlobals mg
  blt : ∃ mb, base.Ns builtinsNs mb ∧ ∀ x : Str, x ≠ "__name__" → mb x = bootBuiltins x
  nolimit : base.NoLimit

/-- the context: a def's body (or a comprehension's block) running. base: fixed through the whole law; s₀, H₀: the entry; outer: the frames whose slots others may change (a def's callers); stack: all frames that run;
   ex: iterators that were made ahead of the entry and are walked here (a comprehension's); fn: the names whose cells were made at the entry (a def: all; a comprehension's block: its own); calm: not within an except suite; pn: pins that every state bears; xe: what is wanted of an exception that leaves the code -/
structure Cx where
  prog : Program
  w : World
  K : PySem.W.Frag
  mg : Str → Option Value
  base : Heap
  A : Around
  N : List Str
  s_0 : Shared
  H_0 : Hp
  env : Env
  outer : List Env
  stack : List Env
  ex : List Addr
  fn : Str → Bool
  calm : Bool
  pn : List (Addr × Obj)
  xe : Value → Shared → Prop
  gq : Array GenState → Drawn → Prop
  fr : Prop
/-- the callers' frames -/
def frs (l : List Env) : List Addr := l.filterMap (·.frame)
abbrev Cx.fs (X : Cx) : List Addr := frs X.outer

def Vis (sc : Scope) (x : Str) : Prop := sc.names.lookup x = some .local ∨ sc.names.lookup x = some .cell ∨ sc.names.lookup x = some .free
def Loc (sc : Scope) (x : Str) : Prop := sc.names.lookup x = some .local ∨ sc.names.lookup x = some .cell
def Look (env : Env) (h : Heap) (m : Str → Option Value) (x : Str) (u : Value) : Prop :=
  (env.kindOf x = some .local ∧ m x = some u) ∨ ((env.kindOf x = some .cell ∨ env.kindOf x = some .free) ∧ ∃ c, env.cells.lookup x = some c ∧ h.IsCell c (some u))

structure Cx.Ok (X : Cx) : Prop where
  mod : Mod X.K X.mg X.base
  kind : X.env.scope.kind = .function
  glob : X.env.globals = mainGlobals
  blt : X.env.builtins = builtinsNs
  above : X.s_0.heap.objs.size ≤ X.env.locals
  inj : ∀ x y c, X.env.cells.lookup x = some c → X.env.cells.lookup y = some c → x = y
  has : ∀ x, (X.env.kindOf x = some .cell ∨ X.env.kindOf x = some .free) → ∃ c, X.env.cells.lookup x = some c
  cab : ∀ x c, X.fn x = true → X.env.cells.lookup x = some c → X.s_0.heap.objs.size ≤ c
  hd : X.calm = true → X.A.handled = none
  frames : X.fr → X.A.frames = some X.stack ∧ X.A.guards = some []
  stk : X.stack = X.outer ∨ (X.stack = X.env :: X.outer ∧ X.env.frame = some X.env.locals)
  exf : ∀ b ∈ X.ex, b ≠ X.env.locals ∧ ∀ x c, X.env.cells.lookup x = some c → c ≠ b
  bs : ∀ b o, X.base.get? b = some o → X.s_0.heap.get? b = some o ∧ X.H_0 b = none
  bsz : X.base.objs.size ≤ X.s_0.heap.objs.size
  noex : ∀ b o, X.base.get? b = some o → b ∉ X.ex
  exfs : ∀ b ∈ X.ex, b ∉ X.fs
  funs : X.s_0.heap.FunFrames X.base X.outer
  frf : ∀ b ∈ X.fs, X.H_0 b = none

structure Inv (X : Cx) (pins : List (Addr × Obj)) (σ : List (Option V)) (H : Hp) (s : Shared) : Prop where
  ok : X.Ok
  os : s.os = X.s_0.os
  bare : X.gq s.gens s.drawn
  base : Un X.fs X.ex X.H_0 H X.s_0.heap s.heap
  loc : ∃ m, s.heap.Ns X.env.locals m ∧ ∀ (i : Nat) (x : Str) (v : V), X.N[i]? = some x → σ[i]? = some (some v) → Vis X.env.scope x → ∃ u, RelV v u ∧ Look X.env s.heap m x u
  cell : ∀ x c, X.env.cells.lookup x = some c → ∃ v, s.heap.IsCell c v
  free : H X.env.locals = none
  freeC : ∀ x c, X.env.cells.lookup x = some c → H c = none
  pin : ∀ p ∈ X.pn ++ pins, s.heap.get? p.1 = some p.2 ∧ H p.1 = none ∧ p.1 ≠ X.env.locals ∧ p.1 ∉ X.fs ∧ ∀ v, p.2.data ≠ .cell v
  hok : HOk X.prog X.w H s.heap
  len : σ.length = X.N.length

section
variable {X : Cx} {pins : List (Addr × Obj)} {σ : List (Option V)} {H H' : Hp} {s : Shared} {h' : Heap}

theorem Cx.Ok.nofr (ok : X.Ok) {b : Addr} {o : Obj} (e : X.base.get? b = some o) : b ∉ X.fs := fun hb => by
  have := (ok.funs.mem hb).1
  rw [e] at this; cases this
theorem Inv.bs (I : Inv X pins σ H s) : ∀ b o, X.base.get? b = some o → s.heap.get? b = some o ∧ H b = none := fun b o e =>
  ⟨I.base.keep b o (I.ok.bs b o e).1 (I.ok.bs b o e).2 (I.ok.nofr e) (I.ok.noex b o e), I.base.free b o (I.ok.bs b o e).1 (I.ok.bs b o e).2 (I.ok.noex b o e)⟩
theorem Inv.bk (I : Inv X pins σ H s) : ∀ b o, X.base.get? b = some o → s.heap.get? b = some o := fun b o e => (I.bs b o e).1
theorem Inv.mod (I : Inv X pins σ H s) : Mod X.K X.mg X.base := I.ok.mod
theorem Inv.kIn (I : Inv X pins σ H s) : X.K.In s.heap := I.ok.mod.kin.keeps I.bk
theorem Inv.nolimit (I : Inv X pins σ H s) : s.heap.NoLimit := I.ok.mod.nolimit.keeps I.bk
/-- the frame over the base: for OpenK's rules (K.In X.base is I.mod.kin) -/
theorem Inv.fr (I : Inv X pins σ H s) : ∃ m, Fr X.base X.env.locals s.heap m :=
  let ⟨m, hn, _⟩ := I.loc
  ⟨m, hn, I.bk, Nat.le_trans I.ok.bsz I.ok.above⟩
theorem Inv.lt (I : Inv X pins σ H s) : X.env.locals < s.heap.objs.size := let ⟨_, hn, _⟩ := I.loc; hn.lt
theorem Inv.sz (I : Inv X pins σ H s) : X.s_0.heap.objs.size ≤ s.heap.objs.size := Nat.le_trans I.ok.above (Nat.le_of_lt I.lt)
theorem Inv.nofs (I : Inv X pins σ H s) {a : Addr} (h : s.heap.objs.size ≤ a) : a ∉ X.fs := fun hb => by
  obtain ⟨_, o, ho, _⟩ := I.ok.funs.mem hb
  exact absurd (Nat.lt_of_lt_of_le (Heap.lt_size ho) (Nat.le_trans I.sz h)) (Nat.lt_irrefl _)
theorem Inv.cne (I : Inv X pins σ H s) : ∀ x c, X.env.cells.lookup x = some c → c ≠ X.env.locals := fun x c e z => by
  obtain ⟨v, o, ho, hd⟩ := I.cell x c e
  obtain ⟨m, ⟨o', es, ep, ho', hd', _⟩, _⟩ := I.loc
  rw [z, ho'] at ho; cases ho; rw [hd'] at hd; cases hd
theorem Inv.funs (I : Inv X pins σ H s) : s.heap.FunFrames X.base X.outer := by
  have all : ∀ (l : List Env), (∀ b ∈ frs l, b ∈ X.fs) → X.s_0.heap.FunFrames X.base l → s.heap.FunFrames X.base l := by
    intro l
    induction l with
    | nil => intro _ _; trivial
    | cons env r ih =>
      intro hs hl
      obtain ⟨hk, ⟨L, o, hf, hn, ho, hd⟩, hr⟩ := hl
      have hL : L ∈ X.fs := hs L (by unfold frs; rw [List.filterMap_cons, hf]; exact List.mem_cons_self)
      obtain ⟨sl, e⟩ := I.base.slot L o ho (I.ok.frf L hL) hL fun z => I.ok.exfs L z hL
      exact ⟨hk, ⟨L, _, hf, hn, e, hd⟩, ih (fun b hb => hs b (by unfold frs; rw [List.filterMap_cons, hf]; exact List.mem_cons_of_mem _ hb)) hr⟩
  exact all X.outer (fun _ hb => hb) I.ok.funs

/-- the frames that run, for a call -/
theorem Inv.stack (I : Inv X pins σ H s) : s.heap.FunFrames X.base X.stack := by
  rcases I.ok.stk with e | ⟨e, hf⟩
  · rw [e]; exact I.funs
  · rw [e]
    obtain ⟨m, hn, _⟩ := I.loc
    refine .cons (by rw [I.ok.kind]; decide) hf hn ?_ I.funs
    exact Heap.get?_none_of_le (Nat.le_trans I.ok.bsz I.ok.above)
theorem Inv.stkSub (I : Inv X pins σ H s) : ∀ b ∈ frs X.stack, b ∈ X.env.locals :: X.fs := fun b hb => by
  rcases I.ok.stk with e | ⟨e, hf⟩
  · rw [e] at hb; exact List.mem_cons_of_mem _ hb
  · rw [e] at hb
    unfold frs at hb
    rw [List.filterMap_cons, hf] at hb
    exact hb
theorem Inv.stkFree (I : Inv X pins σ H s) : ∀ b ∈ frs X.stack, H b = none := fun b hb => by
  rcases List.mem_cons.mp (I.stkSub b hb) with e | hb
  · rw [e]; exact I.free
  · obtain ⟨_, o, ho, _⟩ := I.ok.funs.mem hb
    exact I.base.free b o ho (I.ok.frf b hb) fun z => I.ok.exfs b z hb

/-- THE STEP: the untracked objects but the frame and the records at ch are kept (the callers' frames up to slots), the frame's map is kept, the new abstract heap is held -/
theorem Inv.step {g' : Array GenState} {t' : Nat} {d' : Drawn} {ch : List Addr} (I : Inv X pins σ H s)
    (hch : ∀ b ∈ ch, (b ∈ X.ex ∨ X.s_0.heap.objs.size ≤ b) ∧ b ≠ X.env.locals ∧ (∀ x c, X.env.cells.lookup x = some c → c ≠ b) ∧ ∀ p ∈ X.pn ++ pins, p.1 ≠ b)
    (keep : ∀ b o, b ≠ X.env.locals → b ∉ X.fs → b ∉ ch → s.heap.get? b = some o → H b = none → h'.get? b = some o)
    (slot : ∀ b o, b ≠ X.env.locals → b ∈ X.fs → b ∉ ch → s.heap.get? b = some o → H b = none → ∃ sl, h'.get? b = some { o with slots := sl }) (free : ∀ b o, b ∉ ch → s.heap.get? b = some o → H b = none → H' b = none)
    (there : ∀ b o, b ∉ ch → s.heap.get? b = some o → ∃ o', h'.get? b = some o')
    (tups : ∀ b xs, H b = some (.tup xs) → H' b = some (.tup xs)) (frzs : ∀ b o u, H b = some (.frz o u) → H' b = some (.frz o u)) (tbls : ∀ b ps, H b = some (.tbl ps) → ∃ more, H' b = some (.tbl (ps ++ more)))
    (ns : ∀ m, s.heap.Ns X.env.locals m → h'.Ns X.env.locals m) (hok : HOk X.prog X.w H' h') (hg : X.gq g' d') :
    Inv X pins σ H' { s with heap := h', gens := g', drawn := d', toks := t' } := by
  have neL : ∀ b o, X.s_0.heap.get? b = some o → b ≠ X.env.locals := fun b o e => Nat.ne_of_lt (Nat.lt_of_lt_of_le (Heap.lt_size e) I.ok.above)
  have neC : ∀ b o, X.s_0.heap.get? b = some o → b ∉ X.ex → b ∉ ch := fun b o e hx hb => by
    rcases (hch b hb).1 with z | z
    · exact hx z
    · exact absurd (Nat.lt_of_lt_of_le (Heap.lt_size e) z) (Nat.lt_irrefl _)
  have cellK : ∀ x c, X.env.cells.lookup x = some c → ∀ v, s.heap.IsCell c v → h'.IsCell c v := fun x c e v ⟨o, ho, hd⟩ => by
    have nch : c ∉ ch := fun z => (hch c z).2.2.1 x c e rfl
    by_cases hc : c ∈ X.fs
    · obtain ⟨sl, q⟩ := slot c o (I.cne x c e) hc nch ho (I.freeC x c e)
      exact ⟨_, q, hd⟩
    · exact ⟨o, keep c o (I.cne x c e) hc nch ho (I.freeC x c e), hd⟩
  refine ⟨I.ok, I.os, hg, ⟨fun b o e n hb hx => ?_, fun b o e n hb hx => ?_, fun b o e n hx => ?_, fun b o e hx => ?_, fun b xs e => tups b xs (I.base.tups b xs e), fun b o xs e => frzs b o xs (I.base.frzs b o xs e), fun b ps e => ?_⟩, ?_, fun x c e => ?_, ?_, fun x c e => ?_, fun p hp => ?_, hok, I.len⟩
  · exact keep b o (neL b o e) hb (neC b o e hx) (I.base.keep b o e n hb hx) (I.base.free b o e n hx)
  · obtain ⟨sl, e1⟩ := I.base.slot b o e n hb hx
    obtain ⟨sl', e2⟩ := slot b _ (neL b o e) hb (neC b o e hx) e1 (I.base.free b o e n hx)
    exact ⟨sl', e2⟩
  · obtain ⟨o', e1⟩ := I.base.there b o e hx
    exact free b o' (neC b o e hx) e1 (I.base.free b o e n hx)
  · obtain ⟨o', e1⟩ := I.base.there b o e hx
    exact there b o' (neC b o e hx) e1
  · obtain ⟨m1, e1⟩ := I.base.tbls b ps e
    obtain ⟨m2, e2⟩ := tbls b _ e1
    exact ⟨m1 ++ m2, by rw [e2, Array.append_assoc]⟩
  · obtain ⟨m, hn, hl⟩ := I.loc
    refine ⟨m, ns m hn, fun i x v e1 e2 e3 => ?_⟩
    obtain ⟨u, r, l⟩ := hl i x v e1 e2 e3
    refine ⟨u, r, ?_⟩
    rcases l with l | ⟨k, c, e, z⟩
    · exact .inl l
    · exact .inr ⟨k, c, e, cellK x c e _ z⟩
  · obtain ⟨v, z⟩ := I.cell x c e
    exact ⟨v, cellK x c e v z⟩
  · obtain ⟨m, ⟨o, _, _, ho, _⟩, _⟩ := I.loc
    exact free _ o (fun z => (hch _ z).2.1 rfl) ho I.free
  · obtain ⟨v, o, ho, hd⟩ := I.cell x c e
    exact free c o (fun z => (hch c z).2.2.1 x c e rfl) ho (I.freeC x c e)
  · obtain ⟨e, n, ne, nf, d⟩ := I.pin p hp
    have nch : p.1 ∉ ch := fun z => (hch p.1 z).2.2.2 p hp rfl
    exact ⟨keep p.1 p.2 ne nf nch e n, free p.1 p.2 nch e n, ne, nf, d⟩
/-- .. where the frame's own object is kept too -/
theorem Inv.un {t' : Nat} (I : Inv X pins σ H s) (u : Un X.fs [] H H' s.heap h') (hok : HOk X.prog X.w H' h') : Inv X pins σ H' { s with heap := h', toks := t' } := by
  obtain ⟨m, ⟨o, es, ep, ho, r⟩, _⟩ := id I.loc
  obtain ⟨sl, hL⟩ := u.any ho I.free (by simp)
  exact I.step (g' := s.gens) (d' := s.drawn) (ch := []) (fun _ z => nomatch z) (fun b o _ hb _ e n => u.keep b o e n hb (by simp)) (fun b o _ hb _ e n => u.slot b o e n hb (by simp)) (fun b o _ e n => u.free b o e n (by simp)) (fun b o _ e => u.there b o e (by simp)) u.tups u.frzs u.tbls (fun m' hm => by
    obtain ⟨o', es', ep', ho', r'⟩ := hm
    rw [ho] at ho'; cases ho'
    exact ⟨_, es', ep', hL, r'⟩) hok I.bare
/-- behind a call (or a comprehension's block): the slots of this frame may have changed too, the records at ch may have turned -/
theorem Inv.call {g' : Array GenState} {t' : Nat} {d' : Drawn} {ch : List Addr} (I : Inv X pins σ H s) (u : Un (frs X.stack) ch H H' s.heap h') (hok : HOk X.prog X.w H' h') (hg : X.gq g' d')
    (hch : ∀ b ∈ ch, (b ∈ X.ex ∨ X.s_0.heap.objs.size ≤ b) ∧ b ≠ X.env.locals ∧ (∀ x c, X.env.cells.lookup x = some c → c ≠ b) ∧ ∀ p ∈ X.pn ++ pins, p.1 ≠ b) :
    Inv X pins σ H' { s with heap := h', gens := g', drawn := d', toks := t' } := by
  obtain ⟨m, ⟨o, es, ep, ho, r⟩, _⟩ := id I.loc
  obtain ⟨sl, hL⟩ := u.any ho I.free fun z => (hch _ z).2.1 rfl
  exact I.step (ch := ch) hch (fun b o hL hb hc e n => u.keep b o e n (fun z => (List.mem_cons.mp (I.stkSub b z)).elim hL hb) hc) (fun b o _ _ hc e n => u.any e n hc) (fun b o hc e n => u.free b o e n hc) (fun b o hc e => u.there b o e hc) u.tups u.frzs u.tbls (fun m' hm => by
    obtain ⟨o', es', ep', ho', r'⟩ := hm
    rw [ho] at ho'; cases ho'
    exact ⟨_, es', ep', hL, r'⟩) hok hg
/-- an untracked record of ours (an iterator) has turned -/
theorem Inv.turned {t' : Nat} {it : Addr} (I : Inv X pins σ H s) (k : ∀ b o, b ≠ it → s.heap.get? b = some o → h'.get? b = some o) (hn : H it = none) (hL : it ≠ X.env.locals)
    (h1 : it ∈ X.ex ∨ X.s_0.heap.objs.size ≤ it) (h2 : ∀ x c, X.env.cells.lookup x = some c → c ≠ it) (h3 : ∀ p ∈ X.pn ++ pins, p.1 ≠ it) : Inv X pins σ H { s with heap := h', toks := t' } := by
  have nit : ∀ b u, H b = some u → b ≠ it := fun b u e z => by rw [z, hn] at e; cases e
  refine I.step (g' := s.gens) (d' := s.drawn) (ch := [it]) (fun b hb => ?_) (fun b o _ _ hc e _ => k b o (fun z => hc (by simp [z])) e) (fun b o _ _ hc e _ => ⟨o.slots, k b o (fun z => hc (by simp [z])) e⟩) (fun _ _ _ _ n => n)
    (fun b o hc e => ⟨o, k b o (fun z => hc (by simp [z])) e⟩) (fun _ _ e => e) (fun _ _ _ e => e) (fun b ps e => ⟨#[], by rw [e]; simp⟩) (fun m hm => ?_) (fun b u e => ?_) I.bare
  · have e : b = it := by simpa using hb
    subst e
    exact ⟨h1, hL, h2, h3⟩
  · obtain ⟨o, es, ep, ho, r⟩ := hm
    exact ⟨o, es, ep, k _ o (Ne.symm hL) ho, r⟩
  · refine (I.hok b u e).stay (fun c v hc q => k c v ?_ q) (fun _ q => q) fun _ _ q => q
    rcases hc with z | z
    · rw [z]; exact nit b u e
    · exact nit c _ z
theorem Inv.tok (I : Inv X pins σ H s) (t : Nat) : Inv X pins σ H { s with toks := t } := I.un (h' := s.heap) (t' := t) Un.refl I.hok
/-- all objects kept -/
theorem Inv.kept {t' : Nat} (I : Inv X pins σ H s) (k : ∀ b u, s.heap.get? b = some u → h'.get? b = some u) : Inv X pins σ H { s with heap := h', toks := t' } := I.un (Un.kept k) (I.hok.kept k)
/-- a new object laid and tracked -/
theorem Inv.laid {a : Addr} {o : HO} {t' : Nat} (I : Inv X pins σ H s) (k : ∀ b u, s.heap.get? b = some u → h'.get? b = some u) (hp : s.heap.objs.size ≤ a) (new : ObjOk X.prog X.w (upd H a o) h' a o) :
    Inv X pins σ (upd H a o) { s with heap := h', toks := t' } := I.un (Un.laid k hp (I.hok.fresh hp)) (I.hok.laid k hp new)
/-- an object written -/
theorem Inv.write {x e : Addr} {o : HO} {t' : Nat} (I : Inv X pins σ H s) (mu : Mut (H x)) (he : e = x ∨ H e = some (.own x)) (k : ∀ b u, b ≠ e → s.heap.get? b = some u → h'.get? b = some u) (heo : ∃ u, h'.get? e = some u)
    (new : ObjOk X.prog X.w (upd H x o) h' x o) : Inv X pins σ (upd H x o) { s with heap := h', toks := t' } := I.un (Un.write mu he k heo) (I.hok.write mu he k heo new)
/-- forgetting slots, pins -/
theorem Inv.weak {σ' : List (Option V)} (I : Inv X pins σ H s) (hl : σ'.length = σ.length) (w : ∀ (i : Nat) v, σ'[i]? = some (some v) → σ[i]? = some (some v)) : Inv X pins σ' H s :=
  ⟨I.ok, I.os, I.bare, I.base, let ⟨m, hn, hl'⟩ := I.loc; ⟨m, hn, fun i x v e1 e2 e3 => hl' i x v e1 (w i v e2) e3⟩, I.cell, I.free, I.freeC, I.pin, I.hok, hl.trans I.len⟩
theorem Inv.pins_of {pins' : List (Addr × Obj)} (I : Inv X pins σ H s) (h : ∀ p ∈ pins', s.heap.get? p.1 = some p.2 ∧ H p.1 = none ∧ p.1 ≠ X.env.locals ∧ p.1 ∉ X.fs ∧ ∀ v, p.2.data ≠ .cell v) : Inv X pins' σ H s :=
  ⟨I.ok, I.os, I.bare, I.base, I.loc, I.cell, I.free, I.freeC, fun p hp => (List.mem_append.mp hp).elim (fun z => I.pin p (List.mem_append_left _ z)) (h p), I.hok, I.len⟩

theorem nodup_ix {N : List Str} (hN : N.Nodup) {i j : Nat} {x : Str} (a : N[i]? = some x) (b : N[j]? = some x) : i = j := by
  obtain ⟨h1, e1⟩ := List.getElem?_eq_some_iff.mp a
  obtain ⟨h2, e2⟩ := List.getElem?_eq_some_iff.mp b
  exact (List.getElem_inj hN).mp (e1.trans e2.symm)

/-- a name is stored; what changed -/
theorem store_ok2 {M : Model} {A : Around} {E : Value → Shared → Prop} {i : Nat} {x : Str} {v : V} {u : Value} {Q : Unit → Shared → Prop} (I : Inv X pins σ H s) (hN : X.N.Nodup) (hi : X.N[i]? = some x) (hx : Loc X.env.scope x) (r : RelV v u)
    (h : ∀ s', Inv X pins (σ.set i (some v)) H s' → (∃ a, Heap.SameBut a s.heap s'.heap ∧ (a = X.env.locals ∨ X.env.cells.lookup x = some a)) → Q () s') (hf : X.fn x = true ∨ X.env.scope.names.lookup x = some .local := by first | exact .inl rfl | exact .inr rfl | assumption) : wpAny M A (storeName X.env x u) Q E s := by
  obtain ⟨m, hn, hl⟩ := id I.loc
  have hcls : (X.env.scope.kind == .class || (X.env.scope.kind == .module && X.env.locals != X.env.globals)) = false := by rw [I.ok.kind]; rfl
  have hiσ : i < σ.length := by rw [I.len]; exact (List.getElem?_eq_some_iff.mp hi).1
  have cne := I.cne
  have tracked : ∀ {a : Addr} {h' : Heap}, (∃ o, s.heap.get? a = some o ∧ H a = none) → Heap.SameBut a s.heap h' → HOk X.prog X.w H h' := fun {a h'} ha hs b ob e => by
    obtain ⟨_, _, hfree⟩ := ha
    refine (I.hok b ob e).stay (fun c w' hc q => (hs.2 c ?_).trans q) (fun _ q => q) fun _ _ q => q
    rintro rfl
    rcases hc with rfl | hc
    · rw [hfree] at e; cases e
    · rw [hfree] at hc; cases hc
  rcases hx with hk | hk
  · refine wpAny_storeName_local hk hn (fun h' hn' hs => ?_) hcls
    obtain ⟨oL, _, _, hoL, _⟩ := id hn
    refine h _ ⟨I.ok, I.os, I.bare, ⟨fun b o e n hb hx => ?_, fun b o e n hb hx => ?_, I.base.free, fun b o e hx => ?_, I.base.tups, I.base.frzs, I.base.tbls⟩, ⟨_, hn', fun j y v' e1 e2 e3 => ?_⟩, fun y c e => ?_, I.free, I.freeC, fun p hp => ?_, tracked ⟨oL, hoL, I.free⟩ hs, by simpa using I.len⟩ ⟨_, hs, .inl rfl⟩
    · exact (hs.2 b (Nat.ne_of_lt (Nat.lt_of_lt_of_le (Heap.lt_size e) I.ok.above))).trans (I.base.keep b o e n hb hx)
    · obtain ⟨sl, e1⟩ := I.base.slot b o e n hb hx
      exact ⟨sl, (hs.2 b (Nat.ne_of_lt (Nat.lt_of_lt_of_le (Heap.lt_size e) I.ok.above))).trans e1⟩
    · obtain ⟨o', e1⟩ := I.base.there b o e hx
      exact ⟨o', (hs.2 b (Nat.ne_of_lt (Nat.lt_of_lt_of_le (Heap.lt_size e) I.ok.above))).trans e1⟩
    · by_cases hj : j = i
      · subst hj
        rw [hi] at e1; cases e1
        rw [List.getElem?_set_self hiσ] at e2
        cases e2
        exact ⟨u, r, .inl ⟨hk, by simp⟩⟩
      · rw [List.getElem?_set_ne (Ne.symm hj)] at e2
        obtain ⟨u', r', q⟩ := hl j y v' e1 e2 e3
        refine ⟨u', r', ?_⟩
        rcases q with ⟨k, e⟩ | ⟨k, c, e, z⟩
        · refine .inl ⟨k, ?_⟩
          have : y ≠ x := fun e => hj (nodup_ix hN e1 (e ▸ hi))
          simp [this, e]
        · exact .inr ⟨k, c, e, z.sameBut hs (cne y c e)⟩
    · obtain ⟨w', z⟩ := I.cell y c e
      exact ⟨w', z.sameBut hs (cne y c e)⟩
    · obtain ⟨e, n, ne, nf, d⟩ := I.pin p hp
      exact ⟨(hs.2 p.1 ne).trans e, n, ne, nf, d⟩
  · have hfn : X.fn x = true := by
      rcases hf with z | z
      · exact z
      · rw [z] at hk; cases hk
    obtain ⟨c, hc⟩ := I.ok.has x (.inl hk)
    obtain ⟨w', z⟩ := I.cell x c hc
    refine wpAny_storeName_cell I.ok.kind hk hc z (fun h' hc' hs => ?_)
    obtain ⟨oc, hoc, hocd⟩ := id z
    refine h { s with heap := h' } ⟨I.ok, I.os, I.bare, ⟨fun b o e n hb hx => ?_, fun b o e n hb hx => ?_, I.base.free, fun b o e hx => ?_, I.base.tups, I.base.frzs, I.base.tbls⟩, ⟨m, hn.sameBut hs (Ne.symm (cne x c hc)), fun j y v' e1 e2 e3 => ?_⟩, fun y c' e => ?_, I.free, I.freeC, fun p hp => ?_, tracked ⟨oc, hoc, I.freeC x c hc⟩ hs, by simpa using I.len⟩ ⟨c, hs, .inr hc⟩
    · exact (hs.2 b (Nat.ne_of_lt (Nat.lt_of_lt_of_le (Heap.lt_size e) (I.ok.cab x c hfn hc)))).trans (I.base.keep b o e n hb hx)
    · obtain ⟨sl, e1⟩ := I.base.slot b o e n hb hx
      exact ⟨sl, (hs.2 b (Nat.ne_of_lt (Nat.lt_of_lt_of_le (Heap.lt_size e) (I.ok.cab x c hfn hc)))).trans e1⟩
    · obtain ⟨o', e1⟩ := I.base.there b o e hx
      exact ⟨o', (hs.2 b (Nat.ne_of_lt (Nat.lt_of_lt_of_le (Heap.lt_size e) (I.ok.cab x c hfn hc)))).trans e1⟩
    · by_cases hj : j = i
      · subst hj
        rw [hi] at e1; cases e1
        rw [List.getElem?_set_self hiσ] at e2
        cases e2
        exact ⟨u, r, .inr ⟨.inl hk, c, hc, hc'⟩⟩
      · rw [List.getElem?_set_ne (Ne.symm hj)] at e2
        obtain ⟨u', r', q⟩ := hl j y v' e1 e2 e3
        refine ⟨u', r', ?_⟩
        rcases q with q | ⟨k, c', e, z'⟩
        · exact .inl q
        · refine .inr ⟨k, c', e, z'.sameBut hs ?_⟩
          rintro rfl
          exact hj (nodup_ix hN e1 (I.ok.inj _ _ _ e hc ▸ hi))
    · by_cases hcc : c' = c
      · subst hcc; exact ⟨_, hc'⟩
      · obtain ⟨w2, z2⟩ := I.cell y c' e
        exact ⟨w2, z2.sameBut hs hcc⟩
    · obtain ⟨e, n, ne, nf, d⟩ := I.pin p hp
      refine ⟨(hs.2 p.1 ?_).trans e, n, ne, nf, d⟩
      intro q
      rw [q, hoc] at e
      have q' : oc = p.2 := Option.some.inj e
      exact d w' (by rw [← q']; exact hocd)
theorem store_ok {M : Model} {A : Around} {E : Value → Shared → Prop} {i : Nat} {x : Str} {v : V} {u : Value} {Q : Unit → Shared → Prop} (I : Inv X pins σ H s) (hN : X.N.Nodup) (hi : X.N[i]? = some x) (hx : Loc X.env.scope x) (r : RelV v u)
    (h : ∀ s', Inv X pins (σ.set i (some v)) H s' → Q () s') (hf : X.fn x = true ∨ X.env.scope.names.lookup x = some .local := by first | exact .inl rfl | exact .inr rfl | assumption) : wpAny M A (storeName X.env x u) Q E s :=
  store_ok2 I hN hi hx r (fun s' I' _ => h s' I') hf
/-- behind a call or a block, the state as it is -/
theorem Inv.call' {s' : Shared} {ch : List Addr} (I : Inv X pins σ H s) (ho : s'.os = s.os) (u : Un (frs X.stack) ch H H' s.heap s'.heap) (hok : HOk X.prog X.w H' s'.heap) (hg : X.gq s'.gens s'.drawn)
    (hch : ∀ b ∈ ch, (b ∈ X.ex ∨ X.s_0.heap.objs.size ≤ b) ∧ b ≠ X.env.locals ∧ (∀ x c, X.env.cells.lookup x = some c → c ≠ b) ∧ ∀ p ∈ X.pn ++ pins, p.1 ≠ b) : Inv X pins σ H' s' := by
  obtain ⟨h', g', d', t', o'⟩ := s'
  have e : o' = s.os := ho
  subst e
  exact I.call (g' := g') (t' := t') (d' := d') u hok hg hch
end

/-! ### the judgements -/
/-- an exception: its class, its own dict's address (where it has one), the abstract heap behind it -/
abbrev XK := Value → Option Addr → Hp → Prop
abbrev St := List (Option V)
abbrev VK := V → Hp → Prop
/-- an expression's reading; a test's; an argument list's -/
abbrev TE := St → Hp → VK → Prop
abbrev TT := St → Hp → (Bool → Hp → Prop) → Prop
abbrev TA := St → Hp → (List V → Hp → Prop) → Prop
/-- what is wanted behind a statement -/
structure Ends where
  nx : St → Hp → Prop
  rt : VK
  bk : St → Hp → Prop := fun _ _ => False
  ct : St → Hp → Prop := fun _ _ => False
abbrev TS := Ends → St → Hp → Prop

def EP (X : Cx) (pins : List (Addr × Obj)) (σ : St) (Q : VK) (u : Value) (s' : Shared) : Prop := ∃ v H', Inv X pins σ H' s' ∧ RelV v u ∧ Q v H'
def TP (X : Cx) (pins : List (Addr × Obj)) (σ : St) (Q : Bool → Hp → Prop) (b : Bool) (s' : Shared) : Prop := ∃ H', Inv X pins σ H' s' ∧ Q b H'
def AP (X : Cx) (pins : List (Addr × Obj)) (σ : St) (Q : List V → Hp → Prop) (us : List Value) (s' : Shared) : Prop := ∃ vs H', Inv X pins σ H' s' ∧ Vals vs us ∧ Q vs H'
def SP (X : Cx) (pins : List (Addr × Obj)) (D : Ends) (f : Flow) (s' : Shared) : Prop :=
  match f with
  | .next => ∃ σ' H', Inv X pins σ' H' s' ∧ D.nx σ' H'
  | .brk => ∃ σ' H', Inv X pins σ' H' s' ∧ D.bk σ' H'
  | .cont => ∃ σ' H', Inv X pins σ' H' s' ∧ D.ct σ' H'
  | .ret u => ∃ v σ' H', Inv X pins σ' H' s' ∧ RelV v u ∧ D.rt v H'

def PE (X : Cx) (e : Expr) (t : TE) : Prop :=
  ∀ (pins : List (Addr × Obj)) (s : Shared) (σ : St) (H : Hp) (Q : VK), Inv X pins σ H s → t σ H Q → wpAny (model X.prog X.w) X.A (eval e X.env) (EP X pins σ Q) X.xe s
def PT (X : Cx) (e : Expr) (t : TT) : Prop :=
  ∀ (pins : List (Addr × Obj)) (s : Shared) (σ : St) (H : Hp) (Q : Bool → Hp → Prop), Inv X pins σ H s → t σ H Q → wpAny (model X.prog X.w) X.A (isTrue e X.env (eval e X.env)) (TP X pins σ Q) X.xe s
/-- a test whatever its 'whole' is (and, or) -/
def PW (X : Cx) (e : Expr) (t : TT) : Prop :=
  ∀ (whole : Sem Value) (pins : List (Addr × Obj)) (s : Shared) (σ : St) (H : Hp) (Q : Bool → Hp → Prop), Inv X pins σ H s → t σ H Q → wpAny (model X.prog X.w) X.A (isTrue e X.env whole) (TP X pins σ Q) X.xe s
theorem PW.pt {X : Cx} {e : Expr} {t : TT} (h : PW X e t) : PT X e t := h _
/-- an argument list (no star), from the left -/
def PA (X : Cx) (es : List Expr) (t : TA) : Prop :=
  ∀ (pos : Pos) (pins : List (Addr × Obj)) (s : Shared) (σ : St) (H : Hp) (Q : List V → Hp → Prop), Inv X pins σ H s → t σ H Q → wpAny (model X.prog X.w) X.A (spliced (backTo pos (starEach es X.env))) (AP X pins σ Q) X.xe s
def PS (X : Cx) (st : Stmt) (t : TS) : Prop :=
  ∀ (pins : List (Addr × Obj)) (s : Shared) (σ : St) (H : Hp) (D : Ends), Inv X pins σ H s → t D σ H → wpAny (model X.prog X.w) X.A (exec st X.env) (SP X pins D) X.xe s
def PSs (X : Cx) (st : List Stmt) (t : TS) : Prop :=
  ∀ (pins : List (Addr × Obj)) (s : Shared) (σ : St) (H : Hp) (D : Ends), Inv X pins σ H s → t D σ H → wpAny (model X.prog X.w) X.A (execs st X.env) (SP X pins D) X.xe s
/-- weaken the end -/
theorem thn {α : Type} {t : Sem α} {Q Q' : α → Shared → Prop} {M : Model} {A : Around} {E : Value → Shared → Prop} {s : Shared} (h : wpAny M A t Q E s) (hQ : ∀ a s, Q a s → Q' a s) : wpAny M A t Q' E s := wpAny_mono h hQ fun _ _ x => x
end L2

namespace L2
open PySem PySem.Spec PyProof.Rows
section
variable {X : Cx}

/-! ### names and constants -/
def tVar (i : Nat) : TE := fun σ H Q => ∃ v, σ[i]? = some (some v) ∧ Q v H
def tC (v : V) : TE := fun _ H Q => Q v H
theorem pe_var {i : Nat} {x : Str} {pos : Pos} (hN : X.N[i]? = some x) (hv : Vis X.env.scope x) (hd : (x == ("__debug__" : Str)) = false := by decide) (hcd : (x == ("__classdict__" : Str)) = false := by decide) : PE X (.Name x pos) (tVar i) := by
  intro pins s σ H Q I h
  obtain ⟨v, e, h⟩ := h
  obtain ⟨m, hn, hl⟩ := I.loc
  obtain ⟨u, r, l⟩ := hl i x v hN e hv
  have fin : EP X pins σ Q u s := ⟨v, H, I, r, h⟩
  rcases l with ⟨hk, hm⟩ | ⟨hk, c, hc, hcell⟩
  · exact wpAny_Name (wpAny_loadName_local I.ok.kind hk hn hm fin) hd
  · rcases hk with hk | hk
    · exact wpAny_Name (wpAny_loadName_cell I.ok.kind hk hc hcell fin) hd
    · exact wpAny_Name (wpAny_loadName_free I.ok.kind hk hc hcell fin hcd) hd
theorem pe_int {i j pos} : PE X (.Constant (.int i) j pos) (tC (.int i)) := fun _ _ _ H _ I h => wpAny_Constant_int ⟨.int i, H, I.tok _, ⟨_, rfl⟩, h⟩
theorem pe_bl {b j pos} : PE X (.Constant (.bool b) j pos) (tC (.bl b)) := fun _ _ _ H _ I h => Constant_bool ⟨.bl b, H, I, rfl, h⟩
/-- a global name of the def -/
def Gl (X : Cx) (x : Str) : Prop := X.env.kindOf x = some .globalImplicit
theorem ld_glob {E : Value → Shared → Prop} {pins : List (Addr × Obj)} {s : Shared} {σ : St} {H : Hp} {x : Str} {u : Value} {pos : Pos} {Q : Value → Shared → Prop} (I : Inv X pins σ H s) (hg : Gl X x) (hm : X.mg x = some u) (h : Q u s)
    (hd : (x == ("__debug__" : Str)) = false := by decide) : wpAny (model X.prog X.w) X.A (eval (.Name x pos) X.env) Q E s :=
  Calls.Name_function_global I.ok.kind hg (Calls.loadGlobal_global (by rw [I.ok.glob]; exact I.mod.glob.keeps I.bk) hm h) hd
theorem ld_blt {E : Value → Shared → Prop} {pins : List (Addr × Obj)} {s : Shared} {σ : St} {H : Hp} {x : Str} {u : Value} {pos : Pos} {Q : Value → Shared → Prop} (I : Inv X pins σ H s) (hg : Gl X x) (hm : X.mg x = none) (hv : bootBuiltins x = some u) (h : Q u s)
    (hn : x ≠ "__name__" := by decide) (hd : (x == ("__debug__" : Str)) = false := by decide) : wpAny (model X.prog X.w) X.A (eval (.Name x pos) X.env) Q E s := by
  obtain ⟨mb, h1, h2⟩ := I.mod.blt
  exact Calls.Name_function_global I.ok.kind hg (Calls.loadGlobal_builtin (by rw [I.ok.glob]; exact I.mod.glob.keeps I.bk) hm (by rw [I.ok.blt]; exact h1.keeps I.bk) ((h2 x hn).trans hv) h) hd
/-- a module's constant, a class, a function, as a value -/
theorem pe_glob {x : Str} {v : V} {u : Value} {pos : Pos} (hg : Gl X x) (hm : X.mg x = some u) (r : RelV v u) (hd : (x == ("__debug__" : Str)) = false := by decide) : PE X (.Name x pos) (tC v) :=
  fun _ _ _ H _ I h => ld_glob I hg hm ⟨v, H, I, r, h⟩ hd
theorem pe_bltn {x : Str} {v : V} {u : Value} {pos : Pos} (hg : Gl X x) (hm : X.mg x = none) (hv : bootBuiltins x = some u) (r : RelV v u) (hn : x ≠ "__name__" := by decide) (hd : (x == ("__debug__" : Str)) = false := by decide) : PE X (.Name x pos) (tC v) :=
  fun _ _ _ H _ I h => ld_blt I hg hm hv ⟨v, H, I, r, h⟩ hn hd

/-! ### arithmetic -/
variable {a b : Expr} {ta tb : TE} {pos : Pos}
/-! ### comparisons -/
def PC (X : Cx) (op : CmpOp) (a b : Expr) (t : TE) : Prop :=
  ∀ (pins : List (Addr × Obj)) (s : Shared) (σ : St) (H : Hp) (Q : VK), Inv X pins σ H s → t σ H Q →
    wpAny (model X.prog X.w) X.A (eval a X.env) (fun v s₁ => wpAny (model X.prog X.w) X.A (eval b X.env) (fun u s₂ => wpAny (model X.prog X.w) X.A (compareOp op v u) (EP X pins σ Q) X.xe s₂) X.xe s₁) X.xe s
theorem nobehind (b : Expr) {op : CmpOp} (h : op ≠ .In) (h2 : op ≠ .NotIn) : behindInMarks op b = false := by
  have e1 : (op == CmpOp.In) = false := by cases op <;> first | rfl | exact absurd rfl h
  have e2 : (op == CmpOp.NotIn) = false := by cases op <;> first | rfl | exact absurd rfl h2
  cases b <;> simp [behindInMarks, e1, e2]
/-- a comparison as a value, as a test -/
def tB (t : TE) : TT := fun σ H Q => t σ H fun x H1 => ∃ c, x = .bl c ∧ Q c H1
theorem pt_cmp {op : CmpOp} {t : TE} (h : PC X op a b t) (h1 : behindInMarks op b = false := by first | exact nobehind _ (by decide) (by decide) | rfl) : PT X (.Compare a [op] [b] pos) (tB t) := by
  intro pins s σ H Q I hw
  refine wpAny_isTrue_Compare1 (thn (h pins s σ H _ I hw) fun v s1 h1 => thn h1 fun u s2 h2 => thn h2 fun c s3 ⟨x, H1, I1, r1, q1⟩ => ?_) h1
  obtain ⟨d, rfl, q⟩ := q1
  cases r1
  exact wpAny_truthy_bool ⟨H1, I1, q⟩
/-- an expression whose value is a bool, as a test -/
theorem pt_val {e : Expr} {t : TE} (h : PE X e t) (he : ∀ whole, isTrue e X.env whole = (do let v ← whole; standAt e.pos; holding [v] (truthy v)) := by intro _; rfl) : PT X e (tB t) := by
  intro pins s σ H Q I hw
  refine isTrue_plain (thn (h pins s σ H _ I hw) fun v s1 ⟨x, H1, I1, r1, q1⟩ => ?_) (he _)
  obtain ⟨d, rfl, q⟩ := q1
  cases r1
  exact wpAny_truthy_bool ⟨H1, I1, q⟩

/-! ### and, or, not -/
variable {tA tB' : TT} {rest : List Expr}
def tOr (t u : TT) : TT := fun σ H Q => t σ H fun c H1 => if c = true then Q true H1 else u σ H1 Q
def tNot (t : TT) : TT := fun σ H Q => t σ H fun c H1 => Q (!c) H1
theorem pw_or1 (ha : PT X a tA) : PW X (.BoolOp .Or [a] pos) tA := by
  intro wh pins s σ H Q I h
  refine isTrue_or (thn (ha pins s σ H Q I h) fun c s1 e => ?_)
  cases c with
  | false => exact isTrue_or_nil e
  | true => exact e
theorem pw_or (ha : PT X a tA) (hb : PW X (.BoolOp .Or (b :: rest) pos) tB') : PW X (.BoolOp .Or (a :: b :: rest) pos) (tOr tA tB') := by
  intro wh pins s σ H Q I h
  refine isTrue_or (thn (ha pins s σ H _ I h) fun c s1 ⟨H1, I1, q1⟩ => ?_)
  cases c with
  | true => exact ⟨H1, I1, q1⟩
  | false => exact hb wh pins s1 σ H1 Q I1 q1
theorem pt_not (ha : PT X a tA) : PT X (.UnaryOp .Not a pos) (tNot tA) := by
  intro pins s σ H Q I h
  exact isTrue_not (ha pins s σ H (fun c H1 => Q (!c) H1) I h)
/-- .. as values (bools) -/
def tAndV (ta tb : TE) : TE := fun σ H Q => ta σ H fun x H1 => ∃ c, x = .bl c ∧ if c = true then tb σ H1 Q else Q (.bl false) H1
def tNotV (ta : TE) : TE := fun σ H Q => ta σ H fun x H1 => ∃ c, x = .bl c ∧ Q (.bl (!c)) H1
theorem pe_one {op} {t : TE} (h : PE X a t) : PE X (.BoolOp op [a] pos) t := fun pins s σ H Q I hw => BoolOp_one (h pins s σ H Q I hw)
theorem pe_and (ha : PE X a ta) (hb : PE X (.BoolOp .And (b :: rest) pos) tb) : PE X (.BoolOp .And (a :: b :: rest) pos) (tAndV ta tb) := by
  intro pins s σ H Q I h
  refine BoolOp_and (thn (ha pins s σ H _ I h) fun v s1 ⟨x, H1, I1, r1, q1⟩ => ?_)
  obtain ⟨c, rfl, q1⟩ := q1
  cases r1
  refine wpAny_truthy_bool ?_
  cases c with
  | true => exact hb pins s1 σ H1 Q I1 q1
  | false => exact ⟨.bl false, H1, I1, rfl, q1⟩
theorem pe_not (ha : PE X a ta) : PE X (.UnaryOp .Not a pos) (tNotV ta) := by
  intro pins s σ H Q I h
  refine UnaryOp_ (thn (ha pins s σ H _ I h) fun v s1 ⟨x, H1, I1, r1, q1⟩ => ?_)
  obtain ⟨c, rfl, q1⟩ := q1
  cases r1
  exact not_of (wpAny_truthy_bool ⟨.bl (!c), H1, I1, rfl, q1⟩)
end
end L2

namespace L2
open PySem PySem.Spec PyProof.Rows

/-! ### a list, a tuple that is read: tracked, frozen, or an object of the module -/
def SqL (K : PySem.W.Frag) (H : Hp) (a : Addr) (xs : List V) : Prop :=
  Rd H a (.lst xs) ∨
    ∃ (o : Obj) (its : Array Value) (n : Nat), K.lookup a = some o ∧ o.cls = .type "list" ∧ o.dict = none ∧ o.data = .seq its n ∧ its.size ≤ sizeLine ∧ Vals xs its.toList
def SqT (K : PySem.W.Frag) (H : Hp) (a : Addr) (xs : List V) : Prop :=
  Rd H a (.tup xs) ∨
    ∃ (o : Obj) (its : Array Value) (n : Nat), K.lookup a = some o ∧ o.cls = .type "tuple" ∧ o.data = .seq its n ∧ its.size ≤ sizeLine ∧ Vals xs its.toList
def absV : Value → Option V
  | .none => some .non
  | .bool b => some (.bl b)
  | .int i _ => some (.int i)
  | .str x _ => some (.str x)
  | .bytes b _ => some (.byt b)
  | .float b _ => some (.flt b)
  | .ref a => some (.ref a)
  | .type n => some (.ty n)
  | _ => none
theorem RelV.abs {x : V} {u : Value} (r : RelV x u) : absV u = some x := by
  cases x with
  | non => cases r; rfl
  | bl _ => cases r; rfl
  | int _ => obtain ⟨t, rfl⟩ := r; rfl
  | str _ => obtain ⟨t, rfl⟩ := r; rfl
  | byt _ => obtain ⟨t, rfl⟩ := r; rfl
  | flt _ => obtain ⟨t, rfl⟩ := r; rfl
  | ref _ => cases r; rfl
  | ty _ => cases r; rfl
theorem RelV.inj {x y : V} {u : Value} (r : RelV x u) (q : RelV y u) : x = y := Option.some.inj (r.abs.symm.trans q.abs)
theorem Vals.inj : ∀ {xs ys : List V} {us : List Value}, Vals xs us → Vals ys us → xs = ys
  | _, _, _, .nil, .nil => rfl
  | _, _, _, .cons r t, .cons r' t' => by rw [r.inj r', Vals.inj t t']
section
variable {X : Cx} {pins : List (Addr × Obj)} {σ : St} {H : Hp} {s : Shared} {a : Addr} {xs ys : List V}
theorem SqL.of {K : PySem.W.Frag} (h : H a = some (.lst xs)) : SqL K H a xs := .inl (.inl h)
theorem SqT.of {K : PySem.W.Frag} (h : H a = some (.tup xs)) : SqT K H a xs := .inl (.inl h)
theorem Inv.list (I : Inv X pins σ H s) (h : SqL X.K H a xs) : ∃ its : List Value, Vals xs its ∧ PlainL s.heap a its.toArray ∧ xs.length ≤ sizeLine := by
  rcases h with h | ⟨o, its, n, hk, hc, hd, hs, hz, r⟩
  · obtain ⟨z, its, n, r, e⟩ := h.ok I.hok
    exact ⟨its, r, ⟨_, n, e, rfl, rfl, rfl⟩, z⟩
  · refine ⟨its.toList, r, ⟨o, n, I.kIn a o hk, hc, hd, by simpa using hs⟩, ?_⟩
    have e := r.length
    simp only [Array.length_toList] at e
    omega
theorem Inv.tuple (I : Inv X pins σ H s) (h : SqT X.K H a xs) : ∃ its : List Value, Vals xs its ∧ IsTup s.heap a its.toArray ∧ xs.length ≤ sizeLine := by
  rcases h with h | ⟨o, its, n, hk, hc, hs, hz, r⟩
  · obtain ⟨z, its, r, p, _⟩ := h.ok I.hok
    exact ⟨its, r, p, z⟩
  · refine ⟨its.toList, r, ⟨o, I.kIn a o hk, hc, n, by simpa using hs⟩, ?_⟩
    have e := r.length
    simp only [Array.length_toList] at e
    omega
theorem Inv.list_inj (I : Inv X pins σ H s) (h : SqL X.K H a xs) (h' : SqL X.K H a ys) : xs = ys := by
  obtain ⟨its, r, ⟨o, n, e, _, _, d⟩, _⟩ := I.list h
  obtain ⟨its', r', ⟨o', n', e', _, _, d'⟩, _⟩ := I.list h'
  rw [e] at e'; cases e'
  rw [d] at d'
  injection d' with d1 _
  have : its = its' := by simpa using congrArg Array.toList d1
  subst this
  exact r.inj r'
theorem Inv.tuple_inj (I : Inv X pins σ H s) (h : SqT X.K H a xs) (h' : SqT X.K H a ys) : xs = ys := by
  obtain ⟨its, r, ⟨o, e, _, n, d⟩, _⟩ := I.tuple h
  obtain ⟨its', r', ⟨o', e', _, n', d'⟩, _⟩ := I.tuple h'
  rw [e] at e'; cases e'
  rw [d] at d'
  injection d' with d1 _
  have : its = its' := by simpa using congrArg Array.toList d1
  subst this
  exact r.inj r'
end

/-! ### another wish about exceptions -/
abbrev Cx.wish (X : Cx) (E : Value → Shared → Prop) : Cx := { X with xe := E }
/-- no exception leaves -/
abbrev Cx.nox (X : Cx) : Cx := X.wish fun _ _ => False
theorem Cx.Ok.wish {X : Cx} (ok : X.Ok) (E : Value → Shared → Prop) : (X.wish E).Ok :=
  ⟨ok.mod, ok.kind, ok.glob, ok.blt, ok.above, ok.inj, ok.has, ok.cab, ok.hd, ok.frames, ok.stk, ok.exf, ok.bs, ok.bsz, ok.noex, ok.exfs, ok.funs, ok.frf⟩
theorem Cx.Ok.unwish {X : Cx} {E : Value → Shared → Prop} (ok : (X.wish E).Ok) : X.Ok :=
  ⟨ok.mod, ok.kind, ok.glob, ok.blt, ok.above, ok.inj, ok.has, ok.cab, ok.hd, ok.frames, ok.stk, ok.exf, ok.bs, ok.bsz, ok.noex, ok.exfs, ok.funs, ok.frf⟩
section
variable {X : Cx} {pins : List (Addr × Obj)} {σ : St} {H : Hp} {s : Shared} {E : Value → Shared → Prop}
theorem Inv.wish (I : Inv X pins σ H s) (E : Value → Shared → Prop) : Inv (X.wish E) pins σ H s := ⟨I.ok.wish E, I.os, I.bare, I.base, I.loc, I.cell, I.free, I.freeC, I.pin, I.hok, I.len⟩
theorem Inv.unwish (I : Inv (X.wish E) pins σ H s) : Inv X pins σ H s := ⟨I.ok.unwish, I.os, I.bare, I.base, I.loc, I.cell, I.free, I.freeC, I.pin, I.hok, I.len⟩
theorem SP.unwish {D : Ends} {f : Flow} {s' : Shared} (h : SP (X.wish E) pins D f s') : SP X pins D f s' := by
  cases f with
  | next => obtain ⟨σ', H', I, q⟩ := h; exact ⟨σ', H', I.unwish, q⟩
  | brk => obtain ⟨σ', H', I, q⟩ := h; exact ⟨σ', H', I.unwish, q⟩
  | cont => obtain ⟨σ', H', I, q⟩ := h; exact ⟨σ', H', I.unwish, q⟩
  | ret u => obtain ⟨v, σ', H', I, r, q⟩ := h; exact ⟨v, σ', H', I.unwish, r, q⟩
theorem PE.nox {e : Expr} {t : TE} (h : PE X.nox e t) : PE X e t := fun pins s σ H Q I hw =>
  wpAny_mono (h pins s σ H Q (I.wish _) hw) (fun _ _ ⟨v, H', I', r, q⟩ => ⟨v, H', I'.unwish, r, q⟩) fun _ _ z => False.elim z
theorem PT.nox {e : Expr} {t : TT} (h : PT X.nox e t) : PT X e t := fun pins s σ H Q I hw =>
  wpAny_mono (h pins s σ H Q (I.wish _) hw) (fun _ _ ⟨H', I', q⟩ => ⟨H', I'.unwish, q⟩) fun _ _ z => False.elim z
theorem PSs.nox {st : List Stmt} {t : TS} (h : PSs X.nox st t) : PSs X st t := fun pins s σ H D I hw =>
  wpAny_mono (h pins s σ H D (I.wish _) hw) (fun _ _ q => q.unwish) fun _ _ z => False.elim z
end

/-! ### blocks and small statements -/
section
variable {X : Cx} {st : Stmt} {rest : List Stmt} {t u : TS} {e : Expr} {te : TE} {pos : Pos}
def tNext : TS := fun D σ H => D.nx σ H
def tSeq (t u : TS) : TS := fun D σ H => t { D with nx := u D } σ H
theorem pss_nil : PSs X [] tNext := fun _ _ σ H _ I h => wpAny_execs_nil ⟨σ, H, I, h⟩
theorem pss_cons (h1 : PS X st t) (h2 : PSs X rest u) : PSs X (st :: rest) (tSeq t u) := by
  intro pins s σ H D I h
  refine wpAny_execs_cons (thn (h1 pins s σ H { D with nx := u D } I h) fun f s1 q => ?_)
  cases f with
  | next =>
    obtain ⟨σ', H', I', q⟩ := q
    exact h2 pins s1 σ' H' D I' q
  | ret v => exact q
  | brk => exact q
  | cont => exact q
theorem pss_one (h1 : PS X st t) : PSs X [st] t := by
  intro pins s σ H D I h
  refine wpAny_execs_cons (thn (h1 pins s σ H D I h) fun f s1 q => ?_)
  cases f with
  | next => exact wpAny_execs_nil q
  | ret v => exact q
  | brk => exact q
  | cont => exact q
/-- in a def's body nothing is shown -/
theorem Inv.quiet {pins : List (Addr × Obj)} {σ : St} {H : Hp} {s : Shared} (I : Inv X pins σ H s) : interactive X.env = false := by simp [interactive, I.ok.kind]
/-- an expression whose value is dropped -/
def tDrop (te : TE) : TS := fun D σ H => te σ H fun _ H1 => D.nx σ H1
theorem ps_expr (he : PE X e te) (hs : swapsWith e none pos.line X.env = pure false := by rfl) : PS X (.Expr e pos) (tDrop te) := by
  intro pins s σ H D I h
  exact wpAny_Expr_any (thn (he pins s σ H _ I h) fun v s1 ⟨x, H1, I1, r1, q1⟩ => ⟨σ, H1, I1, q1⟩) I.quiet hs
def tRet (te : TE) : TS := fun D σ H => te σ H D.rt
theorem ps_ret (he : PE X e te) : PS X (.Return (some e) pos) (tRet te) := by
  intro pins s σ H D I h
  exact wpAny_Return_some (thn (he pins s σ H _ I h) fun v s1 ⟨x, H1, I1, r1, q1⟩ => ⟨x, σ, H1, I1, r1, q1⟩)
def tIfS (c : TT) (t u : TS) : TS := fun D σ H => c σ H fun b H1 => if b = true then t D σ H1 else u D σ H1
theorem ps_if {c : Expr} {a b : List Stmt} {tc : TT} (hc : PT X c tc) (ha : PSs X a t) (hb : PSs X b u) : PS X (.If c a b pos) (tIfS tc t u) := by
  intro pins s σ H D I h
  refine wpAny_If (thn (hc pins s σ H _ I h) fun d s1 ⟨H1, I1, q1⟩ => ?_)
  cases d with
  | true => exact ha pins s1 σ H1 D I1 q1
  | false => exact hb pins s1 σ H1 D I1 q1
/-- code that the proof never comes to -/
def tNever : TS := fun _ _ _ => False
theorem ps_never : PS X st tNever := fun _ _ _ _ _ _ h => h.elim
end

/-! ### targets -/
abbrev TG := V → St → Hp → (St → Hp → Prop) → Prop
abbrev TGs := List V → St → Hp → (St → Hp → Prop) → Prop
def PG (X : Cx) (target : Expr) (t : TG) : Prop :=
  ∀ (pins : List (Addr × Obj)) (s : Shared) (σ : St) (H : Hp) (v : V) (u : Value) (Q : St → Hp → Prop), Inv X pins σ H s → RelV v u → t v σ H Q →
    wpAny (model X.prog X.w) X.A (assign target X.env u) (fun _ s' => ∃ σ' H', Inv X pins σ' H' s' ∧ Q σ' H') X.xe s
/-- several targets, one after another -/
def PGs (X : Cx) (ts : List Expr) (t : TGs) : Prop :=
  ∀ (pins : List (Addr × Obj)) (s : Shared) (σ : St) (H : Hp) (vs : List V) (us : List Value) (Q : St → Hp → Prop), Inv X pins σ H s → Vals vs us → t vs σ H Q →
    wpAny (model X.prog X.w) X.A (assignInOrder ((assignEach ts X.env).map (·.2)) us) (fun _ s' => ∃ σ' H', Inv X pins σ' H' s' ∧ Q σ' H') X.xe s
/-- o[i] = v, by values -/
abbrev TSet := V → V → V → Hp → (Hp → Prop) → Prop
def PSet (X : Cx) (t : TSet) : Prop :=
  ∀ (pins : List (Addr × Obj)) (s : Shared) (σ : St) (H : Hp) (o i v : V) (ov iv u : Value) (Q : Hp → Prop), Inv X pins σ H s → RelV o ov → RelV i iv → RelV v u → t o i v H Q →
    wpAny (model X.prog X.w) X.A (setItem ov iv u) (fun _ s' => ∃ H', Inv X pins σ H' s' ∧ Q H') X.xe s
/-- a op= b, by values -/
abbrev TIp := V → V → Hp → VK → Prop
def PIp (X : Cx) (op : Operator) (t : TIp) : Prop :=
  ∀ (pins : List (Addr × Obj)) (s : Shared) (σ : St) (H : Hp) (x y : V) (v u : Value) (Q : VK), Inv X pins σ H s → RelV x v → RelV y u → t x y H Q →
    wpAny (model X.prog X.w) X.A (inplaceOp op v u) (EP X pins σ Q) X.xe s
section
variable {X : Cx} {pos : Pos}
def gName (i : Nat) : TG := fun v σ H Q => Q (σ.set i (some v)) H
theorem pg_name {i : Nat} {x : Str} (hN : X.N.Nodup) (hi : X.N[i]? = some x) (hx : Loc X.env.scope x) (hf : X.fn x = true ∨ X.env.scope.names.lookup x = some .local := by first | exact .inl rfl | exact .inr rfl | assumption) : PG X (.Name x pos) (gName i) := by
  intro pins s σ H v u Q I r h
  exact wpAny_assign_Name (store_ok I hN hi hx r (fun s' I' => ⟨_, H, I', h⟩) hf)
def gNil : TGs := fun vs σ H Q => vs = [] ∧ Q σ H
def gCons (t : TG) (u : TGs) : TGs := fun vs σ H Q => ∃ v r, vs = v :: r ∧ t v σ H fun σ' H' => u r σ' H' Q
theorem pgs_nil : PGs X [] gNil := by
  intro pins s σ H vs us Q I r h
  obtain ⟨e, h⟩ := h
  subst e
  cases r
  exact assignInOrder_nil ⟨σ, H, I, h⟩
theorem pgs_cons {e : Expr} {es : List Expr} {t : TG} {u : TGs} (h1 : PG X e t) (h2 : PGs X es u)
    (hs : (assignEach (e :: es) X.env).map (·.2) = assign e X.env :: (assignEach es X.env).map (·.2) := by rfl) : PGs X (e :: es) (gCons t u) := by
  intro pins s σ H vs us Q I r h
  obtain ⟨v, vr, e1, h⟩ := h
  subst e1
  cases r with
  | cons r rr =>
    rw [hs]
    refine assignInOrder_cons (thn (h1 pins s σ H _ _ _ I r h) fun _ s1 ⟨σ1, H1, I1, q1⟩ => ?_)
    exact h2 pins s1 σ1 H1 _ _ Q I1 rr q1
/-- (a, b, ..) = a tuple of that length -/
def gTup (K : PySem.W.Frag) (n : Nat) (t : TGs) : TG := fun v σ H Q => ∃ a xs, v = .ref a ∧ SqT K H a xs ∧ xs.length = n ∧ t xs σ H Q
theorem pg_tup {es : List Expr} {k : Nat} {t : TGs} {n : Nat} (hc : X.calm = true) (h : PGs X es t)
    (hn : (assignEach es X.env).length = n := by rfl) (hst : (assignEach es X.env).findIdx? (·.1) = none := by rfl) : PG X (.Tuple es k pos) (gTup X.K n t) := by
  intro pins s σ H v u Q I r hw
  obtain ⟨a, xs, e1, hq, hl, hw⟩ := hw
  subst e1
  cases r
  obtain ⟨its, rv, ht, hz⟩ := I.tuple hq
  refine assign_Tuple_tuple (I.ok.hd hc) ht (by simp [hn, ← hl, rv.length]) hst fun h' hx => ?_
  have I1 : Inv X pins σ H { s with heap := h' } := I.kept (t' := s.toks) fun b o e => hx b o (Nat.ne_of_lt (Heap.lt_size e)) e
  exact h pins _ σ H xs _ Q I1 (by simpa using rv) hw
/-- o[i] = .. -/
def gSub (to ti : TE) (t : TSet) : TG := fun v σ H Q => to σ H fun o H1 => ti σ H1 fun i H2 => t o i v H2 fun H3 => Q σ H3
theorem pg_sub {o i : Expr} {to ti : TE} {t : TSet} (ho : PE X o to) (hi : PE X i ti) (hs : PSet X t)
    (ha : ∀ v, assign (.Subscript o i pos) X.env v = (do
      let ov ← holding [v] (eval o X.env)
      let iv ← holding [v, ov] (eval i X.env)
      standAt pos
      holding [v, ov, iv] (setItem ov iv v)
      release [v, ov, iv] []) := by intro _; rfl) : PG X (.Subscript o i pos) (gSub to ti t) := by
  intro pins s σ H v u Q I r h
  rw [ha]
  refine wpAny_bind (wpAny_holding (thn (ho pins s σ H _ I h) fun ov s1 ⟨x, H1, I1, r1, q1⟩ => ?_))
  refine wpAny_bind (wpAny_holding (thn (hi pins s1 σ H1 _ I1 q1) fun iv s2 ⟨y, H2, I2, r2, q2⟩ => ?_))
  refine wpAny_bind (wpAny_standAt (wpAny_bind (wpAny_holding (thn (hs pins s2 σ H2 x y v ov iv u _ I2 r1 r2 r q2) fun _ s3 ⟨H3, I3, q3⟩ => ?_))))
  exact wpAny_release ⟨σ, H3, I3, q3⟩
/-- target = value -/
def tAsg (te : TE) (g : TG) : TS := fun D σ H => te σ H fun x H1 => g x σ H1 D.nx
theorem ps_asg {tg e : Expr} {te : TE} {g : TG} (he : PE X e te) (hg : PG X tg g) (hs : swapsWithSole [tg] e pos.line X.env = pure false := by rfl) (hw : swappedStores [tg] e X.env = pure none := by rfl)
    (h1 : (assignEach [tg] X.env).map (·.2) = [assign tg X.env] := by rfl) : PS X (.Assign [tg] e pos) (tAsg te g) := by
  intro pins s σ H D I h
  refine wpAny_Assign_stores (thn (he pins s σ H _ I h) fun v s1 ⟨x, H1, I1, r1, q1⟩ => ?_) hs hw
  rw [h1]
  exact thn (hg pins s1 σ H1 x v _ I1 r1 q1) fun _ s2 q => q
/-- name = value -/
theorem ps_set {i : Nat} {x : Str} {e : Expr} {te : TE} {pos' : Pos} (hN : X.N.Nodup) (hi : X.N[i]? = some x) (hx : Loc X.env.scope x) (he : PE X e te) (hs : swapsWith e (some (.Name x pos')) pos.line X.env = pure false := by rfl) (hf : X.fn x = true ∨ X.env.scope.names.lookup x = some .local := by first | exact .inl rfl | exact .inr rfl | assumption) :
    PS X (.Assign [.Name x pos'] e pos) (tAsg te (gName i)) := by
  intro pins s σ H D I h
  refine wpAny_Assign_Name (thn (he pins s σ H _ I h) fun v s1 ⟨y, H1, I1, r1, q1⟩ => ?_) hs
  exact store_ok I1 hN hi hx r1 (fun s2 I2 => ⟨_, H1, I2, q1⟩) hf
/-- name op= e -/
def tAug (i : Nat) (te : TE) (ti : TIp) : TS := fun D σ H => ∃ x, σ[i]? = some (some x) ∧ te σ H fun y H1 => ti x y H1 fun z H2 => D.nx (σ.set i (some z)) H2
theorem ps_aug {i : Nat} {x : Str} {e : Expr} {te : TE} {op : Operator} {ti : TIp} {pos' : Pos} (hN : X.N.Nodup) (hi : X.N[i]? = some x) (hx : Loc X.env.scope x) (he : PE X e te) (ho : PIp X op ti) (hf : X.fn x = true ∨ X.env.scope.names.lookup x = some .local := by first | exact .inl rfl | exact .inr rfl | assumption) :
    PS X (.AugAssign (.Name x pos') op e pos) (tAug i te ti) := by
  intro pins s σ H D I h
  obtain ⟨v, e1, h⟩ := h
  obtain ⟨m, hn, hl⟩ := I.loc
  have vis : Vis X.env.scope x := by rcases hx with k | k; exact .inl k; exact .inr (.inl k)
  obtain ⟨u, r, l⟩ := hl i x v hi e1 vis
  refine wpAny_AugAssign_Name ?_
  have go : wpAny (model X.prog X.w) X.A (eval e X.env) (fun w s₂ => wpAny (model X.prog X.w) X.A (inplaceOp op u w) (fun r s₃ => wpAny (model X.prog X.w) X.A (storeName X.env x r) (fun _ => SP X pins D .next) X.xe s₃) X.xe s₂) X.xe s := by
    refine thn (he pins s σ H _ I h) fun w s1 ⟨y, H1, I1, r1, q1⟩ => ?_
    refine thn (ho pins s1 σ H1 v y u w _ I1 r r1 q1) fun z s2 ⟨zv, H2, I2, r2, q2⟩ => ?_
    exact store_ok I2 hN hi hx r2 (fun s3 I3 => ⟨_, H2, I3, q2⟩) hf
  rcases l with ⟨hk, hm⟩ | ⟨hk, c, hc, hcell⟩
  · exact wpAny_loadName_local I.ok.kind hk hn hm go
  · rcases hk with hk | hk
    · exact wpAny_loadName_cell I.ok.kind hk hc hcell go
    · rcases hx with k | k
      · have : X.env.scope.names.lookup x = some .free := hk
        rw [k] at this; cases this
      · have : X.env.scope.names.lookup x = some .free := hk
        rw [k] at this; cases this
/-- ints -/
def ipI (f : Int → Int → Int) : TIp := fun x y H Q => ∃ i j, x = .int i ∧ y = .int j ∧ Q (.int (f i j)) H
theorem ip_add : PIp X .Add (ipI fun i j => i + j) := by
  intro pins s σ H x y v u Q I r1 r2 h
  obtain ⟨i, j, e1, e2, q⟩ := h
  subst e1; subst e2
  obtain ⟨t, rfl⟩ := r1
  obtain ⟨t', rfl⟩ := r2
  exact iadd_int ⟨.int _, H, I.tok _, ⟨_, rfl⟩, q⟩
end

/-! ### while -/
section
variable {X : Cx} {pos : Pos}
end

/-! ### what a loop or a comprehension walks -/
/-- at turn i: it yields x (the heap may grow), or it stops -/
structure It where
  go : Nat → Hp → Prop
  yld : Nat → Hp → V → Hp → Prop
  stop : Nat → Hp → Prop
/-- the iterator's own objects may turn: they are not the frame's, not pinned, younger than the entry (or a comprehension's own) -/
def FpOk (X : Cx) (pins : List (Addr × Obj)) (H : Hp) (b : Addr) : Prop :=
  H b = none ∧ b ≠ X.env.locals ∧ b ∉ X.fs ∧ (b ∈ X.ex ∨ X.s_0.heap.objs.size ≤ b) ∧ (∀ x c, X.env.cells.lookup x = some c → c ≠ b) ∧ ∀ p ∈ X.pn ++ pins, p.1 ≠ b
theorem Inv.fpOk {X : Cx} {pins : List (Addr × Obj)} {σ : St} {H H' : Hp} {s : Shared} {b : Addr} (I : Inv X pins σ H s) (hb : s.heap.objs.size ≤ b) (hn : H' b = none) : FpOk X pins H' b := by
  refine ⟨hn, Nat.ne_of_gt (Nat.lt_of_lt_of_le I.lt hb), I.nofs hb, .inr (Nat.le_trans I.sz hb), fun x c e z => ?_, fun p hp z => ?_⟩
  · obtain ⟨v, q⟩ := I.cell x c e
    exact absurd (Nat.lt_of_lt_of_le q.lt (by rw [z]; exact hb)) (Nat.lt_irrefl _)
  · exact absurd (Nat.lt_of_lt_of_le (Heap.lt_size (I.pin p hp).1) (by rw [z]; exact hb)) (Nat.lt_irrefl _)
structure Turn (P : Program) (w : World) (K : PySem.W.Frag) (tg : Expr) (J : It) (fp : List Addr) (it : Addr) (tn : Nat → Heap → Prop) : Prop where
  mem : it ∈ fp
  obj : ∀ i h, tn i h → ∀ b ∈ fp, ∃ o, h.get? b = some o ∧ ∀ v, o.data ≠ .cell v
  keep : ∀ i h h', tn i h → (∀ b ∈ fp, ∀ o, h.get? b = some o → h'.get? b = some o) → tn i h'
  item : ∀ (X : Cx), X.prog = P → X.w = w → X.K = K → X.calm = true → ∀ (i : Nat) (pins : List (Addr × Obj)) (s : Shared) (σ : St) (H : Hp) (E : Value → Shared → Prop), Inv X pins σ H s → (∀ b ∈ fp, FpOk X pins H b) → tn i s.heap → J.go i H →
    wpAny (model P w) X.A (pyNext (.ref it)) (fun r s1 => ∃ u, r = some u ∧
      wpAny (model P w) X.A (letOwnedTupleGo tg (.ref it) u) (fun _ s2 => ∃ x H', Inv X pins σ H' s2 ∧ RelV x u ∧ J.yld i H x H' ∧ tn (i + 1) s2.heap ∧ ∀ b ∈ fp, H' b = none) E s1) E s
  done : ∀ (X : Cx), X.prog = P → X.w = w → X.K = K → X.calm = true → ∀ (i : Nat) (pins : List (Addr × Obj)) (s : Shared) (σ : St) (H : Hp) (E : Value → Shared → Prop), Inv X pins σ H s → (∀ b ∈ fp, FpOk X pins H b) → tn i s.heap → J.stop i H →
    wpAny (model P w) X.A (pyNext (.ref it)) (fun r s1 => r = none ∧ Inv X pins σ H s1) E s
  self : ∀ (A : Around) (i : Nat) (s : Shared) (Q : Value → Shared → Prop) (E : Value → Shared → Prop), tn i s.heap → Q (.ref it) s → wpAny (model P w) A (pyIter (.ref it)) Q E s
abbrev TI := St → Hp → (It → Hp → Prop) → Prop
/-- an iterator has come -/
def PIE (X : Cx) (pins : List (Addr × Obj)) (σ : St) (tg : Expr) (R : It → Hp → Prop) (itv : Value) (s2 : Shared) : Prop :=
  ∃ (it : Addr) (fp : List Addr) (tn : Nat → Heap → Prop) (J : It) (H' : Hp), itv = .ref it ∧ Inv X pins σ H' s2 ∧ Turn X.prog X.w X.K tg J fp it tn ∧ tn 0 s2.heap ∧ (∀ b ∈ fp, FpOk X pins H' b) ∧ R J H'
def PI (X : Cx) (tg iter : Expr) (wi : TI) : Prop :=
  ∀ (pins : List (Addr × Obj)) (s : Shared) (σ : St) (H : Hp) (R : It → Hp → Prop), Inv X pins σ H s → wi σ H R →
    wpAny (model X.prog X.w) X.A (eval iter X.env) (fun v s1 => wpAny (model X.prog X.w) X.A (pyIter v) (PIE X pins σ tg R) X.xe s1) X.xe s

/-- the step ahead of the store is nothing for an iterator that keeps no tuple -/
theorem go_of {M : Model} {A : Around} {E : Value → Shared → Prop} {s : Shared} {tg : Expr} {it : Addr} {u : Value} {o : Obj} {n : String} {vs : Array Value} {Q : Unit → Shared → Prop} (ho : s.heap.get? it = some o) (hc : o.cls = .type n) (hd : o.data = .fields vs)
    (hn : ["enumerate", "zip", "dict_itemiterator", "dict_reverseitemiterator", "odict_iterator", "itertools.zip_longest", "itertools.pairwise"].contains n = false) (hQ : Q () s) : wpAny M A (letOwnedTupleGo tg (.ref it) u) Q E s := by
  unfold letOwnedTupleGo
  cases tg <;> first
    | exact wpAny_pure hQ
    | (cases u <;> first
        | exact wpAny_pure hQ
        | (refine wpAny_bind (wpAny_load ho ?_)
           rw [hc, hd]
           show wpAny M A (if (["enumerate", "zip", "dict_itemiterator", "dict_reverseitemiterator", "odict_iterator", "itertools.zip_longest", "itertools.pairwise"].contains n && vs[0]? == some (rawInt _)) = true then _ else _) Q E s
           rw [if_neg (by intro h; rw [hn, Bool.false_and] at h; cases h)]
           exact wpAny_pure hQ))

/-- the list at a, as it stands at each turn (a loop may append to it) -/
def Itl (K : PySem.W.Frag) (a : Addr) : It :=
  ⟨fun i H => ∃ xs x, SqL K H a xs ∧ xs[i]? = some x, fun i H x H' => H' = H ∧ ∀ xs, SqL K H a xs → xs[i]? = some x, fun i H => ∃ xs, SqL K H a xs ∧ xs.length ≤ i⟩
def Itt (K : PySem.W.Frag) (a : Addr) : It :=
  ⟨fun i H => ∃ xs x, SqT K H a xs ∧ xs[i]? = some x, fun i H x H' => H' = H ∧ ∀ xs, SqT K H a xs → xs[i]? = some x, fun i H => ∃ xs, SqT K H a xs ∧ xs.length ≤ i⟩
/-- lo, lo + 1, .. (n of them) -/
def Itr (lo : Int) (n : Nat) : It := ⟨fun i _ => i < n, fun i H x H' => H' = H ∧ x = .int (lo + i), fun i _ => n ≤ i⟩
theorem turn_list {P : Program} {w : World} {K : PySem.W.Frag} {tg : Expr} (a it : Addr) : Turn P w K tg (Itl K a) [it] it (fun i h => h.IsListIter it a i) where
  mem := by simp
  obj := fun i h st b hb => by
    have e : b = it := by simpa using hb
    subst e
    obtain ⟨o, e, c, d⟩ := st
    exact ⟨o, e, fun v z => by rw [d] at z; cases z⟩
  keep := fun i h h' st k => st.at fun o e => k it (by simp) o e
  item := by
    intro X hP hw hK hc i pins s σ H E I hf st hg
    subst hP hw hK
    obtain ⟨xs, x, hq, hx⟩ := hg
    obtain ⟨its, rv, p, hz⟩ := I.list hq
    obtain ⟨u, hu, ru⟩ := rv.get hx
    obtain ⟨f0, f1, f2, f3, f4, f5⟩ := hf it (by simp)
    refine wpAny_pyNext_list_item st p.isList (x := u) (by simpa using hu) fun h' st' sb => ?_
    have I1 : Inv X pins σ H { s with heap := h' } := I.turned (t' := s.toks) (fun b o hb e => (sb.2 b hb).trans e) f0 f1 f3 f4 f5
    obtain ⟨o, e, c, d⟩ := id st'
    exact ⟨u, rfl, go_of (s := { s with heap := h' }) e c d (by decide) ⟨x, H, I1, ru, ⟨rfl, fun ys hy => by rw [I.list_inj hy hq]; exact hx⟩, st', fun b hb => (hf b hb).1⟩⟩
  done := by
    intro X hP hw hK hc i pins s σ H E I hf st hg
    subst hP hw hK
    obtain ⟨xs, hq, hx⟩ := hg
    obtain ⟨its, rv, p, hz⟩ := I.list hq
    obtain ⟨f0, f1, f2, f3, f4, f5⟩ := hf it (by simp)
    have hl := rv.length
    exact wpAny_pyNext_list_end (I.ok.hd hc) st p.isList (by simp; omega) fun h' eb => ⟨rfl, I.turned (t' := s.toks) (fun b o hb e => eb b o hb e) f0 f1 f3 f4 f5⟩
  self := fun _ _ _ _ _ st h => wpAny_pyIter_listiter st h
theorem turn_tuple {P : Program} {w : World} {K : PySem.W.Frag} {tg : Expr} (a it : Addr) : Turn P w K tg (Itt K a) [it] it (fun i h => h.IsTupleIter it a i) where
  mem := by simp
  obj := fun i h st b hb => by
    have e : b = it := by simpa using hb
    subst e
    obtain ⟨o, e, c, d⟩ := st
    exact ⟨o, e, fun v z => by rw [d] at z; cases z⟩
  keep := fun i h h' st k => st.at fun o e => k it (by simp) o e
  item := by
    intro X hP hw hK hc i pins s σ H E I hf st hg
    subst hP hw hK
    obtain ⟨xs, x, hq, hx⟩ := hg
    obtain ⟨its, rv, p, hz⟩ := I.tuple hq
    obtain ⟨u, hu, ru⟩ := rv.get hx
    obtain ⟨f0, f1, f2, f3, f4, f5⟩ := hf it (by simp)
    refine wpAny_pyNext_tuple_item st (show s.heap.IsTuple a its.toArray from p) (x := u) (by simpa using hu) fun h' st' sb => ?_
    have I1 : Inv X pins σ H { s with heap := h' } := I.turned (t' := s.toks) (fun b o hb e => (sb.2 b hb).trans e) f0 f1 f3 f4 f5
    obtain ⟨o, e, c, d⟩ := id st'
    exact ⟨u, rfl, go_of (s := { s with heap := h' }) e c d (by decide) ⟨x, H, I1, ru, ⟨rfl, fun ys hy => by rw [I.tuple_inj hy hq]; exact hx⟩, st', fun b hb => (hf b hb).1⟩⟩
  done := by
    intro X hP hw hK hc i pins s σ H E I hf st hg
    subst hP hw hK
    obtain ⟨xs, hq, hx⟩ := hg
    obtain ⟨its, rv, p, hz⟩ := I.tuple hq
    obtain ⟨f0, f1, f2, f3, f4, f5⟩ := hf it (by simp)
    have hl := rv.length
    exact wpAny_pyNext_tuple_end (I.ok.hd hc) st (show s.heap.IsTuple a its.toArray from p) (by simp; omega) fun h' eb => ⟨rfl, I.turned (t' := s.toks) (fun b o hb e => eb b o hb e) f0 f1 f3 f4 f5⟩
  self := fun _ _ _ _ _ st h => wpAny_pyIter_tupleiter st h
theorem turn_range {P : Program} {w : World} {K : PySem.W.Frag} {tg : Expr} (it : Addr) (lo : Int) (n : Nat) : Turn P w K tg (Itr lo n) [it] it (fun i h => IsRangeIter h it (lo + (i : Nat) * 1) ((n : Int) - (i : Nat)) 1) where
  mem := by simp
  obj := fun i h st b hb => by
    have e : b = it := by simpa using hb
    subst e
    exact ⟨_, st, fun v z => by
      have z' : Data.fields _ = Data.cell v := z
      cases z'⟩
  keep := fun i h h' st k => k it (by simp) _ st
  item := by
    intro X hP hw hK hc i pins s σ H E I hf st hg
    subst hP hw hK
    obtain ⟨f0, f1, f2, f3, f4, f5⟩ := hf it (by simp)
    have W := Walks.range (prog := X.prog) (w := X.w) (I.ok.hd hc) it lo 1 n
    refine W.item i s _ _ hg st fun v h' tk hv st' kk => ?_
    obtain ⟨t, rfl⟩ := hv
    have I1 : Inv X pins σ H { s with heap := h', toks := tk } := I.turned (fun b o hb e => kk b o (by simpa using hb) e) f0 f1 f3 f4 f5
    refine ⟨_, rfl, go_of (s := { s with heap := h', toks := tk }) (n := "range_iterator") st' rfl rfl (by decide) ⟨.int (lo + i), H, I1, ⟨t, ?_⟩, ⟨rfl, rfl⟩, st', fun b hb => (hf b hb).1⟩⟩
    rw [Int.mul_one]
  done := by
    intro X hP hw hK hc i pins s σ H E I hf st hg
    subst hP hw hK
    obtain ⟨f0, f1, f2, f3, f4, f5⟩ := hf it (by simp)
    exact wpAny_pyNext_range_end (I.ok.hd hc) st (by have : n ≤ i := hg; omega) fun h' eb => ⟨rfl, I.turned (t' := s.toks) (fun b o hb e => eb b o hb e) f0 f1 f3 f4 f5⟩
  self := fun _ _ _ _ _ st h => wpAny_pyIter_rangeiter st h
end L2

namespace L2
open PySem PySem.Spec PyProof.Rows
section
variable {X : Cx} {tg : Expr}
def iList (K : PySem.W.Frag) (tl : TE) : TI := fun σ H R => tl σ H fun x H1 => ∃ a, x = .ref a ∧ (∃ xs, SqL K H1 a xs) ∧ R (Itl K a) H1
def iTup (K : PySem.W.Frag) (tl : TE) : TI := fun σ H R => tl σ H fun x H1 => ∃ a, x = .ref a ∧ (∃ xs, SqT K H1 a xs) ∧ R (Itt K a) H1
theorem pi_list {l : Expr} {tl : TE} (hl : PE X l tl) : PI X tg l (iList X.K tl) := by
  intro pins s σ H R I h
  refine thn (hl pins s σ H _ I h) fun v s1 ⟨x, H1, I1, r1, q1⟩ => ?_
  obtain ⟨a, e, ⟨xs, hq⟩, q⟩ := q1
  subst e
  cases r1
  obtain ⟨its, rv, p, hz⟩ := I1.list hq
  refine wpAny_pyIter_list p.isList ?_
  refine ⟨s1.heap.objs.size, [s1.heap.objs.size], _, _, H1, rfl, I1.kept (t' := s1.toks) fun b o e => Heap.get?_push_of_some _ e, turn_list a _, ⟨_, Heap.get?_push_size _ rfl, rfl, rfl⟩, fun b hb => ?_, q⟩
  have e : b = s1.heap.objs.size := by simpa using hb
  subst e
  exact I1.fpOk (Nat.le_refl _) (I1.hok.fresh (Nat.le_refl _))
theorem pi_tup {l : Expr} {tl : TE} (hl : PE X l tl) : PI X tg l (iTup X.K tl) := by
  intro pins s σ H R I h
  refine thn (hl pins s σ H _ I h) fun v s1 ⟨x, H1, I1, r1, q1⟩ => ?_
  obtain ⟨a, e, ⟨xs, hq⟩, q⟩ := q1
  subst e
  cases r1
  obtain ⟨its, rv, p, hz⟩ := I1.tuple hq
  refine wpAny_pyIter_tuple (show s1.heap.IsTuple a its.toArray from p) ?_
  refine ⟨s1.heap.objs.size, [s1.heap.objs.size], _, _, H1, rfl, I1.kept (t' := s1.toks) fun b o e => Heap.get?_push_of_some _ e, turn_tuple a _, ⟨_, Heap.get?_push_size _ rfl, rfl, rfl⟩, fun b hb => ?_, q⟩
  have e : b = s1.heap.objs.size := by simpa using hb
  subst e
  exact I1.fpOk (Nat.le_refl _) (I1.hok.fresh (Nat.le_refl _))
/-- a range object just made, walked -/
theorem range_it {pins : List (Addr × Obj)} {σ : St} {H : Hp} {s : Shared} {R : It → Hp → Prop} {E : Value → Shared → Prop} {lo hi : Int} {t u v : Tok} {tk : Nat} (I : Inv X pins σ H s) (h1 : -(2 ^ 62) ≤ lo) (h2 : lo < 2 ^ 62) (h3 : -(2 ^ 62) ≤ hi) (h4 : hi < 2 ^ 62)
    (q : R (Itr lo (hi - lo).toNat) H) : wpAny (model X.prog X.w) X.A (pyIter (.ref s.heap.objs.size)) (PIE X pins σ tg R) E { s with heap := s.heap.push { cls := .type "range", data := .fields #[.int lo t, .int hi u, .int 1 v] }, toks := tk } := by
  refine wpAny_pyIter_range (IsRange.new ..) (small_one h1 h2 h3 h4) ?_
  have I1 : Inv X pins σ H { s with heap := s.heap.push { cls := .type "range", data := .fields #[.int lo t, .int hi u, .int 1 v] }, toks := tk } := I.kept fun b o e => Heap.get?_push_of_some _ e
  refine ⟨(s.heap.push { cls := .type "range", data := .fields #[.int lo t, .int hi u, .int 1 v] }).objs.size, [(s.heap.push { cls := .type "range", data := .fields #[.int lo t, .int hi u, .int 1 v] }).objs.size], _, _, H, rfl,
    I1.kept (t' := tk) fun b o e => Heap.get?_push_of_some _ e, turn_range _ lo (hi - lo).toNat, ?_, fun b hb => ?_, q⟩
  · have e1 : lo + ((0 : Nat) : Int) * 1 = lo := by simp
    have e2 : (((hi - lo).toNat : Nat) : Int) - ((0 : Nat) : Int) = Builtin.Range.rangeSize lo hi 1 := by rw [rangeSize_one]; split <;> omega
    show IsRangeIter _ _ (lo + ((0 : Nat) : Int) * 1) ((((hi - lo).toNat : Nat) : Int) - ((0 : Nat) : Int)) 1
    rw [e1, e2]
    exact Heap.get?_push_size _ rfl
  · have e : b = (s.heap.push { cls := .type "range", data := .fields #[.int lo t, .int hi u, .int 1 v] }).objs.size := by simpa using hb
    subst e
    exact I1.fpOk (Nat.le_refl _) (I1.hok.fresh (Nat.le_refl _))
def iRng1 (ta : TA) : TI := fun σ H R => ta σ H fun vs H1 => ∃ j : Int, vs = [.int j] ∧ -(2 ^ 62) ≤ j ∧ j < 2 ^ 62 ∧ R (Itr 0 j.toNat) H1
theorem pi_range1 {a : Expr} {ta : TA} {p pos : Pos} (hg : Gl X "range") (hm : X.mg "range" = none) (ha : PA X [a] ta) (hs : starEach [a] X.env = [(false, eval a X.env)] := by rfl) : PI X tg (.Call (.Name "range" p) [a] [] pos) (iRng1 ta) := by
  intro pins s σ H R I h
  refine Call_ (ld_blt I hg hm boot_range (PyProof.Rows.callWith_type1 (thn (ha pos pins s σ H _ I h) fun us s1 ⟨vs, H1, I1, r1, q1⟩ => ?_) hs rfl))
  obtain ⟨j, e, q1, q2, q⟩ := q1
  subst e
  cases r1 with
  | cons r rr =>
    cases rr
    obtain ⟨t, rfl⟩ := r
    exact call_range_1 (range_it I1 (by omega) (by omega) q1 q2 (by simpa using q))
/-! ### for -/
/-- W: the invariant by the turn and a measure; N: what the body is to reach -/
def tFor (wi : TI) (g : TG) (tb : TS) : TS := fun D σ H => wi σ H fun J H1 => ∃ W : Nat → Nat → St → Hp → Prop, (∃ m, W 0 m σ H1) ∧ ∀ i m σ H, W i m σ H →
  (J.stop i H ∧ D.nx σ H) ∨ (J.go i H ∧ ∃ N : St → Hp → Prop, (∀ σ' H', N σ' H' → ∃ m', m' < m ∧ W (i + 1) m' σ' H') ∧ ∀ x H', J.yld i H x H' → g x σ H' fun σ2 H2 => tb { D with nx := N, ct := N, bk := D.nx } σ2 H2)
/-- the records at fp as they stand -/
def pinsAt (fp : List Addr) (h : Heap) : List (Addr × Obj) := fp.filterMap fun b => (h.get? b).map fun o => (b, o)
theorem mem_pinsAt {fp : List Addr} {h : Heap} {b : Addr} {o : Obj} (hb : b ∈ fp) (e : h.get? b = some o) : (b, o) ∈ pinsAt fp h := List.mem_filterMap.mpr ⟨b, hb, by rw [e]; rfl⟩
theorem of_pinsAt {fp : List Addr} {h : Heap} {p : Addr × Obj} (hp : p ∈ pinsAt fp h) : p.1 ∈ fp ∧ h.get? p.1 = some p.2 := by
  obtain ⟨b, hb, e⟩ := List.mem_filterMap.mp hp
  cases q : h.get? b with
  | none => rw [q] at e; cases e
  | some o =>
    rw [q] at e
    have e' : (b, o) = p := Option.some.inj e
    subst e'
    exact ⟨hb, q⟩
theorem Inv.pinned {pins : List (Addr × Obj)} {σ : St} {H : Hp} {s : Shared} {fp : List Addr} (I : Inv X pins σ H s) (hf : ∀ b ∈ fp, FpOk X pins H b) (ho : ∀ b ∈ fp, ∃ o, s.heap.get? b = some o ∧ ∀ v, o.data ≠ .cell v) : Inv X (pins ++ pinsAt fp s.heap) σ H s :=
  I.pins_of fun p hp => (List.mem_append.mp hp).elim (fun z => I.pin p (List.mem_append_right _ z)) fun z => by
    obtain ⟨hb, e⟩ := of_pinsAt z
    obtain ⟨f0, f1, f2, _⟩ := hf p.1 hb
    obtain ⟨o, e', d⟩ := ho p.1 hb
    rw [e] at e'; cases e'
    exact ⟨e, f0, f1, f2, d⟩
theorem Inv.unpinned {pins pl : List (Addr × Obj)} {σ : St} {H : Hp} {s : Shared} (I : Inv X (pins ++ pl) σ H s) : Inv X pins σ H s := I.pins_of fun p hp => I.pin p (List.mem_append_right _ (List.mem_append_left _ hp))
theorem ps_for {iter : Expr} {body : List Stmt} {wi : TI} {g : TG} {tb : TS} {pos : Pos} (hp : PassesOwn (model X.prog X.w) X.A X.env X.xe) (hc : X.calm = true) (hi : PI X tg iter wi) (hg : PG X tg g) (hb : PSs X body tb)
    (hs : ∀ x, foldedSetIterable iter X.env x = pure x := by intro _; rfl) : PS X (.For tg iter body [] pos) (tFor wi g tb) := by
  intro pins s σ H D I h
  refine wpAny_For (thn (hi pins s σ H _ I h) fun v s1 h1 => thn h1 fun itv s2 h2 => ?_) hs
  obtain ⟨it, fp, tn, J, H2, e, I2, T, st2, f2, W, ⟨m0, w0⟩, turn⟩ := h2
  subst e
  -- what stays true of the iterator's objects through the loop
  have stat : ∀ {H' : Hp}, (∀ b ∈ fp, H' b = none) → ∀ b ∈ fp, FpOk X pins H' b := fun hn b hb => ⟨hn b hb, (f2 b hb).2⟩
  refine codeAny_forLoop_any (fun n s' => ∃ i σ' H', Inv X pins σ' H' s' ∧ tn i s'.heap ∧ (∀ b ∈ fp, H' b = none) ∧ W i n σ' H') ?_ m0 ⟨0, σ, H2, I2, st2, fun b hb => (f2 b hb).1, w0⟩
  rintro n s3 ⟨i, σ3, H3, I3, st3, fr3, w3⟩
  rcases turn i n σ3 H3 w3 with ⟨stop, qn⟩ | ⟨go, N, hN, step⟩
  · refine wpAny_passesOwn hp (thn (T.done X rfl rfl rfl hc i pins s3 σ3 H3 X.xe I3 (stat fr3) st3 stop) fun r s4 ⟨hr, I4⟩ => ?_)
    subst hr
    exact wpAny_execs_nil ⟨σ3, H3, I4, qn⟩
  · refine wpAny_passesOwn hp (thn (T.item X rfl rfl rfl hc i pins s3 σ3 H3 X.xe I3 (stat fr3) st3 go) fun r s4 ⟨u, hr, h4⟩ => ?_)
    subst hr
    refine wpAny_passesOwn hp (thn h4 fun _ s5 ⟨x, H5, I5, r5, y5, st5, fr5⟩ => ?_)
    have I5' := I5.pinned (stat fr5) (T.obj _ _ st5)
    refine wpAny_passesOwn hp (thn (hg _ s5 σ3 H5 x u _ I5' r5 (step x H5 y5)) fun _ s6 ⟨σ6, H6, I6, q6⟩ => ?_)
    refine wpAny_passesOwn hp (thn (hb _ s6 σ6 H6 _ I6 q6) fun f s7 q7 => ?_)
    have again : ∀ {σ7 : St} {H7 : Hp}, Inv X (pins ++ pinsAt fp s5.heap) σ7 H7 s7 → N σ7 H7 → ∃ m, m < n ∧ ∃ i σ' H', Inv X pins σ' H' s7 ∧ tn i s7.heap ∧ (∀ b ∈ fp, H' b = none) ∧ W i m σ' H' := fun {σ7 H7} I7 n7 => by
      obtain ⟨m', hm, w7⟩ := hN σ7 H7 n7
      refine ⟨m', hm, i + 1, σ7, H7, I7.unpinned, T.keep _ _ _ st5 fun b hb o e => (I7.pin (b, o) (List.mem_append_right _ (List.mem_append_right _ (mem_pinsAt hb e)))).1, fun b hb => ?_, w7⟩
      obtain ⟨o, e, d⟩ := T.obj _ _ st5 b hb
      exact (I7.pin (b, o) (List.mem_append_right _ (List.mem_append_right _ (mem_pinsAt hb e)))).2.1
    cases f with
    | next => obtain ⟨σ7, H7, I7, n7⟩ := q7; exact again I7 n7
    | cont => obtain ⟨σ7, H7, I7, n7⟩ := q7; exact again I7 n7
    | brk => obtain ⟨σ7, H7, I7, q7⟩ := q7; exact ⟨σ7, H7, I7.unpinned, q7⟩
    | ret v => obtain ⟨x7, σ7, H7, I7, r7, q7⟩ := q7; exact ⟨x7, σ7, H7, I7.unpinned, r7, q7⟩
end

/-! ### the forms one uses -/
/-- over a list that the body leaves as it is -/
theorem for_list {K : PySem.W.Frag} {a : Addr} {xs : List V} {g : TG} {tb : TS} {D : Ends} {σ : St} {H : Hp} (Pv : Nat → St → Hp → Prop) (h0 : Pv 0 σ H) (hl : ∀ i σ H, i ≤ xs.length → Pv i σ H → SqL K H a xs)
    (hs : ∀ i x σ H, xs[i]? = some x → Pv i σ H → g x σ H fun σ2 H2 => tb { D with nx := Pv (i + 1), ct := Pv (i + 1), bk := D.nx } σ2 H2) (hd : ∀ σ H, Pv xs.length σ H → D.nx σ H) :
    ∃ W : Nat → Nat → St → Hp → Prop, (∃ m, W 0 m σ H) ∧ ∀ i m σ H, W i m σ H →
      ((Itl K a).stop i H ∧ D.nx σ H) ∨ ((Itl K a).go i H ∧ ∃ N : St → Hp → Prop, (∀ σ' H', N σ' H' → ∃ m', m' < m ∧ W (i + 1) m' σ' H') ∧ ∀ x H', (Itl K a).yld i H x H' → g x σ H' fun σ2 H2 => tb { D with nx := N, ct := N, bk := D.nx } σ2 H2) := by
  refine ⟨fun i m σ H => m = xs.length - i ∧ i ≤ xs.length ∧ Pv i σ H, ⟨xs.length, by simp, Nat.zero_le _, h0⟩, ?_⟩
  rintro i m σ H ⟨rfl, hi, p⟩
  have q := hl i σ H hi p
  by_cases hlt : i < xs.length
  · refine .inr ⟨⟨xs, xs[i], q, by simp [hlt]⟩, Pv (i + 1), fun σ' H' p' => ⟨xs.length - (i + 1), by omega, rfl, hlt, p'⟩, fun x H' y => ?_⟩
    obtain ⟨e, y⟩ := y
    subst e
    exact hs i x σ _ (y xs q) p
  · have e : i = xs.length := by omega
    subst e
    exact .inl ⟨⟨xs, q, Nat.le_refl _⟩, hd σ H p⟩
theorem for_range {lo : Int} {n : Nat} {g : TG} {tb : TS} {D : Ends} {σ : St} {H : Hp} (Pv : Nat → St → Hp → Prop) (h0 : Pv 0 σ H)
    (hs : ∀ i σ H, i < n → Pv i σ H → g (.int (lo + i)) σ H fun σ2 H2 => tb { D with nx := Pv (i + 1), ct := Pv (i + 1), bk := D.nx } σ2 H2) (hd : ∀ σ H, Pv n σ H → D.nx σ H) :
    ∃ W : Nat → Nat → St → Hp → Prop, (∃ m, W 0 m σ H) ∧ ∀ i m σ H, W i m σ H →
      ((Itr lo n).stop i H ∧ D.nx σ H) ∨ ((Itr lo n).go i H ∧ ∃ N : St → Hp → Prop, (∀ σ' H', N σ' H' → ∃ m', m' < m ∧ W (i + 1) m' σ' H') ∧ ∀ x H', (Itr lo n).yld i H x H' → g x σ H' fun σ2 H2 => tb { D with nx := N, ct := N, bk := D.nx } σ2 H2) := by
  refine ⟨fun i m σ H => m = n - i ∧ i ≤ n ∧ Pv i σ H, ⟨n, by simp, Nat.zero_le _, h0⟩, ?_⟩
  rintro i m σ H ⟨rfl, hi, p⟩
  by_cases hlt : i < n
  · refine .inr ⟨hlt, Pv (i + 1), fun σ' H' p' => ⟨n - (i + 1), by omega, rfl, hlt, p'⟩, fun x H' y => ?_⟩
    obtain ⟨e, y⟩ := y
    subst e y
    exact hs i σ _ hlt p
  · have e : i = n := by omega
    subst e
    exact .inl ⟨Nat.le_refl _, hd σ H p⟩
end L2

namespace L2
open PySem PySem.Spec PyProof.Rows

abbrev R2 := V → V → Hp → VK → Prop
/-- a two-place operation on values: f is binaryOp op, inplaceOp op or compareOp op -/
def OpR (X : Cx) (f : Value → Value → Sem Value) (r : R2) : Prop :=
  ∀ (pins : List (Addr × Obj)) (s : Shared) (σ : St) (H : Hp) (x y : V) (v u : Value) (Q : VK), Inv X pins σ H s → RelV x v → RelV y u → r x y H Q →
    wpAny (model X.prog X.w) X.A (f v u) (EP X pins σ Q) X.xe s
/-- a one-place operation -/
def UnR (X : Cx) (f : Value → Sem Value) (r : V → Hp → VK → Prop) : Prop :=
  ∀ (pins : List (Addr × Obj)) (s : Shared) (σ : St) (H : Hp) (x : V) (v : Value) (Q : VK), Inv X pins σ H s → RelV x v → r x H Q →
    wpAny (model X.prog X.w) X.A (f v) (EP X pins σ Q) X.xe s
/-- a call of a value that is known (a builtin, a type) with values -/
def CallR (X : Cx) (f : Value) (r : List V → Hp → VK → Prop) : Prop :=
  ∀ (pins : List (Addr × Obj)) (s : Shared) (σ : St) (H : Hp) (xs : List V) (us : List Value) (Q : VK), Inv X pins σ H s → Vals xs us → r xs H Q →
    wpAny (model X.prog X.w) X.A (call f us) (EP X pins σ Q) X.xe s
def tOp (r : R2) (ta tb : TE) : TE := fun σ H Q => ta σ H fun x H1 => tb σ H1 fun y H2 => r x y H2 Q
def tUn (r : V → Hp → VK → Prop) (ta : TE) : TE := fun σ H Q => ta σ H fun x H1 => r x H1 Q
/-- ints in, under C, and a value out -/
def rI (C : Int → Int → Prop) (g : Int → Int → V) : R2 := fun x y H Q => ∃ i j, x = .int i ∧ y = .int j ∧ C i j ∧ Q (g i j) H
def rI0 (g : Int → Int → V) : R2 := fun x y H Q => ∃ i j, x = .int i ∧ y = .int j ∧ Q (g i j) H
def rU (g : Int → V) : V → Hp → VK → Prop := fun x H Q => ∃ i, x = .int i ∧ Q (g i) H

section
variable {X : Cx} {a b c : Expr} {ta tb tc : TE} {pos : Pos}

theorem binT (ha : PE X a ta) (hb : PE X b tb) {pins : List (Addr × Obj)} {s : Shared} {σ : St} {H : Hp} {R : V → V → Hp → Prop} (I : Inv X pins σ H s)
    (h : ta σ H fun x H1 => tb σ H1 fun y H2 => R x y H2) {Q : Value → Shared → Prop} {f : Value → Value → Sem Value}
    (hf : ∀ v u s2 x y H2, Inv X pins σ H2 s2 → RelV x v → RelV y u → R x y H2 → wpAny (model X.prog X.w) X.A (f v u) Q X.xe s2) :
    wpAny (model X.prog X.w) X.A (eval a X.env) (fun v s₁ => wpAny (model X.prog X.w) X.A (eval b X.env) (fun u s₂ => wpAny (model X.prog X.w) X.A (f v u) Q X.xe s₂) X.xe s₁) X.xe s := by
  refine thn (ha pins s σ H _ I h) fun v s1 ⟨x, H1, I1, r1, q1⟩ => ?_
  refine thn (hb pins s1 σ H1 _ I1 q1) fun u s2 ⟨y, H2, I2, r2, q2⟩ => ?_
  exact hf v u s2 x y H2 I2 r1 r2 q2

theorem pe_op {op : Operator} {r : R2} (ho : OpR X (binaryOp op) r) (ha : PE X a ta) (hb : PE X b tb) : PE X (.BinOp a op b pos) (tOp r ta tb) := by
  intro pins s σ H Q I h
  exact wpAny_BinOp (binT ha hb I h fun v u s2 x y H2 I2 rx ry q => ho pins s2 σ H2 x y v u Q I2 rx ry q)
theorem pe_un {op : UnaryOp} {r : V → Hp → VK → Prop} (ho : UnR X (unaryOp op) r) (ha : PE X a ta) : PE X (.UnaryOp op a pos) (tUn r ta) := by
  intro pins s σ H Q I h
  exact UnaryOp_ (thn (ha pins s σ H _ I h) fun v s1 ⟨x, H1, I1, r1, q1⟩ => ho pins s1 σ H1 x v Q I1 r1 q1)
/-! ### ints -/
theorem opI {f : Value → Value → Sem Value} {C : Int → Int → Prop} {g : Int → Int → Int}
    (rule : ∀ (i j : Int) (t u : Tok) (s : Shared) (Q : Value → Shared → Prop) (E : Value → Shared → Prop), C i j → Q (.int (g i j) s.toks) { s with toks := s.toks + 1 } → wpAny (model X.prog X.w) X.A (f (.int i t) (.int j u)) Q E s) :
    OpR X f (rI C fun i j => .int (g i j)) := by
  intro pins s σ H x y v u Q I rx ry h
  obtain ⟨i, j, rfl, rfl, hc, q⟩ := h
  obtain ⟨t, rfl⟩ := rx
  obtain ⟨t', rfl⟩ := ry
  exact rule i j t t' s _ _ hc ⟨.int (g i j), H, I.tok _, ⟨_, rfl⟩, q⟩
theorem opI0 {f : Value → Value → Sem Value} {g : Int → Int → Int}
    (rule : ∀ (i j : Int) (t u : Tok) (s : Shared) (Q : Value → Shared → Prop) (E : Value → Shared → Prop), Q (.int (g i j) s.toks) { s with toks := s.toks + 1 } → wpAny (model X.prog X.w) X.A (f (.int i t) (.int j u)) Q E s) :
    OpR X f (rI0 fun i j => .int (g i j)) := by
  intro pins s σ H x y v u Q I rx ry h
  obtain ⟨i, j, rfl, rfl, q⟩ := h
  obtain ⟨t, rfl⟩ := rx
  obtain ⟨t', rfl⟩ := ry
  exact rule i j t t' s _ _ ⟨.int (g i j), H, I.tok _, ⟨_, rfl⟩, q⟩
theorem opB0 {f : Value → Value → Sem Value} {g : Int → Int → Bool}
    (rule : ∀ (i j : Int) (t u : Tok) (s : Shared) (Q : Value → Shared → Prop) (E : Value → Shared → Prop), Q (.bool (g i j)) s → wpAny (model X.prog X.w) X.A (f (.int i t) (.int j u)) Q E s) :
    OpR X f (rI0 fun i j => .bl (g i j)) := by
  intro pins s σ H x y v u Q I rx ry h
  obtain ⟨i, j, rfl, rfl, q⟩ := h
  obtain ⟨t, rfl⟩ := rx
  obtain ⟨t', rfl⟩ := ry
  exact rule i j t t' s _ _ ⟨.bl (g i j), H, I, rfl, q⟩

def CPow (i j : Int) : Prop := 0 ≤ j ∧ j ≤ 1000000 ∧ i.natAbs < 2 ^ 64
def CMul (i j : Int) : Prop := (-(2 ^ 64) < i ∧ i < 2 ^ 64) ∨ (-(2 ^ 64) < j ∧ j < 2 ^ 64)
theorem CMul.ok {i j : Int} (h : CMul i j) : IntMulOk i j := by
  rcases h with ⟨h1, h2⟩ | ⟨h1, h2⟩
  · exact .of_left (intBits_le_64 h1 h2)
  · exact .of_right (intBits_le_64 h1 h2)
theorem op_add : OpR X (binaryOp .Add) (rI0 fun i j => .int (i + j)) := opI0 fun _ _ _ _ _ _ _ q => add_int q
theorem op_sub : OpR X (binaryOp .Sub) (rI0 fun i j => .int (i - j)) := opI0 fun _ _ _ _ _ _ _ q => sub_int q
/-- % by a positive divisor of any size -/
theorem op_mod : OpR X (binaryOp .Mod) (rI (fun _ j => 0 < j) fun i j => .int (i % j)) := opI fun i j _ _ _ _ _ hc q => by
  have h1 : (0 : Int) < j := hc
  exact mod_int' (by omega) (by rw [Int.fmod_eq_emod_of_nonneg i (by omega)]; exact q)
theorem op_pow : OpR X (binaryOp .Pow) (rI CPow fun i j => .int (i ^ j.toNat)) := opI fun _ _ _ _ _ _ _ hc q => pow_int_small hc.1 hc.2.1 hc.2.2 q
theorem unI {f : Value → Sem Value} {g : Int → Int}
    (rule : ∀ (i : Int) (t : Tok) (s : Shared) (Q : Value → Shared → Prop) (E : Value → Shared → Prop), Q (.int (g i) s.toks) { s with toks := s.toks + 1 } → wpAny (model X.prog X.w) X.A (f (.int i t)) Q E s) :
    UnR X f (rU fun i => .int (g i)) := by
  intro pins s σ H x v Q I rx h
  obtain ⟨i, rfl, q⟩ := h
  obtain ⟨t, rfl⟩ := rx
  exact rule i t s _ _ ⟨.int (g i), H, I.tok _, ⟨_, rfl⟩, q⟩
theorem un_neg : UnR X (unaryOp .USub) (rU fun i => .int (-i)) := unI fun _ _ _ _ _ q => neg_int q
/-! ### bools among ints: n += (a < b) -/
end

/-! ### comparisons -/
/-- the scalars that == tells apart as data does -/
def scal : V → V → Bool
  | .non, .non => true | .non, .int _ => true | .int _, .non => true | .non, .bl _ => true | .bl _, .non => true | .non, .str _ => true | .str _, .non => true
  | .int _, .int _ => true | .bl _, .bl _ => true | .str _, .str _ => true | .byt _, .byt _ => true
  | .int _, .str _ => true | .str _, .int _ => true | .bl _, .str _ => true | .str _, .bl _ => true
  | _, _ => false
def rEq : R2 := fun x y H Q => scal x y = true ∧ Q (.bl (decide (x = y))) H
def rNe : R2 := fun x y H Q => scal x y = true ∧ Q (.bl (!decide (x = y))) H

theorem dec_int {i j : Int} : decide (V.int i = V.int j) = (i == j) := by
  rw [Bool.eq_iff_iff]
  simp
theorem dec_bl {i j : Bool} : decide (V.bl i = V.bl j) = (i == j) := by
  rw [Bool.eq_iff_iff]
  simp
theorem dec_str {i j : Str} : decide (V.str i = V.str j) = (i == j) := by
  rw [Bool.eq_iff_iff]
  simp
theorem dec_byt {i j : Array UInt8} : decide (V.byt i = V.byt j) = (i.toList == j.toList) := by
  rw [Bool.eq_iff_iff]
  cases i
  cases j
  simp

section
variable {X : Cx} {a b c : Expr} {ta tb tc : TE} {pos : Pos}
theorem fin_bl {pins : List (Addr × Obj)} {σ : St} {H : Hp} {s : Shared} {Q : VK} {k k' : Bool} (I : Inv X pins σ H s) (q : Q (.bl k) H) (e : k = k') : EP X pins σ Q (.bool k') s := by
  subst e
  exact ⟨.bl k, H, I, rfl, q⟩
theorem op_eq : OpR X (compareOp .Eq) rEq := by
  intro pins s σ H x y v u Q I rx ry h
  obtain ⟨hs, q⟩ := h
  cases x with
  | non =>
    cases rx
    cases y with
    | non => cases ry; exact PySem.EqNone.eq_none_none (fin_bl I q (by simp))
    | bl j => cases ry; exact PySem.EqNone.eq_none_bool (fin_bl I q (by simp))
    | int j => obtain ⟨t', rfl⟩ := ry; exact PySem.EqNone.eq_none_int (fin_bl I q (by simp))
    | str j => obtain ⟨t', rfl⟩ := ry; exact PySem.EqNone.eq_none_str (fin_bl I q (by simp))
    | _ => exact absurd (show false = true from hs) Bool.false_ne_true
  | bl i =>
    cases rx
    cases y with
    | non => cases ry; exact PySem.EqNone.eq_bool_none (fin_bl I q (by simp))
    | bl j => cases ry; exact eq_bool (fin_bl I q dec_bl)
    | str j => obtain ⟨t', rfl⟩ := ry; exact PySem.EqMixed.eq_bool_str (fin_bl I q (by simp))
    | _ => exact absurd (show false = true from hs) Bool.false_ne_true
  | int i =>
    obtain ⟨t, rfl⟩ := rx
    cases y with
    | non => cases ry; exact PySem.EqNone.eq_int_none (fin_bl I q (by simp))
    | int j => obtain ⟨t', rfl⟩ := ry; exact eq_int (fin_bl I q dec_int)
    | str j => obtain ⟨t', rfl⟩ := ry; exact PySem.EqMixed.eq_int_str (fin_bl I q (by simp))
    | _ => exact absurd (show false = true from hs) Bool.false_ne_true
  | str i =>
    obtain ⟨t, rfl⟩ := rx
    cases y with
    | non => cases ry; exact PySem.EqNone.eq_str_none (fin_bl I q (by simp))
    | bl j => cases ry; exact PySem.EqMixed.eq_str_bool (fin_bl I q (by simp))
    | int j => obtain ⟨t', rfl⟩ := ry; exact PySem.EqMixed.eq_str_int (fin_bl I q (by simp))
    | str j => obtain ⟨t', rfl⟩ := ry; exact eq_str (fin_bl I q dec_str)
    | _ => exact absurd (show false = true from hs) Bool.false_ne_true
  | byt i =>
    obtain ⟨t, rfl⟩ := rx
    cases y with
    | byt j => obtain ⟨t', rfl⟩ := ry; exact PySem.W.eq_bytes (fin_bl I q dec_byt)
    | _ => exact absurd (show false = true from hs) Bool.false_ne_true
  | _ => cases y <;> exact absurd (show false = true from hs) Bool.false_ne_true
theorem op_ne : OpR X (compareOp .NotEq) rNe := by
  intro pins s σ H x y v u Q I rx ry h
  obtain ⟨hs, q⟩ := h
  cases x with
  | non =>
    cases rx
    cases y with
    | non => cases ry; exact PySem.EqNone.ne_none_none (fin_bl I q (by simp))
    | bl j => cases ry; exact PySem.EqNone.ne_none_bool (fin_bl I q (by simp))
    | int j => obtain ⟨t', rfl⟩ := ry; exact PySem.EqNone.ne_none_int (fin_bl I q (by simp))
    | str j => obtain ⟨t', rfl⟩ := ry; exact PySem.EqNone.ne_none_str (fin_bl I q (by simp))
    | _ => exact absurd (show false = true from hs) Bool.false_ne_true
  | bl i =>
    cases rx
    cases y with
    | non => cases ry; exact PySem.EqNone.ne_bool_none (fin_bl I q (by simp))
    | bl j => cases ry; exact ne_bool (fin_bl I q (congrArg not dec_bl))
    | str j => obtain ⟨t', rfl⟩ := ry; exact PySem.EqMixed.ne_bool_str (fin_bl I q (by simp))
    | _ => exact absurd (show false = true from hs) Bool.false_ne_true
  | int i =>
    obtain ⟨t, rfl⟩ := rx
    cases y with
    | non => cases ry; exact PySem.EqNone.ne_int_none (fin_bl I q (by simp))
    | int j => obtain ⟨t', rfl⟩ := ry; exact ne_int (fin_bl I q (congrArg not dec_int))
    | str j => obtain ⟨t', rfl⟩ := ry; exact PySem.EqMixed.ne_int_str (fin_bl I q (by simp))
    | _ => exact absurd (show false = true from hs) Bool.false_ne_true
  | str i =>
    obtain ⟨t, rfl⟩ := rx
    cases y with
    | non => cases ry; exact PySem.EqNone.ne_str_none (fin_bl I q (by simp))
    | bl j => cases ry; exact PySem.EqMixed.ne_str_bool (fin_bl I q (by simp))
    | int j => obtain ⟨t', rfl⟩ := ry; exact PySem.EqMixed.ne_str_int (fin_bl I q (by simp))
    | str j => obtain ⟨t', rfl⟩ := ry; exact ne_str (fin_bl I q (congrArg not dec_str))
    | _ => exact absurd (show false = true from hs) Bool.false_ne_true
  | byt i =>
    obtain ⟨t, rfl⟩ := rx
    cases y with
    | byt j => obtain ⟨t', rfl⟩ := ry; exact PySem.W.ne_bytes (fin_bl I q (congrArg not dec_byt))
    | _ => exact absurd (show false = true from hs) Bool.false_ne_true
  | _ => cases y <;> exact absurd (show false = true from hs) Bool.false_ne_true

theorem op_lt : OpR X (compareOp .Lt) (rI0 fun i j => .bl (decide (i < j))) := opB0 fun _ _ _ _ _ _ _ q => lt_int q
theorem op_le : OpR X (compareOp .LtE) (rI0 fun i j => .bl (decide (i ≤ j))) := opB0 fun _ _ _ _ _ _ _ q => le_int q
theorem op_gt : OpR X (compareOp .Gt) (rI0 fun i j => .bl (decide (j < i))) := opB0 fun _ _ _ _ _ _ _ q => gt_int q
theorem op_ge : OpR X (compareOp .GtE) (rI0 fun i j => .bl (decide (j ≤ i))) := opB0 fun _ _ _ _ _ _ _ q => ge_int q
/-- two rules for one operation: by cases -/
theorem OpR.or {f : Value → Value → Sem Value} {r r' : R2} (h : OpR X f r) (h' : OpR X f r') : OpR X f (fun x y H Q => r x y H Q ∨ r' x y H Q) := by
  intro pins s σ H x y v u Q I rx ry q
  rcases q with q | q
  · exact h pins s σ H x y v u Q I rx ry q
  · exact h' pins s σ H x y v u Q I rx ry q

theorem nomark (b : Expr) {op : CmpOp} (h : op ≠ .In := by decide) (h2 : op ≠ .NotIn := by decide) : behindInMarks op b = false := by
  have e1 : (op == CmpOp.In) = false := by cases op <;> first | rfl | exact absurd rfl h
  have e2 : (op == CmpOp.NotIn) = false := by cases op <;> first | rfl | exact absurd rfl h2
  cases b <;> simp [behindInMarks, e1, e2]
/-- a comparison as a value; hm: nomark b, or (for in, not in) by with_unfolding_all rfl -/
theorem pe_cmpR {op : CmpOp} {r : R2} (ho : OpR X (compareOp op) r) (ha : PE X a ta) (hb : PE X b tb) (hm : behindInMarks op b = false) : PE X (.Compare a [op] [b] pos) (tOp r ta tb) := by
  intro pins s σ H Q I h
  exact wpAny_Compare1 (binT ha hb I h fun v u s2 x y H2 I2 rx ry q => ho pins s2 σ H2 x y v u Q I2 rx ry q) hm
/-- a reading of a value as a test -/
def tTest (t : TE) : TT := fun σ H Q => t σ H fun x H' => ∃ k, x = .bl k ∧ Q k H'
theorem pt_cmpR {op : CmpOp} {r : R2} (ho : OpR X (compareOp op) r) (ha : PE X a ta) (hb : PE X b tb) (hm : behindInMarks op b = false) : PT X (.Compare a [op] [b] pos) (tTest (tOp r ta tb)) := by
  intro pins s σ H Q I h
  refine wpAny_isTrue_Compare1 (thn (ha pins s σ H _ I h) fun v s1 ⟨x, H1, I1, r1, q1⟩ => thn (hb pins s1 σ H1 _ I1 q1) fun u s2 ⟨y, H2, I2, r2, q2⟩ =>
    thn (ho pins s2 σ H2 x y v u _ I2 r1 r2 q2) fun c s3 ⟨z, H3, I3, r3, k, e, q3⟩ => ?_) hm
  subst e
  cases r3
  exact wpAny_truthy_bool ⟨H3, I3, q3⟩
/-- a op1 b op2 c -/
def tChain (r r' : R2) (ta tb tc : TE) : TE := fun σ H Q => ta σ H fun x H1 => tb σ H1 fun y H2 => r x y H2 fun z H3 => ∃ k, z = .bl k ∧
  (if k = true then tc σ H3 fun w' H4 => r' y w' H4 Q else Q (.bl false) H3)
theorem pe_chain {op op' : CmpOp} {r r' : R2} (ho : OpR X (compareOp op) r) (ho' : OpR X (compareOp op') r') (ha : PE X a ta) (hb : PE X b tb) (hc : PE X c tc)
    (hm : lastMarks [op, op'] [b, c] = false := by with_unfolding_all rfl) : PE X (.Compare a [op, op'] [b, c] pos) (tChain r r' ta tb tc) := by
  intro pins s σ H Q I h
  refine Compare_chain (thn (ha pins s σ H _ I h) fun v s1 ⟨x, H1, I1, r1, q1⟩ => chain_link (thn (hb pins s1 σ H1 _ I1 q1) fun u s2 ⟨y, H2, I2, r2, q2⟩ =>
    thn (ho pins s2 σ H2 x y v u _ I2 r1 r2 q2) fun d s3 ⟨z, H3, I3, r3, k, e, q3⟩ => ?_)) hm
  subst e
  cases r3
  refine wpAny_truthy_bool ?_
  cases k with
  | false => exact ite_ff ⟨.bl false, H3, I3, rfl, q3⟩
  | true => exact ite_tt (chain_last (thn (hc pins s3 σ H3 _ I3 q3) fun w' s4 ⟨z', H4, I4, r4, q4⟩ => ho' pins s4 σ H4 y z' u w' Q I4 r2 r4 q4))
/-! ### truth -/
theorem line63 : (sizeLine : Nat) < 2 ^ 63 := by rw [sizeLine_eq]; decide
/-! ### strs and bytes -/
/-! ### scalar builtins, by CallR -/
theorem vals1 {x : V} {us : List Value} (r : Vals [x] us) : ∃ u, us = [u] ∧ RelV x u := by
  cases r with
  | cons r1 r2 => cases r2; exact ⟨_, rfl, r1⟩
theorem vals2 {x y : V} {us : List Value} (r : Vals [x, y] us) : ∃ u w', us = [u, w'] ∧ RelV x u ∧ RelV y w' := by
  cases r with
  | cons r1 r2 =>
    cases r2 with
    | cons r3 r4 => cases r4; exact ⟨_, _, rfl, r1, r3⟩
theorem call_abs : CallR X (.builtin "abs") (fun xs H Q => ∃ i, xs = [.int i] ∧ Q (.int (if i < 0 then -i else i)) H) := by
  intro pins s σ H xs us Q I r h
  obtain ⟨i, rfl, q⟩ := h
  obtain ⟨u, rfl, t, rfl⟩ := vals1 r
  exact call_abs_int fun u tk => ⟨.int (if i < 0 then -i else i), H, I.tok _, ⟨_, rfl⟩, q⟩
theorem call_max2 (hc : X.calm = true) : CallR X (.builtin "max") (fun xs H Q => ∃ i j, xs = [.int i, .int j] ∧ Q (.int (if j > i then j else i)) H) := by
  intro pins s σ H xs us Q I r h
  obtain ⟨i, j, rfl, q⟩ := h
  obtain ⟨u, w', rfl, ⟨t, rfl⟩, ⟨t', rfl⟩⟩ := vals2 r
  refine max_two_ints (I.ok.hd hc) fun h' tk k => ⟨_, H, I.kept k, ?_, q⟩
  by_cases hj : j > i
  · rw [if_pos hj, if_pos hj]; exact ⟨_, rfl⟩
  · rw [if_neg hj, if_neg hj]; exact ⟨_, rfl⟩
theorem call_min2 (hc : X.calm = true) : CallR X (.builtin "min") (fun xs H Q => ∃ i j, xs = [.int i, .int j] ∧ Q (.int (if j < i then j else i)) H) := by
  intro pins s σ H xs us Q I r h
  obtain ⟨i, j, rfl, q⟩ := h
  obtain ⟨u, w', rfl, ⟨t, rfl⟩, ⟨t', rfl⟩⟩ := vals2 r
  refine min_two_ints (I.ok.hd hc) fun h' tk k => ⟨_, H, I.kept k, ?_, q⟩
  by_cases hj : j < i
  · rw [if_pos hj, if_pos hj]; exact ⟨_, rfl⟩
  · rw [if_neg hj, if_neg hj]; exact ⟨_, rfl⟩
theorem call_int1 : CallR X (.type "int") (fun xs H Q => (∃ i, xs = [.int i] ∧ Q (.int i) H) ∨ ∃ k, xs = [.bl k] ∧ Q (.int (if k then 1 else 0)) H) := by
  intro pins s σ H xs us Q I r h
  rcases h with ⟨i, rfl, q⟩ | ⟨k, rfl, q⟩
  · obtain ⟨u, rfl, t, rfl⟩ := vals1 r
    exact call_int_int ⟨.int i, H, I, ⟨_, rfl⟩, q⟩
  · obtain ⟨u, rfl, r1⟩ := vals1 r
    cases r1
    exact call_int_bool ⟨.int (if k then 1 else 0), H, I.tok _, ⟨_, rfl⟩, q⟩
/-- len of a str, a bytes, a list, a tuple -/
def LenV (K : PySem.W.Frag) (x : V) (H : Hp) (n : Nat) : Prop :=
  match x with
  | .str y => y.length ≤ sizeLine ∧ n = y.length
  | .byt y => y.size ≤ sizeLine ∧ n = y.size
  | .ref p => (∃ xs, SqL K H p xs ∧ n = xs.length) ∨ ∃ xs, SqT K H p xs ∧ n = xs.length
  | _ => False
theorem call_len : CallR X (.builtin "len") (fun xs H Q => ∃ x n, xs = [x] ∧ LenV X.K x H n ∧ Q (.int n) H) := by
  intro pins s σ H xs us Q I r h
  obtain ⟨x, n, rfl, e, q⟩ := h
  obtain ⟨u, rfl, rx⟩ := vals1 r
  have hl := line63
  have hs : sizeLine = 16777216 := sizeLine_eq
  cases x with
  | str y =>
    obtain ⟨t, rfl⟩ := rx
    obtain ⟨hy, e'⟩ : y.length ≤ sizeLine ∧ n = y.length := e
    subst e'
    exact len_str (by omega) ⟨.int _, H, I.tok _, ⟨_, rfl⟩, q⟩
  | byt y =>
    obtain ⟨t, rfl⟩ := rx
    obtain ⟨hy, e'⟩ : y.size ≤ sizeLine ∧ n = y.size := e
    subst e'
    exact PySem.W.len_bytes (by omega) ⟨.int _, H, I.tok _, ⟨_, rfl⟩, q⟩
  | ref p =>
    cases rx
    have e' : (∃ xs, SqL X.K H p xs ∧ n = xs.length) ∨ ∃ xs, SqT X.K H p xs ∧ n = xs.length := e
    rcases e' with ⟨xs, hx, e'⟩ | ⟨xs, hx, e'⟩
    · subst e'
      obtain ⟨its, r', pl, hz⟩ := I.list hx
      have hlen := r'.length
      exact Calls.call_len_list pl.isList (by simp only [List.size_toArray]; omega) ⟨.int xs.length, H, I.tok _, ⟨_, by simp only [List.size_toArray]; rw [hlen]⟩, q⟩
    · subst e'
      obtain ⟨its, r', pl, hz⟩ := I.tuple hx
      have hlen := r'.length
      exact len_tuple pl (by simp only [List.size_toArray]; omega) ⟨.int xs.length, H, I.tok _, ⟨_, by simp only [List.size_toArray]; rw [hlen]⟩, q⟩
  | _ => exact (show False from e).elim
end
end L2

namespace L2
open PySem PySem.Spec PyProof.Rows

/-! ### an instance, its attributes a map -/
structure ObjM (h : Heap) (x dx C : Addr) (mA : Str → Option Value) : Prop where
  obj : h.get? x = some (PySem.W.instObj C dx)
  ns : h.Ns1 dx mA
  ne : dx ≠ x

theorem lookIn_ns {h : Heap} {dx : Addr} {mA : Str → Option Value} (n : h.Ns1 dx mA) : ∃ od, h.get? dx = some od ∧ ∀ name, PySem.W.lookIn name od = some (mA name) := by
  obtain ⟨o, es, ep, ho, hd, hk, _, hm⟩ := n
  refine ⟨o, ho, fun name => ?_⟩
  have e := hm name
  unfold nsFind findBy at e
  rw [← Array.find?_toList] at e
  unfold PySem.W.lookIn
  rw [hd]
  dsimp only
  split
  · rename_i y q
    rw [q] at e
    exact congrArg some e
  · rename_i q
    rw [q] at e
    have a : es.toList.any (·.refKey) = false := by
      rw [List.any_eq_false]
      intro y hy
      obtain ⟨z, t, hkey⟩ := hk y (Array.mem_toList_iff.mp hy)
      simp [DictEntry.refKey, hkey]
    have a' : ¬ es.toList.any (·.refKey) = true := by rw [a]; exact Bool.false_ne_true
    rw [if_neg a']
    exact congrArg some e

theorem ObjM.look {h : Heap} {x dx C : Addr} {mA : Str → Option Value} (I : ObjM h x dx C mA) : ∃ od, PySem.W.InstAt h x (PySem.W.instObj C dx) C (some od) ∧ ∀ name, PySem.W.lookIn name od = some (mA name) :=
  let ⟨od, ho, hl⟩ := lookIn_ns I.ns
  ⟨od, ⟨I.obj, rfl, rfl, ho⟩, hl⟩

section
variable {prog : Program} {w : World} {A : Around} {E : Value → Shared → Prop} {s : Shared} {K : PySem.W.Frag} {x dx C f : Addr} {mA : Str → Option Value} {name : Str} {v : Value}

end

/-! ### the attributes as a list of pairs -/
theorem RelO.some_of {v : V} {o : Option Value} (r : RelO (some v) o) : ∃ u, o = some u ∧ RelV v u := by
  cases o with
  | none => exact (show False from r).elim
  | some u => exact ⟨u, rfl, r⟩
section
variable {P : Program} {w : World} {H H' : Hp} {h h' : Heap} {a C dx : Addr} {fs fs' : List (Str × V)}
end

/-! ### what of the text a class must have -/
structure Cls (K : PySem.W.Frag) (C : Addr) : Prop where
  pg : PySem.W.plainGet K C Str.empty = true
  hd : PySem.W.hasDictIn K C = true
  po : PySem.W.plainOver K C = true
  sa : PySem.W.findIn K (.ref C) "__setattr__" = some (some (.builtin "object.__setattr__"))
theorem Cls.get {K : PySem.W.Frag} {C : Addr} (c : Cls K C) (f : Str) : PySem.W.plainGet K C f = true := c.pg
/-- a constant of the class -/
structure Con (K : PySem.W.Frag) (C : Addr) (f : Str) (v : V) (u : Value) : Prop where
  at_ : PySem.W.findIn K (.ref C) f = some (some u)
  rel : RelV v u
  get : PySem.W.specialIn K u "__get__" = some none
  cp : PySem.W.copiedNames.contains f = false
/-- a method: a plain def of the class or of one above it -/
structure Meth (K : PySem.W.Frag) (C : Addr) (m : Str) (f : Addr) : Prop where
  at_ : PySem.W.findIn K (.ref C) m = some (some (.ref f))
  fn : PySem.W.isFn K (.ref f) = true
  kp : PySem.W.keepIn K (.ref f) = true

section
variable {X : Cx} {pins : List (Addr × Obj)} {σ : St} {H : Hp} {s : Shared} {a C dx : Addr} {fs : List (Str × V)} {f : Str} {v : V} {A : Around} {E : Value → Shared → Prop}

/-- a new instance, tracked, without attributes -/
theorem Inv.made (I : Inv X pins σ H s) : Inv X pins σ (upd (upd H s.heap.objs.size (.own (s.heap.objs.size + 1))) (s.heap.objs.size + 1) (.ins C s.heap.objs.size []))
    { s with heap := (s.heap.push PySem.W.emptyDict).push (PySem.W.instObj C s.heap.objs.size) } := by
  have e1 : (s.heap.push PySem.W.emptyDict).get? s.heap.objs.size = some PySem.W.emptyDict := Heap.get?_push_size s.heap rfl
  have e2 : ((s.heap.push PySem.W.emptyDict).push (PySem.W.instObj C s.heap.objs.size)).get? (s.heap.objs.size + 1) = some (PySem.W.instObj C s.heap.objs.size) := by
    have := Heap.get?_push_size (s.heap.push PySem.W.emptyDict) (o := PySem.W.instObj C s.heap.objs.size) rfl
    rwa [Heap.size_push] at this
  have e3 : (s.heap.push PySem.W.emptyDict).Ns s.heap.objs.size (fun _ => none) := ⟨PySem.W.emptyDict, #[], _, e1, rfl, (fun e he => absurd he (by simp)), fun _ => rfl⟩
  have I1 := I.laid (a := s.heap.objs.size) (o := .own (s.heap.objs.size + 1)) (h' := s.heap.push PySem.W.emptyDict) (t' := s.toks) (fun b u q => Heap.get?_push_of_some _ q) (Nat.le_refl _) ⟨_, e1⟩
  refine I1.laid (a := s.heap.objs.size + 1) (o := .ins C s.heap.objs.size []) (t' := s.toks) (fun b u q => Heap.get?_push_of_some _ q) (Nat.le_of_eq (Heap.size_push _ _)) ?_
  have ne : s.heap.objs.size ≠ s.heap.objs.size + 1 := Nat.ne_of_lt (Nat.lt_succ_self _)
  refine ⟨by rw [upd_ne ne, upd_same], Nat.zero_le _, ne, e2, fun _ => none, (Heap.Ns1.of_empty e3).at fun o q => Heap.get?_push_of_some _ q, fun _ => True.intro, fun y hy => absurd rfl hy⟩

end

/-! ### readings and rules -/
section
variable {X : Cx} {o e value : Expr} {f : Str} {pos pos' tpos : Pos} {ta tv : TE}
end

/-! ### isinstance -/
section
variable {X : Cx} {pins : List (Addr × Obj)} {σ : St} {H : Hp} {s : Shared} {A : Around} {E : Value → Shared → Prop} {Q : Value → Shared → Prop} {c : Value} {b : Bool}
/-- the type of a value, as the fragment's deciders take it; for an instance its class -/
inductive TyOf (K : PySem.W.Frag) (H : Hp) : V → Value → Prop where
  | non : TyOf K H .non (.type "NoneType")
  | bl (x : Bool) : TyOf K H (.bl x) (.type "bool")
  | int (i : Int) : TyOf K H (.int i) (.type "int")
  | str (x : Str) : TyOf K H (.str x) (.type "str")
  | flt (x : UInt64) : TyOf K H (.flt x) (.type "float")
  | lst {a : Addr} {xs : List V} (e : H a = some (.lst xs)) : TyOf K H (.ref a) (.type "list")
  | frz {a : Addr} {o : Obj} {xs : List V} (e : H a = some (.frz o (.lst xs))) : TyOf K H (.ref a) (.type "list")
  | tup {a : Addr} {xs : List V} (e : H a = some (.tup xs)) : TyOf K H (.ref a) (.type "tuple")
  | dK {a : Addr} {kvs : List (Key × V)} (e : H a = some (.dK kvs)) : TyOf K H (.ref a) (.type "dict")
  | dT {a : Addr} {kvs : List (List Key × V)} (e : H a = some (.dT kvs)) : TyOf K H (.ref a) (.type "dict")
  | ins {a C dx : Addr} {fs : List (Str × V)} (e : H a = some (.ins C dx fs)) (cl : Cls K C) (ha : PySem.W.findIn K (.ref C) "__class__" = some (some (.builtin "object.__class__")))
      (hn : PySem.W.specialIn K (.builtin "object.__class__") "__get__" = some (some (.builtin "getset_descriptor.__get__"))) (htk : PySem.W.takesIn K (.builtin "object.__class__") = some true)
      (hm : PySem.W.mroIn K C (.type "object") = some true) : TyOf K H (.ref a) (.ref C)
end
end L2

namespace L2
open PySem PySem.Spec PyProof.Rows

/-! ### room -/
structure Room (k : Nat) (A : Around) : Prop where
  hd : A.handled = none
  dp : A.depth + 3 * k + 5 < recursionLimit
  un : A.units + 16 * k + 200 < cLine
theorem Room.mono {j k : Nat} {A : Around} (r : Room k A) (h : j ≤ k) : Room j A := ⟨r.hd, by have := r.dp; omega, by have := r.un; omega⟩
theorem Room.deeper {k : Nat} {A : Around} (r : Room (k + 1) A) (env : Env) : Room k (A.deeper env) :=
  ⟨r.hd, by have := r.dp; show A.depth + 1 + 3 * k + 5 < _; omega, by have := r.un; show A.units + 3 + 16 * k + 200 < _; omega⟩
theorem Room.in1 {k : Nat} {A : Around} (r : Room (k + 1) A) : Room k A.in1 :=
  ⟨r.hd, by have := r.dp; show A.depth + 3 * k + 5 < _; omega, by have := r.un; show A.units + 1 + 16 * k + 200 < _; omega⟩
theorem Room.depth {k : Nat} {A : Around} (r : Room k A) : A.depth < recursionLimit := by have := r.dp; omega
theorem Room.units {k : Nat} {A : Around} (r : Room k A) : A.units + 64 < cLine := by have := r.un; omega
/-! ### argument lists and displays -/
def tNil : TA := fun _ H Q => Q [] H
def tCons (ta : TE) (tr : TA) : TA := fun σ H Q => ta σ H fun x H1 => tr σ H1 fun xs H2 => Q (x :: xs) H2
section
variable {X : Cx} {e : Expr} {es : List Expr} {te : TE} {t : TA} {pos : Pos}
theorem pa_nil : PA X [] tNil := fun _ _ _ _ H Q I h => Calls.spliced_nil ⟨[], H, I, .nil, h⟩
theorem pa_cons (ha : PE X e te) (hr : PA X es t) (hs : starEach (e :: es) X.env = (false, eval e X.env) :: starEach es X.env := by rfl) : PA X (e :: es) (tCons te t) := by
  intro pos pins s σ H Q I h
  rw [hs]
  show wpAny _ _ (spliced ((false, eval e X.env) :: backTo pos (starEach es X.env))) _ _ s
  refine Calls.spliced_cons (thn (ha pins s σ H _ I h) fun u s1 ⟨x, H1, I1, r1, q1⟩ => ?_)
  exact thn (hr pos pins s1 σ H1 _ I1 q1) fun us s2 ⟨xs, H2, I2, r2, q2⟩ => ⟨x :: xs, H2, I2, .cons r1 r2, q2⟩

/-- a tuple, a list of written items -/
def tTup (t : TA) : TE := fun σ H Q => t σ H fun xs H1 => xs.length ≤ sizeLine ∧ ∀ p, H1 p = none → Q (.ref p) (upd H1 p (.tup xs))
def tLst (t : TA) : TE := fun σ H Q => t σ H fun xs H1 => xs.length ≤ sizeLine ∧ ∀ p, H1 p = none → Q (.ref p) (upd H1 p (.lst xs))
theorem pe_tup {x1} (h : PA X es t) : PE X (.Tuple es x1 pos) (tTup t) := by
  intro pins s σ H Q I hq
  refine wpAny_Tuple_spliced (thn (h pos pins s σ H _ I hq) fun us s1 ⟨xs, H1, I1, r, z, q⟩ => ⟨by rw [← r.length]; exact z, ?_⟩)
  have hf : H1 s1.heap.objs.size = none := I1.hok.fresh (Nat.le_refl _)
  refine ⟨.ref s1.heap.objs.size, upd H1 s1.heap.objs.size (.tup xs), I1.laid (t' := s1.toks) (fun b u e => Heap.get?_push_of_some _ e) (Nat.le_refl _) ?_, rfl, q _ hf⟩
  exact ⟨z, us, r, ⟨_, Heap.get?_push_size _ rfl, rfl, _, rfl⟩, ⟨_, Heap.get?_push_size _ rfl, rfl⟩⟩
theorem pe_lst (h : PA X es t) : PE X (.List es pos) (tLst t) := by
  intro pins s σ H Q I hq
  refine wpAny_List_spliced (thn (h pos pins s σ H _ I hq) fun us s1 ⟨xs, H1, I1, r, z, q⟩ => ⟨by rw [← r.length]; exact z, ?_⟩)
  have hf : H1 s1.heap.objs.size = none := I1.hok.fresh (Nat.le_refl _)
  refine ⟨.ref s1.heap.objs.size, upd H1 s1.heap.objs.size (.lst xs), I1.laid (t' := s1.toks) (fun b u e => Heap.get?_push_of_some _ e) (Nat.le_refl _) ?_, rfl, q _ hf⟩
  exact ⟨z, us, 0, r, Heap.get?_push_size _ rfl⟩
end

/-! ### what a def promises -/
/-- a def's promise: the bound arguments in the parameters' order, the heap, the wanted end, the wanted exception -/
abbrev Sp := List V → Hp → VK → XK → Prop
/-- how an exception lies behind a call (file 08 gives it): the callers' frames, abstract heap and state ahead of the call, the wish, the exception, the state -/
structure CXT where
  gq : Array GenState → Drawn → Prop
  fr : Prop
  cx : List Env → Hp → Shared → XK → Value → Shared → Prop
instance : CoeFun CXT (fun _ => List Env → Hp → Shared → XK → Value → Shared → Prop) := ⟨CXT.cx⟩

/-- the state at a call -/
structure Env0 (P : Program) (w : World) (K : PySem.W.Frag) (mg : Str → Option Value) (base : Heap) (gq : Array GenState → Drawn → Prop) (fr : Prop) (A : Around) (outer : List Env) (s : Shared) (H : Hp) : Prop where
  frames : fr → A.frames = some outer ∧ A.guards = some []
  mod : Mod K mg base
  bs : ∀ b o, base.get? b = some o → s.heap.get? b = some o ∧ H b = none
  bsz : base.objs.size ≤ s.heap.objs.size
  funs : s.heap.FunFrames base outer
  frf : ∀ b ∈ frs outer, H b = none
  hok : HOk P w H s.heap
  bare : gq s.gens s.drawn
theorem Env0.weak {P : Program} {w : World} {K : PySem.W.Frag} {mg : Str → Option Value} {base : Heap} {gq : Array GenState → Drawn → Prop} {fr fr' : Prop} {A : Around} {outer : List Env} {s : Shared} {H : Hp} (e : Env0 P w K mg base gq fr A outer s H) (h : fr' → fr) : Env0 P w K mg base gq fr' A outer s H :=
  ⟨fun q => e.frames (h q), e.mod, e.bs, e.bsz, e.funs, e.frf, e.hok, e.bare⟩
theorem guards_deeper {A : Around} {env : Env} (h : A.guards = some []) : (A.deeper env).guards = some [] := by
  first | exact h | simpa [Around.deeper, pushGuards] using h
/-- a call's end -/
def CE (gq : Array GenState → Drawn → Prop) (outer : List Env) (P : Program) (w : World) (H : Hp) (s : Shared) (Q : VK) (u : Value) (s' : Shared) : Prop :=
  ∃ v H', s'.os = s.os ∧ gq s'.gens s'.drawn ∧ Un (frs outer) [] H H' s.heap s'.heap ∧ HOk P w H' s'.heap ∧ RelV v u ∧ Q v H'
def CR (CX : CXT) (outer : List Env) (P : Program) (w : World) (H : Hp) (s : Shared) (Q : VK) (E : XK) (r : Result) (s' : Shared) : Prop :=
  match r with
  | .ok (.ret u) => CE CX.gq outer P w H s Q u s'
  | .ok _ => False
  | .error e => CX outer H s E e s'
structure FnOk (P : Program) (w : World) (K : PySem.W.Frag) (mg : Str → Option Value) (base : Heap) (CX : CXT) (k : Nat) (f : Addr) (fd : FuncData) (ps : List Str) (sp : Sp) : Prop where
  len : ∀ vs H Q E, sp vs H Q E → vs.length = ps.length
  run : ∀ (A : Around) (outer : List Env) (s : Shared) (H : Hp) (args : Args) (us : List Value) (vs : List V) (Q : VK) (E : XK), Room k A → Env0 P w K mg base CX.gq CX.fr A outer s H → BindsTo s fd args (ps.zip us) → Vals vs us → sp vs H Q E →
    codeAny (model P w) A (.call (.ref f) args) (CR CX outer P w H s Q E) s
theorem FnOk.mono {P : Program} {w : World} {K : PySem.W.Frag} {mg : Str → Option Value} {base : Heap} {CX : CXT} {j k : Nat} {f : Addr} {fd : FuncData} {ps : List Str} {sp : Sp} (F : FnOk P w K mg base CX j f fd ps sp) (h : j ≤ k) :
    FnOk P w K mg base CX k f fd ps sp := ⟨F.len, fun A outer s H args us vs Q E hr => F.run A outer s H args us vs Q E (hr.mono h)⟩
/-- a weaker promise -/
theorem FnOk.imp {P : Program} {w : World} {K : PySem.W.Frag} {mg : Str → Option Value} {base : Heap} {CX : CXT} {k : Nat} {f : Addr} {fd : FuncData} {ps : List Str} {sp sp' : Sp} (F : FnOk P w K mg base CX k f fd ps sp)
    (h : ∀ vs H Q E, sp' vs H Q E → sp vs H Q E) : FnOk P w K mg base CX k f fd ps sp' :=
  ⟨fun vs H Q E q => F.len vs H Q E (h _ _ _ _ q), fun A outer s H args us vs Q E hr he hb hv hs => F.run A outer s H args us vs Q E hr he hb hv (h _ _ _ _ hs)⟩

theorem Env0.in1 {gq : Array GenState → Drawn → Prop} {fr : Prop} {P : Program} {w : World} {K : PySem.W.Frag} {mg : Str → Option Value} {base : Heap} {A : Around} {outer : List Env} {s : Shared} {H : Hp} (e : Env0 P w K mg base gq fr A outer s H) :
    Env0 P w K mg base gq fr A.in1 outer s H := ⟨e.frames, e.mod, e.bs, e.bsz, e.funs, e.frf, e.hok, e.bare⟩

section
variable {X : Cx} {pins : List (Addr × Obj)} {σ : St} {H : Hp} {s s' : Shared}
/-- from a body: what a callee wants -/
theorem Inv.env0 (I : Inv X pins σ H s) : Env0 X.prog X.w X.K X.mg X.base X.gq X.fr X.A X.stack s H :=
  ⟨I.ok.frames, I.ok.mod, I.bs, Nat.le_trans I.ok.bsz I.sz, I.stack, I.stkFree, I.hok, I.bare⟩
/-- behind a call -/
theorem Inv.after {Q : VK} {u : Value} (I : Inv X pins σ H s) (h : CE X.gq X.stack X.prog X.w H s Q u s') : EP X pins σ Q u s' := by
  obtain ⟨v, H', os, bare, un, hok, r, q⟩ := h
  obtain ⟨hh, g, d, t, os'⟩ := s'
  obtain rfl : os' = s.os := os
  exact ⟨v, H', I.call (h' := hh) (g' := g) (d' := d) (t' := t) (ch := []) un hok bare (fun b z => absurd z (by simp)), r, q⟩
end

/-! ### calls -/
/-- f(..): the written arguments, then the defaults dvs; E: what is wanted of an exception -/
def tCall (sp : Sp) (dvs : List V) (E : XK) (t : TA) : TE := fun σ H Q => t σ H fun vs H1 => sp (vs ++ dvs) H1 Q E
/-- how the parameters are bound: us the positional arguments, kw the keywords' values by name, ds the defaults that fill up -/
def Binds (K : PySem.W.Frag) (fd : FuncData) (ps : List Str) (ds : List Value) : Prop :=
  ∀ (s : Shared) (us : List Value), K.In s.heap → (us ++ ds).length = ps.length → BindsTo s fd ⟨us, []⟩ (ps.zip (us ++ ds))
/-- every parameter is given -/
theorem Binds.all {K : PySem.W.Frag} {fd : FuncData} {ps : List Str} (h : ∀ us : List Value, us.length = ps.length → bindArgs fd ⟨us, []⟩ = pure (ps.zip us)) : Binds K fd ps [] := fun s us _ hl => by
  rw [List.append_nil] at hl ⊢
  exact .of_eq (h us hl)

/-- an exception of a callee reaches what this body wants of exceptions -/
def Passes (CX : CXT) (X : Cx) (E : XK) : Prop := CX.gq = X.gq ∧ (CX.fr → X.fr) ∧ ∀ (pins : List (Addr × Obj)) (σ : St) (H : Hp) (s : Shared) (e : Value) (s' : Shared), Inv X pins σ H s → CX X.stack H s E e s' → X.xe e s'

section
variable {X : Cx} {CX : CXT} {k : Nat} {f C : Addr} {fd : FuncData} {ps : List Str} {sp : Sp} {dvs : List V} {ds : List Value} {E : XK} {x m : Str} {p pos apos : Pos} {e o : Expr} {es : List Expr} {ta : TE} {t : TA}

/-- the callee runs -/
theorem run_fn {pins : List (Addr × Obj)} {σ : St} {H : Hp} {s : Shared} {Q : VK} {us : List Value} {vs : List V} (F : FnOk X.prog X.w X.K X.mg X.base CX k f fd ps sp) (hr : Room k X.A) (hb : Binds X.K fd ps ds) (hd : Vals dvs ds) (hx : Passes CX X E)
    (I : Inv X pins σ H s) (r : Vals vs us) (h : sp (vs ++ dvs) H Q E) : wpAny (model X.prog X.w) X.A (call (.ref f) us) (EP X pins σ Q) X.xe s := by
  have r2 : Vals (vs ++ dvs) (us ++ ds) := r.append hd
  have hl : (us ++ ds).length = ps.length := by rw [← r2.length]; exact F.len _ _ _ _ h
  refine wpAny_call (codeAny_mono (F.run X.A X.stack s H ⟨us, []⟩ (us ++ ds) (vs ++ dvs) Q E hr (by rw [hx.1]; exact I.env0.weak hx.2.1) (hb s us I.kIn hl) r2 h) fun r s' hq => ?_)
  cases r with
  | error e => exact hx.2.2 pins σ H s e s' I hq
  | ok fl =>
    cases fl with
    | ret u => exact I.after (by rw [← hx.1]; exact hq)
    | next => exact False.elim hq
    | brk => exact False.elim hq
    | cont => exact False.elim hq

theorem pe_call (F : FnOk X.prog X.w X.K X.mg X.base CX k f fd ps sp) (hr : Room k X.A) (hg : Gl X x) (hm : X.mg x = some (.ref f)) (hk : PySem.W.keepIn X.K (.ref f) = true) (hb : Binds X.K fd ps ds) (hd : Vals dvs ds) (hx : Passes CX X E)
    (ha : PA X (e :: es) t) (hdb : (x == ("__debug__" : Str)) = false := by decide) (he : starEach (e :: es) X.env = (false, eval e X.env) :: starEach es X.env := by rfl) (hpl : (backTo pos (starEach es X.env)).any (·.1) = false := by rfl) :
    PE X (.Call (.Name x p) (e :: es) [] pos) (tCall sp dvs E t) := by
  intro pins s σ H Q I h
  refine wpAny_Call_Name_kw (ld_glob I hg hm ?_ hdb)
  refine PySem.W.callWith_K (h₀ := X.base) I.ok.mod.kin hk (thn (ha pos pins s σ H _ I h) fun us s1 ⟨vs, H1, I1, r, q⟩ => ⟨I1.kIn, ?_⟩) he hpl
  exact run_fn F hr hb hd hx I1 r q
/-- what a class must have to be made -/
structure Mk (K : PySem.W.Frag) (C f : Addr) : Prop where
  makes : PySem.W.makesIn K C = true
  init : PySem.W.findIn K (.ref C) "__init__" = some (some (.ref f))
  fn : PySem.W.isFn K (.ref f) = true
  kp : PySem.W.keepIn K (.ref C) = true

end

/-! ### keywords -/
/-- the values of the keywords, from the left -/
def PK (X : Cx) (kws : List Keyword) (t : TA) : Prop :=
  ∀ (pos : Pos) (pins : List (Addr × Obj)) (s : Shared) (σ : St) (H : Hp) (Q : List V → Hp → Prop), Inv X pins σ H s → t σ H Q → wpAny (model X.prog X.w) X.A (evalAll ((backToKw pos (keywordEach kws X.env)).map (·.2))) (AP X pins σ Q) X.xe s
section
variable {X : Cx} {CX : CXT} {k : Nat} {f C : Addr} {fd : FuncData} {ps ks : List Str} {sp : Sp} {E : XK} {x m : Str} {p pos apos kpos : Pos} {e o : Expr} {es : List Expr} {kws : List Keyword} {te ta : TE} {t tk : TA} {nm : Option Str}
theorem pk_nil : PK X [] tNil := fun _ _ _ _ H Q I h => wpAny_evalAll_nil ⟨[], H, I, .nil, h⟩
theorem pk_cons (ha : PE X e te) (hr : PK X kws t) : PK X (⟨nm, e, kpos⟩ :: kws) (tCons te t) := by
  intro pos pins s σ H Q I h
  show wpAny _ _ (evalAll ((do let v ← eval e X.env; standAt pos; pure v) :: (backToKw pos (keywordEach kws X.env)).map (·.2))) _ _ s
  refine wpAny_evalAll_cons (wpAny_bind (thn (ha pins s σ H _ I h) fun u s1 ⟨x, H1, I1, r1, q1⟩ => wpAny_bind (wpAny_standAt (wpAny_pure ?_))))
  exact thn (hr pos pins s1 σ H1 _ I1 q1) fun us s2 ⟨xs, H2, I2, r2, q2⟩ => ⟨x :: xs, H2, I2, .cons r1 r2, q2⟩

/-- how a call with keywords binds: g puts the positional values us and the keywords' values ws (names ks) in the parameters' order, defaults among them -/
structure KBinds (K : PySem.W.Frag) (fd : FuncData) (ps ks : List Str) (g : List Value → List Value → List Value) (gV : List V → List V → List V) : Prop where
  to : ∀ (s : Shared) (us ws : List Value), K.In s.heap → (g us ws).length = ps.length → BindsTo s fd ⟨us, ks.zip ws⟩ (ps.zip (g us ws))
  rel : ∀ {vs : List V} {us : List Value} {zs : List V} {ws : List Value}, Vals vs us → Vals zs ws → Vals (gV vs zs) (g us ws)
variable {g : List Value → List Value → List Value} {gV : List V → List V → List V}
end

/-! ### a def's body keeps its promise -/
/-- names: the parameters first -/
structure FnScope (N P : List Str) (sc : Scope) : Prop where
  kind : sc.kind = .function
  co : sc.isCoroutine = false
  gen : sc.isGenerator = false
  nd : N.Nodup
  pre : N.take P.length = P
  par : ∀ x ∈ P, sc.names.lookup x = some .local ∨ sc.names.lookup x = some .cell
  nofree : ∀ y ∈ sc.names, y.2 ≠ .free

theorem bindL_out {kindOf : Str → Option NameKind} {x : Str} : ∀ {binds : List (Str × Value)} {m : Str → Option Value}, (∀ v, (x, v) ∉ binds) → bindL kindOf binds m x = m x
  | [], _, _ => rfl
  | (n, v) :: r, m, h => by
    unfold bindL
    rw [bindL_out fun w hw => h w (List.mem_cons_of_mem _ hw)]
    split
    · have : x ≠ n := by rintro rfl; exact h v List.mem_cons_self
      simp [this]
    · rfl
theorem bindC_out {kindOf : Str → Option NameKind} {x : Str} : ∀ {binds : List (Str × Value)} {m : Str → Option Value}, (∀ v, (x, v) ∉ binds) → bindC kindOf binds m x = m x
  | [], _, _ => rfl
  | (n, v) :: r, m, h => by
    unfold bindC
    rw [bindC_out fun w hw => h w (List.mem_cons_of_mem _ hw)]
    split
    · rfl
    · have : x ≠ n := by rintro rfl; exact h v List.mem_cons_self
      simp [this]
theorem bindL_get {kindOf : Str → Option NameKind} {x : Str} {v : Value} : ∀ {P : List Str} {vs : List Value} {i : Nat} {m : Str → Option Value}, P.Nodup → P[i]? = some x → vs[i]? = some v → kindOf x = some .local →
    bindL kindOf (P.zip vs) m x = some v
  | [], _, _, _, _, h, _, _ => by simp at h
  | _ :: _, [], _, _, _, _, h, _ => by simp at h
  | p :: P, w :: vs, 0, m, nd, h1, h2, hk => by
    simp at h1 h2; subst h1; subst h2
    show bindL kindOf ((p, w) :: P.zip vs) m p = _
    unfold bindL
    rw [bindL_out fun v hv => (List.nodup_cons.mp nd).1 (List.of_mem_zip hv).1, if_pos hk]
    simp
  | p :: P, w :: vs, i + 1, m, nd, h1, h2, hk => by
    show bindL kindOf ((p, w) :: P.zip vs) m x = _
    unfold bindL
    exact bindL_get (i := i) (List.nodup_cons.mp nd).2 (by simpa using h1) (by simpa using h2) hk
theorem bindC_get {kindOf : Str → Option NameKind} {x : Str} {v : Value} : ∀ {P : List Str} {vs : List Value} {i : Nat} {m : Str → Option Value}, P.Nodup → P[i]? = some x → vs[i]? = some v → kindOf x ≠ some .local →
    bindC kindOf (P.zip vs) m x = some v
  | [], _, _, _, _, h, _, _ => by simp at h
  | _ :: _, [], _, _, _, _, h, _ => by simp at h
  | p :: P, w :: vs, 0, m, nd, h1, h2, hk => by
    simp at h1 h2; subst h1; subst h2
    show bindC kindOf ((p, w) :: P.zip vs) m p = _
    unfold bindC
    rw [bindC_out fun v hv => (List.nodup_cons.mp nd).1 (List.of_mem_zip hv).1, if_neg hk]
    simp
  | p :: P, w :: vs, i + 1, m, nd, h1, h2, hk => by
    show bindC kindOf ((p, w) :: P.zip vs) m x = _
    unfold bindC
    exact bindC_get (i := i) (List.nodup_cons.mp nd).2 (by simpa using h1) (by simpa using h2) hk

/-- the names' values at the entry -/
def start (N : List Str) (vs : List V) : St := vs.map some ++ List.replicate (N.length - vs.length) none

/-- the context of a def's body, at its entry; an exception leaves the frame, then lies as CX says -/
def cxOf (CX : CXT) (P : Program) (w : World) (K : PySem.W.Frag) (mg : Str → Option Value) (base : Heap) (N : List Str) (qual : Str) (scope : Scope) (f : Addr) (cd : Value) (A : Around) (outer : List Env) (s : Shared) (H : Hp) (E : XK) : Cx where
  prog := P
  w := w
  K := K
  mg := mg
  base := base
  A := A.deeper (envOfC qual scope s.heap.objs.size f cd)
  N := N
  s_0 := s
  H_0 := H
  env := envOfC qual scope s.heap.objs.size f cd
  outer := outer
  stack := envOfC qual scope s.heap.objs.size f cd :: outer
  ex := []
  calm := true
  fn := fun _ => true
  pn := []
  gq := CX.gq
  fr := CX.fr
  xe := fun e s' => wpAny (model P w) (A.deeper (envOfC qual scope s.heap.objs.size f cd)) (leaving (envOfC qual scope s.heap.objs.size f cd) e) (fun _ s'' => CX outer H s E e s'') (fun e' s'' => CX outer H s E e' s'') s'

theorem cell_has {sc : Scope} {n : Nat} {x : Str} (h : sc.names.lookup x = some .cell) : ∃ c, (cellsFrom n sc.names []).lookup x = some c := by
  have q := PySem.W.cellsFrom_some sc.names n [] (.inl h)
  exact Option.isSome_iff_exists.mp q

theorem inv_start {CX : CXT} {P : Program} {w : World} {K : PySem.W.Frag} {mg : Str → Option Value} {base : Heap} {N ps : List Str} {qual : Str} {scope : Scope} {f : Addr} {cd : Value} {A : Around} {outer : List Env} {s s1 : Shared} {H : Hp} {E : XK} {us : List Value} {vs : List V}
    (S : FnScope N ps scope) (hd : A.handled = none) (e0 : Env0 P w K mg base CX.gq CX.fr A outer s H) (hl : vs.length = ps.length) (r : Vals vs us)
    (x : InCallC s s.heap.objs.size (bindL (envOfC qual scope s.heap.objs.size f cd).kindOf (ps.zip us) fun _ => none) (cellsFrom (s.heap.objs.size + 1) scope.names []) (bindC (envOfC qual scope s.heap.objs.size f cd).kindOf (ps.zip us) fun _ => none) s1) :
    Inv (cxOf CX P w K mg base N qual scope f cd A outer s H E) [] (start N vs) H s1 := by
  have hpl : ps.length ≤ N.length := by have := congrArg List.length S.pre; rw [List.length_take] at this; omega
  obtain ⟨h1, tk, rfl, hk⟩ := x.done
  have noA : ∀ b : Addr, b ∉ (cxOf CX P w K mg base N qual scope f cd A outer s H E).ex := fun b z => absurd (show b ∈ ([] : List Addr) from z) (by simp)
  refine ⟨⟨e0.mod, S.kind, rfl, rfl, Nat.le_refl _, fun y z c h1 h2 => ?_, fun y hy => ?_, fun y c _ h => ?_, fun _ => hd, fun h => ⟨Around.frames_deeper (e0.frames h).1, guards_deeper (e0.frames h).2⟩, .inr ⟨rfl, rfl⟩, fun b z => absurd z (noA b), e0.bs, e0.bsz, fun b _ _ => noA b, fun b z => absurd z (noA b), e0.funs, e0.frf⟩,
    rfl, e0.bare, Un.kept hk, ⟨_, x.toInCall.ns, fun i y v h1 h2 h3 => ?_⟩, fun y c h => ⟨_, x.cell y c h⟩, e0.hok.fresh (Nat.le_refl _), fun y c h => ?_, fun p hp => absurd (show p ∈ ([] : List (Addr × Obj)) from hp) (by simp), e0.hok.kept hk, ?_⟩
  · exact name_of_addr x.apart (PySem.mem_of_lookup h1) (PySem.mem_of_lookup h2)
  · have hy : scope.names.lookup y = some .cell ∨ scope.names.lookup y = some .free := hy
    rcases hy with hy | hy
    · exact cell_has hy
    · exact absurd rfl (S.nofree _ (PySem.mem_of_lookup hy))
  · exact Nat.le_of_lt (x.above y c (PySem.mem_of_lookup h))
  · have hi : i < vs.length := by
      unfold start at h2
      by_cases hi : i < vs.length
      · exact hi
      · rw [List.getElem?_append_right (by simpa using hi)] at h2
        rw [List.getElem?_replicate] at h2
        split at h2 <;> cases h2
    have ha : vs[i]? = some v := by
      unfold start at h2
      rw [List.getElem?_append_left (by simpa using hi), List.getElem?_map] at h2
      cases e : vs[i]? with
      | none => rw [e] at h2; cases h2
      | some a => rw [e] at h2; cases h2; rfl
    obtain ⟨u, hu, rv⟩ := r.get ha
    have hp : ps[i]? = some y := by
      rw [← S.pre, List.getElem?_take_of_lt (by omega)]; exact h1
    have ndP : ps.Nodup := by rw [← S.pre]; exact S.nd.sublist (List.take_sublist _ _)
    refine ⟨u, rv, ?_⟩
    rcases S.par y (List.mem_of_getElem? hp) with k | k
    · exact .inl ⟨k, bindL_get ndP hp hu k⟩
    · obtain ⟨c, e⟩ := cell_has (n := s.heap.objs.size + 1) k
      refine .inr ⟨.inl k, c, e, ?_⟩
      have q := x.cell y c e
      rw [bindC_get ndP hp hu (by show scope.names.lookup y ≠ _; rw [k]; decide)] at q
      exact q
  · exact e0.hok.fresh (Nat.le_of_lt (x.above y c (PySem.mem_of_lookup h)))
  · unfold start
    show _ = N.length
    rw [List.length_append, List.length_map, List.length_replicate]
    omega

/-- THE RULE: a def (or a method) of the text, by its body. The body's reading t is chosen for each entry; it is run at the parameters' values -/
theorem fn_of {CX : CXT} {P : Program} {w : World} {K : PySem.W.Frag} {mg : Str → Option Value} {base : Heap} {k : Nat} {f : Addr} {name qual : Str} {params : Arguments} {body : List Stmt} {scope : Scope} {dV kV doc pm cdv ct oc : Value} {an od : Option Addr}
    {osl : Array (Option Value)} {N ps : List Str} {sp : Sp} (lk : K.lookup f = some ⟨oc, od, .func (PySem.W.fnOf name qual params body scope dV kV doc pm an cdv ct), osl⟩) (hcd : PySem.W.codeIn K cdv qual = true) (S : FnScope N ps scope)
    (len : ∀ vs H Q E, sp vs H Q E → vs.length = ps.length)
    (hbody : ∀ (A : Around) (outer : List Env) (s : Shared) (H : Hp) (vs : List V) (Q : VK) (E : XK), Room k (A.deeper (envOfC qual scope s.heap.objs.size f cdv)) → sp vs H Q E →
      ∃ t, PSs (cxOf CX P w K mg base N qual scope f cdv A outer s H E) body t ∧ t { nx := fun _ H' => Q .non H', rt := Q } (start N vs) H) :
    FnOk P w K mg base CX (k + 1) f (PySem.W.fnOf name qual params body scope dV kV doc pm an cdv ct) ps sp := by
  refine ⟨len, fun A outer s H args us vs Q E hr e0 hb r hsp => ?_⟩
  have hl := len _ _ _ _ hsp
  have KX : K.In s.heap := e0.mod.kin.keeps fun b o e => (e0.bs b o e).1
  have lim : s.heap.NoLimit := e0.mod.nolimit.keeps fun b o e => (e0.bs b o e).1
  have hkind : ∀ y ∈ ps.zip us, scope.names.lookup y.1 = some .local ∨ (scope.names.lookup y.1 = some .cell ∧ ((cellsFrom (s.heap.objs.size + 1) scope.names []).lookup y.1).isSome = true) := fun ⟨n, v⟩ hy => by
    rcases S.par n (List.of_mem_zip hy).1 with q | q
    · exact .inl q
    · exact .inr ⟨q, PySem.W.cellsFrom_some _ _ _ (.inl q)⟩
  refine codeAny_call_function hr.depth (KX _ _ lk) rfl S.co S.gen rfl (PySem.W.codeRec_of KX hcd) (hb _ _ _ _ ?_)
  refine wpAny_newFunctionEnv_cells S.kind hkind fun env he s1 x => ?_
  subst he
  refine ⟨lim.keeps x.toInCall.keep, codeAny_func ?_⟩
  obtain ⟨t, ht, hq⟩ := hbody A outer s H vs Q E (hr.deeper _) hsp
  have I : Inv (cxOf CX P w K mg base N qual scope f cdv A outer s H E) [] (start N vs) H s1 := inv_start S hr.hd e0 hl r x
  refine wpAny_mono (ht [] s1 (start N vs) H _ I hq) (fun fl s' hs => ?_) fun e s' hs => hs
  have fin : ∀ {σ' : St} {H' : Hp} {v : V} {u : Value}, Inv (cxOf CX P w K mg base N qual scope f cdv A outer s H E) [] σ' H' s' → RelV v u → Q v H' → CE CX.gq outer P w H s Q u s' :=
    fun {σ' H' v u} J rv q => ⟨v, H', J.os, J.bare, J.base, J.hok, rv, q⟩
  cases fl with
  | ret u =>
    obtain ⟨v, σ', H', J, rv, q⟩ := hs
    exact fin J rv q
  | next =>
    obtain ⟨σ', H', J, q⟩ := hs
    exact fin (v := V.non) (u := Value.none) J rfl q
  | brk =>
    obtain ⟨_, _, _, q⟩ := hs
    exact False.elim q
  | cont =>
    obtain ⟨_, _, _, q⟩ := hs
    exact False.elim q
end L2

namespace L2
open PySem PySem.Spec PyProof.Rows
section
variable {X : Cx} {x : Str} {p pos : Pos} {e : Expr} {es : List Expr} {t : TA} {id T : String} {r : List V → Hp → VK → Prop}

def tCB (r : List V → Hp → VK → Prop) (t : TA) : TE := fun σ H Q => t σ H fun vs H1 => r vs H1 Q
/-- f(e, ..), f a built-in function -/
theorem pe_callB (hc : CallR X (.builtin id) r) (hg : Gl X x) (hm : X.mg x = none) (hv : bootBuiltins x = some (.builtin id)) (ha : PA X (e :: es) t) (hn : x ≠ "__name__" := by decide) (hdb : (x == ("__debug__" : Str)) = false := by decide)
    (he : starEach (e :: es) X.env = (false, eval e X.env) :: starEach es X.env := by rfl) (hpl : (backTo pos (starEach es X.env)).any (·.1) = false := by rfl) : PE X (.Call (.Name x p) (e :: es) [] pos) (tCB r t) := by
  intro pins s σ H Q I h
  refine wpAny_Call_Name_kw (ld_blt I hg hm hv ?_ hn hdb)
  exact PyProof.Rows.callWith_builtin1 (thn (ha pos pins s σ H _ I h) fun us s1 ⟨vs, H1, I1, r1, q1⟩ => hc pins s1 σ H1 vs us Q I1 r1 q1) he hpl
/-- T(e, ..), T a built-in type -/
theorem pe_callTy (hc : CallR X (.type T) r) (hg : Gl X x) (hm : X.mg x = none) (hv : bootBuiltins x = some (.type T)) (ha : PA X (e :: es) t) (hn : x ≠ "__name__" := by decide) (hdb : (x == ("__debug__" : Str)) = false := by decide)
    (he : starEach (e :: es) X.env = (false, eval e X.env) :: starEach es X.env := by rfl) (hpl : (backTo pos (starEach es X.env)).any (·.1) = false := by rfl) : PE X (.Call (.Name x p) (e :: es) [] pos) (tCB r t) := by
  intro pins s σ H Q I h
  refine wpAny_Call_Name_kw (ld_blt I hg hm hv ?_ hn hdb)
  exact PyProof.Rows.callWith_type1 (thn (ha pos pins s σ H _ I h) fun us s1 ⟨vs, H1, I1, r1, q1⟩ => hc pins s1 σ H1 vs us Q I1 r1 q1) he hpl
end
end L2

namespace HT
open PySem PyProof.Rows

/-- t < u of tuples of ints -/
def lexLt : List Int → List Int → Bool
  | [], [] => false
  | [], _ :: _ => true
  | _ :: _, [] => false
  | x :: xs, y :: ys => if x = y then lexLt xs ys else decide (x < y)
theorem lexLt_cons (x y : Int) (xs ys : List Int) : lexLt (x :: xs) (y :: ys) = if x = y then lexLt xs ys else decide (x < y) := rfl
theorem lexLt_nil_nil : lexLt [] [] = false := rfl
theorem lexLt_nil_cons (y : Int) (ys : List Int) : lexLt [] (y :: ys) = true := rfl
theorem lexLt_cons_nil (x : Int) (xs : List Int) : lexLt (x :: xs) [] = false := rfl

theorem eqAt_int (A : Around) (s : Shared) (a : Int) (t : Tok) (c : Int) (u : Tok) : ∃ e, SeqAt.EqAt A s (.int a t) (.int c u) e ∧ (e = true ↔ a = c) :=
  ⟨(a == c), SeqAt.EqAt.int_int a t c u, by simp⟩
theorem rcLt_int (A : Around) (s : Shared) (a : Int) (t : Tok) (c : Int) (u : Tok) (prog : Program) (w : World) (E : Value → Shared → Prop) (Q : Value → Shared → Prop) (h : Q (.bool (decide (a < c))) s) :
    wpAny (model prog w) A (richCompare .Lt (.int a t) (.int c u)) Q E s :=
  (PyProof.Rows.lt_int h : wpAny (model prog w) A (compareOp .Lt (.int a t) (.int c u)) Q E s)

section
open PySem.SeqAt
open PySem.AutoSeq1 (wpAny_loadPart')
open PySem.MeetsSeq PySem.MeetsSeq2 PySem.MeetsSeq3

end

section
variable {prog : Program} {w : World} {A : Around} {E : Value → Shared → Prop} {s : Shared}

/-- t + u, t not empty -/
theorem cat_tup {t b : Addr} {vs ws : List Value} {Q : Value → Shared → Prop} (ht : IsTup s.heap t vs.toArray) (hb : IsTup s.heap b ws.toArray) (hv : vs ≠ [])
    (h1 : ws = [] → Q (.ref t) s) (h2 : ws ≠ [] → Q (.ref s.heap.objs.size) { s with heap := s.heap.push { cls := .type "tuple", data := .seq (vs ++ ws).toArray } })
    (hsz : vs.length + ws.length ≤ sizeLine) : wpAny (model prog w) A (binaryOp .Add (.ref t) (.ref b)) Q E s := by
  obtain ⟨⟨cls, dd, data, sl⟩, ho, hc, n, hd⟩ := id ht
  obtain ⟨⟨cls2, dd2, data2, sl2⟩, ho2, hc2, n2, hd2⟩ := id hb
  simp only at hc hd hc2 hd2
  subst hc hd hc2 hd2
  have e : vs.toArray ++ ws.toArray = (vs ++ ws).toArray := by simp
  by_cases hw : ws = []
  · exact concat_meets ⟨_, ho, rfl⟩ ⟨_, ho2, rfl⟩ noFill_tuple_add seq_tuple_add PySem.F.slot_tuple_add PySem.F.entry_tuple_add (PySem.F.args_tuple_add_2 _ _)
      (tuple_addW1 t b vs.toArray ws.toArray n n2 dd dd2 sl sl2 (by simpa using hv) (by simp [hw])) ⟨ho, ho2, h1 hw⟩
  · refine concat_meets ⟨_, ho, rfl⟩ ⟨_, ho2, rfl⟩ noFill_tuple_add seq_tuple_add PySem.F.slot_tuple_add PySem.F.entry_tuple_add (PySem.F.args_tuple_add_2 _ _)
      (tuple_addW2 t b vs.toArray ws.toArray n n2 dd dd2 sl sl2 (by simpa using hv) (by simpa using hw) (by rw [List.size_toArray, List.size_toArray]; exact hsz)) ⟨ho, ho2, ?_⟩
    rw [e]
    exact h2 hw

/-! ### t[a:b], not the whole -/
/-- a slice's bound as a place among n (d where it is left out) -/
def sIx (n d : Nat) : Option Int → Nat
  | none => d
  | some v => if v < 0 then (v + (n : Int)).toNat else min v.toNat n
theorem sIx_nat (n d k : Nat) : sIx n d (some (k : Int)) = min k n := by
  show (if (k : Int) < 0 then ((k : Int) + (n : Int)).toNat else min (k : Int).toNat n) = min k n
  rw [if_neg (by omega), Int.toNat_natCast]
theorem sIx_le (n d : Nat) (hd : d ≤ n) (o : Option Int) : sIx n d o ≤ n := by
  cases o with
  | none => exact hd
  | some v =>
    show (if v < 0 then (v + (n : Int)).toNat else min v.toNat n) ≤ n
    by_cases hv : v < 0
    · rw [if_pos hv]; omega
    · rw [if_neg hv]; exact Nat.min_le_right _ _
theorem clip_eq (v : Int) (n d : Nat) : (if v < 0 then max (v + (n : Int)) 0 else min v (n : Int)) = ((sIx n d (some v) : Nat) : Int) := by
  show (if v < 0 then max (v + (n : Int)) 0 else min v (n : Int)) = (((if v < 0 then (v + (n : Int)).toNat else min v.toNat n) : Nat) : Int)
  by_cases hv : v < 0
  · simp only [if_pos hv]; omega
  · simp only [if_neg hv]; omega
theorem adjust_gen (lo hi : Option Int) (n : Nat) : Builtin.Slice.sliceAdjust lo hi 1 (n : Int) = (((sIx n 0 lo : Nat) : Int), ((sIx n n hi : Nat) : Int)) := by
  have h1 : ¬ ((1 : Int) < 0) := by omega
  unfold Builtin.Slice.sliceAdjust
  simp only [h1, if_false]
  refine Prod.ext ?_ ?_
  · cases lo with
    | none => rfl
    | some v => exact clip_eq v n 0
  · cases hi with
    | none => rfl
    | some v => exact clip_eq v n n
theorem places_gen (i j : Nat) : Builtin.Slice.slicePlaces (i : Int) (j : Int) 1 = j - i := by
  unfold Builtin.Slice.slicePlaces
  have h1 : (1 : Int) > 0 := by omega
  simp only [h1, if_true, Int.ediv_one]
  split <;> omega
theorem slicePart_ {v : Value} {o : Option Int} {Q : Option Int → Shared → Prop} (p : IsPart v o) (h : Q o s) : wpAny (model prog w) A (Builtin.Slice.slicePartIndex v) Q E s := by
  cases p with
  | none => exact slicePart_none h
  | int i t => exact slicePart_int h
theorem sliceApplied_gen {sl : Addr} {vl vu : Value} {lo hi : Option Int} {n : Nat} {Q : Int × Int × Nat → Shared → Prop} (hs : s.heap.IsSliceOf sl vl vu .none) (pl : IsPart vl lo) (pu : IsPart vu hi)
    (h : Q (((sIx n 0 lo : Nat) : Int), 1, sIx n n hi - sIx n 0 lo) s) : wpAny (model prog w) A (Builtin.Slice.sliceApplied (.ref sl) (pure (n : Int))) Q E s := by
  obtain ⟨os, hos, hcs, hds⟩ := id hs
  unfold Builtin.Slice.sliceApplied Builtin.Slice.sliceFields
  refine wpAny_bind (wpAny_bind (wpAny_field hos hds (x := vl) rfl (wpAny_bind (wpAny_field hos hds (x := vu) rfl (wpAny_bind (wpAny_field hos hds (x := .none) rfl (wpAny_pure ?_)))))))
  refine wpAny_bind (slicePart_none ?_)
  show wpAny _ _ (if ((1 : Int) == 0) = true then _ else _) _ _ s
  rw [if_neg (by decide)]
  refine wpAny_bind (slicePart_ pl (wpAny_bind (slicePart_ pu (wpAny_bind (wpAny_pure ?_)))))
  show wpAny _ _ (match Builtin.Slice.sliceAdjust lo hi 1 (n : Int) with | (lo, hi) => pure (lo, (1 : Int), Builtin.Slice.slicePlaces lo hi 1)) _ _ s
  rw [adjust_gen lo hi n]
  show wpAny _ _ (pure (((sIx n 0 lo : Nat) : Int), (1 : Int), Builtin.Slice.slicePlaces ((sIx n 0 lo : Nat) : Int) ((sIx n n hi : Nat) : Int) 1)) _ _ s
  rw [places_gen]
  exact wpAny_pure h
theorem pick_gen (xs : Array Value) (i k : Nat) : ((List.range k).filterMap fun (m : Nat) => xs[((i : Int) + (m : Int) * 1).toNat]?).toArray = ((xs.toList.drop i).take k).toArray := by
  have e : (fun (m : Nat) => xs[((i : Int) + (m : Int) * 1).toNat]?) = fun m => xs[i + m]? := by
    funext m
    have : ((i : Int) + (m : Int) * 1).toNat = i + m := by omega
    rw [this]
  rw [e]
  have := pick_run xs i k
  rw [List.filterMap_map] at this
  have e2 : ((fun x => xs[x]?) ∘ fun x => i + x) = fun m => xs[i + m]? := rfl
  rw [e2] at this
  rw [this]

theorem getItem_tuple_cut {t sl : Addr} {items : Array Value} {vl vu : Value} {lo hi : Option Int} {Q : Value → Shared → Prop} (ht : IsTup s.heap t items) (hs : s.heap.IsSliceOf sl vl vu .none) (pl : IsPart vl lo) (pu : IsPart vu hi)
    (hw : ¬ (sIx items.size 0 lo = 0 ∧ sIx items.size items.size hi = items.size))
    (h : Q (.ref s.heap.objs.size) { s with heap := s.heap.push { cls := .type "tuple", data := .seq ((items.toList.drop (sIx items.size 0 lo)).take (sIx items.size items.size hi - sIx items.size 0 lo)).toArray } })
    (hsz : items.size ≤ sizeLine) : wpAny (model prog w) A (getItem (.ref t) (.ref sl)) Q E s := by
  have htake : sizeOk (.seq ((items.toList.drop (sIx items.size 0 lo)).take (sIx items.size items.size hi - sIx items.size 0 lo)).toArray) := by
    show ((items.toList.drop (sIx items.size 0 lo)).take (sIx items.size items.size hi - sIx items.size 0 lo)).toArray.size ≤ sizeLine
    rw [List.size_toArray, List.length_take, List.length_drop, Array.length_toList]
    omega
  have hj : sIx items.size items.size hi ≤ items.size := sIx_le _ _ (Nat.le_refl _) hi
  obtain ⟨os, hos, hcs, hds⟩ := id hs
  have hTs : s.TypeIs (.ref sl) "slice" := ⟨os, hos, hcs⟩
  unfold getItem
  try with_reducible refine wpAny_holding ?_
  first | refine wpAny_bind (wpAny_pure ?_) | skip
  refine wpAny_bind (wpAny_sequenceKey ht.typeIs (by decide) ?_)
  refine wpAny_bind (wpAny_callSpecial?_slot (name := Str.ofString "__getitem__") ht.typeIs PyProof.Rows.slot_tuple_getitem
    (wpAny_call_entry PyProof.Rows.slot_tuple_getitem ht.typeIs entry_tuple_getitem ?_ (args_tuple_getitem _ _)))
  show wpAny _ _ (Builtin.Tuple.tupleItemsOf (.ref t) >>= _) _ _ s
  refine wpAny_bind (tupleItemsOf_ ht ?_)
  refine wpAny_bind (wpAny_typeOf hTs ?_)
  rw [if_pos (by decide)]
  refine wpAny_bind (sliceApplied_gen hs pl pu ?_)
  have hno : ¬ ((((sIx items.size 0 lo : Nat) : Int) == 0 && (1 : Int) == 1 && (sIx items.size items.size hi - sIx items.size 0 lo) == items.size) = true) := by
    intro q
    rw [Bool.and_eq_true, Bool.and_eq_true] at q
    have q1 : ((sIx items.size 0 lo : Nat) : Int) = 0 := eq_of_beq q.1.1
    have q2 : sIx items.size items.size hi - sIx items.size 0 lo = items.size := eq_of_beq q.2
    exact hw ⟨by omega, by omega⟩
  show wpAny _ _ (if (((sIx items.size 0 lo : Nat) : Int) == 0 && (1 : Int) == 1 && (sIx items.size items.size hi - sIx items.size 0 lo) == items.size) = true then _ else _) _ _ s
  rw [if_neg hno, pick_gen]
  first
    | exact wpAny_bind (m := Builtin.Tuple.tupleExact _) (wpAny_newObj_type (wpAny_pure ⟨_, rfl, wpAny_pure h⟩) htake)
    | exact wpAny_bind (m := Builtin.Tuple.tupleExact _) (wpAny_newObj_type (wpAny_bind (wpAny_pure (wpAny_pure ⟨_, rfl, wpAny_pure h⟩))) htake)
    | exact wpAny_bind (wpAny_bind (m := Builtin.Tuple.tupleExact _) (wpAny_newObj_type (wpAny_pure (wpAny_pure ⟨_, rfl, wpAny_pure h⟩)) htake))
    | exact wpAny_bind (wpAny_bind (m := Builtin.Tuple.tupleExact _) (wpAny_newObj_type (wpAny_pure ⟨_, rfl, wpAny_pure h⟩) htake))
end
end HT

namespace L2
open PySem PySem.Spec PyProof.Rows

/-! ### the parts of a slice -/
abbrev TO := St → Hp → (Option Int → Hp → Prop) → Prop
/-- a slice's part (left out, or an int) -/
def PO (X : Cx) (e : Option Expr) (t : TO) : Prop :=
  ∀ (pins : List (Addr × Obj)) (s : Shared) (σ : St) (H : Hp) (Q : Option Int → Hp → Prop), Inv X pins σ H s → t σ H Q →
    wpAny (model X.prog X.w) X.A (evalPart e X.env) (fun u s' => ∃ o H', Inv X pins σ H' s' ∧ IsPart u o ∧ Q o H') X.xe s
def tNoPart : TO := fun _ H Q => Q none H
def tPart (t : TE) : TO := fun σ H Q => t σ H fun x H1 => ∃ i, x = .int i ∧ Q (some i) H1

theorem intsAre_of {ns : List Int} : ∀ {us : List Value}, Vals (ns.map V.int) us → IntsAre us ns := by
  induction ns with
  | nil => intro us r; rw [List.map_nil] at r; cases r; exact .nil
  | cons n ns ih =>
    intro us r
    rw [List.map_cons] at r
    cases r with
    | cons r1 r2 =>
      obtain ⟨t, e⟩ := r1
      subst e
      exact .cons n t (ih r2)

section
variable {X : Cx} {e : Expr} {te : TE} {lo hi : Option Expr} {tl th : TO} {pos p2 : Pos}

theorem po_none : PO X none tNoPart := by
  intro pins s σ H Q I h
  rw [evalPart_none]
  exact wpAny_pure ⟨none, H, I, .none, h⟩
theorem po_some (h : PE X e te) : PO X (some e) (tPart te) := by
  intro pins s σ H Q I hw
  rw [evalPart_some]
  refine thn (h pins s σ H _ I hw) fun u s1 ⟨x, H1, I1, r1, q1⟩ => ?_
  obtain ⟨i, rfl, q⟩ := q1
  obtain ⟨t, rfl⟩ := r1
  exact ⟨some i, H1, I1, .int i t, q⟩

/-- what a slice of a value is, by values: the slice object stands at sl -/
def SlR (X : Cx) (r : V → Option Int → Option Int → Hp → VK → Prop) : Prop :=
  ∀ (pins : List (Addr × Obj)) (s : Shared) (σ : St) (H : Hp) (x : V) (v vl vu : Value) (lo hi : Option Int) (sl : Addr) (Q : VK), Inv X pins σ H s → RelV x v → s.heap.IsSliceOf sl vl vu .none → IsPart vl lo → IsPart vu hi → r x lo hi H Q →
    ∃ T id, typeLookup (.type T) "__getitem__" = pure (some (.builtin id)) ∧ s.TypeIs v T ∧ wpAny (model X.prog X.w) X.A (getItem v (.ref sl)) (EP X pins σ Q) X.xe s
theorem SlR.or {r r' : V → Option Int → Option Int → Hp → VK → Prop} (h : SlR X r) (h' : SlR X r') : SlR X (fun x lo hi H Q => r x lo hi H Q ∨ r' x lo hi H Q) := by
  intro pins s σ H x v vl vu lo hi sl Q I rx hs pl pu q
  rcases q with q | q
  · exact h pins s σ H x v vl vu lo hi sl Q I rx hs pl pu q
  · exact h' pins s σ H x v vl vu lo hi sl Q I rx hs pl pu q
def tSl (r : V → Option Int → Option Int → Hp → VK → Prop) (te : TE) (tl th : TO) : TE := fun σ H Q => te σ H fun x H1 => tl σ H1 fun l H2 => th σ H2 fun u H3 => r x l u H3 Q
/-- a[lo:hi], any a -/
theorem pe_slice {r : V → Option Int → Option Int → Hp → VK → Prop} (hr : SlR X r) (he : PE X e te) (hl : PO X lo tl) (hu : PO X hi th) : PE X (.Subscript e (.Slice lo hi none p2) pos) (tSl r te tl th) := by
  intro pins s σ H Q I h
  refine Subscript_ (thn (he pins s σ H _ I h) fun v s1 ⟨x, H1, I1, r1, q1⟩ => ?_)
  refine wpAny_Slice (thn (hl pins s1 σ H1 _ I1 q1) fun vl s2 ⟨l, H2, I2, pl, q2⟩ => thn (hu pins s2 σ H2 _ I2 q2) fun vu s3 ⟨u, H3, I3, pu, q3⟩ => ?_)
  rw [evalPart_none]
  refine wpAny_pure ?_
  have I4 : Inv X pins σ H3 { s3 with heap := s3.heap.push { cls := .type "slice", data := .fields #[vl, vu, .none] } } := I3.kept (t' := s3.toks) fun b ob q => Heap.get?_push_of_some _ q
  obtain ⟨T, id, hT, ht, hg⟩ := hr pins { s3 with heap := s3.heap.push { cls := .type "slice", data := .fields #[vl, vu, .none] } } σ H3 x v vl vu l u s3.heap.objs.size Q I4 r1 (Heap.IsSliceOf.new ..) pl pu q3
  show wpAny (model X.prog X.w) X.A (subscriptTail e (.Slice lo hi none p2) v (.ref s3.heap.objs.size)) (EP X pins σ Q) X.xe { s3 with heap := s3.heap.push { cls := .type "slice", data := .fields #[vl, vu, .none] } }
  exact tail_any (ops := [.ref s3.heap.objs.size, v]) ht hT hg (by with_unfolding_all rfl)

/-- the items of xs[lo:hi] -/
def cutV (xs : List V) (lo hi : Option Int) : List V := (xs.drop (HT.sIx xs.length 0 lo)).take (HT.sIx xs.length xs.length hi - HT.sIx xs.length 0 lo)
theorem cutV_length (xs : List V) (lo hi : Option Int) : (cutV xs lo hi).length ≤ xs.length := by
  unfold cutV
  rw [List.length_take, List.length_drop]
  omega
/-- t[lo:hi], not the whole of it (the whole would be t itself) -/
def rSlT (K : PySem.W.Frag) : V → Option Int → Option Int → Hp → VK → Prop := fun x lo hi H Q => ∃ a xs, x = .ref a ∧ SqT K H a xs ∧
  ¬ (HT.sIx xs.length 0 lo = 0 ∧ HT.sIx xs.length xs.length hi = xs.length) ∧ ∀ p, H p = none → Q (.ref p) (upd H p (.tup (cutV xs lo hi)))
theorem sl_tup : SlR X (rSlT X.K) := by
  intro pins s σ H x v vl vu lo hi sl Q I rx hs pl pu h
  obtain ⟨a, xs, rfl, hx, hw, q⟩ := h
  cases rx
  obtain ⟨its, r, ht, hz⟩ := I.tuple hx
  have hlen : its.toArray.size = xs.length := by rw [List.size_toArray]; exact r.length.symm
  refine ⟨"tuple", _, PyProof.Rows.slot_tuple_getitem.lookup, ht.typeIs, ?_⟩
  refine HT.getItem_tuple_cut ht hs pl pu (by rw [hlen]; exact hw) ?_ (by rw [hlen]; exact hz)
  rw [hlen]
  refine ⟨.ref s.heap.objs.size, _, I.laid (t' := s.toks) (o := .tup (cutV xs lo hi)) (fun b ob q => Heap.get?_push_of_some _ q) (Nat.le_refl _) ?_, rfl, q _ (I.hok.fresh (Nat.le_refl _))⟩
  exact ⟨Nat.le_trans (cutV_length xs lo hi) hz, _, (r.drop (HT.sIx xs.length 0 lo)).take (HT.sIx xs.length xs.length hi - HT.sIx xs.length 0 lo), IsTup.new _ _, ⟨_, Heap.get?_push_size _ rfl, rfl⟩⟩

/-! ### t < u, t + u -/
/-- t + u, t not empty: u empty gives t itself -/
def rCatT (K : PySem.W.Frag) : R2 := fun x y H Q => ∃ a b xs ys, x = .ref a ∧ y = .ref b ∧ SqT K H a xs ∧ SqT K H b ys ∧ xs ≠ [] ∧ xs.length + ys.length ≤ sizeLine ∧
  (ys = [] → Q (.ref a) H) ∧ (ys ≠ [] → ∀ p, H p = none → Q (.ref p) (upd H p (.tup (xs ++ ys))))
theorem Vals.nil_iff {xs : List V} {us : List Value} (r : Vals xs us) : us = [] ↔ xs = [] := by
  cases r with
  | nil => simp
  | cons _ _ => simp
theorem op_catT : OpR X (binaryOp .Add) (rCatT X.K) := by
  intro pins s σ H x y v u Q I rx ry h
  obtain ⟨a, b, xs, ys, rfl, rfl, ha, hb, hx, hz, q1, q2⟩ := h
  cases rx
  cases ry
  obtain ⟨its, r1, p1, _⟩ := I.tuple ha
  obtain ⟨its2, r2, p2, _⟩ := I.tuple hb
  refine HT.cat_tup p1 p2 (fun z => hx (r1.nil_iff.mp z)) (fun z => ⟨.ref a, H, I, rfl, q1 (r2.nil_iff.mp z)⟩) (fun z => ?_) (by rw [← r1.length, ← r2.length]; exact hz)
  refine ⟨.ref s.heap.objs.size, _, I.laid (t' := s.toks) (o := .tup (xs ++ ys)) (fun b ob q => Heap.get?_push_of_some _ q) (Nat.le_refl _) ?_, rfl, q2 (fun w => z (r2.nil_iff.mpr w)) _ (I.hok.fresh (Nat.le_refl _))⟩
  exact ⟨by rw [List.length_append]; exact hz, _, r1.append r2, IsTup.new _ _, ⟨_, Heap.get?_push_size _ rfl, rfl⟩⟩
end
end L2

namespace L2
open PySem PySem.Spec PyProof.Rows

/-! ### places -/
/-- the place that an index of any sign means -/
def ixN (n : Nat) (i : Int) : Option Nat := if 0 ≤ i then (if i < n then some i.toNat else none) else if -(n : Int) ≤ i then some (i + n).toNat else none
def atI {α : Type} (xs : List α) (i : Int) : Option α := (ixN xs.length i).bind fun j => xs[j]?
theorem ixN_seq {n : Nat} {i : Int} {j : Nat} (h : ixN n i = some j) : seqIndex? i n = some j ∧ j < n ∧ -(n : Int) ≤ i ∧ i < n := by
  unfold ixN at h
  by_cases h0 : 0 ≤ i
  · rw [if_pos h0] at h
    by_cases h1 : i < n
    · rw [if_pos h1] at h
      have e : i.toNat = j := Option.some.inj h
      exact ⟨by rw [seqIndex_of h0 h1, e], by omega, by omega, h1⟩
    · rw [if_neg h1] at h; cases h
  · rw [if_neg h0] at h
    by_cases h1 : -(n : Int) ≤ i
    · rw [if_pos h1] at h
      have e : (i + n).toNat = j := Option.some.inj h
      exact ⟨by rw [seqIndex_neg (by omega) h1, e], by omega, h1, by omega⟩
    · rw [if_neg h1] at h; cases h
theorem atI_get {α : Type} {xs : List α} {i : Int} {v : α} (h : atI xs i = some v) : ∃ j, seqIndex? i xs.length = some j ∧ xs[j]? = some v ∧ j < xs.length ∧ -(xs.length : Int) ≤ i ∧ i < xs.length := by
  unfold atI at h
  cases e : ixN xs.length i with
  | none => rw [e] at h; cases h
  | some j =>
    rw [e] at h
    obtain ⟨h1, h2, h3, h4⟩ := ixN_seq e
    exact ⟨j, h1, h, h2, h3, h4⟩
theorem atI_nat {α : Type} {xs : List α} {j : Nat} {v : α} (h : xs[j]? = some v) : atI xs (j : Int) = some v := by
  have hj : j < xs.length := (List.getElem?_eq_some_iff.mp h).1
  have e : ixN xs.length (j : Int) = some j := by
    unfold ixN
    rw [if_pos (by omega), if_pos (by omega)]; simp
  unfold atI; rw [e]; exact h
theorem atI_last {α : Type} (xs : List α) (v : α) : atI (xs ++ [v]) (-1) = some v := by
  have hl : (xs ++ [v]).length = xs.length + 1 := by simp
  have e : ixN (xs ++ [v]).length (-1) = some xs.length := by
    unfold ixN
    rw [hl, if_neg (by decide), if_pos (by omega)]
    congr 1
    omega
  unfold atI
  rw [e]
  show (xs ++ [v])[xs.length]? = some v
  simp

/-! ### what may be subscripted -/
/-- what stands as an index of a plain subscript -/
def PlainIx (b : Expr) : Prop := ∀ o i, subscripted b false o i = operate [o, i] (getItem o i)
/-- a subscript by values -/
def IxR (X : Cx) (r : R2) : Prop :=
  ∀ (value slice : Expr) (pins : List (Addr × Obj)) (s : Shared) (σ : St) (H : Hp) (x y : V) (v u : Value) (Q : VK), Inv X pins σ H s → RelV x v → RelV y u → r x y H Q →
    subscripted slice false v u = operate [v, u] (getItem v u) → wpAny (model X.prog X.w) X.A (subscriptTail value slice v u) (EP X pins σ Q) X.xe s
/-- a call of a builtin's method by values: the receiver, the arguments -/
def MtR (X : Cx) (id : String) (r : V → List V → Hp → VK → Prop) : Prop :=
  ∀ (pins : List (Addr × Obj)) (s : Shared) (σ : St) (H : Hp) (x : V) (xs : List V) (v : Value) (us : List Value) (Q : VK), Inv X pins σ H s → RelV x v → Vals xs us → r x xs H Q →
    wpAny (model X.prog X.w) X.A (call (.builtin id) (v :: us)) (EP X pins σ Q) X.xe s
section
variable {X : Cx} {a b : Expr} {ta tb : TE} {pos : Pos}
theorem IxR.or {r r' : R2} (h : IxR X r) (h' : IxR X r') : IxR X (fun x y H Q => r x y H Q ∨ r' x y H Q) := by
  intro value slice pins s σ H x y v u Q I rx ry q hs
  rcases q with q | q
  · exact h value slice pins s σ H x y v u Q I rx ry q hs
  · exact h' value slice pins s σ H x y v u Q I rx ry q hs
theorem MtR.or {id : String} {r r' : V → List V → Hp → VK → Prop} (h : MtR X id r) (h' : MtR X id r') : MtR X id (fun x xs H Q => r x xs H Q ∨ r' x xs H Q) := by
  intro pins s σ H x xs v us Q I rx rs q
  rcases q with q | q
  · exact h pins s σ H x xs v us Q I rx rs q
  · exact h' pins s σ H x xs v us Q I rx rs q
/-- a[b] -/
theorem pe_ix {r : R2} (hr : IxR X r) (ha : PE X a ta) (hb : PE X b tb) (hs : PlainIx b) : PE X (.Subscript a b pos) (tOp r ta tb) := by
  intro pins s σ H Q I h
  exact Subscript_ (binT ha hb I h fun v u s2 x y H2 I2 rx ry q => hr a b pins s2 σ H2 x y v u Q I2 rx ry q (hs _ _))

def rIxL (K : PySem.W.Frag) : R2 := fun x y H Q => ∃ p xs i v, x = .ref p ∧ y = .int i ∧ SqL K H p xs ∧ atI xs i = some v ∧ Q v H
def rIxT (K : PySem.W.Frag) : R2 := fun x y H Q => ∃ p xs i v, x = .ref p ∧ y = .int i ∧ SqT K H p xs ∧ atI xs i = some v ∧ Q v H
theorem ix_list : IxR X (rIxL X.K) := by
  intro value slice pins s σ H x y v u Q I rx ry h hs
  obtain ⟨p, xs, i, z, rfl, rfl, hq, he, q⟩ := h
  cases rx
  obtain ⟨t, rfl⟩ := ry
  obtain ⟨its, r, pl, hz⟩ := I.list hq
  obtain ⟨j, h1, h2, h3, h4, h5⟩ := atI_get he
  obtain ⟨w, ew, rw'⟩ := r.get h2
  have hl := r.length
  have hn := line63
  have fin : EP X pins σ Q w s := ⟨z, H, I, rw', q⟩
  by_cases h0 : 0 ≤ i
  · have hj : i.toNat = j := by
      rw [seqIndex_of h0 h5] at h1
      exact Option.some.inj h1
    exact item_listR pl.isList h0 (by omega) (by rw [hj]; simpa using ew) fin hs
  · have hj : (i + (its.toArray.size : Int)).toNat = j := by
      rw [seqIndex_neg (by omega) h4] at h1
      rw [List.size_toArray, ← hl]
      exact Option.some.inj h1
    exact subscriptTail_builtinR (x := w) pl.isList.typeIs slot_list_getitem.lookup
      (wpAny_getItem_list_neg (Q := fun r s' => r = w ∧ EP X pins σ Q r s') pl.isList (by omega) (by rw [List.size_toArray] <;> omega) (by omega) (by rw [hj]; simpa using ew) ⟨rfl, fin⟩) hs
theorem ix_tup : IxR X (rIxT X.K) := by
  intro value slice pins s σ H x y v u Q I rx ry h hs
  obtain ⟨p, xs, i, z, rfl, rfl, hq, he, q⟩ := h
  cases rx
  obtain ⟨t, rfl⟩ := ry
  obtain ⟨its, r, pl, hz⟩ := I.tuple hq
  obtain ⟨j, h1, h2, h3, h4, h5⟩ := atI_get he
  obtain ⟨w, ew, rw'⟩ := r.get h2
  have hl := r.length
  have hn := line63
  have fin : EP X pins σ Q w s := ⟨z, H, I, rw', q⟩
  exact subscriptTail_builtinR (x := w) pl.typeIs slot_tuple_getitem.lookup
    (getItem_tuple (j := j) (Q := fun r s' => r = w ∧ EP X pins σ Q r s') pl (by omega) (by omega) (by rw [List.size_toArray, ← hl]; exact h1) (by simpa using ew) ⟨rfl, fin⟩) hs
/-! ### xs[i] = v, any sign -/
/-- the list's object behind a store -/
theorem mapSeq_set (its : List Value) (n j : Nat) (u : Value) : Obj.mapSeq (·.setIfInBounds j u) { cls := .type "list", data := .seq its.toArray n } = { cls := .type "list", data := .seq (its.set j u).toArray n } := by
  simp [Obj.mapSeq]
theorem Inv.lst {pins : List (Addr × Obj)} {σ : St} {H : Hp} {s : Shared} {p : Addr} {xs : List V} (I : Inv X pins σ H s) (h : H p = some (.lst xs)) :
    ∃ (its : List Value) (n : Nat), Vals xs its ∧ s.heap.get? p = some { cls := .type "list", data := .seq its.toArray n } ∧ xs.length ≤ sizeLine := by
  obtain ⟨z, its, n, r, e⟩ := I.hok p _ h
  exact ⟨its, n, r, e, z⟩
/-- the list at p is written by an update of its object -/
theorem Inv.lstUpd {pins : List (Addr × Obj)} {σ : St} {H : Hp} {s : Shared} {p : Addr} {xs ys : List V} {its its' : List Value} {n n' : Nat} {f : Obj → Obj} (I : Inv X pins σ H s) (h : H p = some (.lst xs))
    (ho : s.heap.get? p = some { cls := .type "list", data := .seq its.toArray n }) (hf : f { cls := .type "list", data := .seq its.toArray n } = { cls := .type "list", data := .seq its'.toArray n' }) (r : Vals ys its') (hz : ys.length ≤ sizeLine) (t : Nat) :
    Inv X pins σ (upd H p (.lst ys)) { s with heap := s.heap.update p f, toks := t } := by
  have e : (s.heap.update p f).get? p = some { cls := .type "list", data := .seq its'.toArray n' } := by
    rw [Heap.get?_update_self f ho (by rw [hf] <;> rfl), hf]
  refine I.write (x := p) (e := p) (by rw [h]; trivial) (.inl rfl) (fun b u hb q => (Heap.get?_update_other _ _ (Ne.symm hb)).trans q) ⟨_, e⟩ ?_
  exact ⟨hz, its', n', r, e⟩
def rSetL : V → V → V → Hp → (Hp → Prop) → Prop := fun o i v H Q => ∃ p xs k j, o = .ref p ∧ i = .int k ∧ H p = some (.lst xs) ∧ ixN xs.length k = some j ∧ Q (upd H p (.lst (xs.set j v)))
theorem set_list : PSet X rSetL := by
  intro pins s σ H o i v ov iv u Q I ro ri rv h
  obtain ⟨p, xs, k, j, rfl, rfl, hp, hj, q⟩ := h
  cases ro
  obtain ⟨t, rfl⟩ := ri
  obtain ⟨its, n, r, ho, hz⟩ := I.lst hp
  obtain ⟨h1, h2, h3, h4⟩ := ixN_seq hj
  have hl := r.length
  have hn := line63
  have I' : Inv X pins σ (upd H p (.lst (xs.set j v))) { s with heap := s.heap.update p (Obj.mapSeq (·.setIfInBounds j u)) } :=
    I.lstUpd hp ho (mapSeq_set its n j u) (r.set rv j) (by rw [List.length_set]; exact hz) s.toks
  by_cases h0 : 0 ≤ k
  · have hk : k.toNat = j := by
      rw [seqIndex_of h0 h4] at h1
      exact Option.some.inj h1
    exact PySem.W.ki_setAt ho h0 (by omega) (by rw [List.size_toArray, ← hl]; exact h4) (by rw [hk]; exact ⟨_, I', q⟩)
  · have hk : (k + (its.toArray.size : Int)).toNat = j := by
      rw [seqIndex_neg (by omega) h3] at h1
      rw [List.size_toArray, ← hl]
      exact Option.some.inj h1
    exact PySem.W.ki_setBack ho (by omega) (by rw [List.size_toArray, ← hl]; exact h3) (by omega) (by rw [hk]; exact ⟨_, I', q⟩)

/-! ### slices -/
theorem slice_bounds (lo hi : Option Int) (n : Nat) : (sliceBounds lo hi none n).1 = ((HT.sIx n 0 lo : Nat) : Int) ∧ (sliceBounds lo hi none n).2.1 = ((HT.sIx n n hi : Nat) : Int) ∧ (sliceBounds lo hi none n).2.2 = 1 := by
  refine ⟨?_, ?_, rfl⟩
  · cases lo with
    | none => simp [sliceBounds, HT.sIx]
    | some i =>
      simp only [sliceBounds, HT.sIx, Option.getD_none, show (1 : Int) > 0 by decide, if_true]
      by_cases h : i < 0
      · simp only [h, if_true] <;> omega
      · simp only [h, if_false] <;> omega
  · cases hi with
    | none => simp [sliceBounds, HT.sIx]
    | some i =>
      simp only [sliceBounds, HT.sIx, Option.getD_none, show (1 : Int) > 0 by decide, if_true]
      by_cases h : i < 0
      · simp only [h, if_true] <;> omega
      · simp only [h, if_false] <;> omega
theorem slicePick_cut (its : List Value) (lo hi : Option Int) : slicePick its.toArray lo hi none = ((its.drop (HT.sIx its.length 0 lo)).take (HT.sIx its.length its.length hi - HT.sIx its.length 0 lo)).toArray := by
  obtain ⟨h1, h2, h3⟩ := slice_bounds lo hi its.toArray.size
  unfold slicePick
  rw [h1, h2, h3]
  simp only [sliceRange_one, pick_run, List.size_toArray] <;> rfl
/-- xs[lo:hi] of a list: a new list -/
def rSlL (K : PySem.W.Frag) : V → Option Int → Option Int → Hp → VK → Prop := fun x lo hi H Q => ∃ a xs, x = .ref a ∧ SqL K H a xs ∧ ∀ p, H p = none → Q (.ref p) (upd H p (.lst (cutV xs lo hi)))
theorem sl_list : SlR X (rSlL X.K) := by
  intro pins s σ H x v vl vu lo hi sl Q I rx hs pl pu h
  obtain ⟨a, xs, rfl, hx, q⟩ := h
  cases rx
  obtain ⟨its, r, ht, hz⟩ := I.list hx
  have hlen := r.length
  refine ⟨"list", _, slot_list_getitem.lookup, ht.isList.typeIs, ?_⟩
  refine wpAny_getItem_list_slice ht.isList hs pl pu .none (by simp) ?_ (by rw [List.size_toArray] <;> omega)
  rw [slicePick_cut, ← hlen]
  refine ⟨.ref s.heap.objs.size, _, I.laid (t' := s.toks) (o := .lst (cutV xs lo hi)) (fun b ob q => Heap.get?_push_of_some _ q) (Nat.le_refl _) ?_, rfl, q _ (I.hok.fresh (Nat.le_refl _))⟩
  exact ⟨Nat.le_trans (cutV_length xs lo hi) hz, _, 0, (r.drop (HT.sIx xs.length 0 lo)).take (HT.sIx xs.length xs.length hi - HT.sIx xs.length 0 lo), Heap.get?_push_size _ rfl⟩

/-! ### in, not in: flat items -/
/-! ### len, list(x), tuple(x) of any list or tuple that is read -/
theorem CallR.or {f : Value} {r r' : List V → Hp → VK → Prop} (h : CallR X f r) (h' : CallR X f r') : CallR X f (fun xs H Q => r xs H Q ∨ r' xs H Q) := by
  intro pins s σ H xs us Q I rs q
  rcases q with q | q
  · exact h pins s σ H xs us Q I rs q
  · exact h' pins s σ H xs us Q I rs q
theorem call_list_of : CallR X (.type "list") (fun xs H Q => ∃ p ys, xs = [.ref p] ∧ (SqL X.K H p ys ∨ SqT X.K H p ys) ∧ ∀ l, H l = none → Q (.ref l) (upd H l (.lst ys))) := by
  intro pins s σ H xs us Q I r h
  obtain ⟨p, ys, rfl, hq, q⟩ := h
  obtain ⟨u, rfl, rx⟩ := vals1 r
  cases rx
  have fin : ∀ (its : List Value), Vals ys its → ys.length ≤ sizeLine → ∀ (h' : Heap) (c' : Nat), (∀ b o', s.heap.get? b = some o' → h'.get? b = some o') →
      h'.get? s.heap.objs.size = some { cls := .type "list", dict := none, data := .seq its.toArray c', slots := #[] } → EP X pins σ Q (.ref s.heap.objs.size) { s with heap := h' } := fun its r' hz h' c' kp e =>
    ⟨.ref s.heap.objs.size, _, I.laid (t' := s.toks) kp (Nat.le_refl _) (show ObjOk X.prog X.w _ h' _ (.lst ys) from ⟨hz, its, c', r', e⟩), rfl, q _ (I.hok.fresh (Nat.le_refl _))⟩
  rcases hq with hq | hq
  · obtain ⟨its, r', pl, hz⟩ := I.list hq
    have hlen := r'.length
    obtain ⟨o, ho, hc, n, hd⟩ := pl.isList
    exact call_list_seq p (.inl rfl) ho hc hd (fun h' c' kp e => fin its r' hz h' c' kp e) (by simp only [List.size_toArray] <;> omega)
  · obtain ⟨its, r', pl, hz⟩ := I.tuple hq
    have hlen := r'.length
    obtain ⟨o, ho, hc, n, hd⟩ := pl
    exact call_list_seq p (.inr rfl) ho hc hd (fun h' c' kp e => fin its r' hz h' c' kp e) (by simp only [List.size_toArray] <;> omega)
theorem call_tuple_of : CallR X (.type "tuple") (fun xs H Q => ∃ p ys, xs = [.ref p] ∧ ((SqL X.K H p ys ∧ ∀ l, H l = none → Q (.ref l) (upd H l (.tup ys))) ∨ (SqT X.K H p ys ∧ Q (.ref p) H))) := by
  intro pins s σ H xs us Q I r h
  obtain ⟨p, ys, rfl, h⟩ := h
  obtain ⟨u, rfl, rx⟩ := vals1 r
  cases rx
  rcases h with ⟨hq, q⟩ | ⟨hq, q⟩
  · obtain ⟨its, r', pl, hz⟩ := I.list hq
    have hlen := r'.length
    refine call_tuple_list pl.isList (fun h' kp => ?_) (by simp only [List.size_toArray] <;> omega)
    have I1 : Inv X pins σ H { s with heap := h' } := I.kept (t' := s.toks) kp
    have I2 : Inv X pins σ (upd H h'.objs.size (.tup ys)) { s with heap := h'.push { cls := .type "tuple", data := .seq its.toArray } } :=
      I1.laid (t' := s.toks) (fun b o e => Heap.get?_push_of_some _ e) (Nat.le_refl _) (show ObjOk X.prog X.w _ _ _ (.tup ys) from ⟨hz, its, r', IsTup.new _ _, ⟨_, Heap.get?_push_size _ rfl, rfl⟩⟩)
    exact ⟨.ref h'.objs.size, _, I2, rfl, q _ (I1.hok.fresh (Nat.le_refl _))⟩
  · obtain ⟨its, r', pl, hz⟩ := I.tuple hq
    exact call_tuple_same pl ⟨.ref p, H, I, rfl, q⟩

/-! ### the call of a builtin's method: o.m(..) -/
/-- the value is of that builtin type -/
def tyV (K : PySem.W.Frag) (T : String) (x : V) (H : Hp) : Prop := match x with
  | .str _ => T = "str"
  | .int _ => T = "int"
  | .ref p => (T = "list" ∧ ∃ xs, SqL K H p xs) ∨ (T = "tuple" ∧ ((∃ o, K.lookup p = some o ∧ o.cls = .type "tuple" ∧ o.dict = none) ∨ ∃ xs, Rd H p (.tup xs))) ∨
      (T = "dict" ∧ ((∃ kvs, H p = some (.dK kvs)) ∨ ∃ kvs, H p = some (.dT kvs))) ∨ (T = "set" ∧ ∃ S n, H p = some (.set S n))
  | _ => False
theorem tyV_is {pins : List (Addr × Obj)} {σ : St} {H : Hp} {s : Shared} {T : String} {x : V} {v : Value} (I : Inv X pins σ H s) (r : RelV x v) (ty : tyV X.K T x H) :
    s.TypeIs v T ∧ ∀ a, v = .ref a → ∃ ob, s.heap.get? a = some ob ∧ ob.dict = none := by
  cases x with
  | str z =>
    obtain ⟨t, rfl⟩ := r
    cases (show T = "str" from ty)
    exact ⟨typeIs_str s z t, fun _ e => nomatch e⟩
  | int i =>
    obtain ⟨t, rfl⟩ := r
    cases (show T = "int" from ty)
    exact ⟨typeIs_int s i t, fun _ e => nomatch e⟩
  | ref p =>
    cases r
    rcases ty with ⟨rfl, xs, hq⟩ | ⟨rfl, ⟨o, hk, hc, hd⟩ | ⟨xs, hr⟩⟩ | ⟨rfl, hk⟩ | ⟨rfl, S, n, hk⟩
    · obtain ⟨its, _, pl, _⟩ := I.list hq
      refine ⟨pl.isList.typeIs, fun a e => ?_⟩
      cases e
      obtain ⟨o, n, e, c, hd, _⟩ := pl
      exact ⟨o, e, hd⟩
    · refine ⟨⟨o, I.kIn p o hk, hc⟩, fun a e => ?_⟩
      cases e
      exact ⟨o, I.kIn _ o hk, hd⟩
    · obtain ⟨_, its, _, ⟨ob, e1, e2, _⟩, td⟩ := hr.ok I.hok
      refine ⟨⟨ob, e1, e2⟩, fun a e => ?_⟩
      cases e
      exact td
    · have z : ∃ o, s.heap.get? p = some o ∧ o.ExactDict := by
        rcases hk with ⟨kvs, hk⟩ | ⟨kvs, hk⟩
        · obtain ⟨_, _, _, _, o, _, _, e, ex, _⟩ := I.hok p _ hk
          exact ⟨o, e, ex⟩
        · obtain ⟨_, _, _, _, o, _, _, e, ex, _⟩ := I.hok p _ hk
          exact ⟨o, e, ex⟩
      obtain ⟨o, e, ex⟩ := z
      refine ⟨⟨o, e, ex.1⟩, fun a e2 => ?_⟩
      cases e2
      exact ⟨o, e, ex.2.1⟩
    · obtain ⟨o, _, _, _, e, ex, _⟩ := I.hok p _ hk
      refine ⟨⟨o, e, ex.1⟩, fun a e2 => ?_⟩
      cases e2
      exact ⟨o, e, ex.2.1⟩
  | _ => exact False.elim ty
def tBM (K : PySem.W.Frag) (T : String) (r : V → List V → Hp → VK → Prop) (to : TE) (t : TA) : TE := fun σ H Q => to σ H fun x H1 => tyV K T x H1 ∧ t σ H1 fun xs H2 => r x xs H2 Q
variable {o e : Expr} {es : List Expr} {to : TE} {t : TA} {name : Str} {apos cpos : Pos} {T id : String} {r : V → List V → Hp → VK → Prop}
theorem pe_bm (pa : PlainAttrs T) (slot : Slot T name id) (hty : typeOf (.builtin id) = pure (.type "method_descriptor")) (hm : MtR X id r) (ho : PE X o to) (ha : PA X (e :: es) t)
    (hbase : attributeBase o name X.env (eval o X.env) = eval o X.env := by rfl)
    (hfew : ((backTo cpos (starEach (e :: es) X.env)).all (fun x => !x.1) && (backToKw cpos (keywordEach [] X.env)).all (fun x => x.1.isSome)
      && decide ((e :: es).length + ([] : List Keyword).length + (if ([] : List Keyword).isEmpty then 0 else 1) < 30)) = true := by rfl)
    (hline : (apos.endLine == cpos.line) = true := by rfl) (hs : starEach (e :: es) X.env = (false, eval e X.env) :: starEach es X.env := by rfl) (hplain : (backTo cpos (starEach es X.env)).any (·.1) = false := by rfl) :
    PE X (.Call (.Attribute o name apos) (e :: es) [] cpos) (tBM X.K T r to t) := by
  intro pins s σ H Q I h
  refine wpAny_Call_method_late hbase hfew hline rfl (thn (ho pins s σ H _ I h) fun v s1 ⟨x, H1, I1, r1, ty, q1⟩ => ?_)
  obtain ⟨h1, h2⟩ := tyV_is I1 r1 ty
  refine ⟨T, id, pa, slot, hty, h1, h2, ?_⟩
  have hA := ha cpos pins s1 σ H1 _ I1 q1
  rw [hs] at hA ⊢
  refine Calls.callWith_builtin (by show (false || (backTo cpos (starEach es X.env)).any (·.1)) = false; rw [hplain] <;> rfl) (Calls.evalArgs_plain ?_)
  exact thn hA fun us s2 ⟨vs, H2, I2, r2, q2⟩ => hm pins s2 σ H2 x vs v us Q I2 r1 r2 q2
/- xs.append(e), list.index on a module's tuple .. are MtR facts of 06m -/
end
end L2

namespace L2
open PySem PySem.Spec PyProof.Rows

def MtM (X : Cx) (id : String) (r : V → List V → Hp → VK → Prop) : Prop :=
  ∀ (pins : List (Addr × Obj)) (s : Shared) (σ : St) (H : Hp) (x : V) (xs : List V) (v : Value) (us : List Value) (Q : VK), Inv X pins σ H s → RelV x v → Vals xs us → r x xs H Q →
    wpAny (model X.prog X.w) X.A (call (.builtin id) (v :: us)) (EP X pins σ Q) X.xe s

/-! ### lists of values -/
theorem Vals.one : ∀ {x : V} {us : List Value}, Vals [x] us → ∃ u, us = [u] ∧ RelV x u
  | _, _, .cons r .nil => ⟨_, rfl, r⟩
theorem Vals.two : ∀ {x y : V} {us : List Value}, Vals [x, y] us → ∃ u v, us = [u, v] ∧ RelV x u ∧ RelV y v
  | _, _, _, .cons r (.cons q .nil) => ⟨_, _, rfl, r, q⟩
theorem Vals.zero : ∀ {us : List Value}, Vals [] us → us = []
  | _, .nil => rfl
theorem Vals.dropLast {xs : List V} {us : List Value} (h : Vals xs us) : Vals xs.dropLast us.dropLast := by
  induction h with
  | nil => exact .nil
  | cons r t ih =>
    cases t with
    | nil => exact .nil
    | cons q t' => exact .cons r ih
theorem Vals.reverse {xs : List V} {us : List Value} (h : Vals xs us) : Vals xs.reverse us.reverse := by
  induction h with
  | nil => exact .nil
  | cons r t ih => rw [List.reverse_cons, List.reverse_cons]; exact Vals.append ih (.cons r .nil)
theorem Vals.rep {xs : List V} {us : List Value} (h : Vals xs us) : ∀ k : Nat, Vals (List.replicate k xs).flatten (List.replicate k us).flatten
  | 0 => .nil
  | k + 1 => by
    rw [List.replicate_succ, List.replicate_succ, List.flatten_cons, List.flatten_cons]
    exact Vals.append h (Vals.rep h k)
theorem foldl_rep (its : List Value) : ∀ (k : Nat) (acc : List Value),
    List.foldl (fun x1 x2 => x1 ++ x2) acc.toArray (List.replicate k its.toArray) = (acc ++ (List.replicate k its).flatten).toArray
  | 0, acc => by simp
  | k + 1, acc => by
    have e : acc.toArray ++ its.toArray = (acc ++ its).toArray := by simp
    have e2 : (acc ++ its) ++ (List.replicate k its).flatten = acc ++ (List.replicate (k + 1) its).flatten := by
      rw [List.replicate_succ, List.flatten_cons, List.append_assoc]
    rw [← e2, ← foldl_rep its k (acc ++ its), ← e, List.replicate_succ, List.foldl_cons]

section
variable {X : Cx} {pins : List (Addr × Obj)} {σ : St} {H : Hp} {s : Shared} {l b : Addr} {xs ys zs : List V}

/-! ### the two steps: a tracked list is rewritten, a new list is laid -/
theorem Inv.lset {its its' : List Value} {n : Nat} {f : Array Value → Array Value} {t' : Nat} (I : Inv X pins σ H s) (hH : H l = some (.lst xs))
    (e : s.heap.get? l = some { cls := .type "list", data := .seq its.toArray n }) (hf : f its.toArray = its'.toArray) (hv : Vals ys its') (hz : ys.length ≤ sizeLine) :
    Inv X pins σ (upd H l (.lst ys)) { s with heap := s.heap.update l (Obj.mapSeq f), toks := t' } := by
  have q := PySem.IsL.update e f
  rw [hf] at q
  refine I.write (x := l) (e := l) (by rw [hH]; exact trivial) (.inl rfl) (fun b' u hb hu => (Heap.get?_update_other s.heap (Obj.mapSeq f) (Ne.symm hb)).trans hu) ⟨_, q⟩ ?_
  exact ⟨hz, its', _, hv, q⟩
theorem Inv.lnew {its : List Value} {t' : Nat} (I : Inv X pins σ H s) (hv : Vals ys its) (hz : ys.length ≤ sizeLine) :
    Inv X pins σ (upd H s.heap.objs.size (.lst ys)) { s with heap := s.heap.push { cls := .type "list", data := .seq its.toArray }, toks := t' } :=
  I.laid (fun _ _ q => Heap.get?_push_of_some _ q) (Nat.le_refl _) ⟨hz, its, 0, hv, Heap.get?_push_size _ rfl⟩
theorem Inv.fresh (I : Inv X pins σ H s) : H s.heap.objs.size = none := I.hok.fresh (Nat.le_refl _)
theorem Inv.lstM (I : Inv X pins σ H s) (hH : H l = some (.lst xs)) : xs.length ≤ sizeLine ∧ ∃ (its : List Value) (n : Nat), Vals xs its ∧ xs.length = its.length ∧ s.heap.get? l = some { cls := .type "list", data := .seq its.toArray n } := by
  obtain ⟨z, its, n, r, e⟩ := I.hok l _ hH
  exact ⟨z, its, n, r, r.length, e⟩

theorem notLongL {n : Nat} (h : n ≤ sizeLine) : Builtin.List.listTooLong n = false := by
  unfold Builtin.List.listTooLong
  exact decide_eq_false (by omega)
end

section
variable {X : Cx}

/-! ### methods -/
def rAppend : V → List V → Hp → VK → Prop := fun x vs H Q => ∃ l xs y, x = .ref l ∧ vs = [y] ∧ H l = some (.lst xs) ∧ xs.length < sizeLine ∧ Q .non (upd H l (.lst (xs ++ [y])))
theorem mt_append : MtM X "list.append" rAppend := by
  intro pins s σ H x vs v us Q I rx rv h
  obtain ⟨l, xs, y, rfl, rfl, hH, hz, q⟩ := h
  cases rx
  obtain ⟨u, rfl, ru⟩ := rv.one
  obtain ⟨z, its, n, r, hl, e⟩ := I.lstM hH
  refine call_meets F.slot_list_append ⟨_, e, rfl⟩ F.entry_list_append (F.args_list_append_2 _ _) (PySem.list_append l its.toArray n u (by rw [List.size_toArray]; omega)) ⟨e, ?_⟩
  refine ⟨.non, _, I.lset (its' := its ++ [u]) hH e (by simp) (r.append (.cons ru .nil)) ?_, rfl, q⟩
  rw [List.length_append, List.length_singleton]
  omega

/-! ### list + list, list += list, list * int -/
def rCat : R2 := fun x y H Q => ∃ l b xs zs, x = .ref l ∧ y = .ref b ∧ H l = some (.lst xs) ∧ H b = some (.lst zs) ∧ xs.length + zs.length ≤ sizeLine ∧ ∀ p, H p = none → Q (.ref p) (upd H p (.lst (xs ++ zs)))
theorem op_cat : OpR X (binaryOp .Add) rCat := by
  intro pins s σ H x y v u Q I rx ry h
  obtain ⟨l, b, xs, zs, rfl, rfl, hH, hB, hz, q⟩ := h
  cases rx
  cases ry
  obtain ⟨z, its, n, r, hl, e⟩ := I.lstM hH
  obtain ⟨z2, its2, n2, r2, hl2, e2⟩ := I.lstM hB
  refine PySem.P.add_list e e2 ?_ (by rw [List.size_toArray, List.size_toArray]; omega)
  have ea : its.toArray ++ its2.toArray = (its ++ its2).toArray := by simp
  rw [ea]
  exact ⟨.ref _, _, I.lnew (t' := s.toks) (r.append r2) (by rw [List.length_append]; omega), rfl, q _ I.fresh⟩
/-- a list times an int (a negative one is nothing) -/
def rRep : R2 := fun x y H Q => ∃ l k xs, x = .ref l ∧ y = .int k ∧ H l = some (.lst xs) ∧ -(2 ^ 63) ≤ k ∧ k < 2 ^ 63 ∧ xs.length * k.toNat ≤ sizeLine ∧
  ∀ p, H p = none → Q (.ref p) (upd H p (.lst (List.replicate k.toNat xs).flatten))
theorem len_rep {α : Type} (xs : List α) (k : Nat) : (List.replicate k xs).flatten.length = k * xs.length := by
  induction k with
  | zero => simp
  | succ k ih => rw [List.replicate_succ, List.flatten_cons, List.length_append, ih, Nat.succ_mul, Nat.add_comm]
theorem op_rep : OpR X (binaryOp .Mult) rRep := by
  intro pins s σ H x y v u Q I rx ry h
  obtain ⟨l, k, xs, rfl, rfl, hH, h1, h2, hz, q⟩ := h
  cases rx
  obtain ⟨t, rfl⟩ := ry
  obtain ⟨z, its, n, r, hl, e⟩ := I.lstM hH
  have hlen : its.toArray.size * k.toNat ≤ sizeLine := by rw [List.size_toArray, ← hl]; exact hz
  have hcap : ¬ its.toArray.size * k.toNat > (2 ^ 63 - 1) / 8 := by
    have : (sizeLine : Nat) ≤ (2 ^ 63 - 1) / 8 := by decide
    omega
  have hfit : ¬ (!Builtin.List.listFitsIndex k) = true := by
    rw [fitsIndex_both h1 h2]
    exact Bool.false_ne_true
  have hlong : ¬ Builtin.List.listTooLong (its.toArray.size * k.toNat) = true := by
    rw [notLongL hlen]
    exact Bool.false_ne_true
  have hnew : List.foldl (fun x1 x2 => x1 ++ x2) #[] (List.replicate (if its.toArray.isEmpty = true then 0 else k.toNat) its.toArray) = (List.replicate k.toNat its).flatten.toArray := by
    have f0 : ∀ m : Nat, List.foldl (fun x1 x2 => x1 ++ x2) #[] (List.replicate m its.toArray) = (List.replicate m its).flatten.toArray := fun m => by
      have := foldl_rep its m []
      rw [List.nil_append] at this
      exact this
    rw [f0]
    cases its with
    | nil => simp
    | cons a r' => rw [if_neg (by simp)]
  refine wpAny_binaryOp_repeat_ref (T := "list") (U := "int") (by decide) ⟨_, e, rfl⟩ (fun s' => typeIs_int s' k t) noFill_list_mul F.fills_int_mul F.slot_int_rmul repeat_list F.slot_int_index.lookup
    (call_meets F.slot_int_rmul (typeIs_int s k t) F.entry_int_rmul (F.args_int_rmul_2 _ _) (int___rmul___int_list k t l its.toArray n)
      ⟨e, rfl, ⟨_, e, rfl⟩, call_meets F.slot_list_mul ⟨_, e, rfl⟩ F.entry_list_mul (F.args_list_mul_2 _ _) (AutoListH.list___mul___list_int_3 l its.toArray n k t hfit hcap hlong) ⟨e, ?_⟩⟩)
  rw [hnew]
  exact ⟨.ref _, _, I.lnew (t' := s.toks) (r.rep k.toNat) (by rw [len_rep, Nat.mul_comm]; exact hz), rfl, q _ I.fresh⟩

/-! ### del xs[i] -/
end

/-! ### xs[a:b] = ys -/
section
variable {prog : Program} {w : World} {A : Around} {E : Value → Shared → Prop} {s : Shared}
end

section
variable {X : Cx}
end
end L2

namespace L2
open PySem PySem.Spec PyProof.Rows

theorem Vals.ints : ∀ {ns : List Int} {us : List Value}, Vals (ns.map V.int) us → IntsAre us ns
  | [], us, h => by
    rw [List.map_nil] at h
    cases h
    exact IntsAre.nil
  | n :: ns, us, h => by
    rw [List.map_cons] at h
    cases h with
    | cons r t =>
      obtain ⟨k, rfl⟩ := r
      exact IntsAre.cons n k (Vals.ints t)
theorem Vals.strs : ∀ {xs : List Str} {us : List Value}, Vals (xs.map V.str) us → StrsAre us xs
  | [], us, h => by
    rw [List.map_nil] at h
    cases h
    exact StrsAre.nil
  | x :: xs, us, h => by
    rw [List.map_cons] at h
    cases h with
    | cons r t =>
      obtain ⟨k, rfl⟩ := r
      exact StrsAre.cons x k (Vals.strs t)
theorem Vals.bls : ∀ {bs : List Bool} {us : List Value}, Vals (bs.map V.bl) us → us = bs.map Value.bool
  | [], us, h => by
    rw [List.map_nil] at h
    cases h
    rfl
  | b :: bs, us, h => by
    rw [List.map_cons] at h
    cases h with
    | cons r t =>
      cases r
      rw [Vals.bls t, List.map_cons]
theorem Vals.ref1 {a : Addr} {us : List Value} (r : Vals [V.ref a] us) : us = [Value.ref a] := by
  cases r with
  | cons r t =>
    cases t
    cases r
    rfl
/-! ### the library's walks over a list of ints, kept objects alone -/
section
variable {prog : Program} {w : World} {A : Around} {E : Value → Shared → Prop} {s : Shared} {l : Addr} {its : List Value} {ns : List Int} {Q : Value → Shared → Prop}
end

/-! ### the calls, by values (CallR of 03t; MtR of 06l) -/
section
variable {X : Cx}
/-! sorted, sort (fewer than 64 items: the library's own bound) -/
end

/-! ### list.index, flat items -/
section
variable {X : Cx}
end

/-! ### type(x) of an own instance; is, is not of a module's class -/
section
variable {X : Cx}
end

/-! ### any(xs), all(xs) of a list of bools -/
theorem iter_any {prog : Program} {w : World} {A : Around} {E : Value → Shared → Prop} {s : Shared} {l : Addr} {items : Array Value} {Q : Value → Shared → Prop} (hl : s.heap.IsList l items)
    (h : ∀ s₂ : Shared, s₂ = { s with heap := s.heap.push { cls := .type "list_iterator", data := .fields #[.ref l, .int 0 0] } } →
      (s₂.heap.IsListIter s.heap.objs.size l 0 ∧ s₂.heap.IsList l items) → l ≠ s.heap.objs.size → Q (.ref s.heap.objs.size) s₂) : wpAny (model prog w) A (pyIter (.ref l)) Q E s := by
  have hlt : l < s.heap.objs.size := by obtain ⟨_, e, _⟩ := hl; exact Heap.lt_size e
  exact wpAny_pyIter_list hl (h _ rfl ⟨⟨_, Heap.get?_push_size _ rfl, rfl, rfl⟩, hl.push _⟩ (Nat.ne_of_lt hlt))
theorem truth_bools {prog : Program} {w : World} {A : Around} {bs : List Bool} {its : List Value} (e : its = bs.map Value.bool) :
    TruthOf prog w A (fun i v => its.toArray[i]? = some v) (fun i => bs.getD i false) := fun i v s Q E hv hq => by
  have hv' : its[i]? = some v := by simpa using hv
  rw [e, List.getElem?_map] at hv'
  obtain ⟨b, hb, rfl⟩ := Option.map_eq_some_iff.mp hv'
  have hg : bs.getD i false = b := by rw [List.getD_eq_getElem?_getD, hb] <;> rfl
  have hq' : Q (bs.getD i false) s := hq
  rw [hg] at hq'
  exact wpAny_truthy_bool hq'
theorem all_range : ∀ bs : List Bool, (List.range bs.length).all (fun i => bs.getD i false) = bs.all id
  | [] => rfl
  | b :: bs => by
    rw [List.length_cons, List.range_succ_eq_map, List.all_cons, List.all_map, List.all_cons, ← all_range bs]
    all_goals rfl
section
variable {X : Cx}
def rAll (K : PySem.W.Frag) : List V → Hp → VK → Prop := fun vs H Q => ∃ (a : Addr) (bs : List Bool), vs = [V.ref a] ∧ SqL K H a (bs.map V.bl) ∧ Q (.bl (bs.all id)) H
theorem cr_all (hc : X.calm = true) : CallR X (.builtin "all") (rAll X.K) := by
  intro pins s σ H vs us Q I r h
  obtain ⟨a, bs, rfl, hs, q⟩ := h
  obtain ⟨its, rv, hl, _⟩ := I.list hs
  rw [Vals.ref1 r]
  have hb := rv.bls
  refine call_all_walk (iter_any hl.isList fun s₂ e2 st hne => ?_)
  subst e2
  refine ⟨_, _, _, _, _, _, _, rfl, Walks.list (A := X.A.in1) (I.ok.hd hc) _ a hne its.toArray, st, truth_bools hb, fun h' tk hk => ?_⟩
  refine ⟨.bl _, H, I.kept fun b o eo => hk b o (fun hmem => ?_) (Heap.get?_push_of_some _ eo), ?_, q⟩
  · rcases List.mem_cons.mp hmem with e1 | hmem
    · exact absurd (e1 ▸ Heap.lt_size eo) (Nat.lt_irrefl _)
    · cases hmem
  · show Value.bool _ = Value.bool _
    rw [← all_range, hb, List.size_toArray, List.length_map]
end

/-! ### == and != of data at any depth: none, bools, ints, texts, lists, tuples -/
mutual
inductive Dp (K : PySem.W.Frag) (H : Hp) : V → PyData → Prop
  | non : Dp K H .non .none
  | bl (b : Bool) : Dp K H (.bl b) (.bool b)
  | int (i : Int) : Dp K H (.int i) (.int i)
  | str (x : Str) : Dp K H (.str x) (.str x)
  | lst {a : Addr} {xs : List V} {ds : List PyData} : SqL K H a xs → DpAll K H xs ds → Dp K H (.ref a) (.list ds)
  | tup {a : Addr} {xs : List V} {ds : List PyData} : SqT K H a xs → DpAll K H xs ds → Dp K H (.ref a) (.tuple ds)
inductive DpAll (K : PySem.W.Frag) (H : Hp) : List V → List PyData → Prop
  | nil : DpAll K H [] []
  | cons {v : V} {vs : List V} {d : PyData} {ds : List PyData} : Dp K H v d → DpAll K H vs ds → DpAll K H (v :: vs) (d :: ds)
end
section
variable {X : Cx} {pins : List (Addr × Obj)} {σ : St} {H : Hp} {s : Shared}
mutual
theorem Dp.reads (I : Inv X pins σ H s) : ∀ (d : PyData) (v : V) (u : Value), Dp X.K H v d → RelV v u → ∃ as, Reads s.heap u d as
  | .none, _, _, h, r => by
    cases h
    cases r
    exact ⟨_, Reads.none⟩
  | .bool b, _, _, h, r => by
    cases h
    cases r
    exact ⟨_, Reads.bool b⟩
  | .int i, _, _, h, r => by
    cases h
    obtain ⟨t, rfl⟩ := r
    exact ⟨_, Reads.int i t⟩
  | .str x, _, _, h, r => by
    cases h
    obtain ⟨t, rfl⟩ := r
    exact ⟨_, Reads.str x t⟩
  | .list ds, _, _, h, r => by
    cases h with
    | lst hs ha =>
      cases r
      obtain ⟨its, rv, ⟨o, n, ho, hc, _, hd⟩, _⟩ := I.list hs
      obtain ⟨as, hr⟩ := Dp.readsAll I ds _ its ha rv
      exact ⟨_, Reads.list ho hc hd hr⟩
  | .tuple ds, _, _, h, r => by
    cases h with
    | tup hs ha =>
      cases r
      obtain ⟨its, rv, ⟨o, ho, hc, n, hd⟩, _⟩ := I.tuple hs
      obtain ⟨as, hr⟩ := Dp.readsAll I ds _ its ha rv
      exact ⟨_, Reads.tuple ho hc hd hr⟩
  | .dict _, _, _, h, _ => by cases h
theorem Dp.readsAll (I : Inv X pins σ H s) : ∀ (ds : List PyData) (vs : List V) (us : List Value), DpAll X.K H vs ds → Vals vs us → ∃ as, ReadsAll s.heap us ds as
  | [], _, _, h, r => by
    cases h
    cases r
    exact ⟨_, ReadsAll.nil⟩
  | d :: ds, _, _, h, r => by
    cases h with
    | cons h1 h2 =>
      cases r with
      | cons r1 r2 =>
        obtain ⟨as, q1⟩ := Dp.reads I d _ _ h1 r1
        obtain ⟨bs, q2⟩ := Dp.readsAll I ds _ _ h2 r2
        exact ⟨_, ReadsAll.cons q1 q2⟩
end
end
section
variable {X : Cx}
def rEqD (K : PySem.W.Frag) : R2 := fun x y H Q => ∃ d e, Dp K H x d ∧ Dp K H y e ∧ SeqAt.shaped d = true ∧ SeqAt.shaped e = true ∧ Q (.bl (PyData.eqv d e)) H
def rNeD (K : PySem.W.Frag) : R2 := fun x y H Q => ∃ d e, Dp K H x d ∧ Dp K H y e ∧ SeqAt.shaped d = true ∧ SeqAt.shaped e = true ∧ Q (.bl (!PyData.eqv d e)) H
theorem op_eqD (hu : X.A.units + 64 < cLine) : OpR X (compareOp .Eq) (rEqD X.K) := by
  intro pins s σ H x y v u Q I rx ry h
  obtain ⟨d, e, hd, he, sd, se, q⟩ := h
  obtain ⟨as, r1⟩ := Dp.reads I d x v hd rx
  obtain ⟨bs, r2⟩ := Dp.reads I e y u he ry
  exact SeqAt.compareEq_shaped r1 r2 sd se hu ⟨.bl _, H, I, rfl, q⟩
theorem op_neD (hu : X.A.units + 64 < cLine) : OpR X (compareOp .NotEq) (rNeD X.K) := by
  intro pins s σ H x y v u Q I rx ry h
  obtain ⟨d, e, hd, he, sd, se, q⟩ := h
  obtain ⟨as, r1⟩ := Dp.reads I d x v hd rx
  obtain ⟨bs, r2⟩ := Dp.reads I e y u he ry
  exact SeqAt.compareNe_shaped r1 r2 sd se hu ⟨.bl _, H, I, rfl, q⟩
end
end L2

namespace L2
open PySem PySem.Spec PyProof.Rows
abbrev CellAt (h : Heap) (c : Addr) (v : Option Value) : Prop := h.IsCell c v
def relS (scope sc : Scope) : Scope :=
  { scope with names := scope.names.map fun (n, k) => if (k == .free && sc.kind == .function && sc.names.lookup n == some .cell) then (n, .cell) else (n, k) }

def cloFrom (cells : List (Str × Addr)) : List (Str × NameKind) → List (Str × Addr) → List (Str × Addr)
  | [], acc => acc
  | (n, k) :: r, acc => if k == .free then cloFrom cells r ((n, (cells.lookup n).getD 0) :: acc) else cloFrom cells r acc

theorem closure_loop (env : Env) (f : Str × NameKind → List (Str × Addr) → Sem (ForInStep (List (Str × Addr))))
    (hf : ∀ n k c, f (n, k) c = if k == .free then (do let a ← cellOf env n; pure (.yield ((n, a) :: c))) else pure (.yield c)) :
    ∀ (names : List (Str × NameKind)) (acc : List (Str × Addr)), (∀ y ∈ names, y.2 = .free → ∃ c, env.cells.lookup y.1 = some c) → forIn names acc f = pure (cloFrom env.cells names acc)
  | [], acc, _ => by rw [List.forIn_nil]; rfl
  | (n, k) :: r, acc, h => by
    rw [List.forIn_cons, hf]
    have ih := fun acc => closure_loop env f hf r acc fun y hy => h y (List.mem_cons_of_mem _ hy)
    unfold cloFrom
    by_cases hk : (k == NameKind.free) = true
    · rw [if_pos hk, if_pos hk]
      obtain ⟨c, hc⟩ := h (n, k) List.mem_cons_self (by simpa using hk)
      have e : cellOf env n = pure c := by unfold cellOf; rw [hc]
      rw [e]
      have e2 : (env.cells.lookup n).getD 0 = c := by rw [hc]; rfl
      rw [e2]
      exact ih _
    · rw [if_neg hk, if_neg hk]
      exact ih _
theorem closure_ok {scope : Scope} {env : Env} (h : ∀ y ∈ scope.names, y.2 = .free → ∃ c, env.cells.lookup y.1 = some c) : closureFor scope env = pure (cloFrom env.cells scope.names []) := by
  simp only [closureFor]
  rw [closure_loop env _ (fun n k c => rfl) scope.names [] h]
  rfl

theorem mem_lookup {α : Type} : ∀ {l : List (Str × α)} {n : Str} {c : α}, (n, c) ∈ l → ∃ c', l.lookup n = some c'
  | (k, v) :: r, n, c, h => by
    rw [List.lookup_cons]
    cases hb : n == k with
    | true => exact ⟨_, rfl⟩
    | false =>
      rcases List.mem_cons.mp h with e | h
      · cases e; simp at hb
      · exact mem_lookup h

theorem cloFrom_mem {cells : List (Str × Addr)} : ∀ {names : List (Str × NameKind)} {acc : List (Str × Addr)} {n : Str} {c : Addr}, (n, c) ∈ cloFrom cells names acc → (n, c) ∈ acc ∨ ((n, .free) ∈ names ∧ c = (cells.lookup n).getD 0)
  | [], _, _, _, h => .inl h
  | (m, k) :: r, acc, n, c, h => by
    unfold cloFrom at h
    split at h
    · rename_i hk
      have hk : k = .free := by simpa using hk
      rcases cloFrom_mem h with h | ⟨h1, h2⟩
      · rcases List.mem_cons.mp h with e | h
        · cases e; exact .inr ⟨hk ▸ List.mem_cons_self, rfl⟩
        · exact .inl h
      · exact .inr ⟨List.mem_cons_of_mem _ h1, h2⟩
    · rcases cloFrom_mem h with h | ⟨h1, h2⟩
      · exact .inl h
      · exact .inr ⟨List.mem_cons_of_mem _ h1, h2⟩
theorem cloFrom_acc {cells : List (Str × Addr)} : ∀ {names : List (Str × NameKind)} {acc : List (Str × Addr)} {p : Str × Addr}, p ∈ acc → p ∈ cloFrom cells names acc
  | [], _, _, h => h
  | (m, k) :: r, acc, p, h => by
    unfold cloFrom
    split
    · exact cloFrom_acc (List.mem_cons_of_mem _ h)
    · exact cloFrom_acc h
theorem cloFrom_has {cells : List (Str × Addr)} : ∀ {names : List (Str × NameKind)} {acc : List (Str × Addr)} {n : Str}, (n, .free) ∈ names → (n, (cells.lookup n).getD 0) ∈ cloFrom cells names acc
  | (m, k) :: r, acc, n, h => by
    unfold cloFrom
    rcases List.mem_cons.mp h with e | h
    · cases e
      exact cloFrom_acc List.mem_cons_self
    · split
      · exact cloFrom_has h
      · exact cloFrom_has h

theorem cells_mem : ∀ {names : List (Str × NameKind)} {h : Heap} {acc : List (Str × Addr)} {x : Str} {c : Addr}, (x, c) ∈ cellsFrom h.objs.size names acc →
    (x, c) ∈ acc ∨ ((x, .cell) ∈ names ∧ h.objs.size ≤ c ∧ CellAt (pushCells h names) c none)
  | [], _, _, _, _, h => .inl h
  | (n, k) :: r, h, acc, x, c, hm => by
    unfold cellsFrom at hm
    unfold pushCells
    split at hm
    · rename_i hk
      rw [if_pos hk]
      have hk : k = .cell := by simpa using hk
      rw [← Heap.size_push h { cls := .type "cell", data := .cell none }] at hm
      rcases cells_mem hm with hm | ⟨h1, h2, h3⟩
      · rcases List.mem_cons.mp hm with e | hm
        · cases e
          exact .inr ⟨hk ▸ List.mem_cons_self, Nat.le_refl _, _, pushCells_keeps r _ _ _ (Heap.get?_push_size _ rfl), rfl⟩
        · exact .inl hm
      · rw [Heap.size_push] at h2
        exact .inr ⟨List.mem_cons_of_mem _ h1, Nat.le_of_succ_le h2, h3⟩
    · rename_i hk
      rw [if_neg hk]
      rcases cells_mem hm with hm | ⟨h1, h2, h3⟩
      · exact .inl hm
      · exact .inr ⟨List.mem_cons_of_mem _ h1, h2, h3⟩
theorem cells_acc : ∀ {names : List (Str × NameKind)} {n : Nat} {acc : List (Str × Addr)} {p : Str × Addr}, p ∈ acc → p ∈ cellsFrom n names acc
  | [], _, _, _, h => h
  | (m, k) :: r, n, acc, p, h => by
    unfold cellsFrom
    split
    · exact cells_acc (List.mem_cons_of_mem _ h)
    · exact cells_acc h
theorem cells_has : ∀ {names : List (Str × NameKind)} {n : Nat} {acc : List (Str × Addr)} {x : Str}, (x, .cell) ∈ names → ∃ c, (x, c) ∈ cellsFrom n names acc
  | (m, k) :: r, n, acc, x, h => by
    unfold cellsFrom
    rcases List.mem_cons.mp h with e | h
    · cases e
      exact ⟨n, cells_acc List.mem_cons_self⟩
    · split
      · exact cells_has h
      · exact cells_has h
theorem cells_inj : ∀ {names : List (Str × NameKind)} {h : Heap} {acc : List (Str × Addr)} {x y : Str} {c : Addr}, (∀ p ∈ acc, p.2 < h.objs.size) → (∀ x y c, (x, c) ∈ acc → (y, c) ∈ acc → x = y) →
    (x, c) ∈ cellsFrom h.objs.size names acc → (y, c) ∈ cellsFrom h.objs.size names acc → x = y
  | [], _, _, _, _, _, _, hi, h1, h2 => hi _ _ _ h1 h2
  | (n, k) :: r, h, acc, x, y, c, hl, hi, h1, h2 => by
    unfold cellsFrom at h1 h2
    split at h1
    · rename_i hk
      rw [if_pos hk] at h2
      rw [← Heap.size_push h { cls := .type "cell", data := .cell none }] at h1 h2
      refine cells_inj (h := h.push _) (fun p hp => ?_) (fun x y c a b => ?_) h1 h2
      · rw [Heap.size_push]
        rcases List.mem_cons.mp hp with rfl | hp
        · exact Nat.lt_succ_self _
        · exact Nat.lt_succ_of_lt (hl p hp)
      · rcases List.mem_cons.mp a with e | a <;> rcases List.mem_cons.mp b with e' | b
        · cases e; cases e'; rfl
        · cases e; exact absurd (hl _ b) (Nat.lt_irrefl _)
        · cases e'; exact absurd (hl _ a) (Nat.lt_irrefl _)
        · exact hi _ _ _ a b
    · rename_i hk
      rw [if_neg hk] at h2
      exact cells_inj hl hi h1 h2

theorem newEnv_comp {M : Model} {A : Around} {E : Value → Shared → Prop} {s : Shared} {scope : Scope} {globals : Addr} {closure : List (Str × Addr)} {qual : Str} {func : Option Addr} {code : Value} {around : Env} {builtins : Addr} {Q : Env → Shared → Prop}
    (h : Q (newEnv scope s.heap.objs.size globals (cellsFrom (s.heap.objs.size + 1) scope.names closure) qual func code (some around) builtins)
      { s with heap := pushCells (s.heap.push { cls := .type "dict", data := .dict #[] }) scope.names }) :
    wpAny M A (newFunctionEnv scope globals closure [] qual func code (some around) builtins) Q E s := by
  simp only [newFunctionEnv, Option.isSome_some, if_true]
  refine wpAny_bind (wpAny_alloc ?_)
  refine wpAny_bind (wpAny_layCells _ (fun n k c => rfl) scope.names closure _ _ ?_)
  rw [show ({ s with heap := s.heap.push { cls := .type "dict", data := .dict #[] } } : Shared).heap.objs.size = s.heap.objs.size + 1 from Heap.size_push ..]
  rw [List.forIn_nil]
  exact wpAny_bind (wpAny_pure (wpAny_pure h))

/-- every name of the written scope, in the scope that runs -/
theorem lookup_relS {sc : Scope} : ∀ {names : List (Str × NameKind)} {x : Str} {k : NameKind},
    (names.map fun (n, k) => if (k == NameKind.free && sc.kind == .function && sc.names.lookup n == some .cell) then (n, NameKind.cell) else (n, k)).lookup x = some k →
    ∃ k', names.lookup x = some k' ∧ (k = k' ∨ (k' = .free ∧ k = .cell))
  | [], _, _, h => by simp at h
  | (n, k₀) :: r, x, k, h => by
    have ih := @lookup_relS sc r x k
    have h' : List.lookup x ((if (k₀ == NameKind.free && sc.kind == .function && sc.names.lookup n == some .cell) = true then (n, NameKind.cell) else (n, k₀)) :: (r.map _)) = some k := h
    cases hx : x == n with
    | true =>
      simp only [List.lookup_cons, hx]
      by_cases hc : (k₀ == NameKind.free && sc.kind == .function && sc.names.lookup n == some .cell) = true
      · rw [if_pos hc] at h'
        simp only [List.lookup_cons, hx] at h'
        cases h'
        simp only [Bool.and_eq_true, beq_iff_eq] at hc
        exact ⟨k₀, rfl, .inr ⟨hc.1.1, rfl⟩⟩
      · rw [if_neg hc] at h'
        simp only [List.lookup_cons, hx] at h'
        cases h'
        exact ⟨_, rfl, .inl rfl⟩
    | false =>
      simp only [List.lookup_cons, hx]
      by_cases hc : (k₀ == NameKind.free && sc.kind == .function && sc.names.lookup n == some .cell) = true
      · rw [if_pos hc] at h'
        simp only [List.lookup_cons, hx] at h'
        exact ih h'
      · rw [if_neg hc] at h'
        simp only [List.lookup_cons, hx] at h'
        exact ih h'
/-- the names of a comprehension's block: its own (with their places in N), or captured -/
structure BlkOk (N : List Str) (sc scope : Scope) (own : List (Str × Nat)) : Prop where
  kind : scope.kind = .function
  uniq : ∀ y ∈ scope.names, scope.names.lookup y.1 = some y.2
  ix : ∀ p ∈ own, N[p.2]? = some p.1
  free : ∀ y ∈ scope.names, y.2 = .free → sc.names.lookup y.1 = some .cell ∨ sc.names.lookup y.1 = some .free
  own : ∀ y ∈ scope.names, y.2 = .local ∨ y.2 = .cell → y.1 ∈ own.map (·.1) ∨ y.1 ∉ N
/-- the slots of the block's own names forgotten -/
def wipe (σ : St) : List Nat → St
  | [] => σ
  | v :: vs => (wipe σ vs).set v none
theorem wipe_length (σ : St) : ∀ vs : List Nat, (wipe σ vs).length = σ.length
  | [] => rfl
  | v :: vs => by unfold wipe; rw [List.length_set, wipe_length σ vs]
theorem wipe_some {σ : St} {i : Nat} {x : V} : ∀ {vs : List Nat}, (wipe σ vs)[i]? = some (some x) → σ[i]? = some (some x) ∧ i ∉ vs
  | [], h => ⟨h, by simp⟩
  | v :: vs, h => by
    unfold wipe at h
    by_cases hi : v = i
    · subst hi
      by_cases hv : v < (wipe σ vs).length
      · rw [List.getElem?_set_self hv] at h; cases h
      · rw [List.getElem?_eq_none (by simpa using hv)] at h; cases h
    · rw [List.getElem?_set_ne hi] at h
      obtain ⟨h1, h2⟩ := wipe_some h
      exact ⟨h1, by simp only [List.mem_cons, not_or]; exact ⟨fun e => hi e.symm, h2⟩⟩

/-- the context of a block that starts at s, its iterator's objects at fp -/
abbrev Cx.blk (X : Cx) (s : Shared) (H : Hp) (scope : Scope) (cenv : Env) (fp : List Addr) : Cx := { X with s_0 := s, H_0 := H, env := cenv, outer := X.stack, ex := fp, fn := fun x => scope.names.lookup x == some .cell, pn := [], xe := fun _ _ => False }
section
variable {X : Cx} {pins : List (Addr × Obj)} {σ : St} {H : Hp} {s : Shared}
theorem block_start {scope : Scope} {own : List (Str × Nat)} {fp : List Addr} (I : Inv X pins σ H s) (ok : BlkOk X.N X.env.scope scope own) (hN : X.N.Nodup) (hfp : ∀ b ∈ fp, FpOk X pins H b ∧ b < s.heap.objs.size) :
    Inv (X.blk s H scope (compEnvC scope (cellsFrom (s.heap.objs.size + 1) scope.names (cloFrom X.env.cells scope.names [])) s.heap.objs.size X.env) fp) [] (wipe σ (own.map (·.2))) H { s with heap := pushCells (s.heap.push { cls := .type "dict", data := .dict #[] }) scope.names } := by
  have hfree : ∀ y ∈ scope.names, y.2 = .free → ∃ c, X.env.cells.lookup y.1 = some c := fun y hy e => by
    rcases ok.free y hy e with k | k
    · exact I.ok.has _ (.inl k)
    · exact I.ok.has _ (.inr k)
  generalize hcenv : compEnvC scope (cellsFrom (s.heap.objs.size + 1) scope.names (cloFrom X.env.cells scope.names [])) s.heap.objs.size X.env = cenv
  have kp : ∀ b o, s.heap.get? b = some o → (pushCells (s.heap.push { cls := .type "dict", data := .dict #[] }) scope.names).get? b = some o := fun b o e => pushCells_keeps _ _ _ _ (Heap.get?_push_of_some _ e)
  have hL : cenv.locals = s.heap.objs.size := by rw [← hcenv]; rfl
  have hcl : cenv.cells = cellsFrom (s.heap.objs.size + 1) scope.names (cloFrom X.env.cells scope.names []) := by rw [← hcenv]; rfl
  have hsc : cenv.scope = relS scope X.env.scope := by rw [← hcenv]; rfl
  rw [← Heap.size_push s.heap { cls := .type "dict", data := .dict #[] }] at hcl
  have cm : ∀ {y c}, (y, c) ∈ cloFrom X.env.cells scope.names [] → X.env.cells.lookup y = some c ∧ c < s.heap.objs.size := fun {y c} hm => by
    rcases cloFrom_mem hm with hm | ⟨h1, rfl⟩
    · cases hm
    · obtain ⟨c, hc⟩ := hfree _ h1 rfl
      rw [hc]
      obtain ⟨w, z⟩ := I.cell _ _ hc
      exact ⟨rfl, z.lt⟩
  have mem : ∀ {y c}, cenv.cells.lookup y = some c → (X.env.cells.lookup y = some c ∧ c < s.heap.objs.size) ∨ (s.heap.objs.size + 1 ≤ c ∧ CellAt (pushCells (s.heap.push { cls := .type "dict", data := .dict #[] }) scope.names) c none) := fun {y c} e => by
    rw [hcl] at e
    rcases cells_mem (PySem.mem_of_lookup e) with hm | ⟨_, h2, h3⟩
    · exact .inl (cm hm)
    · rw [Heap.size_push] at h2; exact .inr ⟨h2, h3⟩
  have look : ∀ {y}, scope.names.lookup y = some .free → ∃ c, cenv.cells.lookup y = some c ∧ X.env.cells.lookup y = some c := fun {y} hl => by
    have hy : (y, NameKind.free) ∈ scope.names := PySem.mem_of_lookup hl
    obtain ⟨c', e'⟩ := mem_lookup (cells_acc (names := scope.names) (n := (s.heap.push { cls := .type "dict", data := .dict #[] }).objs.size) (cloFrom_has (cells := X.env.cells) (acc := []) hy))
    rw [← hcl] at e'
    refine ⟨c', e', ?_⟩
    rw [hcl] at e'
    rcases cells_mem (PySem.mem_of_lookup e') with hm | ⟨h1, _, _⟩
    · exact (cm hm).1
    · have := ok.uniq _ h1
      rw [hl] at this; cases this
  have okB : (X.blk s H scope cenv fp).Ok := by
    refine ⟨I.ok.mod, by show cenv.scope.kind = _; rw [hsc]; exact ok.kind, by show cenv.globals = _; rw [← hcenv]; exact I.ok.glob, by show cenv.builtins = _; rw [← hcenv]; exact I.ok.blt, by show s.heap.objs.size ≤ cenv.locals; rw [hL]; exact Nat.le_refl _,
      fun y z c e1 e2 => ?_, fun y hy => ?_, fun y c z e => ?_, I.ok.hd, I.ok.frames, .inl rfl, fun b hb => ⟨?_, fun y c e z => ?_⟩, I.bs, Nat.le_trans I.ok.bsz I.sz, fun b o e hb => ?_, fun b hb z => ?_, I.stack, I.stkFree⟩
    · have e1 : cenv.cells.lookup y = some c := e1
      have e2 : cenv.cells.lookup z = some c := e2
      rw [hcl] at e1 e2
      refine cells_inj (fun p hp => ?_) (fun y z c a b => I.ok.inj y z c (cm a).1 (cm b).1) (PySem.mem_of_lookup e1) (PySem.mem_of_lookup e2)
      rw [Heap.size_push]
      exact Nat.lt_succ_of_lt (cm (y := p.1) (c := p.2) hp).2
    · show ∃ c, cenv.cells.lookup y = some c
      have key : ∀ k, cenv.kindOf y = some k → (k = .cell ∨ k = .free) → ∃ c, cenv.cells.lookup y = some c := fun k hk hk' => by
        unfold Env.kindOf at hk
        rw [hsc] at hk
        obtain ⟨k', e, r⟩ := lookup_relS hk
        have : k' = .cell ∨ k' = .free := by
          rcases r with rfl | ⟨rfl, _⟩
          · exact hk'
          · exact .inr rfl
        rcases this with rfl | rfl
        · obtain ⟨c, hm⟩ := cells_has (n := (s.heap.push { cls := .type "dict", data := .dict #[] }).objs.size) (acc := cloFrom X.env.cells scope.names []) (PySem.mem_of_lookup e)
          obtain ⟨c', e'⟩ := mem_lookup hm
          exact ⟨c', by rw [hcl]; exact e'⟩
        · obtain ⟨c, h1, _⟩ := look e
          exact ⟨c, h1⟩
      rcases hy with hy | hy
      · exact key _ hy (.inl rfl)
      · exact key _ hy (.inr rfl)
    · have z : (scope.names.lookup y == some NameKind.cell) = true := z
      have z : scope.names.lookup y = some .cell := by simpa using z
      have e : cenv.cells.lookup y = some c := e
      rw [hcl] at e
      rcases cells_mem (PySem.mem_of_lookup e) with hm | ⟨_, h2, _⟩
      · rcases cloFrom_mem hm with hm | ⟨h1, _⟩
        · cases hm
        · have q := ok.uniq _ h1
          rw [z] at q; cases q
      · rw [Heap.size_push] at h2
        exact Nat.le_of_succ_le h2
    · show b ≠ cenv.locals
      rw [hL]; exact Nat.ne_of_lt (hfp b hb).2
    · have e : cenv.cells.lookup y = some c := e
      rcases mem e with ⟨h1, _⟩ | ⟨h1, _⟩
      · exact (hfp b hb).1.2.2.2.2.1 y c h1 z
      · have h2 : s.heap.objs.size + 1 ≤ b := by rw [← z]; exact h1
        exact absurd (Nat.lt_of_lt_of_le (hfp b hb).2 (Nat.le_of_succ_le h2)) (Nat.lt_irrefl _)
    · rcases (hfp b hb).1.2.2.2.1 with z | z
      · exact I.ok.noex b o e z
      · exact absurd (Nat.lt_of_lt_of_le (Heap.lt_size e) (Nat.le_trans I.ok.bsz z)) (Nat.lt_irrefl _)
    · rcases List.mem_cons.mp (I.stkSub b z) with z | z
      · exact (hfp b hb).1.2.1 z
      · exact (hfp b hb).1.2.2.1 z
  refine ⟨okB, rfl, I.bare, Un.kept kp, ⟨fun _ => none, ?_, fun i y av e1 e2 e3 => ?_⟩, fun y c e => ?_, ?_, fun y c e => ?_, fun p hp => ?_, I.hok.kept kp, by rw [wipe_length]; exact I.len⟩
  · show Heap.Ns _ cenv.locals _
    rw [hL]
    exact Heap.Ns.keeps (Heap.Ns.new ..) fun b o e => pushCells_keeps _ _ _ _ e
  · obtain ⟨e2, hne⟩ := wipe_some e2
    have hfr : scope.names.lookup y = some .free ∧ (cenv.kindOf y = some .cell ∨ cenv.kindOf y = some .free) := by
      have key : ∀ k, cenv.scope.names.lookup y = some k → k = .local ∨ k = .cell ∨ k = .free → scope.names.lookup y = some .free ∧ (cenv.kindOf y = some .cell ∨ cenv.kindOf y = some .free) := fun k hk hk' => by
        have hk0 := hk
        rw [hsc] at hk
        obtain ⟨k', e, r⟩ := lookup_relS hk
        have no : ¬ (k' = .local ∨ k' = .cell) := fun hh => by
          rcases ok.own _ (PySem.mem_of_lookup e) hh with e' | e'
          · obtain ⟨p, hp, hpy⟩ := List.mem_map.mp e'
            have e3 := ok.ix p hp
            have : p.1 = y := hpy
            rw [this] at e3
            exact hne (List.mem_map.mpr ⟨p, hp, nodup_ix hN e3 e1⟩)
          · exact e' (List.mem_of_getElem? e1)
        rcases r with rfl | ⟨rfl, rfl⟩
        · rcases hk' with rfl | rfl | rfl
          · exact absurd (.inl rfl) no
          · exact absurd (.inr rfl) no
          · exact ⟨e, .inr hk0⟩
        · exact ⟨e, .inl hk0⟩
      have e3 : Vis cenv.scope y := e3
      rcases e3 with e3 | e3 | e3
      · exact key _ e3 (.inl rfl)
      · exact key _ e3 (.inr (.inl rfl))
      · exact key _ e3 (.inr (.inr rfl))
    obtain ⟨m, hn, hl⟩ := I.loc
    have hvis : Vis X.env.scope y := (ok.free _ (PySem.mem_of_lookup hfr.1) rfl).elim (fun k => .inr (.inl k)) (fun k => .inr (.inr k))
    obtain ⟨w, r, q⟩ := hl i y av e1 e2 hvis
    refine ⟨w, r, .inr ⟨hfr.2, ?_⟩⟩
    obtain ⟨c, h1, h2⟩ := look hfr.1
    rcases q with ⟨k, _⟩ | ⟨_, c', e', z⟩
    · have k : X.env.scope.names.lookup y = some .local := k
      rcases ok.free _ (PySem.mem_of_lookup hfr.1) rfl with k' | k' <;> rw [show X.env.scope.names.lookup y = _ from k'] at k <;> cases k
    · rw [h2] at e'; cases e'
      exact ⟨c, h1, z.keeps kp⟩
  · have e : cenv.cells.lookup y = some c := e
    rcases mem e with ⟨h1, _⟩ | ⟨_, z⟩
    · obtain ⟨w, z⟩ := I.cell y c h1
      exact ⟨w, z.keeps kp⟩
    · exact ⟨_, z⟩
  · show H cenv.locals = none
    rw [hL]; exact I.hok.fresh (Nat.le_refl _)
  · have e : cenv.cells.lookup y = some c := e
    rcases mem e with ⟨h1, _⟩ | ⟨h1, _⟩
    · exact I.freeC y c h1
    · exact I.hok.fresh (Nat.le_of_succ_le h1)
  · exact absurd (show p ∈ ([] : List (Addr × Obj)) ++ [] from hp) (by simp)

/-- an item appended to a tracked list -/
theorem app_ok {E : Value → Shared → Prop} {D : Addr} {xs : List V} {y : V} {v : Value} {Q : Value → Shared → Prop} (I : Inv X pins σ H s) (hD : H D = some (.lst xs)) (hz : xs.length < sizeLine) (r : RelV y v)
    (h : ∀ s', Inv X pins σ (upd H D (.lst (xs ++ [y]))) s' → Q .none s') : wpAny (model X.prog X.w) X.A (call (.builtin "list.append") [.ref D, v]) Q E s := by
  obtain ⟨hz', its, n, ri, e⟩ := I.hok D _ hD
  have hl := ri.length
  refine append_at (hsz := by rw [List.size_toArray]; omega) e fun h' sb ho' => ?_
  refine h { s with heap := h' } (I.write (t' := s.toks) (by rw [hD]; trivial) (.inl rfl) (fun b u hb q => (sb.2 b hb).trans q) ⟨_, ho'⟩ ⟨by rw [List.length_append]; exact hz, its ++ [v], n + 1, ri.append (.cons r .nil), ?_⟩)
  rw [ho']
  simp

/-- a clause's tests -/
def PTs (X : Cx) (ifs : List Expr) (t : TT) : Prop :=
  ∀ (pins : List (Addr × Obj)) (s : Shared) (σ : St) (H : Hp) (Q : Bool → Hp → Prop), Inv X pins σ H s → t σ H Q →
    wpAny (model X.prog X.w) X.A (forIn ifs true fun c r => if r = true then do let ok ← isTrue c X.env (eval c X.env); pure (ForInStep.yield ok) else pure (ForInStep.yield r)) (TP X pins σ Q) X.xe s
def tYes : TT := fun _ H Q => Q true H
theorem pts_nil : PTs X [] tYes := fun _ _ _ H _ I h => wpAny_tests_nil ⟨H, I, h⟩
theorem pts_one {c : Expr} {t : TT} (h : PT X c t) : PTs X [c] t := fun pins s σ H Q I hw => wpAny_tests_one (h pins s σ H Q I hw)
end

theorem thnF {α : Type} {t : Sem α} {Q Q' : α → Shared → Prop} {M : Model} {A : Around} {E : Value → Shared → Prop} {s : Shared} (h : wpAny M A t Q (fun _ _ => False) s) (hQ : ∀ a s, Q a s → Q' a s) : wpAny M A t Q' E s := wpAny_mono h hQ fun _ _ z => False.elim z

/-- the loop of a list comprehension's block, the target of any form (codeAny_compLoop_tests asks a target that no tuple goes to; statement and proof follow it, PyProof/CompMap.lean:41-61, with the step letOwnedTupleGo kept) -/
theorem compLoop_any {prog : Program} {w : World} {A : Around} {R : Result → Shared → Prop} {s : Shared} {elt target iter : Expr} {ifs : List Expr} {scope : Scope} {pos : Pos} {it acc : Value} {env : Env} (I : Nat → Shared → Prop)
    (turn : ∀ n s, I n s → wpAny (model prog w) A (pyNext it) (fun r s₁ => match r with
      | none => R (.ok .next) s₁
      | some v => wpAny (model prog w) A (letOwnedTupleGo target it v) (fun _ s₁' => wpAny (model prog w) A (assign target env v) (fun _ s₂ =>
          wpAny (model prog w) A (forIn ifs true fun c r => if r = true then do let ok ← isTrue c env (eval c env); pure (ForInStep.yield ok) else pure (ForInStep.yield r)) (fun ok s₃ =>
            if ok = true then wpAny (model prog w) A (eval elt env) (fun x s₄ =>
              wpAny (model prog w) A (call (.builtin "list.append") [acc, x]) (fun _ s₅ => ∃ m, m < n ∧ I m s₅) (notedBy (model prog w) A env fun e s' => R (.error e) s') s₄) (notedBy (model prog w) A env fun e s' => R (.error e) s') s₃
            else ∃ m, m < n ∧ I m s₃) (notedBy (model prog w) A env fun e s' => R (.error e) s') s₂) (notedBy (model prog w) A env fun e s' => R (.error e) s') s₁') (notedBy (model prog w) A env fun e s' => R (.error e) s') s₁) (notedBy (model prog w) A env fun e s' => R (.error e) s') s)
    (n : Nat) (h : I n s) :
    codeAny (model prog w) A (.compLoop (.ListComp elt [⟨target, iter, ifs, 0⟩] scope pos) 0 it acc env) R s := by
  refine codeAny_loop rfl I (fun n s hI => ?_) n h
  show wpAny _ A ((compTurn (.ListComp elt [⟨target, iter, ifs, 0⟩] scope pos) 0 it acc env).onRaise (fun x => do noteFrame x env; theTreesLotGoes x)) _ _ s
  refine wpAny_noted ?_
  rw [compTurn_list]
  refine wpAny_bind (wpAny_standAt (wpAny_bind (wpAny_mono (turn n s hI) (fun r s₁ h₁ => ?_) fun _ _ h' => h')))
  cases r with
  | none => exact wpAny_pure h₁
  | some v =>
    refine wpAny_bind (wpAny_mono h₁ (fun _ s₁' h₁' => ?_) fun _ _ h' => h')
    refine wpAny_bind (wpAny_mono h₁' (fun _ s₂ h₂ => wpAny_bind (wpAny_mono h₂ (fun ok s₃ h₃ => ?_) fun _ _ h' => h')) fun _ _ h' => h')
    cases ok with
    | false => exact wpAny_pure ⟨rfl, h₃⟩
    | true =>
      exact wpAny_bind (wpAny_bind (wpAny_mono h₃ (fun x s₄ h₄ => wpAny_bind (wpAny_mono h₄ (fun _ s₅ h₅ => wpAny_pure (wpAny_pure ⟨rfl, h₅⟩)) fun _ _ h' => h')) fun _ _ h' => h'))

section
variable {X : Cx}
/-- [elt for target in iter if ..]: D the new list; W by the turn and a measure, Nx what a turn is to reach -/
def tLc (wi : TI) (g : TG) (tt : TT) (te : TE) (vs : List Nat) : TE := fun σ H Q => wi σ H fun J H1 => ∀ D, H1 D = none → ∃ W : Nat → Nat → Hp → Prop, (∃ m, W 0 m (upd H1 D (.lst []))) ∧ ∀ i m H, W i m H →
  (J.stop i H ∧ Q (.ref D) H) ∨ (J.go i H ∧ ∃ Nx : Hp → Prop, (∀ H', Nx H' → ∃ m', m' < m ∧ W (i + 1) m' H') ∧ ∀ x H', J.yld i H x H' → g x (wipe σ vs) H' fun σ2 H2 => wipe σ2 vs = wipe σ vs ∧ tt σ2 H2 fun b H3 =>
    if b = true then te σ2 H3 fun y H4 => ∃ acc, H4 D = some (.lst acc) ∧ acc.length < sizeLine ∧ Nx (upd H4 D (.lst (acc ++ [y]))) else Nx H3)
theorem lc_core {pins : List (Addr × Obj)} {s : Shared} {σ : St} {H : Hp} {Q : VK} {elt tg iter : Expr} {ifs : List Expr} {scope : Scope} {own : List (Str × Nat)} {pos pos' : Pos} {wi : TI} {g : TG} {tt : TT} {te : TE} {use : Option (Value → Sem Unit)} {Qf : Value → Shared → Prop}
    (hc : X.calm = true) (hN : X.N.Nodup) (I : Inv X pins σ H s) (hi : PI X tg iter wi) (ok : BlkOk X.N X.env.scope scope own)
    (hg : ∀ (s : Shared) (H : Hp) (C : Addr) (cl : List (Str × Addr)) (fp : List Addr), PG (X.blk s H scope (compEnvC scope cl C X.env) fp) tg g) (ht : ∀ (s : Shared) (H : Hp) (C : Addr) (cl : List (Str × Addr)) (fp : List Addr), PTs (X.blk s H scope (compEnvC scope cl C X.env) fp) ifs tt)
    (he : ∀ (s : Shared) (H : Hp) (C : Addr) (cl : List (Str × Addr)) (fp : List Addr), PE (X.blk s H scope (compEnvC scope cl C X.env) fp) elt te) (hs : ∀ x, foldedSetIterable iter X.env x = pure x)
    (h : tLc wi g tt te (own.map (·.2)) σ H Q)
    (hRR : ∀ D C s' m H', Inv X pins σ H' s' → Q (.ref D) H' → s'.heap.Ns C m → FpOk X pins H' C → compPost (model X.prog X.w) X.A X.xe use Qf (.ref D) C (.ok .next) s') :
    wpAny (model X.prog X.w) X.A (comprehension (.ListComp elt [⟨tg, iter, ifs, 0⟩] scope pos) scope X.env pos' (newList []) false (eval iter X.env) use) Qf X.xe s := by
  have hfree : ∀ y ∈ scope.names, y.2 = .free → ∃ c, X.env.cells.lookup y.1 = some c := fun y hy e => by
    rcases ok.free y hy e with k | k
    · exact I.ok.has _ (.inl k)
    · exact I.ok.has _ (.inr k)
  refine wpAny_comprehension_free (use := use) rfl hs (closure_ok hfree) ok.kind (fun y hy e => by rw [ok.uniq y hy, e])
    (thn (hi pins s σ H _ I h) fun xv s1 hx => thn hx fun itv s2 h2 => ?_)
  obtain ⟨it, fp, tn, J, H2, e, I2, T, st2, f2, q⟩ := h2
  subst e
  refine wpAny_newObj_type (newEnv_comp ?_) (by show 0 ≤ sizeLine; decide)
  generalize hD : s2.heap.objs.size = D
  have hDn : H2 D = none := I2.hok.fresh (Nat.le_of_eq hD)
  obtain ⟨W, ⟨m0, w0⟩, turn⟩ := q D hDn
  -- the new list
  generalize hs3 : ({ s2 with heap := s2.heap.push { cls := .type "list", data := .seq ([] : List Value).toArray } } : Shared) = s3
  have I3 : Inv X pins σ (upd H2 D (.lst [])) s3 := by
    rw [← hs3]
    refine I2.laid (t' := s2.toks) (fun b o e => Heap.get?_push_of_some _ e) (Nat.le_of_eq hD) ⟨Nat.zero_le _, [], 0, .nil, ?_⟩
    rw [← hD]
    exact Heap.get?_push_size _ rfl
  have h3 : s3.heap = s2.heap.push { cls := .type "list", data := .seq ([] : List Value).toArray } := by rw [← hs3]
  have sz : ∀ b ∈ fp, b < s2.heap.objs.size := fun b hb => by
    obtain ⟨o, e, _⟩ := T.obj _ _ st2 b hb
    exact Heap.lt_size e
  have f3 : ∀ b ∈ fp, FpOk X pins (upd H2 D (.lst [])) b ∧ b < s3.heap.objs.size := fun b hb => by
    have hlt := sz b hb
    refine ⟨⟨?_, (f2 b hb).2⟩, by rw [h3, Heap.size_push]; exact Nat.lt_succ_of_lt hlt⟩
    rw [upd_ne (by rw [← hD]; exact Nat.ne_of_lt hlt)]
    exact (f2 b hb).1
  have st3 : tn 0 s3.heap := T.keep _ _ _ st2 fun b _ o e => by rw [h3]; exact Heap.get?_push_of_some _ e
  have I4 := block_start I3 ok hN f3
  have pg := hg s3 (upd H2 D (.lst [])) s3.heap.objs.size (cellsFrom (s3.heap.objs.size + 1) scope.names (cloFrom X.env.cells scope.names [])) fp
  have pt := ht s3 (upd H2 D (.lst [])) s3.heap.objs.size (cellsFrom (s3.heap.objs.size + 1) scope.names (cloFrom X.env.cells scope.names [])) fp
  have pe := he s3 (upd H2 D (.lst [])) s3.heap.objs.size (cellsFrom (s3.heap.objs.size + 1) scope.names (cloFrom X.env.cells scope.names [])) fp
  show codeAny _ _ (.compStart (.ListComp elt [⟨tg, iter, ifs, 0⟩] scope pos) 0 (.ref it) (.ref D) (compEnvC scope (cellsFrom (s3.heap.objs.size + 1) scope.names (cloFrom X.env.cells scope.names [])) s3.heap.objs.size X.env)) (compPost (model X.prog X.w) X.A X.xe use Qf (.ref D) s3.heap.objs.size) { s3 with heap := pushCells (s3.heap.push { cls := .type "dict", data := .dict #[] }) scope.names }
  have nfp : ∀ b ∈ fp, (upd H2 D (.lst [])) b = none := fun b hb => (f3 b hb).1.1
  generalize hce : compEnvC scope (cellsFrom (s3.heap.objs.size + 1) scope.names (cloFrom X.env.cells scope.names [])) s3.heap.objs.size X.env = ce at I4 pg pt pe ⊢
  have cL : ce.locals = s3.heap.objs.size := by subst hce; rfl
  generalize hH3 : upd H2 D (.lst []) = H3 at I3 I4 pg pt pe w0 nfp f3
  generalize hs4 : ({ s3 with heap := pushCells (s3.heap.push { cls := .type "dict", data := .dict #[] }) scope.names } : Shared) = s4 at I4 ⊢
  have st4 : tn 0 s4.heap := T.keep _ _ _ st3 fun b _ o e => by rw [← hs4]; exact pushCells_keeps _ _ _ _ (Heap.get?_push_of_some _ e)
  have stat : ∀ {σ' : St} {H' : Hp} {s' : Shared}, Inv (X.blk s3 H3 scope ce fp) [] σ' H' s' → (∀ b ∈ fp, H' b = none) → ∀ b ∈ fp, FpOk (X.blk s3 H3 scope ce fp) [] H' b := fun {σ' H' s'} I' hn b hb =>
    ⟨hn b hb, (I'.ok.exf b hb).1, I'.ok.exfs b hb, .inl hb, fun x c e => (I'.ok.exf b hb).2 x c e, fun p hp => absurd (show p ∈ ([] : List (Addr × Obj)) ++ [] from hp) (by simp)⟩
  have loop : codeAny (model X.prog X.w) X.A (.compLoop (.ListComp elt [⟨tg, iter, ifs, 0⟩] scope pos) 0 (.ref it) (.ref D) ce) (compPost (model X.prog X.w) X.A X.xe use Qf (.ref D) s3.heap.objs.size) s4 := by
    refine compLoop_any (fun n s' => ∃ i H', Inv (X.blk s3 H3 scope ce fp) [] (wipe σ (own.map (·.2))) H' s' ∧ tn i s'.heap ∧ (∀ b ∈ fp, H' b = none) ∧ W i n H') ?_ m0 ⟨0, H3, I4, st4, nfp, w0⟩
    rintro n s5 ⟨i, H5, I5, st5, n5, w5⟩
    rcases turn i n H5 w5 with ⟨stop, qq⟩ | ⟨go, Nx, hNx, step⟩
    · have td := T.done (X.blk s3 H3 scope ce fp) rfl rfl rfl hc i [] s5 _ H5 (fun _ _ => False) I5 (stat I5 n5) st5 stop
      refine thnF td fun r s6 ⟨hr, I6⟩ => ?_
      subst hr
      -- back in the def's context
      have I7 : Inv X pins σ H5 s6 := I3.call' (ch := fp) I6.os I6.base I6.hok I6.bare fun b hb => ⟨(f3 b hb).1.2.2.2.1, (f3 b hb).1.2.1, (f3 b hb).1.2.2.2.2.1, (f3 b hb).1.2.2.2.2.2⟩
      have nC : H5 s3.heap.objs.size = none := by
        have z : H5 ce.locals = none := I6.free
        rw [cL] at z
        exact z
      obtain ⟨m, hn, _⟩ := I6.loc
      have hn : s6.heap.Ns ce.locals m := hn
      rw [cL] at hn
      exact hRR D s3.heap.objs.size s6 m H5 I7 qq hn (I3.fpOk (Nat.le_refl _) nC)
    · have ti := T.item (X.blk s3 H3 scope ce fp) rfl rfl rfl hc i [] s5 _ H5 (fun _ _ => False) I5 (stat I5 n5) st5 go
      refine thnF ti fun r s6 ⟨u, hr, h6⟩ => ?_
      subst hr
      refine thnF h6 fun _ s7 ⟨x, H7, I7, r7, y7, st7, n7⟩ => ?_
      have I7' := I7.pinned (stat I7 n7) (T.obj _ _ st7)
      refine thnF (pg _ s7 _ H7 x u _ I7' r7 (step x H7 y7)) fun _ s8 ⟨σ8, H8, I8, hw8, q8⟩ => ?_
      refine thnF (pt _ s8 σ8 H8 _ I8 q8) fun b s9 ⟨H9, I9, q9⟩ => ?_
      -- the turn's end
      have fin : ∀ {s' : Shared} {H' : Hp}, Inv (X.blk s3 H3 scope ce fp) ([] ++ pinsAt fp s7.heap) σ8 H' s' → Nx H' → ∃ m, m < n ∧ ∃ i H', Inv (X.blk s3 H3 scope ce fp) [] (wipe σ (own.map (·.2))) H' s' ∧ tn i s'.heap ∧ (∀ b ∈ fp, H' b = none) ∧ W i m H' := fun {s' H'} I' nx => by
        obtain ⟨m', hm, w'⟩ := hNx H' nx
        have pin' : ∀ b ∈ fp, ∀ o, s7.heap.get? b = some o → s'.heap.get? b = some o ∧ H' b = none := fun b hb o e =>
          let z := I'.pin (b, o) (List.mem_append_right _ (List.mem_append_right _ (mem_pinsAt hb e)))
          ⟨z.1, z.2.1⟩
        have hl : (wipe σ (own.map (·.2))).length = σ8.length := by rw [← hw8, wipe_length]
        refine ⟨m', hm, i + 1, H', (I'.unpinned (pins := [])).weak hl (fun j v e => ?_), T.keep _ _ _ st7 fun b hb o e => (pin' b hb o e).1, fun b hb => ?_, w'⟩
        · rw [← hw8] at e
          exact (wipe_some e).1
        · obtain ⟨o, e, _⟩ := T.obj _ _ st7 b hb
          exact (pin' b hb o e).2
      cases b with
      | false =>
        simp only [Bool.false_eq_true, if_false] at q9 ⊢
        exact fin I9 q9
      | true =>
        simp only [if_true] at q9 ⊢
        refine thnF (pe _ s9 σ8 H9 _ I9 q9) fun z s10 ⟨yv, H10, I10, r10, acc, hD10, hz10, nx⟩ => ?_
        exact app_ok (X := X.blk s3 H3 scope ce fp) I10 hD10 hz10 r10 fun s11 I11 => fin I11 nx
  exact codeAny_compStart_list loop (T.self X.A 0 _ _ _ st4 loop)
/-- as a value -/
theorem pe_lc {elt tg iter : Expr} {ifs : List Expr} {scope : Scope} {own : List (Str × Nat)} {pos : Pos} {wi : TI} {g : TG} {tt : TT} {te : TE} (hc : X.calm = true) (hN : X.N.Nodup) (hi : PI X tg iter wi) (ok : BlkOk X.N X.env.scope scope own)
    (hg : ∀ (s : Shared) (H : Hp) (C : Addr) (cl : List (Str × Addr)) (fp : List Addr), PG (X.blk s H scope (compEnvC scope cl C X.env) fp) tg g) (ht : ∀ (s : Shared) (H : Hp) (C : Addr) (cl : List (Str × Addr)) (fp : List Addr), PTs (X.blk s H scope (compEnvC scope cl C X.env) fp) ifs tt)
    (he : ∀ (s : Shared) (H : Hp) (C : Addr) (cl : List (Str × Addr)) (fp : List Addr), PE (X.blk s H scope (compEnvC scope cl C X.env) fp) elt te) (hs : ∀ x, foldedSetIterable iter X.env x = pure x := by intro _; rfl) :
    PE X (.ListComp elt [⟨tg, iter, ifs, 0⟩] scope pos) (tLc wi g tt te (own.map (·.2))) := by
  intro pins s σ H Q I h
  rw [eval_ListComp]
  refine lc_core hc hN I hi ok hg ht he hs h fun D C s' m H' I' q hn f => ⟨m, hn, fun h'' sb => ?_⟩
  obtain ⟨f0, f1, f2, f3, f4, f5⟩ := f
  exact ⟨.ref D, H', I'.turned (t' := s'.toks) (fun b o hb e => (sb.2 b hb).trans e) f0 f1 f3 f4 f5, rfl, q⟩
/-- name = [..] on one line, the name a local -/
theorem ps_setLc {i : Nat} {y : Str} {py : Pos} {elt tg iter : Expr} {ifs : List Expr} {scope : Scope} {own : List (Str × Nat)} {pos spos : Pos} {wi : TI} {g : TG} {tt : TT} {te : TE} (hc : X.calm = true) (hN : X.N.Nodup) (hy : X.N[i]? = some y) (hyl : X.env.scope.names.lookup y = some .local)
    (hsw : swapsWith (.ListComp elt [⟨tg, iter, ifs, 0⟩] scope pos) (some (.Name y py)) spos.line X.env = pure true) (hi : PI X tg iter wi) (ok : BlkOk X.N X.env.scope scope own)
    (hg : ∀ (s : Shared) (H : Hp) (C : Addr) (cl : List (Str × Addr)) (fp : List Addr), PG (X.blk s H scope (compEnvC scope cl C X.env) fp) tg g) (ht : ∀ (s : Shared) (H : Hp) (C : Addr) (cl : List (Str × Addr)) (fp : List Addr), PTs (X.blk s H scope (compEnvC scope cl C X.env) fp) ifs tt)
    (he : ∀ (s : Shared) (H : Hp) (C : Addr) (cl : List (Str × Addr)) (fp : List Addr), PE (X.blk s H scope (compEnvC scope cl C X.env) fp) elt te) (hs : ∀ x, foldedSetIterable iter X.env x = pure x := by intro _; rfl) :
    PS X (.Assign [.Name y py] (.ListComp elt [⟨tg, iter, ifs, 0⟩] scope pos) spos) (tAsg (tLc wi g tt te (own.map (·.2))) (gName i)) := by
  intro pins s σ H D I h
  rw [exec_Assign_Name_used _ _ _ _ hsw]
  refine wpAny_bind (wpAny_standAt (wpAny_bind ?_))
  show wpAny _ X.A (do let _ ← comprehension (.ListComp elt [⟨tg, iter, ifs, 0⟩] scope pos) scope X.env (firstIterPos [⟨tg, iter, ifs, 0⟩] pos) (newList []) false (eval iter X.env) (some (assign (.Name y py) X.env))) _ _ s
  have h : tLc wi g tt te (own.map (·.2)) σ H (fun x H1 => gName i x σ H1 D.nx) := h
  refine wpAny_bind (thn (lc_core (Qf := fun _ s' => SP X pins D .next s') hc hN I hi ok hg ht he hs h fun L C s' m H' I' q hn f => ?_) fun _ s' hq => wpAny_pure (wpAny_pure hq))
  show wpAny _ _ (assign (.Name y py) X.env (.ref L)) _ _ _
  refine wpAny_assign_Name (store_ok2 (v := V.ref L) I' hN hy (.inl hyl) rfl (fun s2 I2 ⟨a, sb, ha⟩ => ?_) (.inr hyl))
  obtain ⟨f0, f1, f2, f3, f4, f5⟩ := f
  have haC : C ≠ a := by
    rcases ha with z | z
    · rw [z]; exact f1
    · exact fun e => f4 y a z e.symm
  refine ⟨m, hn.sameBut sb haC, fun h3 sb3 => ?_⟩
  exact ⟨_, H', I2.turned (t' := s2.toks) (fun b o hb e => (sb3.2 b hb).trans e) f0 f1 f3 f4 f5, q⟩
theorem sw_true {elt : Expr} {gs : List Comprehension} {scope : Scope} {pos py : Pos} {y : Str} {l : Nat} {env : Env} (hk : env.scope.kind = .function) (hy : env.scope.names.lookup y = some .local) (hl : (py.line == pos.line) = true)
    (ha : (scope.names.any fun (n, k) => n == y && (k == .local || k == .cell)) = false) : swapsWith (.ListComp elt gs scope pos) (some (.Name y py)) l env = pure true := by
  have ky : env.kindOf y = some .local := hy
  have hb : env.blockKind = .function := by unfold Env.blockKind; rw [hk]; rfl
  unfold swapsWith
  simp only [hb, ky, ha, Expr.pos, hl]
  rfl
end

/-! ### the forms one uses -/
/-- over a range: Pv by the turn and the heap (the new list at D within) -/
theorem lc_range {lo : Int} {n : Nat} {g : TG} {tt : TT} {te : TE} {vs : List Nat} {σ : St} {H1 : Hp} {D : Addr} {Qd : Hp → Prop} (Pv : Nat → Hp → Prop) (h0 : Pv 0 (upd H1 D (.lst [])))
    (hs : ∀ i H, i < n → Pv i H → g (.int (lo + i)) (wipe σ vs) H fun σ2 H2 => wipe σ2 vs = wipe σ vs ∧ tt σ2 H2 fun b H3 =>
      if b = true then te σ2 H3 fun y H4 => ∃ acc, H4 D = some (.lst acc) ∧ acc.length < sizeLine ∧ Pv (i + 1) (upd H4 D (.lst (acc ++ [y]))) else Pv (i + 1) H3) (hd : ∀ H, Pv n H → Qd H) :
    ∃ W : Nat → Nat → Hp → Prop, (∃ m, W 0 m (upd H1 D (.lst []))) ∧ ∀ i m H, W i m H →
      ((Itr lo n).stop i H ∧ Qd H) ∨ ((Itr lo n).go i H ∧ ∃ Nx : Hp → Prop, (∀ H', Nx H' → ∃ m', m' < m ∧ W (i + 1) m' H') ∧ ∀ x H', (Itr lo n).yld i H x H' → g x (wipe σ vs) H' fun σ2 H2 => wipe σ2 vs = wipe σ vs ∧ tt σ2 H2 fun b H3 =>
        if b = true then te σ2 H3 fun y H4 => ∃ acc, H4 D = some (.lst acc) ∧ acc.length < sizeLine ∧ Nx (upd H4 D (.lst (acc ++ [y]))) else Nx H3) := by
  refine ⟨fun i m H => m = n - i ∧ i ≤ n ∧ Pv i H, ⟨n, by simp, Nat.zero_le _, h0⟩, ?_⟩
  rintro i m H ⟨rfl, hi, p⟩
  by_cases hlt : i < n
  · refine .inr ⟨hlt, Pv (i + 1), fun H' p' => ⟨n - (i + 1), by omega, rfl, hlt, p'⟩, fun x H' y => ?_⟩
    obtain ⟨e, y⟩ := y
    subst e y
    exact hs i _ hlt p
  · have e : i = n := by omega
    subst e
    exact .inl ⟨Nat.le_refl _, hd H p⟩
/-- over a list that the block leaves as it is -/
theorem lc_list {K : PySem.W.Frag} {a : Addr} {xs : List V} {g : TG} {tt : TT} {te : TE} {vs : List Nat} {σ : St} {H1 : Hp} {D : Addr} {Qd : Hp → Prop} (Pv : Nat → Hp → Prop) (h0 : Pv 0 (upd H1 D (.lst []))) (hl : ∀ i H, i ≤ xs.length → Pv i H → SqL K H a xs)
    (hs : ∀ i x H, xs[i]? = some x → Pv i H → g x (wipe σ vs) H fun σ2 H2 => wipe σ2 vs = wipe σ vs ∧ tt σ2 H2 fun b H3 =>
      if b = true then te σ2 H3 fun y H4 => ∃ acc, H4 D = some (.lst acc) ∧ acc.length < sizeLine ∧ Pv (i + 1) (upd H4 D (.lst (acc ++ [y]))) else Pv (i + 1) H3) (hd : ∀ H, Pv xs.length H → Qd H) :
    ∃ W : Nat → Nat → Hp → Prop, (∃ m, W 0 m (upd H1 D (.lst []))) ∧ ∀ i m H, W i m H →
      ((Itl K a).stop i H ∧ Qd H) ∨ ((Itl K a).go i H ∧ ∃ Nx : Hp → Prop, (∀ H', Nx H' → ∃ m', m' < m ∧ W (i + 1) m' H') ∧ ∀ x H', (Itl K a).yld i H x H' → g x (wipe σ vs) H' fun σ2 H2 => wipe σ2 vs = wipe σ vs ∧ tt σ2 H2 fun b H3 =>
        if b = true then te σ2 H3 fun y H4 => ∃ acc, H4 D = some (.lst acc) ∧ acc.length < sizeLine ∧ Nx (upd H4 D (.lst (acc ++ [y]))) else Nx H3) := by
  refine ⟨fun i m H => m = xs.length - i ∧ i ≤ xs.length ∧ Pv i H, ⟨xs.length, by simp, Nat.zero_le _, h0⟩, ?_⟩
  rintro i m H ⟨rfl, hi, p⟩
  have q := hl i H hi p
  by_cases hlt : i < xs.length
  · refine .inr ⟨⟨xs, xs[i], q, by simp [hlt]⟩, Pv (i + 1), fun H' p' => ⟨xs.length - (i + 1), by omega, rfl, hlt, p'⟩, fun x H' y => ?_⟩
    obtain ⟨e, y⟩ := y
    subst e
    exact hs i x _ (y xs q) p
  · have e : i = xs.length := by omega
    subst e
    exact .inl ⟨⟨xs, q, Nat.le_refl _⟩, hd H p⟩
/-- over a tuple -/
theorem lc_tup {K : PySem.W.Frag} {a : Addr} {xs : List V} {g : TG} {tt : TT} {te : TE} {vs : List Nat} {σ : St} {H1 : Hp} {D : Addr} {Qd : Hp → Prop} (Pv : Nat → Hp → Prop) (h0 : Pv 0 (upd H1 D (.lst []))) (hl : ∀ i H, i ≤ xs.length → Pv i H → SqT K H a xs)
    (hs : ∀ i x H, xs[i]? = some x → Pv i H → g x (wipe σ vs) H fun σ2 H2 => wipe σ2 vs = wipe σ vs ∧ tt σ2 H2 fun b H3 =>
      if b = true then te σ2 H3 fun y H4 => ∃ acc, H4 D = some (.lst acc) ∧ acc.length < sizeLine ∧ Pv (i + 1) (upd H4 D (.lst (acc ++ [y]))) else Pv (i + 1) H3) (hd : ∀ H, Pv xs.length H → Qd H) :
    ∃ W : Nat → Nat → Hp → Prop, (∃ m, W 0 m (upd H1 D (.lst []))) ∧ ∀ i m H, W i m H →
      ((Itt K a).stop i H ∧ Qd H) ∨ ((Itt K a).go i H ∧ ∃ Nx : Hp → Prop, (∀ H', Nx H' → ∃ m', m' < m ∧ W (i + 1) m' H') ∧ ∀ x H', (Itt K a).yld i H x H' → g x (wipe σ vs) H' fun σ2 H2 => wipe σ2 vs = wipe σ vs ∧ tt σ2 H2 fun b H3 =>
        if b = true then te σ2 H3 fun y H4 => ∃ acc, H4 D = some (.lst acc) ∧ acc.length < sizeLine ∧ Nx (upd H4 D (.lst (acc ++ [y]))) else Nx H3) := by
  refine ⟨fun i m H => m = xs.length - i ∧ i ≤ xs.length ∧ Pv i H, ⟨xs.length, by simp, Nat.zero_le _, h0⟩, ?_⟩
  rintro i m H ⟨rfl, hi, p⟩
  have q := hl i H hi p
  by_cases hlt : i < xs.length
  · refine .inr ⟨⟨xs, xs[i], q, by simp [hlt]⟩, Pv (i + 1), fun H' p' => ⟨xs.length - (i + 1), by omega, rfl, hlt, p'⟩, fun x H' y => ?_⟩
    obtain ⟨e, y⟩ := y
    subst e
    exact hs i x _ (y xs q) p
  · have e : i = xs.length := by omega
    subst e
    exact .inl ⟨⟨xs, q, Nat.le_refl _⟩, hd H p⟩
def blkC (N : List Str) (sc scope : Scope) (own : List (Str × Nat)) : Bool :=
  (match scope.kind with | .function => true | _ => false) && (scope.names.all fun y => decide (scope.names.lookup y.1 = some y.2)) && (own.all fun p => decide (N[p.2]? = some p.1)) &&
    (scope.names.all fun y => match y.2 with
      | .free => (match sc.names.lookup y.1 with | some .cell => true | some .free => true | _ => false)
      | .local => decide (y.1 ∈ own.map (·.1)) || decide (y.1 ∉ N)
      | .cell => decide (y.1 ∈ own.map (·.1)) || decide (y.1 ∉ N)
      | _ => true)
theorem blkOk_by {N : List Str} {sc scope : Scope} {own : List (Str × Nat)} (h : blkC N sc scope own = true) : BlkOk N sc scope own := by
  unfold blkC at h
  simp only [Bool.and_eq_true, List.all_eq_true, decide_eq_true_eq] at h
  obtain ⟨⟨⟨h1, h2⟩, h3⟩, h4⟩ := h
  refine ⟨?_, h2, h3, fun y hy e => ?_, fun y hy e => ?_⟩
  · split at h1
    · assumption
    · cases h1
  · have q := h4 y hy
    simp only [e] at q
    split at q <;> first | exact .inl (by assumption) | exact .inr (by assumption) | cases q
  · have q := h4 y hy
    rcases e with e | e <;> (simp only [e, Bool.or_eq_true, decide_eq_true_eq] at q; exact q)
end L2

namespace L2
open PySem PySem.Spec PyProof.Rows

section
variable {prog : Program} {w : World} {A : Around} {R : Result → Shared → Prop} {s : Shared} {elt t0 i0 t1 i1 : Expr} {ifs0 ifs1 : List Expr} {scope : Scope} {pos : Pos} {it acc : Value} {env : Env}
end

section
variable {X : Cx}
end
end L2

namespace L2
open PySem PySem.Spec PyProof.Rows

/-! ### lists of pairs as tables -/
section
variable {κ : Type} [DecidableEq κ]
def valV (kvs : List (κ × V)) (k : κ) : Option V := (kvs.find? fun kv => decide (kv.1 = k)).map (·.2)
/-- in its place, or at the end -/
def putK (kvs : List (κ × V)) (k : κ) (v : V) : List (κ × V) :=
  if (kvs.any fun kv => decide (kv.1 = k)) = true then kvs.map (fun kv => if kv.1 = k then (kv.1, v) else kv) else kvs ++ [(k, v)]
def dropK (kvs : List (κ × V)) (k : κ) : List (κ × V) := kvs.filter fun kv => decide (kv.1 ≠ k)

theorem valV_pos {p : κ × V} {r : List (κ × V)} {k : κ} (e : p.1 = k) : valV (p :: r) k = some p.2 := by simp [valV, List.find?_cons, e]
theorem valV_neg {p : κ × V} {r : List (κ × V)} {k : κ} (e : ¬ p.1 = k) : valV (p :: r) k = valV r k := by simp [valV, List.find?_cons, e]
theorem valV_any (k : κ) : ∀ kvs : List (κ × V), (kvs.any fun kv => decide (kv.1 = k)) = (valV kvs k).isSome
  | [] => rfl
  | p :: r => by
    rw [List.any_cons]
    by_cases e : p.1 = k
    · simp only [valV_pos e, decide_eq_true e, Bool.true_or, Option.isSome_some]
    · rw [valV_neg e, decide_eq_false e, Bool.false_or]; exact valV_any k r
theorem length_putK (kvs : List (κ × V)) (k : κ) (v : V) : (putK kvs k v).length ≤ kvs.length + 1 := by
  unfold putK
  split
  · rw [List.length_map]; omega
  · rw [List.length_append, List.length_cons, List.length_nil]; omega
theorem RelO.isSome_eq {o : Option V} {u : Option Value} (r : RelO o u) : o.isSome = u.isSome := by
  cases o with
  | none => cases u with
    | none => rfl
    | some _ => exact (show False from r).elim
  | some _ => cases u with
    | none => exact (show False from r).elim
    | some _ => rfl
theorem RelO.getD {o : Option V} {u : Option Value} {d : V} {d' : Value} (r : RelO o u) (rd : RelV d d') : RelV (o.getD d) (u.getD d') := by
  cases o with
  | none => cases u with
    | none => exact rd
    | some _ => exact (show False from r).elim
  | some _ => cases u with
    | none => exact (show False from r).elim
    | some _ => exact r

/-- raw tables of the same keys -/
theorem KV.val {kvs : List (κ × V)} {vs : List (κ × Value)} (r : KV kvs vs) (k : κ) : RelO (valV kvs k) (valueAt vs k) := by
  unfold KV at r
  induction r with
  | nil => exact True.intro
  | @cons p q ps qs h t ih =>
    obtain ⟨h1, h2⟩ := h
    by_cases e : p.1 = k
    · have e' : q.1 = k := h1.symm.trans e
      have b : valueAt (q :: qs) k = some q.2 := by simp [valueAt, List.find?_cons, e']
      rw [valV_pos e, b]; exact h2
    · have e' : ¬ q.1 = k := fun z => e (h1.trans z)
      have b : valueAt (q :: qs) k = valueAt qs k := by simp [valueAt, List.find?_cons, e']
      rw [valV_neg e, b]; exact ih
theorem KV.any {kvs : List (κ × V)} {vs : List (κ × Value)} (r : KV kvs vs) (k : κ) : (kvs.any fun kv => decide (kv.1 = k)) = vs.any fun kv => decide (kv.1 = k) := by
  unfold KV at r
  induction r with
  | nil => rfl
  | cons h t ih => rw [List.any_cons, List.any_cons, ih, h.1]
theorem KV.repl {kvs : List (κ × V)} {vs : List (κ × Value)} (r : KV kvs vs) (k : κ) {y : V} {u : Value} (ry : RelV y u) :
    KV (kvs.map fun kv => if kv.1 = k then (kv.1, y) else kv) (vs.map fun kv => if kv.1 = k then (kv.1, u) else kv) := by
  unfold KV at r ⊢
  induction r with
  | nil => exact .nil
  | @cons p q ps qs h t ih =>
    rw [List.map_cons, List.map_cons]
    refine .cons ?_ ih
    obtain ⟨h1, h2⟩ := h
    by_cases e : p.1 = k
    · rw [if_pos e, if_pos (h1.symm.trans e)]; exact ⟨h1, ry⟩
    · rw [if_neg e, if_neg (fun z => e (h1.trans z))]; exact ⟨h1, h2⟩
theorem KV.put {kvs : List (κ × V)} {vs : List (κ × Value)} (r : KV kvs vs) (k : κ) {y : V} {u : Value} (ry : RelV y u) : KV (putK kvs k y) (stored vs k u) := by
  unfold putK stored
  rw [r.any k]
  by_cases e : (vs.any fun kv => decide (kv.1 = k)) = true
  · rw [if_pos e, if_pos e]; exact r.repl k ry
  · rw [if_neg e, if_neg e]; exact Paired.snoc r ⟨rfl, ry⟩
theorem KV.drop {kvs : List (κ × V)} {vs : List (κ × Value)} (r : KV kvs vs) (k : κ) : KV (dropK kvs k) (without vs k) := by
  unfold KV at r ⊢
  unfold dropK without
  induction r with
  | nil => exact .nil
  | @cons p q ps qs h t ih =>
    obtain ⟨h1, h2⟩ := h
    rw [List.filter_cons, List.filter_cons]
    by_cases e : p.1 = k
    · have a : ¬ decide (p.1 ≠ k) = true := by simp [e]
      have b : ¬ decide (q.1 ≠ k) = true := by simp [h1.symm.trans e]
      rw [if_neg a, if_neg b]; exact ih
    · have e' : ¬ q.1 = k := fun z => e (h1.trans z)
      have a : decide (p.1 ≠ k) = true := by simp [e]
      have b : decide (q.1 ≠ k) = true := by simp [e']
      rw [if_pos a, if_pos b]; exact .cons ⟨h1, h2⟩ ih
theorem KV.keys {kvs : List (κ × V)} {vs : List (κ × Value)} (r : KV kvs vs) : kvs.map (·.1) = vs.map (·.1) := by
  unfold KV at r
  induction r with
  | nil => rfl
  | cons h t ih => rw [List.map_cons, List.map_cons, ih, h.1]
theorem KV.length {kvs : List (κ × V)} {vs : List (κ × Value)} (r : KV kvs vs) : kvs.length = vs.length := Paired.length r
end


/-! ### a tracked dict, its keys ints and texts or tuples of these -/
theorem kV_is {P : Program} {w : World} {k : Key} {u : Value} (r : RelV (kV k) u) : (mixKind P w).is k u = true := by
  cases k with
  | inl i => obtain ⟨t, e⟩ := (show ∃ t, u = Value.int i t from r); subst e; exact mixKind_int P w i t
  | inr x => obtain ⟨t, e⟩ := (show ∃ t, u = Value.str x t from r); subst e; exact mixKind_str P w x t
theorem items_are {P : Program} {w : World} : ∀ {ks : List Key} {us : List Value}, Vals (ks.map kV) us → ItemsAre (mixKind P w) ks us
  | [], _, r => by rw [List.map_nil] at r; cases r; exact .nil
  | k :: ks, _, r => by
    rw [List.map_cons] at r
    cases r with
    | cons h t => exact .cons (kV_is h) (items_are t)

/-- raw entries of a dict with tuple keys -/
abbrev KT (H : Hp) : List (List Key × V) → List (List Key × Addr × Value) → Prop := Paired fun p q => p.1 = q.1 ∧ H q.2.1 = some (.tup (p.1.map kV)) ∧ RelV p.2 q.2.2
theorem KT.val {H : Hp} {kvs : List (List Key × V)} {xs : List (List Key × Addr × Value)} (r : KT H kvs xs) (k : List Key) : RelO (valV kvs k) ((atKey xs k).map (·.2)) := by
  induction r with
  | nil => exact True.intro
  | @cons p q ps qs h t ih =>
    obtain ⟨h1, _, h2⟩ := h
    by_cases e : p.1 = k
    · have e' : q.1 = k := h1.symm.trans e
      have b : atKey (q :: qs) k = some q.2 := by simp [atKey, List.find?_cons, e']
      rw [valV_pos e, b]; exact h2
    · have e' : ¬ q.1 = k := fun z => e (h1.trans z)
      have b : atKey (q :: qs) k = atKey qs k := by simp [atKey, List.find?_cons, e']
      rw [valV_neg e, b]; exact ih
theorem KT.repl {H : Hp} {kvs : List (List Key × V)} {xs : List (List Key × Addr × Value)} (r : KT H kvs xs) (k : List Key) {y : V} {u : Value} (ry : RelV y u) :
    KT H (kvs.map fun kv => if kv.1 = k then (kv.1, y) else kv) (xs.map (putAt k u)) := by
  induction r with
  | nil => exact .nil
  | @cons p q ps qs h t ih =>
    rw [List.map_cons, List.map_cons]
    refine .cons ?_ ih
    obtain ⟨h1, h2, h3⟩ := h
    unfold putAt
    by_cases e : p.1 = k
    · rw [if_pos e, if_pos (h1.symm.trans e)]; exact ⟨h1, h2, ry⟩
    · rw [if_neg e, if_neg (fun z => e (h1.trans z))]; exact ⟨h1, h2, h3⟩
theorem KT.put {H : Hp} {kvs : List (List Key × V)} {xs : List (List Key × Addr × Value)} (r : KT H kvs xs) (k : List Key) {b : Addr} {y : V} {u : Value} (hb : H b = some (.tup (k.map kV))) (ry : RelV y u) :
    KT H (putK kvs k y) (storedH xs k b u) := by
  have e : (kvs.any fun kv => decide (kv.1 = k)) = (atKey xs k).isSome := by
    rw [valV_any, (r.val k).isSome_eq, Option.isSome_map]
  unfold putK storedH
  rw [e]
  by_cases q : (atKey xs k).isSome = true
  · rw [if_pos q, if_pos q]; exact r.repl k ry
  · rw [if_neg q, if_neg q]; exact Paired.snoc r ⟨rfl, hb, ry⟩
theorem KT.keeps {H H' : Hp} {kvs : List (List Key × V)} {xs : List (List Key × Addr × Value)} (r : KT H kvs xs) (ht : ∀ b ys, H b = some (.tup ys) → H' b = some (.tup ys)) : KT H' kvs xs :=
  Paired.mapP r fun _ _ z => ⟨z.1, ht _ _ z.2.1, z.2.2⟩

section
variable {P : Program} {w : World} {H : Hp} {h : Heap} {a : Addr}
theorem rd_of {u : HO} (ok : HOk P w H h) (e : Rd H a u) : ObjOk P w H h a u := e.ok ok
theorem dk_rd {kvs : List (Key × V)} (ok : HOk P w H h) (e : Rd H a (.dK kvs)) : kvs.length ≤ sizeLine ∧ (a == sysModules) = false ∧ ∃ vs, KV kvs vs ∧ h.DictOf (mixKind P w) a vs :=
  show ObjOk P w H h a (.dK kvs) from rd_of ok e
theorem dk_of {kvs : List (Key × V)} (ok : HOk P w H h) (e : H a = some (.dK kvs)) : kvs.length ≤ sizeLine ∧ (a == sysModules) = false ∧ ∃ vs, KV kvs vs ∧ h.DictOf (mixKind P w) a vs := dk_rd ok (.inl e)
/-- a tracked tuple of ints and texts is a key -/
theorem key_of {ks : List Key} (ok : HOk P w H h) (e : H a = some (.tup (ks.map kV))) : (tupleKind (mixKind P w)).is h ks a := by
  obtain ⟨_, its, r, ⟨o, h1, h2, n, h3⟩, _⟩ := (show ObjOk P w H h a (.tup (ks.map kV)) from ok a _ e)
  exact ⟨o, its.toArray, n, h1, h2, h3, by simpa using items_are r⟩
theorem dt_rd {kvs : List (List Key × V)} (ok : HOk P w H h) (e : Rd H a (.dT kvs)) : kvs.length ≤ sizeLine ∧ (a == sysModules) = false ∧
    ∃ xs, KT H kvs xs ∧ h.DictOfH (tupleKind (mixKind P w)) a xs := by
  obtain ⟨z, y, xs, r, o, es, ep, h1, h2, h3, h4, h5⟩ := (show ObjOk P w H h a (.dT kvs) from rd_of ok e)
  refine ⟨z, y, xs, r, o, es, ep, h1, h2, h3, h4, fun x hx => ?_, h5⟩
  have all : ∀ {l : List (List Key × V)} {m : List (List Key × Addr × Value)}, KT H l m → ∀ x ∈ m, (tupleKind (mixKind P w)).is h x.1 x.2.1 := by
    intro l m q
    induction q with
    | nil => intro x hx; exact nomatch hx
    | @cons p q ps qs hq t ih =>
      intro x hx
      rcases List.mem_cons.mp hx with e | hx
      · subst e
        exact key_of ok (by rw [← hq.1]; exact hq.2.1)
      · exact ih x hx
  exact all r x hx
theorem dt_of {kvs : List (List Key × V)} (ok : HOk P w H h) (e : H a = some (.dT kvs)) : kvs.length ≤ sizeLine ∧ (a == sysModules) = false ∧
    ∃ xs, KT H kvs xs ∧ h.DictOfH (tupleKind (mixKind P w)) a xs := dt_rd ok (.inl e)
end

/-- what the dict at a holds at the key y -/
def DGet (H : Hp) (a : Addr) (y : V) (r : Option V) : Prop :=
  (∃ kvs k, Rd H a (.dK kvs) ∧ y = kV k ∧ r = valV kvs k) ∨ ∃ kvs k b, Rd H a (.dT kvs) ∧ y = .ref b ∧ H b = some (.tup (k.map kV)) ∧ r = valV kvs k
/-- the heap behind a[y] = v -/
def DPut (H : Hp) (a : Addr) (y v : V) (H' : Hp) : Prop :=
  (∃ kvs k, H a = some (.dK kvs) ∧ y = kV k ∧ kvs.length < sizeLine ∧ H' = upd H a (.dK (putK kvs k v))) ∨
  ∃ kvs k b, H a = some (.dT kvs) ∧ y = .ref b ∧ H b = some (.tup (k.map kV)) ∧ kvs.length < sizeLine ∧ H' = upd H a (.dT (putK kvs k v))
theorem DGet.k {H : Hp} {a : Addr} {kvs : List (Key × V)} {k : Key} (e : H a = some (.dK kvs)) : DGet H a (kV k) (valV kvs k) := .inl ⟨kvs, k, .inl e, rfl, rfl⟩
theorem DGet.t {H : Hp} {a b : Addr} {kvs : List (List Key × V)} {k : List Key} (e : H a = some (.dT kvs)) (eb : H b = some (.tup (k.map kV))) : DGet H a (.ref b) (valV kvs k) := .inr ⟨kvs, k, b, .inl e, rfl, eb, rfl⟩
theorem DPut.k {H : Hp} {a : Addr} {kvs : List (Key × V)} {k : Key} {v : V} (e : H a = some (.dK kvs)) (hl : kvs.length < sizeLine) : DPut H a (kV k) v (upd H a (.dK (putK kvs k v))) := .inl ⟨kvs, k, e, rfl, hl, rfl⟩
theorem DPut.t {H : Hp} {a b : Addr} {kvs : List (List Key × V)} {k : List Key} {v : V} (e : H a = some (.dT kvs)) (eb : H b = some (.tup (k.map kV))) (hl : kvs.length < sizeLine) :
    DPut H a (.ref b) v (upd H a (.dT (putK kvs k v))) := .inr ⟨kvs, k, b, e, rfl, eb, hl, rfl⟩


section
variable {X : Cx} {pins : List (Addr × Obj)} {σ : St} {H : Hp} {s : Shared} {a : Addr} {y v : V} {u r : Value} {o : Option V} {A : Around} {E : Value → Shared → Prop}

theorem Inv.big (I : Inv X pins σ H s) : sysModules < s.heap.objs.size := by
  have h : mainGlobals < s.heap.objs.size := (I.mod.glob.keeps I.bk).lt
  exact Nat.lt_trans (by decide) h

/-- d[y], there -/
theorem d_getItem {Q : Value → Shared → Prop} (hu : A.units + 1 < cLine) (I : Inv X pins σ H s) (g : DGet H a y (some v)) (ry : RelV y u) (h : ∀ w' s', Inv X pins σ H s' → RelV v w' → Q w' s') :
    wpAny (model X.prog X.w) A (getItem (.ref a) u) Q E s := by
  rcases g with ⟨kvs, k, e, ey, l⟩ | ⟨kvs, k, b, e, ey, eb, l⟩
  · subst ey
    obtain ⟨z, hd, vs, rel, dd⟩ := dk_rd I.hok e
    obtain ⟨w', hw, rw'⟩ := RelO.some_of (v := v) (o := valueAt vs k) (by rw [l]; exact rel.val k)
    exact wpAny_getItem_of (kV_is ry) dd.mapOf hw (h w' _ (I.tok _) rw')
  · subst ey
    cases (show u = Value.ref b from ry)
    obtain ⟨z, hd, xs, rel, dd⟩ := dt_rd I.hok e
    obtain ⟨w', hw, rw'⟩ := RelO.some_of (v := v) (o := (atKey xs k).map (·.2)) (by rw [l]; exact rel.val k)
    obtain ⟨p, hp, hp2⟩ := Option.map_eq_some_iff.mp hw
    refine wpAny_getItem_heap (tupleKind_room_in1 hu) (key_of I.hok eb) dd hp ?_
    rw [hp2]
    exact h w' _ (I.tok _) rw'
theorem d_notIn {Q : Value → Shared → Prop} (hu : A.units + 1 < cLine) (I : Inv X pins σ H s) (g : DGet H a y o) (ry : RelV y u) (h : ∀ s', Inv X pins σ H s' → Q (.bool (!o.isSome)) s') :
    wpAny (model X.prog X.w) A (compareOp .NotIn u (.ref a)) Q E s := by
  rcases g with ⟨kvs, k, e, ey, l⟩ | ⟨kvs, k, b, e, ey, eb, l⟩
  · subst ey
    obtain ⟨z, hd, vs, rel, dd⟩ := dk_rd I.hok e
    refine wpAny_notIn_of (kV_is ry) hd dd.mapOf ?_
    rw [← (rel.val k).isSome_eq, ← l]
    exact h _ (I.tok _)
  · subst ey
    cases (show u = Value.ref b from ry)
    obtain ⟨z, hd, xs, rel, dd⟩ := dt_rd I.hok e
    refine wpAny_notIn_heap (tupleKind_room_in1 hu) (key_of I.hok eb) hd dd ?_
    have q := (rel.val k).isSome_eq
    rw [Option.isSome_map] at q
    rw [← q, ← l]
    exact h _ (I.tok _)
/-- a dict's object is replaced -/
theorem d_write {h' : Heap} {t' : Nat} {ob : HO} (I : Inv X pins σ H s) (mu : Mut (H a)) (hs : Heap.SameBut a s.heap h') (he : ∃ q, h'.get? a = some q) (new : ObjOk X.prog X.w (upd H a ob) h' a ob) :
    Inv X pins σ (upd H a ob) { s with heap := h', toks := t' } :=
  I.write (x := a) (e := a) mu (.inl rfl) (fun b q hb z => (hs.2 b hb).trans z) he new
theorem dk_new {P : Program} {w : World} {H' : Hp} {h' : Heap} {kvs : List (Key × V)} {vs : List (Key × Value)} (z : kvs.length ≤ sizeLine) (hd : (a == sysModules) = false) (rel : KV kvs vs) (dd : h'.DictOf (mixKind P w) a vs) :
    ObjOk P w H' h' a (.dK kvs) := ⟨z, hd, vs, rel, dd⟩
/-- d[y] = v -/
theorem d_setItem {H' : Hp} {Q : Unit → Shared → Prop} (hu : A.units + 1 < cLine) (I : Inv X pins σ H s) (g : DPut H a y v H') (ry : RelV y u) (rv : RelV v r) (h : ∀ s', Inv X pins σ H' s' → Q () s') :
    wpAny (model X.prog X.w) A (setItem (.ref a) u r) Q E s := by
  rcases g with ⟨kvs, k, e, ey, l, eH⟩ | ⟨kvs, k, b, e, ey, eb, l, eH⟩
  · subst ey eH
    obtain ⟨z, hd, vs, rel, dd⟩ := dk_of I.hok e
    have hz : vs.length ≤ sizeLine := by rw [← rel.length]; exact z
    have hl : (putK kvs k v).length ≤ sizeLine := by have := length_putK kvs k v; omega
    refine wpAny_setItem_pairs (hsz := hz) (kV_is ry) dd fun h' dd' hs => h _ ?_
    have he : ∃ q, h'.get? a = some q := let ⟨q, _, _, hq, _⟩ := dd'; ⟨q, hq⟩
    exact d_write I (by rw [e]; exact True.intro) hs he (dk_new hl hd (rel.put k rv) dd')
  · subst ey eH
    cases (show u = Value.ref b from ry)
    obtain ⟨z, hd, xs, rel, dd⟩ := dt_of I.hok e
    have hz : xs.length ≤ sizeLine := by rw [← Paired.length rel]; exact z
    have hl : (putK kvs k v).length ≤ sizeLine := by have := length_putK kvs k v; omega
    refine wpAny_setItem_heap (hsz := hz) (tupleKind_room_in1 hu) (key_of I.hok eb) dd fun h' dd' hs => h _ ?_
    obtain ⟨q, es, ep, hq, h2, h3, h4, _, h5⟩ := dd'
    refine d_write I (by rw [e]; exact True.intro) hs ⟨q, hq⟩ ⟨hl, hd, _, (rel.put k eb rv).keeps fun c ys ec => ?_, q, es, ep, hq, h2, h3, h4, h5⟩
    rw [upd_ne (ne_of ec e (fun z => nomatch z))]
    exact ec
end

section
variable {X : Cx} {pins : List (Addr × Obj)} {σ : St} {H : Hp} {s : Shared} {a : Addr} {kvs : List (Key × V)} {k : Key} {u : Value} {A : Around} {E : Value → Shared → Prop}
end


/-! ### readings and rules -/
/-- the element of a subscription, not a slice -/
def NoSl (i : Expr) : Prop := ∀ ov iv, subscripted i false ov iv = operate [ov, iv] (getItem ov iv)
theorem subD_of {prog : Program} {w : World} {A : Around} {E : Value → Shared → Prop} {s : Shared} {env : Env} {value slice : Expr} {pos : Pos} {T id : String} {Q : Value → Shared → Prop}
    (hl : typeLookup (.type T) "__getitem__" = pure (some (.builtin id))) (hs : NoSl slice)
    (h : wpAny (model prog w) A (eval value env) (fun o s₁ => wpAny (model prog w) A (eval slice env) (fun i s₂ => s₂.TypeIs o T ∧ wpAny (model prog w) A (getItem o i) Q E s₂) E s₁) E s) :
    wpAny (model prog w) A (eval (.Subscript value slice pos) env) Q E s := by
  refine Subscript_ (wpAny_mono h (fun o s₁ h₁ => wpAny_mono h₁ (fun i s₂ h₂ => ?_) fun _ _ x => x) fun _ _ x => x)
  obtain ⟨hT, h₂⟩ := h₂
  unfold subscriptTail
  refine wpAny_bind ?_
  rw [getitemInPython_of_ne hT.not_modules]
  refine wpAny_bind (wpAny_specialOf hT hl ?_)
  have fin : wpAny (model prog w) A (subscripted slice false o i) (fun r s₃ => wpAny (model prog w) A (letTemporaryGo value o r >>= fun _ => pure r) Q E s₃) E s₂ := by
    rw [hs o i]
    exact wpAny_operating (wpAny_mono h₂ (fun r s₃ h₃ => wpAny_bind (wpAny_letTemporaryGo (wpAny_pure h₃))) fun _ _ x => x)
  first
    | exact wpAny_pure (wpAny_bind fin)
    | exact wpAny_bind (wpAny_pure (wpAny_bind fin))
    | exact wpAny_bind fin

theorem dict_typeIs {X : Cx} {pins : List (Addr × Obj)} {σ : St} {H : Hp} {s : Shared} {a : Addr} {y : V} {o : Option V} (I : Inv X pins σ H s) (g : DGet H a y o) : s.TypeIs (.ref a) "dict" := by
  rcases g with ⟨kvs, k, e, _, _⟩ | ⟨kvs, k, b, e, _, _, _⟩
  · obtain ⟨_, _, vs, _, dd⟩ := dk_rd I.hok e
    exact dd.typeIs
  · obtain ⟨_, _, xs, _, dd⟩ := dt_rd I.hok e
    exact dd.typeIs
/-- d[y] -/
def tDGet (td ty : TE) : TE := fun σ H Q => td σ H fun x H1 => ty σ H1 fun y H2 => ∃ a v, x = .ref a ∧ DGet H2 a y (some v) ∧ Q v H2
def tDNotIn (ty td : TE) : TE := fun σ H Q => ty σ H fun y H1 => td σ H1 fun x H2 => ∃ a o, x = .ref a ∧ DGet H2 a y o ∧ Q (.bl (!o.isSome)) H2
/-- d[y] = v -/
def sDPut (td ty tv : TE) : TS := fun D σ H => tv σ H fun v H1 => td σ H1 fun x H2 => ty σ H2 fun y H3 => ∃ a H4, x = .ref a ∧ DPut H3 a y v H4 ∧ D.nx σ H4
section
variable {X : Cx} {o i e value : Expr} {pos pos' tpos : Pos} {td ty tv : TE}
theorem pe_dget (hu : X.A.units + 1 < cLine) (ho : PE X o td) (hi : PE X i ty) (hs : NoSl i) : PE X (.Subscript o i pos) (tDGet td ty) := by
  intro pins s σ H Q I h
  refine subD_of PySem.F.slot_dict_getitem.lookup hs (thn (ho pins s σ H _ I h) fun u s1 ⟨x, H1, I1, rx, q1⟩ => thn (hi pins s1 σ H1 _ I1 q1) fun iv s2 ⟨y, H2, I2, ry, a, v, ex, g, q2⟩ => ?_)
  subst ex
  obtain rfl : u = Value.ref a := rx
  exact ⟨dict_typeIs I2 g, d_getItem hu I2 g ry fun w' s3 I3 rw' => ⟨v, H2, I3, rw', q2⟩⟩
theorem pc_dnotin (hu : X.A.units + 1 < cLine) (hi : PE X i ty) (ho : PE X o td) : PC X .NotIn i o (tDNotIn ty td) := by
  intro pins s σ H Q I h
  refine thn (hi pins s σ H _ I h) fun iv s1 ⟨y, H1, I1, ry, q1⟩ => thn (ho pins s1 σ H1 _ I1 q1) fun u s2 ⟨x, H2, I2, rx, a, ov, ex, g, q2⟩ => ?_
  subst ex
  obtain rfl : u = Value.ref a := rx
  exact d_notIn hu I2 g ry fun s3 I3 => ⟨.bl (!ov.isSome), H2, I3, rfl, q2⟩
theorem ps_dput (hu : X.A.units + 1 < cLine) (ho : PE X o td) (hi : PE X i ty) (hv : PE X value tv) (hs : swapsWith value (some (.Subscript o i pos')) pos.line X.env = pure false) :
    PS X (.Assign [.Subscript o i pos'] value pos) (sDPut td ty tv) := by
  intro pins s σ H D I h
  refine wpAny_Assign_Subscript (thn (hv pins s σ H _ I h) fun r s1 ⟨v, H1, I1, rv, q1⟩ => thn (ho pins s1 σ H1 _ I1 q1) fun u s2 ⟨x, H2, I2, rx, q2⟩ => thn (hi pins s2 σ H2 _ I2 q2) fun iv s3 ⟨y, H3, I3, ry, a, H4, ex, g, q3⟩ => ?_) hs
  subst ex
  obtain rfl : u = Value.ref a := rx
  exact d_setItem hu I3 g ry rv fun s4 I4 => ⟨σ, H4, I4, q3⟩
end


/-! ### displays -/
theorem dt_empty {P : Program} {w : World} {H : Hp} (h : Heap) (hb : sysModules < h.objs.size) : ObjOk P w H (h.push { cls := .type "dict", data := .dict #[] }) h.objs.size (.dT []) :=
  ⟨Nat.zero_le _, beq_eq_false_iff_ne.mpr (Ne.symm (Nat.ne_of_lt hb)), [], .nil, _, #[], 0, Heap.get?_push_size _ rfl, ⟨rfl, rfl, rfl⟩, rfl, rfl, List.nodup_nil⟩
def tDNewT : TE := fun _ H Q => ∀ p, H p = none → Q (.ref p) (upd H p (.dT []))
section
variable {X : Cx} {pos : Pos}
theorem pe_dnewT : PE X (.Dict [] [] pos) tDNewT := fun pins s σ H Q I h =>
  wpAny_Dict_empty ⟨.ref s.heap.objs.size, _, I.laid (a := s.heap.objs.size) (o := .dT []) (t' := s.toks) (fun _ _ q => Heap.get?_push_of_some _ q) (Nat.le_refl _) (dt_empty s.heap I.big), rfl, h _ (I.hok.fresh (Nat.le_refl _))⟩
end

/-! ### methods -/
/-- a method call o.m(e) of a built-in, with one argument: what must be seen of the text -/
structure M1 (X : Cx) (o : Expr) (m : Str) (apos : Pos) (e : Expr) (cpos : Pos) : Prop where
  base : attributeBase o m X.env (eval o X.env) = eval o X.env
  few : ((backTo cpos (starEach [e] X.env)).all (fun x => !x.1) && (backToKw cpos (keywordEach [] X.env)).all (fun x => x.1.isSome)
    && decide (([e] : List Expr).length + ([] : List Keyword).length + (if ([] : List Keyword).isEmpty then 0 else 1) < 30)) = true
  line : (apos.endLine == cpos.line) = true
  trees : backTo cpos (starEach [e] X.env) = [(false, eval e X.env)]
structure M2 (X : Cx) (o : Expr) (m : Str) (apos : Pos) (e f : Expr) (cpos : Pos) : Prop where
  base : attributeBase o m X.env (eval o X.env) = eval o X.env
  few : ((backTo cpos (starEach [e, f] X.env)).all (fun x => !x.1) && (backToKw cpos (keywordEach [] X.env)).all (fun x => x.1.isSome)
    && decide (([e, f] : List Expr).length + ([] : List Keyword).length + (if ([] : List Keyword).isEmpty then 0 else 1) < 30)) = true
  line : (apos.endLine == cpos.line) = true
  trees : backTo cpos (starEach [e, f] X.env) = [(false, eval e X.env), (false, eval f X.env)]

/-- a is a dict, whatever its keys -/
def IsD (H : Hp) (a : Addr) : Prop := (∃ kvs, Rd H a (.dK kvs)) ∨ ∃ kvs, Rd H a (.dT kvs)
theorem isD_at {X : Cx} {pins : List (Addr × Obj)} {σ : St} {H : Hp} {s : Shared} {a : Addr} (I : Inv X pins σ H s) (d : IsD H a) :
    s.TypeIs (.ref a) "dict" ∧ (∀ b, Value.ref a = .ref b → ∃ ob, s.heap.get? b = some ob ∧ ob.dict = none) ∧ (a == sysModules) = false := by
  rcases d with ⟨kvs, e⟩ | ⟨kvs, e⟩
  · obtain ⟨_, hd, vs, _, dd⟩ := dk_rd I.hok e
    refine ⟨dd.typeIs, fun b q => ?_, hd⟩
    cases q
    obtain ⟨ob, _, _, h1, h2, _⟩ := dd
    exact ⟨ob, h1, h2.2.1⟩
  · obtain ⟨_, hd, xs, _, dd⟩ := dt_rd I.hok e
    refine ⟨dd.typeIs, fun b q => ?_, hd⟩
    cases q
    obtain ⟨ob, _, _, h1, h2, _⟩ := dd
    exact ⟨ob, h1, h2.2.1⟩

section
variable {X : Cx} {pins : List (Addr × Obj)} {σ : St} {H : Hp} {s : Shared} {a : Addr} {y d : V} {u r : Value} {o : Option V} {A : Around} {E : Value → Shared → Prop}
/-- d.get(y, x) -/
theorem d_get2 {Q : Value → Shared → Prop} (hu : A.units + 1 < cLine) (I : Inv X pins σ H s) (g : DGet H a y o) (ry : RelV y u) (rd : RelV d r) (h : ∀ w' s', Inv X pins σ H s' → RelV (o.getD d) w' → Q w' s') :
    wpAny (model X.prog X.w) A (call (.builtin "dict.get") [.ref a, u, r]) Q E s := by
  rcases g with ⟨kvs, k, e, ey, l⟩ | ⟨kvs, k, b, e, ey, eb, l⟩
  · subst ey
    obtain ⟨z, hd, vs, rel, dd⟩ := dk_rd I.hok e
    refine call_meetsIn PySem.F.slot_dict_get dd.typeIs PySem.F.entry_dict_get (PySem.F.args_dict_get_3 _ _ _) (meets_dict_get_default (mixKind X.prog X.w) a (kV_is ry) hd r) ⟨_, dd.mapOf, h _ _ (I.tok _) ?_⟩
    rw [l]
    exact (rel.val k).getD rd
  · subst ey
    cases (show u = Value.ref b from ry)
    obtain ⟨z, hd, xs, rel, dd⟩ := dt_rd I.hok e
    refine call_meetsIn PySem.F.slot_dict_get dd.typeIs PySem.F.entry_dict_get (PySem.F.args_dict_get_3 _ _ _) (meetsH_dict_get_default (tupleKind (mixKind X.prog X.w)) a b hd r) ⟨tupleKind_room_in1 hu, k, xs, key_of I.hok eb, dd, h _ _ (I.tok _) ?_⟩
    rw [l]
    exact (rel.val k).getD rd
end

def tDGet2 (td ty tx : TE) : TE := fun σ H Q => td σ H fun x H1 => ∃ a, x = .ref a ∧ IsD H1 a ∧ ty σ H1 fun y H2 => tx σ H2 fun z H3 => ∃ o, DGet H3 a y o ∧ Q (o.getD z) H3
section
variable {X : Cx} {o e f : Expr} {apos cpos : Pos} {td ty tx : TE}
theorem pe_dget2 (hu : X.A.units + 1 < cLine) (ho : PE X o td) (he : PE X e ty) (hf : PE X f tx) (m : M2 X o "get" apos e f cpos) : PE X (.Call (.Attribute o "get" apos) [e, f] [] cpos) (tDGet2 td ty tx) := by
  intro pins s σ H Q I h
  refine wpAny_Call_method m.base m.few m.line PySem.F.plainAttrs_dict PySem.F.slot_dict_get PySem.F.type_dict_get (thn (ho pins s σ H _ I h) fun u s1 ⟨x, H1, I1, rx, a, ex, d, q1⟩ => ?_)
  subst ex
  obtain rfl : u = Value.ref a := rx
  obtain ⟨t1, t2, _⟩ := isD_at I1 d
  refine ⟨t1, t2, ?_⟩
  rw [m.trees]
  refine Calls.callWith_builtin rfl (Calls.evalArgs_plain (Calls.spliced_cons (thn (he pins s1 σ H1 _ I1 q1) fun iv s2 ⟨y, H2, I2, ry, q2⟩ =>
    Calls.spliced_cons (thn (hf pins s2 σ H2 _ I2 q2) fun fv s3 ⟨z, H3, I3, rz, ov, g, q3⟩ => Calls.spliced_nil ?_))))
  exact d_get2 hu I3 g ry rz fun w' s4 I4 rw' => ⟨_, H3, I4, rw', q3⟩
end

/-! ### dict(d): a copy -/
section
variable {X : Cx} {pins : List (Addr × Obj)} {σ : St} {H : Hp} {s : Shared} {a : Addr} {kvs : List (Key × V)} {A : Around} {E : Value → Shared → Prop}
end


section
variable {X : Cx} {pins : List (Addr × Obj)} {σ : St} {H : Hp} {s : Shared} {a : Addr} {y : V} {u : Value} {A : Around} {E : Value → Shared → Prop}
end
end L2

namespace L2
open PySem PySem.Spec PyProof.Rows

section
variable {prog : Program} {w : World} {A : Around} {E : Value → Shared → Prop}
end

section
variable {X : Cx}
end
end L2

namespace L2
open PySem PySem.Spec PyProof.Rows

theorem boot_reversed5 : bootBuiltins "reversed" = some (.type "reversed") := by decide +kernel

section
variable {X : Cx} {pins : List (Addr × Obj)} {σ : St} {H : Hp} {s : Shared} {h' : Heap}
/-- several records of ours have turned -/
theorem Inv.turnedL {t' : Nat} {ch : List Addr} (I : Inv X pins σ H s) (k : ∀ b o, b ∉ ch → s.heap.get? b = some o → h'.get? b = some o) (hf : ∀ b ∈ ch, FpOk X pins H b) : Inv X pins σ H { s with heap := h', toks := t' } := by
  have nit : ∀ b u, H b = some u → b ∉ ch := fun b u e z => by
    have q := (hf b z).1
    rw [q] at e; cases e
  refine I.step (g' := s.gens) (d' := s.drawn) (ch := ch) (fun b hb => ⟨(hf b hb).2.2.2.1, (hf b hb).2.1, (hf b hb).2.2.2.2.1, (hf b hb).2.2.2.2.2⟩) (fun b o _ _ hc e _ => k b o hc e) (fun b o _ _ hc e _ => ⟨o.slots, k b o hc e⟩)
    (fun _ _ _ _ n => n) (fun b o hc e => ⟨o, k b o hc e⟩) (fun _ _ e => e) (fun _ _ _ e => e) (fun b ps e => ⟨#[], by rw [e]; simp⟩) (fun m hm => ?_) (fun b u e => ?_) I.bare
  · obtain ⟨o, es, ep, ho, r⟩ := hm
    exact ⟨o, es, ep, k _ o (fun z => (hf _ z).2.1 rfl) ho, r⟩
  · refine (I.hok b u e).stay (fun c v hc q => k c v ?_ q) (fun _ q => q) fun _ _ q => q
    rcases hc with z | z
    · rw [z]; exact nit b u e
    · exact nit c _ z
/-- .. and one new object is laid -/
theorem Inv.turnedNew {t' : Nat} {ch : List Addr} {T : Addr} {ob : HO} (I : Inv X pins σ H s) (k : ∀ b o, b ∉ ch → s.heap.get? b = some o → h'.get? b = some o) (hf : ∀ b ∈ ch, FpOk X pins H b) (hT : s.heap.objs.size ≤ T)
    (new : ObjOk X.prog X.w (upd H T ob) h' T ob) : Inv X pins σ (upd H T ob) { s with heap := h', toks := t' } := by
  have hn : H T = none := I.hok.fresh hT
  have nit : ∀ b u, H b = some u → b ∉ ch := fun b u e z => by
    have q := (hf b z).1
    rw [q] at e; cases e
  refine I.step (g' := s.gens) (d' := s.drawn) (ch := ch) (fun b hb => ⟨(hf b hb).2.2.2.1, (hf b hb).2.1, (hf b hb).2.2.2.2.1, (hf b hb).2.2.2.2.2⟩) (fun b o _ _ hc e _ => k b o hc e) (fun b o _ _ hc e _ => ⟨o.slots, k b o hc e⟩)
    (fun b o _ e n => ?_) (fun b o hc e => ⟨o, k b o hc e⟩) (fun b xs e => ?_) (fun b o u e => ?_) (fun b ps e => ⟨#[], ?_⟩) (fun m hm => ?_) (fun b u e => ?_) I.bare
  · rw [upd_ne (Nat.ne_of_lt (Nat.lt_of_lt_of_le (Heap.lt_size e) hT))]; exact n
  · rw [upd_ne (ne_of_none e hn)]; exact e
  · rw [upd_ne (ne_of_none e hn)]; exact e
  · rw [upd_ne (ne_of_none e hn), e]; simp
  · obtain ⟨o, es, ep, ho, r⟩ := hm
    exact ⟨o, es, ep, k _ o (fun z => (hf _ z).2.1 rfl) ho, r⟩
  · by_cases hb : b = T
    · subst hb
      rw [upd_same] at e
      cases e
      exact new
    · rw [upd_ne hb] at e
      refine (I.hok b u e).stay (fun c v hc q => k c v ?_ q) (fun c q => by rw [upd_ne (ne_of_none q hn)]; exact q) fun c xs q => by rw [upd_ne (ne_of_none q hn)]; exact q
      rcases hc with z | z
      · rw [z]; exact nit b u e
      · exact nit c _ z

/-! ### locking a thing while a statement runs -/
theorem Inv.lock {d : Addr} {u : HO} (I : Inv X pins σ H s) (h : H d = some u) (mu : Mut (some u)) : ∃ od, Inv X pins σ (upd H d (.frz od u)) s := by
  have x := I.hok d u h
  have ex : ∃ od, s.heap.get? d = some od := by
    cases u with
    | lst xs => obtain ⟨_, _, _, _, e⟩ := x; exact ⟨_, e⟩
    | dK kvs => obtain ⟨_, _, _, _, o, _, _, e, _⟩ := x; exact ⟨o, e⟩
    | dT kvs => obtain ⟨_, _, _, _, o, _, _, e, _⟩ := x; exact ⟨o, e⟩
    | set S n => obtain ⟨o, _, _, _, e, _⟩ := x; exact ⟨o, e⟩
    | ins C dx fs => obtain ⟨_, _, _, e, _⟩ := x; exact ⟨_, e⟩
    | ext φ => obtain ⟨_, ⟨_, e⟩, _⟩ := x; exact ⟨_, e⟩
    | _ => exact False.elim mu
  obtain ⟨od, e⟩ := ex
  have new : ObjOk X.prog X.w (upd H d (.frz od u)) s.heap d (.frz od u) := by
    refine ⟨e, x.stay (fun b v _ q => q) (fun b q => ?_) fun b xs q => ?_⟩
    · rw [upd_ne (fun z => by rw [z, h] at q; cases q; exact mu)]; exact q
    · rw [upd_ne (fun z => by rw [z, h] at q; cases q; exact mu)]; exact q
  exact ⟨od, I.write (x := d) (e := d) (t' := s.toks) (h' := s.heap) (by rw [h]; exact mu) (.inl rfl) (fun b v _ q => q) ⟨od, e⟩ new⟩
theorem Inv.nofrz {d : Addr} {u : HO} (I : Inv X pins σ H s) (h : H d = some u) (mu : Mut (some u)) : ∀ o' u', X.H_0 d ≠ some (.frz o' u') := fun o' u' e => by
  have q := I.base.frzs d o' u' e
  rw [h] at q
  cases q
  exact mu
theorem Inv.unlock {d : Addr} {od : Obj} {u : HO} (I : Inv X pins σ H s) (h : H d = some (.frz od u)) (hn : ∀ o' u', X.H_0 d ≠ some (.frz o' u')) : Inv X pins σ (upd H d u) s := by
  have neH : ∀ b o, H b = some o → (∀ o' u', o ≠ .frz o' u') → b ≠ d := fun b o e hne z => by
    rw [z, h] at e
    cases e
    exact hne _ _ rfl
  have neN : ∀ b, H b = none → b ≠ d := fun b e z => by rw [z, h] at e; cases e
  refine ⟨I.ok, I.os, I.bare, ⟨I.base.keep, I.base.slot, fun b o e n hx => ?_, I.base.there, fun b xs e => ?_, fun b o x e => ?_, fun b ps e => ?_⟩, I.loc, I.cell, ?_, fun x c e => ?_, fun p hp => ?_, fun b o e => ?_, I.len⟩
  · rw [upd_ne (neN b (I.base.free b o e n hx))]; exact I.base.free b o e n hx
  · have q := I.base.tups b xs e
    rw [upd_ne (neH b _ q (fun _ _ z => nomatch z))]; exact q
  · have q := I.base.frzs b o x e
    rw [upd_ne (fun z => by rw [z] at e; exact hn _ _ e)]; exact q
  · obtain ⟨m, q⟩ := I.base.tbls b ps e
    exact ⟨m, by rw [upd_ne (neH b _ q (fun _ _ z => nomatch z))]; exact q⟩
  · rw [upd_ne (neN _ I.free)]; exact I.free
  · rw [upd_ne (neN c (I.freeC x c e))]; exact I.freeC x c e
  · obtain ⟨e, n, r⟩ := I.pin p hp
    exact ⟨e, by rw [upd_ne (neN _ n)]; exact n, r⟩
  · by_cases hb : b = d
    · rw [hb, upd_same] at e
      cases e
      rw [hb]
      obtain ⟨_, x⟩ := I.hok d _ h
      exact x.stay (fun c v _ q => q) (fun c q => by rw [upd_ne (neH c _ q (fun _ _ z => nomatch z))]; exact q) fun c xs q => by rw [upd_ne (neH c _ q (fun _ _ z => nomatch z))]; exact q
    · rw [upd_ne hb] at e
      exact (I.hok b o e).stay (fun c v _ q => q) (fun c q => by rw [upd_ne (neH c _ q (fun _ _ z => nomatch z))]; exact q) fun c xs q => by rw [upd_ne (neH c _ q (fun _ _ z => nomatch z))]; exact q
end
def tLockE (t : TE) : TE := fun σ H Q => ∃ d u, H d = some u ∧ Mut (some u) ∧ ∀ od, t σ (upd H d (.frz od u)) fun v H' => H' d = some (.frz od u) ∧ Q v (upd H' d u)
section
variable {X : Cx}
theorem pe_lock {e : Expr} {t : TE} (h : PE X e t) : PE X e (tLockE t) := by
  intro pins s σ H Q I hw
  obtain ⟨d, u, hd, mu, hw⟩ := hw
  obtain ⟨od, I1⟩ := I.lock hd mu
  refine thn (h pins s σ _ _ I1 (hw od)) fun v s1 ⟨x, H1, I2, r, e2, q⟩ => ?_
  exact ⟨x, _, I2.unlock e2 (I.nofrz hd mu), r, q⟩

/-! ### one iterator just laid -/
theorem pi_one {tg : Expr} {pins : List (Addr × Obj)} {σ : St} {H : Hp} {s : Shared} {R : It → Hp → Prop} {J : It} {tn : Nat → Heap → Prop} {tk : Nat} (I : Inv X pins σ H s) (o : Obj)
    (T : Turn X.prog X.w X.K tg J [s.heap.objs.size] s.heap.objs.size tn) (st : tn 0 (s.heap.push o)) (q : R J H) : PIE X pins σ tg R (.ref s.heap.objs.size) { s with heap := s.heap.push o, toks := tk } := by
  refine ⟨s.heap.objs.size, [s.heap.objs.size], tn, J, H, rfl, I.kept fun b ob e => Heap.get?_push_of_some _ e, T, st, fun b hb => ?_, q⟩
  have e : b = s.heap.objs.size := by simpa using hb
  subst e
  exact I.fpOk (Nat.le_refl _) (I.hok.fresh (Nat.le_refl _))
end

/-! ### range with a step -/
/-- lo, lo + c, .. (n of them) -/
def Itc (lo c : Int) (n : Nat) : It := ⟨fun i _ => i < n, fun i H x H' => H' = H ∧ x = .int (lo + (i : Nat) * c), fun i _ => n ≤ i⟩
theorem turn_rangeC {P : Program} {w : World} {K : PySem.W.Frag} {tg : Expr} (it : Addr) (lo c : Int) (n : Nat) : Turn P w K tg (Itc lo c n) [it] it (fun i h => IsRangeIter h it (lo + (i : Nat) * c) ((n : Int) - (i : Nat)) c) where
  mem := by simp
  obj := fun i h st b hb => by
    have e : b = it := by simpa using hb
    subst e
    exact ⟨_, st, fun v z => nomatch z⟩
  keep := fun i h h' st k => k it (by simp) _ st
  item := by
    intro X hP hw hK hc i pins s σ H E I hf st hg
    subst hP hw hK
    obtain ⟨f0, f1, f2, f3, f4, f5⟩ := hf it (by simp)
    have W := Walks.range (prog := X.prog) (w := X.w) (I.ok.hd hc) it lo c n
    refine W.item i s _ _ hg st fun v h' tk hv st' kk => ?_
    obtain ⟨t, rfl⟩ := hv
    have I1 : Inv X pins σ H { s with heap := h', toks := tk } := I.turned (fun b o hb e => kk b o (by simpa using hb) e) f0 f1 f3 f4 f5
    exact ⟨_, rfl, go_of (s := { s with heap := h', toks := tk }) (n := "range_iterator") st' rfl rfl (by decide) ⟨.int (lo + (i : Nat) * c), H, I1, ⟨t, rfl⟩, ⟨rfl, rfl⟩, st', fun b hb => (hf b hb).1⟩⟩
  done := by
    intro X hP hw hK hc i pins s σ H E I hf st hg
    subst hP hw hK
    obtain ⟨f0, f1, f2, f3, f4, f5⟩ := hf it (by simp)
    exact wpAny_pyNext_range_end (I.ok.hd hc) st (by have : n ≤ i := hg; omega) fun h' eb => ⟨rfl, I.turned (t' := s.toks) (fun b o hb e => eb b o hb e) f0 f1 f3 f4 f5⟩
  self := fun A i s Q E st h => wpAny_pyIter_rangeiter st h
/-- range(i, j, c): small bounds, n items -/
def RgC (i j c : Int) (n : Nat) : Prop := c ≠ 0 ∧ c.natAbs < 1073741824 ∧ Builtin.Range.small i j c = true ∧ Builtin.Range.rangeSize i j c = n
theorem RgC.neg {i j : Int} (ha : -(2 ^ 62) ≤ i) (ha' : i < 2 ^ 62) (hb : -(2 ^ 62) ≤ j) (hb' : j < 2 ^ 62) : RgC i j (-1) (i - j).toNat :=
  ⟨by decide, by decide, PySem.W.small_down ha ha' hb hb', PySem.W.rangeSize_downNat i j⟩
def iRng3 (ta : TA) : TI := fun σ H R => ta σ H fun vs H1 => ∃ (i j c : Int) (n : Nat), vs = [.int i, .int j, .int c] ∧ RgC i j c n ∧ R (Itc i c n) H1
section
variable {X : Cx} {tg : Expr}
theorem pi_range3 {a b c : Expr} {ta : TA} {p pos : Pos} (hg : Gl X "range") (hm : X.mg "range" = none) (ha : PA X [a, b, c] ta)
    (hs : starEach [a, b, c] X.env = (false, eval a X.env) :: starEach [b, c] X.env := by rfl) (hpl : (backTo pos (starEach [b, c] X.env)).any (·.1) = false := by rfl) :
    PI X tg (.Call (.Name "range" p) [a, b, c] [] pos) (iRng3 ta) := by
  intro pins s σ H R I h
  refine Call_ (ld_blt I hg hm boot_range (PyProof.Rows.callWith_type1 (thn (ha pos pins s σ H _ I h) fun us s1 ⟨vs, H1, I1, r1, q1⟩ => ?_) hs hpl))
  obtain ⟨i, j, k, n, e, ⟨c0, c1, c2, c3⟩, q⟩ := q1
  subst e
  cases r1 with
  | cons r rr =>
    cases rr with
    | cons r' rr =>
      cases rr with
      | cons r'' rr =>
        cases rr
        obtain ⟨t, rfl⟩ := r
        obtain ⟨t', rfl⟩ := r'
        obtain ⟨t'', rfl⟩ := r''
        refine call_range_3 c0 ?_ (.inl (PyProof.noPylong_small c1))
        refine wpAny_pyIter_range (IsRange.new ..) c2 ?_
        have I2 : Inv X pins σ H1 { s1 with heap := s1.heap.push { cls := .type "range", data := .fields #[.int i t, .int j t', .int k t''] } } := I1.kept (t' := s1.toks) fun b o e => Heap.get?_push_of_some _ e
        refine pi_one (tk := s1.toks) I2 _ (turn_rangeC _ i k n) ?_ q
        have e1 : i + ((0 : Nat) : Int) * k = i := by simp
        have e2 : (n : Int) - ((0 : Nat) : Int) = Builtin.Range.rangeSize i j k := by rw [c3]; simp
        show IsRangeIter _ _ (i + ((0 : Nat) : Int) * k) ((n : Int) - ((0 : Nat) : Int)) k
        rw [e1, e2]
        exact Heap.get?_push_size _ rfl
end
/-- the turns of a step range, for the for loop -/
theorem for_rangeC {lo c : Int} {n : Nat} {g : TG} {tb : TS} {D : Ends} {σ : St} {H : Hp} (Pv : Nat → St → Hp → Prop) (h0 : Pv 0 σ H)
    (hs : ∀ i σ H, i < n → Pv i σ H → g (.int (lo + (i : Nat) * c)) σ H fun σ2 H2 => tb { D with nx := Pv (i + 1), ct := Pv (i + 1), bk := D.nx } σ2 H2) (hd : ∀ σ H, Pv n σ H → D.nx σ H) :
    ∃ W : Nat → Nat → St → Hp → Prop, (∃ m, W 0 m σ H) ∧ ∀ i m σ H, W i m σ H →
      ((Itc lo c n).stop i H ∧ D.nx σ H) ∨ ((Itc lo c n).go i H ∧ ∃ N : St → Hp → Prop, (∀ σ' H', N σ' H' → ∃ m', m' < m ∧ W (i + 1) m' σ' H') ∧ ∀ x H', (Itc lo c n).yld i H x H' → g x σ H' fun σ2 H2 => tb { D with nx := N, ct := N, bk := D.nx } σ2 H2) := by
  refine ⟨fun i m σ H => m = n - i ∧ i ≤ n ∧ Pv i σ H, ⟨n, by simp, Nat.zero_le _, h0⟩, ?_⟩
  rintro i m σ H ⟨rfl, hi, p⟩
  by_cases hlt : i < n
  · refine .inr ⟨hlt, Pv (i + 1), fun σ' H' p' => ⟨n - (i + 1), by omega, rfl, hlt, p'⟩, fun x H' y => ?_⟩
    obtain ⟨e, y⟩ := y
    subst e y
    exact hs i σ _ hlt p
  · have e : i = n := by omega
    subst e
    exact .inl ⟨Nat.le_refl _, hd σ H p⟩

/-! ### reversed(list) -/
/-- the list at a (n items at the start, which the loop leaves there), from its end -/
def Itv (K : PySem.W.Frag) (a : Addr) (n : Nat) : It :=
  ⟨fun i H => i < n ∧ ∃ (xs : List V) (x : V), SqL K H a xs ∧ xs[n - 1 - i]? = some x, fun i H x H' => H' = H ∧ ∀ xs, SqL K H a xs → xs[n - 1 - i]? = some x, fun i _ => n ≤ i⟩
theorem turn_rev {P : Program} {w : World} {K : PySem.W.Frag} {tg : Expr} (a it : Addr) (n : Nat) : Turn P w K tg (Itv K a n) [it] it (fun i h => i ≤ n ∧ h.IsRevIter it a ((n : Int) - 1 - (i : Nat))) where
  mem := by simp
  obj := fun i h st b hb => by
    have e : b = it := by simpa using hb
    subst e
    obtain ⟨_, o, e, c, d⟩ := st
    exact ⟨o, e, fun v z => by rw [d] at z; cases z⟩
  keep := fun i h h' st k => ⟨st.1, st.2.at fun o e => k it (by simp) o e⟩
  item := by
    intro X hP hw hK hc i pins s σ H E I hf st hg
    subst hP hw hK
    obtain ⟨hin, xs, x, hq, hx⟩ := hg
    obtain ⟨its, rv, p, hz⟩ := I.list hq
    obtain ⟨u, hu, ru⟩ := rv.get hx
    obtain ⟨f0, f1, f2, f3, f4, f5⟩ := hf it (by simp)
    obtain ⟨_, hit⟩ := st
    have e1 : (n : Int) - 1 - ((i : Nat) : Int) = ((n - 1 - i : Nat) : Int) := by omega
    rw [e1] at hit
    refine wpAny_pyNext_rev_item hit p.isList (x := u) (by simpa using hu) fun h' st' sb => ?_
    have e2 : ((n - 1 - i : Nat) : Int) - 1 = (n : Int) - 1 - ((i + 1 : Nat) : Int) := by omega
    rw [e2] at st'
    have I1 : Inv X pins σ H { s with heap := h' } := I.turned (t' := s.toks) (fun b o hb e => (sb.2 b hb).trans e) f0 f1 f3 f4 f5
    obtain ⟨o, e, c, d⟩ := id st'
    exact ⟨u, rfl, go_of (s := { s with heap := h' }) e c d (by decide) ⟨x, H, I1, ru, ⟨rfl, fun ys hy => by rw [I.list_inj hy hq]; exact hx⟩, ⟨hin, st'⟩, fun b hb => (hf b hb).1⟩⟩
  done := by
    intro X hP hw hK hc i pins s σ H E I hf st hg
    subst hP hw hK
    obtain ⟨f0, f1, f2, f3, f4, f5⟩ := hf it (by simp)
    obtain ⟨hin, hit⟩ := st
    have hge : n ≤ i := hg
    have e1 : (n : Int) - 1 - ((i : Nat) : Int) = -1 := by omega
    rw [e1] at hit
    exact wpAny_pyNext_rev_end (I.ok.hd hc) hit fun h' eb => ⟨rfl, I.turned (t' := s.toks) (fun b o hb e => eb b o hb e) f0 f1 f3 f4 f5⟩
  self := fun A i s Q E st h => wpAny_pyIter_revIter st.2 h
def iRev (K : PySem.W.Frag) (ta : TA) : TI := fun σ H R => ta σ H fun vs H1 => ∃ (a : Addr) (xs : List V), vs = [.ref a] ∧ SqL K H1 a xs ∧ R (Itv K a xs.length) H1
section
variable {X : Cx} {tg : Expr}
theorem pi_reversed {e : Expr} {ta : TA} {p pos : Pos} (hg : Gl X "reversed") (hm : X.mg "reversed" = none) (ha : PA X [e] ta) (hs : starEach [e] X.env = [(false, eval e X.env)] := by rfl) : PI X tg (.Call (.Name "reversed" p) [e] [] pos) (iRev X.K ta) := by
  intro pins s σ H R I h
  refine Call_ (ld_blt I hg hm boot_reversed5 (PyProof.Rows.callWith_type1 (thn (ha pos pins s σ H _ I h) fun us s1 ⟨vs, H1, I1, r1, q1⟩ => ?_) hs rfl))
  obtain ⟨a, xs, e, hq, q⟩ := q1
  subst e
  cases r1 with
  | cons r rr =>
    cases rr
    cases r
    obtain ⟨its, rv, p', hz⟩ := I1.list hq
    have hl := rv.length
    have e1 : ((its.toArray.size : Nat) : Int) - 1 = (xs.length : Int) - 1 - ((0 : Nat) : Int) := by simp only [List.size_toArray]; omega
    refine call_reversed_list p'.isList (wpAny_pyIter_revIter (l := a) (i := ((its.toArray.size : Nat) : Int) - 1) ⟨_, Heap.get?_push_size _ rfl, rfl, rfl⟩ ?_)
    refine pi_one (tk := s1.toks) I1 _ (turn_rev a _ xs.length) ⟨Nat.zero_le _, ?_⟩ q
    rw [← e1]
    exact ⟨_, Heap.get?_push_size _ rfl, rfl, rfl⟩
end

/-! ### a str -/
/-! ### a dict's keys: any dict's entries -/
section
variable {prog : Program} {w : World} {A : Around} {E : Value → Shared → Prop} {s : Shared}
end

/-! ### a locked dict -/
theorem paired_get {α β : Type} {G : α → β → Prop} {l₁ : List α} {l₂ : List β} (h : Paired G l₁ l₂) : ∀ {i : Nat} {a : α}, l₁[i]? = some a → ∃ b, l₂[i]? = some b ∧ G a b := by
  induction h with
  | nil => intro i a e; simp at e
  | @cons a b l₁ l₂ r t ih =>
    intro i a' e
    cases i with
    | zero =>
      simp only [List.getElem?_cons_zero, Option.some.injEq] at e
      subst e
      exact ⟨b, rfl, r⟩
    | succ j =>
      simp only [List.getElem?_cons_succ] at e ⊢
      exact ih e
section
variable {X : Cx} {pins : List (Addr × Obj)} {σ : St} {H : Hp} {s : Shared} {d : Addr} {o : Obj}
end

theorem dict_ep {o : Obj} {es es' : Array DictEntry} {ep ep' : Nat} (h : o.data = .dict es ep) (h' : o.data = .dict es' ep') : es' = es ∧ ep' = ep := by
  rw [h] at h'
  cases h'
  exact ⟨rfl, rfl⟩
section
variable {P : Program} {w : World} {K : PySem.W.Frag} {tg : Expr} {d : Addr} {o : Obj} {es : Array DictEntry} {ep : Nat}
end

/-! ### for k in d, d.keys(), d.values(), d.items() -/
section
variable {X : Cx} {tg e : Expr} {td : TE} {apos cpos : Pos}
end

/-! ### enumerate(list) -/
/-! ### zip(list, list) -/
theorem boot_zip5 : bootBuiltins "zip" = some (.type "zip") := by decide +kernel
end L2

section 
namespace Bits
open PySem PyProof.Rows

end Bits
end 

section 
namespace TL
open PySem PySem.Builtin PySem.Builtin.Str PySem.StrLaws

abbrev tl (x : Str) : List Nat := x.cps.toList
/-! ### the list functions -/
/-- S stands at the head of l -/
def pre (S l : List Nat) : Bool := l.take S.length == S
/-- l cut at each S from the left; k signs are still to be passed over -/
def spl (S : List Nat) : Nat → List Nat → List Nat → List (List Nat)
  | _, acc, [] => [acc]
  | 0, acc, c :: r => if pre S (c :: r) = true then acc :: spl S (S.length - 1) [] r else spl S 0 (acc ++ [c]) r
  | k + 1, acc, _ :: r => spl S k acc r
/-- what stands before the first S, and behind it -/
def par (S : List Nat) : List Nat → List Nat → Option (List Nat × List Nat)
  | _, [] => none
  | acc, c :: r => if pre S (c :: r) = true then some (acc, (c :: r).drop S.length) else par S (acc ++ [c]) r

/-! ### the model's split and partition are these -/
/-! ### computing spl and par -/
/-- joined lists -/
def joinL (S : List Nat) : List (List Nat) → List Nat
  | [] => []
  | [p] => p
  | p :: q :: r => p ++ (S ++ joinL S (q :: r))
/-! ### digits -/
/-! ### words: x.split() -/
end TL
end 

namespace L2
open PySem PySem.Spec PyProof.Rows

section
variable {X : Cx} {pins : List (Addr × Obj)} {σ : St} {H : Hp} {s : Shared} {Q : VK}
end

section
variable {X : Cx}

/-! ### of a text alone -/
/-! ### of a text and a text -/
end

section
variable {X : Cx} {o e : Expr} {to te : TE}
end
end L2

namespace L2
open PySem PySem.Spec PyProof.Rows

section
variable {X : Cx}
end

/-! ### slices of a text -/
theorem IsPart.raw {v : Value} {o : Option Int} (p : IsPart v o) : ∃ l : Option (Int × Tok), v = partValue l ∧ l.map (·.1) = o := by
  cases p with
  | none => exact ⟨none, rfl, rfl⟩
  | int i t => exact ⟨some (i, t), rfl, rfl⟩

end L2

namespace Att
open PySem PySem.W PySem.Calls PyProof.Rows

/-! ### the script -/
theorem ints_of_wellAll {P : Params} {h : Heap} : ∀ (ns : List Int) (vs : List Value), WellAll P h vs (ns.map WData.int) → IntsAre vs ns := by
  intro ns
  induction ns with
  | nil =>
    intro vs w
    rw [List.map_nil] at w
    cases w
    exact .nil
  | cons n ns ih =>
    intro vs w
    rw [List.map_cons] at w
    cases w with
    | cons a b =>
      cases a
      exact .cons _ _ (ih _ b)

theorem script_of {l : OpenLaw} {n : Nat} (hn : l.most = some n) {P : Params} {h : Heap} {args : List WData} {vals : List Value}
    (hpre : l.row.toRowW.claim.pre args = true) (hwl : WellAll P h vals args) :
    ∃ a vs ns, vals = [Value.ref a] ∧ args = [WData.list (ns.map WData.int)] ∧ h.get? a = some { cls := .type "list", data := .seq vs.toArray } ∧ IntsAre vs ns ∧ ns.length ≤ n := by
  have hsh : WShape.hasAll [] args [.list .int] = true := (pre_splitW hpre).1
  have hc : l.pre.holds [] { args := args } = true := (pre_splitW hpre).2
  obtain ⟨d, r, rfl, h1, h2⟩ := hasAllW_cons hsh
  obtain rfl := hasAllW_nil h2
  obtain ⟨xs, rfl, h3⟩ := hasW_list h1
  obtain ⟨ns, rfl⟩ := items_int h3
  have hlen : ns.length ≤ n := by
    unfold OpenLaw.pre at hc
    have h4 : (WTm.not (.lt (.lit (.int (n : Int))) (.len (.arg 0)))).holds [] { args := [.list (ns.map .int)] } = true := by
      have h4 := (holds_andW hc).1
      rw [hn] at h4
      exact h4
    have h5 := condW_of h4 (w_not (w_lt w_lit (w_len_list (w_arg rfl))))
    rw [List.length_map] at h5
    refine Nat.le_of_not_lt fun q => ?_
    have q' : (n : Int) < ((ns.length : Nat) : Int) := by omega
    first
      | (rw [decide_eq_true q'] at h5; exact absurd h5 (by decide))
      | (simp at h5; omega)
  cases hwl with
  | cons w1 w2 =>
    cases w2
    cases w1 with
    | list ho hall => exact ⟨_, _, ns, rfl, rfl, ho, ints_of_wellAll ns _ hall, hlen⟩

theorem post_true (l : OpenLaw) (args : List WData) : l.row.toRowW.claim.post args (.bool true) args = true :=
  postW_of (r := l.row.toRowW) (X := (true == true))
    (show WShape.has [] (.bool true) .bool = true by first | rfl | decide | simp [WShape.has, WShape.arms, WShape.armsAll])
    (show (WTm.eq .res (.lit (.bool true))).value [] { args := args, res := some (.bool true), after := args } = some (.bool (true == true)) from w_eq_bool (w_res rfl) w_lit) rfl

/-! ### the attachment: holds_open's last premise (the goal 'hc' behind k_head) from a wpAny of the law's body -/
/-- the same from a codeAny of the CALL (for a layer whose function contracts speak of calls) -/
theorem attach_call {l : OpenLaw} {n : Nat} {q : Program} {loose : List Str} {XP : (Str → Option Value) → Heap → Prop} {YP : World → Heap → Prop} {d : DefRec}
    (hn : l.most = some n) (hdf : d.params.defaults = [])
    (call : ∀ (w : World) (s₀ s₁ : Shared) (mg mb : Str → Option Value) (fa : Addr) (o : Obj) (pm cd doc : Value) (a : Addr) (vs : List Value) (ns : List Int),
      Ground q loose [] XP w s₀ mg mb s₁.heap → YP w s₁.heap →
      s₁.heap.get? fa = some o → o.data = .func (docDef d.name d.params d.body d.scope pm cd doc) → s₁.heap.CodeRec cd d.name → mg d.name = some (.ref fa) →
      s₁.heap.get? a = some { cls := .type "list", data := .seq vs.toArray } → IntsAre vs ns → ns.length ≤ n → s₁.gens = #[] →
      codeAny (model l.prog w) callerA (.call (.ref fa) ⟨[.ref a], []⟩) (fun r s' => r = .ok (.ret (.bool true)) ∧ OldK s₁.heap s'.heap ∧ s'.os = s₁.os ∧ AllBare s'.gens) s₁) :
    WalkO q loose XP YP l.row.toRowW d [] (fun f vs => PySem.call f vs) := by
  intro w s₀ s₁ mg mb G Y fa o pm cd doc dV kV ho hd hcd hD hmg hg args vals as hpre hlay hrd hwl hlo
  obtain rfl : dV = .none := Dflts.none hD hdf
  obtain rfl : kV = .none := Dflts.noKw hD
  obtain ⟨a, vs, ns, rfl, rfl, hobj, hints, hlen⟩ := script_of hn hpre hwl
  refine enter_call (codeAny_mono (call w s₀ s₁ mg mb fa o pm cd doc a vs ns G Y ho (fd_plain hd) hcd hmg hobj hints hlen hg) fun r s' hq => ?_)
  obtain ⟨rfl, h2, h3, h4⟩ := hq
  exact ⟨.inl ⟨.bool true, .bool true, [], rfl, fun _ => rfl, .bool true, post_true l _, fun _ => ⟨List.Pairwise.nil, fun _ hm => (nomatch hm)⟩⟩, h2, h3, h4⟩

/-! ### rules over ANY heap (no ledger) from facts about the written part K: the library's own take a ledger (News) for what they write -/
section
variable {prog : Program} {w : World} {A : Around} {E : Value → Shared → Prop} {s : Shared} {K : Frag}

/-! the whole heap as the ledger: makes every rule that writes through a ledger a rule over any heap -/
def ledger (h : Heap) (L d : Addr) : List (Addr × Obj) := (List.range h.objs.size).filterMap fun a => if a = L ∨ a = d then none else (h.get? a).map fun o => (a, o)
end
end Att

namespace L2
open PySem PySem.Spec PyProof.Rows

theorem vals_ints : ∀ {vs : List Value} {ns : List Int}, IntsAre vs ns → Vals (ns.map V.int) vs
  | _, _, .nil => .nil
  | _, _, .cons n t h => .cons ⟨t, rfl⟩ (vals_ints h)

end L2

namespace L2
open PySem PySem.Spec PyProof.Rows

abbrev KOf {K : PySem.W.Frag} {h : Heap} (_ : K.In h) : PySem.W.Frag := K

end L2

/- THE LAST THEOREM (shape; LID, My.* are yours):
   My.Adr: a structure of the addresses that your layer names (classes, functions); My.Txt K t: a structure (Prop) of the equations over K;
   My.txt_mk : {K} {implicit addresses ..} (e1 : nsIn K mainGlobals "law" = some (some (.ref f))) (e2 : K.lookup f = some ⟨oc, od, .func (fnOf "law" "law" params body scope dV kV doc pm an cdv ct), sl⟩) (e3 : codeIn K cdv "law" = true) .. : ∃ t, My.Txt K t

set_option maxRecDepth 100000 in
set_option maxHeartbeats 0 in
theorem PySem.Challenge.cw_LID_holds : PySem.Challenge.rw_LID.Holds := by
  w_on; o_law; k_head; (case hw => w_witness2)
  k_fill
  refine L2.walk_of (l := PySem.Challenge.rw_LID) (n := 63) (k := 40) (x := "script") (CX := fun w => ..) (sp := fun _ => My.sp_law) rfl (by decide) rfl ⟨rfl, by decide, by decide⟩ (fun w h Y => PySem.W.kIn_of Y) ?F ?S ?C
  case F =>
    intro w mg fa h KX G hmg
    have T : ∃ t, My.Txt (L2.KOf KX) t := by
      dsimp only [L2.KOf]                          -- K must stand as «<heap const> w.params» for k_is
      refine' My.txt_mk ?e1 ?e2 ?e3 ..
      (case e1 => PySem.W.k_is)                    -- in the order: a name -> its address -> its object -> its parts
      (case e2 => PySem.W.k_is)
      ..
    obtain ⟨t, T⟩ := T
    have e0 := hmg.symm.trans (PySem.W.mg_of KX G T.law)
    cases e0                                       -- fa is the law's own address
    exact ⟨_, fun s u => .of_eq rfl, fun base kb nb => My.law_fn T kb nb⟩     -- if «.of_eq rfl» comes too early: refine' ⟨_, ?b, fun base kb nb => My.law_fn T kb nb⟩; exact fun s u => .of_eq rfl
  case S => exact fun w H a ns hl hO hS => ..
  case C => exact ..
(the tactic k_is has no namespace: write k_is) -/

/-! SHORT WORDS over the layer: a def of the text, its body, what a loop and a test want. -/
namespace L2
open PySem PySem.Spec PyProof.Rows

/-! ### the text by places -/
def defArgs (s : Stmt) : Arguments := match s with
  | .FunctionDef _ a _ _ _ _ _ _ _ _ => a
  | _ => { posonlyargs := [], args := [], vararg := none, kwonlyargs := [], kw_defaults := [], kwarg := none, defaults := [] }
def defBody (s : Stmt) : List Stmt := match s with
  | .FunctionDef _ _ b _ _ _ _ _ _ _ => b
  | _ => []
def defScope (s : Stmt) : Scope := match s with
  | .FunctionDef _ _ _ _ _ _ sc _ _ _ => sc
  | _ => { kind := .function, names := [], isGenerator := false, isCoroutine := false }

/-! ### no exception leaves a def -/
abbrev CXq (gq : Array GenState → Drawn → Prop) : CXT := ⟨gq, False, fun _ _ _ _ _ _ => False⟩
abbrev CXr (gq : Array GenState → Drawn → Prop) : CXT := ⟨gq, True, fun _ _ _ _ _ _ => False⟩
abbrev Bare : Array GenState → Drawn → Prop := fun g _ => AllBare g
abbrev CX0 : CXT := CXq Bare
abbrev E0 : XK := fun _ _ _ => False
theorem pass0 {X : Cx} {gq : Array GenState → Drawn → Prop} (h : gq = X.gq := by rfl) : Passes (CXq gq) X E0 := ⟨h, False.elim, fun _ _ _ _ _ _ _ h => h.elim⟩
theorem passR {X : Cx} {gq : Array GenState → Drawn → Prop} (hf : X.fr) (h : gq = X.gq := by rfl) : Passes (CXr gq) X E0 := ⟨h, fun _ => hf, fun _ _ _ _ _ _ _ h => h.elim⟩

/-! ### a def (or method) of the text as it stands behind the top -/
structure Fun (K : PySem.W.Frag) (x qual : Str) (st : Stmt) (f : Addr) (fd : FuncData) : Prop where
  ex : ∃ (oc : Value) (od : Option Addr) (kV doc pm : Value) (an : Option Addr) (cdv ct : Value) (osl : Array (Option Value)),
    fd = PySem.W.fnOf x qual (defArgs st) (defBody st) (defScope st) .none kV doc pm an cdv ct ∧ K.lookup f = some ⟨oc, od, .func fd, osl⟩ ∧ PySem.W.codeIn K cdv qual = true
  kp : PySem.W.keepIn K (.ref f) = true
section
variable {P : Program} {w : World} {K : PySem.W.Frag} {mg : Str → Option Value} {base : Heap} {gq : Array GenState → Drawn → Prop}
/-- THE RULE for a def: its body as a term of rules, and the reading of that term -/
theorem Fun.ok {x qual : Str} {st : Stmt} {f : Addr} {fd : FuncData} {N ps : List Str} {k : Nat} {sp : Sp} (F : Fun K x qual st f fd) (S : FnScope N ps (defScope st)) (len : ∀ vs H Q E, sp vs H Q E → vs.length = ps.length)
    (hbody : ∀ (cdv : Value) (A : Around) (outer : List Env) (s : Shared) (H : Hp) (vs : List V) (Q : VK) (E : XK), Room k (A.deeper (envOfC qual (defScope st) s.heap.objs.size f cdv)) → sp vs H Q E →
      ∃ t, PSs (cxOf (CXq gq) P w K mg base N qual (defScope st) f cdv A outer s H E).nox (defBody st) t ∧ t { nx := fun _ H' => Q .non H', rt := Q } (start N vs) H) : FnOk P w K mg base (CXq gq) (k + 1) f fd ps sp := by
  obtain ⟨oc, od, kV, doc, pm, an, cdv, ct, osl, rfl, lk, hcd⟩ := F.ex
  refine fn_of lk hcd S len fun A outer s H vs Q E hr hsp => ?_
  obtain ⟨t, h, q⟩ := hbody cdv A outer s H vs Q E hr hsp
  exact ⟨t, h.nox, q⟩
/-- how its arguments bind (no defaults): h is «fun _ _ _ _ _ _ us hl => match us, hl with | [_, _], _ => rfl», one _ a parameter -/
theorem Fun.binds {x qual : Str} {st : Stmt} {f : Addr} {fd : FuncData} {ps : List Str} (F : Fun K x qual st f fd)
    (h : ∀ (kV doc pm : Value) (an : Option Addr) (cdv ct : Value) (us : List Value), us.length = ps.length → bindArgs (PySem.W.fnOf x qual (defArgs st) (defBody st) (defScope st) .none kV doc pm an cdv ct) ⟨us, []⟩ = pure (ps.zip us)) : Binds K fd ps [] := by
  obtain ⟨oc, od, kV, doc, pm, an, cdv, ct, osl, rfl, lk, hcd⟩ := F.ex
  exact .all (h kV doc pm an cdv ct)
theorem fun_mk {x qual : Str} {st : Stmt} {f : Addr} {oc : Value} {od an : Option Addr} {osl : Array (Option Value)} {kV doc pm cdv ct : Value} (l : K.lookup f = some ⟨oc, od, .func (PySem.W.fnOf x qual (defArgs st) (defBody st) (defScope st) .none kV doc pm an cdv ct), osl⟩)
    (c : PySem.W.codeIn K cdv qual = true) (k : PySem.W.keepIn K (.ref f) = true) : Fun K x qual st f (PySem.W.fnOf x qual (defArgs st) (defBody st) (defScope st) .none kV doc pm an cdv ct) := ⟨⟨oc, od, kV, doc, pm, an, cdv, ct, osl, rfl, l, c⟩, k⟩
end
theorem hu_of {A : Around} {k : Nat} (hr : Room k A) : A.units + 1 < cLine := Nat.lt_of_le_of_lt (Nat.add_le_add_left (by decide : 1 ≤ 64) _) hr.units
theorem small1000 {n : Nat} (h : n ≤ 1000) : n < sizeLine := Nat.lt_of_le_of_lt h (by decide)

/-! ### expressions in short: the name that stands in the i-th slot -/
section
variable {X : Cx}
theorem pv (i : Nat) {x : Str} {pos : Pos} (hN : X.N[i]? = some x := by rfl) (hv : Vis X.env.scope x := by first | exact Or.inl rfl | exact Or.inr (Or.inl rfl) | exact Or.inr (Or.inr rfl)) (hd : (x == ("__debug__" : Str)) = false := by decide)
    (hcd : (x == ("__classdict__" : Str)) = false := by decide) : PE X (.Name x pos) (tVar i) := pe_var hN hv hd hcd
end

/-! ### tests -/
theorem iteF {A B : Prop} (h : B) : if false = true then A else B := by
  rw [if_neg Bool.false_ne_true]
  exact h
theorem iteT {A B : Prop} (h : A) : if true = true then A else B := by
  rw [if_pos rfl]
  exact h
theorem ite2 {c A B : Prop} [Decidable c] (h1 : c → A) (h2 : ¬ c → B) : if c then A else B := by
  by_cases h : c
  · rw [if_pos h]
    exact h1 h
  · rw [if_neg h]
    exact h2 h
/-! ### heaps -/
/-- all that was tracked is as it was -/
def Same (H H' : Hp) : Prop := ∀ b o, H b = some o → H' b = some o
theorem Same.refl (H : Hp) : Same H H := fun _ _ h => h
theorem Same.trans {H H1 H2 : Hp} (a : Same H H1) (b : Same H1 H2) : Same H H2 := fun c o h => b c o (a c o h)
theorem Same.free {H H' : Hp} (e : Same H H') {l : Addr} (h : H' l = Option.none) : H l = Option.none := by
  cases q : H l with
  | none => rfl
  | some o =>
    rw [e l o q] at h
    cases h
theorem Same.seq {K : PySem.W.Frag} {H H' : Hp} {a : Addr} {xs : List V} (e : Same H H') (h : SqL K H a xs) : SqL K H' a xs := by
  rcases h with (h | ⟨o, h⟩) | h
  · exact .inl (.inl (e _ _ h))
  · exact .inl (.inr ⟨o, e _ _ h⟩)
  · exact .inr h

/-! ### a dict's pairs: keys that differ -/
section
variable {κ : Type} [DecidableEq κ]
end
/-! ### lists -/
theorem at_of {xs : List V} {z : Int} {j : Nat} {v : V} (e : z = (j : Int)) (h : xs[j]? = some v) : atI xs z = some v := by
  rw [e]
  exact atI_nat h
/-- a new instance and its __init__ leave all that was tracked as it was -/
theorem Same.made {H H1 : Hp} {x dx C : Addr} (nx : H x = Option.none) (nd : H dx = Option.none) (k : ∀ b o, (upd (upd H dx (.own x)) x (.ins C dx [])) b = some o → b ≠ x → H1 b = some o) : Same H H1 := fun b o e =>
  k b o (by rw [upd_ne (ne_of_none e nx), upd_ne (ne_of_none e nd)]; exact e) (ne_of_none e nx)
end L2

set_option Elab.async false
set_option linter.all false
set_option maxRecDepth 100000
namespace L2
open PySem PySem.Spec PyProof.Rows

/-! ### a def's table of codes, tracked without its rows -/
def TabP (P : Addr) : HO := .ext fun h => ∃ ps, h.get? P = some (PySem.W.tabObj ps) ∧ TriplesOk ps.toList
theorem TabP.ok {Pr : Program} {w : World} {H : Hp} {h : Heap} {P : Addr} {ps : Array Value} (e : h.get? P = some (PySem.W.tabObj ps)) (t : TriplesOk ps.toList) : ObjOk Pr w H h P (TabP P) :=
  ⟨⟨ps, e, t⟩, ⟨_, e⟩, fun h1 h2 ⟨ps, e, t⟩ k => ⟨ps, k _ e, t⟩⟩

/-! ### what an element of a generator may read: lists and tuples, frozen -/
def frz1 (h : Heap) (a : Addr) : HO → Option HO
  | .lst xs => (h.get? a).map fun o => .frz o (.lst xs)
  | .tup xs => (h.get? a).map fun o => .frz o (.tup xs)
  | .frz o (.lst xs) => some (.frz o (.lst xs))
  | .frz o (.tup xs) => some (.frz o (.tup xs))
  | _ => none
def frzH (h : Heap) (H : Hp) : Hp := fun a => (H a).bind (frz1 h a)
def FzS (u : HO) : Prop := ∃ o v, u = .frz o v ∧ ((∃ xs, v = .lst xs) ∨ ∃ xs, v = .tup xs)
section
variable {P : Program} {w : World} {H Hf H' : Hp} {h h' : Heap} {a : Addr}
theorem frzH_none (e : H a = none) : frzH h H a = none := by unfold frzH; rw [e]; rfl
theorem frzH_ext {φ : Heap → Prop} (e : H a = some (.ext φ)) : frzH h H a = none := by unfold frzH; rw [e]; rfl
theorem frzH_ok (ok : HOk P w H h) : HOk P w (frzH h H) h ∧ ∀ b u, frzH h H b = some u → FzS u := by
  have key : ∀ b u, frzH h H b = some u → ObjOk P w (frzH h H) h b u ∧ FzS u := by
    intro b u e
    unfold frzH at e
    cases q : H b with
    | none => rw [q] at e; cases e
    | some o =>
      rw [q] at e
      have e : frz1 h b o = some u := e
      have x := ok b o q
      cases o with
      | lst xs =>
        have e : ((h.get? b).map fun o => HO.frz o (.lst xs)) = some u := e
        cases g : h.get? b with
        | none => rw [g] at e; cases e
        | some ob => rw [g] at e; cases e; exact ⟨⟨g, x⟩, _, _, rfl, .inl ⟨xs, rfl⟩⟩
      | tup xs =>
        have e : ((h.get? b).map fun o => HO.frz o (.tup xs)) = some u := e
        cases g : h.get? b with
        | none => rw [g] at e; cases e
        | some ob => rw [g] at e; cases e; exact ⟨⟨g, x⟩, _, _, rfl, .inr ⟨xs, rfl⟩⟩
      | frz ob v =>
        cases v with
        | lst xs => cases e; exact ⟨x, _, _, rfl, .inl ⟨xs, rfl⟩⟩
        | tup xs => cases e; exact ⟨x, _, _, rfl, .inr ⟨xs, rfl⟩⟩
        | _ => cases e
      | _ => cases e
  exact ⟨fun b u e => (key b u e).1, fun b u e => (key b u e).2⟩
theorem frzH_move (ok : HOk P w Hf h) (fz : ∀ b u, Hf b = some u → FzS u) (k : ∀ b o, Hf b ≠ none → h.get? b = some o → h'.get? b = some o) : HOk P w Hf h' := by
  intro b u e
  obtain ⟨o, v, rfl, hv⟩ := fz b u e
  obtain ⟨e1, e2⟩ := ok b _ e
  have kb := k b o (by rw [e]; simp) e1
  refine ⟨kb, ?_⟩
  rcases hv with ⟨xs, rfl⟩ | ⟨xs, rfl⟩
  · obtain ⟨z, its, n, r, g⟩ := e2
    rw [e1] at g
    exact ⟨z, its, n, r, kb.trans g⟩
  · obtain ⟨z, its, r, ⟨ob, g, c⟩, od, g', c'⟩ := e2
    rw [e1] at g g'
    exact ⟨z, its, r, ⟨ob, kb.trans g, c⟩, od, kb.trans g', c'⟩
theorem frzH_keeps (fz : ∀ b u, Hf b = some u → FzS u) (ok : HOk P w Hf h) (un : Un [] [] Hf H' h h') (ok' : HOk P w H' h') : ∀ b o, h.get? b = some o → h'.get? b = some o := by
  intro b o e
  cases q : Hf b with
  | none => exact un.keep b o e q (by simp) (by simp)
  | some u =>
    obtain ⟨ob, v, rfl, _⟩ := fz b u q
    have e1 := (ok b _ q).1
    have e2 := (ok' b _ (un.frzs b _ _ q)).1
    rw [e] at e1; cases e1
    exact e2
/-- the same lists and tuples may be read -/
def LikeF (K : PySem.W.Frag) (H Hf : Hp) : Prop := (∀ a xs, SqL K H a xs → SqL K Hf a xs) ∧ ∀ a xs, SqT K H a xs → SqT K Hf a xs
theorem frzH_like {K : PySem.W.Frag} (ok : HOk P w H h) : LikeF K H (frzH h H) := by
  refine ⟨fun a xs q => ?_, fun a xs q => ?_⟩
  · rcases q with (q | ⟨o, q⟩) | q
    · obtain ⟨z, its, n, r, g⟩ := ok a _ q
      exact .inl (.inr ⟨_, by unfold frzH; rw [q]; show ((h.get? a).map fun o => HO.frz o (.lst xs)) = _; rw [g]; rfl⟩)
    · exact .inl (.inr ⟨o, by unfold frzH; rw [q]; rfl⟩)
    · exact .inr q
  · rcases q with (q | ⟨o, q⟩) | q
    · obtain ⟨z, its, r, ⟨ob, g, c⟩, _⟩ := ok a _ q
      exact .inl (.inr ⟨ob, by unfold frzH; rw [q]; show ((h.get? a).map fun o => HO.frz o (.tup xs)) = _; rw [g]; rfl⟩)
    · exact .inl (.inr ⟨o, by unfold frzH; rw [q]; rfl⟩)
    · exact .inr q
theorem LikeF.refl {K : PySem.W.Frag} (H : Hp) : LikeF K H H := ⟨fun _ _ q => q, fun _ _ q => q⟩
end

/-! ### the state at an element -/
structure GS (X : Cx) (s : Shared) (C : Addr) (x : Str) (xv : Value) (Hf : Hp) (u : Shared) : Prop where
  ns : ∃ m, u.heap.Ns C m ∧ m x = some xv
  bs : ∀ b o, X.base.get? b = some o → u.heap.get? b = some o
  bc : X.base.objs.size ≤ C
  cel : ∀ y c, X.env.cells.lookup y = some c → ∀ v, s.heap.IsCell c v → u.heap.IsCell c v
  hok : HOk X.prog X.w Hf u.heap
theorem kr (s : Shared) : Keeps s s := ⟨s.heap, s.toks, rfl, fun _ _ e => e⟩
theorem kt {s s' s'' : Shared} (a : Keeps s s') (b : Keeps s' s'') : Keeps s s'' := by
  obtain ⟨h1, t1, rfl, k1⟩ := a
  obtain ⟨h2, t2, rfl, k2⟩ := b
  exact ⟨h2, t2, rfl, fun c o e => k2 c o (k1 c o e)⟩
theorem kk (s : Shared) (t : Nat) : Keeps s { s with toks := t } := ⟨s.heap, t, rfl, fun _ _ e => e⟩
theorem GS.keeps {X : Cx} {s : Shared} {C : Addr} {x : Str} {xv : Value} {Hf : Hp} {u u' : Shared} (g : GS X s C x xv Hf u) (k : Keeps u u') : GS X s C x xv Hf u' := by
  obtain ⟨h', t', rfl, k⟩ := k
  exact ⟨let ⟨m, hn, e⟩ := g.ns; ⟨m, hn.keeps k, e⟩, fun b o e => k b o (g.bs b o e), g.bc, fun y c e v z => let ⟨o, ho, hd⟩ := g.cel y c e v z; ⟨o, k _ _ ho, hd⟩, g.hok.kept k⟩
abbrev gEnv (X : Cx) (scope : Scope) (C : Addr) (code : Value) (bi : Addr) : Env := genEnv scope (cloFrom X.env.cells scope.names []) C code bi X.env
def GE (X : Cx) (scope : Scope) (x : Str) (e : Expr) (t : St → V → Option V) : Prop :=
  ∀ (pins : List (Addr × Obj)) (σ : St) (H : Hp) (s : Shared), Inv X pins σ H s → ∀ (C : Addr) (code : Value) (bi : Addr) (A' : Around) (E' : Value → Shared → Prop) (v : V) (xv : Value) (Hf : Hp) (u : Shared) (val : V) (Q : Value → Shared → Prop),
    RelV v xv → GS X s C x xv Hf u → t σ v = some val → (∀ r u', RelV val r → Keeps u u' → Q r u') → wpAny (model X.prog X.w) A' (eval e (gEnv X scope C code bi)) Q E' u
def GA (X : Cx) (scope : Scope) (x : Str) (es : List Expr) (t : St → V → Option (List V)) : Prop :=
  ∀ (pins : List (Addr × Obj)) (σ : St) (H : Hp) (s : Shared), Inv X pins σ H s → ∀ (C : Addr) (code : Value) (bi : Addr) (A' : Around) (E' : Value → Shared → Prop) (v : V) (xv : Value) (Hf : Hp) (u : Shared) (vals : List V) (pos : Pos) (Q : List Value → Shared → Prop),
    RelV v xv → GS X s C x xv Hf u → t σ v = some vals → (∀ rs u', Vals vals rs → Keeps u u' → Q rs u') → wpAny (model X.prog X.w) A' (spliced (backTo pos (starEach es (gEnv X scope C code bi)))) Q E' u
section
variable {X : Cx} {scope : Scope} {x : Str} {pos : Pos}
theorem ge_loc (hk : scope.kind = .function) (hx : scope.names.lookup x = some .local) (hd : (x == ("__debug__" : Str)) = false := by decide) : GE X scope x (.Name x pos) (fun _ v => some v) := by
  intro pins σ H s I C code bi A' E' v xv Hf u val Q r g e hQ
  cases e
  obtain ⟨m, hn, hm⟩ := g.ns
  exact wpAny_Name (wpAny_loadName_local hk hx hn hm (hQ xv u r (kr u))) hd
theorem ge_free {y : Str} (i : Nat) (hk : scope.kind = .function) (hy : scope.names.lookup y = some .free) (hN : X.N[i]? = some y) (hc : X.env.scope.names.lookup y = some .cell)
    (hd : (y == ("__debug__" : Str)) = false := by decide) (hcd : (y == ("__classdict__" : Str)) = false := by decide) : GE X scope x (.Name y pos) (fun σ _ => (σ[i]?).join) := by
  intro pins σ H s I C code bi A' E' v xv Hf u val Q r g e hQ
  have e1 : σ[i]? = some (some val) := by
    have e : (σ[i]?).join = some val := e
    cases q : σ[i]? with
    | none => rw [q] at e; cases e
    | some o => rw [q] at e; have e : o = some val := e; rw [e]
  obtain ⟨m, hn, hl⟩ := I.loc
  obtain ⟨uv, rv, l⟩ := hl i y val hN e1 (.inr (.inl hc))
  rcases l with ⟨hk', _⟩ | ⟨_, c, ec, hcell⟩
  · have hk' : X.env.scope.names.lookup y = some .local := hk'
    rw [hc] at hk'; cases hk'
  · have ec' : (cloFrom X.env.cells scope.names []).lookup y = some c := by
      obtain ⟨c', e'⟩ := mem_lookup (cloFrom_has (cells := X.env.cells) (acc := []) (PySem.mem_of_lookup hy))
      rcases cloFrom_mem (PySem.mem_of_lookup e') with z | ⟨_, z⟩
      · cases z
      · rw [ec] at z
        rw [e', z]; rfl
    exact wpAny_Name (wpAny_loadName_free hk hy ec' (g.cel y c ec _ hcell) (hQ uv u rv (kr u)) hcd) hd
theorem ge_int {n : Int} {j : Nat} : GE X scope x (.Constant (.int n) j pos) (fun _ _ => some (.int n)) := by
  intro pins σ H s I C code bi A' E' v xv Hf u val Q r g e hQ
  cases e
  exact wpAny_Constant_int (hQ _ _ ⟨_, rfl⟩ (kk u _))
def subO : Option V → Option V → Option V
  | some (.int i), some (.int j) => some (.int (i - j))
  | _, _ => none
theorem subO_some {a b : Option V} {v : V} (h : subO a b = some v) : ∃ i j, a = some (.int i) ∧ b = some (.int j) ∧ v = .int (i - j) := by
  unfold subO at h
  split at h
  · cases h; exact ⟨_, _, rfl, rfl, rfl⟩
  · cases h
theorem ge_sub {a b : Expr} {ta tb : St → V → Option V} (ha : GE X scope x a ta) (hb : GE X scope x b tb) : GE X scope x (.BinOp a .Sub b pos) (fun σ v => subO (ta σ v) (tb σ v)) := by
  intro pins σ H s I C code bi A' E' v xv Hf u val Q r g e hQ
  obtain ⟨i, j, ea, eb, rfl⟩ := subO_some e
  refine wpAny_BinOp (ha pins σ H s I C code bi A' E' v xv Hf u _ _ r g ea fun ra u1 r1 k1 => hb pins σ H s I C code bi A' E' v xv Hf u1 _ _ r (g.keeps k1) eb fun rb u2 r2 k2 => ?_)
  obtain ⟨t1, rfl⟩ := r1
  obtain ⟨t2, rfl⟩ := r2
  exact sub_int (hQ _ _ ⟨_, rfl⟩ (kt (kt k1 k2) (kk u2 _)))
theorem ga_nil : GA X scope x [] (fun _ _ => some []) := by
  intro pins σ H s I C code bi A' E' v xv Hf u vals pos Q r g e hQ
  cases e
  exact Calls.spliced_nil (hQ _ _ .nil (kr u))
def consO : Option V → Option (List V) → Option (List V)
  | some v, some vs => some (v :: vs)
  | _, _ => none
theorem consO_some {a : Option V} {b : Option (List V)} {v : List V} (h : consO a b = some v) : ∃ i j, a = some i ∧ b = some j ∧ v = i :: j := by
  unfold consO at h
  split at h
  · cases h; exact ⟨_, _, rfl, rfl, rfl⟩
  · cases h
theorem ga_cons {e : Expr} {es : List Expr} {te : St → V → Option V} {t : St → V → Option (List V)} (he : GE X scope x e te) (ha : GA X scope x es t) (hs : ∀ env, starEach (e :: es) env = (false, eval e env) :: starEach es env := by intro env; rfl) :
    GA X scope x (e :: es) (fun σ v => consO (te σ v) (t σ v)) := by
  intro pins σ H s I C code bi A' E' v xv Hf u vals pos Q r g e0 hQ
  obtain ⟨v1, vs, ea, eb, rfl⟩ := consO_some e0
  rw [hs]
  show wpAny _ _ (spliced ((false, eval e _) :: backTo pos (starEach es _))) _ _ u
  refine Calls.spliced_cons (he pins σ H s I C code bi A' E' v xv Hf u _ _ r g ea fun r1 u1 q1 k1 => ?_)
  exact ha pins σ H s I C code bi A' E' v xv Hf u1 _ pos _ r (g.keeps k1) eb fun rs u2 q2 k2 => hQ _ _ (.cons q1 q2) (kt k1 k2)
end

/-! ### an element that calls a quiet def -/
section
variable {X : Cx} {scope : Scope} {x fn : Str} {pos pf : Pos} {k : Nat} {f : Addr} {fd : FuncData} {ps : List Str} {sp : Sp} {e : Expr} {es : List Expr} {ga : St → V → Option (List V)}
theorem ge_call (F : ∀ gq, FnOk X.prog X.w X.K X.mg X.base (CXq gq) k f fd ps sp) (hm : X.mg fn = some (.ref f)) (kp : PySem.W.keepIn X.K (.ref f) = true) (hb : Binds X.K fd ps []) (hk : scope.kind = .function) (hg : scope.names.lookup fn = some .globalImplicit)
    (ha : GA X scope x (e :: es) ga) (hd : (fn == ("__debug__" : Str)) = false) (he : ∀ env, starEach (e :: es) env = (false, eval e env) :: starEach es env) (hpl : ∀ env, (backTo pos (starEach es env)).any (·.1) = false)
    {pins : List (Addr × Obj)} {σ : St} {H : Hp} {s : Shared} (I : Inv X pins σ H s) {C : Addr} {code : Value} {bi : Addr} {A' : Around} {E' : Value → Shared → Prop} {v : V} {xv : Value} {Hf : Hp} {u : Shared} {vals : List V} {b : Bool}
    (hr : Room k A') (r : RelV v xv) (g : GS X s C x xv Hf u) (fz : ∀ b u, Hf b = some u → FzS u) (hbs : ∀ b o, X.base.get? b = some o → Hf b = none) (hv : ga σ v = some vals) (hsp : sp vals Hf (fun r _ => r = .bl b) E0) :
    wpAny (model X.prog X.w) A' (eval (.Call (.Name fn pf) (e :: es) [] pos) (gEnv X scope C code bi)) (fun y s3 => y = .bool b ∧ Keeps u s3) E' u := by
  refine wpAny_Call_Name_kw (Calls.Name_function_global hk hg (Calls.loadGlobal_global (mg := X.mg) (by show u.heap.Ns X.env.globals _; rw [I.ok.glob]; exact I.mod.glob.keeps g.bs) hm ?_) hd)
  refine PySem.W.callWith_K (h₀ := X.base) I.ok.mod.kin kp (ha pins σ H s I C code bi A' E' v xv Hf u vals pos _ r g hv fun us u1 rv k1 => ⟨I.ok.mod.kin.keeps (g.keeps k1).bs, ?_⟩) (he _) (hpl _)
  have g1 := g.keeps k1
  have hl : us.length = ps.length := by rw [← rv.length]; exact (F fun _ _ => True).len _ _ _ _ hsp
  have e0 : Env0 X.prog X.w X.K X.mg X.base (fun g d => g = u1.gens ∧ d = u1.drawn) False A' [] u1 Hf :=
    ⟨False.elim, I.ok.mod, fun b o e => ⟨g1.bs b o e, hbs b o e⟩, by obtain ⟨m, hn, _⟩ := g1.ns; exact Nat.le_trans g1.bc (Nat.le_of_lt hn.lt), trivial, fun b z => absurd (show b ∈ ([] : List Addr) from z) (by simp), g1.hok, rfl, rfl⟩
  have hb1 := hb u1 us (I.ok.mod.kin.keeps g1.bs) (by rw [List.append_nil]; exact hl)
  rw [List.append_nil] at hb1
  refine wpAny_call (codeAny_mono ((F _).run A' [] u1 Hf ⟨us, []⟩ us vals _ _ hr e0 hb1 rv hsp) fun rr s' hq => ?_)
  cases rr with
  | error e => exact False.elim hq
  | ok fl =>
    cases fl with
    | next => exact False.elim hq
    | brk => exact False.elim hq
    | cont => exact False.elim hq
    | ret uv =>
      obtain ⟨v', H', os, ⟨hg1, hd1⟩, un, hok', rv', q⟩ := hq
      subst q
      obtain rfl : uv = Value.bool b := rv'
      refine ⟨rfl, kt k1 ?_⟩
      obtain ⟨h', gens', drawn', toks', os'⟩ := s'
      have hg1 : gens' = u1.gens := hg1
      have hd1 : drawn' = u1.drawn := hd1
      have os : os' = u1.os := os
      subst hg1 hd1 os
      exact ⟨h', toks', rfl, frzH_keeps fz g1.hok un hok'⟩
end
end L2

set_option Elab.async false
set_option linter.all false
set_option maxRecDepth 100000
namespace L2
open PySem PySem.Spec PyProof.Rows

theorem gencode {M : Model} {A : Around} {E : Value → Shared → Prop} {s : Shared} {env : Env} {c P : Addr} {ps : Array Value} {pos : Pos} {qn : Str} {scope : Scope} {Q : Value → Shared → Prop} (hc : env.code = .ref c) (hd : PySem.W.CodeHd s.heap c P)
    (hp : s.heap.get? P = some (PySem.W.tabObj ps)) (ht : TriplesOk ps.toList)
    (hQ : ∀ code h' tk ps', Heap.ExtBut P s.heap h' → h'.get? P = some (PySem.W.tabObj ps') → TriplesOk ps'.toList → Q code { s with heap := h', toks := tk }) : wpAny M A (genexprCode env pos qn scope) Q E s := by
  have hi := hd.code hp ht
  have htb := hd.tab hp
  cases q : codeAmong pos ps.toList with
  | some cv => exact wpAny_genexprCode_hit hc hi q (hQ cv s.heap s.toks ps (Heap.ExtBut.refl _ _) hp ht)
  | none =>
    refine wpAny_genexprCodeX hc hi htb q fun c' h' tk hx _ _ hi' _ ht' _ => hQ _ h' tk _ hx ht'.2 ?_
    obtain ⟨_, _, _, _, _, _, _, _, _, _, _, _, _, _, _, _, _, g, d, t, _⟩ := hi'
    rw [ht'.2] at g; cases g; cases d
    exact t

/-- an iterator over a list or a tuple -/
structure Src (P : Program) (w : World) (a : Addr) (its : Array Value) (s : Shared) : Prop where
  go : ∀ (A : Around) (E : Value → Shared → Prop) (Q : Value → Shared → Prop), (∀ (o : Obj) (St : Nat → Heap → Prop), o.isFreed = false → (∀ A' : Around, A'.handled = none → Walks P w A' s.heap.objs.size [s.heap.objs.size, a] [s.heap.objs.size] its.size (fun i v => its[i]? = some v) St) →
      (∀ h', (∀ b, b = s.heap.objs.size ∨ b = a → ∀ ob, (s.heap.push o).get? b = some ob → h'.get? b = some ob) → St 0 h') → Q (.ref s.heap.objs.size) { s with heap := s.heap.push o }) → wpAny (model P w) A (pyIter (.ref a)) Q E s
  lt : a < s.heap.objs.size
  ne : ∀ ps, s.heap.get? a ≠ some (PySem.W.tabObj ps)
theorem src_l {P : Program} {w : World} {a : Addr} {its : Array Value} {s : Shared} (h : s.heap.IsList a its) : Src P w a its s := by
  have hlt : a < s.heap.objs.size := by obtain ⟨_, e, _⟩ := h; exact Heap.lt_size e
  refine ⟨fun A E Q k => wpAny_pyIter_list h (k _ _ rfl (fun A' hA => Walks.list hA _ _ (Nat.ne_of_lt hlt) its) fun h' hk => ⟨⟨_, hk _ (.inl rfl) _ (Heap.get?_push_size _ rfl), rfl, rfl⟩, ?_⟩), hlt, fun ps z => ?_⟩
  · obtain ⟨o, e, r⟩ := h
    exact ⟨o, hk _ (.inr rfl) _ (Heap.get?_push_of_some _ e), r⟩
  · obtain ⟨o, e, r, _⟩ := h
    rw [z] at e; cases e; cases r
theorem src_t {P : Program} {w : World} {a : Addr} {its : Array Value} {s : Shared} (h : s.heap.IsTuple a its) : Src P w a its s := by
  have hlt : a < s.heap.objs.size := by obtain ⟨_, e, _⟩ := h; exact Heap.lt_size e
  refine ⟨fun A E Q k => wpAny_pyIter_tuple h (k _ _ rfl (fun A' hA => Walks.tuple hA _ _ (Nat.ne_of_lt hlt) its) fun h' hk => ⟨⟨_, hk _ (.inl rfl) _ (Heap.get?_push_size _ rfl), rfl, rfl⟩, ?_⟩), hlt, fun ps z => ?_⟩
  · obtain ⟨o, e, r⟩ := h
    exact ⟨o, hk _ (.inr rfl) _ (Heap.get?_push_of_some _ e), r⟩
  · obtain ⟨o, e, r, _⟩ := h
    rw [z] at e; cases e; cases r

theorem passing_all (n : Nat) : passing (fun _ => true) n 0 = List.range n := by
  unfold passing
  simp

def pick (xs : List V) (q : V → Bool) (j : Nat) : Bool := (xs[j]?.map q).getD true
theorem all_pick (xs : List V) (q : V → Bool) : (List.range xs.length).all (pick xs q) = xs.all q := by
  rw [Bool.eq_iff_iff, List.all_eq_true, List.all_eq_true]
  constructor
  · intro h b hb
    obtain ⟨j, hj, rfl⟩ := List.getElem_of_mem hb
    have := h j (List.mem_range.mpr hj)
    unfold pick at this
    rw [List.getElem?_eq_getElem hj] at this
    exact this
  · intro h j hj
    have hj' := List.mem_range.mp hj
    unfold pick
    rw [List.getElem?_eq_getElem hj']
    exact h _ (List.getElem_mem hj')

def tAllG (K : PySem.W.Frag) (Pt : Addr) (ti : TE) (ga : St → V → Option (List V)) (sp : Sp) : TE := fun σ H Q =>
  ti σ H fun v H1 => ∃ a xs, v = .ref a ∧ (SqL K H1 a xs ∨ SqT K H1 a xs) ∧ H1 Pt = some (TabP Pt) ∧
    ∃ q : V → Bool, (∀ y ∈ xs, ∃ vals, ga σ y = some vals ∧ ∀ Hf, LikeF K H1 Hf → sp vals Hf (fun r _ => r = .bl (q y)) E0) ∧ Q (.bl (xs.all q)) H1

/-- what the law's text tells of the module __builtins__ -/
structure BMd (X : Cx) : Prop where
  md : ∃ bm ob, X.mg "__builtins__" = some (.ref bm) ∧ bm ≠ builtinsNs ∧ X.base.get? bm = some ob ∧ ob.cls = .type "module" ∧ ob.dict = some builtinsNs ∧ ob.data = .plain

section
variable {X : Cx} {scope : Scope} {x fn xall : Str} {pos pf pc px p gpos : Pos} {k : Nat} {f c Pt : Addr} {fd : FuncData} {ps : List Str} {sp : Sp} {e iter : Expr} {es : List Expr} {ga : St → V → Option (List V)} {ti : TE}
theorem pe_allgen (hgq : X.gq = Bare) (hcalm : X.calm = true) (hr : Room (k + 1) X.A) (hc : X.env.code = .ref c) (hcd : PySem.W.CodeHd X.base c Pt) (bm : BMd X)
    (hco : scope.isCoroutine = false) (hcell : ∀ y ∈ scope.names, y.2 ≠ .cell) (hfree : ∀ y ∈ scope.names, y.2 = .free → X.env.scope.names.lookup y.1 = some .cell) (h0 : scope.names.lookup (".0" : Str) = some NameKind.local)
    (hx : scope.names.lookup x = some .local) (hkind : scope.kind = .function)
    (hall : Gl X xall) (hmall : X.mg xall = none) (hvall : bootBuiltins xall = some (.builtin "all"))
    (hit : PE X iter ti) (hfold : ∀ v, genFold iter X.env v = pure v)
    (F : ∀ gq, FnOk X.prog X.w X.K X.mg X.base (CXq gq) k f fd ps sp) (hm : X.mg fn = some (.ref f)) (kp : PySem.W.keepIn X.K (.ref f) = true) (hb : Binds X.K fd ps []) (hg : scope.names.lookup fn = some .globalImplicit)
    (ha : GA X scope x (e :: es) ga) (hd : (fn == ("__debug__" : Str)) = false := by decide) (he : ∀ env, starEach (e :: es) env = (false, eval e env) :: starEach es env := by intro env; rfl) (hpl : ∀ env, (backTo pc (starEach es env)).any (·.1) = false := by intro env; rfl)
    (hn : xall ≠ "__name__" := by decide) (hdb : (xall == ("__debug__" : Str)) = false := by decide) :
    PE X (.Call (.Name xall p) [.GeneratorExp (.Call (.Name fn pf) (e :: es) [] pc) [⟨.Name x px, iter, [], 0⟩] scope gpos] [] pos) (tAllG X.K Pt ti ga sp) := by
  intro pins s σ H Q I h
  refine wpAny_Call_Name_kw (ld_blt I hall hmall hvall ?_ hn hdb)
  refine PyProof.Rows.callWith_builtin1 ?_ rfl rfl
  show wpAny _ _ (spliced ((false, eval _ X.env) :: backTo pos (starEach [] X.env))) _ _ s
  refine Calls.spliced_cons ?_
  have hh : X.A.handled = none := I.ok.hd hcalm
  have hclos : closureFor scope X.env = pure (cloFrom X.env.cells scope.names []) := closure_ok fun y hy hf => I.ok.has y.1 (.inl (hfree y hy hf))
  refine wpAny_GeneratorExp_walksQD hh hco hclos hcell h0 hx hkind (by have := hr.dp; omega) ?_ hfold
  refine thn (hit pins s σ H _ I h) fun xv s1 ⟨v, H1, I1, r1, a, xs, ev, hsq, hT, q, hq, hQ⟩ => ?_
  subst ev
  obtain rfl : xv = Value.ref a := r1
  -- the source
  obtain ⟨its, rv, src⟩ : ∃ its : List Value, Vals xs its ∧ Src X.prog X.w a its.toArray s1 := by
    rcases hsq with hs | hs
    · obtain ⟨its, rv, pl, _⟩ := I1.list hs
      exact ⟨its, rv, src_l pl.isList⟩
    · obtain ⟨its, rv, pl, _⟩ := I1.tuple hs
      exact ⟨its, rv, src_t pl⟩
  refine src.go _ _ _ fun oI St hoI W st0 => ⟨I1.nolimit.push _, ?_⟩
  obtain ⟨⟨ps0, eP, tP⟩, _, _⟩ := I1.hok Pt _ hT
  have nP : Pt < s1.heap.objs.size := Heap.lt_size eP
  have naP : a ≠ Pt := fun z => src.ne ps0 (by rw [z]; exact eP)
  have b1 : ∀ b o, X.base.get? b = some o → s1.heap.get? b = some o := I1.bk
  have nbP : ∀ b o, X.base.get? b = some o → b ≠ Pt := fun b o e z => by
    have := (I1.bs b o e).2
    rw [z, hT] at this; cases this
  refine gencode (s := { s1 with heap := s1.heap.push oI }) hc (hcd.keeps fun b o e => Heap.get?_push_of_some _ (b1 b o e)) (Heap.get?_push_of_some _ eP) tP fun code h3 tk3 ps3 x3 eP3 tP3 => ?_
  -- all but the table is kept
  have k3 : ∀ b o, b ≠ Pt → s1.heap.get? b = some o → h3.get? b = some o := fun b o hb e => x3 b o hb (Heap.get?_push_of_some _ e)
  have eI3 : h3.get? s1.heap.objs.size = some oI := x3 _ _ (Nat.ne_of_gt nP) (Heap.get?_push_size _ hoI)
  obtain ⟨bmA, ob, hb1, hb2, hb3, hb4, hb5, hb6⟩ := bm.md
  refine wpAny_builtinsFor (m := X.mg) (bm := bmA) (o := ob) ?_ hb1 hb2 (k3 _ _ (nbP _ _ hb3) (b1 _ _ hb3)) hb4 hb5 hb6 ?_
  · show h3.Ns X.env.globals X.mg
    rw [I.ok.glob]
    exact I.mod.glob.keeps fun b o e => k3 b o (nbP b o e) (b1 b o e)
  have hnl : h3.NoLimit := I.mod.nolimit.keeps fun b o e => k3 b o (nbP b o e) (b1 b o e)
  have hst : s1.heap.objs.size < h3.objs.size := Heap.lt_size eI3
  have hlen : its.length = xs.length := rv.length.symm
  refine ⟨s1.heap.objs.size, [s1.heap.objs.size, a], [s1.heap.objs.size], its.toArray.size, _, St, fun _ => true, fun i y => ∃ z, xs[i]? = some z ∧ y = .bool (q z), rfl, W, st0 h3 ?_, ?_, hnl, ?_, ?_, ?_⟩
  · rintro b (rfl | rfl) ob2 e2
    · exact x3 _ _ (Nat.ne_of_gt nP) e2
    · exact x3 _ _ naP e2
  · intro b hb
    rcases List.mem_cons.mp hb with rfl | hb
    · exact hst
    · rcases List.mem_cons.mp hb with rfl | hb
      · exact Nat.lt_trans src.lt hst
      · cases hb
  · intro z
    rcases List.mem_cons.mp z with z | z
    · obtain ⟨_, hn1, _⟩ := I1.nolimit
      exact absurd (z ▸ hn1.lt) (Nat.lt_irrefl _)
    · cases z
  · -- an element
    intro href hk
    refine ⟨fun A' E' i v u m2 hA hD hU hP hns hmx hkp => ?_, fun A' E' i v u m2 hA hD hU hP _ hns hmx hkp => ?_⟩
    · exact wpAny_pure ⟨rfl, kr u⟩
    · have hP : its.toArray[i]? = some v := hP
      have hP : its[i]? = some v := by simpa using hP
      have hi : i < xs.length := by rw [← hlen]; exact (List.getElem?_eq_some_iff.mp hP).1
      obtain ⟨z, hz⟩ : ∃ z, xs[i]? = some z := ⟨xs[i], List.getElem?_eq_getElem hi⟩
      obtain ⟨v', hv', rz⟩ := rv.get hz
      rw [hP] at hv'; cases hv'
      obtain ⟨vals, hga, hsp⟩ := hq z (List.mem_of_getElem? hz)
      obtain ⟨okf, fz⟩ := frzH_ok I1.hok
      have ku : ∀ b o, b ≠ Pt → s1.heap.get? b = some o → u.heap.get? b = some o := fun b o hb e => by
        have e3 := k3 b o hb e
        refine hkp b (List.mem_range.mpr (Heap.lt_size e3)) (fun z => ?_) o (hk b o e3)
        rcases List.mem_cons.mp z with z | z
        · exact absurd (z ▸ Heap.lt_size e) (Nat.lt_irrefl _)
        · cases z
      have g : GS X s1 h3.objs.size x v (frzH s1.heap H1) u := by
        refine ⟨⟨m2, hns, hmx⟩, fun b o e => ku b o (nbP b o e) (b1 b o e), Nat.le_trans (Nat.le_trans I1.ok.bsz I1.sz) (Nat.le_of_lt hst), fun y cc ec v ⟨o, ho, hdd⟩ => ⟨o, ku cc o (fun z => ?_) ho, hdd⟩, frzH_move okf fz fun b o hb e => ku b o (fun z => hb ?_) e⟩
        · have := I1.freeC y cc ec
          rw [z, hT] at this; cases this
        · rw [z]; exact frzH_ext hT
      have hr' : Room k A' := ⟨hA, by have := hr.dp; omega, by have := hr.un; omega⟩
      refine wpAny_mono (ge_call F hm kp hb hkind hg ha hd he hpl I1 hr' rz g fz (fun b o e => frzH_none (I1.bs b o e).2) hga (hsp _ (frzH_like I1.hok))) (fun y s3 ⟨ey, ks⟩ => ⟨⟨z, hz, ey⟩, ks⟩) fun _ _ e => e
  · -- all of it
    intro a5 h5 tk5 gs hbare hlt5 hsz5 hk5 W5 G5
    rw [passing_all] at W5
    refine Calls.spliced_nil ?_
    refine call_all_walkS ((W5.in4_1).self 0 _ _ _ G5 ⟨a5, _, _, _, _, _, _, pick xs q, rfl, W5.in4_1, G5, ?_, fun s' mv => ?_⟩)
    · intro j v s6 Q6 E6 hv hQ6
      obtain ⟨i, hi, z, hz, rfl⟩ := hv
      have hij : i = j := by
        obtain ⟨h1, h2⟩ := List.getElem?_eq_some_iff.mp hi
        rw [List.getElem_range] at h2; exact h2.symm
      subst hij
      have hQ6 : Q6 (pick xs q i) s6 := hQ6
      unfold pick at hQ6
      rw [hz] at hQ6
      exact wpAny_truthy_bool hQ6
    · have en : (List.range (List.range its.toArray.size).length) = List.range xs.length := by rw [List.length_range, List.size_toArray, hlen]
      rw [en, all_pick]
      have k6 : ∀ b o, b ≠ Pt → s1.heap.get? b = some o → s'.heap.get? b = some o := fun b o hb e => by
        refine mv.heap b o (fun z => ?_) (hk5 b o (k3 b o hb e))
        have hlt := Heap.lt_size e
        rcases List.mem_cons.mp z with z | z
        · exact absurd (Nat.lt_trans hlt hst) (by rw [z]; exact Nat.lt_irrefl _)
        · rcases List.mem_cons.mp z with z | z
          · exact absurd (z ▸ hlt) (Nat.lt_irrefl _)
          · cases z
      have eP6 : s'.heap.get? Pt = some (PySem.W.tabObj ps3) := by
        refine mv.heap Pt _ (fun z => ?_) (hk5 Pt _ eP3)
        rcases List.mem_cons.mp z with z | z
        · exact absurd (Nat.lt_trans nP hst) (by rw [z]; exact Nat.lt_irrefl _)
        · rcases List.mem_cons.mp z with z | z
          · exact absurd (z ▸ nP) (Nat.lt_irrefl _)
          · cases z
      have eH : upd H1 Pt (TabP Pt) = H1 := by
        funext b
        by_cases hb : b = Pt
        · rw [hb, upd_same, hT]
        · rw [upd_ne hb]
      have mu : Mut (H1 Pt) := by rw [hT]; trivial
      have kk6 : ∀ b o, b ≠ Pt → s1.heap.get? b = some o → s'.heap.get? b = some o := k6
      have un : Un (frs X.stack) [] H1 H1 s1.heap s'.heap := by
        have := Un.write (fs := frs X.stack) (ex := []) (o := TabP Pt) (e := Pt) mu (.inl rfl) kk6 ⟨_, eP6⟩
        rwa [eH] at this
      have ok6 : HOk X.prog X.w H1 s'.heap := by
        have := I1.hok.write (o' := TabP Pt) (e := Pt) mu (.inl rfl) kk6 ⟨_, eP6⟩ (TabP.ok eP6 tP3)
        rwa [eH] at this
      have bg : X.gq s'.gens s'.drawn := by
        have b0 := I1.bare
        rw [hgq] at b0 ⊢
        exact GenOnlyQ.bare mv.gens (AllBare.push b0 hbare)
      refine ⟨.bl (xs.all q), H1, I1.call' (ch := []) (mv.os.trans rfl) un ok6 bg fun b z => absurd z (by simp), rfl, hQ⟩
end
end L2

set_option Elab.async false
set_option linter.all false
set_option maxRecDepth 100000
namespace L2
open PySem PySem.Spec PyProof.Rows PySem.SeqAt PySem.MeetsSeq PySem.MeetsSeq2 PySem.MeetsSeq3

section
variable {X : Cx}
/-! ### products and quotients of great numbers -/
theorem op_mulB : OpR X (binaryOp .Mult) (rI (fun i j => IntMulOk i j) fun i j => .int (i * j)) := opI fun _ _ _ _ _ _ _ hc q => mul_int q hc
theorem op_fdivB : OpR X (binaryOp .FloorDiv) (rI (fun _ j => 0 < j ∧ j.natAbs.log2 < 9000) fun i j => .int (i / j)) := opI fun i j _ _ _ _ _ hc q => by
  have h1 : (0 : Int) < j := hc.1
  exact floordiv_int (by omega) (by rw [Int.fdiv_eq_ediv_of_nonneg i (by omega)]; exact q) (.inl (PyProof.noPylong_of_log2 hc.2))

/-! ### tuples: any two joined, any part -/
theorem same_new {H : Hp} {p : Addr} {o : HO} (h : H p = none) : Same H (upd H p o) := fun b u e => by rw [upd_ne (ne_of_none e h)]; exact e
theorem cutV_all {xs : List V} {lo hi : Option Int} (h1 : HT.sIx xs.length 0 lo = 0) (h2 : HT.sIx xs.length xs.length hi = xs.length) : cutV xs lo hi = xs := by
  unfold cutV
  rw [h1, h2, Nat.sub_zero, List.drop_zero, List.take_length]
theorem get_tup_all {prog : Program} {w : World} {A : Around} {E : Value → Shared → Prop} {s : Shared} {t sl : Addr} {items : Array Value} {vl vu : Value} {lo hi : Option Int} {Q : Value → Shared → Prop} (ht : IsTup s.heap t items) (hs : s.heap.IsSliceOf sl vl vu .none) (pl : IsPart vl lo) (pu : IsPart vu hi)
    (hw : HT.sIx items.size 0 lo = 0 ∧ HT.sIx items.size items.size hi = items.size) (h : Q (.ref t) s) : wpAny (model prog w) A (getItem (.ref t) (.ref sl)) Q E s := by
  obtain ⟨os, hos, hcs, hds⟩ := id hs
  have hT : s.TypeIs (.ref sl) "slice" := ⟨os, hos, hcs⟩
  unfold getItem
  try with_reducible refine wpAny_holding ?_
  first | refine wpAny_bind (wpAny_pure ?_) | skip
  refine wpAny_bind (wpAny_sequenceKey ht.typeIs (by decide) ?_)
  refine wpAny_bind (wpAny_callSpecial?_slot (name := Str.ofString "__getitem__") ht.typeIs PyProof.Rows.slot_tuple_getitem (wpAny_call_entry PyProof.Rows.slot_tuple_getitem ht.typeIs entry_tuple_getitem ?_ (args_tuple_getitem _ _)))
  show wpAny _ _ (Builtin.Tuple.tupleItemsOf (.ref t) >>= _) _ _ s
  refine wpAny_bind (PyProof.Rows.tupleItemsOf_ ht ?_)
  refine wpAny_bind (wpAny_typeOf hT ?_)
  rw [if_pos (by decide)]
  refine wpAny_bind (HT.sliceApplied_gen hs pl pu ?_)
  show wpAny _ _ (if (((HT.sIx items.size 0 lo : Nat) : Int) == 0 && (1 : Int) == 1 && (HT.sIx items.size items.size hi - HT.sIx items.size 0 lo) == items.size) = true then _ else _) _ _ s
  rw [if_pos (by rw [hw.1, hw.2]; simp)]
  refine wpAny_bind (m := Builtin.Tuple.tupleIsExact _) (wpAny_bind (wpAny_typeOf ht.typeIs (wpAny_pure ?_)))
  rw [if_pos (by decide)]
  refine wpAny_bind (wpAny_rule ?_)
  exact wpAny_pure ⟨_, rfl, wpAny_pure h⟩
/-! ### range objects, their lists and tuples -/
theorem call_range1 : CallR X (.type "range") (fun xs H Q => ∃ j : Int, xs = [.int j] ∧ ∀ p, H p = none → Q (.ref p) (upd H p (.rng 0 j))) := by
  intro pins s σ H xs us Q I r h
  obtain ⟨j, rfl, q⟩ := h
  obtain ⟨u, rfl, ru⟩ := vals1 r
  obtain ⟨t, rfl⟩ := ru
  refine call_range_1 ⟨.ref s.heap.objs.size, _, I.laid (t' := s.toks + 1 + 1) (o := .rng 0 j) (fun b ob e => Heap.get?_push_of_some _ e) (Nat.le_refl _) ⟨_, _, _, Heap.get?_push_size _ rfl⟩, rfl, q _ (I.hok.fresh (Nat.le_refl _))⟩
def rngV (lo hi : Int) : List V := (List.range (hi - lo).toNat).map fun (i : Nat) => V.int (lo + i)
theorem rngV_len {lo hi : Int} : (rngV lo hi).length = (hi - lo).toNat := by unfold rngV; simp
theorem vals_rng {lo hi : Int} {acc : Array Value} (h : ItemsOf (fun i v => ∃ t, v = Value.int (lo + i * 1) t) acc (hi - lo).toNat) : Vals (rngV lo hi) acc.toList := by
  obtain ⟨hz, hv⟩ := h
  have key : ∀ (n : Nat) (f : Nat → V) (us : List Value), us.length = n → (∀ j v, us[j]? = some v → RelV (f j) v) → Vals ((List.range n).map f) us := by
    intro n
    induction n with
    | zero => intro f us hl _; cases us with | nil => exact .nil | cons _ _ => cases hl
    | succ n ih =>
      intro f us hl hr
      cases us with
      | nil => cases hl
      | cons u us =>
        rw [List.range_succ_eq_map, List.map_cons, List.map_map]
        exact .cons (hr 0 u rfl) (ih (f ∘ Nat.succ) us (by simpa using hl) fun j v e => hr (j + 1) v (by simpa using e))
  refine key _ _ _ (by simpa using hz) fun j v e => ?_
  obtain ⟨t, rfl⟩ := hv j v (by simpa using e)
  exact ⟨t, by rw [Int.mul_one]⟩
section
variable {prog : Program} {w : World} {A : Around} {E : Value → Shared → Prop} {s : Shared}
theorem collect_rng {Q : List Value → Shared → Prop} {r : Addr} {a b c : Int} {t u v : Tok} {n : Nat} (hh : A.handled = none) (hr : PySem.IsRange s.heap r a b c t u v) (hs : Builtin.Range.small a b c = true) (hn : Builtin.Range.rangeSize a b c = n) (hl : n ≤ 2 ^ 24)
    (hQ : ∀ h' tk acc, (∀ b o, s.heap.get? b = some o → h'.get? b = some o) → ItemsOf (fun i v => ∃ t, v = .int (a + i * c) t) acc n → Q acc.toList { s with heap := h', toks := tk }) : wpAny (model prog w) A (collect (.ref r)) Q E s := by
  unfold collect
  refine wpAny_bind (wpAny_runValue (codeAny_builtin F.entry_proto_collect ?_))
  rw [Around.under_plainId F.plain_proto_collect _]
  show wpAny _ A.in1 (newList [] >>= fun l => again (.builtin "list.__iadd__" ⟨[l, .ref r], []⟩)) _ _ s
  refine wpAny_bind (wpAny_newObj_type ?_)
  refine wpAny_pure ⟨plainId_quiet F.plain_list_iadd _, codeAny_builtin F.entry_list_iadd ?_⟩
  rw [Around.under_plainId F.plain_list_iadd _]
  show wpAny _ A.in1 (Builtin.List.listExtendWith (.ref s.heap.objs.size) (.ref r) (.ref s.heap.objs.size)) _ _ _
  have e0 : (s.heap.push { cls := .type "list", data := .seq ([] : List Value).toArray }).get? s.heap.objs.size = some { cls := .type "list", data := .seq #[] 0 } := Heap.get?_push_size _ rfl
  have fin : ∀ h' tk acc c', (∀ b o, b ≠ s.heap.objs.size → (s.heap.push { cls := .type "list", data := .seq ([] : List Value).toArray }).get? b = some o → h'.get? b = some o) →
      h'.get? s.heap.objs.size = some { cls := .type "list", dict := none, data := .seq acc c', slots := #[] } → ItemsOf (fun i v => ∃ t, v = .int (a + i * c) t) acc n →
      wpAny (model prog w) A (match Value.ref s.heap.objs.size with
        | Value.ref a => do
          match (← load a).data with
            | Data.seq xs _ => pure xs.toList
            | _ => unsupported "internal:collect"
        | _ => unsupported "internal:collect") Q E { s with heap := h', toks := tk } := fun h' tk acc c' k e it => by
    show wpAny _ A (load s.heap.objs.size >>= _) _ _ _
    refine wpAny_bind (wpAny_load e (wpAny_pure ?_))
    exact hQ h' tk acc (fun b o eb => k b o (Nat.ne_of_lt (Heap.lt_size eb)) (Heap.get?_push_of_some _ eb)) it
  refine wpAny_mono (wpAny_extend_range (A := A) (R := fun r s' => ∃ h' tk acc c', r = .ok (.ret (.ref s.heap.objs.size)) ∧ s' = { s with heap := h', toks := tk } ∧ (∀ b o, b ≠ s.heap.objs.size → (s.heap.push { cls := .type "list", data := .seq ([] : List Value).toArray }).get? b = some o → h'.get? b = some o) ∧
      h'.get? s.heap.objs.size = some { cls := .type "list", dict := none, data := .seq acc c', slots := #[] } ∧ ItemsOf (fun i v => ∃ t, v = .int (a + i * c) t) acc n)
    (s := { s with heap := s.heap.push { cls := .type "list", data := .seq ([] : List Value).toArray } }) hh (Heap.get?_push_of_some _ hr) hs hn hl _ _ 0 e0 fun h' tk acc c' k e it => ⟨h', tk, acc, c', rfl, rfl, k, e, it⟩) (fun fn s' h => ?_) (fun e s' h => ?_)
  · cases fn with
    | done f =>
      obtain ⟨h', tk, acc, c', e, rfl, k, e2, it⟩ := h
      cases e
      exact fin h' tk acc c' k e2 it
    | again c' => exact ⟨h.1, codeAny_mono h.2 fun r s'' hr => by obtain ⟨h', tk, acc, c', rfl, rfl, k, e2, it⟩ := hr; exact fin h' tk acc c' k e2 it⟩
  · obtain ⟨_, _, _, _, e, _⟩ := h
    cases e
theorem tuple_new_rng (r : Addr) (a b c : Int) (t u v : Tok) (n : Nat) (hs : Builtin.Range.small a b c = true) (hn : Builtin.Range.rangeSize a b c = n) (hl : n ≤ 2 ^ 20) :
    Meets (Builtin.«tuple.__new__» ⟨[.type "tuple", .ref r], []⟩)
      (fun A R s => A.handled = none ∧ PySem.IsRange s.heap r a b c t u v ∧ ∀ (h' : Heap) tk acc, (∀ b o', s.heap.get? b = some o' → h'.get? b = some o') → ItemsOf (fun i v => ∃ t, v = .int (a + i * c) t) acc n →
        R (.ok (.ret (.ref h'.objs.size))) { s with heap := h'.push { cls := .type "tuple", data := .seq acc }, toks := tk }) :=
  .of_wp fun prog w A R s h => by
    obtain ⟨hp, g, d, tk, os⟩ := s
    obtain ⟨hh, ht, h⟩ := h
    have hsub := sub_tuple_self
    have hinit := init_tuple_lookup
    have hmh := madeHere_tuple
    have hT : Shared.TypeIs ⟨hp, g, d, tk, os⟩ (.ref r) "range" := ⟨_, ht, rfl⟩
    wp_walk using AutoSeq1.wpAny_loadPart' ht, wpAny_typeOf hT, collect_rng (A := A.in1) (s := ⟨hp, g, d, tk, os⟩) hh ht hs hn (Nat.le_trans hl (by decide))
    intro h' tk' acc hk it
    show wpAny _ _ (Builtin.Tuple.tupleExact acc.toList.toArray >>= fun v => ret v) _ _ _
    unfold Builtin.Tuple.tupleExact
    have ea : acc.toList.toArray = acc := by simp
    have hz : acc.size ≤ sizeLine := by rw [it.1]; exact Nat.le_trans hl (by decide)
    refine wpAny_bind (wpAny_newObj_type ?_ (by show acc.toList.toArray.size ≤ sizeLine; rw [ea]; exact hz))
    refine wpAny_pure ⟨_, rfl, ?_⟩
    rw [ea]
    exact h h' tk' acc hk it
theorem call_tup_rng {Q : Value → Shared → Prop} {r : Addr} {a b c : Int} {t u v : Tok} {n : Nat} (hh : A.handled = none) (hr : PySem.IsRange s.heap r a b c t u v) (hs : Builtin.Range.small a b c = true) (hn : Builtin.Range.rangeSize a b c = n) (hl : n ≤ 2 ^ 20)
    (hQ : ∀ (h' : Heap) tk acc, (∀ b o', s.heap.get? b = some o' → h'.get? b = some o') → ItemsOf (fun i v => ∃ t, v = .int (a + i * c) t) acc n → Q (.ref h'.objs.size) { s with heap := h'.push { cls := .type "tuple", data := .seq acc }, toks := tk }) :
    wpAny (model prog w) A (call (.type "tuple") [.ref r]) Q E s :=
  callType_new F.called_tuple (by decide) (F.typeCall_tuple_1 _) (F.newCall_tuple_1 _) (fun obj => F.args_object_init_2 obj _) F.entry_tuple_new
    (tuple_new_rng r a b c t u v n hs hn hl) ⟨hh, hr, fun h' tk acc hk it => ⟨⟨_, Heap.get?_push_size _ rfl, rfl⟩, hQ h' tk acc hk it⟩⟩
end
theorem call_tupR (hh : X.calm = true) : CallR X (.type "tuple") (fun xs H Q => ∃ p lo hi, xs = [.ref p] ∧ H p = some (.rng lo hi) ∧ (-(2 ^ 62) ≤ lo ∧ lo < 2 ^ 62 ∧ -(2 ^ 62) ≤ hi ∧ hi < 2 ^ 62) ∧ (hi - lo).toNat ≤ 2 ^ 20 ∧
    ∀ l, H l = none → Q (.ref l) (upd H l (.tup (rngV lo hi)))) := by
  intro pins s σ H xs us Q I r h
  obtain ⟨p, lo, hi, rfl, hp, ⟨b1, b2, b3, b4⟩, hz, q⟩ := h
  obtain ⟨u, rfl, ru⟩ := vals1 r
  cases ru
  obtain ⟨t, u, v, g⟩ := I.hok p _ hp
  refine call_tup_rng (I.ok.hd hh) (show PySem.IsRange s.heap p lo hi 1 t u v from g) (small_one b1 b2 b3 b4) (rangeSize_nat lo hi) hz fun h' tk acc kp it => ?_
  have e' : acc.toList.toArray = acc := by simp
  have I1 : Inv X pins σ H { s with heap := h', toks := tk } := I.kept (t' := tk) kp
  have I2 : Inv X pins σ (upd H h'.objs.size (.tup (rngV lo hi))) { s with heap := h'.push { cls := .type "tuple", data := .seq acc }, toks := tk } :=
    I1.laid (t' := tk) (fun b o e => Heap.get?_push_of_some _ e) (Nat.le_refl _) (show ObjOk X.prog X.w _ _ _ (.tup (rngV lo hi)) from ⟨by rw [rngV_len]; exact Nat.le_trans hz (by decide), acc.toList, vals_rng it, by rw [e']; exact ⟨IsTup.new _ _, _, Heap.get?_push_size _ rfl, rfl⟩⟩)
  exact ⟨.ref h'.objs.size, _, I2, rfl, q _ (I1.hok.fresh (Nat.le_refl _))⟩

/-! ### isinstance of a kind that is known -/
def Kd (K : PySem.W.Frag) (H : Hp) : V → String → Prop
  | .int _, k => k = "int"
  | .bl _, k => k = "bool"
  | .str _, k => k = "str"
  | .non, k => k = "NoneType"
  | .ref a, k => (k = "list" ∧ ∃ xs, SqL K H a xs) ∨ (k = "tuple" ∧ ∃ xs, SqT K H a xs)
  | _, _ => False
def isi (k T : String) : Bool := k == T || (k == "bool" && T == "int")
def rIsi (K : PySem.W.Frag) : List V → Hp → VK → Prop := fun xs H Q => ∃ v k T, xs = [v, .ty T] ∧ Kd K H v k ∧ (T = "int" ∨ T = "bool" ∨ T = "list" ∨ T = "tuple") ∧ Q (.bl (isi k T)) H
theorem call_isi : CallR X (.builtin "isinstance") (rIsi X.K) := by
  intro pins s σ H xs us Q I r h
  obtain ⟨v, k, T, rfl, hk, hT, q⟩ := h
  obtain ⟨u, w, rfl, ru, rw'⟩ : ∃ u w, us = [u, w] ∧ RelV v u ∧ RelV (.ty T) w := by
    cases r with
    | cons a b =>
      cases b with
      | cons c d =>
        cases d
        exact ⟨_, _, rfl, a, c⟩
  obtain rfl : w = Value.type T := rw'
  have yes : isi k T = true → EP X pins σ Q (.bool true) s := fun e => by rw [e] at q; exact ⟨.bl true, H, I, rfl, q⟩
  have no : isi k T = false → EP X pins σ Q (.bool false) { s with toks := s.toks + 1 } := fun e => by rw [e] at q; exact ⟨.bl false, H, I.tok _, rfl, q⟩
  cases v with
  | int i =>
    obtain rfl : k = "int" := hk
    obtain ⟨t, rfl⟩ := ru
    rcases hT with rfl | rfl | rfl | rfl
    · exact IsiPair.int_int (yes (by decide))
    · exact IsiPair.int_bool (no (by decide))
    · exact IsiPair.int_list (no (by decide))
    · exact IsiPair.int_tuple (no (by decide))
  | bl i =>
    obtain rfl : k = "bool" := hk
    cases ru
    rcases hT with rfl | rfl | rfl | rfl
    · exact IsiPair.bool_int (yes (by decide))
    · exact IsiPair.bool_bool (yes (by decide))
    · exact IsiPair.bool_list (no (by decide))
    · exact IsiPair.bool_tuple (no (by decide))
  | str i =>
    obtain rfl : k = "str" := hk
    obtain ⟨t, rfl⟩ := ru
    rcases hT with rfl | rfl | rfl | rfl
    · exact IsiPair.str_int (no (by decide))
    · exact IsiPair.str_bool (no (by decide))
    · exact IsiPair.str_list (no (by decide))
    · exact IsiPair.str_tuple (no (by decide))
  | non =>
    obtain rfl : k = "NoneType" := hk
    cases ru
    rcases hT with rfl | rfl | rfl | rfl
    · exact IsiPair.NoneType_int (no (by decide))
    · exact IsiPair.NoneType_bool (no (by decide))
    · exact IsiPair.NoneType_list (no (by decide))
    · exact IsiPair.NoneType_tuple (no (by decide))
  | ref a =>
    cases ru
    rcases hk with ⟨rfl, xs, hx⟩ | ⟨rfl, xs, hx⟩
    · obtain ⟨its, _, pl, _⟩ := I.list hx
      obtain ⟨o, e, c, _⟩ := pl.isList
      rcases hT with rfl | rfl | rfl | rfl
      · exact IsiPair.list_int e c (no (by decide))
      · exact IsiPair.list_bool e c (no (by decide))
      · exact IsiPair.list_list e c (yes (by decide))
      · exact IsiPair.list_tuple e c (no (by decide))
    · obtain ⟨its, _, pl, _⟩ := I.tuple hx
      obtain ⟨o, e, c, _⟩ := pl
      rcases hT with rfl | rfl | rfl | rfl
      · exact IsiPair.tuple_int e c (no (by decide))
      · exact IsiPair.tuple_bool e c (no (by decide))
      · exact IsiPair.tuple_list e c (no (by decide))
      · exact IsiPair.tuple_tuple e c (yes (by decide))
  | _ => exact False.elim hk
end
end L2

set_option Elab.async false
set_option linter.all false
set_option maxRecDepth 100000
namespace L2
open PySem PySem.Spec PyProof.Rows

/-- at the law's call: the script, known to the object (or one of the module's), and the defs' tables -/
def OnlyT (tabs : List (Addr × Addr)) (H : Hp) : Prop := (∀ q ∈ tabs, H q.2 = some (TabP q.2)) ∧ ∀ b, H b = none ∨ (∃ o xs, H b = some (.frz o (.lst xs))) ∨ ∃ q ∈ tabs, b = q.2
theorem classed_no {K : PySem.W.Frag} {h : Heap} {P : Addr} {ps : Array Value} {mg : Str → Option Value} {mc : Str → Option Value} (hK : PySem.W.kb_classed K = true) (X : K.In h) (G : h.Ns mainGlobals mg) (C : h.Ns cStatics mc) (e : h.get? P = some (PySem.W.tabObj ps)) : K.lookup P = none := by
  cases q : K.lookup P with
  | none => rfl
  | some o =>
    have eo := X P o q
    rw [e] at eo; cases eo
    have z := List.all_eq_true.mp hK (P, _) (PySem.W.kb_mem q)
    simp only [Bool.or_eq_true, decide_eq_true_eq, beq_iff_eq] at z
    rcases z with (z | z) | z
    · exact absurd rfl z
    · obtain ⟨o', es, ep, e1, e2, _⟩ := C
      rw [← z, e] at e1; cases e1; cases e2
    · obtain ⟨o', es, ep, e1, e2, _⟩ := G
      rw [← z, e] at e1; cases e1; cases e2
theorem triples_nil : TriplesOk (#[] : Array Value).toList := by
  first | trivial | (unfold TriplesOk; simp) | simp [TriplesOk]

theorem law_callT {P : Program} {w : World} {K : PySem.W.Frag} {mg mb : Str → Option Value} {k : Nat} {fa a : Addr} {fd : FuncData} {x : Str} {sp : Sp} {s₁ : Shared} {vs : List Value} {ns : List Int} {tabs : List (Addr × Addr)}
    (KX : K.In s₁.heap) (hns : s₁.heap.Ns mainGlobals mg) (hb : s₁.heap.Ns builtinsNs mb) (hbb : ∀ x : Str, x ≠ "__name__" → mb x = bootBuiltins x) (hlim : s₁.heap.NoLimit) (hg : s₁.gens = #[]) (hK : PySem.W.kb_classed K = true)
    (hT : PySem.W.TabsAt tabs s₁.heap) (ha : s₁.heap.get? a = some { cls := .type "list", data := .seq vs.toArray }) (hi : IntsAre vs ns) (hl : ns.length ≤ sizeLine) (hr : Room k callerA)
    (F : ∀ base : Heap, K.In base → base.Ns mainGlobals mg → (∀ q ∈ tabs, PySem.W.CodeHd base q.1 q.2) → (∀ b o, s₁.heap.get? b = some o → o.cls = .type "module" → base.get? b = some o) → FnOk P w K mg base (CXr Bare) k fa fd [x] sp) (hbind : ∀ (s : Shared) (u : Value), BindsTo s fd ⟨[u], []⟩ [(x, u)])
    (hsp : ∀ H : Hp, OnlyT tabs H → SqL K H a (ns.map V.int) → sp [.ref a] H (fun v H' => v = .bl true ∧ ∀ q ∈ tabs, H' q.2 = some (TabP q.2)) E0) :
    codeAny (model P w) callerA (.call (.ref fa) ⟨[.ref a], []⟩) (fun r s' => r = .ok (.ret (.bool true)) ∧ OldK s₁.heap s'.heap ∧ s'.os = s₁.os ∧ AllBare s'.gens) s₁ := by
  have rv := vals_ints hi
  have lenV := hi.length
  obtain ⟨mc, hc1, hc2⟩ := id hlim
  have nat : ∀ q ∈ tabs, q.2 ≠ a := fun q hq z => by
    have e := (hT q hq).2
    rw [z, ha] at e; cases e
  have notab : ∀ b o, s₁.heap.get? b = some o → o.cls ≠ .none → ∀ q ∈ tabs, q.2 ≠ b := fun b o e hc q hq z => by
    have e' := (hT q hq).2
    rw [z, e] at e'; cases e'
    exact hc rfl
  have core : ∀ H : Hp, OnlyT tabs H → SqL K H a (ns.map V.int) → HOk P w H s₁.heap → (∀ b, H b ≠ none → b = a ∨ ∃ q ∈ tabs, b = q.2) → (H a ≠ none → K.lookup a = none) →
      codeAny (model P w) callerA (.call (.ref fa) ⟨[.ref a], []⟩) (fun r s' => r = .ok (.ret (.bool true)) ∧ OldK s₁.heap s'.heap ∧ s'.os = s₁.os ∧ AllBare s'.gens) s₁ := by
    intro H hO hS hok hA hKa
    have bof : ∀ {b : Addr} {o : Obj}, s₁.heap.get? b = some o → H b = none → (hidT s₁.heap H).get? b = some o := fun e n => hidT_get e n
    have untr : ∀ {b : Addr} {o : Obj}, s₁.heap.get? b = some o → o.data ≠ .seq vs.toArray 0 → (∀ ps, o ≠ PySem.W.tabObj ps) → H b = none := fun {b o} e d1 d2 => by
      cases q : H b with
      | none => rfl
      | some u =>
        rcases hA b (by rw [q]; simp) with z | ⟨r, hr, z⟩
        · rw [z, ha] at e; cases e
          exact absurd rfl d1
        · have e' := (hT r hr).2
          rw [← z, e] at e'; cases e'
          exact absurd rfl (d2 _)
    have nsK : ∀ {b : Addr} {m : Str → Option Value}, s₁.heap.Ns b m → (hidT s₁.heap H).Ns b m := fun {b m} ⟨o, es, ep, e, d, r⟩ => ⟨o, es, ep, bof e (untr e (by rw [d]; intro z; cases z) (fun ps z => by rw [z] at d; cases d)), d, r⟩
    have hKb : K.In (hidT s₁.heap H) := fun b o e => bof (KX b o e) (by
      cases q : H b with
      | none => rfl
      | some u =>
        rcases hA b (by rw [q]; simp) with z | ⟨r, hr, z⟩
        · subst z
          rw [hKa (by rw [q]; simp)] at e; cases e
        · have := classed_no hK KX hns hc1 (hT r hr).2
          rw [← z, e] at this; cases this)
    have hM : Mod K mg (hidT s₁.heap H) := ⟨hKb, nsK hns, ⟨mb, nsK hb, hbb⟩, ⟨mc, nsK hc1, hc2⟩⟩
    have e0 : Env0 P w K mg (hidT s₁.heap H) Bare True callerA [] s₁ H := ⟨fun _ => ⟨rfl, rfl⟩, hM, fun b o e => of_hidT e, Nat.le_of_eq (hidT_size _ _), trivial, fun b hb => absurd (show b ∈ ([] : List Addr) from hb) (by simp), hok, .of_eq hg⟩
    have hcd : ∀ q ∈ tabs, PySem.W.CodeHd (hidT s₁.heap H) q.1 q.2 := fun q hq => by
      obtain ⟨o, vs', file, tf, fl, tg, inF, tx, tt, e1, e2, e3, rr⟩ := (hT q hq).1
      exact ⟨o, vs', file, tf, fl, tg, inF, tx, tt, bof e1 (untr e1 (by rw [e3]; intro z; cases z) fun ps z => by rw [z] at e2; cases e2), e2, e3, rr⟩
    have hmd : ∀ b o, s₁.heap.get? b = some o → o.cls = .type "module" → (hidT s₁.heap H).get? b = some o := fun b o e c => by
      refine bof e ?_
      cases q : H b with
      | none => rfl
      | some u =>
        rcases hA b (by rw [q]; simp) with z | ⟨r, hr, z⟩
        · rw [z, ha] at e; cases e
          injection c with c
          exact absurd c (by decide)
        · have e' := (hT r hr).2
          rw [← z, e] at e'; cases e'; cases c
    refine codeAny_mono ((F _ hKb (nsK hns) hcd hmd).run callerA [] s₁ H ⟨[.ref a], []⟩ [.ref a] [.ref a] _ _ hr e0 (hbind s₁ (.ref a)) (.cons rfl .nil) (hsp H hO hS)) fun r s' h => ?_
    cases r with
    | error e => exact False.elim h
    | ok fl =>
      cases fl with
      | next => exact False.elim h
      | brk => exact False.elim h
      | cont => exact False.elim h
      | ret u =>
        obtain ⟨v, H', os, bare, un, hok', r', q⟩ := h
        obtain ⟨q', qt⟩ := q
        subst q'
        obtain rfl : u = Value.bool true := r'
        have kept : ∀ b o, s₁.heap.get? b = some o → asItWas s₁.heap s'.heap b o ∧ ∃ o', s'.heap.get? b = some o' := fun b o e => by
          cases q : H b with
          | none =>
            have z := un.keep b o e q (by intro z; exact absurd (show b ∈ ([] : List Addr) from z) (by simp)) (by simp)
            exact ⟨.inl z, _, z⟩
          | some u =>
            rcases hO.2 b with z | ⟨ob, xs, z⟩ | ⟨r, hr, z⟩
            · rw [q] at z; cases z
            · have z2 := un.frzs b ob _ z
              obtain ⟨e1, _⟩ := hok b _ z
              obtain ⟨e2, _⟩ := hok' b _ z2
              rw [e] at e1; cases e1
              exact ⟨.inl e2, _, e2⟩
            · have e1 := (hT r hr).2
              obtain ⟨⟨ps, e2, _⟩, _⟩ := hok' r.2 _ (qt r hr)
              rw [← z] at e1 e2
              rw [e] at e1; cases e1
              have tb := (hT r hr).1.tab (hT r hr).2
              rw [← z] at tb
              refine ⟨.inr (.inl ⟨tb.isCodeTable, rfl, #[], ps, rfl, ?_⟩), _, e2⟩
              rw [e2]
              simp
        exact ⟨rfl, ⟨fun b o e => (kept b o e).1, fun b o e => (kept b o e).2⟩, os, bare⟩
  have mem : ∀ b, b ∈ tabs.map (·.2) ↔ ∃ q ∈ tabs, b = q.2 := fun b => by
    rw [List.mem_map]
    exact ⟨fun ⟨q, h1, h2⟩ => ⟨q, h1, h2.symm⟩, fun ⟨q, h1, h2⟩ => ⟨q, h1, h2.symm⟩⟩
  have tabok : ∀ (H : Hp) (b : Addr), b ∈ tabs.map (·.2) → ObjOk P w H s₁.heap b (TabP b) := fun H b hb => by
    obtain ⟨q, h1, rfl⟩ := (mem b).mp hb
    exact TabP.ok (hT q h1).2 triples_nil
  cases hk : K.lookup a with
  | some o =>
    have e := KX a o hk
    rw [ha] at e
    cases e
    refine core (fun b => if b ∈ tabs.map (·.2) then some (TabP b) else none) ⟨fun q hq => if_pos ((mem _).mpr ⟨q, hq, rfl⟩), fun b => ?_⟩ (.inr ⟨_, vs.toArray, _, hk, rfl, rfl, rfl, by rw [List.size_toArray, lenV]; exact hl, by simpa using rv⟩) (fun b u z => ?_) (fun b z => ?_) fun z => ?_
    · by_cases hb : b ∈ tabs.map (·.2)
      · exact .inr (.inr ((mem b).mp hb))
      · exact .inl (if_neg hb)
    · by_cases hb : b ∈ tabs.map (·.2)
      · have z' := (if_pos hb).symm.trans z
        cases z'
        exact tabok _ b hb
      · have z' := (if_neg hb).symm.trans z
        cases z'
    · by_cases hb : b ∈ tabs.map (·.2)
      · exact .inr ((mem b).mp hb)
      · exact absurd (if_neg hb) z
    · refine absurd (if_neg fun hm => ?_) z
      obtain ⟨q, hq, e⟩ := (mem a).mp hm
      exact nat q hq e.symm
  | none =>
    refine core (fun b => if b = a then some (.frz { cls := .type "list", data := .seq vs.toArray } (.lst (ns.map V.int))) else if b ∈ tabs.map (·.2) then some (TabP b) else none) ⟨fun q hq => ?_, fun b => ?_⟩ (.inl (.inr ⟨{ cls := .type "list", data := .seq vs.toArray }, if_pos rfl⟩)) (fun b u z => ?_) (fun b z => ?_) fun _ => hk
    · exact (if_neg (nat q hq)).trans (if_pos ((mem _).mpr ⟨q, hq, rfl⟩))
    · by_cases hb : b = a
      · exact .inr (.inl ⟨_, _, if_pos hb⟩)
      · by_cases hm : b ∈ tabs.map (·.2)
        · exact .inr (.inr ((mem b).mp hm))
        · exact .inl ((if_neg hb).trans (if_neg hm))
    · by_cases hb : b = a
      · have z' := (if_pos hb).symm.trans z
        cases z'
        subst hb
        exact ⟨ha, by rw [List.length_map]; exact hl, vs, _, rv, ha⟩
      · by_cases hm : b ∈ tabs.map (·.2)
        · have z' := ((if_neg hb).trans (if_pos hm)).symm.trans z
          cases z'
          exact tabok _ b hm
        · have z' := ((if_neg hb).trans (if_neg hm)).symm.trans z
          cases z'
    · by_cases hb : b = a
      · exact .inl hb
      · by_cases hm : b ∈ tabs.map (·.2)
        · exact .inr ((mem b).mp hm)
        · exact absurd ((if_neg hb).trans (if_neg hm)) z

/-- the goal that k_head leaves, from the law's promise; names: the defs whose tables may grow -/
theorem walk_T {l : PySem.W.OpenLaw} {n k : Nat} {q : Program} {loose : List Str} {XP : (Str → Option Value) → Heap → Prop} {YP : World → Heap → Prop} {d : DefRec} {K : Params → PySem.W.Frag} {sp : World → List (Addr × Addr) → Sp} {x : Str} {names : List Str}
    (hn : l.most = some n) (hn2 : n ≤ sizeLine) (hdf : d.params.defaults = []) (hr : Room k callerA)
    (hY : ∀ (w : World) (h : Heap), YP w h → (K w.params).In h) (hK : ∀ w : World, PySem.W.kb_classed (K w.params) = true) (hrec : (names.all fun y => (recsOf q).any fun d => d.name == y) = true)
    (F : ∀ (w : World) (mg : Str → Option Value) (fa : Addr) (h : Heap) (tabs : List (Addr × Addr)), (K w.params).In h → h.Ns mainGlobals mg → mg d.name = some (.ref fa) →
      tabs.length = names.length → (∀ (i : Nat) (y : Str), names[i]? = some y → ∃ (a : Addr) (o : Obj) (fd : FuncData) (q : Addr × Addr), tabs[i]? = some q ∧ mg y = some (.ref a) ∧ h.get? a = some o ∧ o.data = .func fd ∧ fd.code = .ref q.1) → (∃ bm ob, mg "__builtins__" = some (.ref bm) ∧ bm ≠ builtinsNs ∧ h.get? bm = some ob ∧ ob.cls = .type "module" ∧ ob.dict = some builtinsNs ∧ ob.data = .plain) →
      ∃ fd : FuncData, (∀ (s : Shared) (u : Value), BindsTo s fd ⟨[u], []⟩ [(x, u)]) ∧
        ∀ base : Heap, (K w.params).In base → base.Ns mainGlobals mg → (∀ q ∈ tabs, PySem.W.CodeHd base q.1 q.2) → (∀ b o, h.get? b = some o → o.cls = .type "module" → base.get? b = some o) → FnOk l.prog w (K w.params) mg base (CXr Bare) k fa fd [x] (sp w tabs))
    (hsp : ∀ (w : World) (H : Hp) (a : Addr) (ns : List Int) (tabs : List (Addr × Addr)), ns.length ≤ n → OnlyT tabs H → SqL (K w.params) H a (ns.map V.int) → sp w tabs [.ref a] H (fun v H' => v = .bl true ∧ ∀ q ∈ tabs, H' q.2 = some (TabP q.2)) E0) :
    PySem.W.WalkO q loose XP YP l.row.toRowW d [] (fun f vs => PySem.call f vs) := by
  refine Att.attach_call hn hdf fun w s₀ s₁ mg mb fa o pm cd doc a vs ns G Y ho hd hcd hmg hobj hints hlen hg => ?_
  have KX := hY w _ Y
  have key : ∀ l : List Str, (∀ y ∈ l, ∃ d' ∈ recsOf q, d'.name = y) → ∃ tabs : List (Addr × Addr), tabs.length = l.length ∧ PySem.W.TabsAt tabs s₁.heap ∧ ∀ (i : Nat) (y : Str), l[i]? = some y → ∃ (a : Addr) (o : Obj) (fd : FuncData) (q : Addr × Addr), tabs[i]? = some q ∧ mg y = some (.ref a) ∧ s₁.heap.get? a = some o ∧ o.data = .func fd ∧ fd.code = .ref q.1 := by
    intro l
    induction l with
    | nil => intro _; exact ⟨[], rfl, fun q hq => (nomatch hq), fun i y e => by simp at e⟩
    | cons y l ih =>
      intro h
      obtain ⟨tabs, h1, h2, h3⟩ := ih fun z hz => h z (List.mem_cons_of_mem _ hz)
      obtain ⟨d', hd', hn'⟩ := h y List.mem_cons_self
      obtain ⟨fa', o', fd', c, P, m1, m2, m3, m4, m5, m6⟩ := G.T.tab d' hd'
      refine ⟨(c, P) :: tabs, by simp [h1], fun q hq => ?_, fun i z e => ?_⟩
      · rcases List.mem_cons.mp hq with rfl | hq
        · exact ⟨.of m5 m6, m6.2⟩
        · exact h2 q hq
      · cases i with
        | zero =>
          have e : y = z := by simpa using e
          subst e
          exact ⟨fa', o', fd', (c, P), rfl, by rw [← hn']; exact m1, m2, m3, m4⟩
        | succ i => exact h3 i z (by simpa using e)
  have hrec' : ∀ y ∈ names, ∃ d' ∈ recsOf q, d'.name = y := fun y hy => by
    obtain ⟨d', h1, h2⟩ := List.any_eq_true.mp (List.all_eq_true.mp hrec y hy)
    exact ⟨d', h1, by simpa using h2⟩
  obtain ⟨tabs, t1, t2, t3⟩ := key names hrec'
  obtain ⟨fd, hb, hF⟩ := F w mg fa _ tabs KX G.T.g hmg t1 t3 G.T.bmain
  exact law_callT KX G.T.g G.T.b G.T.builtins G.T.nolimit hg (hK w) t2 hobj hints (Nat.le_trans hlen hn2) hr hF hb fun H hO hS => hsp w H a ns tabs hlen hO hS
/-- the same where the promise hangs on the written part alone -/
theorem walk_TK {l : PySem.W.OpenLaw} {n k : Nat} {q : Program} {loose : List Str} {XP : (Str → Option Value) → Heap → Prop} {YP : World → Heap → Prop} {d : DefRec} {K : Params → PySem.W.Frag} {sp : PySem.W.Frag → List (Addr × Addr) → Sp} {x : Str} {names : List Str}
    (hn : l.most = some n) (hn2 : n ≤ sizeLine) (hdf : d.params.defaults = []) (hr : Room k callerA)
    (hY : ∀ (w : World) (h : Heap), YP w h → (K w.params).In h) (hK : ∀ w : World, PySem.W.kb_classed (K w.params) = true) (hrec : (names.all fun y => (recsOf q).any fun d => d.name == y) = true)
    (F : ∀ (w : World) (mg : Str → Option Value) (fa : Addr) (h : Heap) (tabs : List (Addr × Addr)), (K w.params).In h → h.Ns mainGlobals mg → mg d.name = some (.ref fa) →
      tabs.length = names.length → (∀ (i : Nat) (y : Str), names[i]? = some y → ∃ (a : Addr) (o : Obj) (fd : FuncData) (q : Addr × Addr), tabs[i]? = some q ∧ mg y = some (.ref a) ∧ h.get? a = some o ∧ o.data = .func fd ∧ fd.code = .ref q.1) → (∃ bm ob, mg "__builtins__" = some (.ref bm) ∧ bm ≠ builtinsNs ∧ h.get? bm = some ob ∧ ob.cls = .type "module" ∧ ob.dict = some builtinsNs ∧ ob.data = .plain) →
      ∃ fd : FuncData, (∀ (s : Shared) (u : Value), BindsTo s fd ⟨[u], []⟩ [(x, u)]) ∧
        ∀ base : Heap, (K w.params).In base → base.Ns mainGlobals mg → (∀ q ∈ tabs, PySem.W.CodeHd base q.1 q.2) → (∀ b o, h.get? b = some o → o.cls = .type "module" → base.get? b = some o) → FnOk l.prog w (K w.params) mg base (CXr Bare) k fa fd [x] (sp (K w.params) tabs))
    (hsp : ∀ (K : PySem.W.Frag) (H : Hp) (a : Addr) (ns : List Int) (tabs : List (Addr × Addr)), ns.length ≤ n → OnlyT tabs H → SqL K H a (ns.map V.int) → sp K tabs [.ref a] H (fun v H' => v = .bl true ∧ ∀ q ∈ tabs, H' q.2 = some (TabP q.2)) E0) :
    PySem.W.WalkO q loose XP YP l.row.toRowW d [] (fun f vs => PySem.call f vs) :=
  walk_T (K := K) (sp := fun w tabs => sp (K w.params) tabs) hn hn2 hdf hr hY hK hrec F fun w H a ns tabs h1 h2 h3 => hsp (K w.params) H a ns tabs h1 h2 h3
end L2

set_option Elab.async false
set_option linter.all false
set_option maxRecDepth 100000
set_option maxHeartbeats 4000000
namespace L2
open PySem PySem.Spec PyProof.Rows
/-- a def's body where its code is known -/
theorem Fun.okc {P : Program} {w : World} {K : PySem.W.Frag} {mg : Str → Option Value} {base : Heap} {CX : CXT} {x qual : Str} {st : Stmt} {f : Addr} {fd : FuncData} {N ps : List Str} {k : Nat} {sp : Sp} (F : Fun K x qual st f fd) (S : FnScope N ps (defScope st)) (len : ∀ vs H Q E, sp vs H Q E → vs.length = ps.length)
    (hbody : ∀ (A : Around) (outer : List Env) (s : Shared) (H : Hp) (vs : List V) (Q : VK) (E : XK), Room k (A.deeper (envOfC qual (defScope st) s.heap.objs.size f fd.code)) → sp vs H Q E →
      ∃ t, PSs (cxOf CX P w K mg base N qual (defScope st) f fd.code A outer s H E).nox (defBody st) t ∧ t { nx := fun _ H' => Q .non H', rt := Q } (start N vs) H) : FnOk P w K mg base CX (k + 1) f fd ps sp := by
  obtain ⟨oc, od, kV, doc, pm, an, cdv, ct, osl, rfl, lk, hcd⟩ := F.ex
  refine fn_of lk hcd S len fun A outer s H vs Q E hr hsp => ?_
  obtain ⟨t, h, q⟩ := hbody A outer s H vs Q E hr hsp
  exact ⟨t, h.nox, q⟩

theorem Same.seqT {K : PySem.W.Frag} {H H' : Hp} {a : Addr} {xs : List V} (e : Same H H') (h : SqT K H a xs) : SqT K H' a xs := by
  rcases h with (h | ⟨o, h⟩) | h
  · exact .inl (.inl (e _ _ h))
  · exact .inl (.inr ⟨o, e _ _ h⟩)
  · exact .inr h
theorem Same.kd {K : PySem.W.Frag} {H H' : Hp} {v : V} {k : String} (e : Same H H') (h : Kd K H v k) : Kd K H' v k := by
  cases v with
  | ref a =>
    rcases h with ⟨h1, xs, h2⟩ | ⟨h1, xs, h2⟩
    · exact .inl ⟨h1, xs, e.seq h2⟩
    · exact .inr ⟨h1, xs, e.seqT h2⟩
  | _ => exact h
theorem LikeF.kd {K : PySem.W.Frag} {H H' : Hp} {v : V} {k : String} (e : LikeF K H H') (h : Kd K H v k) : Kd K H' v k := by
  cases v with
  | ref a =>
    rcases h with ⟨h1, xs, h2⟩ | ⟨h1, xs, h2⟩
    · exact .inl ⟨h1, xs, e.1 _ _ h2⟩
    · exact .inr ⟨h1, xs, e.2 _ _ h2⟩
  | _ => exact h

theorem pe_ty {X : Cx} {x : Str} {pos : Pos} (n : String) (hg : Gl X x) (hm : X.mg x = none) (hv : bootBuiltins x = some (.type n)) (hn : x ≠ "__name__" := by decide) (hd : (x == ("__debug__" : Str)) = false := by decide) : PE X (.Name x pos) (tC (.ty n)) :=
  pe_bltn (u := .type n) hg hm hv rfl hn hd
theorem pe_gint {X : Cx} {x : Str} {pos : Pos} {i : Int} {t : Tok} (hg : Gl X x) (hm : X.mg x = some (.int i t)) (hd : (x == ("__debug__" : Str)) = false := by decide) : PE X (.Name x pos) (tC (.int i)) := pe_glob hg hm ⟨t, rfl⟩ hd
/-! ### mirrors of the small defs -/
def wholeK (k : String) : Bool := isi k "int" && !isi k "bool"
def isIntV : V → Bool
  | .int _ => true
  | _ => false
theorem wholeK_eq {K : PySem.W.Frag} {H : Hp} {v : V} {k : String} (h : Kd K H v k) : wholeK k = isIntV v := by
  cases v with
  | int i => obtain rfl : k = "int" := h; exact (by decide : wholeK "int" = true)
  | bl i => obtain rfl : k = "bool" := h; exact (by decide : wholeK "bool" = false)
  | str i => obtain rfl : k = "str" := h; exact (by decide : wholeK "str" = false)
  | non => obtain rfl : k = "NoneType" := h; exact (by decide : wholeK "NoneType" = false)
  | ref a =>
    rcases h with ⟨rfl, _⟩ | ⟨rfl, _⟩
    · exact (by decide : wholeK "list" = false)
    · exact (by decide : wholeK "tuple" = false)
  | _ => exact False.elim h
def withinV : V → Int → Int → Bool
  | .int i, lo, hi => decide (lo ≤ i) && decide (i ≤ hi)
  | _, _, _ => false
def sp_whole (K : PySem.W.Frag) : Sp := fun vs H Q _ => ∃ v k, vs = [v] ∧ Kd K H v k ∧ Q (.bl (wholeK k)) H
def sp_within (K : PySem.W.Frag) : Sp := fun vs H Q _ => ∃ v k lo hi, vs = [v, .int lo, .int hi] ∧ Kd K H v k ∧ Q (.bl (withinV v lo hi)) H
end L2

set_option Elab.async false
set_option linter.all false
set_option maxRecDepth 100000
set_option maxHeartbeats 4000000
namespace L2
open PySem PySem.Spec PyProof.Rows
theorem sIx_nat {n d k : Nat} (h : k ≤ n) : HT.sIx n d (some (k : Int)) = k := by
  unfold HT.sIx
  simp only
  split <;> omega
theorem cut_to {xs : List V} {k : Nat} (h : k ≤ xs.length) : cutV xs none (some (k : Int)) = xs.take k := by
  unfold cutV
  rw [sIx_nat h]
  show (xs.drop 0).take (k - 0) = _
  rw [List.drop_zero, Nat.sub_zero]
theorem cut_from {xs : List V} {k : Nat} (h : k ≤ xs.length) : cutV xs (some (k : Int)) none = xs.drop k := by
  unfold cutV
  rw [sIx_nat h]
  show (xs.drop k).take (xs.length - k) = _
  rw [List.take_of_length_le (by rw [List.length_drop]; exact Nat.le_refl _)]
/-- two neighbours exchanged -/
def swapAt {α : Type} : List α → Nat → List α
  | x :: y :: r, 0 => y :: x :: r
  | x :: r, k + 1 => x :: swapAt r k
  | l, _ => l
theorem swapAt_succ {α : Type} (a : α) (r : List α) (k : Nat) : swapAt (a :: r) (k + 1) = a :: swapAt r k := by cases r <;> rfl
theorem swapAt_len {α : Type} : ∀ (xs : List α) (k : Nat), (swapAt xs k).length = xs.length
  | [], 0 => rfl
  | [], _ + 1 => rfl
  | [_], 0 => rfl
  | _ :: _ :: _, 0 => rfl
  | _ :: r, k + 1 => by rw [swapAt_succ, List.length_cons, List.length_cons, swapAt_len r k]
theorem swapAt_cut {α : Type} : ∀ (xs : List α) (k : Nat) (x y : α), xs[k]? = some x → xs[k + 1]? = some y → xs.take k ++ [y, x] ++ xs.drop (k + 2) = swapAt xs k
  | [], _, _, _, h, _ => by simp at h
  | [_], 0, _, _, _, h => by simp at h
  | a :: b :: r, 0, x, y, h1, h2 => by
    simp at h1 h2
    subst h1 h2
    rfl
  | a :: r, k + 1, x, y, h1, h2 => by
    have := swapAt_cut r k x y (by simpa using h1) (by simpa using h2)
    rw [swapAt_succ]
    show a :: (r.take k) ++ [y, x] ++ r.drop (k + 2) = a :: swapAt r k
    rw [← this]
    rfl
theorem swapAt_map {α β : Type} (f : α → β) : ∀ (xs : List α) (k : Nat), swapAt (xs.map f) k = (swapAt xs k).map f
  | [], 0 => rfl
  | [], _ + 1 => rfl
  | [_], 0 => rfl
  | _ :: _ :: _, 0 => rfl
  | a :: r, k + 1 => by
    rw [swapAt_succ, List.map_cons, List.map_cons, swapAt_succ]
    rw [swapAt_map f r k]
theorem get_some {α : Type} {xs : List α} {k : Nat} (h : k < xs.length) : ∃ x, xs[k]? = some x := ⟨xs[k], List.getElem?_eq_getElem h⟩
def intsV (ns : List Int) : List V := ns.map V.int
theorem intsV_len (ns : List Int) : (intsV ns).length = ns.length := by unfold intsV; simp
/-- the order of a word -/
def wordOrd (m : Nat) (ks : List Nat) : List Int := ks.foldl swapAt ((List.range m).map fun (i : Nat) => (i : Int))
theorem foldl_swap_len {α : Type} (ks : List Nat) : ∀ xs : List α, (ks.foldl swapAt xs).length = xs.length := by
  induction ks with
  | nil => intro xs; rfl
  | cons k ks ih => intro xs; rw [List.foldl_cons, ih, swapAt_len]
theorem wordOrd_len (m : Nat) (ks : List Nat) : (wordOrd m ks).length = m := by unfold wordOrd; rw [foldl_swap_len]; simp
def natsV (ks : List Nat) : List V := ks.map fun (k : Nat) => V.int (k : Int)
end L2
namespace L2
open PySem PySem.Spec PyProof.Rows
theorem natsV_get {ks : List Nat} {i : Nat} {x : V} (h : (natsV ks)[i]? = some x) : ∃ k, ks[i]? = some k ∧ x = .int (k : Int) := by
  unfold natsV at h
  rw [List.getElem?_map] at h
  cases e : ks[i]? with
  | none => rw [e] at h; cases h
  | some k => rw [e] at h; exact ⟨k, rfl, (Option.some.inj h).symm⟩
theorem natsV_len (ks : List Nat) : (natsV ks).length = ks.length := by unfold natsV; simp
theorem take_step {α : Type} {ks : List α} {i : Nat} {k : α} (h : ks[i]? = some k) : ks.take (i + 1) = ks.take i ++ [k] := by
  rw [List.take_succ, h]; rfl
theorem wordOrd_step {m : Nat} {ks : List Nat} {i k : Nat} (h : ks[i]? = some k) : wordOrd m (ks.take (i + 1)) = swapAt (wordOrd m (ks.take i)) k := by
  unfold wordOrd
  rw [take_step h, List.foldl_append]; rfl
theorem le_size {n : Nat} (h : n ≤ 1000) : n ≤ sizeLine := Nat.le_trans h (by decide)
end L2

set_option Elab.async false
set_option linter.all false
set_option maxRecDepth 100000
set_option maxHeartbeats 4000000
namespace L2
open PySem PySem.Spec PyProof.Rows
theorem lay_ints : ∀ ns : List Int, PyData.canLayAll0 (ns.map PyData.int) = true
  | [] => rfl
  | n :: r => by simp only [List.map_cons, PyData.canLayAll0, PyData.canLay0, lay_ints r, Bool.and_self]
theorem dep_ints : ∀ ns : List Int, PyData.depthAll (ns.map PyData.int) = 0
  | [] => by simp [PyData.depthAll]
  | n :: r => by simp [PyData.depthAll, PyData.depth, dep_ints r]
theorem shaped_l (ns : List Int) : SeqAt.shaped (.list (ns.map PyData.int)) = true := by
  unfold SeqAt.shaped
  simp [PyData.canLay0, PyData.depth, lay_ints, dep_ints]
theorem eqv_self {d : PyData} (h : SeqAt.shaped d = true) : PyData.eqv d d = true := SeqAt.eqv_refl d (SeqAt.canLay_of_shaped h)
theorem dp_ints (K : PySem.W.Frag) (H : Hp) : ∀ ns : List Int, DpAll K H (intsV ns) (ns.map PyData.int)
  | [] => .nil
  | n :: r => .cons (.int n) (dp_ints K H r)
theorem nats_ints (ks : List Nat) : natsV ks = intsV (ks.map fun (k : Nat) => (k : Int)) := by unfold natsV intsV; rw [List.map_map]; rfl
theorem same_upd {H H' : Hp} {l : Addr} {o : HO} (s : Same H H') (h : H l = none) : Same H (upd H' l o) := fun b u e => by rw [upd_ne (ne_of_none e h)]; exact s b u e
theorem ixN_nat {n k : Nat} (h : k < n) : ixN n (k : Int) = some k := by
  unfold ixN
  rw [if_pos (by omega), if_pos (by omega)]
  simp
theorem get_intsV {ns : List Int} {i : Nat} {n : Int} (h : ns[i]? = some n) : (intsV ns)[i]? = some (.int n) := by
  unfold intsV
  rw [List.getElem?_map, h]; rfl
theorem yes_of {σ : St} {H : Hp} {A B : Hp → Prop} (h : A H) : tYes σ H fun b H3 => if b = true then A H3 else B H3 := by
  unfold tYes
  exact iteT h
theorem powOk {i j : Int} (h1 : 0 ≤ j) (h2 : j ≤ 1000000) (h3 : i.natAbs < 2 ^ 64) : CPow i j := ⟨h1, h2, h3⟩
theorem bits_ok {a b : Int} (h1 : Builtin.Int.intBits a ≤ 2 ^ 20) (h2 : Builtin.Int.intBits b ≤ 2 ^ 20) : IntMulOk a b := IntMulOk.of_bits h1 h2
end L2

set_option Elab.async false
set_option linter.all false
set_option maxRecDepth 100000
namespace L2
open PySem PySem.Spec PyProof.Rows
section
variable {prog : Program} {w : World} {A : Around} {E : Value → Shared → Prop} {s : Shared}
end
end L2

set_option Elab.async false
set_option linter.all false
set_option maxRecDepth 100000
set_option maxHeartbeats 4000000
namespace L2
open PySem PySem.Spec PyProof.Rows
/-- how many unlike ones -/
def nuq (zs : List Int) : Nat := (zs.foldl step_dedup []).length
section
variable {X : Cx}
end
/-! ### orders: the mirror of is_order -/
def intsOf : List V → Option (List Int)
  | [] => some []
  | .int i :: r => (intsOf r).map (i :: ·)
  | _ :: _ => none
theorem intsOf_intsV : ∀ zs : List Int, intsOf (intsV zs) = some zs
  | [] => rfl
  | z :: r => by show (intsOf (intsV r)).map (z :: ·) = _; rw [intsOf_intsV r]; rfl
def rowV (xs : List V) : Bool := decide (1 ≤ xs.length) && decide (xs.length ≤ 5)
def ordV (xs : List V) : Bool := rowV xs && ((xs.all fun x => withinV x 0 ((xs.length : Int) - 1)) && (match intsOf xs with | some zs => decide ((nuq zs : Int) = (zs.length : Int)) | none => false))
/-- a thing that is_order may be asked about -/
def Known (K : PySem.W.Frag) (H : Hp) (xs : List V) : Prop := ∀ x ∈ xs, ∃ k, Kd K H x k
end L2

set_option Elab.async false
set_option linter.all false
set_option maxRecDepth 100000
namespace L2
open PySem PySem.Spec PyProof.Rows

/-! ### how an exception lies behind a call -/
/-- B: the heap at the raise without the frames that ran: it stays as it is while the exception flies -/
structure FlyB (P : Program) (w : World) (outer : List Env) (H : Hp) (s s' : Shared) (ea : Addr) (cls : Value) (H' : Hp) (B : Heap) : Prop where
  os : s'.os = s.os
  fly : ∃ a0, Heap.FlyingW B outer ea cls a0 s'.heap
  hok : HOk P w H' B
  keep : ∀ b o, s.heap.get? b = some o → H b = none → b ∉ frs outer → B.get? b = some o
  slot : ∀ b o, s.heap.get? b = some o → H b = none → b ∈ frs outer → ∃ sl, s'.heap.get? b = some { o with slots := sl }
  free : ∀ b o, s.heap.get? b = some o → H b = none → H' b = none
  there : ∀ b o, s.heap.get? b = some o → b ∉ frs outer → ∃ o', B.get? b = some o'
  tups : ∀ b xs, H b = some (.tup xs) → H' b = some (.tup xs)
  frzs : ∀ b o u, H b = some (.frz o u) → H' b = some (.frz o u)
  tbls : ∀ b ps, H b = some (.tbl ps) → ∃ more, H' b = some (.tbl (ps ++ more))
section
variable {P : Program} {w : World} {outer : List Env} {H H' : Hp} {s s' : Shared} {ea : Addr} {cls : Value} {B h2 : Heap}
/-- the exception itself is not tracked -/
theorem FlyB.new (F : FlyB P w outer H s s' ea cls H' B) : H' ea = none := by
  obtain ⟨a0, f⟩ := F.fly
  cases q : H' ea with
  | none => rfl
  | some u =>
    exfalso
    have e := f.2.1
    have hB := F.hok ea u q
    have : ∃ o, B.get? ea = some o := by
      cases u with
      | lst xs => obtain ⟨_, _, _, _, e⟩ := hB; exact ⟨_, e⟩
      | tup xs => obtain ⟨_, _, _, ⟨o, e, _⟩, _⟩ := hB; exact ⟨_, e⟩
      | dK kvs => obtain ⟨_, _, _, _, o, _, _, e, _⟩ := hB; exact ⟨_, e⟩
      | dT kvs => obtain ⟨_, _, _, _, o, _, _, e, _⟩ := hB; exact ⟨_, e⟩
      | set S n => obtain ⟨o, _, _, _, e, _⟩ := hB; exact ⟨_, e⟩
      | ins C dx fs => obtain ⟨_, _, _, e, _⟩ := hB; exact ⟨_, e⟩
      | own y => exact hB
      | xd fs => obtain ⟨_, ⟨_, _, _, e, _⟩, _⟩ := hB; exact ⟨_, e⟩
      | rng lo hi => obtain ⟨_, _, _, e⟩ := hB; exact ⟨_, e⟩
      | frz ob u => obtain ⟨e, _⟩ := hB; exact ⟨_, e⟩
      | tbl ps => exact ⟨_, (show B.get? ea = some _ from hB)⟩
      | met f y => exact ⟨_, (show B.get? ea = some _ from hB)⟩
      | ext φ => obtain ⟨_, ⟨_, e⟩, _⟩ := hB; exact ⟨_, e⟩
    obtain ⟨o, e'⟩ := this
    rw [e] at e'; cases e'
/-- at any heap that the exception has reached over these frames -/
theorem FlyB.un (F : FlyB P w outer H s s' ea cls H' B) (hB : B.StaysIn h2) (hf : h2.FunFrames B outer) (hs : s'.heap.UpToSlots h2) : Un (frs outer) [] H H' s.heap h2 where
  keep := fun b o q n hb _ => hB b o (F.keep b o q n hb)
  slot := fun b o q n hb _ => by
    obtain ⟨sl, e⟩ := F.slot b o q n hb
    obtain ⟨a0, f⟩ := F.fly
    obtain ⟨_, o2, ho2, hd⟩ := f.2.2.1.mem hb
    rw [ho2] at e; cases e
    obtain ⟨sl', e'⟩ := hs b _ ho2 hd
    exact ⟨sl', e'⟩
  free := fun b o q n _ => F.free b o q n
  there := fun b o q _ => by
    by_cases hb : b ∈ frs outer
    · obtain ⟨_, o2, ho2, _⟩ := hf.mem hb
      exact ⟨o2, ho2⟩
    · obtain ⟨o', e⟩ := F.there b o q hb
      exact ⟨o', hB b o' e⟩
  tups := F.tups
  frzs := F.frzs
  tbls := F.tbls
theorem FlyB.ok (F : FlyB P w outer H s s' ea cls H' B) (hB : B.StaysIn h2) : HOk P w H' h2 := F.hok.kept fun b u e => hB b u e
end

/-! ### own classes of exceptions -/
structure OwnX (K : PySem.W.Frag) (mg : Str → Option Value) (x : Str) (C : Addr) (bmB : List Value) (newId : String) : Prop where
  bound : mg x = some (.ref C)
  ok : PySem.W.excIn K C bmB newId = true
theorem OwnX.obj {K : PySem.W.Frag} {mg : Str → Option Value} {x : Str} {C : Addr} {bmB : List Value} {newId : String} (O : OwnX K mg x C bmB newId) {h : Heap} (hk : K.In h) :
    ∃ bm N nm q bs hdct sn sub ab col dd k0 k1 k2 k3 k5 mN, h.get? C = some (excClassObj nm q C N bs bm hdct sn sub ab col dd k0 k1 k2 k3 k5 newId) ∧ h.Ns N mN ∧ mN "__init__" = none ∧ OwnTail h bmB bm := by
  have q := O.ok
  unfold PySem.W.excIn at q
  split at q
  · rename_i dd cd sl ho
    split at q
    · rename_i C' bm k0 k1 k2 k3 n k5 hm hs
      simp only [Bool.and_eq_true, beq_iff_eq, Bool.not_eq_true'] at q
      obtain ⟨⟨⟨⟨⟨rfl, rfl⟩, hdel⟩, ht⟩, hok⟩, hni⟩ := q
      obtain ⟨nm, bs, mro, ns, qn, hd, sn, sub, ab, col, del⟩ := cd
      dsimp only at hm hdel hok hni
      subst hm hdel
      have hsl : sl = #[k0, k1, k2, k3, some (.builtin n), k5] := by
        obtain ⟨l⟩ := sl
        simp only at hs
        rw [hs]
      subst hsl
      exact ⟨bm, ns, nm, qn, bs, hd, sn, sub, ab, col, dd, k0, k1, k2, k3, k5, _, hk _ _ ho, .of_isNs (PySem.W.isNs_of_in hk hok), PySem.W.nsMap_none_of_in hk hok hni, PySem.W.tail_of_in hk ht⟩
    · cases q
  · cases q

section
variable {P : Program} {w : World} {gq : Array GenState → Drawn → Prop} {K : PySem.W.Frag} {mg : Str → Option Value} {base : Heap} {N : List Str} {qual : Str} {scope : Scope} {f : Addr} {cd : Value} {A : Around} {outer : List Env} {s₀ : Shared} {H₀ : Hp} {E : XK}
end
end L2

set_option Elab.async false
set_option linter.all false
set_option maxRecDepth 100000
namespace L2
open PySem PySem.Spec PyProof.Rows PySem.W

/-! ### isinstance of an exception of one's own class -/
structure ExcK (K : Frag) (C : Addr) : Prop where
  ga : findIn K (.ref C) "__getattribute__" = some (some (.builtin "BaseException.__getattribute__"))
  gt : findIn K (.ref C) "__getattr__" = some none
  cl : findIn K (.ref C) "__class__" = some (some (.builtin "object.__class__"))
  ob : subIn K (.ref C) (.type "object") = some true
  bx : subIn K (.ref C) (.type "BaseException") = some true
  is : (clsIn K C).isSome = true
section
variable {prog : Program} {w : World} {A : Around} {E : Value → Shared → Prop} {h : Heap} {g : Array GenState} {d : Drawn} {t : Nat} {os : OsState} {a C : Addr} {o : Obj} {K : Frag}

end

/-- the exception at ea, of the class cls -/
def ExcO (ea : Addr) (cls : Value) : HO := .ext fun h => ∃ o vs, h.get? ea = some o ∧ o.cls = cls ∧ o.data = .fields vs
theorem ExcO.ok {P : Program} {w : World} {H : Hp} {h : Heap} {ea : Addr} {cls : Value} {o : Obj} {vs : Array Value} (e : h.get? ea = some o) (c : o.cls = cls) (d : o.data = .fields vs) : ObjOk P w H h ea (ExcO ea cls) :=
  ⟨⟨o, vs, e, c, d⟩, ⟨_, e⟩, fun h1 h2 ⟨o, vs, e, c, d⟩ k => ⟨o, vs, k _ e, c, d⟩⟩
theorem ExcO.at {P : Program} {w : World} {H : Hp} {h : Heap} {ea : Addr} {cls : Value} (ok : HOk P w H h) (e : H ea = some (ExcO ea cls)) : ∃ o vs, h.get? ea = some o ∧ o.cls = cls ∧ o.data = .fields vs := by
  obtain ⟨p, _, _⟩ := ok ea _ e
  exact p
section
variable {X : Cx}
end
end L2

set_option Elab.async false
set_option linter.all false
set_option maxRecDepth 100000
namespace L2
open PySem PySem.Spec PyProof.Rows PySem.W

/-! ### a class's ancestors -/
/-! ### what may raise, within a try -/
section
variable {X : Cx} {k : Nat} {f : Addr} {fd : FuncData} {ps : List Str} {sp : Sp} {dvs : List V} {ds : List Value} {x : Str} {p pos : Pos} {e : Expr} {es : List Expr} {t : TA}
end

/-! ### the except suite -/
section
variable {X : Cx} {pins : List (Addr × Obj)} {σ : St} {H : Hp} {s : Shared} {ea : Addr}
end

/-! ### try: .. except C0 as n: .. -/
end L2

set_option Elab.async false
set_option linter.all false
set_option maxRecDepth 100000
namespace L2
open PySem PySem.Spec PyProof.Rows
theorem PS.nox {X : Cx} {st : Stmt} {t : TS} (h : PS X.nox st t) : PS X st t := fun pins s σ H D I hw =>
  wpAny_mono (h pins s σ H D (I.wish _) hw) (fun _ _ q => q.unwish) fun _ _ z => False.elim z
end L2

set_option Elab.async false
set_option linter.all false
set_option maxRecDepth 100000
set_option maxHeartbeats 4000000
namespace SimL
open PySem PySem.SeqAt PyProof.Rows
open PySem.AutoSeq1 (wpAny_loadPart')
open PySem.MeetsSeq PySem.MeetsSeq2 PySem.MeetsSeq3
/-- two things, asked whether they are equal and, if not, whether the first is less -/
def C1 (A : Around) (s : Shared) (x y : Value) (e l : Bool) : Prop := EqAt A s x y e ∧ (e = false → ∀ (prog : Program) (w : World) (E : Value → Shared → Prop) (Q : Value → Shared → Prop), Q (.bool l) s → wpAny (model prog w) A (richCompare .Lt x y) Q E s)
/-- two rows, thing by thing -/
inductive Lex (A : Around) (s : Shared) : List Value → List Value → Bool → Prop
  | nn : Lex A s [] [] false
  | nc {y : Value} {ys : List Value} : Lex A s [] (y :: ys) true
  | cn {x : Value} {xs : List Value} : Lex A s (x :: xs) [] false
  | ne {x y : Value} {xs ys : List Value} {l : Bool} : C1 A s x y false l → Lex A s (x :: xs) (y :: ys) l
  | eq {x y : Value} {xs ys : List Value} {l b : Bool} : C1 A s x y true l → Lex A s xs ys b → Lex A s (x :: xs) (y :: ys) b
abbrev lo (items : Array Value) (n : Nat) (dd : Option Addr) (sl : Array (Option Value)) : Obj := { cls := .type "list", dict := dd, data := .seq items n, slots := sl }
theorem list_lt_loop (l b : Addr) (items items2 : Array Value) (n n2 : Nat) (dd dd2 : Option Addr) (sl sl2 : Array (Option Value)) (k : Nat) :
    ∀ i : Nat, items.size - i = k → Meets (Builtin.«list.__eq__.loop» ⟨[.ref l, .ref b, rawInt i, rawInt 0], []⟩)
      (fun A R s => s.heap.get? l = some (lo items n dd sl) ∧ s.heap.get? b = some (lo items2 n2 dd2 sl2) ∧
        i ≤ items.size ∧ i ≤ items2.size ∧ ∃ v, Lex A.in1 s (items.toList.drop i) (items2.toList.drop i) v ∧ R (.ok (.ret (.bool v))) s) := by
  induction k using Nat.strongRecOn with
  | ind k ih =>
    intro i hk prog w A R s h
    obtain ⟨hp, g, d, tk, os⟩ := s; obtain ⟨hl, hb, i1, i2, v, hx, hR⟩ := h
    have g1 : items[((i : Nat) : Int).toNat]? = (items.toList.drop i).head? := by simp
    have g2 : items2[((i : Nat) : Int).toNat]? = (items2.toList.drop i).head? := by simp
    wp_walk using wpAny_loadPart' hl, wpAny_loadPart' hb
    have l1 : (items.toList.drop i).length = items.size - i := by simp
    have l2 : (items2.toList.drop i).length = items2.size - i := by simp
    rw [g1, g2]
    generalize ea : items.toList.drop i = as at hx l1 g1 ⊢
    generalize eb : items2.toList.drop i = bs at hx l2 g2 ⊢
    cases hx with
    | nn =>
      simp only [List.length_nil] at l1 l2
      wp_walk using wpAny_loadPart' hl, wpAny_loadPart' hb
      show R (.ok (.ret (.bool (decide (items.size < items2.size))))) _
      rw [decide_eq_false (by omega)]
      exact hR
    | nc =>
      simp only [List.length_nil, List.length_cons] at l1 l2
      wp_walk using wpAny_loadPart' hl, wpAny_loadPart' hb
      show R (.ok (.ret (.bool (decide (items.size < items2.size))))) _
      rw [decide_eq_true (by omega)]
      exact hR
    | cn =>
      simp only [List.length_nil, List.length_cons] at l1 l2
      wp_walk using wpAny_loadPart' hl, wpAny_loadPart' hb
      show R (.ok (.ret (.bool (decide (items.size < items2.size))))) _
      rw [decide_eq_false (by omega)]
      exact hR
    | ne hc =>
      refine wpAny_bind (hc.1 prog w _ _ ?_)
      wp_walk using wpAny_loadPart' hl, wpAny_loadPart' hb
      rw [g1, g2]
      refine wpAny_bind (hc.2 rfl prog w _ _ ?_)
      wp_walk
      exact hR
    | @eq x y xs ys l' b' hc ht =>
      simp only [List.length_cons] at l1 l2
      have hcc : ((i : Int) + 1) = ((i + 1 : Nat) : Int) := by push_cast; rfl
      refine wpAny_bind (hc.1 prog w _ _ ?_)
      wp_walk
      rw [hcc]
      have d1 : items.toList.drop (i + 1) = xs := by rw [← List.drop_drop, ea]; rfl
      have d2 : items2.toList.drop (i + 1) = ys := by rw [← List.drop_drop, eb]; rfl
      exact ⟨plainId_quiet plain_eq_loop _, codeAny_builtin entry_eq_loop (by rw [Around.under_plainId plain_eq_loop _]; exact ih (items.size - (i + 1)) (by omega) (i + 1) rfl prog w A R _ ⟨hl, hb, by omega, by omega, v, by rw [d1, d2]; exact ht, hR⟩)⟩
theorem list_lt_at (l b : Addr) (items items2 : Array Value) (n n2 : Nat) (dd dd2 : Option Addr) (sl sl2 : Array (Option Value)) :
    Meets (Builtin.«list.__lt__» ⟨[.ref l, .ref b], []⟩)
      (fun A R s => s.heap.get? l = some (lo items n dd sl) ∧ s.heap.get? b = some (lo items2 n2 dd2 sl2) ∧
        ∃ v, Lex A.in1 s items.toList items2.toList v ∧ R (.ok (.ret (.bool v))) s) := by
  intro prog w A R s h
  obtain ⟨hp, g, d, tk, os⟩ := s; obtain ⟨hl, hb, v, hx, hR⟩ := h
  have f2 := AutoSeq1.sub_list_list
  wp_walk using wpAny_loadPart' hl, wpAny_loadPart' hb
  exact ⟨plainId_quiet plain_eq_loop _, codeAny_builtin entry_eq_loop (by rw [Around.under_plainId plain_eq_loop _]; exact list_lt_loop l b items items2 n n2 dd dd2 sl sl2 _ 0 rfl prog w A R _ ⟨hl, hb, Nat.zero_le _, Nat.zero_le _, v, hx, hR⟩)⟩
section
variable {prog : Program} {w : World} {A : Around} {E : Value → Shared → Prop} {s : Shared}
/-- xs < ys of two lists -/
theorem lt_lists {l b : Addr} {items items2 : Array Value} {v : Bool} {Q : Value → Shared → Prop} (hl : s.heap.IsList l items) (hb : s.heap.IsList b items2) (hx : Lex A.in1 s items.toList items2.toList v) (hu : A.units < cLine) (h : Q (.bool v) s) :
    wpAny (model prog w) A (richCompare .Lt (.ref l) (.ref b)) Q E s := by
  obtain ⟨⟨cls, dd, data, sl⟩, ho, hc, n, hd⟩ := id hl
  obtain ⟨⟨cls2, dd2, data2, sl2⟩, ho2, hc2, n2, hd2⟩ := id hb
  simp only at hc hd hc2 hd2
  subst hc hd hc2 hd2
  exact richCompare_meets_room (op := .Lt) ⟨_, ho, rfl⟩ ⟨_, ho2, rfl⟩ PySem.F.slot_list_lt PySem.F.entry_list_lt (PySem.F.args_list_lt_2 _ _) (list_lt_at l b items items2 n n2 dd dd2 sl sl2)
    ⟨ho, ho2, v, hx, show Value.bool v ≠ Value.notImplemented ∧ Q (.bool v) s from ⟨(fun x => nomatch x), h⟩⟩ hu
end
abbrev to_ (items : Array Value) (n : Nat) (dd : Option Addr) (sl : Array (Option Value)) : Obj := { cls := .type "tuple", dict := dd, data := .seq items n, slots := sl }
theorem tuple_lt_at (l b : Addr) (items items2 : Array Value) (n n2 : Nat) (dd dd2 : Option Addr) (sl sl2 : Array (Option Value)) :
    Meets (Builtin.«tuple.__lt__» ⟨[.ref l, .ref b], []⟩) (fun A R s => s.heap.get? l = some (to_ items n dd sl) ∧ s.heap.get? b = some (to_ items2 n2 dd2 sl2) ∧ ∃ v, Lex A.in1 s items.toList items2.toList v ∧ R (.ok (.ret (.bool v))) s) :=
  .of_wp fun prog w A R s h => by
    obtain ⟨hp, g, d, tk, os⟩ := s; obtain ⟨hl, hb, v, hx, h⟩ := h
    have f2 := AutoSeq1.sub_tuple_tuple
    wp_walk using wpAny_loadPart' hl, wpAny_loadPart' hb, wpAny_forIn_list _ (fun rest b s' => b.1 = none ∧ s' = ⟨hp, g, d, tk, os⟩ ∧ ∃ (vs ws : List Value), rest = vs.zip ws ∧ Lex A.in1 ⟨hp, g, d, tk, os⟩ vs ws v ∧ vs.length + items2.size = ws.length + items.size) _
    case turn =>
      rintro ⟨y, x⟩ rest b s' ⟨hb', rfl, vs, ws, hz, hx, hlen⟩
      cases hx with
      | nn => cases hz
      | nc => cases hz
      | cn => cases hz
      | ne hc =>
        rw [List.zip_cons_cons] at hz
        injection hz with hyx hrest
        injection hyx with hy hx
        subst hy hx
        refine wpAny_bind (hc.1 prog w _ _ ?_)
        have hri := hc.2 rfl prog w
        wp_walk using hri
        exact ⟨_, rfl, by simpa using h⟩
      | eq hc ht =>
        rw [List.zip_cons_cons] at hz
        injection hz with hyx hrest
        injection hyx with hy hx
        subst hy hx
        simp only [List.length_cons] at hlen
        refine wpAny_bind (hc.1 prog w _ _ ?_)
        wp_walk
        exact ⟨rfl, rfl, _, _, hrest, ht, by omega⟩
    case fin =>
      rintro ⟨b1, b2⟩ s' ⟨hb', rfl, vs, ws, hz, hx, hlen⟩
      simp only at hb'
      subst hb'
      have hv : v = decide (items.size < items2.size) := by
        cases hx with
        | nn => simp only [List.length_nil] at hlen; exact (decide_eq_false (by omega)).symm
        | nc => simp only [List.length_nil, List.length_cons] at hlen; exact (decide_eq_true (by omega)).symm
        | cn => simp only [List.length_nil, List.length_cons] at hlen; exact (decide_eq_false (by omega)).symm
        | ne hc => rw [List.zip_cons_cons] at hz; cases hz
        | eq hc ht => rw [List.zip_cons_cons] at hz; cases hz
      subst hv
      wp_walk
      exact ⟨_, rfl, by simpa [Builtin.Tuple.tupleCompareSizes] using h⟩
    case h => exact ⟨rfl, rfl, items.toList, items2.toList, rfl, hx, by simp; omega⟩
section
variable {prog : Program} {w : World} {A : Around} {E : Value → Shared → Prop} {s : Shared}
theorem lt_tuples {l b : Addr} {items items2 : Array Value} {v : Bool} {Q : Value → Shared → Prop} (hl : s.heap.IsTuple l items) (hb : s.heap.IsTuple b items2) (hx : Lex A.in1 s items.toList items2.toList v) (hu : A.units < cLine) (h : Q (.bool v) s) :
    wpAny (model prog w) A (richCompare .Lt (.ref l) (.ref b)) Q E s := by
  obtain ⟨⟨cls, dd, data, sl⟩, ho, hc, n, hd⟩ := id hl
  obtain ⟨⟨cls2, dd2, data2, sl2⟩, ho2, hc2, n2, hd2⟩ := id hb
  simp only at hc hd hc2 hd2
  subst hc hd hc2 hd2
  exact richCompare_meets_room (op := .Lt) ⟨_, ho, rfl⟩ ⟨_, ho2, rfl⟩ PySem.F.slot_tuple_lt PySem.F.entry_tuple_lt (PySem.F.args_tuple_lt_2 _ _) (tuple_lt_at l b items items2 n n2 dd dd2 sl sl2)
    ⟨ho, ho2, v, hx, show Value.bool v ≠ Value.notImplemented ∧ Q (.bool v) s from ⟨(fun x => nomatch x), h⟩⟩ hu
end
/-! the order of data -/
mutual
def ltD : PyData → PyData → Bool
  | .int i, .int j => decide (i < j)
  | .tuple xs, .tuple ys => ltA xs ys
  | .list xs, .list ys => ltA xs ys
  | _, _ => false
def ltA : List PyData → List PyData → Bool
  | [], [] => false
  | [], _ :: _ => true
  | _ :: _, [] => false
  | x :: xs, y :: ys => if PyData.eqv x y then ltA xs ys else ltD x y
end
mutual
def cmD : PyData → PyData → Bool
  | .int _, .int _ => true
  | .tuple xs, .tuple ys => cmA xs ys
  | .list xs, .list ys => cmA xs ys
  | _, _ => false
def cmA : List PyData → List PyData → Bool
  | x :: xs, y :: ys => cmD x y && cmA xs ys
  | _, _ => true
end
def RcLt (A : Around) (s : Shared) (x y : Value) (l : Bool) : Prop := ∀ (prog : Program) (w : World) (E : Value → Shared → Prop) (Q : Value → Shared → Prop), Q (.bool l) s → wpAny (model prog w) A (richCompare .Lt x y) Q E s
mutual
theorem rcLt_reads : ∀ (d e : PyData) (A : Around) (s : Shared) (x y : Value) (as bs : List Addr), Reads s.heap x d as → Reads s.heap y e bs → d.canLay0 = true → e.canLay0 = true → cmD d e = true → A.units + max d.depth e.depth < cLine → RcLt A s x y (ltD d e)
  | .int i, .int j, A, s, _, _, _, _, rx, ry, _, _, _, hu => by
    cases rx; cases ry
    exact fun prog w E Q h => HT.rcLt_int A s _ _ _ _ prog w E Q (by simpa [ltD] using h)
  | .tuple xs, .tuple ys, A, s, _, _, _, _, rx, ry, hx, hy, hc, hu => by
    cases rx with
    | tuple o1 c1 d1 r1 =>
      cases ry with
      | tuple o2 c2 d2 r2 =>
        simp only [PyData.depth] at hu
        exact fun prog w E Q h => lt_tuples ⟨_, o1, c1, _, d1⟩ ⟨_, o2, c2, _, d2⟩ (lex_reads xs ys A.in1 s _ _ _ _ r1 r2 (by simpa [PyData.canLay0] using hx) (by simpa [PyData.canLay0] using hy) (by simpa [cmD] using hc) (by show A.units + 1 + _ < _; omega)) (by omega) (by simpa [ltD] using h)
  | .list xs, .list ys, A, s, _, _, _, _, rx, ry, hx, hy, hc, hu => by
    cases rx with
    | list o1 c1 d1 r1 =>
      cases ry with
      | list o2 c2 d2 r2 =>
        simp only [PyData.depth] at hu
        exact fun prog w E Q h => lt_lists ⟨_, o1, c1, _, d1⟩ ⟨_, o2, c2, _, d2⟩ (lex_reads xs ys A.in1 s _ _ _ _ r1 r2 (by simpa [PyData.canLay0] using hx) (by simpa [PyData.canLay0] using hy) (by simpa [cmD] using hc) (by show A.units + 1 + _ < _; omega)) (by omega) (by simpa [ltD] using h)
  | .none, .none, _, _, _, _, _, _, _, _, _, _, hc, _ => by simp [cmD] at hc
  | .none, .bool _, _, _, _, _, _, _, _, _, _, _, hc, _ => by simp [cmD] at hc
  | .none, .int _, _, _, _, _, _, _, _, _, _, _, hc, _ => by simp [cmD] at hc
  | .none, .str _, _, _, _, _, _, _, _, _, _, _, hc, _ => by simp [cmD] at hc
  | .none, .list _, _, _, _, _, _, _, _, _, _, _, hc, _ => by simp [cmD] at hc
  | .none, .tuple _, _, _, _, _, _, _, _, _, _, _, hc, _ => by simp [cmD] at hc
  | .none, .dict _, _, _, _, _, _, _, _, _, _, _, hc, _ => by simp [cmD] at hc
  | .bool _, .none, _, _, _, _, _, _, _, _, _, _, hc, _ => by simp [cmD] at hc
  | .bool _, .bool _, _, _, _, _, _, _, _, _, _, _, hc, _ => by simp [cmD] at hc
  | .bool _, .int _, _, _, _, _, _, _, _, _, _, _, hc, _ => by simp [cmD] at hc
  | .bool _, .str _, _, _, _, _, _, _, _, _, _, _, hc, _ => by simp [cmD] at hc
  | .bool _, .list _, _, _, _, _, _, _, _, _, _, _, hc, _ => by simp [cmD] at hc
  | .bool _, .tuple _, _, _, _, _, _, _, _, _, _, _, hc, _ => by simp [cmD] at hc
  | .bool _, .dict _, _, _, _, _, _, _, _, _, _, _, hc, _ => by simp [cmD] at hc
  | .int _, .none, _, _, _, _, _, _, _, _, _, _, hc, _ => by simp [cmD] at hc
  | .int _, .bool _, _, _, _, _, _, _, _, _, _, _, hc, _ => by simp [cmD] at hc
  | .int _, .str _, _, _, _, _, _, _, _, _, _, _, hc, _ => by simp [cmD] at hc
  | .int _, .list _, _, _, _, _, _, _, _, _, _, _, hc, _ => by simp [cmD] at hc
  | .int _, .tuple _, _, _, _, _, _, _, _, _, _, _, hc, _ => by simp [cmD] at hc
  | .int _, .dict _, _, _, _, _, _, _, _, _, _, _, hc, _ => by simp [cmD] at hc
  | .str _, .none, _, _, _, _, _, _, _, _, _, _, hc, _ => by simp [cmD] at hc
  | .str _, .bool _, _, _, _, _, _, _, _, _, _, _, hc, _ => by simp [cmD] at hc
  | .str _, .int _, _, _, _, _, _, _, _, _, _, _, hc, _ => by simp [cmD] at hc
  | .str _, .str _, _, _, _, _, _, _, _, _, _, _, hc, _ => by simp [cmD] at hc
  | .str _, .list _, _, _, _, _, _, _, _, _, _, _, hc, _ => by simp [cmD] at hc
  | .str _, .tuple _, _, _, _, _, _, _, _, _, _, _, hc, _ => by simp [cmD] at hc
  | .str _, .dict _, _, _, _, _, _, _, _, _, _, _, hc, _ => by simp [cmD] at hc
  | .list _, .none, _, _, _, _, _, _, _, _, _, _, hc, _ => by simp [cmD] at hc
  | .list _, .bool _, _, _, _, _, _, _, _, _, _, _, hc, _ => by simp [cmD] at hc
  | .list _, .int _, _, _, _, _, _, _, _, _, _, _, hc, _ => by simp [cmD] at hc
  | .list _, .str _, _, _, _, _, _, _, _, _, _, _, hc, _ => by simp [cmD] at hc
  | .list _, .tuple _, _, _, _, _, _, _, _, _, _, _, hc, _ => by simp [cmD] at hc
  | .list _, .dict _, _, _, _, _, _, _, _, _, _, _, hc, _ => by simp [cmD] at hc
  | .tuple _, .none, _, _, _, _, _, _, _, _, _, _, hc, _ => by simp [cmD] at hc
  | .tuple _, .bool _, _, _, _, _, _, _, _, _, _, _, hc, _ => by simp [cmD] at hc
  | .tuple _, .int _, _, _, _, _, _, _, _, _, _, _, hc, _ => by simp [cmD] at hc
  | .tuple _, .str _, _, _, _, _, _, _, _, _, _, _, hc, _ => by simp [cmD] at hc
  | .tuple _, .list _, _, _, _, _, _, _, _, _, _, _, hc, _ => by simp [cmD] at hc
  | .tuple _, .dict _, _, _, _, _, _, _, _, _, _, _, hc, _ => by simp [cmD] at hc
  | .dict _, .none, _, _, _, _, _, _, _, _, _, _, hc, _ => by simp [cmD] at hc
  | .dict _, .bool _, _, _, _, _, _, _, _, _, _, _, hc, _ => by simp [cmD] at hc
  | .dict _, .int _, _, _, _, _, _, _, _, _, _, _, hc, _ => by simp [cmD] at hc
  | .dict _, .str _, _, _, _, _, _, _, _, _, _, _, hc, _ => by simp [cmD] at hc
  | .dict _, .list _, _, _, _, _, _, _, _, _, _, _, hc, _ => by simp [cmD] at hc
  | .dict _, .tuple _, _, _, _, _, _, _, _, _, _, _, hc, _ => by simp [cmD] at hc
  | .dict _, .dict _, _, _, _, _, _, _, _, _, _, _, hc, _ => by simp [cmD] at hc
theorem lex_reads : ∀ (xs ys : List PyData) (A : Around) (s : Shared) (vs ws : List Value) (as bs : List Addr), ReadsAll s.heap vs xs as → ReadsAll s.heap ws ys bs → PyData.canLayAll0 xs = true → PyData.canLayAll0 ys = true → cmA xs ys = true → A.units + max (PyData.depthAll xs) (PyData.depthAll ys) < cLine → Lex A s vs ws (ltA xs ys)
  | [], [], _, _, _, _, _, _, r1, r2, _, _, _, _ => by cases r1; cases r2; simpa [ltA] using Lex.nn
  | [], _ :: _, _, _, _, _, _, _, r1, r2, _, _, _, _ => by cases r1; cases r2; simpa [ltA] using Lex.nc
  | _ :: _, [], _, _, _, _, _, _, r1, r2, _, _, _, _ => by cases r1; cases r2; simpa [ltA] using Lex.cn
  | x :: xs, y :: ys, A, s, _, _, _, _, r1, r2, h1, h2, hc, hu => by
    cases r1 with
    | cons a1 b1 =>
      cases r2 with
      | cons a2 b2 =>
        have h1 : x.canLay0 = true ∧ PyData.canLayAll0 xs = true := by simpa [PyData.canLayAll0] using h1
        have h2 : y.canLay0 = true ∧ PyData.canLayAll0 ys = true := by simpa [PyData.canLayAll0] using h2
        have hc : cmD x y = true ∧ cmA xs ys = true := by simpa [cmA] using hc
        simp only [PyData.depthAll] at hu
        have he := eqAt_reads x y A s _ _ _ _ a1 a2 h1.1 h2.1 (by omega)
        have hl := rcLt_reads x y A s _ _ _ _ a1 a2 h1.1 h2.1 hc.1 (by omega)
        have ht := lex_reads xs ys A s _ _ _ _ b1 b2 h1.2 h2.2 hc.2 (by omega)
        simp only [ltA]
        cases e : PyData.eqv x y with
        | true => rw [e] at he; rw [if_pos rfl]; exact .eq (l := false) ⟨he, fun z => by cases z⟩ ht
        | false => rw [e] at he; rw [if_neg (by simp)]; exact .ne ⟨he, fun _ => hl⟩
end
end SimL

set_option Elab.async false
set_option linter.all false
set_option maxHeartbeats 4000000
namespace PySem
/-- a run has one end -/
theorem Runs.det {M : Model} {Γ : Ctx} {p : Pos} {t : Sem Fin} {fs : List Frame} {s : Shared} {e₁ : End} {s₁ : Shared} (h : Runs M Γ p t fs s e₁ s₁) :
    ∀ {e₂ : End} {s₂ : Shared}, Runs M Γ p t fs s e₂ s₂ → e₁ = e₂ ∧ s₁ = s₂ := by
  induction h with
  | done => intro e₂ s₂ h; cases h; exact ⟨rfl, rfl⟩
  | raise => intro e₂ s₂ h; cases h; exact ⟨rfl, rfl⟩
  | again _ _ ih => intro e₂ s₂ h; cases h; exact ih (by assumption)
  | rule _ ih => intro e₂ s₂ h; cases h; exact ih (by assumption)
  | «at» _ ih => intro e₂ s₂ h; cases h; exact ih (by assumption)
  | load h1 _ ih => intro e₂ s₂ h; cases h with | load h2 h3 => rw [h1] at h2; cases h2; exact ih h3
  | update _ _ ih => intro e₂ s₂ h; cases h; exact ih (by assumption)
  | loadIfAlive _ ih => intro e₂ s₂ h; cases h; exact ih (by assumption)
  | point _ ih => intro e₂ s₂ h; cases h; exact ih (by assumption)
  | alloc _ ih => intro e₂ s₂ h; cases h; exact ih (by assumption)
  | fresh _ ih => intro e₂ s₂ h; cases h; exact ih (by assumption)
  | ask _ ih => intro e₂ s₂ h; cases h; exact ih (by assumption)
  | choose _ _ ih => intro e₂ s₂ h; cases h; exact ih (by assumption)
  | os _ ih => intro e₂ s₂ h; cases h; exact ih (by assumption)
  | handled _ ih => intro e₂ s₂ h; cases h; exact ih (by assumption)
  | genState h1 _ ih => intro e₂ s₂ h; cases h with | genState h2 h3 => rw [h1] at h2; cases h2; exact ih h3
  | stack _ ih => intro e₂ s₂ h; cases h; exact ih (by assumption)
  | thread _ ih => intro e₂ s₂ h; cases h; exact ih (by assumption)
  | newGen _ ih => intro e₂ s₂ h; cases h; exact ih (by assumption)
  | call _ _ ih1 ih2 =>
    intro e₂ s₂ h
    cases h with
    | call h1 h2 => obtain ⟨a, b⟩ := ih1 h1; cases a; subst b; exact ih2 h2
    | callSusp h1 => obtain ⟨a, b⟩ := ih1 h1; cases a
  | callSusp _ ih1 =>
    intro e₂ s₂ h
    cases h with
    | call h1 h2 => obtain ⟨a, b⟩ := ih1 h1; cases a
    | callSusp h1 => obtain ⟨a, b⟩ := ih1 h1; cases a; subst b; exact ⟨rfl, rfl⟩
  | yield => intro e₂ s₂ h; cases h; exact ⟨rfl, rfl⟩
  | resumeFresh h1 _ _ _ ih1 ih2 =>
    intro e₂ s₂ h
    cases h with
    | resumeFresh k1 k2 _ k3 => rw [h1] at k1; cases k1; obtain ⟨a, b⟩ := ih1 k2; subst a b; exact ih2 k3
    | resumeSuspended k1 => rw [h1] at k1; cases k1
    | resumeJustStarted _ k2 => exact absurd rfl k2
    | resumeRunning k1 => rw [h1] at k1; cases k1
    | resumeFinished k1 => rw [h1] at k1; cases k1
  | resumeSuspended h1 _ _ _ ih1 ih2 =>
    intro e₂ s₂ h
    cases h with
    | resumeFresh k1 => rw [h1] at k1; cases k1
    | resumeSuspended k1 k2 _ k3 => rw [h1] at k1; cases k1; obtain ⟨a, b⟩ := ih1 k2; subst a b; exact ih2 k3
    | resumeJustStarted k1 => rw [h1] at k1; cases k1
    | resumeThrowFresh k1 => rw [h1] at k1; cases k1
    | resumeRunning k1 => rw [h1] at k1; cases k1
    | resumeFinished k1 => rw [h1] at k1; cases k1
  | resumeJustStarted h1 h2 _ ih =>
    intro e₂ s₂ h
    cases h with
    | resumeFresh k1 => exact absurd rfl h2
    | resumeSuspended k1 => rw [h1] at k1; cases k1
    | resumeJustStarted _ _ k => exact ih k
    | resumeRunning k1 => rw [h1] at k1; cases k1
    | resumeFinished k1 => rw [h1] at k1; cases k1
  | resumeThrowFresh h1 _ ih =>
    intro e₂ s₂ h
    cases h with
    | resumeSuspended k1 => rw [h1] at k1; cases k1
    | resumeThrowFresh _ k => exact ih k
    | resumeRunning k1 => rw [h1] at k1; cases k1
    | resumeFinished k1 => rw [h1] at k1; cases k1
  | resumeRunning h1 _ ih =>
    intro e₂ s₂ h
    cases h with
    | resumeFresh k1 => rw [h1] at k1; cases k1
    | resumeSuspended k1 => rw [h1] at k1; cases k1
    | resumeJustStarted k1 => rw [h1] at k1; cases k1
    | resumeThrowFresh k1 => rw [h1] at k1; cases k1
    | resumeRunning _ k => exact ih k
    | resumeFinished k1 => rw [h1] at k1; cases k1
  | resumeFinished h1 _ ih =>
    intro e₂ s₂ h
    cases h with
    | resumeFresh k1 => rw [h1] at k1; cases k1
    | resumeSuspended k1 => rw [h1] at k1; cases k1
    | resumeJustStarted k1 => rw [h1] at k1; cases k1
    | resumeThrowFresh k1 => rw [h1] at k1; cases k1
    | resumeRunning k1 => rw [h1] at k1; cases k1
    | resumeFinished _ k => exact ih k
  | segRet _ _ ih1 ih2 =>
    intro e₂ s₂ h
    cases h with
    | segRet h1 h2 => obtain ⟨a, b⟩ := ih1 h1; cases a; subst b; exact ih2 h2
    | segSuspOut _ h1 => obtain ⟨a, b⟩ := ih1 h1; cases a
    | segSuspGen _ h1 => obtain ⟨a, b⟩ := ih1 h1; cases a
  | segGen _ _ ih1 ih2 =>
    intro e₂ s₂ h
    cases h with
    | segGen h1 h2 => obtain ⟨a, b⟩ := ih1 h1; cases a; subst b; exact ih2 h2
    | segSuspOut _ h1 => obtain ⟨a, b⟩ := ih1 h1; cases a
    | segSuspGen _ h1 => obtain ⟨a, b⟩ := ih1 h1; cases a
  | segSuspOut hn _ ih1 =>
    intro e₂ s₂ h
    cases h with
    | segRet h1 _ => obtain ⟨a, b⟩ := ih1 h1; cases a
    | segGen h1 _ => obtain ⟨a, b⟩ := ih1 h1; cases a
    | segSuspOut _ h1 => obtain ⟨a, b⟩ := ih1 h1; cases a; subst b; exact ⟨rfl, rfl⟩
    | segSuspGen k1 h1 => rw [hn] at k1; cases k1
  | segSuspGen hn _ _ _ ih1 ih2 =>
    intro e₂ s₂ h
    cases h with
    | segRet h1 _ => obtain ⟨a, b⟩ := ih1 h1; cases a
    | segGen h1 _ => obtain ⟨a, b⟩ := ih1 h1; cases a
    | segSuspOut k1 h1 => rw [hn] at k1; cases k1
    | segSuspGen k1 h1 _ h2 => rw [hn] at k1; cases k1; obtain ⟨a, b⟩ := ih1 h1; cases a; subst b; exact ih2 h2
/-- what a tree is shown to end in, in two ways, it ends in both -/
theorem wp_det {α : Type} {M : Model} {Γ : Ctx} : ∀ (t : Sem α) {Q Q' : α → Pos → Shared → Prop} {E E' : Value → Pos → Shared → Prop} (p : Pos) (s : Shared),
    Sem.wp M Γ t Q E p s → Sem.wp M Γ t Q' E' p s → Sem.wp M Γ t (fun a p s => Q a p s ∧ Q' a p s) (fun e p s => E e p s ∧ E' e p s) p s := by
  intro t
  induction t with
  | pure a => exact fun p s h h' => ⟨h, h'⟩
  | raise e => exact fun p s h h' => ⟨h, h'⟩
  | unsupported | finish | yield | fork | await | register => exact fun p s h _ => h.elim
  | rule _ k ih | «at» _ k ih | alloc _ k ih | loadIfAlive _ k ih | point _ k ih | fresh k ih | ask k ih | os _ _ k ih | handled _ k ih | newGen _ k ih | stack k ih | thread k ih => exact fun p s h h' => ih _ _ _ h h'
  | load a _ k ih | genState a k ih => exact fun p s ⟨o, ho, h⟩ ⟨o', ho', h'⟩ => ⟨o, ho, by rw [ho] at ho'; cases ho'; exact ih _ _ _ h h'⟩
  | update a _ f k ih | choose _ _ k ih => exact fun p s ⟨ha, h⟩ ⟨_, h'⟩ => ⟨ha, ih _ _ _ h h'⟩
  | call c h g l k ih =>
    intro Q Q' E E' p s h h'
    obtain ⟨r, s1, h1, h2⟩ := h
    obtain ⟨r', s1', h1', h2'⟩ := h'
    obtain ⟨a, b⟩ := Runs.det h1 h1'
    cases a
    subst b
    exact ⟨r, s1, h1, ih _ _ _ h2 h2'⟩
  | resume g r l k ih =>
    intro Q Q' E E' p s h h'
    obtain ⟨r1, s1, h1, h2⟩ := h
    obtain ⟨r2, s2, h1', h2'⟩ := h'
    have : r1 = r2 ∧ s1 = s2 := by
      unfold Wakes at h1 h1'
      cases hg : s.gens[g]? with
      | none => rw [hg] at h1; exact h1.elim
      | some x =>
        rw [hg] at h1 h1'
        cases x with
        | fresh c =>
          cases r with
          | send v =>
            cases v with
            | none =>
              obtain ⟨e1, t1, a1, _, b1, c1⟩ := h1
              obtain ⟨e2, t2, a2, _, b2, c2⟩ := h1'
              obtain ⟨a, b⟩ := Runs.det a1 a2
              subst a b b1 b2 c1 c2
              exact ⟨rfl, rfl⟩
            | _ => exact ⟨h1.1.trans h1'.1.symm, h1.2.trans h1'.2.symm⟩
          | throw y => exact ⟨h1.1.trans h1'.1.symm, h1.2.trans h1'.2.symm⟩
        | suspended k0 l0 c0 p0 fs cl =>
          obtain ⟨e1, t1, a1, _, b1, c1⟩ := h1
          obtain ⟨e2, t2, a2, _, b2, c2⟩ := h1'
          obtain ⟨a, b⟩ := Runs.det a1 a2
          subst a b b1 b2 c1 c2
          exact ⟨rfl, rfl⟩
        | running => exact ⟨h1.1.trans h1'.1.symm, h1.2.trans h1'.2.symm⟩
        | finished => exact ⟨h1.1.trans h1'.1.symm, h1.2.trans h1'.2.symm⟩
    obtain ⟨rfl, rfl⟩ := this
    exact ⟨r1, s1, h1, ih _ _ _ h2 h2'⟩
/-- no tree is shown to end in nothing -/
theorem wp_some {α : Type} {M : Model} {Γ : Ctx} {C : Prop} : ∀ (t : Sem α) {Q : α → Pos → Shared → Prop} {E : Value → Pos → Shared → Prop} (p : Pos) (s : Shared),
    (∀ a p s, Q a p s → C) → (∀ e p s, E e p s → C) → Sem.wp M Γ t Q E p s → C := by
  intro t
  induction t with
  | pure a => exact fun p s h _ x => h _ _ _ x
  | raise e => exact fun p s _ h x => h _ _ _ x
  | unsupported | finish | yield | fork | await | register => exact fun p s _ _ h => h.elim
  | rule _ k ih | «at» _ k ih | alloc _ k ih | loadIfAlive _ k ih | point _ k ih | fresh k ih | ask k ih | os _ _ k ih | handled _ k ih | newGen _ k ih | stack k ih | thread k ih => exact fun p s a b h => ih _ _ _ a b h
  | load a _ k ih | genState a k ih => exact fun p s a b ⟨o, ho, h⟩ => ih _ _ _ a b h
  | update a _ f k ih | choose _ _ k ih => exact fun p s a b ⟨ha, h⟩ => ih _ _ _ a b h
  | call c h g l k ih => exact fun p s a b ⟨r, s1, h1, h2⟩ => ih _ _ _ a b h2
  | resume g r l k ih => exact fun p s a b ⟨r1, s1, h1, h2⟩ => ih _ _ _ a b h2
end PySem

set_option Elab.async false
set_option linter.all false
set_option maxRecDepth 100000
set_option maxHeartbeats 4000000
namespace SimS
open PySem PyProof.Rows
/-- two runs of the sort, step by step alike: one over the things themselves, one over numbers in their place -/
structure Two (n : Nat) where
  M : Model
  A : Around
  E : Value → Shared → Prop
  s : Shared
  kd : SortKind
  f : Fin n → Keyed
  g : Fin n → Keyed
  B : Fin n → Fin n → Bool
  hf : ∀ i j (Q : Bool → Shared → Prop) (E' : Value → Shared → Prop), Q (B i j) s → wpAny M A (keyLt' kd (f i).1 (f j).1) Q E' s
  hg : ∀ i j (Q : Bool → Shared → Prop) (E' : Value → Shared → Prop), Q (B i j) s → wpAny M A (keyLt' oneType' (g i).1 (g j).1) Q E' s
variable {n : Nat} (T : Two n)
structure RelS (st st' : SortSt) : Prop where
  k : kindOf st = T.kd
  k' : kindOf st' = oneType'
  I : ∃ I : Array (Fin n), arrOf st = I.map T.f ∧ arrOf st' = I.map T.g
  pend : pendingOf st' = pendingOf st
  gal : gallopOf st' = gallopOf st
  fl : failedOf st = none
  fl' : failedOf st' = none
class Rl (T : Two n) (α : Type) where
  r : α → α → Prop
instance : Rl T Nat := ⟨Eq⟩
instance : Rl T Bool := ⟨Eq⟩
instance : Rl T Unit := ⟨Eq⟩
instance : Rl T PUnit := ⟨Eq⟩
instance : Rl T (Option Nat) := ⟨Eq⟩
instance : Rl T (Option Bool) := ⟨Eq⟩
instance : Rl T (Option Unit) := ⟨Eq⟩
instance : Rl T SortSt := ⟨RelS T⟩
instance : Rl T Keyed := ⟨fun p q => ∃ i, p = T.f i ∧ q = T.g i⟩
instance : Rl T (Array Keyed) := ⟨fun a b => ∃ I : Array (Fin n), a = I.map T.f ∧ b = I.map T.g⟩
instance {α β : Type} [Rl T α] [Rl T β] : Rl T (α × β) := ⟨fun a b => Rl.r T a.1 b.1 ∧ Rl.r T a.2 b.2⟩
instance : Rl T (Option (Array Keyed)) := ⟨fun a b => match a, b with | none, none => True | some x, some y => ∃ I : Array (Fin n), x = I.map T.f ∧ y = I.map T.g | _, _ => False⟩
instance {α : Type} [Rl T α] : Rl T (ForInStep α) := ⟨fun a b => match a, b with | .done x, .done y => Rl.r T x y | .yield x, .yield y => Rl.r T x y | _, _ => False⟩
def Sim {α : Type} [Rl T α] (m m' : StateT SortSt Sem α) : Prop := ∀ st st', RelS T st st' → ∀ Γ, Γ.In T.A → ∀ (p p' : Pos) (Q' : α → SortSt → Shared → Prop),
  Sem.wp T.M Γ (m'.run st') (fun x _ s1 => Q' x.1 x.2 s1) (fun _ _ _ => False) p' T.s →
  Sem.wp T.M Γ (m.run st) (fun x _ s1 => s1 = T.s ∧ ∃ b st1', Rl.r T x.1 b ∧ RelS T x.2 st1' ∧ Q' b st1' T.s) (fun e _ s' => T.E e s') p T.s
variable {T}
theorem sim_pure {α : Type} [Rl T α] {a b : α} (h : Rl.r T a b) : Sim T (pure a) (pure b) := by
  intro st st' hr Γ hΓ p p' Q' w
  rw [StateT.run_pure] at w ⊢
  exact ⟨rfl, b, st', h, hr, w⟩
theorem sim_bind {α β : Type} [Rl T α] [Rl T β] {m m' : StateT SortSt Sem α} {k k' : α → StateT SortSt Sem β} (h : Sim T m m') (hk : ∀ a b, Rl.r T a b → Sim T (k a) (k' b)) : Sim T (m >>= k) (m' >>= k') := by
  intro st st' hr Γ hΓ p p' Q' w
  rw [StateT.run_bind] at w ⊢
  rw [Sem.wp_bind'] at w ⊢
  have w1 := h st st' hr Γ hΓ p p' (fun b st1' s1 => ∃ p1, Sem.wp T.M Γ ((k' b).run st1') (fun x _ s1 => Q' x.1 x.2 s1) (fun _ _ _ => False) p1 s1) (Sem.wp_mono _ _ _ (fun x p1 s1 h => ⟨p1, h⟩) (fun _ _ _ h => h) _ _ w)
  refine Sem.wp_mono _ _ _ ?_ (fun _ _ _ h => h) _ _ w1
  rintro ⟨a, st1⟩ p1 s1 ⟨e, b, st1', hab, hr1, p2, w2⟩
  subst e
  exact hk a b hab st1 st1' hr1 Γ hΓ p1 p2 Q' w2
theorem sim_get : Sim T (get : StateT SortSt Sem SortSt) get := by
  intro st st' hr Γ hΓ p p' Q' w
  rw [StateT.run_get] at w ⊢
  exact ⟨rfl, st', st', hr, hr, w⟩
theorem sim_modify {u u' : SortSt → SortSt} (h : ∀ st st', RelS T st st' → RelS T (u st) (u' st')) : Sim T (modify u : StateT SortSt Sem PUnit) (modify u') := by
  intro st st' hr Γ hΓ p p' Q' w
  rw [StateT.run_modify] at w ⊢
  exact ⟨rfl, ⟨⟩, _, rfl, h _ _ hr, w⟩
theorem sim_set {a b : SortSt} (h : RelS T a b) : Sim T (set a : StateT SortSt Sem PUnit) (set b) := by
  intro st st' hr Γ hΓ p p' Q' w
  rw [StateT.run_set] at w ⊢
  exact ⟨rfl, ⟨⟩, _, rfl, h, w⟩
theorem sim_rule {t : String} : Sim T (liftM (rule t) : StateT SortSt Sem Unit) (liftM (rule t)) := by
  intro st st' hr Γ hΓ p p' Q' w
  exact ⟨rfl, (), _, rfl, hr, w⟩
theorem sim_none {α : Type} [Rl T α] {m : StateT SortSt Sem α} {t : String} : Sim T m (liftM (unsupported t : Sem α)) := by
  intro st st' hr Γ hΓ p p' Q' w
  exact w.elim
theorem sim_none' {α : Type} [Rl T α] {m : StateT SortSt Sem α} {t : String} : Sim T m (unsupported t) := by
  intro st st' hr Γ hΓ p p' Q' w
  exact w.elim
theorem sim_ite {α : Type} [Rl T α] {c : Prop} [Decidable c] {a b a' b' : StateT SortSt Sem α} (h1 : c → Sim T a a') (h2 : ¬ c → Sim T b b') : Sim T (if c then a else b) (if c then a' else b') := by
  by_cases h : c
  · rw [if_pos h, if_pos h]; exact h1 h
  · rw [if_neg h, if_neg h]; exact h2 h
theorem sim_list {β : Type} [Rl T β] {f f' : Nat → β → StateT SortSt Sem (ForInStep β)} (h : ∀ i c c', Rl.r T c c' → Sim T (f i c) (f' i c')) : ∀ (l : List Nat) {c c' : β}, Rl.r T c c' → Sim T (forIn l c f) (forIn l c' f')
  | [], c, c', hc => by rw [List.forIn_nil, List.forIn_nil]; exact sim_pure hc
  | x :: r, c, c', hc => by
    rw [List.forIn_cons, List.forIn_cons]
    refine sim_bind (h x c c' hc) fun a b hab => ?_
    cases a with
    | done a' =>
      cases b with
      | done b' => exact sim_pure hab
      | yield b' => exact hab.elim
    | yield a' =>
      cases b with
      | done b' => exact hab.elim
      | yield b' => exact sim_list h r hab
theorem sim_for {β : Type} [Rl T β] {x y : Nat} {f f' : Nat → β → StateT SortSt Sem (ForInStep β)} {c c' : β} (hc : Rl.r T c c') (h : ∀ i c c', Rl.r T c c' → Sim T (f i c) (f' i c')) : Sim T (forIn [x:y] c f) (forIn [x:y] c' f') := by
  rw [Std.Legacy.Range.forIn_eq_forIn_range', Std.Legacy.Range.forIn_eq_forIn_range']
  exact sim_list h _ hc
theorem sim_elem {a b : Array Keyed} (h : Rl.r T a b) (i : Nat) : Sim T (elem' a i) (elem' b i) := by
  obtain ⟨I, rfl, rfl⟩ := h
  rw [elem'_eq, elem'_eq, Array.getElem?_map, Array.getElem?_map]
  cases e : I[i]? with
  | none => exact sim_none'
  | some j => exact sim_pure ⟨j, rfl, rfl⟩
theorem lift_run {α : Type} (m : Sem α) (st : SortSt) : (liftM m : StateT SortSt Sem α).run st = m >>= fun a => pure (a, st) := rfl
theorem sim_lt {x y x' y' : Keyed} (hx : Rl.r T x x') (hy : Rl.r T y y') : Sim T (lt' x y) (lt' x' y') := by
  obtain ⟨i, rfl, rfl⟩ := hx
  obtain ⟨j, rfl, rfl⟩ := hy
  rw [lt'_eq, lt'_eq]
  refine sim_bind sim_get fun a b hab => ?_
  have hab : RelS T a b := hab
  rw [hab.k, hab.k']
  intro st st' hr Γ hΓ p p' Q' w
  rw [StateT.run_bind, lift_run] at w ⊢
  rw [Sem.wp_bind', Sem.wp_bind', Sem.wp_attempt] at w ⊢
  have w2 := T.hg i j (fun b s1 => b = T.B i j ∧ s1 = T.s) (fun _ _ => False) ⟨rfl, rfl⟩ Γ p' hΓ
  have w3 := wp_det _ _ _ w w2
  have q : Q' (some (T.B i j)) st' T.s := by
    refine wp_some _ _ _ ?_ ?_ w3
    · rintro b p1 s1 ⟨h1, rfl, rfl⟩
      exact h1
    · rintro e p1 s1 ⟨_, h⟩
      exact h.elim
  refine Sem.wp_mono _ _ _ ?_ ?_ _ _ (T.hf i j (fun b s1 => b = T.B i j ∧ s1 = T.s) (fun _ _ => False) ⟨rfl, rfl⟩ Γ p hΓ)
  · rintro b p1 s1 ⟨rfl, rfl⟩
    exact ⟨rfl, _, st', rfl, hr, q⟩
  · rintro e p1 s1 h
    exact h.elim
theorem sim_ltAt (i j : Nat) : Sim T (ltAt' i j) (ltAt' i j) := by
  rw [ltAt'_eq]
  refine sim_bind sim_get fun a b hab => ?_
  have hab : RelS T a b := hab
  exact sim_bind (sim_elem hab.I i) fun x x' hx => sim_bind (sim_elem hab.I j) fun y y' hy => sim_lt hx hy

instance : Rl T (Option (Option Nat)) := ⟨Eq⟩
instance : Rl T (Option (Option Nat) × Nat) := ⟨Eq⟩
instance : Rl T (Option (Option Nat) × Nat × Nat) := ⟨Eq⟩
instance : Rl T (Option Bool × Nat × Nat) := ⟨Eq⟩
instance : Rl T (Option Bool × Unit) := ⟨Eq⟩
instance : Rl T (Option Unit × Unit) := ⟨Eq⟩
instance : Rl T (Option Unit × Nat) := ⟨Eq⟩
instance : Rl T (Nat × Nat) := ⟨Eq⟩
instance : Rl T (Nat × Nat × Nat) := ⟨Eq⟩
theorem eq_of {α : Type} (T : Two n) [i : Rl T α] (h : i = ⟨Eq⟩ := by rfl) {a b : α} (x : Rl.r T a b) : a = b := by subst h; exact x
theorem map_swap {β γ : Type} (I : Array γ) (u : γ → β) (i j : Nat) : (I.map u).swapIfInBounds i j = (I.swapIfInBounds i j).map u := by
  unfold Array.swapIfInBounds
  simp only [Array.size_map]
  split
  · split
    · apply Array.ext
      · simp
      · intro k h1 h2
        simp only [Array.getElem_map, Array.getElem_swap]
        split
        · rfl
        · split <;> rfl
    · rfl
  · rfl
theorem map_mirror {β γ : Type} (I : Array γ) (u : γ → β) (i j : Nat) : ∀ d, mirror (I.map u) i j d = (mirror I i j d).map u
  | 0 => rfl
  | d + 1 => by rw [mirror_succ, mirror_succ, map_mirror I u i j d, map_swap]
theorem map_bubble {β γ : Type} (I : Array γ) (u : γ → β) (i : Nat) : ∀ d, bubble (I.map u) i d = (bubble I i d).map u
  | 0 => rfl
  | d + 1 => by rw [bubble_succ, bubble_succ, map_bubble I u i d, map_swap]
theorem RelS.setA {st st' : SortSt} (h : RelS T st st') {a b : Array Keyed} (hi : ∃ I : Array (Fin n), a = I.map T.f ∧ b = I.map T.g) : RelS T (setArr st a) (setArr st' b) := ⟨h.k, h.k', hi, h.pend, h.gal, h.fl, h.fl'⟩
theorem sim_rev (i j : Nat) : Sim T (reverseSlice' i j) (reverseSlice' i j) := by
  rw [reverseSlice'_eq]
  refine sim_modify fun st st' h => h.setA ?_
  obtain ⟨I, e1, e2⟩ := h.I
  exact ⟨mirror I i j ((j - i) / 2), by rw [e1, map_mirror], by rw [e2, map_mirror]⟩
theorem sim_down (i j : Nat) : Sim T (moveDown' i j) (moveDown' i j) := by
  rw [moveDown'_eq]
  refine sim_modify fun st st' h => h.setA ?_
  obtain ⟨I, e1, e2⟩ := h.I
  exact ⟨bubble I i (i - j), by rw [e1, map_bubble], by rw [e2, map_bubble]⟩
theorem sim_bindE {α β : Type} [i : Rl T α] [Rl T β] {m m' : StateT SortSt Sem α} {k k' : α → StateT SortSt Sem β} (hi : i = ⟨Eq⟩) (h : Sim T m m') (hk : ∀ a, Sim T (k a) (k' a)) : Sim T (m >>= k) (m' >>= k') :=
  sim_bind h fun a b hab => by have := eq_of T hi hab; subst this; exact hk a
theorem sim_bindO {α β : Type} [i : Rl T (Option α)] [Rl T β] {m m' : StateT SortSt Sem (Option α)} {k k' : Option α → StateT SortSt Sem β} (hi : i = ⟨Eq⟩) (h : Sim T m m') (h0 : Sim T (k none) (k' none)) (hk : ∀ a, Sim T (k (some a)) (k' (some a))) : Sim T (m >>= k) (m' >>= k') :=
  sim_bindE hi h fun a => by cases a; exact h0; exact hk _
theorem sim_forE {β : Type} [i : Rl T β] {x y : Nat} {f f' : Nat → β → StateT SortSt Sem (ForInStep β)} {c : β} (hi : i = ⟨Eq⟩) (h : ∀ i c, Sim T (f i c) (f' i c)) : Sim T (forIn [x:y] c f) (forIn [x:y] c f') :=
  sim_for (by subst hi; rfl) fun i c c' hc => by have := eq_of T hi hc; subst this; exact h i c
theorem sim_countRun (lo nrem : Nat) : Sim T (countRun' lo nrem) (countRun' lo nrem) := by
  rw [countRun'_eq]
  repeat' first
    | exact sim_pure rfl
    | exact sim_ltAt _ _
    | exact sim_rule
    | exact sim_rev _ _
    | exact sim_down _ _
    | refine sim_forE rfl fun i c => ?_
    | refine sim_bindO rfl ?_ ?_ fun a => ?_
    | refine sim_bindE rfl ?_ fun a => ?_
    | refine sim_ite (fun _ => ?_) (fun _ => ?_)
    | dsimp only
    | split
theorem sim_binarySort (lo k ok : Nat) : Sim T (binarySort' lo k ok) (binarySort' lo k ok) := by
  rw [binarySort'_eq]
  repeat' first
    | exact sim_pure rfl
    | exact sim_ltAt _ _
    | exact sim_rule
    | exact sim_rev _ _
    | exact sim_down _ _
    | refine sim_forE rfl fun i c => ?_
    | refine sim_bindO rfl ?_ ?_ fun a => ?_
    | refine sim_bindE rfl ?_ fun a => ?_
    | refine sim_ite (fun _ => ?_) (fun _ => ?_)
    | dsimp only
    | split
theorem sim_beyond {left : Bool} {key key' : Keyed} {arr arr' : Array Keyed} (hk : Rl.r T key key') (ha : Rl.r T arr arr') (base i : Nat) : Sim T (beyond' left key arr base i) (beyond' left key' arr' base i) := by
  unfold beyond'
  refine sim_bind (sim_elem ha _) fun x x' hx => ?_
  refine sim_ite (fun _ => sim_lt hx hk) (fun _ => ?_)
  refine sim_bindE rfl (sim_lt hk hx) fun a => sim_pure rfl
theorem sim_gallop {left : Bool} {key key' : Keyed} {arr arr' : Array Keyed} (hk : Rl.r T key key') (ha : Rl.r T arr arr') (base k hint : Nat) : Sim T (gallop' left key arr base k hint) (gallop' left key' arr' base k hint) := by
  rw [gallop'_eq, gallop'_eq]
  repeat' first
    | exact sim_pure rfl
    | exact sim_ltAt _ _
    | exact sim_rule
    | exact sim_beyond hk ha _ _
    | exact sim_rev _ _
    | exact sim_down _ _
    | refine sim_forE rfl fun i c => ?_
    | refine sim_bindO rfl ?_ ?_ fun a => ?_
    | refine sim_bindE rfl ?_ fun a => ?_
    | refine sim_ite (fun _ => ?_) (fun _ => ?_)
    | dsimp only
    | split
end SimS

set_option Elab.async false
set_option linter.all false
set_option maxRecDepth 100000
set_option maxHeartbeats 4000000
namespace SimS
open PySem PyProof.Rows
variable {n : Nat} {T : Two n}
abbrev RA (T : Two n) (a b : Array Keyed) : Prop := ∃ I : Array (Fin n), a = I.map T.f ∧ b = I.map T.g
abbrev RK (T : Two n) (p q : Keyed) : Prop := ∃ i, p = T.f i ∧ q = T.g i
theorem rA_push {a b : Array Keyed} {x y : Keyed} (h : RA T a b) (k : RK T x y) : RA T (a.push x) (b.push y) := by
  obtain ⟨I, rfl, rfl⟩ := h
  obtain ⟨i, rfl, rfl⟩ := k
  exact ⟨I.push i, by simp, by simp⟩
theorem rA_one {x y : Keyed} (k : RK T x y) : RA T #[x] #[y] := by
  obtain ⟨i, rfl, rfl⟩ := k
  exact ⟨#[i], by simp, by simp⟩
theorem rA_app {a b c d : Array Keyed} (h : RA T a b) (k : RA T c d) : RA T (a ++ c) (b ++ d) := by
  obtain ⟨I, rfl, rfl⟩ := h
  obtain ⟨J, rfl, rfl⟩ := k
  exact ⟨I ++ J, by simp, by simp⟩
theorem rA_ext {a b : Array Keyed} {i j : Nat} (h : RA T a b) : RA T (a.extract i j) (b.extract i j) := by
  obtain ⟨I, rfl, rfl⟩ := h
  exact ⟨I.extract i j, by simp, by simp⟩
theorem rA_rev {a b : Array Keyed} (h : RA T a b) : RA T a.reverse b.reverse := by
  obtain ⟨I, rfl, rfl⟩ := h
  exact ⟨I.reverse, by simp, by simp⟩
theorem rA_size {a b : Array Keyed} (h : RA T a b) : b.size = a.size := by
  obtain ⟨I, rfl, rfl⟩ := h
  simp
theorem sim_setG (k : Nat) : Sim T (setMinGallop' k) (setMinGallop' k) := by
  rw [setMinGallop'_eq]
  exact sim_modify fun st st' h => ⟨h.k, h.k', h.I, h.pend, rfl, h.fl, h.fl'⟩
instance {β : Type} : Rl T (Option (Array Keyed) × Array Keyed × β) := ⟨fun c c' => Rl.r T c.1 c'.1 ∧ RA T c.2.1 c'.2.1 ∧ c.2.2 = c'.2.2⟩
theorem sim_forA {β : Type} {x y : Nat} {f f' : Nat → (Option (Array Keyed) × Array Keyed × β) → StateT SortSt Sem (ForInStep (Option (Array Keyed) × Array Keyed × β))} {out out' : Array Keyed} {e : β} (h : RA T out out')
    (hs : ∀ i o o' out out' e, RA T out out' → Sim T (f i (o, out, e)) (f' i (o', out', e))) : Sim T (forIn [x:y] (none, out, e) f) (forIn [x:y] (none, out', e) f') := by
  refine sim_for ⟨trivial, h, rfl⟩ fun i c c' hc => ?_
  obtain ⟨o, u, v⟩ := c
  obtain ⟨o', u', v'⟩ := c'
  obtain ⟨_, h2, h3⟩ := hc
  have h3 : v = v' := h3
  subst h3
  exact hs i o o' u u' v h2
theorem sim_bindA {β γ : Type} [Rl T γ] {m m' : StateT SortSt Sem (Option (Array Keyed) × Array Keyed × β)} {k k' : (Option (Array Keyed) × Array Keyed × β) → StateT SortSt Sem γ} (h : Sim T m m')
    (h0 : ∀ out out' e, RA T out out' → Sim T (k (none, out, e)) (k' (none, out', e))) (h1 : ∀ r r' out out' e, RA T r r' → RA T out out' → Sim T (k (some r, out, e)) (k' (some r', out', e))) : Sim T (m >>= k) (m' >>= k') := by
  refine sim_bind h fun c c' hc => ?_
  obtain ⟨o, u, v⟩ := c
  obtain ⟨o', u', v'⟩ := c'
  obtain ⟨h0', h2, h3⟩ := hc
  have h3 : v = v' := h3
  subst h3
  cases o with
  | none =>
    cases o' with
    | none => exact h0 _ _ _ h2
    | some r' => exact h0'.elim
  | some r =>
    cases o' with
    | none => exact h0'.elim
    | some r' => exact h1 _ _ _ _ _ h0' h2
theorem sim_bindK {γ : Type} [Rl T γ] {m m' : StateT SortSt Sem Keyed} {k k' : Keyed → StateT SortSt Sem γ} (h : Sim T m m') (hk : ∀ x x', RK T x x' → Sim T (k x) (k' x')) : Sim T (m >>= k) (m' >>= k') := sim_bind h hk
theorem sim_doneS {β : Type} {r r' out out' : Array Keyed} {e : β} (h : RA T r r') (h2 : RA T out out') : Sim T (pure (ForInStep.done (some r, out, e))) (pure (ForInStep.done (some r', out', e))) := sim_pure (show _ ∧ _ ∧ _ from ⟨h, h2, rfl⟩)
theorem sim_doneN {β : Type} {out out' : Array Keyed} {e : β} (h2 : RA T out out') : Sim T (pure (ForInStep.done ((none : Option (Array Keyed)), out, e))) (pure (ForInStep.done (none, out', e))) := sim_pure (show _ ∧ _ ∧ _ from ⟨trivial, h2, rfl⟩)
theorem sim_yieldN {β : Type} {out out' : Array Keyed} {e : β} (h2 : RA T out out') : Sim T (pure (ForInStep.yield ((none : Option (Array Keyed)), out, e))) (pure (ForInStep.yield (none, out', e))) := sim_pure (show _ ∧ _ ∧ _ from ⟨trivial, h2, rfl⟩)
theorem sim_pureA {r r' : Array Keyed} (h : RA T r r') : Sim T (pure r) (pure r') := sim_pure h
theorem sim_mergeLo {a b a' b' : Array Keyed} (ha : RA T a a') (hb : RA T b b') : Sim T (mergeLo' a b) (mergeLo' a' b') := by
  rw [mergeLo'_eq, mergeLo'_eq]
  rw [rA_size ha, rA_size hb]
  dsimp only
  refine sim_bindE rfl sim_rule fun _ => ?_
  refine sim_bindK (sim_elem hb 0) fun x x' hx => ?_
  have h1 := rA_one hx
  refine sim_ite (fun _ => sim_pure (rA_app (rA_app h1 (rA_ext ha)) (rA_ext hb))) fun _ => ?_
  refine sim_ite (fun _ => sim_pure (rA_app (rA_app h1 (rA_ext hb)) (rA_ext ha))) fun _ => ?_
  refine sim_bind sim_get fun st st' hst => ?_
  have hst : RelS T st st' := hst
  rw [hst.gal]
  repeat' first
    | exact sim_rule
    | exact sim_none'
    | exact sim_setG _
    | exact sim_lt (by assumption) (by assumption)
    | exact sim_elem (by assumption) _
    | exact sim_gallop (by assumption) (by assumption) _ _ _
    | (refine sim_doneS ?_ ?_ <;> (repeat' first | with_reducible assumption | with_reducible apply rA_app | with_reducible apply rA_push | with_reducible apply rA_ext | with_reducible apply rA_rev))
    | (refine sim_doneN ?_ <;> (repeat' first | with_reducible assumption | with_reducible apply rA_app | with_reducible apply rA_push | with_reducible apply rA_ext | with_reducible apply rA_rev))
    | (refine sim_yieldN ?_ <;> (repeat' first | with_reducible assumption | with_reducible apply rA_app | with_reducible apply rA_push | with_reducible apply rA_ext | with_reducible apply rA_rev))
    | (refine sim_pureA ?_ <;> (repeat' first | with_reducible assumption | with_reducible apply rA_app | with_reducible apply rA_push | with_reducible apply rA_ext | with_reducible apply rA_rev))
    | refine sim_forA (by repeat' first | with_reducible assumption | with_reducible apply rA_app | with_reducible apply rA_push | with_reducible apply rA_ext | with_reducible apply rA_rev) fun i o o' out out' e hA => ?_
    | refine sim_bindA ?_ (fun out out' e hA => ?_) (fun r r' out out' e hR hA => ?_)
    | refine sim_bindO rfl ?_ ?_ fun a => ?_
    | refine sim_bindE rfl ?_ fun a => ?_
    | refine sim_bindK ?_ fun x x' hx => ?_
    | refine sim_ite (fun _ => ?_) (fun _ => ?_)
    | dsimp only
    | split
end SimS

set_option Elab.async false
set_option linter.all false
set_option maxRecDepth 100000
set_option maxHeartbeats 4000000
namespace SimS
open PySem PyProof.Rows
variable {n : Nat} {T : Two n}
instance {β : Type} : Rl T (Option (Array Keyed) × Nat × Nat × Array Keyed × β) := ⟨fun c c' => Rl.r T c.1 c'.1 ∧ c.2.1 = c'.2.1 ∧ c.2.2.1 = c'.2.2.1 ∧ RA T c.2.2.2.1 c'.2.2.2.1 ∧ c.2.2.2.2 = c'.2.2.2.2⟩
theorem sim_forH {β : Type} {x y : Nat} {f f' : Nat → (Option (Array Keyed) × Nat × Nat × Array Keyed × β) → StateT SortSt Sem (ForInStep (Option (Array Keyed) × Nat × Nat × Array Keyed × β))} {out out' : Array Keyed} {u v : Nat} {e : β} (h : RA T out out')
    (hs : ∀ i o o' u v out out' e, RA T out out' → Sim T (f i (o, u, v, out, e)) (f' i (o', u, v, out', e))) : Sim T (forIn [x:y] (none, u, v, out, e) f) (forIn [x:y] (none, u, v, out', e) f') := by
  refine sim_for ⟨trivial, rfl, rfl, h, rfl⟩ fun i c c' hc => ?_
  obtain ⟨o, a1, a2, u, v⟩ := c
  obtain ⟨o', b1, b2, u', v'⟩ := c'
  obtain ⟨_, g1, g2, h2, h3⟩ := hc
  have h3 : v = v' := h3
  have g1 : a1 = b1 := g1
  have g2 : a2 = b2 := g2
  subst h3 g1 g2
  exact hs i o o' _ _ u u' v h2
theorem sim_bindH {β γ : Type} [Rl T γ] {m m' : StateT SortSt Sem (Option (Array Keyed) × Nat × Nat × Array Keyed × β)} {k k' : (Option (Array Keyed) × Nat × Nat × Array Keyed × β) → StateT SortSt Sem γ} (h : Sim T m m')
    (h0 : ∀ u v out out' e, RA T out out' → Sim T (k (none, u, v, out, e)) (k' (none, u, v, out', e))) (h1 : ∀ r r' u v out out' e, RA T r r' → RA T out out' → Sim T (k (some r, u, v, out, e)) (k' (some r', u, v, out', e))) : Sim T (m >>= k) (m' >>= k') := by
  refine sim_bind h fun c c' hc => ?_
  obtain ⟨o, a1, a2, u, v⟩ := c
  obtain ⟨o', b1, b2, u', v'⟩ := c'
  obtain ⟨h0', g1, g2, h2, h3⟩ := hc
  have h3 : v = v' := h3
  have g1 : a1 = b1 := g1
  have g2 : a2 = b2 := g2
  subst h3 g1 g2
  cases o with
  | none =>
    cases o' with
    | none => exact h0 _ _ _ _ _ h2
    | some r' => exact h0'.elim
  | some r =>
    cases o' with
    | none => exact h0'.elim
    | some r' => exact h1 _ _ _ _ _ _ _ h0' h2
theorem sim_doneSH {β : Type} {r r' out out' : Array Keyed} {u v : Nat} {e : β} (h : RA T r r') (h2 : RA T out out') : Sim T (pure (ForInStep.done (some r, u, v, out, e))) (pure (ForInStep.done (some r', u, v, out', e))) := sim_pure (show _ ∧ _ ∧ _ ∧ _ ∧ _ from ⟨h, rfl, rfl, h2, rfl⟩)
theorem sim_doneNH {β : Type} {out out' : Array Keyed} {u v : Nat} {e : β} (h2 : RA T out out') : Sim T (pure (ForInStep.done ((none : Option (Array Keyed)), u, v, out, e))) (pure (ForInStep.done (none, u, v, out', e))) := sim_pure (show _ ∧ _ ∧ _ ∧ _ ∧ _ from ⟨trivial, rfl, rfl, h2, rfl⟩)
theorem sim_yieldNH {β : Type} {out out' : Array Keyed} {u v : Nat} {e : β} (h2 : RA T out out') : Sim T (pure (ForInStep.yield ((none : Option (Array Keyed)), u, v, out, e))) (pure (ForInStep.yield (none, u, v, out', e))) := sim_pure (show _ ∧ _ ∧ _ ∧ _ ∧ _ from ⟨trivial, rfl, rfl, h2, rfl⟩)
theorem sim_mergeHi {a b a' b' : Array Keyed} (ha : RA T a a') (hb : RA T b b') : Sim T (mergeHi' a b) (mergeHi' a' b') := by
  rw [mergeHi'_eq, mergeHi'_eq]
  rw [rA_size ha, rA_size hb]
  dsimp only
  refine sim_bindE rfl sim_rule fun _ => ?_
  refine sim_bindK (sim_elem ha _) fun x x' hx => ?_
  have h1 := rA_one hx
  refine sim_ite (fun _ => sim_pure (rA_app (rA_app (rA_ext ha) (rA_ext hb)) (rA_rev h1))) fun _ => ?_
  refine sim_ite (fun _ => sim_pure (rA_app (rA_app (rA_ext hb) (rA_ext ha)) (rA_rev h1))) fun _ => ?_
  refine sim_bind sim_get fun st st' hst => ?_
  have hst : RelS T st st' := hst
  rw [hst.gal]
  repeat' first
    | exact sim_rule
    | exact sim_none'
    | exact sim_setG _
    | exact sim_lt (by assumption) (by assumption)
    | exact sim_elem (by assumption) _
    | exact sim_gallop (by assumption) (by assumption) _ _ _
    | (refine sim_doneSH ?_ ?_ <;> (repeat' first | with_reducible assumption | with_reducible apply rA_app | with_reducible apply rA_push | with_reducible apply rA_ext | with_reducible apply rA_rev))
    | (refine sim_doneNH ?_ <;> (repeat' first | with_reducible assumption | with_reducible apply rA_app | with_reducible apply rA_push | with_reducible apply rA_ext | with_reducible apply rA_rev))
    | (refine sim_yieldNH ?_ <;> (repeat' first | with_reducible assumption | with_reducible apply rA_app | with_reducible apply rA_push | with_reducible apply rA_ext | with_reducible apply rA_rev))
    | (refine sim_pureA ?_ <;> (repeat' first | with_reducible assumption | with_reducible apply rA_app | with_reducible apply rA_push | with_reducible apply rA_ext | with_reducible apply rA_rev))
    | refine sim_forH (by repeat' first | with_reducible assumption | with_reducible apply rA_app | with_reducible apply rA_push | with_reducible apply rA_ext | with_reducible apply rA_rev) fun i o o' u v out out' e hA => ?_
    | refine sim_bindH ?_ (fun u v out out' e hA => ?_) (fun r r' u v out out' e hR hA => ?_)
    | refine sim_bindO rfl ?_ ?_ fun a => ?_
    | refine sim_bindE rfl ?_ fun a => ?_
    | refine sim_bindK ?_ fun x x' hx => ?_
    | refine sim_ite (fun _ => ?_) (fun _ => ?_)
    | dsimp only
    | split
theorem rA_set {a b : Array Keyed} {x y : Keyed} {i : Nat} (h : RA T a b) (k : RK T x y) : RA T (a.setIfInBounds i x) (b.setIfInBounds i y) := by
  obtain ⟨I, rfl, rfl⟩ := h
  obtain ⟨j, rfl, rfl⟩ := k
  refine ⟨I.setIfInBounds i j, ?_, ?_⟩ <;>
  · apply Array.ext_getElem?
    intro m
    simp only [Array.getElem?_map, Array.getElem?_setIfInBounds, Array.size_map]
    split
    · split <;> rfl
    · rfl
theorem rA_fold (sa : Nat) : ∀ (l : List (Fin n)) (k : Nat) {a b : Array Keyed}, RA T a b →
    RA T (((l.map T.f).zipIdx k).foldl (fun a (q : Keyed × Nat) => a.setIfInBounds (sa + q.2) q.1) a) (((l.map T.g).zipIdx k).foldl (fun a (q : Keyed × Nat) => a.setIfInBounds (sa + q.2) q.1) b)
  | [], _, _, _, h => h
  | i :: r, k, a, b, h => by
    rw [List.map_cons, List.map_cons, List.zipIdx_cons, List.zipIdx_cons, List.foldl_cons, List.foldl_cons]
    exact rA_fold sa r (k + 1) (rA_set h ⟨i, rfl, rfl⟩)
theorem sim_mergeAt (i : Nat) : Sim T (mergeAt' i) (mergeAt' i) := by
  rw [mergeAt'_eq]
  refine sim_bind sim_get fun st st' hst => ?_
  have hst : RelS T st st' := hst
  rw [hst.pend]
  have hI : RA T (arrOf st) (arrOf st') := hst.I
  dsimp only
  split
  · rename_i sa na power sb nb x
    refine sim_bindE rfl (sim_set ⟨hst.k, hst.k', hst.I, rfl, hst.gal, hst.fl, hst.fl'⟩) fun _ => ?_
    refine sim_bindK (sim_elem hI _) fun x x' hx => ?_
    refine sim_bindO rfl (sim_gallop hx hI _ _ _) (sim_pure rfl) fun k => ?_
    dsimp only
    refine sim_ite (fun _ => sim_pure rfl) fun _ => ?_
    refine sim_bindK (sim_elem hI _) fun y y' hy => ?_
    refine sim_bindO rfl (sim_gallop hy hI _ _ _) (sim_pure rfl) fun k2 => ?_
    dsimp only
    refine sim_ite (fun _ => sim_pure rfl) fun _ => ?_
    have key : ∀ (c : Nat) (m m' : Array Keyed), RA T m m' → Sim T (do modify fun s => setArr s (m.toList.zipIdx.foldl (fun a (p : Keyed × Nat) => a.setIfInBounds (c + p.2) p.1) (arrOf s)); return (failedOf (← get)).isNone : StateT SortSt Sem Bool) (do modify fun s => setArr s (m'.toList.zipIdx.foldl (fun a (p : Keyed × Nat) => a.setIfInBounds (c + p.2) p.1) (arrOf s)); return (failedOf (← get)).isNone) := by
      intro c m m' hm
      refine sim_bindE rfl (sim_modify fun st st' h => h.setA ?_) fun _ => ?_
      · obtain ⟨J, rfl, rfl⟩ := hm
        have := rA_fold (T := T) c J.toList 0 h.I
        simpa using this
      · refine sim_bind sim_get fun st st' hst => ?_
        have hst : RelS T st st' := hst
        rw [hst.fl, hst.fl']
        exact sim_pure rfl
    refine sim_ite (fun _ => ?_) fun _ => ?_
    · exact sim_bind (sim_mergeLo (rA_ext hI) (rA_ext hI)) fun m m' hm => key _ m m' hm
    · exact sim_bind (sim_mergeHi (rA_ext hI) (rA_ext hI)) fun m m' hm => key _ m m' hm
  · exact sim_none'
theorem RelS.setP {st st' : SortSt} (h : RelS T st st') {p p' : Array (Nat × Nat × Nat)} (e : p' = p) : RelS T (setPending st p) (setPending st' p') := ⟨h.k, h.k', h.I, e, h.gal, h.fl, h.fl'⟩
theorem sim_sortRuns : Sim T sortRuns' sortRuns' := by
  rw [sortRuns'_eq]
  refine sim_bind sim_get fun st st' hst => ?_
  have hst : RelS T st st' := hst
  have hI : RA T (arrOf st) (arrOf st') := hst.I
  rw [rA_size hI]
  dsimp only
  repeat' first
    | exact sim_pure rfl
    | exact sim_countRun _ _
    | exact sim_binarySort _ _ _
    | exact sim_mergeAt _
    | exact sim_rule
    | exact sim_modify fun st st' h => h.setP (by rw [h.pend])
    | refine sim_forE rfl fun i c => ?_
    | (refine sim_bind sim_get fun st st' hst => ?_; have hst : RelS T st st' := hst; rw [hst.pend])
    | refine sim_bindO rfl ?_ ?_ fun a => ?_
    | refine sim_bindE rfl ?_ fun a => ?_
    | refine sim_ite (fun _ => ?_) (fun _ => ?_)
    | dsimp only
    | split
end SimS

set_option Elab.async false
set_option linter.all false
set_option maxRecDepth 100000
set_option maxHeartbeats 4000000
namespace SimS
open PySem PyProof.Rows
/-- by how many of a list a thing is preceded -/
def rkOf {n : Nat} (B : Fin n → Fin n → Bool) (i : Fin n) : Int := (((List.finRange n).filter fun j => B j i).length : Int)
/-- an order that may have equals -/
structure Weak {n : Nat} (B : Fin n → Fin n → Bool) : Prop where
  irr : ∀ i, B i i = false
  tr : ∀ i j k, B i j = true → B j k = true → B i k = true
  neg : ∀ i j k, B i k = true → B i j = true ∨ B j k = true
theorem filter_lt {α : Type} {p q : α → Bool} : ∀ {l : List α}, (∀ x ∈ l, p x = true → q x = true) → (∃ x ∈ l, q x = true ∧ p x = false) → (l.filter p).length < (l.filter q).length
  | [], _, ⟨x, hx, _⟩ => by cases hx
  | y :: r, h, ⟨x, hx, hq, hp⟩ => by
    have hr : ∀ z ∈ r, p z = true → q z = true := fun z hz => h z (by simp [hz])
    have hle : (r.filter p).length ≤ (r.filter q).length := by
      clear hx hq hp
      induction r with
      | nil => exact Nat.le_refl _
      | cons z t ih =>
        have := ih (fun w hw => h w (by simp at hw ⊢; rcases hw with rfl | hw; exact .inl rfl; exact .inr (.inr hw))) (fun w hw => hr w (by simp [hw]))
        rw [List.filter_cons, List.filter_cons]
        by_cases hz : p z = true
        · rw [if_pos hz, if_pos (hr z (by simp) hz)]; simpa using this
        · rw [if_neg hz]
          split
          · simp; omega
          · exact this
    rw [List.filter_cons, List.filter_cons]
    rcases List.mem_cons.mp hx with rfl | hx
    · rw [if_neg (by simp [hp]), if_pos hq]
      simp; omega
    · have ih := filter_lt hr ⟨x, hx, hq, hp⟩
      by_cases hy : p y = true
      · rw [if_pos hy, if_pos (h y (by simp) hy)]; simpa using ih
      · rw [if_neg hy]
        split
        · simp; omega
        · exact ih
theorem filter_le {α : Type} {p q : α → Bool} : ∀ {l : List α}, (∀ x ∈ l, p x = true → q x = true) → (l.filter p).length ≤ (l.filter q).length
  | [], _ => Nat.le_refl _
  | y :: r, h => by
    have ih := filter_le (l := r) fun z hz => h z (by simp [hz])
    rw [List.filter_cons, List.filter_cons]
    by_cases hy : p y = true
    · rw [if_pos hy, if_pos (h y (by simp) hy)]; simpa using ih
    · rw [if_neg hy]
      split
      · simp; omega
      · exact ih
theorem Weak.rk {n : Nat} {B : Fin n → Fin n → Bool} (w : Weak B) (i j : Fin n) : B i j = decide (rkOf B i < rkOf B j) := by
  unfold rkOf
  cases h : B i j with
  | true =>
    refine (decide_eq_true ?_).symm
    have := filter_lt (l := List.finRange n) (p := fun k => B k i) (q := fun k => B k j) (fun k _ hk => w.tr k i j hk h) ⟨i, List.mem_finRange i, h, w.irr i⟩
    omega
  | false =>
    refine (decide_eq_false ?_).symm
    have := filter_le (l := List.finRange n) (p := fun k => B k j) (q := fun k => B k i) fun k _ hk => (w.neg k i j hk).resolve_right (by rw [h]; simp)
    omega
section
variable {prog : Program} {w : World} {A : Around} {E : Value → Shared → Prop} {s : Shared} {n : Nat}
def gOf (B : Fin n → Fin n → Bool) (i : Fin n) : Keyed := (.int (rkOf B i) 0, .int (i.val : Nat) 0)
def gInv (h : 0 < n) (p : Keyed) : Fin n := match p.2 with | .int i _ => ⟨i.toNat % n, Nat.mod_lt _ h⟩ | _ => ⟨0, h⟩
theorem gInv_g (h : 0 < n) (B : Fin n → Fin n → Bool) (i : Fin n) : gInv h (gOf B i) = i := by
  unfold gInv gOf
  apply Fin.ext
  show (((i.val : Nat) : Int).toNat) % n = i.val
  rw [Int.toNat_natCast, Nat.mod_eq_of_lt i.isLt]
/-- the runs of the sort over things that are asked at this place -/
theorem runs_two {kd : SortKind} {f : Fin n → Keyed} {B : Fin n → Fin n → Bool} (wk : Weak B) (h2 : 2 ≤ n)
    (hf : ∀ i j (Q : Bool → Shared → Prop) (E' : Value → Shared → Prop), Q (B i j) s → wpAny (model prog w) A (keyLt' kd (f i).1 (f j).1) Q E' s) :
    wpAny (model prog w) A (sortRuns'.run (SortSt.mk' kd ((List.finRange n).toArray.map f) #[] 7 none)) (fun r s' => s' = s ∧ failedOf r.2 = none ∧ ∃ I : List (Fin n), arrOf r.2 = (I.map f).toArray ∧ I.Perm (List.finRange n) ∧ I.Pairwise fun i j => B j i = false) E s := by
  let T : Two n := ⟨model prog w, A, E, s, kd, f, gOf B, B, hf, fun i j Q E' q => by
    rw [keyLt'_oneType]
    exact oneLt_int (by rw [← wk.rk i j]; exact q)⟩
  intro Γ p hΓ
  have g : wpS (model prog w) A (fun _ _ => False) s sortRuns' (fun _ st' => (arrOf st').Perm ((List.finRange n).toArray.map (gOf B)) ∧ failedOf st' = none ∧ SortedToK intKind (arrOf st') ((List.finRange n).toArray.map (gOf B)).size) (SortSt.mk' oneType' ((List.finRange n).toArray.map (gOf B)) #[] 7 none) := by
    refine wpS_sortRunsAny (κ := intKind) intKind_oneLt ?_ ⟨Array.Perm.refl _, rfl, rfl⟩ rfl (by show 2 ≤ ((List.finRange n).toArray.map (gOf B)).size; rw [Array.size_map]; simpa using h2) fun st' h1 h2 h3 => ⟨h1, h2, h3⟩
    intro q hq
    rw [Array.toList_map] at hq
    obtain ⟨i, _, rfl⟩ := List.mem_map.mp hq
    exact ⟨rkOf B i, rfl⟩
  have g' := g Γ p hΓ
  have r := sim_sortRuns (T := T) (SortSt.mk' kd ((List.finRange n).toArray.map f) #[] 7 none) (SortSt.mk' oneType' ((List.finRange n).toArray.map (gOf B)) #[] 7 none) ⟨rfl, rfl, ⟨_, rfl, rfl⟩, rfl, rfl, rfl, rfl⟩ Γ hΓ p p
    (fun _ st' _ => (arrOf st').Perm ((List.finRange n).toArray.map (gOf B)) ∧ failedOf st' = none ∧ SortedToK intKind (arrOf st') ((List.finRange n).toArray.map (gOf B)).size) (Sem.wp_mono _ _ _ (fun _ _ _ h => h.2) (fun _ _ _ h => h) _ _ g')
  refine Sem.wp_mono _ _ _ ?_ (fun _ _ _ h => h) _ _ r
  rintro ⟨u, st⟩ p1 s1 ⟨e, b, st', _, hr, h1, h2', h3⟩
  obtain ⟨I, e1, e2⟩ := hr.I
  have h0 : 0 < n := by omega
  have pm : I.toList.Perm (List.finRange n) := by
    have := Array.perm_iff_toList_perm.mp h1
    rw [e2, Array.toList_map, Array.toList_map] at this
    have := this.map (gInv h0)
    rw [List.map_map, List.map_map] at this
    have ei : (gInv h0 ∘ (gOf B)) = id := funext fun i => gInv_g h0 B i
    show _
    change (List.map (gInv h0 ∘ gOf B) I.toList).Perm _ at this
    rw [ei, List.map_id, List.map_id] at this
    simpa using this
  refine ⟨e, hr.fl, I.toList, ?_, pm, ?_⟩
  · refine e1.trans ?_
    show I.map f = _
    apply Array.ext'
    simp
  · rw [List.pairwise_iff_getElem]
    intro i j hi hj hij
    have hz : I.toList.length = n := by rw [pm.length_eq]; simp
    have hs := h3 i j (by omega) (by simpa [hz] using (show j < n by omega))
    rw [e2] at hs
    have kk : ∀ (m : Nat) (hm : m < I.toList.length), KK intKind (I.map T.g) m = rkOf B (I.toList[m]) := by
      intro m hm
      unfold KK
      rw [Array.getElem?_map, Array.getElem?_eq_getElem (by simpa using hm)]
      show ((intKind.keyOf (gOf B _).1).getD _) = _
      simp [PyProof.Rows.intKind, gOf]
    rw [kk i hi, kk j hj] at hs
    rw [wk.rk]
    exact hs
end
end SimS

set_option Elab.async false
set_option linter.all false
set_option maxRecDepth 100000
set_option maxHeartbeats 4000000
namespace SimS
open PySem PyProof.Rows
def KeepA (h h' : Heap) : Prop := ∀ b o, h.get? b = some o → h'.get? b = some o
/-- how the things of a list are asked and answered, wherever all of the heap is kept -/
structure Asks (prog : Program) (w : World) (h : Heap) (u : Nat) (vs : List Value) (kd : SortKind) (lt : Value → Value → Bool) : Prop where
  irr : ∀ x ∈ vs, lt x x = false
  tr : ∀ x ∈ vs, ∀ y ∈ vs, ∀ z ∈ vs, lt x y = true → lt y z = true → lt x z = true
  neg : ∀ x ∈ vs, ∀ y ∈ vs, ∀ z ∈ vs, lt x z = true → lt x y = true ∨ lt y z = true
  ask : ∀ (A : Around) (E : Value → Shared → Prop) (s : Shared) (Q : Bool → Shared → Prop), A.units ≤ u → KeepA h s.heap → ∀ x ∈ vs, ∀ y ∈ vs, Q (lt x y) s → wpAny (model prog w) A (keyLt' kd x y) Q E s
  kind : 2 ≤ vs.length → ∀ (A : Around) (E : Value → Shared → Prop) (s : Shared) (Q : SortKind → Shared → Prop), A.units ≤ u → KeepA h s.heap → Q kd s → wpAny (model prog w) A (keyKind' vs.toArray) Q E s
section
variable {prog : Program} {w : World} {A : Around} {E : Value → Shared → Prop} {s : Shared}
def ordB (b : Bool) (lt : Value → Value → Bool) (x y : Value) : Prop := if b then lt x y = false else lt y x = false
/-- the runs over a list of things, from behind where b is so -/
theorem runs_list {h : Heap} {u : Nat} {vs : List Value} {kd : SortKind} {lt : Value → Value → Bool} (a : Asks prog w h u vs kd lt) (hu : A.units ≤ u) (hk : KeepA h s.heap) (h2 : 2 ≤ vs.length) (b : Bool) :
    wpAny (model prog w) A (sortRuns'.run (SortSt.mk' kd (if b then (vs.toArray.zip vs.toArray).reverse else vs.toArray.zip vs.toArray) #[] 7 none)) (fun r s' => s' = s ∧ failedOf r.2 = none ∧ ∃ out : List Value, (if b then ((arrOf r.2).map (·.2)).reverse else (arrOf r.2).map (·.2)) = out.toArray ∧ out.Perm vs ∧ out.Pairwise (ordB b lt)) E s := by
  obtain ⟨us, eu, lu, pu⟩ : ∃ us : List Value, us = (if b then vs.reverse else vs) ∧ us.length = vs.length ∧ us.Perm vs := ⟨_, rfl, by cases b <;> simp, by cases b; exact .refl _; exact List.reverse_perm _⟩
  have mem : ∀ i : Fin us.length, us[i] ∈ vs := fun i => pu.mem_iff.mp (List.getElem_mem _)
  have e0 : (if b then (vs.toArray.zip vs.toArray).reverse else vs.toArray.zip vs.toArray) = (List.finRange us.length).toArray.map fun i : Fin us.length => ((us[i], us[i]) : Keyed) := by
    have e1 : (List.finRange us.length).toArray.map (fun i : Fin us.length => ((us[i], us[i]) : Keyed)) = (us.map fun x => ((x, x) : Keyed)).toArray := by
      apply Array.ext'
      rw [Array.toList_map]
      show (List.finRange us.length).map _ = us.map _
      apply List.ext_getElem
      · simp
      · intro i h1 h2; simp
    have e2 : ∀ l : List Value, l.zip l = l.map fun x => (x, x) := fun l => by
      induction l with
      | nil => rfl
      | cons x r ih => rw [List.zip_cons_cons, ih]; rfl
    rw [e1, eu]
    cases b with
    | false =>
      apply Array.ext'
      simp [e2]
    | true =>
      apply Array.ext'
      simp [e2]
  rw [e0]
  refine wpAny_mono (runs_two (B := fun i j => lt us[i] us[j]) ⟨fun i => a.irr _ (mem i), fun i j k => a.tr _ (mem i) _ (mem j) _ (mem k), fun i j k => a.neg _ (mem i) _ (mem j) _ (mem k)⟩ (by omega) (fun i j Q E' q => a.ask A E' s Q hu hk _ (mem i) _ (mem j) q)) ?_ fun _ _ e => e
  rintro ⟨x, st⟩ s' ⟨rfl, hfl, I, eI, pI, sI⟩
  have eI : arrOf st = (I.map fun i : Fin us.length => ((us[i], us[i]) : Keyed)).toArray := eI
  have em : (arrOf st).map (·.2) = (I.map fun i => us[i]).toArray := by
    rw [eI]; apply Array.ext'; simp
  have pm : (I.map fun i : Fin us.length => us[i]).Perm us := by
    refine (pI.map _).trans (.of_eq ?_)
    apply List.ext_getElem
    · simp
    · intro i h1 h2; simp
  have ps : (I.map fun i : Fin us.length => us[i]).Pairwise fun x y => lt y x = false := by
    rw [List.pairwise_map]; exact sI
  refine ⟨rfl, hfl, ?_⟩
  rw [em]
  cases b with
  | false => exact ⟨_, rfl, pm.trans pu, ps⟩
  | true =>
    refine ⟨(I.map fun i : Fin us.length => us[i]).reverse, by simp, (List.reverse_perm _).trans (pm.trans pu), ?_⟩
    rw [List.pairwise_reverse]
    exact ps
end
end SimS

set_option Elab.async false
set_option linter.all false
set_option maxRecDepth 100000
set_option maxHeartbeats 4000000
namespace SimS
open PySem PyProof.Rows
section
variable {prog : Program} {w : World} {A : Around} {E : Value → Shared → Prop} {s : Shared}
abbrev hp6 (h : Heap) (a : Addr) (vs : List Value) : Heap := ((h.update a (Obj.mapSeq fun _ => #[])).push (seqObj "tuple" vs.toArray 0)).push (seqObj "list" #[] 0)
theorem hp6_old {h : Heap} {a b : Addr} {vs : List Value} {o : Obj} (hn : b ≠ a) (e : h.get? b = some o) : (hp6 h a vs).get? b = some o :=
  Heap.get?_push_of_some _ (Heap.get?_push_of_some _ (by rw [Heap.get?_update_ne _ _ _ _ hn]; exact e))
theorem hp6_me {h : Heap} {a : Addr} {vs xs : List Value} {n : Nat} (ho : h.get? a = some (seqObj "list" xs.toArray n)) : ∃ e, (h.update a (Obj.mapSeq fun _ => #[])).get? a = some (seqObj "list" #[] e) ∧ (hp6 h a vs).get? a = some (seqObj "list" #[] e) :=
  ⟨_, get?_update_seq ho (fun _ => #[]), Heap.get?_push_of_some _ (Heap.get?_push_of_some _ (get?_update_seq ho (fun _ => #[])))⟩
theorem few_sorted {vs : List Value} (h : vs.length < 2) {lt : Value → Value → Bool} {b : Bool} : vs.Pairwise (ordB b lt) := by
  match vs, h with
  | [], _ => exact .nil
  | [_], _ => exact List.pairwise_singleton _ _
  | _ :: _ :: _, h => simp only [List.length_cons] at h; omega
theorem few_zip {vs : List Value} (h : vs.length < 2) (b : Bool) : (if b = true then ((if b = true then (vs.toArray.zip vs.toArray).reverse else vs.toArray.zip vs.toArray).map (·.2)).reverse else (if b = true then (vs.toArray.zip vs.toArray).reverse else vs.toArray.zip vs.toArray).map (·.2)) = vs.toArray := by
  have : vs.toArray.zip vs.toArray = (vs.map fun x => (x, x)).toArray := by
    apply Array.ext'
    rw [Array.toList_zip]
    induction vs with
    | nil => rfl
    | cons x r ih => simp only [List.zip_cons_cons, List.map_cons]; rw [ih (by simp only [List.length_cons] at h; omega)]
  rw [this]
  cases b <;> (apply Array.ext'; simp [Function.comp_def])
theorem size_le {vs out : List Value} (p : out.Perm vs) (h : vs.length ≤ sizeLine) : out.toArray.size ≤ sizeLine + 1 := by
  rw [List.size_toArray, p.length_eq]; omega
/-- the sort of a list at its place, from behind or not -/
theorem sort_rev {a : Addr} {vs : List Value} {n u : Nat} {b : Bool} {h : Heap} {kd : SortKind} {lt : Value → Value → Bool} {P : PySem.Fin → Shared → Prop} (ho : s.heap.get? a = some (seqObj "list" vs.toArray n))
    (as : Asks prog w h u vs kd lt) (hu : A.units ≤ u) (hk : ∀ c o, h.get? c = some o → c ≠ a ∧ s.heap.get? c = some o) (hL : vs.length ≤ sizeLine)
    (fin : ∀ out : List Value, out.Perm vs → out.Pairwise (ordB b lt) → P (.done (.ret .none)) { s with heap := sortedHeap s.heap a vs out.toArray }) :
    wpAny (model prog w) A (Builtin.«list.sort» ⟨[.ref a], [(Str.ofString "reverse", .bool b)]⟩) P E s := by
  rw [list_sort_rev]
  obtain ⟨e, m1, m6⟩ := hp6_me (vs := vs) ho
  have k6 : KeepA h (hp6 s.heap a vs) := fun c o hc => hp6_old (hk c o hc).1 (hk c o hc).2
  refine wpAny_bind (listItems_at ho rfl (wpAny_bind (listUpdate_at ho rfl (wpAny_bind (seqEpoch_at m1 rfl (wpAny_bind (wpAny_newTuple (wpAny_bind (wpAny_newList (wpAny_holding ?_))))))))))
  show wpAny (model prog w) A _ P E { s with heap := hp6 s.heap a vs }
  have st : ∀ t : Sem PySem.Fin, wpAny (model prog w) A t P E { s with heap := hp6 s.heap a vs } → wpAny (model prog w) A (if b = true then (do let _ ← rule "list.sort.reverse"; t) else t) P E { s with heap := hp6 s.heap a vs } := fun t ht => by
    by_cases hb : b = true
    · rw [if_pos hb]; exact wpAny_bind (wpAny_rule ht)
    · rw [if_neg hb]; exact ht
  refine st _ ?_
  by_cases h2 : vs.toArray.size < 2
  · rw [if_pos h2, if_pos h2]
    have h2' : vs.length < 2 := by simpa using h2
    refine wpAny_bind (wpAny_pure (wpAny_bind (wpAny_pure (wpAny_bind (seqEpoch_at m6 rfl (wpAny_bind (listUpdate_at m6 rfl ?_ (hsz2 := ?_))))))))
    · have fz := few_zip h2' b
      simp only [bne_self_eq_false, Bool.false_eq_true, if_false]
      refine wpAny_pure ?_
      have := fin vs (.refl _) (few_sorted h2')
      rw [← fz] at this
      exact this
    · show (if b = true then _ else _ : Array Value).size ≤ _
      rw [few_zip h2' b]
      exact size_le (.refl _) hL
  · rw [if_neg h2, if_neg h2]
    have h2' : 2 ≤ vs.length := by simp at h2; omega
    refine wpAny_bind (as.kind h2' _ _ _ _ hu k6 (wpAny_bind (wpAny_mono (runs_list (E := E) as hu k6 h2' b) ?_ fun _ _ e => e)))
    rintro ⟨⟨⟩, st'⟩ s' ⟨rfl, hf, out, eo, po, so⟩
    refine wpAny_bind (seqEpoch_at m6 rfl (wpAny_bind (listUpdate_at m6 rfl ?_ (hsz2 := ?_))))
    · have hf : failedOf st' = none := hf
      dsimp only
      rw [hf]
      simp only [bne_self_eq_false, Bool.false_eq_true, if_false]
      refine wpAny_pure ?_
      have := fin out po so
      rw [← eo] at this
      exact this
    · show (if b = true then _ else _ : Array Value).size ≤ _
      rw [eo]; exact size_le po hL
abbrev hpL (h : Heap) (vs : List Value) : Heap := ((h.push (seqObj "list" #[] 0)).update h.objs.size (Obj.mapSeq (· ++ vs.toArray))).push (seqObj "list" vs.toArray 0)
theorem hpL_me (h : Heap) (vs : List Value) : ((h.push (seqObj "list" #[] 0)).update h.objs.size (Obj.mapSeq (· ++ vs.toArray))).objs.size = h.objs.size + 1 ∧ (hpL h vs).get? (h.objs.size + 1) = some (seqObj "list" vs.toArray 0) := by
  have e : ((h.push (seqObj "list" #[] 0)).update h.objs.size (Obj.mapSeq (· ++ vs.toArray))).objs.size = h.objs.size + 1 := (Heap.size_update _ _ _).trans (size_push' _ _)
  exact ⟨e, by rw [← e]; exact Heap.get?_push_size _ rfl⟩
theorem hpL_old {h : Heap} {vs : List Value} {c : Addr} {o : Obj} (e : h.get? c = some o) : c ≠ h.objs.size + 1 ∧ (hpL h vs).get? c = some o := by
  have hlt := Heap.lt_size e
  exact ⟨Nat.ne_of_lt (Nat.lt_succ_of_lt hlt), Heap.get?_push_of_some _ (by rw [Heap.get?_update_ne _ _ _ _ (Nat.ne_of_lt hlt)]; exact Heap.get?_push_of_some _ e)⟩
theorem sorted_asR {l : Addr} {vs : List Value} {b : Bool} {kd : SortKind} {lt : Value → Value → Bool} {Q : Value → Shared → Prop} (hl : s.heap.IsList l vs.toArray) (as : Asks prog w s.heap (A.units + 2) vs kd lt) (hL : vs.length ≤ sizeLine)
    (fin : ∀ out : List Value, out.Perm vs → out.Pairwise (ordB b lt) → Q (.ref (s.heap.objs.size + 1)) { s with heap := sortedAll s.heap vs out.toArray }) :
    wpAny (model prog w) A (call (.builtin "sorted") [.ref l] [(Str.ofString "reverse", .bool b)]) Q E s := by
  refine call_function_entry_kw kind_sorted plain_sorted entry_sorted (args_sorted_rev _ _) ?_
  unfold Builtin.«sorted»
  refine wpAny_bind (m := checkCount "sorted" 1 1 _) (wpAny_pure (wpAny_bind (collect_list hl (wpAny_bind (wpAny_newList ?_)))))
  obtain ⟨e, me⟩ := hpL_me s.heap vs
  show wpAny _ _ _ _ _ { s with heap := hpL s.heap vs }
  rw [e]
  exact wpAny_bind (wpAny_holding (wpAny_call_entry_kw slot_list_sort ⟨_, me, rfl⟩ entry_list_sort (sort_rev me as (Nat.le_refl _) (fun c o hc => hpL_old hc) hL fun out a1 a2 => ⟨_, rfl, wpAny_pure ⟨_, rfl, fin out a1 a2⟩⟩) (args_list_sort_rev _ _)))
end
end SimS

set_option Elab.async false
set_option linter.all false
namespace L2
theorem swapAt_perm {α : Type} : ∀ (xs : List α) (k : Nat), (swapAt xs k).Perm xs
  | [], 0 => .refl _
  | [], _ + 1 => .refl _
  | [_], 0 => .refl _
  | x :: y :: r, 0 => .swap x y r
  | a :: r, k + 1 => by rw [swapAt_succ]; exact (swapAt_perm r k).cons a
def lessN (x : Int) (r : List Int) : Nat := (r.filter fun y => decide (y < x)).length
def inv : List Int → Nat
  | [] => 0
  | x :: r => lessN x r + inv r
theorem lessN_perm (a : Int) {r s : List Int} (h : r.Perm s) : lessN a r = lessN a s := (h.filter _).length_eq
theorem lessN_cons (a x : Int) (r : List Int) : lessN a (x :: r) = (if x < a then 1 else 0) + lessN a r := by
  unfold lessN
  rw [List.filter_cons]
  by_cases h : x < a
  · rw [if_pos (by simpa using h), if_pos h, List.length_cons]; omega
  · rw [if_neg (by simpa using h), if_neg h]; omega
theorem inv_down : ∀ (xs : List Int) (k : Nat) (x y : Int), xs[k]? = some x → xs[k + 1]? = some y → y < x → inv (swapAt xs k) + 1 = inv xs
  | [], _, _, _, h, _, _ => by simp at h
  | [_], 0, _, _, _, h, _ => by simp at h
  | a :: b :: r, 0, x, y, h1, h2, h => by
    simp at h1 h2
    subst h1 h2
    show lessN b (a :: r) + (lessN a r + inv r) + 1 = lessN a (b :: r) + (lessN b r + inv r)
    rw [lessN_cons, lessN_cons, if_neg (by omega), if_pos h]; omega
  | a :: r, k + 1, x, y, h1, h2, h => by
    rw [swapAt_succ]
    show lessN a (swapAt r k) + inv (swapAt r k) + 1 = lessN a r + inv r
    rw [lessN_perm a (swapAt_perm r k), ← inv_down r k x y (by simpa using h1) (by simpa using h2) h]; omega
end L2

set_option Elab.async false
set_option linter.all false
set_option maxRecDepth 100000
set_option maxHeartbeats 4000000
namespace L2
open PySem PySem.Spec PyProof.Rows
section
variable {X : Cx}
/-! ### tuples that are tracked: joined, cut -/
def rCatK : R2 := fun x y H Q => ∃ a b xs ys, x = .ref a ∧ y = .ref b ∧ H a = some (.tup xs) ∧ H b = some (.tup ys) ∧ xs.length + ys.length ≤ sizeLine ∧ ∀ p H', Same H H' → H' p = some (.tup (xs ++ ys)) → Q (.ref p) H'
theorem op_catK : OpR X (binaryOp .Add) rCatK := by
  intro pins s σ H x y v u Q I rx ry h
  obtain ⟨a, b, xs, ys, rfl, rfl, ha, hb, hz, q⟩ := h
  by_cases hx : xs = []
  · subst hx
    cases rx
    cases ry
    obtain ⟨its, r1, p1, _⟩ := I.tuple (SqT.of ha)
    obtain ⟨its2, r2, p2, _⟩ := I.tuple (SqT.of hb)
    obtain ⟨⟨cl1, d1, da1, s1⟩, o1, c1, n1, e1⟩ := id p1
    obtain ⟨⟨cl2, d2, da2, s2⟩, o2, c2, n2, e2⟩ := id p2
    simp only at c1 e1 c2 e2
    subst c1 e1 c2 e2
    have hn : its = [] := r1.nil_iff.mpr rfl
    subst hn
    exact concat_meets ⟨_, o1, rfl⟩ ⟨_, o2, rfl⟩ noFill_tuple_add seq_tuple_add PySem.F.slot_tuple_add PySem.F.entry_tuple_add (PySem.F.args_tuple_add_2 _ _)
      (tuple_addW0 a b _ its2.toArray n1 n2 d1 d2 s1 s2 rfl) ⟨o1, o2, ⟨.ref b, H, I, rfl, q b H (.refl H) hb⟩⟩
  · refine op_catT pins s σ H _ _ v u Q I rx ry ⟨a, b, xs, ys, rfl, rfl, SqT.of ha, SqT.of hb, hx, hz, fun hy => ?_, fun hy p hp => q p _ (same_new hp) upd_same⟩
    subst hy
    exact q a H (.refl H) (by rw [List.append_nil]; exact ha)
def rSlK : V → Option Int → Option Int → Hp → VK → Prop := fun x lo hi H Q => ∃ a xs, x = .ref a ∧ H a = some (.tup xs) ∧ ∀ p H', Same H H' → H' p = some (.tup (cutV xs lo hi)) → Q (.ref p) H'
theorem sl_tupK : SlR X rSlK := by
  intro pins s σ H x v vl vu lo hi sl Q I rx hs pl pu h
  obtain ⟨a, xs, rfl, hx, q⟩ := h
  by_cases hw : HT.sIx xs.length 0 lo = 0 ∧ HT.sIx xs.length xs.length hi = xs.length
  · cases rx
    obtain ⟨its, r, ht, hz⟩ := I.tuple (SqT.of hx)
    have hlen : its.toArray.size = xs.length := by rw [List.size_toArray]; exact r.length.symm
    refine ⟨"tuple", _, PyProof.Rows.slot_tuple_getitem.lookup, ht.typeIs, ?_⟩
    exact get_tup_all ht hs pl pu (by rw [hlen]; exact hw) ⟨.ref a, H, I, rfl, q a H (.refl H) (by rw [cutV_all hw.1 hw.2]; exact hx)⟩
  · exact sl_tup pins s σ H _ v vl vu lo hi sl Q I rx hs pl pu ⟨a, xs, rfl, SqT.of hx, hw, fun p hp => q p _ (same_new hp) upd_same⟩
end
def sp_swapK : Sp := fun vs H Q _ => ∃ a xs, ∃ k : Nat, vs = [.ref a, .int k] ∧ H a = some (.tup xs) ∧ k + 1 < xs.length ∧ xs.length ≤ 1000 ∧ ∀ p H', Same H H' → H' p = some (.tup (swapAt xs k)) → Q (.ref p) H'
end L2

set_option Elab.async false
set_option linter.all false
set_option maxRecDepth 100000
set_option maxHeartbeats 4000000
namespace L2
open PySem PySem.Spec PyProof.Rows
/-- a list of tuples of two ints -/
inductive PrA (H : Hp) : List V → List (Int × Int) → Prop
  | nil : PrA H [] []
  | cons {q : Addr} {x y : Int} {rs : List V} {ps : List (Int × Int)} : H q = some (.tup [.int x, .int y]) → PrA H rs ps → PrA H (.ref q :: rs) ((x, y) :: ps)
theorem PrA.same {H H' : Hp} (s : Same H H') : ∀ {rs : List V} {ps : List (Int × Int)}, PrA H rs ps → PrA H' rs ps
  | _, _, .nil => .nil
  | _, _, .cons h t => .cons (s _ _ h) (t.same s)
theorem PrA.snoc {H : Hp} {q : Addr} {x y : Int} (hq : H q = some (.tup [.int x, .int y])) : ∀ {rs : List V} {ps : List (Int × Int)}, PrA H rs ps → PrA H (rs ++ [.ref q]) (ps ++ [(x, y)])
  | _, _, .nil => .cons hq .nil
  | _, _, .cons h t => .cons h (t.snoc hq)
theorem PrA.length {H : Hp} : ∀ {rs : List V} {ps : List (Int × Int)}, PrA H rs ps → rs.length = ps.length
  | _, _, .nil => rfl
  | _, _, .cons _ t => by rw [List.length_cons, List.length_cons, t.length]
def pdata (ps : List (Int × Int)) : List PyData := ps.map fun p => PyData.tuple [.int p.1, .int p.2]
theorem PrA.dp {K : PySem.W.Frag} {H : Hp} : ∀ {rs : List V} {ps : List (Int × Int)}, PrA H rs ps → DpAll K H rs (pdata ps)
  | _, _, .nil => .nil
  | _, _, .cons h t => .cons (.tup (SqT.of h) (.cons (.int _) (.cons (.int _) .nil))) t.dp
end L2

set_option Elab.async false
set_option linter.all false
set_option maxRecDepth 100000
set_option maxHeartbeats 4000000
namespace HT
open PySem PySem.Spec PyProof.Rows
section
variable {prog : Program} {w : World} {A : Around} {E : Value → Shared → Prop} {s : Shared}
end
end HT

namespace L2
open PySem PySem.Spec PyProof.Rows
section
variable {X : Cx} {e st : Expr} {te ts : TE} {pos p2 : Pos}
end
end L2

set_option Elab.async false
set_option linter.all false
set_option maxRecDepth 100000
set_option maxHeartbeats 4000000
namespace PySem
open Sem (wp)
open AutoSeq1 (wpAny_loadPart')
section
variable {prog : Program} {w : World} {A : Around} {E : Value → Shared → Prop} {s : Shared}
theorem nextOf_tuple_item {it t : Addr} {i : Nat} {items} {x : Value} {Q : Value → Shared → Prop} (hit : s.heap.IsTupleIter it t i)
    (ht : s.heap.IsTuple t items) (hx : items[i]? = some x)
    (hQ : ∀ h', h'.IsTupleIter it t (i + 1) → Heap.SameBut it s.heap h' → Q x { s with heap := h' }) :
    wpAny (model prog w) A (Builtin.SmallTypes.nextOf (.ref it)) Q E s := by
  obtain ⟨o, ho, hc, hd⟩ := id hit
  obtain ⟨ol, hol, _, nl, hdl⟩ := ht
  unfold Builtin.SmallTypes.nextOf
  refine wpAny_bind (wpAny_callSpecial?_slot (name := Str.ofString "__next__") hit.typeIs F.slot_tuple_iterator_next
    (wpAny_call_entry F.slot_tuple_iterator_next hit.typeIs F.entry_tuple_iterator_next ?_ (F.args_tuple_iterator_next_1 _)))
  show wpAny _ _ (field (.ref it) 0 >>= _) _ _ s
  refine wpAny_bind (wpAny_field ho hd (x := .ref t) rfl ?_)
  show wpAny _ _ (if (Value.ref t == Value.none) = true then _ else _) _ _ s
  rw [if_neg (show ¬ ((Value.ref t == Value.none) = true) from Bool.false_ne_true)]
  show wpAny _ _ (field (.ref it) 1 >>= _) _ _ s
  refine wpAny_bind (wpAny_field ho hd (x := .int i 0) rfl ?_)
  show wpAny _ _ (seqItems? (.ref t) >>= _) _ _ s
  refine wpAny_bind (wpAny_seqItems hol hdl ?_)
  simp only [Int.toNat_natCast, hx]
  refine wpAny_bind (wpAny_setField ho hd (by simp) (wpAny_pure ⟨x, rfl, wpAny_pure (hQ _ ?_ (Heap.SameBut.update ..))⟩))
  exact ⟨_, Heap.get?_update_self _ ho (Obj.isFreed_of_fields (Obj.data_mapFields hd _)), (Obj.cls_mapFields ..).trans hc, by
    rw [Obj.data_mapFields hd]; simp [rawInt]⟩
theorem nextOf_tuple_end {it t : Addr} {i : Nat} {items} {Q : Value → Shared → Prop} (hh : A.handled = none)
    (hit : s.heap.IsTupleIter it t i) (ht : s.heap.IsTuple t items) (hx : items[i]? = none)
    (hE : ∀ h' e, Heap.ExtBut it s.heap h' → (∃ o, h'.get? e = some o ∧ o.cls = .type "StopIteration") → E (.ref e) { s with heap := h' }) :
    wpAny (model prog w) A (Builtin.SmallTypes.nextOf (.ref it)) Q E s := by
  obtain ⟨o, ho, hc, hd⟩ := id hit
  obtain ⟨ol, hol, _, nl, hdl⟩ := ht
  unfold Builtin.SmallTypes.nextOf
  refine wpAny_bind (wpAny_callSpecial?_slot (name := Str.ofString "__next__") hit.typeIs F.slot_tuple_iterator_next
    (wpAny_call_entry F.slot_tuple_iterator_next hit.typeIs F.entry_tuple_iterator_next ?_ (F.args_tuple_iterator_next_1 _)))
  show wpAny _ _ (field (.ref it) 0 >>= _) _ _ s
  refine wpAny_bind (wpAny_field ho hd (x := .ref t) rfl ?_)
  show wpAny _ _ (if (Value.ref t == Value.none) = true then _ else _) _ _ s
  rw [if_neg (show ¬ ((Value.ref t == Value.none) = true) from Bool.false_ne_true)]
  show wpAny _ _ (field (.ref it) 1 >>= _) _ _ s
  refine wpAny_bind (wpAny_field ho hd (x := .int i 0) rfl ?_)
  show wpAny _ _ (seqItems? (.ref t) >>= _) _ _ s
  refine wpAny_bind (wpAny_seqItems hol hdl ?_)
  simp only [Int.toNat_natCast, hx]
  refine wpAny_bind (wpAny_rule (wpAny_bind (wpAny_setField ho hd (by simp) ?_)))
  show wpAny _ _ (newExc (.type "StopIteration") [] >>= _) _ _ _
  refine wpAny_bind ?_
  simp only [newExc, newTuple]
  refine wpAny_bind (wpAny_newObj_type ?_ (by size_fits))
  refine wpAny_bind (m := firstArgMember _ _) (wpAny_of_eq (a := Value.none) (by first | rfl | (simp only [firstArgMember]; rfl)) ?_)
  refine wpAny_newObj_type ?_ (by size_fits)
  simp only [raiseNew]
  refine wpAny_bind (wpAny_handled ?_)
  first | rw [show A.in1.handled = none from hh] | rw [hh]
  refine wpAny_bind (wpAny_pure (wpAny_throw ?_))
  exact hE _ _ (((Heap.SameBut.update ..).extBut.push _).push _) ⟨_, Heap.get?_push_size _ rfl, rfl⟩
end
theorem Draws.tuple {prog : Program} {w : World} {A : Around} (hh : A.handled = none) (it l : Addr) (hne : l ≠ it) (items : Array Value) :
    Draws prog w A it [it, l] items.size (fun i v => items[i]? = some v) (fun i h => h.IsTupleIter it l i ∧ h.IsTuple l items) where
  live := fun _ _ st => let ⟨o, ho, _⟩ := st.1; ⟨o, ho⟩
  frame := fun _ _ _ st hk => ⟨st.1.at fun o e => hk it (by simp) o e, st.2.at fun o e => hk l (by simp) o e⟩
  item := fun i s Q E hi st hQ => by
    refine nextOf_tuple_item st.1 st.2 (x := items[i]) (by simp [hi]) fun h' hit' hs' => ?_
    exact hQ _ h' s.toks (by simp [hi]) ⟨hit', st.2.extBut hs'.extBut hne⟩ hs'
  done := fun s Q E st hE => nextOf_tuple_end hh st.1 st.2 (by simp) hE
section
variable {prog : Program} {w : World} {A : Around} {E : Value → Shared → Prop} {s : Shared}
end
end PySem
namespace L2
open PySem PySem.Spec PyProof.Rows
structure GS2 (X : Cx) (s : Shared) (C : Addr) (xa xb : Str) (va vb : Value) (Hf : Hp) (u : Shared) : Prop where
  ns : ∃ m, u.heap.Ns C m ∧ m xa = some va ∧ m xb = some vb
  bs : ∀ b o, X.base.get? b = some o → u.heap.get? b = some o
  bc : X.base.objs.size ≤ C
  cel : ∀ y c, X.env.cells.lookup y = some c → ∀ v, s.heap.IsCell c v → u.heap.IsCell c v
  hok : HOk X.prog X.w Hf u.heap
theorem GS2.keeps {X : Cx} {s : Shared} {C : Addr} {xa xb : Str} {va vb : Value} {Hf : Hp} {u u' : Shared} (g : GS2 X s C xa xb va vb Hf u) (k : Keeps u u') : GS2 X s C xa xb va vb Hf u' := by
  obtain ⟨h', t', rfl, k⟩ := k
  exact ⟨let ⟨m, hn, e⟩ := g.ns; ⟨m, hn.keeps k, e⟩, fun b o e => k b o (g.bs b o e), g.bc, fun y c e v z => let ⟨o, ho, hd⟩ := g.cel y c e v z; ⟨o, k _ _ ho, hd⟩, g.hok.kept k⟩
section
variable {X : Cx} {scope : Scope} {xa xb : Str} {pos : Pos}
end

/-! ### an element that calls a quiet def -/
section
variable {X : Cx} {scope : Scope} {xa xb fn : Str} {pos pf : Pos} {k : Nat} {f : Addr} {fd : FuncData} {ps : List Str} {sp : Sp} {e : Expr} {es : List Expr} {ga : St → V → V → Option (List V)}
end
section
variable {X : Cx} {scope : Scope} {xa xb fn xall : Str} {pos pf pc pa pb pt pe p gpos pen : Pos} {kt : Nat} {k : Nat} {f c Pt : Addr} {fd : FuncData} {ps : List Str} {sp : Sp} {e e1 : Expr} {es : List Expr} {ga : St → V → V → Option (List V)} {ta : TA}
end
end L2

set_option Elab.async false
set_option linter.all false
set_option maxRecDepth 100000
set_option maxHeartbeats 4000000
namespace L2
open PySem PySem.Spec PyProof.Rows
/-! ### what is new, data in the heap -/
def new (H0 H : Hp) : Hp := fun a => match H0 a with | none => H a | some _ => none
theorem new_hid {H0 H : Hp} {a : Addr} (h : H0 a ≠ none) : new H0 H a = none := by
  unfold new
  cases e : H0 a with
  | none => exact absurd e h
  | some _ => rfl
theorem new_mono {H0 H H' : Hp} (s : Same H H') : Same (new H0 H) (new H0 H') := fun b o e => by
  unfold new at e ⊢
  cases h : H0 b with
  | none => rw [h] at e; exact s b o e
  | some _ => rw [h] at e; cases e
theorem new_upd {H0 H : Hp} {D : Addr} {o : HO} (h : H0 D ≠ none) : new H0 (upd H D o) = new H0 H := by
  funext a
  by_cases e : a = D
  · subst e; rw [new_hid h, new_hid h]
  · unfold new
    cases H0 a with
    | none => exact upd_ne e
    | some _ => rfl
theorem Same.seqL {K : PySem.W.Frag} {H H' : Hp} {a : Addr} {xs : List V} (e : Same H H') (h : SqL K H a xs) : SqL K H' a xs := by
  rcases h with (h | ⟨o, h⟩) | h
  · exact .inl (.inl (e _ _ h))
  · exact .inl (.inr ⟨o, e _ _ h⟩)
  · exact .inr h
mutual
theorem Dp.same {K : PySem.W.Frag} {H H' : Hp} (s : Same H H') : ∀ {v : V} {d : PyData}, Dp K H v d → Dp K H' v d
  | _, _, .non => .non
  | _, _, .bl b => .bl b
  | _, _, .int i => .int i
  | _, _, .str x => .str x
  | _, _, .lst h t => .lst (s.seqL h) (t.same s)
  | _, _, .tup h t => .tup (s.seqT h) (t.same s)
theorem DpAll.same {K : PySem.W.Frag} {H H' : Hp} (s : Same H H') : ∀ {vs : List V} {ds : List PyData}, DpAll K H vs ds → DpAll K H' vs ds
  | _, _, .nil => .nil
  | _, _, .cons h t => .cons (h.same s) (t.same s)
end
theorem DpAll.snoc {K : PySem.W.Frag} {H : Hp} {y : V} {d : PyData} (h : Dp K H y d) : ∀ {vs : List V} {ds : List PyData}, DpAll K H vs ds → DpAll K H (vs ++ [y]) (ds ++ [d])
  | _, _, .nil => .cons h .nil
  | _, _, .cons h1 t => .cons h1 (t.snoc h)
theorem DpAll.length {K : PySem.W.Frag} {H : Hp} : ∀ {vs : List V} {ds : List PyData}, DpAll K H vs ds → vs.length = ds.length
  | _, _, .nil => rfl
  | _, _, .cons _ t => by rw [List.length_cons, List.length_cons, t.length]
theorem DpAll.get {K : PySem.W.Frag} {H : Hp} : ∀ {vs : List V} {ds : List PyData} {i : Nat} {v : V}, DpAll K H vs ds → vs[i]? = some v → ∃ d, ds[i]? = some d ∧ Dp K H v d
  | _, _, i, v, .nil, h => by simp at h
  | _, _, 0, v, .cons h1 _, h => by
    rw [List.getElem?_cons_zero] at h
    exact ⟨_, rfl, (Option.some.inj h) ▸ h1⟩
  | _, _, i + 1, v, .cons _ t, h => by
    obtain ⟨d, hd, r⟩ := t.get (i := i) (v := v) (by simpa using h)
    exact ⟨d, by simpa using hd, r⟩
theorem DpAll.ints {K : PySem.W.Frag} {H : Hp} : ∀ {vs : List V} {ns : List Int}, DpAll K H vs (ns.map PyData.int) → vs = intsV ns
  | _, [], .nil => rfl
  | _, n :: r, .cons h t => by
    cases h
    rw [t.ints]; rfl
theorem filter_map_snoc {α : Type} (p : Nat → Bool) (f : Nat → α) (i : Nat) : (((List.range (i + 1)).filter p).map f) = ((List.range i).filter p).map f ++ (if p i = true then [f i] else []) := by
  rw [List.range_succ, List.filter_append, List.map_append]
  congr 1
  cases h : p i <;> simp [h]
section
variable {K : PySem.W.Frag} {g : TG} {tt : TT} {te : TE} {vs : List Nat} {σ : St} {H1 H0 : Hp} {D : Addr} {Qd : Hp → Prop}
/-- a comprehension over a tuple -/
theorem lc_tupD {a : Addr} {zs : List V} (H0 : Hp) (hD0 : H0 D ≠ none) (p : Nat → Bool) (f : Nat → PyData) (hD : H1 D = none) (ha : SqT K H1 a zs) (hz : zs.length ≤ 1000)
    (hs : ∀ i z H (Kk : VK) (Nx : Hp → Prop), zs[i]? = some z → Same H1 H → H D ≠ none → (p i = true → ∀ y H', Same H H' → Dp K (new H0 H') y (f i) → Kk y H') → (p i = false → ∀ H', Same H H' → Nx H') →
      g z (wipe σ vs) H fun σ2 H2 => wipe σ2 vs = wipe σ vs ∧ tt σ2 H2 fun b H3 => if b = true then te σ2 H3 Kk else Nx H3)
    (hd : ∀ H xs, Same H1 H → H D = some (.lst xs) → DpAll K (new H0 H) xs (((List.range zs.length).filter p).map f) → Qd H) :
    ∃ W : Nat → Nat → Hp → Prop, (∃ m, W 0 m (upd H1 D (.lst []))) ∧ ∀ i m H, W i m H →
      ((Itt K a).stop i H ∧ Qd H) ∨ ((Itt K a).go i H ∧ ∃ Nx : Hp → Prop, (∀ H', Nx H' → ∃ m', m' < m ∧ W (i + 1) m' H') ∧ ∀ x H', (Itt K a).yld i H x H' → g x (wipe σ vs) H' fun σ2 H2 => wipe σ2 vs = wipe σ vs ∧ tt σ2 H2 fun b H3 =>
        if b = true then te σ2 H3 fun y H4 => ∃ acc, H4 D = some (.lst acc) ∧ acc.length < sizeLine ∧ Nx (upd H4 D (.lst (acc ++ [y]))) else Nx H3) := by
  refine lc_tup (xs := zs) (fun i H => i ≤ zs.length ∧ Same H1 H ∧ ∃ xs, H D = some (.lst xs) ∧ xs.length ≤ i ∧ DpAll K (new H0 H) xs (((List.range i).filter p).map f)) ⟨Nat.zero_le _, same_new hD, [], upd_same, Nat.le_refl _, .nil⟩ (fun i H _ h => h.2.1.seqT ha) ?_ ?_
  · rintro i z H hi ⟨hin, s1, xs, hx, hl, dp⟩
    have hi' : i < zs.length := (List.getElem?_eq_some_iff.mp hi).1
    refine hs i z H _ _ hi s1 (by rw [hx]; simp) (fun hp y H' s' dy => ⟨xs, s' _ _ hx, small1000 (by omega), hi', same_upd (s1.trans s') hD, xs ++ [y], upd_same, by rw [List.length_append]; show xs.length + 1 ≤ i + 1; omega, ?_⟩) fun hp H' s' => ⟨hi', s1.trans s', xs, s' _ _ hx, by omega, ?_⟩
    · rw [new_upd hD0, filter_map_snoc, if_pos hp]
      exact (dp.same (new_mono s')).snoc dy
    · rw [filter_map_snoc, if_neg (by rw [hp]; decide), List.append_nil]
      exact dp.same (new_mono s')
  · rintro H ⟨_, s1, xs, hx, _, dp⟩
    exact hd H xs s1 hx dp
/-- a comprehension over a list that stands still -/
theorem lc_listD {a : Addr} {zs : List V} (H0 : Hp) (hD0 : H0 D ≠ none) (p : Nat → Bool) (f : Nat → PyData) (hD : H1 D = none) (ha : SqL K H1 a zs) (hz : zs.length ≤ 1000)
    (hs : ∀ i z H (Kk : VK) (Nx : Hp → Prop), zs[i]? = some z → Same H1 H → H D ≠ none → (p i = true → ∀ y H', Same H H' → Dp K (new H0 H') y (f i) → Kk y H') → (p i = false → ∀ H', Same H H' → Nx H') →
      g z (wipe σ vs) H fun σ2 H2 => wipe σ2 vs = wipe σ vs ∧ tt σ2 H2 fun b H3 => if b = true then te σ2 H3 Kk else Nx H3)
    (hd : ∀ H xs, Same H1 H → H D = some (.lst xs) → DpAll K (new H0 H) xs (((List.range zs.length).filter p).map f) → Qd H) :
    ∃ W : Nat → Nat → Hp → Prop, (∃ m, W 0 m (upd H1 D (.lst []))) ∧ ∀ i m H, W i m H →
      ((Itl K a).stop i H ∧ Qd H) ∨ ((Itl K a).go i H ∧ ∃ Nx : Hp → Prop, (∀ H', Nx H' → ∃ m', m' < m ∧ W (i + 1) m' H') ∧ ∀ x H', (Itl K a).yld i H x H' → g x (wipe σ vs) H' fun σ2 H2 => wipe σ2 vs = wipe σ vs ∧ tt σ2 H2 fun b H3 =>
        if b = true then te σ2 H3 fun y H4 => ∃ acc, H4 D = some (.lst acc) ∧ acc.length < sizeLine ∧ Nx (upd H4 D (.lst (acc ++ [y]))) else Nx H3) := by
  refine lc_list (xs := zs) (fun i H => i ≤ zs.length ∧ Same H1 H ∧ ∃ xs, H D = some (.lst xs) ∧ xs.length ≤ i ∧ DpAll K (new H0 H) xs (((List.range i).filter p).map f)) ⟨Nat.zero_le _, same_new hD, [], upd_same, Nat.le_refl _, .nil⟩ (fun i H _ h => h.2.1.seqL ha) ?_ ?_
  · rintro i z H hi ⟨hin, s1, xs, hx, hl, dp⟩
    have hi' : i < zs.length := (List.getElem?_eq_some_iff.mp hi).1
    refine hs i z H _ _ hi s1 (by rw [hx]; simp) (fun hp y H' s' dy => ⟨xs, s' _ _ hx, small1000 (by omega), hi', same_upd (s1.trans s') hD, xs ++ [y], upd_same, by rw [List.length_append]; show xs.length + 1 ≤ i + 1; omega, ?_⟩) fun hp H' s' => ⟨hi', s1.trans s', xs, s' _ _ hx, by omega, ?_⟩
    · rw [new_upd hD0, filter_map_snoc, if_pos hp]
      exact (dp.same (new_mono s')).snoc dy
    · rw [filter_map_snoc, if_neg (by rw [hp]; decide), List.append_nil]
      exact dp.same (new_mono s')
  · rintro H ⟨_, s1, xs, hx, _, dp⟩
    exact hd H xs s1 hx dp
end
section
variable {K : PySem.W.Frag} {wi1 : TI} {tt1 : TT} {te : TE} {vs vs1 : List Nat} {σ : St} {H1 : Hp} {D : Addr} {Qd : Hp → Prop}
end
/-! ### in a block: the fragment told -/
theorem pg_tupB {X : Cx} {es : List Expr} {k : Nat} {t : TGs} {n : Nat} {pos : Pos} (K : PySem.W.Frag) (hc : X.calm = true) (h : PGs X es t) (hK : X.K = K := by rfl)
    (hn : (assignEach es X.env).length = n := by rfl) (hst : (assignEach es X.env).findIdx? (·.1) = none := by rfl) : PG X (.Tuple es k pos) (gTup K n t) := hK ▸ pg_tup hc h hn hst
theorem natsV_app (xs ys : List Nat) : natsV xs ++ natsV ys = natsV (xs ++ ys) := by unfold natsV; rw [List.map_append]
end L2

set_option Elab.async false
set_option linter.all false
set_option maxRecDepth 100000
set_option maxHeartbeats 4000000
namespace L2
open PySem PySem.Spec PyProof.Rows
/-! ### orders, by themselves -/
def plainI (m : Nat) : List Int := (List.range m).map fun (i : Nat) => (i : Int)
theorem plainI_len (m : Nat) : (plainI m).length = m := by unfold plainI; simp
theorem plainI_mem {m : Nat} {x : Int} : x ∈ plainI m ↔ 0 ≤ x ∧ x < m := by
  unfold plainI
  rw [List.mem_map]
  constructor
  · rintro ⟨i, hi, rfl⟩
    have := List.mem_range.mp hi
    omega
  · rintro ⟨h0, h1⟩
    exact ⟨x.toNat, List.mem_range.mpr (by omega), by omega⟩
theorem plainI_sorted (m : Nat) : (plainI m).Pairwise (· < ·) := by
  unfold plainI
  rw [List.pairwise_map]
  exact List.pairwise_lt_range.imp fun h => by omega
theorem plainI_nodup (m : Nat) : (plainI m).Nodup := (plainI_sorted m).imp fun h => by omega
/-- an order of one to five things -/
structure POr (ns : List Int) : Prop where
  one : 1 ≤ ns.length
  five : ns.length ≤ 5
  perm : ns.Perm (plainI ns.length)
theorem POr.of {ns : List Int} {m : Nat} (h : ns.Perm (plainI m)) (h1 : 1 ≤ m) (h5 : m ≤ 5) : POr ns := by
  have e : ns.length = m := by rw [h.length_eq, plainI_len]
  exact ⟨by omega, by omega, by rw [e]; exact h⟩
theorem POr.nodup {ns : List Int} (h : POr ns) : ns.Nodup := h.perm.nodup_iff.mpr (plainI_nodup _)
theorem POr.rng {ns : List Int} (h : POr ns) {x : Int} (hx : x ∈ ns) : 0 ≤ x ∧ x < ns.length := plainI_mem.mp (h.perm.mem_iff.mp hx)
theorem dedup_len : ∀ (zs σ : List Int), (σ ++ zs).Nodup → (zs.foldl step_dedup σ).length = σ.length + zs.length
  | [], σ, _ => rfl
  | z :: r, σ, h => by
    rw [List.foldl_cons]
    have hz : z ∉ σ := fun m => by
      have := (List.nodup_append.mp h).2.2 z m z (by simp)
      exact this rfl
    have e : step_dedup σ z = σ ++ [z] := by
      unfold step_dedup
      rw [if_neg]
      intro q
      obtain ⟨y, hy, e⟩ := List.any_eq_true.mp q
      exact hz ((beq_iff_eq.mp e) ▸ hy)
    rw [e, dedup_len r (σ ++ [z]) (by rw [List.append_assoc]; exact h), List.length_append, List.length_cons, List.length_cons, List.length_nil]
    omega
theorem nuq_nodup {zs : List Int} (h : zs.Nodup) : nuq zs = zs.length := by
  unfold nuq
  rw [dedup_len zs [] (by simpa using h)]; simp
theorem POr.ordV {ns : List Int} (h : POr ns) : ordV (intsV ns) = true := by
  unfold L2.ordV rowV
  rw [intsOf_intsV, intsV_len]
  simp only [nuq_nodup h.nodup, Bool.and_eq_true, decide_eq_true_eq, h.one, h.five, true_and, and_true]
  rw [List.all_eq_true]
  intro v hv
  obtain ⟨x, hx, rfl⟩ := List.mem_map.mp hv
  have := h.rng hx
  show withinV (.int x) _ _ = true
  unfold withinV
  simp only [Bool.and_eq_true, decide_eq_true_eq]
  omega
/-! ### codes -/
def codeN : List Int → List Nat
  | [] => []
  | x :: r => lessN x r :: codeN r
/-! ### pairs in the wrong order, falls -/
def wpP (ns : List Int) : List (Int × Int) := (List.range ns.length).flatMap fun i => ((List.range (ns.length - (i + 1))).filter fun j => decide (ns.getD (i + 1 + j) 0 < ns.getD i 0)).map fun j => ((i : Int), ((i + 1 + j : Nat) : Int))
def faN (ns : List Int) : List Nat := (List.range (ns.length - 1)).filter fun k => decide (ns.getD (k + 1) 0 < ns.getD k 0)
theorem DpAll.bls {K : PySem.W.Frag} {H : Hp} : ∀ {vs : List V} {bs : List Bool}, DpAll K H vs (bs.map PyData.bool) → vs = bs.map V.bl
  | _, [], .nil => rfl
  | _, b :: r, .cons h t => by
    cases h
    rw [t.bls]; rfl
theorem filter_true {α : Type} (l : List α) : l.filter (fun _ => true) = l := by simp
theorem map_const_true (n : Nat) : (List.range n).map (fun _ => PyData.bool true) = (List.replicate n true).map PyData.bool := by
  rw [List.map_replicate]
  apply List.ext_getElem?
  intro i
  rw [List.getElem?_map]
  by_cases h : i < n
  · rw [List.getElem?_range h, List.getElem?_replicate, if_pos h]; rfl
  · rw [List.getElem?_eq_none (by simpa using h), List.getElem?_replicate, if_neg h]; rfl
theorem all_rep (n : Nat) : (List.replicate n true).all id = true := by simp
/-- a tuple of ints as data -/
theorem Dp.tup_ints {K : PySem.W.Frag} {H : Hp} {v : V} {ns : List Int} (h : Dp K H v (.tuple (ns.map PyData.int))) : ∃ a, v = .ref a ∧ SqT K H a (intsV ns) := by
  cases h with
  | tup hs ha => exact ⟨_, rfl, ha.ints ▸ hs⟩
end L2

set_option Elab.async false
set_option linter.all false
set_option maxRecDepth 100000
set_option maxHeartbeats 4000000
namespace PySem.SeqAt
open PySem PySem.Spec PyProof.Rows
end PySem.SeqAt
namespace L2
open PySem PySem.Spec PyProof.Rows
section
variable {X : Cx}
end
end L2

set_option Elab.async false
set_option linter.all false
set_option maxRecDepth 100000
set_option maxHeartbeats 4000000
namespace L2
open PySem PySem.Spec PyProof.Rows
section
variable {prog : Program} {w : World} {A : Around} {E : Value → Shared → Prop} {s : Shared}
/-! ### a list unpacked -/
/-! ### sum of a tuple -/
theorem sum_rawT {l : Addr} {its : List Value} {ns : List Int} {Q : Value → Shared → Prop} (hh : A.handled = none) (hl : s.heap.IsTuple l its.toArray) (hi : IntsAre its ns)
    (h : ∀ h' tk t', (∀ b o, s.heap.get? b = some o → h'.get? b = some o) → Q (.int ns.sum t') { s with heap := h', toks := tk }) : wpAny (model prog w) A (call (.builtin "sum") [.ref l]) Q E s := by
  obtain ⟨xs, e⟩ := hi.allInts.items
  have hn : numsOf (intItems xs).toList = ns := by rw [← e]; exact hi.numsOf
  rw [nums_intItems] at hn
  rw [e] at hl
  have hlt : l < s.heap.objs.size := by obtain ⟨o, ho, _⟩ := hl; exact Heap.lt_size ho
  refine call_sum_walkG (wpAny_pyIter_tuple hl ?_)
  refine ⟨s.heap.objs.size, _, _, _, _, _, numAt xs, rfl, Walks.tuple (A := A.in1) hh _ l (Nat.ne_of_lt hlt) (intItems xs), ⟨⟨_, Heap.get?_push_size _ rfl, rfl, rfl⟩, hl.push _⟩, ?_, (fun _ _ => intItems_at), fun h' tk t' hk => ?_⟩
  · intro b hb
    show b < (s.heap.push _).objs.size
    rw [Heap.size_push]
    rcases List.mem_cons.mp hb with rfl | hb
    · exact Nat.lt_succ_self _
    · rcases List.mem_cons.mp hb with rfl | hb
      · exact Nat.lt_succ_of_lt hlt
      · cases hb
  · have := h h' tk t' (fun b o e => hk b o (fun hm => by
      rcases List.mem_cons.mp hm with e1 | hm
      · exact absurd (e1 ▸ Heap.lt_size e) (Nat.lt_irrefl _)
      · cases hm) (Heap.get?_push_of_some _ e))
    have hsz : (intItems xs).size = xs.size := by simp [intItems]
    rw [hsz, preSum_eq, List.take_of_length_le (by simp), hn]; exact this
/-! ### a tuple repeated -/
end
section
variable {X : Cx}
/-- sum(t) -/
theorem cr_sumT (hc : X.calm = true) : CallR X (.builtin "sum") (fun vs H Q => ∃ (a : Addr) (ns : List Int), vs = [V.ref a] ∧ SqT X.K H a (intsV ns) ∧ Q (.int ns.sum) H) := by
  intro pins s σ H vs us Q I r h
  obtain ⟨a, ns, rfl, hs, q⟩ := h
  obtain ⟨its, rv, hl, _⟩ := I.tuple hs
  rw [Vals.ref1 r]
  exact sum_rawT (I.ok.hd hc) hl (intsAre_of rv) fun h' tk t' hk => ⟨.int _, H, I.kept hk, ⟨_, rfl⟩, q⟩
end
end L2

set_option Elab.async false
set_option linter.all false
set_option maxRecDepth 100000
set_option maxHeartbeats 4000000
namespace L2
open PySem PySem.Spec PyProof.Rows
/-- tuples of ints, by the first that differs -/
def lexI : List Int → List Int → Bool
  | [], [] => false
  | [], _ :: _ => true
  | _ :: _, [] => false
  | x :: r, y :: t => decide (x < y) || (!decide (y < x) && lexI r t)
theorem lexI_lex : ∀ xs ys : List Int, PyProof.Rows.lexLt PyProof.Rows.itemOrd (xs.map Sum.inl) (ys.map Sum.inl) = lexI xs ys
  | [], [] => rfl
  | [], _ :: _ => rfl
  | _ :: _, [] => rfl
  | x :: r, y :: t => by
    show (decide (x < y) || (!decide (y < x) && _)) = (decide (x < y) || (!decide (y < x) && _))
    rw [lexI_lex r t]
def tupD (ns : List Int) : PyData := .tuple (ns.map PyData.int)
def toV : Value → V
  | .ref a => .ref a
  | _ => .non
section
variable {X : Cx} {pins : List (Addr × Obj)} {σ : St} {H : Hp} {s : Shared}
end
theorem vals_of_refs : ∀ {us : List Value}, (∀ u ∈ us, ∃ a, u = Value.ref a) → Vals (us.map toV) us
  | [], _ => .nil
  | u :: r, h => by
    obtain ⟨a, rfl⟩ := h u (by simp)
    exact .cons rfl (vals_of_refs fun x hx => h x (by simp [hx]))
section
variable {X : Cx}
end
end L2

set_option Elab.async false
set_option linter.all false
set_option maxRecDepth 100000
set_option maxHeartbeats 4000000
namespace L2
open PySem PySem.Spec PyProof.Rows SimL SimS
theorem lexI_same (m : Int) (ns ms : List Int) : lexI (m :: ns) (m :: ms) = lexI ns ms := by
  show (decide (m < m) || (!decide (m < m) && lexI ns ms)) = _
  simp
theorem lexI_other {m m' : Int} {ns ms : List Int} (e : m ≠ m') : lexI (m :: ns) (m' :: ms) = decide (m < m') := by
  show (decide (m < m') || (!decide (m' < m) && lexI ns ms)) = _
  by_cases h : m < m'
  · simp [h]
  · have : m' < m := by omega
    simp [h, this]
theorem lexI_irr (a : List Int) : lexI a a = false := by rw [← lexI_lex]; exact (listOrd itemOrd).irrefl _
theorem lexI_tr {a b c : List Int} (h : lexI a b = true) (k : lexI b c = true) : lexI a c = true := by
  rw [← lexI_lex] at h k ⊢; exact (listOrd itemOrd).trans _ _ _ h k
theorem lexI_neg {a c : List Int} (b : List Int) (h : lexI a c = true) : lexI a b = true ∨ lexI b c = true := by
  rw [← lexI_lex] at h; rw [← lexI_lex, ← lexI_lex]; exact (listOrd itemOrd).negTrans _ _ _ h
/-- what a value of the heap is as data -/
noncomputable def dOf (h : Heap) (v : Value) : PyData := open Classical in if x : ∃ d, d.canLay0 = true ∧ ∃ as, Reads h v d as then x.choose else .none
theorem dOf_eq {h : Heap} {v : Value} {d : PyData} {as : List Addr} (r : Reads h v d as) (c : d.canLay0 = true) : dOf h v = d := by
  unfold dOf
  have x : ∃ d, d.canLay0 = true ∧ ∃ as, Reads h v d as := ⟨d, c, as, r⟩
  rw [dif_pos x]
  obtain ⟨_, as', r'⟩ := x.choose_spec
  exact (SeqAt.Reads.unique _ _ _ _ _ c r r').symm
mutual
theorem reads_keep {h h' : Heap} (k : KeepA h h') : ∀ (d : PyData) {v : Value} {as : List Addr}, d.canLay0 = true → Reads h v d as → Reads h' v d as
  | .none, _, _, _, r => by cases r; exact .none
  | .bool _, _, _, _, r => by cases r; exact .bool _
  | .int _, _, _, _, r => by cases r; exact .int _ _
  | .str _, _, _, _, r => by cases r; exact .str _ _
  | .list xs, _, _, c, r => by cases r with | list a b e f => exact .list (k _ _ a) b e (readsAll_keep k xs (by simpa [PyData.canLay0] using c) f)
  | .tuple xs, _, _, c, r => by cases r with | tuple a b e f => exact .tuple (k _ _ a) b e (readsAll_keep k xs (by simpa [PyData.canLay0] using c) f)
  | .dict _, _, _, c, _ => by simp [PyData.canLay0] at c
theorem readsAll_keep {h h' : Heap} (k : KeepA h h') : ∀ (ds : List PyData) {vs : List Value} {as : List Addr}, PyData.canLayAll0 ds = true → ReadsAll h vs ds as → ReadsAll h' vs ds as
  | [], _, _, _, r => by cases r; exact .nil
  | d :: ds, _, _, c, r => by
    have c : d.canLay0 = true ∧ PyData.canLayAll0 ds = true := by simpa [PyData.canLayAll0] using c
    cases r with | cons a b => exact .cons (reads_keep k d c.1 a) (readsAll_keep k ds c.2 b)
end
section
variable {prog : Program} {w : World} {A : Around} {E : Value → Shared → Prop} {s : Shared}
theorem ask_list {x y : Value} {xs ys : List PyData} {as bs : List Addr} {Q : Bool → Shared → Prop} (rx : Reads s.heap x (.list xs) as) (ry : Reads s.heap y (.list ys) bs) (cx : PyData.canLayAll0 xs = true) (cy : PyData.canLayAll0 ys = true) (cm : cmA xs ys = true)
    (hu : A.units + 1 + max (PyData.depthAll xs) (PyData.depthAll ys) < cLine) (h : Q (ltA xs ys) s) : wpAny (model prog w) A (keyLt' oneType' x y) Q E s := by
  cases rx with
  | list o1 c1 d1 r1 =>
    cases ry with
    | list o2 c2 d2 r2 =>
      rename_i a o vs n as b o' ws m bs
      obtain ⟨cls, dd, data, sl⟩ := o
      obtain ⟨cls2, dd2, data2, sl2⟩ := o'
      simp only at c1 d1 c2 d2
      subst c1 d1 c2 d2
      rw [keyLt'_oneType, oneLt'_eq]
      simp only [if_true]
      refine wpAny_bind (wpAny_cRoomFor (by omega) ?_)
      refine wpAny_bind (wpAny_callSpecialIfBound?_slot (T := "list") ⟨_, o1, rfl⟩ PySem.F.slot_list_lt (call_meets PySem.F.slot_list_lt ⟨_, o1, rfl⟩ PySem.F.entry_list_lt (PySem.F.args_list_lt_2 _ _) (list_lt_at a b vs ws n m dd dd2 sl sl2) ⟨o1, o2, ltA xs ys, lex_reads xs ys A.in1 s _ _ _ _ r1 r2 cx cy cm hu, ?_⟩))
      exact wpAny_truthy_bool h
theorem kat_lex {b v : Bool} {Q : Bool → Shared → Prop} (hb : b = false) : ∀ {xs ys : List Value} (i : Nat) {fin : Bool}, Lex A s xs ys v → (xs.length = ys.length → fin = false) → (xs.length < ys.length → fin = true) → (ys.length < xs.length → fin = false) → Q v s → PySem.W.KatLex prog w A b fin Q (xs.zip ys) i s
  | [], [], i, fin, h, h1, _, _, q => by cases h; rw [List.zip_nil_left, h1 rfl]; exact q
  | [], _ :: _, i, fin, h, _, h2, _, q => by cases h; rw [List.zip_nil_left, h2 (by simp)]; exact q
  | _ :: _, [], i, fin, h, _, _, h3, q => by cases h; rw [List.zip_nil_right, h3 (by simp)]; exact q
  | x :: xs, y :: ys, i, fin, h, h1, h2, h3, q => by
    rw [List.zip_cons_cons]
    cases h with
    | ne hc =>
      refine PySem.W.kat_cons (hc.1 prog w _ _ (PySem.W.kat_no ?_))
      subst hb
      exact PySem.W.kat_one x y (hc.2 rfl prog w _ _ q)
    | eq hc ht =>
      refine PySem.W.kat_cons (hc.1 prog w _ _ (PySem.W.kat_yes ?_))
      simp only [List.length_cons] at h1 h2 h3
      exact kat_lex hb (i + 1) ht (fun e => h1 (by omega)) (fun e => h2 (by omega)) (fun e => h3 (by omega)) q
theorem ask_term {x y : Value} {xs ys : List PyData} {as bs : List Addr} {Q : Bool → Shared → Prop} (rx : Reads s.heap x (.tuple xs) as) (ry : Reads s.heap y (.tuple ys) bs) (cx : PyData.canLayAll0 xs = true) (cy : PyData.canLayAll0 ys = true) (cm : cmA xs ys = true)
    (hu : A.units + max (PyData.depthAll xs) (PyData.depthAll ys) < cLine) (h : Q (ltA xs ys) s) : wpAny (model prog w) A (keyLt' (tuples' false) x y) Q E s := by
  cases rx with
  | tuple o1 c1 d1 r1 =>
    cases ry with
    | tuple o2 c2 d2 r2 =>
      refine PySem.W.kat_lt o1 d1 o2 d2 (kat_lex rfl 0 (lex_reads xs ys A s _ _ _ _ r1 r2 cx cy cm hu) ?_ ?_ ?_ h)
      · intro e; simp at e; exact decide_eq_false (by omega)
      · intro e; simp at e; exact decide_eq_true (by omega)
      · intro e; simp at e; exact decide_eq_false (by omega)
theorem readsAll_mem {h : Heap} : ∀ {vs : List Value} {ds : List PyData} {as : List Addr}, ReadsAll h vs ds as → ∀ v ∈ vs, ∃ d ∈ ds, ∃ as, Reads h v d as
  | _, _, _, .nil, v, hv => by cases hv
  | _, _, _, .cons a b, v, hv => by
    rcases List.mem_cons.mp hv with rfl | hv
    · exact ⟨_, by simp, _, a⟩
    · obtain ⟨d, hd, x⟩ := readsAll_mem b v hv
      exact ⟨d, by simp [hd], x⟩
theorem kind_lists {vs : List Value} {Q : SortKind → Shared → Prop} (h2 : 2 ≤ vs.length) (hv : ∀ v ∈ vs, ∃ xs as, Reads s.heap v (.list xs) as) (h : Q oneType' s) : wpAny (model prog w) A (keyKind' vs.toArray) Q E s := by
  have ty : ∀ v ∈ vs, PySem.W.Looks (model prog w) s.heap (typeOf v) (.type "list") := fun v hm => by
    obtain ⟨xs, as, r⟩ := hv v hm
    cases r with
    | list o c d r =>
      rename_i ob _ _ _
      have := (show PySem.W.Looks (model prog w) s.heap (typeOf (.ref _)) ob.cls from (PySem.W.Looks.ld o).andThen .now)
      rw [c] at this
      exact this
  exact PySem.W.kas_kind (T := .type "list") h2 ty (by first | rfl | decide) rfl h
theorem tups_firsts {vs : List Value} (hv : ∀ v ∈ vs, ∃ ds xs as, Reads s.heap v (.tuple (.tuple ds :: xs)) as) : ∃ fs, PySem.W.KatTups s.heap vs fs ∧ fs.length = vs.length ∧ ∀ f ∈ fs, PySem.W.Looks (model prog w) s.heap (typeOf f) (.type "tuple") := by
  induction vs with
  | nil => exact ⟨[], .nil, rfl, fun f hf => by cases hf⟩
  | cons v r ih =>
    obtain ⟨fs, h1, h2, h3⟩ := ih fun x hx => hv x (by simp [hx])
    obtain ⟨ds, xs, as, rd⟩ := hv v (by simp)
    cases rd with
    | tuple o c d rr =>
      rename_i a ob ws n
      generalize e : ws.toList = wl at rr
      cases rr with
      | cons r1 r2 =>
        rename_i f fr _ _
        refine ⟨f :: fs, .cons o c d ?_ h1, by simp [h2], ?_⟩
        · rw [← Array.getElem?_toList, e]; rfl
        · intro g hg
          rcases List.mem_cons.mp hg with rfl | hg
          · cases r1 with
            | tuple o' c' d' r' =>
              rename_i _ ob' _ _
              have := (show PySem.W.Looks (model prog w) s.heap (typeOf (.ref _)) ob'.cls from (PySem.W.Looks.ld o').andThen .now)
              rw [c'] at this
              exact this
          · exact h3 g hg
theorem kind_terms {vs : List Value} {Q : SortKind → Shared → Prop} (h2 : 2 ≤ vs.length) (hv : ∀ v ∈ vs, ∃ ds xs as, Reads s.heap v (.tuple (.tuple ds :: xs)) as) (h : Q (tuples' false) s) : wpAny (model prog w) A (keyKind' vs.toArray) Q E s := by
  obtain ⟨fs, h1, h3, h4⟩ := tups_firsts (prog := prog) (w := w) hv
  exact PySem.W.kat_kind (T := .type "tuple") h1 (by omega) h4 rfl h
theorem kat_lexI {b : Bool} {Q : Bool → Shared → Prop} : ∀ {xs ys : List Value} {ns ms : List Int} (i : Nat) {fin : Bool}, IntsAre xs ns → IntsAre ys ms → (xs.length = ys.length → fin = false) → (xs.length < ys.length → fin = true) → (ys.length < xs.length → fin = false) → Q (lexI ns ms) s → PySem.W.KatLex prog w A b fin Q (xs.zip ys) i s
  | _, _, _, _, i, fin, .nil, .nil, h1, _, _, q => by rw [List.zip_nil_left, h1 rfl]; exact q
  | _, _, _, _, i, fin, .nil, .cons m t hm, _, h2, _, q => by rw [List.zip_nil_left, h2 (by simp)]; exact q
  | _, _, _, _, i, fin, .cons m t hm, .nil, _, _, h3, q => by rw [List.zip_nil_right, h3 (by simp)]; exact q
  | _, _, _, _, i, fin, .cons m t hm, .cons m' t' hm', h1, h2, h3, q => by
    rw [List.zip_cons_cons]
    simp only [List.length_cons] at h1 h2 h3
    refine PySem.W.kat_cons (SeqAt.EqAt.int_int m t m' t' prog w _ _ ?_)
    by_cases e : m = m'
    · subst e
      rw [show (m == m) = true by simp]
      refine PySem.W.kat_yes (kat_lexI (i + 1) hm hm' (fun e => h1 (by omega)) (fun e => h2 (by omega)) (fun e => h3 (by omega)) ?_)
      rw [lexI_same] at q; exact q
    · rw [show (m == m') = false by simp [e]]
      refine PySem.W.kat_no ?_
      have q' : Q (decide (m < m')) s := by rw [lexI_other e] at q; exact q
      cases hb : (b && i == 0) with
      | true => exact oneLt_int q'
      | false => exact PySem.W.kat_one _ _ (HT.rcLt_int A s m t m' t' prog w _ _ q')
theorem ints_reads {h : Heap} : ∀ {vs : List Value} {ns : List Int} {as : List Addr}, ReadsAll h vs (ns.map PyData.int) as → IntsAre vs ns
  | _, [], _, r => by cases r; exact .nil
  | _, n :: ns, _, r => by cases r with | cons a b => cases a; exact .cons _ _ (ints_reads b)
theorem ask_tup {x y : Value} {ns ms : List Int} {as bs : List Addr} {Q : Bool → Shared → Prop} (rx : Reads s.heap x (.tuple (ns.map PyData.int)) as) (ry : Reads s.heap y (.tuple (ms.map PyData.int)) bs) (h : Q (lexI ns ms) s) : wpAny (model prog w) A (keyLt' (tuples' true) x y) Q E s := by
  cases rx with
  | tuple o1 c1 d1 r1 =>
    cases ry with
    | tuple o2 c2 d2 r2 =>
      refine PySem.W.kat_lt o1 d1 o2 d2 (kat_lexI 0 (ints_reads r1) (ints_reads r2) ?_ ?_ ?_ h)
      · intro e; simp at e; exact decide_eq_false (by omega)
      · intro e; simp at e; exact decide_eq_true (by omega)
      · intro e; simp at e; exact decide_eq_false (by omega)
theorem tups_firstsI {vs : List Value} (hv : ∀ v ∈ vs, ∃ (i : Int) (ns : List Int) (as : List Addr), Reads s.heap v (.tuple ((i :: ns).map PyData.int)) as) : ∃ fs, PySem.W.KatTups s.heap vs fs ∧ fs.length = vs.length ∧ ∀ f ∈ fs, PySem.W.Looks (model prog w) s.heap (typeOf f) (.type "int") := by
  induction vs with
  | nil => exact ⟨[], .nil, rfl, fun f hf => by cases hf⟩
  | cons v r ih =>
    obtain ⟨fs, h1, h2, h3⟩ := ih fun x hx => hv x (by simp [hx])
    obtain ⟨i, ns, as, rd⟩ := hv v (by simp)
    cases rd with
    | tuple o c d rr =>
      rename_i a ob ws n
      generalize e : ws.toList = wl at rr
      have ii := ints_reads rr
      cases ii with
      | cons m t hm =>
        refine ⟨.int i t :: fs, .cons o c d ?_ h1, by simp [h2], ?_⟩
        · rw [← Array.getElem?_toList, e]; rfl
        · intro g hg
          rcases List.mem_cons.mp hg with rfl | hg
          · exact PySem.W.Looks.of_pure rfl
          · exact h3 g hg
theorem kind_tups {vs : List Value} {Q : SortKind → Shared → Prop} (h2 : 2 ≤ vs.length) (hv : ∀ v ∈ vs, ∃ (i : Int) (ns : List Int) (as : List Addr), Reads s.heap v (.tuple ((i :: ns).map PyData.int)) as) (h : Q (tuples' true) s) : wpAny (model prog w) A (keyKind' vs.toArray) Q E s := by
  obtain ⟨fs, h1, h3, h4⟩ := tups_firstsI (prog := prog) (w := w) hv
  exact PySem.W.kat_kind (T := .type "int") h1 (by omega) h4 rfl h
theorem eqv_int (i j : Int) : PyData.eqv (.int i) (.int j) = decide (i = j) := by simp [PyData.eqv]; rfl
theorem ltA_ints : ∀ ns ms : List Int, ltA (ns.map PyData.int) (ms.map PyData.int) = lexI ns ms
  | [], [] => by simp [ltA, lexI]
  | [], _ :: _ => by simp [ltA, lexI]
  | _ :: _, [] => by simp [ltA, lexI]
  | n :: ns, m :: ms => by
    simp only [List.map_cons, ltA, ltD, eqv_int]
    rw [ltA_ints ns ms]
    show _ = (decide (n < m) || (!decide (m < n) && lexI ns ms))
    by_cases e : n = m
    · subst e; simp
    · by_cases h : n < m
      · simp [e, h]
      · have : m < n := by omega
        simp [e, h, this]
/-- rows of data that can be sorted: lists, or tuples that begin with a tuple; by a key of numbers -/
structure Srt (ds : List PyData) (key : PyData → List Int) : Prop where
  lay : ∀ d ∈ ds, d.canLay0 = true ∧ d.depth ≤ 60
  cmp : ∀ d ∈ ds, ∀ e ∈ ds, cmD d e = true ∧ ltD d e = lexI (key d) (key e)
  form : (∀ d ∈ ds, ∃ xs, d = .list xs) ∨ (∀ d ∈ ds, ∃ a xs, d = .tuple (.tuple a :: xs)) ∨ ∀ d ∈ ds, ∃ (i : Int) (ns : List Int), d = .tuple ((i :: ns).map PyData.int)
noncomputable def ltOf (h : Heap) (key : PyData → List Int) (x y : Value) : Bool := lexI (key (dOf h x)) (key (dOf h y))
theorem Srt.asks {ds : List PyData} {key : PyData → List Int} (S : Srt ds key) {h : Heap} {vs : List Value} {as : List Addr} (r : ReadsAll h vs ds as) {u : Nat} (hu : u + 62 < cLine) : ∃ kd, Asks prog w h u vs kd (ltOf h key) := by
  have rd := readsAll_mem r
  rcases S.form with F | F | F
  · refine ⟨oneType', ⟨fun x _ => lexI_irr _, fun x _ y _ z _ => lexI_tr, fun x _ y _ z _ => lexI_neg _, ?_, ?_⟩⟩
    · intro A E s Q hA k x hx y hy q
      obtain ⟨d, hd, ax, rx⟩ := rd x hx
      obtain ⟨e, he, ay, ry⟩ := rd y hy
      have ld := S.lay d hd
      have le := S.lay e he
      have c := S.cmp d hd e he
      unfold ltOf at q
      rw [dOf_eq rx ld.1, dOf_eq ry le.1, ← c.2] at q
      obtain ⟨xs, rfl⟩ := F d hd
      obtain ⟨ys, rfl⟩ := F e he
      simp only [PyData.depth] at ld le
      refine ask_list (reads_keep k _ ld.1 rx) (reads_keep k _ le.1 ry) (by simpa [PyData.canLay0] using ld.1) (by simpa [PyData.canLay0] using le.1) (by simpa [cmD] using c.1) (by omega) (by simpa [ltD] using q)
    · intro h2 A E s Q hA k q
      refine kind_lists h2 (fun v hv => ?_) q
      obtain ⟨d, hd, ax, rx⟩ := rd v hv
      obtain ⟨xs, rfl⟩ := F d hd
      exact ⟨xs, ax, reads_keep k _ (S.lay _ hd).1 rx⟩
  · refine ⟨tuples' false, ⟨fun x _ => lexI_irr _, fun x _ y _ z _ => lexI_tr, fun x _ y _ z _ => lexI_neg _, ?_, ?_⟩⟩
    · intro A E s Q hA k x hx y hy q
      obtain ⟨d, hd, ax, rx⟩ := rd x hx
      obtain ⟨e, he, ay, ry⟩ := rd y hy
      have ld := S.lay d hd
      have le := S.lay e he
      have c := S.cmp d hd e he
      unfold ltOf at q
      rw [dOf_eq rx ld.1, dOf_eq ry le.1, ← c.2] at q
      obtain ⟨a, xs, rfl⟩ := F d hd
      obtain ⟨b, ys, rfl⟩ := F e he
      simp only [PyData.depth] at ld le
      refine ask_term (reads_keep k _ ld.1 rx) (reads_keep k _ le.1 ry) (by simpa [PyData.canLay0] using ld.1) (by simpa [PyData.canLay0] using le.1) (by simpa [cmD] using c.1) (by omega) (by simpa [ltD] using q)
    · intro h2 A E s Q hA k q
      refine kind_terms h2 (fun v hv => ?_) q
      obtain ⟨d, hd, ax, rx⟩ := rd v hv
      obtain ⟨a, xs, rfl⟩ := F d hd
      exact ⟨a, xs, ax, reads_keep k _ (S.lay _ hd).1 rx⟩
  · refine ⟨tuples' true, ⟨fun x _ => lexI_irr _, fun x _ y _ z _ => lexI_tr, fun x _ y _ z _ => lexI_neg _, ?_, ?_⟩⟩
    · intro A E s Q hA k x hx y hy q
      obtain ⟨d, hd, ax, rx⟩ := rd x hx
      obtain ⟨e, he, ay, ry⟩ := rd y hy
      have ld := S.lay d hd
      have le := S.lay e he
      have c := S.cmp d hd e he
      unfold ltOf at q
      rw [dOf_eq rx ld.1, dOf_eq ry le.1, ← c.2] at q
      obtain ⟨i, ns, rfl⟩ := F d hd
      obtain ⟨j, ms, rfl⟩ := F e he
      refine ask_tup (reads_keep k _ ld.1 rx) (reads_keep k _ le.1 ry) ?_
      rw [← ltA_ints]
      simpa only [ltD] using q
    · intro h2 A E s Q hA k q
      refine kind_tups h2 (fun v hv => ?_) q
      obtain ⟨d, hd, ax, rx⟩ := rd v hv
      obtain ⟨i, ns, rfl⟩ := F d hd
      exact ⟨i, ns, ax, reads_keep k _ (S.lay _ hd).1 rx⟩
end
section
variable {X : Cx} {pins : List (Addr × Obj)} {σ : St} {H : Hp} {s : Shared}
theorem rows_at (I : Inv X pins σ H s) : ∀ {rs : List V} {us : List Value} {ds : List PyData}, DpAll X.K H rs ds → Vals rs us → (∀ d ∈ ds, d.canLay0 = true ∧ ((∃ xs, d = .list xs) ∨ ∃ xs, d = .tuple xs)) →
    us.map toV = rs ∧ us.map (dOf s.heap) = ds ∧ ∀ u ∈ us, (∃ a, u = .ref a) ∧ Dp X.K H (toV u) (dOf s.heap u)
  | _, _, [], .nil, .nil, _ => ⟨rfl, rfl, fun u hu => by cases hu⟩
  | _, _, d :: ds, .cons h t, .cons r rt, hf => by
    obtain ⟨h1, h2, h3⟩ := rows_at I t rt fun x hx => hf x (by simp [hx])
    obtain ⟨c, f⟩ := hf d (by simp)
    obtain ⟨as, rd⟩ := Dp.reads I d _ _ h r
    have e := dOf_eq rd c
    have key : ∃ a, ‹Value› = .ref a ∧ ‹V› = V.ref a := by
      rcases f with ⟨xs, rfl⟩ | ⟨xs, rfl⟩
      · cases h; cases r; exact ⟨_, rfl, rfl⟩
      · cases h; cases r; exact ⟨_, rfl, rfl⟩
    obtain ⟨a, rfl, rfl⟩ := key
    refine ⟨by rw [List.map_cons, h1]; rfl, by rw [List.map_cons, h2, e], fun u hu => ?_⟩
    rcases List.mem_cons.mp hu with rfl | hu
    · exact ⟨⟨a, rfl⟩, by rw [e]; exact h⟩
    · exact h3 u hu
end
theorem dpAll_map {K : PySem.W.Frag} {H : Hp} (f : Value → PyData) : ∀ {us : List Value}, (∀ u ∈ us, Dp K H (toV u) (f u)) → DpAll K H (us.map toV) (us.map f)
  | [], _ => .nil
  | u :: r, h => .cons (h u (by simp)) (dpAll_map f fun x hx => h x (by simp [hx]))
theorem zip_maps {α β γ : Type} (f : α → β) (g : α → γ) : ∀ l : List α, (l.map f).zip (l.map g) = l.map fun x => (f x, g x)
  | [] => rfl
  | x :: r => by rw [List.map_cons, List.map_cons, List.zip_cons_cons, zip_maps f g r]; rfl
def rSortD (K : PySem.W.Frag) (b : Bool) (key : PyData → List Int) (a : Addr) (H : Hp) (Q : VK) : Prop := ∃ (rs : List V) (ds : List PyData), SqL K H a rs ∧ DpAll K H rs ds ∧ Srt ds key ∧ ds.length ≤ 100000 ∧
  ∀ (p : Addr) (rs' : List V) (ds' : List PyData), (rs'.zip ds').Perm (rs.zip ds) → ds'.Pairwise (fun d e => (if b then lexI (key d) (key e) else lexI (key e) (key d)) = false) → H p = none → DpAll K H rs' ds' → Q (.ref p) (upd H p (.lst rs'))
section
variable {X : Cx} {pins : List (Addr × Obj)} {σ : St} {H : Hp} {s : Shared}
theorem sorted_rule {b : Bool} {key : PyData → List Int} {a : Addr} {Q : VK} (hu : X.A.units + 64 < cLine) (I : Inv X pins σ H s) (h : rSortD X.K b key a H Q) :
    ∃ (its : List Value) (kd : SortKind) (lt : Value → Value → Bool), s.heap.IsList a its.toArray ∧ Asks X.prog X.w s.heap (X.A.units + 2) its kd lt ∧ its.length ≤ sizeLine ∧
      ∀ out : List Value, out.Perm its → out.Pairwise (ordB b lt) → EP X pins σ Q (.ref (s.heap.objs.size + 1)) { s with heap := sortedAll s.heap its out.toArray } := by
  obtain ⟨rs, ds, hs, dp, S, hz, q⟩ := h
  obtain ⟨its, rv, hl, hzl⟩ := I.list hs
  obtain ⟨as, ra⟩ := Dp.readsAll I ds rs its dp rv
  obtain ⟨kd, ak⟩ := S.asks (prog := X.prog) (w := X.w) ra (u := X.A.units + 2) (by omega)
  have hlen : its.length = ds.length := by
    have := rv.length
    rw [← this, dp.length]
  obtain ⟨m1, m2, m3⟩ := rows_at I dp rv fun d hd => ⟨(S.lay d hd).1, by
    rcases S.form with F | F | F
    · exact .inl (F d hd)
    · obtain ⟨x, xs, e⟩ := F d hd; exact .inr ⟨_, e⟩
    · obtain ⟨x, xs, e⟩ := F d hd; exact .inr ⟨_, e⟩⟩
  refine ⟨its, kd, _, hl.isList, ak, by rw [hlen, sizeLine_eq]; omega, fun out po so => ?_⟩
  obtain ⟨ep, he'⟩ := PyProof.Rows.sortedAll_at s.heap its out.toArray
  have hmem : ∀ u ∈ out, u ∈ its := fun u hu => po.mem_iff.mp hu
  have hvals : Vals (out.map toV) out.toArray.toList := vals_of_refs fun u hu => (m3 u (hmem u hu)).1
  have hsz : (out.map toV).length ≤ sizeLine := by rw [List.length_map, po.length_eq, hlen, sizeLine_eq]; omega
  refine ⟨.ref _, upd H (s.heap.objs.size + 1) (.lst (out.map toV)), I.laid (t' := s.toks) (fun _ _ => PyProof.Rows.sortedAll_old) (Nat.le_succ _) ⟨hsz, out.toArray.toList, ep, hvals, he'⟩, rfl, q _ _ (out.map (dOf s.heap)) ?_ ?_ (I.hok.fresh (Nat.le_succ _)) (dpAll_map _ fun u hu => (m3 u (hmem u hu)).2)⟩
  · rw [zip_maps, ← m1, ← m2, zip_maps]
    exact po.map _
  · rw [List.pairwise_map]
    refine so.imp fun {x y} h => ?_
    unfold ordB ltOf at h
    cases b with
    | true => exact h
    | false => exact h
end
end L2

set_option Elab.async false
set_option linter.all false
set_option maxRecDepth 100000
set_option maxHeartbeats 4000000
namespace L2
open PySem PySem.Spec PyProof.Rows SimL SimS PySem.W
section
variable {prog : Program} {w : World} {A : Around} {E : Value → Shared → Prop} {s : Shared}
end
end L2

set_option Elab.async false
set_option linter.all false
set_option maxRecDepth 100000
set_option maxHeartbeats 4000000
namespace L2
open PySem PySem.Spec PyProof.Rows SimL SimS
mutual
/-- all numbers of a thing, in their order -/
def fl : PyData → List Int
  | .int i => [i]
  | .tuple ds => flA ds
  | .list ds => flA ds
  | _ => []
def flA : List PyData → List Int
  | [] => []
  | d :: ds => fl d ++ flA ds
end
theorem flA_ints : ∀ ns : List Int, flA (ns.map PyData.int) = ns
  | [] => by simp [flA]
  | n :: r => by simp [flA, fl, flA_ints r]
theorem cmA_ints : ∀ ns ms : List Int, cmA (ns.map PyData.int) (ms.map PyData.int) = true
  | [], [] => by simp [cmA]
  | [], _ :: _ => by simp [cmA]
  | _ :: _, [] => by simp [cmA]
  | n :: ns, m :: ms => by simp [cmA, cmD, cmA_ints ns ms]
theorem fl_tup (ns : List Int) : fl (tupD ns) = ns := by unfold tupD; simp [fl, flA_ints]
def lstD (ns : List Int) : PyData := .list (ns.map PyData.int)
theorem fl_lst (ns : List Int) : fl (lstD ns) = ns := by unfold lstD; simp [fl, flA_ints]
def termD (t : List Int × Int) : PyData := .tuple [tupD t.1, .int t.2]
theorem fl_term (t : List Int × Int) : fl (termD t) = t.1 ++ [t.2] := by unfold termD; simp [fl, flA, fl_tup]
theorem lay_termD (t : List Int × Int) : (termD t).canLay0 = true ∧ (termD t).depth ≤ 60 := by
  unfold termD tupD; simp [PyData.canLay0, PyData.canLayAll0, PyData.depth, PyData.depthAll, lay_ints, dep_ints]
theorem eqvA_ints : ∀ ns ms : List Int, PyData.eqvAll (ns.map PyData.int) (ms.map PyData.int) = decide (ns = ms)
  | [], [] => by simp [PyData.eqvAll]
  | [], _ :: _ => by simp [PyData.eqvAll]
  | _ :: _, [] => by simp [PyData.eqvAll]
  | n :: ns, m :: ms => by
    simp only [List.map_cons, PyData.eqvAll]
    rw [eqvA_ints ns ms, eqv_int]
    by_cases h1 : n = m <;> by_cases h2 : ns = ms <;> simp [h1, h2]
theorem eqv_tup (ns ms : List Int) : PyData.eqv (tupD ns) (tupD ms) = decide (ns = ms) := by
  unfold tupD; simp only [PyData.eqv]; exact eqvA_ints ns ms
theorem lexI_app : ∀ {ns ms : List Int} {a b : List Int}, ns.length = ms.length → lexI (ns ++ a) (ms ++ b) = if ns = ms then lexI a b else lexI ns ms
  | [], [], a, b, _ => by simp
  | [], _ :: _, _, _, h => by simp at h
  | _ :: _, [], _, _, h => by simp at h
  | n :: ns, m :: ms, a, b, h => by
    have h' : ns.length = ms.length := by simpa using h
    by_cases e : n = m
    · subst e
      rw [List.cons_append, List.cons_append, lexI_same, lexI_same, lexI_app (ns := ns) (ms := ms) (by assumption)]
      by_cases e2 : ns = ms <;> simp [e2]
    · rw [List.cons_append, List.cons_append, lexI_other e, lexI_other e, if_neg (by simp [e])]
/-- terms of as many unknowns -/
theorem srt_terms {ts : List (List Int × Int)} {m : Nat} (h : ∀ t ∈ ts, t.1.length = m) : Srt (ts.map termD) fl where
  lay := fun d hd => by obtain ⟨t, _, rfl⟩ := List.mem_map.mp hd; exact lay_termD t
  cmp := fun d hd e he => by
    obtain ⟨t, ht, rfl⟩ := List.mem_map.mp hd
    obtain ⟨u, hu, rfl⟩ := List.mem_map.mp he
    rw [fl_term, fl_term, lexI_app (by rw [h t ht, h u hu])]
    unfold termD
    constructor
    · simp only [cmD, cmA]
      unfold tupD
      simp [cmD, cmA_ints]
    · simp only [ltD, ltA, eqv_tup, eqv_int]
      by_cases e : t.1 = u.1
      · rw [e]
        simp only [decide_true, if_true]
        by_cases e2 : t.2 = u.2
        · rw [e2, lexI_irr]; simp
        · rw [lexI_other e2, if_neg (by simp [e2])]
      · simp only [e, decide_false, Bool.false_eq_true, if_false]
        unfold tupD
        simp only [ltD]
        exact ltA_ints _ _
  form := .inr (.inl fun d hd => by obtain ⟨t, _, rfl⟩ := List.mem_map.mp hd; exact ⟨_, _, rfl⟩)
section
variable {X : Cx} {pins : List (Addr × Obj)} {σ : St} {H : Hp} {s : Shared}
theorem Dp.fl_tup {K : PySem.W.Frag} {ds : List PyData} {nss : List (List Int)} (h : ∀ d ∈ ds, ∃ ns ∈ nss, d = tupD ns) : ds = (ds.map fl).map tupD := by
  induction ds with
  | nil => rfl
  | cons d r ih =>
    obtain ⟨ns, _, rfl⟩ := h d (by simp)
    rw [List.map_cons, List.map_cons, L2.fl_tup, ← ih fun x hx => h x (by simp [hx])]
variable {e be : Expr} {t tk : TA} {p pos kp : Pos}
/-- sorted(xs, reverse=b), xs a list of rows of data -/
def tSortR (K : PySem.W.Frag) (t tk : TA) : TE := fun σ H Q => t σ H fun vs H1 => tk σ H1 fun ks H2 => ∃ (a : Addr) (b : Bool), vs = [.ref a] ∧ ks = [.bl b] ∧ rSortD K b fl a H2 Q
theorem pe_sortedR (hu : X.A.units + 64 < cLine) (hg : Gl X "sorted") (hm : X.mg "sorted" = none) (ha : PA X [e] t) (hk : PK X [⟨some "reverse", be, kp⟩] tk) (hs : starEach [e] X.env = [(false, eval e X.env)] := by rfl) :
    PE X (.Call (.Name "sorted" p) [e] [⟨some "reverse", be, kp⟩] pos) (tSortR X.K t tk) := by
  intro pins s σ H Q I h
  refine wpAny_Call_Name_kw (ld_blt I hg hm (by decide +kernel : bootBuiltins "sorted" = some (.builtin "sorted")) ?_)
  refine callWith_kw (e := e) (rest := []) (thn (ha pos pins s σ H _ I h) fun us s1 ⟨vs, H1, I1, r1, q1⟩ => ?_) (by rw [hs]; rfl) (by rw [hs]; rfl)
  refine thn (hk pos pins s1 σ H1 _ I1 q1) fun ws s2 ⟨zs, H2, I2, rz, q2⟩ => ?_
  obtain ⟨a, b, rfl, rfl, q⟩ := q2
  obtain ⟨its, kd, lt, hl, ak, hz, fin⟩ := sorted_rule hu I2 q
  cases rz with
  | cons x y =>
    cases x
    cases y
    rw [Vals.ref1 r1]
    exact sorted_asR hl ak hz fin
end
end L2

set_option Elab.async false
set_option linter.all false
set_option maxRecDepth 100000
namespace L2
open PySem PySem.Spec PyProof.Rows
/-! ### all orders of up to five things -/
def insP (x : Int) : List Int → List (List Int)
  | [] => [[x]]
  | y :: t => (x :: y :: t) :: (insP x t).map (y :: ·)
def allP : List Int → List (List Int)
  | [] => [[]]
  | x :: t => (allP t).flatMap (insP x)
theorem insP_mem (x : Int) : ∀ u v : List Int, u ++ x :: v ∈ insP x (u ++ v)
  | [], [] => by simp [insP]
  | [], y :: v => by simp [insP]
  | y :: u, v => by
    show y :: (u ++ x :: v) ∈ (x :: y :: (u ++ v)) :: (insP x (u ++ v)).map (y :: ·)
    exact List.mem_cons_of_mem _ (List.mem_map.mpr ⟨_, insP_mem x u v, rfl⟩)
theorem allP_mem : ∀ (L l : List Int), l.Perm L → l ∈ allP L
  | [], l, h => by rw [h.eq_nil]; simp [allP]
  | x :: t, l, h => by
    obtain ⟨u, v, rfl⟩ := List.append_of_mem (h.mem_iff.mpr (List.mem_cons_self))
    have h2 : (u ++ v).Perm t := (List.perm_middle.symm.trans h).cons_inv
    exact List.mem_flatMap.mpr ⟨u ++ v, allP_mem t _ h2, insP_mem x u v⟩
theorem POr.all {F : List Int → Bool} (h : ((List.range 6).all fun n => (allP (plainI n)).all F) = true) {ns : List Int} (po : POr ns) : F ns = true := by
  rw [List.all_eq_true] at h
  have h1 := h ns.length (List.mem_range.mpr (by have := po.five; omega))
  rw [List.all_eq_true] at h1
  exact h1 ns (allP_mem _ _ po.perm)
/-! ### joined, back -/
def joinL (os ps : List Int) : List Int := ps.map fun p => os.getD p.toNat 0
def placeL (os : List Int) (t : Int) : Nat := os.findIdx (· == t)
def backL (os : List Int) : List Int := (List.range os.length).map fun (t : Nat) => (placeL os (t : Int) : Int)
def chkB (ns : List Int) : Bool := decide ((backL ns).Perm (plainI ns.length)) && (decide (joinL ns (backL ns) = plainI ns.length) && decide (joinL (backL ns) ns = plainI ns.length))
theorem chkB_all : ((List.range 6).all fun n => (allP (plainI n)).all chkB) = true := by decide +kernel
theorem POr.chkB {ns : List Int} (po : POr ns) : (backL ns).Perm (plainI ns.length) ∧ joinL ns (backL ns) = plainI ns.length ∧ joinL (backL ns) ns = plainI ns.length := by
  have h := po.all chkB_all
  unfold L2.chkB at h
  simp only [Bool.and_eq_true, decide_eq_true_eq] at h
  exact h
theorem POr.back {ns : List Int} (po : POr ns) : POr (backL ns) := POr.of (m := ns.length) po.chkB.1 po.one po.five
end L2

set_option Elab.async false
set_option linter.all false
set_option maxRecDepth 100000
namespace L2
open PySem PySem.Spec PyProof.Rows
/-! ### data that are shown -/
structure Sm (k m : Nat) (d : PyData) : Prop where
  dp : d.depth ≤ k
  wt : d.weight ≤ m
  sh : d.showable = true
  nd : d.hasDict = false
  lv : d.leavesShort 100 = true
theorem Sm.mono {k m k' m' : Nat} {d : PyData} (h : Sm k m d) (hk : k ≤ k') (hm : m ≤ m') : Sm k' m' d := ⟨Nat.le_trans h.dp hk, Nat.le_trans h.wt hm, h.sh, h.nd, h.lv⟩
theorem Sm.non : Sm 0 0 .none := ⟨Nat.le_refl _, Nat.le_refl _, rfl, rfl, rfl⟩
theorem Sm.bl {b : Bool} : Sm 0 0 (.bool b) := ⟨Nat.le_refl _, Nat.le_refl _, rfl, rfl, rfl⟩
theorem log_of_lt {n k : Nat} (h : n < 2 ^ k) (hk : 0 < k) : n.log2 < k := by
  by_cases h0 : n = 0
  · subst h0; exact hk
  · exact (Nat.log2_lt h0).mpr h
theorem Sm.int {i : Int} (h : i.natAbs < 10 ^ 60) : Sm 0 200 (.int i) := by
  have hl : i.natAbs.log2 < 200 := log_of_lt (Nat.lt_of_lt_of_le h (by decide)) (by decide)
  refine ⟨Nat.le_refl _, ?_, ?_, rfl, ?_⟩
  · show (if i == 0 then 0 else i.natAbs.log2 + 1) ≤ 200
    split <;> omega
  · show decide (i.natAbs.log2 < 1920) = true
    exact decide_eq_true (by omega)
  · show decide ((PyData.shown (.int i)).length ≤ 100) = true
    refine decide_eq_true ?_
    have := int_text_length_le10 (a := i) (k := 60) (by decide) h
    show (Str.ofString (toString i)).length ≤ 100
    rw [PySem.ofString_length]; omega
theorem Sm.str {x : Str} (h : x.cps.size ≤ 50) (hc : (x.cps.toList.all fun c => decide (c < 16 ^ 8)) = true) : Sm 0 50 (.str x) := ⟨Nat.le_refl _, h, rfl, rfl, hc⟩
section
variable {k m : Nat}
theorem Sm.all : ∀ {xs : List PyData}, (∀ x ∈ xs, Sm k m x) → PyData.depthAll xs ≤ k ∧ PyData.weightAll xs ≤ (m + 1) * xs.length ∧ PyData.showableAll xs = true ∧ PyData.hasDictAll xs = false ∧ PyData.leavesShortAll 100 xs = true
  | [], _ => ⟨Nat.zero_le _, Nat.zero_le _, rfl, rfl, rfl⟩
  | x :: xs, h => by
    have hx := h x List.mem_cons_self
    obtain ⟨a, b, c, d, e⟩ := Sm.all fun y hy => h y (List.mem_cons_of_mem _ hy)
    refine ⟨?_, ?_, ?_, ?_, ?_⟩
    · show max x.depth (PyData.depthAll xs) ≤ k
      exact Nat.max_le.mpr ⟨hx.dp, a⟩
    · show x.weight + 1 + PyData.weightAll xs ≤ (m + 1) * (xs.length + 1)
      rw [Nat.mul_succ]
      have := hx.wt
      omega
    · show (x.showable && PyData.showableAll xs) = true
      rw [hx.sh, c]; rfl
    · show (x.hasDict || PyData.hasDictAll xs) = false
      rw [hx.nd, d]; rfl
    · show (x.leavesShort 100 && PyData.leavesShortAll 100 xs) = true
      rw [hx.lv, e]; rfl
theorem Sm.tuple {xs : List PyData} {n : Nat} (h : ∀ x ∈ xs, Sm k m x) (hn : xs.length ≤ n) : Sm (k + 1) ((m + 1) * n) (.tuple xs) := by
  obtain ⟨a, b, c, d, e⟩ := Sm.all h
  exact ⟨Nat.succ_le_succ a, Nat.le_trans b (Nat.mul_le_mul_left _ hn), c, d, e⟩
theorem Sm.list {xs : List PyData} {n : Nat} (h : ∀ x ∈ xs, Sm k m x) (hn : xs.length ≤ n) : Sm (k + 1) ((m + 1) * n) (.list xs) := by
  obtain ⟨a, b, c, d, e⟩ := Sm.all h
  exact ⟨Nat.succ_le_succ a, Nat.le_trans b (Nat.mul_le_mul_left _ hn), c, d, e⟩
end
theorem Sm.fits {d : PyData} (h : Sm 40 100000 d) : d.shown.length ≤ sizeLine := by
  have := PyData.shown_le 100 (by decide) d h.lv
  have h2 := h.wt
  have h3 : sizeLine = 16777216 := by decide
  rw [h3]
  omega
def strT : PyData → Str
  | .str x => x
  | d => d.shown
section
variable {X : Cx}
theorem call_strD (hf : X.fr) (hu : X.A.units + 64 < cLine) : CallR X (.type "str") (fun xs H Q => ∃ v d, xs = [v] ∧ Dp X.K H v d ∧ Sm 40 100000 d ∧ Q (.str (strT d)) H) := by
  intro pins s σ H xs us Q I r h
  obtain ⟨v, d, rfl, hd, hs, q⟩ := h
  obtain ⟨u, rfl, ru⟩ := vals1 r
  obtain ⟨as, rd⟩ := Dp.reads I d v u hd ru
  have viaRef : ∀ a, u = .ref a → strT d = d.shown → wpAny (model X.prog X.w) X.A (call (.type "str") [u]) (EP X pins σ Q) X.xe s := fun a e es => by
    subst e
    refine str_of_reads rd hs.sh (fun z => by rw [hs.nd] at z; cases z) (I.ok.frames hf).2 (by have := hs.dp; omega) (fun _ _ e => e) (fun h' t tk k => ?_) hs.fits
    exact ⟨.str d.shown, H, I.kept (t' := tk) k, ⟨_, rfl⟩, by rw [← es]; exact q⟩
  cases hd with
  | non => cases ru; exact PySem.P.str_of_none ⟨.str "None", H, I.tok _, ⟨_, rfl⟩, q⟩
  | bl b => cases ru; exact PySem.P.str_of_bool ⟨.str (if b then "True" else "False"), H, I.tok _, ⟨_, rfl⟩, by cases b <;> exact q⟩
  | int i => obtain ⟨t, rfl⟩ := ru; exact PySem.P.str_of_int (of_decide_eq_true hs.sh) ⟨.str (toString i), H, I.tok _, ⟨_, rfl⟩, q⟩
  | str x => obtain ⟨t, rfl⟩ := ru; exact PySem.P.str_of_str ⟨.str x, H, I, ⟨_, rfl⟩, q⟩
  | lst a b => cases ru; exact viaRef _ rfl rfl
  | tup a b => cases ru; exact viaRef _ rfl rfl
end
end L2

set_option Elab.async false
set_option linter.all false
set_option maxRecDepth 100000
namespace L2
open PySem PySem.Spec PyProof.Rows
section
variable {prog : Program} {w : World} {A : Around} {E : Value → Shared → Prop} {s : Shared}
end
section
variable {X : Cx}
end
end L2

set_option Elab.async false
set_option linter.all false
set_option maxRecDepth 100000
namespace L2
open PySem PySem.Spec PyProof.Rows
/-! ### what is an order, told otherwise -/
/-! ### data that are small -/
section
variable {K : PySem.W.Frag}
def IV (K : PySem.W.Frag) (H : Hp) (x : V) : Prop := ∃ d, Dp K H x d ∧ Sm 1 2000 d
def GV (K : PySem.W.Frag) (H : Hp) (x : V) : Prop := ∃ d, Dp K H x d ∧ Sm 2 30000 d
theorem IV.same {H H' : Hp} {x : V} (h : IV K H x) (s : Same H H') : IV K H' x := let ⟨d, a, b⟩ := h; ⟨d, a.same s, b⟩
theorem GV.same {H H' : Hp} {x : V} (h : GV K H x) (s : Same H H') : GV K H' x := let ⟨d, a, b⟩ := h; ⟨d, a.same s, b⟩
theorem IV.int {H : Hp} {i : Int} (h : i.natAbs < 10 ^ 60) : IV K H (.int i) := ⟨_, .int i, (Sm.int h).mono (by decide) (by decide)⟩
theorem IV.bl {H : Hp} {b : Bool} : IV K H (.bl b) := ⟨_, .bl b, Sm.bl.mono (by decide) (by decide)⟩
theorem IV.non {H : Hp} : IV K H .non := ⟨_, .non, Sm.non.mono (by decide) (by decide)⟩
theorem IV.str {H : Hp} {x : Str} (h : x.cps.size ≤ 50) (hc : (x.cps.toList.all fun c => decide (c < 16 ^ 8)) = true) : IV K H (.str x) := ⟨_, .str x, (Sm.str h hc).mono (by decide) (by decide)⟩
/-- its kind -/
theorem GV.kd {H : Hp} {x : V} (h : GV K H x) : ∃ k, Kd K H x k ∧ (k = "tuple" → ∃ a xs, x = .ref a ∧ SqT K H a xs ∧ Known K H xs) := by
  obtain ⟨d, hd, hs⟩ := h
  have kn : ∀ {xs : List V} {ds : List PyData}, DpAll K H xs ds → Known K H xs := by
    intro xs
    induction xs with
    | nil => intro ds _ x hx; cases hx
    | cons y r ih =>
      intro ds h x hx
      cases h with
      | cons h1 h2 =>
        rcases List.mem_cons.mp hx with rfl | hx
        · cases h1 with
          | non => exact ⟨"NoneType", rfl⟩
          | bl b => exact ⟨"bool", rfl⟩
          | int i => exact ⟨"int", rfl⟩
          | str s => exact ⟨"str", rfl⟩
          | lst a b => exact ⟨"list", .inl ⟨rfl, _, a⟩⟩
          | tup a b => exact ⟨"tuple", .inr ⟨rfl, _, a⟩⟩
        · exact ih h2 x hx
  cases hd with
  | non => exact ⟨"NoneType", rfl, fun h => absurd h (by decide)⟩
  | bl b => exact ⟨"bool", rfl, fun h => absurd h (by decide)⟩
  | int i => exact ⟨"int", rfl, fun h => absurd h (by decide)⟩
  | str s => exact ⟨"str", rfl, fun h => absurd h (by decide)⟩
  | lst a b => exact ⟨"list", .inl ⟨rfl, _, a⟩, fun h => absurd h (by decide)⟩
  | tup a b =>
    exact ⟨"tuple", .inr ⟨rfl, _, a⟩, fun _ => ⟨_, _, rfl, a, kn b⟩⟩
end
end L2

set_option Elab.async false
set_option linter.all false
set_option maxRecDepth 100000
set_option maxHeartbeats 4000000
namespace L2
open PySem PySem.Spec PyProof.Rows
section
variable {X : Cx}
end
end L2

set_option Elab.async false
set_option linter.all false
set_option maxRecDepth 100000
set_option maxHeartbeats 4000000
namespace L2
open PySem PySem.Spec PyProof.Rows
/-- how many of the first are as great -/
def cntN (ns : List Int) (p : Nat) (h : Int) : Nat := ((ns.take p).filter fun x => decide (h ≤ x)).length
/-- more are ahead in the one -/
def More (os ps : List Int) (p h : Nat) : Prop := cntN ps p h < cntN os p h
instance (os ps : List Int) (p h : Nat) : Decidable (More os ps p h) := by unfold More; infer_instance
/-- what above_at tells -/
def AbN (os ps : List Int) : Option (Nat × Nat) → Prop
  | none => ∀ p h, p ≤ os.length → h ≤ os.length → ¬ More os ps p h
  | some (p, h) => p ≤ os.length ∧ h ≤ os.length ∧ More os ps p h ∧ (∀ p' h', p' < p → h' ≤ os.length → ¬ More os ps p' h') ∧ ∀ h', h' < h → ¬ More os ps p h'
theorem AbN.uniq {os ps : List Int} {r r' : Option (Nat × Nat)} (a : AbN os ps r) (b : AbN os ps r') : r = r' := by
  match r, r', a, b with
  | none, none, _, _ => rfl
  | none, some (p, h), a, b => exact absurd b.2.2.1 (a p h b.1 b.2.1)
  | some (p, h), none, a, b => exact absurd a.2.2.1 (b p h a.1 a.2.1)
  | some (p, h), some (p', h'), a, b =>
    obtain ⟨a1, a2, a3, a4, a5⟩ := a
    obtain ⟨b1, b2, b3, b4, b5⟩ := b
    have ep : p = p' := by
      rcases Nat.lt_trichotomy p p' with h1 | h1 | h1
      · exact absurd a3 (b4 _ _ h1 a2)
      · exact h1
      · exact absurd b3 (a4 _ _ h1 b2)
    subst ep
    have eh : h = h' := by
      rcases Nat.lt_trichotomy h h' with h1 | h1 | h1
      · exact absurd a3 (b5 _ h1)
      · exact h1
      · exact absurd b3 (a5 _ h1)
    subst eh
    rfl
theorem AbN.self (os : List Int) : AbN os os none := fun p h _ _ hm => absurd hm (Nat.lt_irrefl _)
/-- two things exchanged -/
def tradeL (ns : List Int) (i j : Nat) : List Int := (ns.set i (ns.getD j 0)).set j (ns.getD i 0)
theorem tradeL_len (ns : List Int) (i j : Nat) : (tradeL ns i j).length = ns.length := by unfold tradeL; simp
def chkT (ns : List Int) : Bool := (List.range ns.length).all fun i => (List.range ns.length).all fun j => decide ((tradeL ns i j).Perm (plainI ns.length))
theorem chkT_all : ((List.range 6).all fun n => (allP (plainI n)).all chkT) = true := by decide +kernel
theorem POr.trade {ns : List Int} (po : POr ns) {i j : Nat} (hi : i < ns.length) (hj : j < ns.length) : POr (tradeL ns i j) := by
  have h := po.all chkT_all
  unfold chkT at h
  rw [List.all_eq_true] at h
  have h2 := h i (List.mem_range.mpr hi)
  rw [List.all_eq_true] at h2
  exact POr.of (m := ns.length) (of_decide_eq_true (h2 j (List.mem_range.mpr hj))) po.one po.five
end L2

set_option Elab.async false
set_option linter.all false
set_option maxRecDepth 100000
namespace L2
open PySem PySem.Spec PyProof.Rows
/-! ### orders reckoned -/
/-! ### wrong pairs, counted -/
def invN (ns : List Int) : Nat := (codeN ns).sum
/-! ### one order's facts -/
def turnL (n : Nat) : List Int := (plainI n).reverse
def wideL (ns : List Int) (m : Nat) : List Int := ns ++ (List.range (m - ns.length)).map fun (i : Nat) => ((ns.length + i : Nat) : Int)
def lexb : List (Int × Int) → Bool
  | [] => true
  | [_] => true
  | p :: q :: t => (decide (p.1 < q.1) || (decide (p.1 = q.1) && decide (p.2 < q.2))) && lexb (q :: t)
def fallC (ns : List Int) : List Nat := (List.range ((codeN ns).length - 1)).filter fun k => decide (((codeN ns).getD (k + 1) 0 : Int) < ((codeN ns).getD k 0 : Int))
structure ChkO (c : List Int) : Prop where
  bb : backL (backL c) = c
  wl : (wpP c).length = invN c
  bi : invN (backL c) = invN c
  t1 : invN c + invN (joinL c (turnL c.length)) = c.length * (c.length - 1) / 2
  t2 : invN c + invN (joinL (turnL c.length) c) = c.length * (c.length - 1) / 2
  ws : lexb (wpP (backL c)) = true
  wp : (wpP (backL c)).Perm ((wpP c).map fun p => (c.getD p.2.toNat 0, c.getD p.1.toNat 0))
  fa : faN c = fallC c
  wi : ∀ m, m < 6 → c.length ≤ m → wpP (wideL c m) = wpP c ∧ codeN (wideL c m) = codeN c ++ List.replicate (m - c.length) 0 ∧ backL (wideL c m) = wideL (backL c) m ∧ (wideL c m).Perm (plainI m)
end L2

set_option Elab.async false
set_option linter.all false
set_option maxRecDepth 100000
namespace L2
open PySem PySem.Spec PyProof.Rows
theorem lexI_anti : ∀ {a b : List Int}, lexI b a = false → lexI a b = false → a = b
  | [], [], _, _ => rfl
  | [], _ :: _, _, h => by cases h
  | _ :: _, [], h, _ => by cases h
  | x :: r, y :: t, h1, h2 => by
    have h1 : (decide (y < x) || (!decide (x < y) && lexI t r)) = false := h1
    have h2 : (decide (x < y) || (!decide (y < x) && lexI r t)) = false := h2
    rw [Bool.or_eq_false_iff, decide_eq_false_iff_not] at h1 h2
    have e : x = y := by omega
    subst e
    have g1 : lexI t r = false := by have := h1.2; rwa [decide_eq_false (by omega), Bool.not_false, Bool.true_and] at this
    have g2 : lexI r t = false := by have := h2.2; rwa [decide_eq_false (by omega), Bool.not_false, Bool.true_and] at this
    rw [lexI_anti g1 g2]
theorem lex_uniq {l1 l2 : List (List Int)} (h : l1.Perm l2) (h1 : l1.Pairwise fun a b => lexI b a = false) (h2 : l2.Pairwise fun a b => lexI b a = false) : l1 = l2 :=
  List.Perm.eq_of_pairwise (fun a b _ _ x y => lexI_anti x y) h1 h2 h
end L2

set_option Elab.async false
set_option linter.all false
set_option maxRecDepth 100000
set_option maxHeartbeats 4000000
namespace L2
open PySem PySem.Spec PyProof.Rows
/-- steps up: all trades that have one wrong pair more -/
def tradesL (ns : List Int) : List (List Int) := (List.range ns.length).flatMap fun i => (List.range (ns.length - (i + 1))).map fun j => tradeL ns i (i + 1 + j)
def upB (ns os : List Int) : Bool := decide ((wpP os).length = (wpP ns).length + 1)
def upsL (ns : List Int) : List (List Int) := (tradesL ns).filter (upB ns)
theorem tradesL_mem {ns os : List Int} (po : POr ns) (h : os ∈ tradesL ns) : POr os ∧ os.length = ns.length := by
  unfold tradesL at h
  obtain ⟨i, hi, h⟩ := List.mem_flatMap.mp h
  obtain ⟨j, hj, rfl⟩ := List.mem_map.mp h
  have h1 := List.mem_range.mp hi
  have h2 := List.mem_range.mp hj
  exact ⟨po.trade (by omega) (by omega), tradeL_len _ _ _⟩
theorem upsL_por {ns os : List Int} (po : POr ns) (h : os ∈ upsL ns) : POr os ∧ os.length = ns.length := tradesL_mem po (List.mem_filter.mp h).1
/-- all but the one list -/
def oneH (E : Addr) : Hp := fun a => if a = E then some (.lst []) else none
theorem oneH_at (E : Addr) : oneH E E ≠ none := by unfold oneH; rw [if_pos rfl]; simp
theorem getD_some {α : Type} {l : List α} {i : Nat} {x d : α} (h : l[i]? = some x) : l.getD i d = x := by rw [List.getD_eq_getElem?_getD, h]; rfl
theorem DpAll.tups {K : PySem.W.Frag} {H : Hp} {xs : List V} {nss : List (List Int)} {i : Nat} {x : V} (h : DpAll K H xs (nss.map tupD)) (e : xs[i]? = some x) : ∃ ns a, nss[i]? = some ns ∧ x = .ref a ∧ SqT K H a (intsV ns) := by
  obtain ⟨d, ed, hd⟩ := h.get e
  rw [List.getElem?_map] at ed
  cases ep : nss[i]? with
  | none => rw [ep] at ed; cases ed
  | some ns =>
    rw [ep] at ed
    have ed : tupD ns = d := Option.some.inj ed
    subst ed
    obtain ⟨a, rfl, ha⟩ := Dp.tup_ints (ns := ns) hd
    exact ⟨ns, a, rfl, rfl, ha⟩
end L2

set_option Elab.async false
set_option linter.all false
set_option maxRecDepth 100000
set_option maxHeartbeats 4000000
namespace L2
open PySem PySem.Spec PyProof.Rows
/-- below, place by place -/
def cells (n : Nat) : List (Nat × Nat) := (List.range (n + 1)).flatMap fun p => (List.range (n + 1)).map fun h => (p, h)
def cntsL (os : List Int) : List Nat := (cells os.length).map fun c => cntN os c.1 (c.2 : Nat)
def leL : List Nat → List Nat → Bool
  | a :: s, b :: t => decide (a ≤ b) && leL s t
  | _, _ => true
theorem leL_map {α : Type} (f g : α → Nat) : ∀ l : List α, leL (l.map f) (l.map g) = true ↔ ∀ c ∈ l, f c ≤ g c
  | [] => by simp [leL]
  | a :: t => by
    have ih := leL_map f g t
    simp only [List.map_cons, leL, Bool.and_eq_true, decide_eq_true_eq, List.mem_cons, forall_eq_or_imp, ih]
theorem mem_cells {n p h : Nat} : (p, h) ∈ cells n ↔ p ≤ n ∧ h ≤ n := by
  unfold cells
  simp only [List.mem_flatMap, List.mem_range, List.mem_map, Prod.mk.injEq]
  constructor
  · rintro ⟨a, ha, b, hb, rfl, rfl⟩; omega
  · rintro ⟨h1, h2⟩; exact ⟨p, by omega, h, by omega, rfl, rfl⟩
theorem below_le {os ps : List Int} (el : os.length = ps.length) : AbN os ps none ↔ leL (cntsL os) (cntsL ps) = true := by
  unfold cntsL
  rw [← el, leL_map]
  constructor
  · intro h c hc
    obtain ⟨p, k⟩ := c
    obtain ⟨h1, h2⟩ := mem_cells.mp hc
    have := h p k h1 h2
    unfold More at this
    show cntN os p k ≤ cntN ps p k
    omega
  · intro h p k h1 h2 hm
    have := h (p, k) (mem_cells.mpr ⟨h1, h2⟩)
    unfold More at hm
    have this : cntN os p k ≤ cntN ps p k := this
    omega
/-- below, as a truth -/
def belB (os ps : List Int) : Bool := leL (cntsL os) (cntsL ps)
theorem belB_iff {os ps : List Int} (el : os.length = ps.length) : belB os ps = true ↔ AbN os ps none := (below_le el).symm
theorem chunk_all {α : Type} (F : α → Bool) (l : List α) (c m : Nat) (hl : l.length ≤ c * m) (h : ∀ i, i < m → ((l.drop (c * i)).take c).all F = true) : l.all F = true := by
  rw [List.all_eq_true]
  intro x hx
  obtain ⟨k, hk⟩ := List.getElem?_of_mem hx
  have hkl : k < l.length := (List.getElem?_eq_some_iff.mp hk).1
  have hc : 0 < c := by
    rcases Nat.eq_zero_or_pos c with e | e
    · subst e; omega
    · exact e
  have hi : k / c < m := (Nat.div_lt_iff_lt_mul hc).mpr (by rw [Nat.mul_comm]; omega)
  have hh := h (k / c) hi
  rw [List.all_eq_true] at hh
  refine hh x (List.mem_of_getElem? (i := k % c) ?_)
  rw [List.getElem?_take, if_pos (Nat.mod_lt _ hc), List.getElem?_drop, Nat.div_add_mod]
  exact hk
theorem six_all {F : List Int → Bool} (h : ((List.range 5).all fun n => (allP (plainI n)).all F) = true) (h5 : (allP (plainI 5)).all F = true) : ((List.range 6).all fun n => (allP (plainI n)).all F) = true := by
  rw [show List.range 6 = List.range 5 ++ [5] from List.range_succ, List.all_append, h, Bool.true_and]
  simp only [List.all_cons, List.all_nil, Bool.and_true]
  exact h5
theorem len5 : (allP (plainI 5)).length ≤ 12 * 10 := by decide +kernel
def chkEnd (os : List Int) : Bool := belB (plainI os.length) os && (belB os (plainI os.length).reverse && (decide ((wpP os).length ≤ 10)))
theorem chkEnd_all_lt : ((List.range 5).all fun n => (allP (plainI n)).all chkEnd) = true := by decide +kernel
theorem chkEnd_all_0 : (((allP (plainI 5)).drop (12 * 0)).take 12).all chkEnd = true := by decide +kernel
theorem chkEnd_all_1 : (((allP (plainI 5)).drop (12 * 1)).take 12).all chkEnd = true := by decide +kernel
theorem chkEnd_all_2 : (((allP (plainI 5)).drop (12 * 2)).take 12).all chkEnd = true := by decide +kernel
theorem chkEnd_all_3 : (((allP (plainI 5)).drop (12 * 3)).take 12).all chkEnd = true := by decide +kernel
theorem chkEnd_all_4 : (((allP (plainI 5)).drop (12 * 4)).take 12).all chkEnd = true := by decide +kernel
theorem chkEnd_all_5 : (((allP (plainI 5)).drop (12 * 5)).take 12).all chkEnd = true := by decide +kernel
theorem chkEnd_all_6 : (((allP (plainI 5)).drop (12 * 6)).take 12).all chkEnd = true := by decide +kernel
theorem chkEnd_all_7 : (((allP (plainI 5)).drop (12 * 7)).take 12).all chkEnd = true := by decide +kernel
theorem chkEnd_all_8 : (((allP (plainI 5)).drop (12 * 8)).take 12).all chkEnd = true := by decide +kernel
theorem chkEnd_all_9 : (((allP (plainI 5)).drop (12 * 9)).take 12).all chkEnd = true := by decide +kernel
theorem chkEnd_all : ((List.range 6).all fun n => (allP (plainI n)).all chkEnd) = true := six_all chkEnd_all_lt (chunk_all _ _ 12 10 len5 fun i hi => match i, hi with
  | 0, _ => chkEnd_all_0
  | 1, _ => chkEnd_all_1
  | 2, _ => chkEnd_all_2
  | 3, _ => chkEnd_all_3
  | 4, _ => chkEnd_all_4
  | 5, _ => chkEnd_all_5
  | 6, _ => chkEnd_all_6
  | 7, _ => chkEnd_all_7
  | 8, _ => chkEnd_all_8
  | 9, _ => chkEnd_all_9
  | n + 10, h => absurd h (by omega))
end L2

set_option Elab.async false
set_option linter.all false
set_option maxRecDepth 100000
set_option maxHeartbeats 4000000
namespace L2
open PySem PySem.Spec PyProof.Rows
theorem bel_iff {os ps : List Int} : AbN os ps none ↔ ∀ p h : Nat, p ≤ os.length → h ≤ os.length → cntN os p h ≤ cntN ps p h :=
  ⟨fun a p h hp hh => by have := a p h hp hh; unfold More at this; omega, fun a p h hp hh hm => by have := a p h hp hh; unfold More at hm; omega⟩
theorem AbN.trans {a b c : List Int} (el : a.length = b.length) (h1 : AbN a b none) (h2 : AbN b c none) : AbN a c none :=
  bel_iff.mpr fun p h hp hh => Nat.le_trans (bel_iff.mp h1 p h hp hh) (bel_iff.mp h2 p h (el ▸ hp) (el ▸ hh))
theorem up_len {a u : List Int} (h : u ∈ upsL a) : (wpP u).length = (wpP a).length + 1 := of_decide_eq_true (List.mem_filter.mp h).2
theorem por_end {os : List Int} (po : POr os) : AbN (plainI os.length) os none ∧ AbN os (plainI os.length).reverse none ∧ (wpP os).length ≤ 10 := by
  have h3 := po.all chkEnd_all
  unfold chkEnd at h3
  rw [Bool.and_eq_true, Bool.and_eq_true] at h3
  exact ⟨(belB_iff (plainI_len _)).mp h3.1, (belB_iff (by rw [List.length_reverse, plainI_len])).mp h3.2.1, of_decide_eq_true h3.2.2⟩
/-! ### falls lifted -/
def b1 (h x : Int) : Nat := if h ≤ x then 1 else 0
theorem b1_le (h x : Int) : b1 h x ≤ 1 := by unfold b1; split <;> omega
theorem cnt_zero (ns : List Int) (h : Int) : cntN ns 0 h = 0 := rfl
theorem cnt_cons (a : Int) (r : List Int) (p : Nat) (h : Int) : cntN (a :: r) (p + 1) h = b1 h a + cntN r p h := by
  unfold cntN b1
  rw [List.take_succ_cons, List.filter_cons]
  by_cases hc : h ≤ a
  · rw [if_pos (decide_eq_true hc), if_pos hc, List.length_cons]; omega
  · rw [if_neg (by rw [decide_eq_false hc]; decide), if_neg hc]; omega
theorem cnt_step : ∀ {ns : List Int} {p : Nat} {x : Int} (h : Int), ns[p]? = some x → cntN ns (p + 1) h = cntN ns p h + b1 h x
  | [], p, x, h, e => by simp at e
  | a :: r, 0, x, h, e => by
    have e : some a = some x := e
    cases e
    rw [cnt_cons, cnt_zero, cnt_zero]; omega
  | a :: r, p + 1, x, h, e => by
    have ih := cnt_step h (show r[p]? = some x from e)
    rw [cnt_cons, cnt_cons, ih]; omega
theorem cnt_swap : ∀ {ns : List Int} {k : Nat} {x y : Int} (p : Nat) (h : Int), ns[k]? = some x → ns[k + 1]? = some y → cntN (swapAt ns k) p h = if p = k + 1 then cntN ns k h + b1 h y else cntN ns p h
  | [], k, x, y, p, h, e1, e2 => by simp at e1
  | [a], 0, x, y, p, h, e1, e2 => by simp at e2
  | a :: b :: r, 0, x, y, p, h, e1, e2 => by
    have e1 : some a = some x := e1
    have e2 : some b = some y := e2
    cases e1; cases e2
    show cntN (b :: a :: r) p h = _
    match p with
    | 0 => rfl
    | 1 => rw [if_pos rfl, cnt_cons, cnt_zero, cnt_zero]; omega
    | p + 2 => rw [if_neg (by omega), cnt_cons, cnt_cons, cnt_cons, cnt_cons]; omega
  | a :: r, k + 1, x, y, p, h, e1, e2 => by
    rw [swapAt_succ]
    match p with
    | 0 => rfl
    | p + 1 =>
      rw [cnt_cons, cnt_swap p h (show r[k]? = some x from e1) (show r[k + 1]? = some y from e2), cnt_cons, cnt_cons]
      by_cases hp : p = k + 1
      · rw [if_pos hp, if_pos (by omega)]; omega
      · rw [if_neg hp, if_neg (by omega)]
section
variable {l w : List Int} {k : Nat} {x y u v : Int}
theorem lift_down (el : l.length = w.length) (e1 : l[k]? = some x) (e2 : l[k + 1]? = some y) (f1 : w[k]? = some u) (f2 : w[k + 1]? = some v) (hw : v < u) (hl : x < y) :
    AbN l w none ↔ AbN l (swapAt w k) none := by
  have hk : k + 1 < l.length := (List.getElem?_eq_some_iff.mp e2).1
  rw [bel_iff, bel_iff]
  constructor
  · intro H p h hp hh
    rw [cnt_swap p h f1 f2]
    by_cases c : p = k + 1
    · rw [if_pos c, c, cnt_step h e1]
      have a0 := H k h (by omega) hh
      have a2 := H (k + 2) h (by omega) hh
      rw [cnt_step h e2, cnt_step h e1, cnt_step h f2, cnt_step h f1] at a2
      have : b1 h x ≤ b1 h y := by unfold b1; split <;> split <;> omega
      have := b1_le h x; have := b1_le h y; have := b1_le h u; have := b1_le h v
      have : b1 h v ≤ b1 h u := by unfold b1; split <;> split <;> omega
      omega
    · rw [if_neg c]; exact H p h hp hh
  · intro H p h hp hh
    have := H p h hp hh
    rw [cnt_swap p h f1 f2] at this
    by_cases c : p = k + 1
    · rw [if_pos c] at this
      rw [c] at this
      have : b1 h v ≤ b1 h u := by unfold b1; split <;> split <;> omega
      rw [c, cnt_step h f1]
      omega
    · rw [if_neg c] at this; exact this
theorem lift_both (el : l.length = w.length) (e1 : l[k]? = some x) (e2 : l[k + 1]? = some y) (f1 : w[k]? = some u) (f2 : w[k + 1]? = some v) (hw : v < u) (hl : y < x) :
    AbN l w none ↔ AbN (swapAt l k) (swapAt w k) none := by
  have hk : k + 1 < l.length := (List.getElem?_eq_some_iff.mp e2).1
  rw [bel_iff, bel_iff, swapAt_len]
  constructor
  · intro H p h hp hh
    rw [cnt_swap p h e1 e2, cnt_swap p h f1 f2]
    by_cases c : p = k + 1
    · rw [if_pos c, if_pos c]
      have a0 := H k h (by omega) hh
      have a2 := H (k + 2) h (by omega) hh
      rw [cnt_step h e2, cnt_step h e1, cnt_step h f2, cnt_step h f1] at a2
      have : b1 h y ≤ b1 h x := by unfold b1; split <;> split <;> omega
      have := b1_le h x; have := b1_le h y; have := b1_le h u; have := b1_le h v
      have : b1 h v ≤ b1 h u := by unfold b1; split <;> split <;> omega
      omega
    · rw [if_neg c, if_neg c]; exact H p h hp hh
  · intro H p h hp hh
    have a1 := H p h hp hh
    rw [cnt_swap p h e1 e2, cnt_swap p h f1 f2] at a1
    by_cases c : p = k + 1
    · rw [if_pos c, if_pos c] at a1
      have a0 := H k h (by omega) hh
      have a2 := H (k + 2) h (by omega) hh
      rw [cnt_swap k h e1 e2, cnt_swap k h f1 f2, if_neg (by omega), if_neg (by omega)] at a0
      rw [cnt_swap (k + 2) h e1 e2, cnt_swap (k + 2) h f1 f2, if_neg (by omega), if_neg (by omega)] at a2
      rw [cnt_step h e2, cnt_step h e1, cnt_step h f2, cnt_step h f1] at a2
      have : b1 h y ≤ b1 h x := by unfold b1; split <;> split <;> omega
      have := b1_le h x; have := b1_le h y; have := b1_le h u; have := b1_le h v
      have : b1 h v ≤ b1 h u := by unfold b1; split <;> split <;> omega
      rw [c, cnt_step h e1, cnt_step h f1]
      omega
    · rw [if_neg c, if_neg c] at a1; exact a1
end
theorem por_swap {ns : List Int} (po : POr ns) (k : Nat) : POr (swapAt ns k) := ⟨by rw [swapAt_len]; exact po.one, by rw [swapAt_len]; exact po.five, by rw [swapAt_len]; exact (swapAt_perm ns k).trans po.perm⟩
end L2

set_option Elab.async false
set_option linter.all false
set_option maxRecDepth 100000
set_option maxHeartbeats 4000000
namespace L2
open PySem PySem.Spec PyProof.Rows
section
variable {K : PySem.W.Frag}
/-- a tuple is no list -/
theorem SqT.ne {H : Hp} {c : Addr} {xs : List V} {H' : Hp} (h : SqT K H c xs) (k : ∀ b o, (∀ ys, o ≠ .lst ys) → H b = some o → H' b = some o) : SqT K H' c xs := by
  rcases h with (h | ⟨o, h⟩) | h
  · exact .inl (.inl (k _ _ (fun ys z => by cases z) h))
  · exact .inl (.inr ⟨o, k _ _ (fun ys z => by cases z) h⟩)
  · exact .inr h
theorem SqT.but {H H' : Hp} {c p : Addr} {xs rs : List V} (h : SqT K H c xs) (hp : H p = some (.lst rs)) (sb : ∀ b o, b ≠ p → H b = some o → H' b = some o) : SqT K H' c xs := h.ne fun b o ho e => by
  have nb : b ≠ p := fun z => by rw [z, hp] at e; cases e; exact ho _ rfl
  exact sb b o nb e
end
/-- a climb -/
structure Climb (os ps : List Int) (nss : List (List Int)) : Prop where
  ne : ∃ t, nss = os :: t
  last : ∃ t, nss = t ++ [ps]
  up : ∀ i x y, nss[i]? = some x → nss[i + 1]? = some y → y ∈ upsL x
  por : ∀ x ∈ nss, POr x ∧ x.length = os.length
  len : nss.length + (wpP os).length = (wpP ps).length + 1
theorem Climb.start {os : List Int} (po : POr os) : Climb os os [os] := ⟨⟨[], rfl⟩, ⟨[], rfl⟩, fun i x y h1 h2 => by simp at h2, fun x hx => by rw [List.mem_singleton] at hx; subst hx; exact ⟨po, rfl⟩, by simp; omega⟩
theorem Climb.few {os ps : List Int} {nss : List (List Int)} (h : Climb os ps nss) (pp : POr ps) : nss.length ≤ 11 := by
  have := h.len
  have := (por_end pp).2.2
  omega
theorem Climb.step {os c s : List Int} {nss : List (List Int)} (h : Climb os c nss) (hs : s ∈ upsL c) (pc : POr c) (lc : c.length = os.length) : Climb os s (nss ++ [s]) := by
  obtain ⟨t, et⟩ := h.ne
  obtain ⟨t', et'⟩ := h.last
  refine ⟨⟨t ++ [s], by rw [et]; rfl⟩, ⟨nss, rfl⟩, fun i x y h1 h2 => ?_, fun x hx => ?_, ?_⟩
  · by_cases hi : i + 1 < nss.length
    · rw [List.getElem?_append_left (by omega)] at h1
      rw [List.getElem?_append_left hi] at h2
      exact h.up i x y h1 h2
    · have hi2 : i + 1 < (nss ++ [s]).length := (List.getElem?_eq_some_iff.mp h2).1
      rw [List.length_append] at hi2
      have ei : i + 1 = nss.length := by simp at hi2; omega
      rw [List.getElem?_append_right (by omega), ei, Nat.sub_self] at h2
      have h2 : some s = some y := h2
      cases h2
      rw [List.getElem?_append_left (by omega)] at h1
      have el : nss.length = t'.length + 1 := by rw [et']; simp
      rw [et', List.getElem?_append_right (by omega), show i - t'.length = 0 by omega] at h1
      have h1 : some c = some x := h1
      cases h1
      exact hs
  · rcases List.mem_append.mp hx with hx | hx
    · exact h.por x hx
    · rw [List.mem_singleton] at hx
      subst hx
      have := upsL_por pc hs
      exact ⟨this.1, by omega⟩
  · have := h.len
    have := up_len hs
    rw [List.length_append]
    simp
    omega
end L2

set_option Elab.async false
set_option linter.all false
set_option maxRecDepth 100000
set_option maxHeartbeats 4000000
namespace L2
open PySem PySem.Spec PyProof.Rows
def Up (m : Nat) (ks : List Nat) (t : Nat) : Prop := ∀ k, ks[t]? = some k → ∃ x y : Int, (wordOrd m (ks.take t))[k]? = some x ∧ (wordOrd m (ks.take t))[k + 1]? = some y ∧ x < y
structure Back (m : Nat) (ks : List Nat) (i j : Nat) : Prop where
  ij : i < j
  up : ∀ t, t < j → Up m ks t
  at_ : ∃ (k k' : Nat) (a b : Int), ks[i]? = some k ∧ ks[j]? = some k' ∧ b < a ∧ (wordOrd m (ks.take i))[k]? = some b ∧ (wordOrd m (ks.take i))[k + 1]? = some a ∧ (wordOrd m (ks.take j))[k']? = some a ∧ (wordOrd m (ks.take j))[k' + 1]? = some b
theorem Back.lt {m : Nat} {ks : List Nat} {i j : Nat} (b : Back m ks i j) : j < ks.length := by
  obtain ⟨k, k', x, y, _, e, _⟩ := b.at_
  exact (List.getElem?_eq_some_iff.mp e).1
theorem nodup_next {xs : List Int} {k : Nat} {x y : Int} (nd : xs.Nodup) (ex : xs[k]? = some x) (ey : xs[k + 1]? = some y) : x ≠ y := by
  obtain ⟨h1, e1⟩ := List.getElem?_eq_some_iff.mp ex
  obtain ⟨h2, e2⟩ := List.getElem?_eq_some_iff.mp ey
  have := List.pairwise_iff_getElem.mp nd k (k + 1) h1 h2 (by omega)
  rw [e1, e2] at this
  exact this
theorem swap_twice : ∀ (ns : List Int) (k : Nat), swapAt (swapAt ns k) k = ns
  | [], 0 => rfl
  | [], k + 1 => rfl
  | [a], 0 => rfl
  | a :: b :: r, 0 => rfl
  | a :: r, k + 1 => by rw [swapAt_succ, swapAt_succ, swap_twice r k]
theorem swap_back {ns : List Int} {k : Nat} : swapAt (swapAt ns k) k = ns := swap_twice ns k
theorem swap_get : ∀ {ns : List Int} {k : Nat} {x y : Int}, ns[k]? = some x → ns[k + 1]? = some y → (swapAt ns k)[k]? = some y ∧ (swapAt ns k)[k + 1]? = some x
  | [], k, x, y, e1, e2 => by simp at e1
  | [a], 0, x, y, e1, e2 => by simp at e2
  | a :: b :: r, 0, x, y, e1, e2 => ⟨e2, e1⟩
  | a :: r, k + 1, x, y, e1, e2 => by
    rw [swapAt_succ]
    exact swap_get (show r[k]? = some x from e1) (show r[k + 1]? = some y from e2)
/-- what is kept from the end on -/
structure Kp (m : Nat) (ks : List Nat) (l : List Int) (j : Nat) (ps : List Nat) (left : List Int) : Prop where
  por : POr left
  len : left.length = m
  ris : ps.Pairwise (· < ·)
  rng : ∀ p ∈ ps, ks.length ≤ p + j ∧ p < ks.length
  inv : ps.length + inv left = inv l
  fold : (ps.map fun p => ks.getD p 0).foldl swapAt left = l
  bel : AbN l (wordOrd m ks) none ↔ AbN left (wordOrd m (ks.take (ks.length - j))) none
theorem Kp.start {m : Nat} {ks : List Nat} {l : List Int} (po : POr l) (el : l.length = m) : Kp m ks l 0 [] l := ⟨po, el, .nil, fun p h => (by cases h), by simp, rfl, by simp⟩
section
variable {m : Nat} {ks : List Nat} {l left : List Int} {j k : Nat} {ps : List Nat} {x y : Int}
theorem Kp.fall (h : Kp m ks l j ps left) (up : ∀ t, t < ks.length → Up m ks t) (hj : j < ks.length) (ek : ks[ks.length - 1 - j]? = some k) (ex : left[k]? = some x) (ey : left[k + 1]? = some y) (hf : y < x) :
    Kp m ks l (j + 1) ((ks.length - 1 - j) :: ps) (swapAt left k) := by
  obtain ⟨u, v, e1, e2, huv⟩ := up _ (by omega) k ek
  have es : ks.length - j = (ks.length - 1 - j) + 1 := by omega
  have hw := wordOrd_step (m := m) ek
  rw [← es] at hw
  refine ⟨por_swap h.por k, by rw [swapAt_len]; exact h.len, ?_, fun p hp => ?_, ?_, ?_, ?_⟩
  · refine List.pairwise_cons.mpr ⟨fun p hp => ?_, h.ris⟩
    have := h.rng p hp
    omega
  · rcases List.mem_cons.mp hp with rfl | hp
    · omega
    · have := h.rng p hp
      omega
  · have := h.inv
    have := inv_down left k x y ex ey hf
    rw [List.length_cons]; omega
  · rw [List.map_cons, List.foldl_cons, List.getD_eq_getElem?_getD, ek]
    show List.foldl swapAt (swapAt (swapAt left k) k) _ = l
    rw [swap_back]; exact h.fold
  · rw [h.bel, show ks.length - (j + 1) = ks.length - 1 - j by omega, hw]
    have el : left.length = (swapAt (wordOrd m (ks.take (ks.length - 1 - j))) k).length := by rw [swapAt_len, wordOrd_len]; exact h.len
    have f1 : (swapAt (wordOrd m (ks.take (ks.length - 1 - j))) k)[k]? = some v ∧ (swapAt (wordOrd m (ks.take (ks.length - 1 - j))) k)[k + 1]? = some u := swap_get e1 e2
    have := lift_both el ex ey f1.1 f1.2 huv hf
    rw [swap_back] at this
    exact this
theorem Kp.rise (h : Kp m ks l j ps left) (up : ∀ t, t < ks.length → Up m ks t) (hj : j < ks.length) (ek : ks[ks.length - 1 - j]? = some k) (ex : left[k]? = some x) (ey : left[k + 1]? = some y) (hf : ¬ y < x) :
    Kp m ks l (j + 1) ps left := by
  obtain ⟨u, v, e1, e2, huv⟩ := up _ (by omega) k ek
  have es : ks.length - j = (ks.length - 1 - j) + 1 := by omega
  have hw := wordOrd_step (m := m) ek
  rw [← es] at hw
  have hne : x ≠ y := nodup_next h.por.nodup ex ey
  refine ⟨h.por, h.len, h.ris, fun p hp => ?_, h.inv, h.fold, ?_⟩
  · have := h.rng p hp
    omega
  · rw [h.bel, show ks.length - (j + 1) = ks.length - 1 - j by omega, hw]
    have el : left.length = (swapAt (wordOrd m (ks.take (ks.length - 1 - j))) k).length := by rw [swapAt_len, wordOrd_len]; exact h.len
    have f1 : (swapAt (wordOrd m (ks.take (ks.length - 1 - j))) k)[k]? = some v ∧ (swapAt (wordOrd m (ks.take (ks.length - 1 - j))) k)[k + 1]? = some u := swap_get e1 e2
    have := lift_down el ex ey f1.1 f1.2 huv (by omega)
    rw [swap_back] at this
    exact this
end
end L2

set_option Elab.async false
set_option linter.all false
set_option maxRecDepth 100000
set_option maxHeartbeats 4000000
namespace L2
open PySem PySem.Spec PyProof.Rows
/-- a word as data -/
def toI (ks : List Nat) : List Int := ks.map fun (k : Nat) => (k : Int)
def wdD (ks : List Nat) : PyData := lstD (toI ks)
theorem toI_inj {a b : List Nat} (h : toI a = toI b) : a = b := by
  have : (toI a).map Int.toNat = (toI b).map Int.toNat := by rw [h]
  unfold toI at this
  rw [List.map_map, List.map_map] at this
  have e : (Int.toNat ∘ fun (k : Nat) => (k : Int)) = id := funext fun k => by simp
  rw [e, List.map_id, List.map_id] at this
  exact this
theorem natsV_toI (ks : List Nat) : natsV ks = intsV (toI ks) := nats_ints ks
theorem dp_wd {K : PySem.W.Frag} {H : Hp} {a : Addr} {ks : List Nat} (h : SqL K H a (natsV ks)) : Dp K H (.ref a) (wdD ks) := .lst (by rw [← natsV_toI]; exact h) (dp_ints K H _)
end L2
namespace L2
open PySem PySem.Spec PyProof.Rows
theorem natsV_takeW (a : List Nat) (k : Nat) : (natsV a).take k = natsV (a.take k) := by unfold natsV; rw [List.map_take]
theorem natsV_dropW (a : List Nat) (k : Nat) : (natsV a).drop k = natsV (a.drop k) := by unfold natsV; rw [List.map_drop]
theorem cut_fromZ {xs : List V} {z : Int} (k : Nat) (hz : z = (k : Int)) (h : k ≤ xs.length) : cutV xs (some z) none = xs.drop k := by subst hz; exact cut_from h
/-- new lists of words, one for each -/
structure Wds (H H2 : Hp) (f : Addr) (ps : List Addr) (ws : List (List Nat)) : Prop where
  len : ps.length = ws.length
  nd : ps.Nodup
  at' : ∀ (j : Nat) (p : Addr) (w : List Nat), ps[j]? = some p → ws[j]? = some w → H p = none ∧ p ≠ f ∧ H2 p = some (.lst (natsV w))
theorem Wds.nil {H H2 : Hp} {f : Addr} : Wds H H2 f [] [] := ⟨rfl, List.nodup_nil, fun j p w h => by cases h⟩
theorem Wds.mono {H H2 H3 : Hp} {f : Addr} {ps : List Addr} {ws : List (List Nat)} (h : Wds H H2 f ps ws) (k : ∀ p o, p ≠ f → H2 p = some o → H3 p = some o) : Wds H H3 f ps ws :=
  ⟨h.len, h.nd, fun j p w a b => let ⟨x, y, z⟩ := h.at' j p w a b; ⟨x, y, k _ _ y z⟩⟩
theorem Wds.alive {H H2 : Hp} {f : Addr} {ps : List Addr} {ws : List (List Nat)} (h : Wds H H2 f ps ws) {p : Addr} (hp : p ∈ ps) : H p = none ∧ p ≠ f ∧ ∃ w ∈ ws, H2 p = some (.lst (natsV w)) := by
  obtain ⟨j, hj⟩ := List.mem_iff_getElem?.mp hp
  have hl : j < ws.length := by rw [← h.len]; exact (List.getElem?_eq_some_iff.mp hj).1
  obtain ⟨x, y, z⟩ := h.at' j p _ hj (List.getElem?_eq_getElem hl)
  exact ⟨x, y, _, List.getElem_mem hl, z⟩
theorem Wds.snoc {H H2 H3 : Hp} {f p : Addr} {ps : List Addr} {ws : List (List Nat)} {w : List Nat} (h : Wds H H2 f ps ws) (k : ∀ q o, q ≠ f → H2 q = some o → H3 q = some o) (h0 : H p = none) (h2 : H2 p = none) (hf : p ≠ f) (h3 : H3 p = some (.lst (natsV w))) : Wds H H3 f (ps ++ [p]) (ws ++ [w]) := by
  refine ⟨by simp [h.len], List.nodup_append.mpr ⟨h.nd, by simp, fun a ha b hb e => ?_⟩, fun j q v a b => ?_⟩
  · rw [List.mem_singleton] at hb
    subst hb e
    obtain ⟨_, _, w, _, z⟩ := h.alive ha
    rw [h2] at z; cases z
  · by_cases hj : j < ps.length
    · rw [List.getElem?_append_left hj] at a
      rw [List.getElem?_append_left (by rw [← h.len]; exact hj)] at b
      obtain ⟨x, y, z⟩ := h.at' j q v a b
      exact ⟨x, y, k _ _ y z⟩
    · have hl : j = ps.length := by
        have := (List.getElem?_eq_some_iff.mp a).1
        rw [List.length_append] at this; simp at this; omega
      subst hl
      rw [List.getElem?_append_right (Nat.le_refl _), Nat.sub_self] at a
      rw [List.getElem?_append_right (by rw [h.len]; exact Nat.le_refl _), h.len, Nat.sub_self] at b
      cases a; cases b
      exact ⟨h0, hf, h3⟩
theorem Wds.dp {K : PySem.W.Frag} {H H2 : Hp} {f : Addr} : ∀ {ps : List Addr} {ws : List (List Nat)}, Wds H H2 f ps ws → DpAll K H2 (ps.map V.ref) (ws.map wdD)
  | [], [], _ => .nil
  | [], _ :: _, h => by have := h.len; simp at this
  | _ :: _, [], h => by have := h.len; simp at this
  | p :: ps, w :: ws, h => by
    refine .cons (dp_wd (SqL.of (h.at' 0 p w rfl rfl).2.2)) (Wds.dp ⟨by have := h.len; simpa using this, (List.nodup_cons.mp h.nd).2, fun j q v a b => h.at' (j + 1) q v a b⟩)
end L2

set_option Elab.async false
set_option linter.all false
set_option maxRecDepth 100000
set_option maxHeartbeats 4000000
namespace L2
open PySem PySem.Spec PyProof.Rows
def unV : V → Addr
  | .ref a => a
  | _ => 0
def unW (d : PyData) : List Nat := (fl d).map Int.toNat
theorem unW_wd (w : List Nat) : unW (wdD w) = w := by
  unfold unW wdD
  rw [fl_lst]
  unfold toI
  rw [List.map_map]
  have e : (Int.toNat ∘ fun (k : Nat) => (k : Int)) = id := funext fun k => by simp
  rw [e, List.map_id]
theorem zip_map2 {α β γ δ : Type} (f : α → γ) (g : β → δ) : ∀ (l : List α) (m : List β), (l.map f).zip (m.map g) = (l.zip m).map fun x => (f x.1, g x.2)
  | [], _ => by simp
  | _ :: _, [] => by simp
  | x :: l, y :: m => by rw [List.map_cons, List.map_cons, List.zip_cons_cons, List.zip_cons_cons, zip_map2 f g l m]; rfl
theorem Wds.sorted {H H1 : Hp} {f : Addr} {ps : List Addr} {ws : List (List Nat)} {rs : List V} {ds : List PyData} (wd : Wds H H1 f ps ws) (pm : (rs.zip ds).Perm ((ps.map V.ref).zip (ws.map wdD))) (hl : rs.length = ds.length) :
    ∃ (ps' : List Addr) (ws' : List (List Nat)), rs = ps'.map V.ref ∧ ds = ws'.map wdD ∧ ws'.Perm ws ∧ Wds H H1 f ps' ws' := by
  rw [zip_map2] at pm
  let g : V × PyData → Addr × List Nat := fun x => (unV x.1, unW x.2)
  let zs := (rs.zip ds).map g
  have pz : zs.Perm (ps.zip ws) := by
    have := pm.map g
    rw [List.map_map] at this
    have e : (g ∘ fun x : Addr × List Nat => (V.ref x.1, wdD x.2)) = id := funext fun x => by show (unV (.ref x.1), unW (wdD x.2)) = x; rw [unW_wd]; rfl
    rw [e, List.map_id] at this
    exact this
  have back : rs.zip ds = zs.map fun x => (V.ref x.1, wdD x.2) := by
    show _ = ((rs.zip ds).map g).map _
    rw [List.map_map]
    have : ∀ y ∈ rs.zip ds, ((fun x : Addr × List Nat => (V.ref x.1, wdD x.2)) ∘ g) y = y := fun y hy => by
      obtain ⟨x, _, rfl⟩ := List.mem_map.mp (pm.mem_iff.mp hy)
      show (V.ref (unV (.ref x.1)), wdD (unW (wdD x.2))) = _
      rw [unW_wd]; rfl
    exact ((List.map_congr_left this).trans (List.map_id _)).symm
  have hr : rs = (zs.map (·.1)).map V.ref := by
    have := congrArg (List.map Prod.fst) back
    rw [List.map_fst_zip (by omega), List.map_map] at this
    rw [List.map_map]; exact this
  have hd : ds = (zs.map (·.2)).map wdD := by
    have := congrArg (List.map Prod.snd) back
    rw [List.map_snd_zip (by omega), List.map_map] at this
    rw [List.map_map]; exact this
  have p1 : (zs.map (·.1)).Perm ps := by have := pz.map (·.1); rwa [List.map_fst_zip (by rw [wd.len]; exact Nat.le_refl _)] at this
  have p2 : (zs.map (·.2)).Perm ws := by have := pz.map (·.2); rwa [List.map_snd_zip (by rw [wd.len]; exact Nat.le_refl _)] at this
  refine ⟨_, _, hr, hd, p2, by simp, p1.nodup_iff.mpr wd.nd, fun j p w a b => ?_⟩
  rw [List.getElem?_map] at a b
  cases ez : zs[j]? with
  | none => rw [ez] at a; cases a
  | some z =>
    rw [ez] at a b
    cases a; cases b
    have hm : z ∈ ps.zip ws := pz.mem_iff.mp (List.mem_of_getElem? ez)
    obtain ⟨i, hi⟩ := List.mem_iff_getElem?.mp hm
    rw [List.getElem?_zip_eq_some] at hi
    exact wd.at' i z.1 z.2 hi.1 hi.2
end L2
namespace L2
open PySem PySem.Spec PyProof.Rows
theorem unI_toI (w : List Nat) : (toI w).map Int.toNat = w := by
  unfold toI
  rw [List.map_map]
  have e : (Int.toNat ∘ fun (k : Nat) => (k : Int)) = id := funext fun k => by simp
  rw [e, List.map_id]
def keyW (w : List Nat) : List Key := (toI w).map Sum.inl
theorem keyW_V (w : List Nat) : natsV w = (keyW w).map kV := by
  unfold keyW toI natsV
  rw [List.map_map, List.map_map]; rfl
theorem keyW_inj {a b : List Nat} (h : keyW a = keyW b) : a = b := by
  apply toI_inj
  unfold keyW at h
  exact (List.map_inj_right (fun x y e => Sum.inl.inj e)).mp h
end L2
namespace L2
open PySem PySem.Spec PyProof.Rows
end L2

set_option Elab.async false
set_option linter.all false
set_option maxRecDepth 100000
set_option maxHeartbeats 4000000
namespace L2
open PySem PySem.Spec PyProof.Rows
/-! polynomials: lists of powers and numbers -/
abbrev Pol := List (List Nat × Int)
/-- the number of a power in a list of terms -/
def cf : Pol → List Nat → Int
  | [], _ => 0
  | t :: r, ns => (if t.1 = ns then t.2 else 0) + cf r ns
theorem cf_app (a b : Pol) (ns : List Nat) : cf (a ++ b) ns = cf a ns + cf b ns := by
  induction a with
  | nil => simp [cf]
  | cons t r ih => simp only [List.cons_append, cf, ih]; omega
theorem cf_none {d : Pol} {ns : List Nat} (h : ns ∉ d.map (·.1)) : cf d ns = 0 := by
  induction d with
  | nil => rfl
  | cons t r ih =>
    simp only [List.map_cons, List.mem_cons, not_or] at h
    simp only [cf, ih h.2]
    rw [if_neg fun e => h.1 e.symm]; rfl
theorem cf_mem {d : Pol} (nd : (d.map (·.1)).Nodup) {t : List Nat × Int} (h : t ∈ d) : cf d t.1 = t.2 := by
  induction d with
  | nil => cases h
  | cons u r ih =>
    rw [List.map_cons, List.nodup_cons] at nd
    simp only [cf]
    rcases List.mem_cons.mp h with rfl | h
    · rw [if_pos rfl, cf_none nd.1]; omega
    · have : u.1 ≠ t.1 := fun e => nd.1 (e ▸ List.mem_map.mpr ⟨t, h, rfl⟩)
      rw [if_neg this, ih nd.2 h]; omega
theorem cf_perm {a b : Pol} (p : a.Perm b) (ns : List Nat) : cf a ns = cf b ns := by
  induction p with
  | nil => rfl
  | cons x _ ih => simp only [cf, ih]
  | swap x y l => simp only [cf]; omega
  | trans _ _ h1 h2 => exact h1.trans h2
theorem cf_filter (a : Pol) (ns : List Nat) : cf (a.filter fun t => decide (t.2 ≠ 0)) ns = cf a ns := by
  induction a with
  | nil => rfl
  | cons t r ih =>
    rw [List.filter_cons]
    by_cases h : t.2 = 0
    · rw [if_neg (by simp [h])]
      simp only [cf, ih, h]
      split <;> omega
    · rw [if_pos (by simp [h])]
      simp only [cf, ih]
def putN (d : Pol) (ns : List Nat) (c : Int) : Pol := if ns ∈ d.map (·.1) then d.map (fun t => if t.1 = ns then (t.1, c) else t) else d ++ [(ns, c)]
theorem putN_keys (d : Pol) (ns : List Nat) (c : Int) : (putN d ns c).map (·.1) = if ns ∈ d.map (·.1) then d.map (·.1) else d.map (·.1) ++ [ns] := by
  unfold putN
  split
  · rw [List.map_map]
    refine List.map_congr_left fun t _ => ?_
    show (if t.1 = ns then (t.1, c) else t).1 = t.1
    split <;> rfl
  · rw [List.map_append]; rfl
theorem putN_nodup {d : Pol} (nd : (d.map (·.1)).Nodup) (ns : List Nat) (c : Int) : ((putN d ns c).map (·.1)).Nodup := by
  rw [putN_keys]
  split
  · exact nd
  · rename_i h
    exact List.nodup_append.mpr ⟨nd, by simp, fun a ha b hb e => h (by rw [List.mem_singleton] at hb; rw [← hb, ← e]; exact ha)⟩
theorem cf_map_ne (c : Int) (ns ms : List Nat) (h : ms ≠ ns) (d : Pol) : cf (d.map fun t => if t.1 = ns then (t.1, c) else t) ms = cf d ms := by
  induction d with
  | nil => rfl
  | cons t r ih =>
    simp only [List.map_cons, cf, ih]
    by_cases e : t.1 = ns
    · rw [if_pos e]
      have : ¬ t.1 = ms := fun z => h (z.symm.trans e)
      simp only [this, if_false]
    · rw [if_neg e]
theorem cf_put {d : Pol} (nd : (d.map (·.1)).Nodup) (ns : List Nat) (c : Int) (ms : List Nat) : cf (putN d ns c) ms = if ms = ns then c else cf d ms := by
  unfold putN
  by_cases h : ns ∈ d.map (·.1)
  · rw [if_pos h]
    by_cases e : ms = ns
    · subst e
      rw [if_pos rfl]
      obtain ⟨t, ht, et⟩ := List.mem_map.mp h
      have nd' : ((d.map fun t => if t.1 = ms then (t.1, c) else t).map (·.1)).Nodup := by
        have := putN_nodup nd ms c
        unfold putN at this
        rwa [if_pos h] at this
      have hm : (ms, c) ∈ d.map fun t => if t.1 = ms then (t.1, c) else t := List.mem_map.mpr ⟨t, ht, by rw [if_pos et, et]⟩
      exact cf_mem nd' hm
    · rw [if_neg e]; exact cf_map_ne c ns ms e d
  · rw [if_neg h, cf_app]
    simp only [cf]
    by_cases e : ms = ns
    · subst e; rw [if_pos rfl, if_pos rfl, cf_none h]; omega
    · rw [if_neg e, if_neg fun z => e z.symm]; omega
/-- a polynomial as it is told: each powers once, no noughts, greater powers first -/
structure Can (m : Nat) (cs : Pol) : Prop where
  ok : ∀ t ∈ cs, t.1.length = m ∧ t.2 ≠ 0
  nd : (cs.map (·.1)).Nodup
  fall : cs.Pairwise fun a b => lexI (toI a.1) (toI b.1) = false
theorem nodup_perm {α : Type} [DecidableEq α] {a b : List α} (ha : a.Nodup) (hb : b.Nodup) (h : ∀ x, x ∈ a ↔ x ∈ b) : a.Perm b := by
  induction a generalizing b with
  | nil =>
    cases b with
    | nil => exact .refl _
    | cons y r => exact absurd ((h y).mpr (by simp)) (by simp)
  | cons x r ih =>
    rw [List.nodup_cons] at ha
    have hx : x ∈ b := (h x).mp (by simp)
    have hbp : b.Perm (x :: b.erase x) := List.perm_cons_erase hx
    refine (List.Perm.cons x (ih ha.2 (hb.erase x) fun y => ?_)).trans hbp.symm
    rw [List.Nodup.mem_erase_iff hb]
    constructor
    · intro hy
      exact ⟨fun e => ha.1 (e ▸ hy), (h y).mp (by simp [hy])⟩
    · rintro ⟨hne, hy⟩
      rcases List.mem_cons.mp ((h y).mpr hy) with e | e
      · exact absurd e hne
      · exact e
theorem can_key {m : Nat} {cs : Pol} (h : Can m cs) (ns : List Nat) : ns ∈ cs.map (·.1) ↔ cf cs ns ≠ 0 := by
  constructor
  · intro hn
    obtain ⟨t, ht, rfl⟩ := List.mem_map.mp hn
    rw [cf_mem h.nd ht]; exact (h.ok t ht).2
  · intro hc
    by_cases hn : ns ∈ cs.map (·.1)
    · exact hn
    · exact absurd (cf_none hn) hc
theorem keys_eq {cs : Pol} (nd : (cs.map (·.1)).Nodup) : cs = (cs.map (·.1)).map fun ns => (ns, cf cs ns) := by
  rw [List.map_map]
  refine ((List.map_congr_left fun t ht => ?_).trans (List.map_id _)).symm
  show (t.1, cf cs t.1) = t
  rw [cf_mem nd ht]
/-- a polynomial is told in one way -/
theorem can_uniq {m : Nat} {a b : Pol} (ha : Can m a) (hb : Can m b) (h : ∀ ns, cf a ns = cf b ns) : a = b := by
  have pk : (a.map (·.1)).Perm (b.map (·.1)) := nodup_perm ha.nd hb.nd fun ns => by rw [can_key ha, can_key hb, h ns]
  have sa : ((a.map (·.1)).map toI).reverse.Pairwise fun x y => lexI y x = false := by
    rw [List.pairwise_reverse, List.pairwise_map, List.pairwise_map]; exact ha.fall
  have sb : ((b.map (·.1)).map toI).reverse.Pairwise fun x y => lexI y x = false := by
    rw [List.pairwise_reverse, List.pairwise_map, List.pairwise_map]; exact hb.fall
  have e := lex_uniq (((List.reverse_perm _).trans (pk.map toI)).trans (List.reverse_perm _).symm) sa sb
  have e2 : (a.map (·.1)).map toI = (b.map (·.1)).map toI := List.reverse_inj.mp e
  have e3 : a.map (·.1) = b.map (·.1) := by
    have : ((a.map (·.1)).map toI).map (fun ns => ns.map Int.toNat) = ((b.map (·.1)).map toI).map (fun ns => ns.map Int.toNat) := by rw [e2]
    have un : ∀ l : List (List Nat), (l.map toI).map (fun ns => ns.map Int.toNat) = l := fun l => by
      rw [List.map_map]
      exact (List.map_congr_left fun w _ => unI_toI w).trans (List.map_id _)
    rwa [un, un] at this
  rw [keys_eq ha.nd, keys_eq hb.nd, e3]
  exact List.map_congr_left fun ns _ => by rw [h ns]
/-! terms in the heap -/
def termN (t : List Nat × Int) : PyData := termD (toI t.1, t.2)
def TmAt (H : Hp) (v : V) (t : List Nat × Int) : Prop := ∃ p b, v = .ref p ∧ H p = some (.tup [.ref b, .int t.2]) ∧ H b = some (.tup (natsV t.1))
def Tms (H : Hp) : List V → Pol → Prop
  | [], [] => True
  | v :: vs, t :: ts => TmAt H v t ∧ Tms H vs ts
  | _, _ => False
theorem TmAt.same {H H' : Hp} {v : V} {t : List Nat × Int} (h : TmAt H v t) (s : Same H H') : TmAt H' v t := by
  obtain ⟨p, b, e, h1, h2⟩ := h
  exact ⟨p, b, e, s _ _ h1, s _ _ h2⟩
theorem Tms.same {H H' : Hp} (s : Same H H') : ∀ {vs : List V} {ts : Pol}, Tms H vs ts → Tms H' vs ts
  | [], [], _ => trivial
  | [], _ :: _, h => h.elim
  | _ :: _, [], h => h.elim
  | _ :: _, _ :: _, h => ⟨h.1.same s, Tms.same s h.2⟩
theorem Tms.length {H : Hp} : ∀ {vs : List V} {ts : Pol}, Tms H vs ts → vs.length = ts.length
  | [], [], _ => rfl
  | [], _ :: _, h => h.elim
  | _ :: _, [], h => h.elim
  | _ :: _, _ :: _, h => by rw [List.length_cons, List.length_cons, Tms.length h.2]
theorem Tms.get {H : Hp} : ∀ {vs : List V} {ts : Pol} {i : Nat} {v : V}, Tms H vs ts → vs[i]? = some v → ∃ t, ts[i]? = some t ∧ TmAt H v t
  | [], [], i, v, _, e => by cases e
  | [], _ :: _, _, _, h, _ => h.elim
  | _ :: _, [], _, _, h, _ => h.elim
  | _ :: _, t :: _, 0, v, h, e => by cases e; exact ⟨t, rfl, h.1⟩
  | _ :: _, _ :: _, i + 1, v, h, e => Tms.get (i := i) h.2 e
theorem Tms.snoc {H : Hp} {v : V} {t : List Nat × Int} (h : TmAt H v t) : ∀ {vs : List V} {ts : Pol}, Tms H vs ts → Tms H (vs ++ [v]) (ts ++ [t])
  | [], [], _ => ⟨h, trivial⟩
  | [], _ :: _, x => x.elim
  | _ :: _, [], x => x.elim
  | _ :: _, _ :: _, x => ⟨x.1, Tms.snoc h x.2⟩
theorem TmAt.dp {K : PySem.W.Frag} {H : Hp} {v : V} {t : List Nat × Int} (h : TmAt H v t) : Dp K H v (termN t) := by
  obtain ⟨p, b, rfl, h1, h2⟩ := h
  exact .tup (SqT.of h1) (.cons (.tup (SqT.of (h2.trans (by rw [natsV_toI]))) (dp_ints K H _)) (.cons (.int _) .nil))
theorem Tms.dp {K : PySem.W.Frag} {H : Hp} : ∀ {vs : List V} {ts : Pol}, Tms H vs ts → DpAll K H vs (ts.map termN)
  | [], [], _ => .nil
  | [], _ :: _, x => x.elim
  | _ :: _, [], x => x.elim
  | _ :: _, _ :: _, x => .cons x.1.dp (Tms.dp x.2)
theorem termN_srt {ts : Pol} {m : Nat} (h : ∀ t ∈ ts, t.1.length = m) : Srt (ts.map termN) fl := by
  have : ts.map termN = (ts.map fun t => (toI t.1, t.2)).map termD := by rw [List.map_map]; rfl
  rw [this]
  refine srt_terms (m := m) fun t ht => ?_
  obtain ⟨u, hu, rfl⟩ := List.mem_map.mp ht
  show (toI u.1).length = m
  unfold toI
  rw [List.length_map]; exact h u hu
theorem fl_termN (t : List Nat × Int) : fl (termN t) = toI t.1 ++ [t.2] := fl_term _
theorem Tms.mem {H : Hp} : ∀ {vs : List V} {ts : Pol} {x : V × PyData}, Tms H vs ts → x ∈ vs.zip (ts.map termN) → ∃ t ∈ ts, x.2 = termN t ∧ TmAt H x.1 t
  | [], [], x, _, h => by cases h
  | [], _ :: _, _, h, _ => h.elim
  | _ :: _, [], _, h, _ => h.elim
  | _ :: _, t :: _, x, h, hm => by
    rw [List.map_cons, List.zip_cons_cons] at hm
    rcases List.mem_cons.mp hm with rfl | hm
    · exact ⟨t, by simp, rfl, h.1⟩
    · obtain ⟨u, hu, a, b⟩ := Tms.mem h.2 hm
      exact ⟨u, by simp [hu], a, b⟩
/-- the terms behind a sort -/
theorem Tms.sorted {H : Hp} {vs rs : List V} {ts : Pol} {ds : List PyData} (h : Tms H vs ts) (pm : (rs.zip ds).Perm (vs.zip (ts.map termN))) (hl : rs.length = ds.length) : ∃ us : Pol, ds = us.map termN ∧ us.Perm ts ∧ Tms H rs us := by
  have key : ∀ {rs : List V} {ds : List PyData}, rs.length = ds.length → (∀ x ∈ rs.zip ds, ∃ t ∈ ts, x.2 = termN t ∧ TmAt H x.1 t) → ∃ us : Pol, ds = us.map termN ∧ Tms H rs us := by
    intro rs
    induction rs with
    | nil =>
      intro ds hl _
      cases ds with
      | nil => exact ⟨[], rfl, trivial⟩
      | cons _ _ => simp at hl
    | cons r rs ih =>
      intro ds hl hx
      cases ds with
      | nil => simp at hl
      | cons d ds =>
        obtain ⟨us, e, tm⟩ := ih (by simpa using hl) fun x hm => hx x (by rw [List.zip_cons_cons]; simp [hm])
        obtain ⟨t, _, et, ht⟩ := hx (r, d) (by rw [List.zip_cons_cons]; simp)
        have et : d = termN t := et
        exact ⟨t :: us, by rw [List.map_cons, ← e, et], ht, tm⟩
  obtain ⟨us, e, tm⟩ := key hl fun x hx => h.mem (pm.mem_iff.mp hx)
  refine ⟨us, e, ?_, tm⟩
  have p2 : ds.Perm (ts.map termN) := by
    have := pm.map Prod.snd
    rwa [List.map_snd_zip (by omega), List.map_snd_zip (by rw [List.length_map, h.length]; exact Nat.le_refl _)] at this
  rw [e] at p2
  have un : ∀ l : Pol, (l.map termN).map (fun d => ((((fl d).dropLast).map Int.toNat, (fl d).getLastD 0) : List Nat × Int)) = l := fun l => by
    rw [List.map_map]
    refine (List.map_congr_left fun t _ => ?_).trans (List.map_id _)
    show ((((fl (termN t)).dropLast).map Int.toNat, (fl (termN t)).getLastD 0) : List Nat × Int) = t
    rw [fl_termN, List.dropLast_concat, unI_toI]
    simp
  have := p2.map fun d => ((((fl d).dropLast).map Int.toNat, (fl d).getLastD 0) : List Nat × Int)
  rwa [un, un] at this
/-- the dict of a list of terms -/
def dictV (d : Pol) : List (List Key × V) := d.map fun t => (keyW t.1, V.int t.2)
theorem dict_any (d : Pol) (ns : List Nat) : ((dictV d).any fun kv => decide (kv.1 = keyW ns)) = decide (ns ∈ d.map (·.1)) := by
  unfold dictV
  rw [List.any_map]
  by_cases h : ns ∈ d.map (·.1)
  · rw [decide_eq_true h, List.any_eq_true]
    obtain ⟨t, ht, e⟩ := List.mem_map.mp h
    exact ⟨t, ht, decide_eq_true (by show keyW t.1 = keyW ns; rw [e])⟩
  · rw [decide_eq_false h, List.any_eq_false]
    intro t ht z
    exact h (List.mem_map.mpr ⟨t, ht, keyW_inj (of_decide_eq_true z)⟩)
theorem dict_put (d : Pol) (ns : List Nat) (c : Int) : putK (dictV d) (keyW ns) (.int c) = dictV (putN d ns c) := by
  unfold putK putN
  rw [dict_any]
  by_cases h : ns ∈ d.map (·.1)
  · rw [if_pos (by simpa using h), if_pos h]
    unfold dictV
    rw [List.map_map, List.map_map]
    refine List.map_congr_left fun t _ => ?_
    show (if keyW t.1 = keyW ns then (keyW t.1, V.int c) else (keyW t.1, V.int t.2)) = (keyW (if t.1 = ns then (t.1, c) else t).1, V.int (if t.1 = ns then (t.1, c) else t).2)
    by_cases e : t.1 = ns
    · rw [if_pos (by rw [e]), if_pos e]
    · rw [if_neg (fun z => e (keyW_inj z)), if_neg e]
  · rw [if_neg (by simpa using h), if_neg h]
    unfold dictV
    rw [List.map_append]; rfl
theorem dict_val {d : Pol} (nd : (d.map (·.1)).Nodup) (ns : List Nat) : valV (dictV d) (keyW ns) = if ns ∈ d.map (·.1) then some (V.int (cf d ns)) else none := by
  induction d with
  | nil => rfl
  | cons t r ih =>
    rw [List.map_cons, List.nodup_cons] at nd
    show valV ((keyW t.1, V.int t.2) :: dictV r) (keyW ns) = _
    by_cases e : t.1 = ns
    · rw [valV_pos (by show keyW t.1 = keyW ns; rw [e]), if_pos (by simp [e])]
      simp only [cf]
      rw [if_pos e, cf_none (by rw [← e]; exact nd.1)]
      show some (V.int t.2) = some (V.int (t.2 + 0))
      rw [Int.add_zero]
    · rw [valV_neg (fun z => e (keyW_inj z)), ih nd.2]
      simp only [cf, List.map_cons, List.mem_cons]
      rw [if_neg e, Int.zero_add]
      by_cases h : ns ∈ r.map (·.1)
      · rw [if_pos h, if_pos (.inr h)]
      · rw [if_neg h, if_neg (by rintro (z | z); exact e z.symm; exact h z)]
theorem dict_get0 {d : Pol} (nd : (d.map (·.1)).Nodup) (ns : List Nat) : (valV (dictV d) (keyW ns)).getD (V.int 0) = V.int (cf d ns) := by
  rw [dict_val nd]
  split
  · rfl
  · rename_i h
    rw [cf_none h]; rfl
theorem dict_len (d : Pol) : (dictV d).length = d.length := by unfold dictV; rw [List.length_map]
theorem putN_len (d : Pol) (ns : List Nat) (c : Int) : (putN d ns c).length ≤ d.length + 1 := by
  unfold putN
  split
  · rw [List.length_map]; omega
  · rw [List.length_append]; exact Nat.le_refl _
theorem take_snoc {α : Type} {l : List α} {i : Nat} {x : α} (h : l[i]? = some x) : l.take (i + 1) = l.take i ++ [x] := by
  rw [List.take_add_one, h]; rfl
end L2

set_option Elab.async false
set_option linter.all false
set_option maxRecDepth 100000
set_option maxHeartbeats 4000000
namespace L2
open PySem PySem.Spec PyProof.Rows
/-- tuples stay -/
def KeepT (H H' : Hp) : Prop := ∀ p xs, H p = some (.tup xs) → H' p = some (.tup xs)
theorem KeepT.refl (H : Hp) : KeepT H H := fun _ _ e => e
theorem KeepT.trans {H H' H2 : Hp} (a : KeepT H H') (b : KeepT H' H2) : KeepT H H2 := fun p xs e => b p xs (a p xs e)
theorem Same.kt {H H' : Hp} (s : Same H H') : KeepT H H' := fun p xs e => s p _ e
theorem kt_upd {H : Hp} {d : Addr} {u o : HO} (h : H d = some u) (hu : ∀ xs, u ≠ .tup xs) : KeepT H (upd H d o) := fun p xs e => by
  rw [upd_ne (fun z => hu xs (by rw [z, h] at e; exact Option.some.inj e))]; exact e
theorem kt_new {H : Hp} {d : Addr} {o : HO} (h : H d = none) : KeepT H (upd H d o) := fun p xs e => by
  rw [upd_ne (fun z => by rw [z, h] at e; cases e)]; exact e
theorem TmAt.keep {H H' : Hp} {v : V} {t : List Nat × Int} (h : TmAt H v t) (s : KeepT H H') : TmAt H' v t := by
  obtain ⟨p, b, e, h1, h2⟩ := h
  exact ⟨p, b, e, s _ _ h1, s _ _ h2⟩
theorem Tms.keep {H H' : Hp} (s : KeepT H H') : ∀ {vs : List V} {ts : Pol}, Tms H vs ts → Tms H' vs ts
  | [], [], _ => trivial
  | [], _ :: _, h => h.elim
  | _ :: _, [], h => h.elim
  | _ :: _, _ :: _, h => ⟨h.1.keep s, Tms.keep s h.2⟩
/-- all but p stays -/
def SameB (p : Addr) (H H' : Hp) : Prop := ∀ b o, b ≠ p → H b = some o → H' b = some o
theorem SameB.refl (p : Addr) (H : Hp) : SameB p H H := fun _ _ _ e => e
theorem SameB.trans {p : Addr} {H H' H2 : Hp} (a : SameB p H H') (b : SameB p H' H2) : SameB p H H2 := fun c o n e => b c o n (a c o n e)
theorem SameB.same {p : Addr} {H H' H2 : Hp} (a : SameB p H H') (b : Same H' H2) : SameB p H H2 := fun c o n e => b c o (a c o n e)
theorem sameB_upd {p : Addr} {H : Hp} {o : HO} : SameB p H (upd H p o) := fun b o' n e => by rw [upd_ne n]; exact e
theorem SameB.new {p f : Addr} {H H' : Hp} {o : HO} (a : SameB p H H') (h : H f = none) : SameB p H (upd H' f o) := fun b o' n e => by
  rw [upd_ne (fun z => by rw [z, h] at e; cases e)]; exact a b o' n e
theorem SameB.free {p f : Addr} {H H' : Hp} {o : HO} (a : SameB p H H') (hp : H' p = some o) (h : H' f = none) : H f = none := by
  cases e : H f with
  | none => rfl
  | some u =>
    have : f ≠ p := fun z => by rw [z, hp] at h; cases h
    rw [a f u this e] at h; cases h
theorem SameB.kt {p : Addr} {H H' : Hp} {ys : List V} (a : SameB p H H') (hp : H p = some (.lst ys)) : KeepT H H' := fun b xs e => a b _ (fun z => by rw [z, hp] at e; cases e) e
theorem small5 {n : Nat} (h : n ≤ 100000) : n < sizeLine := Nat.lt_of_le_of_lt h (by decide)
section
variable {K : PySem.W.Frag} {g : TG} {tt : TT} {te : TE} {vs : List Nat} {σ : St} {H1 : Hp} {D : Addr} {Qd : Hp → Prop}
theorem range_filter {α : Type} (d : List α) (z : α) (q : α → Bool) : ((List.range d.length).filter fun i => q (d.getD i z)).map (fun i => d.getD i z) = d.filter q := by
  have e : (List.range d.length).map (fun i => d.getD i z) = d := by
    refine List.ext_getElem (by simp) fun i h1 h2 => ?_
    simp [h2]
  have := List.filter_map (p := q) (f := fun i => d.getD i z) (l := List.range d.length)
  rw [e] at this
  exact this.symm
theorem dictV_get {d : Pol} {i : Nat} {k : List Key} {v : V} (h : (dictV d)[i]? = some (k, v)) : ∃ t, d[i]? = some t ∧ k = keyW t.1 ∧ v = .int t.2 := by
  unfold dictV at h
  rw [List.getElem?_map] at h
  cases e : d[i]? with
  | none => rw [e] at h; cases h
  | some t =>
    rw [e] at h
    cases h
    exact ⟨t, rfl, rfl, rfl⟩
/-- over a list that stands still, each item a term -/
theorem lc_listM {a : Addr} {zs : List V} (p : Nat → Bool) (f : Nat → List Nat × Int) (hD : H1 D = none) (ha : SqL K H1 a zs) (hz : zs.length ≤ 100000)
    (hs : ∀ i z H (Kk : VK) (Nx : Hp → Prop), zs[i]? = some z → Same H1 H → H D ≠ none → (p i = true → ∀ y H', Same H H' → TmAt H' y (f i) → Kk y H') → (p i = false → ∀ H', Same H H' → Nx H') →
      g z (wipe σ vs) H fun σ2 H2 => wipe σ2 vs = wipe σ vs ∧ tt σ2 H2 fun b H3 => if b = true then te σ2 H3 Kk else Nx H3)
    (hd : ∀ H xs, Same H1 H → H D = some (.lst xs) → Tms H xs (((List.range zs.length).filter p).map f) → Qd H) :
    ∃ W : Nat → Nat → Hp → Prop, (∃ m, W 0 m (upd H1 D (.lst []))) ∧ ∀ i m H, W i m H →
      ((Itl K a).stop i H ∧ Qd H) ∨ ((Itl K a).go i H ∧ ∃ Nx : Hp → Prop, (∀ H', Nx H' → ∃ m', m' < m ∧ W (i + 1) m' H') ∧ ∀ x H', (Itl K a).yld i H x H' → g x (wipe σ vs) H' fun σ2 H2 => wipe σ2 vs = wipe σ vs ∧ tt σ2 H2 fun b H3 =>
        if b = true then te σ2 H3 fun y H4 => ∃ acc, H4 D = some (.lst acc) ∧ acc.length < sizeLine ∧ Nx (upd H4 D (.lst (acc ++ [y]))) else Nx H3) := by
  refine lc_list (xs := zs) (fun i H => i ≤ zs.length ∧ Same H1 H ∧ ∃ xs, H D = some (.lst xs) ∧ xs.length ≤ i ∧ Tms H xs (((List.range i).filter p).map f)) ⟨Nat.zero_le _, same_new hD, [], upd_same, Nat.le_refl _, trivial⟩ (fun i H _ h => h.2.1.seqL ha) ?_ ?_
  · rintro i z H hi ⟨hin, s1, xs, hx, hl, dp⟩
    have hi' : i < zs.length := (List.getElem?_eq_some_iff.mp hi).1
    refine hs i z H _ _ hi s1 (by rw [hx]; simp) (fun hp y H' s' dy => ⟨xs, s' _ _ hx, small5 (by omega), hi', same_upd (s1.trans s') hD, xs ++ [y], upd_same, by rw [List.length_append]; show xs.length + 1 ≤ i + 1; omega, ?_⟩) fun hp H' s' => ⟨hi', s1.trans s', xs, s' _ _ hx, by omega, ?_⟩
    · rw [filter_map_snoc, if_pos hp]
      exact Tms.snoc (dy.keep (kt_upd (s' _ _ hx) (fun _ => nofun))) (Tms.keep (s'.kt.trans (kt_upd (s' _ _ hx) (fun _ => nofun))) dp)
    · rw [filter_map_snoc, if_neg (by rw [hp]; decide), List.append_nil]
      exact Tms.keep s'.kt dp
  · rintro H ⟨_, s1, xs, hx, _, dp⟩
    exact hd H xs s1 hx dp
end
/-- adding up: the terms put into a dict, one behind another -/
def addUp : Pol → Pol → Pol
  | d, [] => d
  | d, t :: r => addUp (putN d t.1 (cf d t.1 + t.2)) r
theorem addUp_snoc (t : List Nat × Int) : ∀ (l d : Pol), addUp d (l ++ [t]) = putN (addUp d l) t.1 (cf (addUp d l) t.1 + t.2)
  | [], d => rfl
  | u :: r, d => addUp_snoc t r (putN d u.1 (cf d u.1 + u.2))
theorem addUp_nodup : ∀ (l d : Pol), (d.map (·.1)).Nodup → ((addUp d l).map (·.1)).Nodup
  | [], d, h => h
  | u :: r, d, h => addUp_nodup r _ (putN_nodup h _ _)
theorem addUp_len : ∀ (l d : Pol), (addUp d l).length ≤ d.length + l.length
  | [], d => Nat.le_refl _
  | u :: r, d => by
    have h1 := addUp_len r (putN d u.1 (cf d u.1 + u.2))
    have h2 := putN_len d u.1 (cf d u.1 + u.2)
    show (addUp (putN d u.1 (cf d u.1 + u.2)) r).length ≤ d.length + (r.length + 1)
    omega
theorem addUp_cf (ns : List Nat) : ∀ (l d : Pol), (d.map (·.1)).Nodup → cf (addUp d l) ns = cf d ns + cf l ns
  | [], d, _ => by simp [addUp, cf]
  | u :: r, d, h => by
    show cf (addUp (putN d u.1 (cf d u.1 + u.2)) r) ns = _
    rw [addUp_cf ns r _ (putN_nodup h _ _), cf_put h]
    simp only [cf]
    by_cases e : ns = u.1
    · subst e; rw [if_pos rfl, if_pos rfl]; omega
    · rw [if_neg e, if_neg fun z => e z.symm]; omega
theorem addUp_keys {m : Nat} : ∀ (l d : Pol), (∀ t ∈ l, t.1.length = m) → (∀ ns ∈ d.map (·.1), ns.length = m) → ∀ ns ∈ (addUp d l).map (·.1), ns.length = m
  | [], d, _, h => h
  | u :: r, d, hl, h => addUp_keys r _ (fun t ht => hl t (by simp [ht])) fun ns hn => by
    rw [putN_keys] at hn
    split at hn
    · exact h ns hn
    · rcases List.mem_append.mp hn with z | z
      · exact h ns z
      · rw [List.mem_singleton] at z; rw [z]; exact hl u (by simp)
theorem toI_len (w : List Nat) : (toI w).length = w.length := by unfold toI; rw [List.length_map]
/-- what a falling sort of terms with unlike powers of one length is -/
theorem can_of {m : Nat} {us d : Pol} (p : us.Perm d) (nd : (d.map (·.1)).Nodup) (ok : ∀ t ∈ d, t.1.length = m ∧ t.2 ≠ 0) (h : us.Pairwise fun a b => lexI (fl (termN a)) (fl (termN b)) = false) : Can m us where
  ok := fun t ht => ok t (p.mem_iff.mp ht)
  nd := ((p.map (·.1)).nodup_iff).mpr nd
  fall := by
    have nd' : (us.map (·.1)).Nodup := ((p.map (·.1)).nodup_iff).mpr nd
    have all : ∀ t ∈ us, t.1.length = m := fun t ht => (ok t (p.mem_iff.mp ht)).1
    clear p nd ok
    induction us with
    | nil => exact .nil
    | cons a r ih =>
      rw [List.map_cons, List.nodup_cons] at nd'
      rw [List.pairwise_cons] at h
      refine List.Pairwise.cons (fun b hb => ?_) (ih h.2 nd'.2 fun t ht => all t (by simp [ht]))
      have := h.1 b hb
      rw [fl_termN, fl_termN, lexI_app (by rw [toI_len, toI_len, all a (by simp), all b (by simp [hb])])] at this
      rw [if_neg] at this
      · exact this
      · intro e
        exact nd'.1 (toI_inj e ▸ List.mem_map.mpr ⟨b, hb, rfl⟩)
theorem pair_term {us : Pol} (h : (us.map termN).Pairwise fun d e => (if true = true then lexI (fl d) (fl e) else lexI (fl e) (fl d)) = false) : us.Pairwise fun a b => lexI (fl (termN a)) (fl (termN b)) = false := by
  rw [List.pairwise_map] at h
  exact h
theorem filter_sub {q : List Nat × Int → Bool} {d : Pol} (nd : (d.map (·.1)).Nodup) : ((d.filter q).map (·.1)).Nodup := nd.sublist (List.Sublist.map _ List.filter_sublist)
/-- weights and numbers bounded -/
def Small (z B : Nat) (ts : Pol) : Prop := ∀ t ∈ ts, t.1.sum ≤ z ∧ t.2.natAbs ≤ B
theorem Small.snoc {z B : Nat} {ts : Pol} {t : List Nat × Int} (h : Small z B ts) (h1 : t.1.sum ≤ z) (h2 : t.2.natAbs ≤ B) : Small z B (ts ++ [t]) := fun u hu => by
  rcases List.mem_append.mp hu with hu | hu
  · exact h u hu
  · rw [List.mem_singleton] at hu; subst hu; exact ⟨h1, h2⟩
theorem Small.mono {z z' B B' : Nat} {ts : Pol} (h : Small z B ts) (hz : z ≤ z') (hB : B ≤ B') : Small z' B' ts := fun t ht => ⟨Nat.le_trans (h t ht).1 hz, Nat.le_trans (h t ht).2 hB⟩
theorem cf_le {z B : Nat} : ∀ {ts : Pol}, Small z B ts → ∀ ns, (cf ts ns).natAbs ≤ ts.length * B
  | [], _, ns => by simp [cf]
  | t :: r, h, ns => by
    have ih := cf_le (ts := r) (fun u hu => h u (by simp [hu])) ns
    have ht := (h t (by simp)).2
    have e : (t :: r).length * B = r.length * B + B := by rw [List.length_cons, Nat.succ_mul]
    rw [e]
    simp only [cf]
    split <;> omega
theorem nodup_le {α : Type} [DecidableEq α] : ∀ {a b : List α}, a.Nodup → (∀ x ∈ a, x ∈ b) → a.length ≤ b.length
  | [], b, _, _ => Nat.zero_le _
  | x :: r, b, h, hs => by
    rw [List.nodup_cons] at h
    have hx : x ∈ b := hs x (by simp)
    have := nodup_le (a := r) (b := b.erase x) h.2 fun y hy => (List.mem_erase_of_ne (fun e : y = x => h.1 (by rw [← e]; exact hy))).mpr (hs y (by simp [hy]))
    rw [List.length_erase_of_mem hx] at this
    have : 0 < b.length := List.length_pos_of_mem hx
    rw [List.length_cons]; omega
theorem cf_keys {ts : Pol} {ns : List Nat} (h : cf ts ns ≠ 0) : ns ∈ ts.map (·.1) := by
  by_cases e : ns ∈ ts.map (·.1)
  · exact e
  · exact absurd (cf_none e) h
theorem Can.sub {m : Nat} {us ts : Pol} (h : Can m us) (hc : ∀ ns, cf us ns = cf ts ns) : ∀ ns ∈ us.map (·.1), ns ∈ ts.map (·.1) := fun ns hn => cf_keys (by rw [← hc]; exact (can_key h ns).mp hn)
theorem Can.len {m : Nat} {us ts : Pol} (h : Can m us) (hc : ∀ ns, cf us ns = cf ts ns) : us.length ≤ ts.length := by
  have := nodup_le h.nd (h.sub hc)
  rwa [List.length_map, List.length_map] at this
theorem Can.small {m z B : Nat} {us ts : Pol} (h : Can m us) (hc : ∀ ns, cf us ns = cf ts ns) (hs : Small z B ts) : Small z (ts.length * B) us := fun t ht => by
  obtain ⟨u, hu, e⟩ := List.mem_map.mp (h.sub hc t.1 (List.mem_map.mpr ⟨t, ht, rfl⟩))
  refine ⟨by rw [← e]; exact (hs u hu).1, ?_⟩
  rw [← cf_mem h.nd ht, hc]
  exact cf_le hs _
/-! two neighbouring unknowns exchanged -/
theorem swap_twiceG {α : Type} : ∀ (ns : List α) (k : Nat), swapAt (swapAt ns k) k = ns
  | [], 0 => rfl
  | [], k + 1 => rfl
  | [a], 0 => rfl
  | a :: b :: r, 0 => rfl
  | a :: r, k + 1 => by rw [swapAt_succ, swapAt_succ, swap_twiceG r k]
theorem natsV_swap (ns : List Nat) (k : Nat) : swapAt (natsV ns) k = natsV (swapAt ns k) := swapAt_map _ _ _
theorem range_map {α β : Type} (d : List α) (z : α) (f : α → β) : (List.range d.length).map (fun i => f (d.getD i z)) = d.map f := by
  refine List.ext_getElem (by simp) fun i h1 h2 => ?_
  have : i < d.length := by simpa using h2
  simp [this]
end L2

set_option Elab.async false
set_option linter.all false
set_option maxRecDepth 100000
set_option maxHeartbeats 4000000
namespace L2
open PySem PySem.Spec PyProof.Rows
/-! max(xs, default=d) of a list of ints -/
theorem args_maxD (a v : Value) : argsOk "max" ⟨[a], [(Str.ofString "default", v)]⟩ := by unfold argsOk; kernel_rfl
section
variable {prog : Program} {w : World} {A : Around} {R : Result → Shared → Prop} {I : Addr} {fp wr : List Addr} {n : Nat} {P : Nat → Value → Prop} {St : Nat → Heap → Prop}
/-- what the loop has found behind j items -/
def Best (bt : Nat → Nat → Bool) (P : Nat → Value → Prop) (j : Nat) (old : Array Value) : Prop := (j = 0 ∧ old = #[]) ∨ ∃ i vb, j = i + 1 ∧ old = #[vb, vb] ∧ P (argBest bt i) vb
theorem maxD_loop (W : Walks prog w A.in1 I fp wr n P St) (bt : Nat → Nat → Bool) (hcmp : CmpOf prog w A.in1 .Gt P bt) (S : Addr) (hSf : S ∉ fp) (dv : Value) :
    ∀ (k j : Nat) (s : Shared) (c : Nat) (old : Array Value), n - j = k → j ≤ n → St j s.heap → Best bt P j old →
    s.heap.get? S = some { cls := .type "list", dict := none, data := .seq old c, slots := #[] } →
    (n = 0 → ∀ h' tk, (∀ b o, b ∉ wr → b ≠ S → s.heap.get? b = some o → h'.get? b = some o) → R (.ok (.ret dv)) { s with heap := h', toks := tk }) →
    (0 < n → ∀ v h' tk, P (argBest bt (n - 1)) v → (∀ b o, b ∉ wr → b ≠ S → s.heap.get? b = some o → h'.get? b = some o) → R (.ok (.ret v)) { s with heap := h', toks := tk }) →
    codeAny (model prog w) A (.builtin "max.loop" ⟨[.ref I, .none, .ref S], [("default", dv)]⟩) R s := by
  have hSw : S ∉ wr := fun h => hSf (W.sub _ h)
  have hname : (toString "max" ++ toString ".loop" : String) = "max.loop" := by decide
  intro k
  induction k with
  | zero =>
    intro j s c old hk hj hst hb hS hR0 hR
    have hin : j = n := by omega
    refine codeAny_builtin F.entry_max_loop ?_
    rw [Around.under_plainId F.plain_max_loop _]
    show wpAny _ A.in1 (seqItems? (.ref S) >>= _) _ _ s
    refine wpAny_bind (wpAny_seqItems hS rfl ?_)
    show wpAny _ A.in1 (tryCatch (pyNext (.ref I)) _ >>= _) _ _ s
    refine wpAny_bind (wpAny_tryCatch (W.done s _ _ (hin ▸ hst) fun h' tk hk' => ?_))
    have hS' := hk' S _ hSw hS
    rcases hb with ⟨e0, rfl⟩ | ⟨i, vb, ei, rfl, hP⟩
    · refine wpAny_bind (wpAny_rule (wpAny_pure ?_))
      exact hR0 (by omega) h' tk fun b o hbw _ e => hk' b o hbw e
    · show wpAny _ A.in1 (updateSeq S (fun _ => #[]) >>= _) _ _ _
      refine wpAny_bind ?_
      refine wpAny_updateSeq hS' rfl (wpAny_bind (wpAny_letGo (wpAny_pure ?_)))
      refine hR (by omega) vb _ tk (by rw [show n - 1 = i by omega]; exact hP) fun b o hbw hbS e => (Heap.get?_update_other _ _ (Ne.symm hbS)).trans (hk' b o hbw e)
  | succ k ih =>
    intro j s c old hk hj hst hb hS hR0 hR
    have hlt : j < n := by omega
    refine codeAny_builtin F.entry_max_loop ?_
    rw [Around.under_plainId F.plain_max_loop _]
    show wpAny _ A.in1 (seqItems? (.ref S) >>= _) _ _ s
    refine wpAny_bind (wpAny_seqItems hS rfl ?_)
    show wpAny _ A.in1 (tryCatch (pyNext (.ref I)) _ >>= _) _ _ s
    refine wpAny_bind (wpAny_tryCatch (W.item j s _ _ hlt hst fun v h' tk hP hst' hk' => ?_))
    have hS' := hk' S _ hSw hS
    have put : ∀ (c' : Nat), Best bt P (j + 1) #[v, v] → codeAny (model prog w) A (.builtin "max.loop" ⟨[.ref I, .none, .ref S], [("default", dv)]⟩) R { s with heap := h'.update S (Obj.mapSeq (fun _ => #[v, v])), toks := tk } := fun c' hb' => by
      refine ih (j + 1) _ _ #[v, v] (by omega) hlt (W.frame _ _ _ hst' fun b hbf o e => ?_) hb' (Heap.get?_update_self _ hS' rfl) (fun h0 => absurd h0 (by omega)) fun h0 v' h'' tk'' hP' hk'' => ?_
      · exact (Heap.get?_update_other _ _ (fun h : S = b => hSf (by rw [h]; exact hbf))).trans e
      · exact hR h0 v' h'' tk'' hP' fun b o hbw hbS e => hk'' b o hbw hbS ((Heap.get?_update_other _ _ (Ne.symm hbS)).trans (hk' b o hbw e))
    rcases hb with ⟨e0, rfl⟩ | ⟨i, vb, ei, rfl, hPb⟩
    · subst e0
      show wpAny _ A.in1 (updateSeq S (fun _ => #[v, v]) >>= _) _ _ _
      refine wpAny_bind ?_
      refine wpAny_updateSeq hS' rfl ?_
      rw [hname]
      exact wpAny_pure ⟨plainId_quiet F.plain_max_loop _, put c (.inr ⟨0, v, rfl, rfl, hP⟩)⟩
    · subst ei
      show wpAny _ A.in1 (tryCatch (holding [v, v] (richCompare .Gt v vb >>= _)) _ >>= _) _ _ _
      refine wpAny_bind (wpAny_tryCatch (wpAny_holding (wpAny_bind (hcmp (i + 1) (argBest bt i) v vb _ _ _ hP hPb ?_))))
      refine wpAny_bind (wpAny_holding (wpAny_truthy_bool ?_))
      refine wpAny_bind (wpAny_letGo (wpAny_pure ?_))
      cases hb : bt (i + 1) (argBest bt i) with
      | true =>
        simp only [if_true]
        refine wpAny_bind ?_
        refine wpAny_updateSeq hS' rfl (wpAny_bind (wpAny_letGo ?_))
        rw [hname]
        exact wpAny_pure ⟨plainId_quiet F.plain_max_loop _, put c (.inr ⟨i + 1, v, rfl, rfl, by simp only [argBest, hb, if_true]; exact hP⟩)⟩
      | false =>
        simp only [Bool.false_eq_true, if_false]
        refine wpAny_bind (wpAny_letGo ?_)
        rw [hname]
        refine wpAny_pure ⟨plainId_quiet F.plain_max_loop _, ih (i + 1 + 1) _ c _ (by omega) hlt hst' (.inr ⟨i + 1, vb, rfl, rfl, by simp only [argBest, hb, Bool.false_eq_true, if_false]; exact hPb⟩) hS' (fun h0 => absurd h0 (by omega)) fun h0 v' h'' tk'' hP' hk'' => ?_⟩
        exact hR h0 v' h'' tk'' hP' fun b o hbw hbS e => hk'' b o hbw hbS (hk' b o hbw e)
end
section
variable {prog : Program} {w : World} {A : Around} {E : Value → Shared → Prop} {s : Shared} {l : Addr} {its : List Value} {ns : List Int} {Q : Value → Shared → Prop}
theorem maxD_raw (dv : Value) (hh : A.handled = none) (hl : s.heap.IsList l its.toArray) (hi : IntsAre its ns)
    (h0 : ns = [] → ∀ h' tk, (∀ b o, s.heap.get? b = some o → h'.get? b = some o) → Q dv { s with heap := h', toks := tk })
    (h : ∀ h' tk M t', (∀ b o, s.heap.get? b = some o → h'.get? b = some o) → M ∈ ns → (∀ a, a ∈ ns → a ≤ M) → Q (.int M t') { s with heap := h', toks := tk }) :
    wpAny (model prog w) A (call (.builtin "max") [.ref l] [(Str.ofString "default", dv)]) Q E s := by
  have hname : (toString "max" ++ toString ".loop" : String) = "max.loop" := by decide
  obtain ⟨xs, e⟩ := hi.allInts.items
  have hn : numsOf (intItems xs).toList = ns := by rw [← e]; exact hi.numsOf
  rw [nums_intItems] at hn
  subst hn
  rw [e] at hl
  refine kmb_tree F.kind_max F.plain_max F.entry_max (args_maxD _ _) ?_
  show wpAny _ A.in1 (Builtin.Builtins.bindParams "max" ["key", "default"] 0 ⟨[], [(Str.ofString "default", dv)]⟩ >>= _) _ _ s
  refine wpAny_bind (wpAny_of_eq (show Builtin.Builtins.bindParams "max" ["key", "default"] 0 ⟨[], [(Str.ofString "default", dv)]⟩ = pure [none, some dv] from rfl) ?_)
  refine wpAny_bind (wpAny_pure ?_)
  refine wpAny_bind (iter_intList hl fun s₂ e2 st hfp hlI => ?_)
  subst e2
  refine wpAny_bind (wpAny_newObj_type ?_)
  have W := Walks.list (prog := prog) (w := w) (A := A.in1) hh s.heap.objs.size l hlI (intItems xs)
  have hsz : (intItems xs).size = xs.size := by simp [intItems]
  rw [hname]
  refine wpAny_pure ⟨plainId_quiet F.plain_max_loop _, ?_⟩
  refine maxD_loop W (fun i j => decide (numAt xs i > numAt xs j)) (CmpOf.ints_gt (numAt xs) (fun _ _ => intItems_at)) _ (fun hm => Nat.lt_irrefl _ (hfp _ hm)) dv _ 0 _ _ #[] rfl (Nat.zero_le _) (W.frame _ _ _ st fun b _ o e => Heap.get?_push_of_some _ e) (.inl ⟨rfl, rfl⟩) (Heap.get?_push_size _ rfl) (fun z h' tk hk => ?_) fun z v h' tk hP hk => ?_
  · refine h0 ?_ h' tk (old_kept fun b o hb e => hk b o hb (Nat.ne_of_lt (Heap.lt_size e)) (Heap.get?_push_of_some _ e))
    rw [hsz] at z
    exact List.eq_nil_of_length_eq_zero (by rw [List.length_map, Array.length_toList]; exact z)
  · rw [hsz] at z hP
    obtain ⟨t, rfl⟩ := intItems_at hP
    obtain ⟨h1, h2⟩ := argBest_gt (numAt xs) (xs.size - 1)
    refine h h' tk _ t (old_kept fun b o hb e => hk b o hb (Nat.ne_of_lt (Heap.lt_size e)) (Heap.get?_push_of_some _ e)) ?_ fun a ha => ?_
    · rw [numAt_eq]; exact PySem.getD_mem (by rw [List.length_map, Array.length_toList]; omega)
    · obtain ⟨j, hj, rfl⟩ := mem_getD ha
      rw [List.length_map, Array.length_toList] at hj
      rw [← numAt_eq]; exact h2 j (by omega)
end
section
variable {X : Cx} {e be : Expr} {t tk : TA} {p pos kp : Pos}
/-- max(xs, default=d) -/
def tMaxD (K : PySem.W.Frag) (t tk : TA) : TE := fun σ H Q => t σ H fun vs H1 => tk σ H1 fun ks H2 => ∃ (a : Addr) (ns : List Int) (d : V), vs = [.ref a] ∧ ks = [d] ∧ SqL K H2 a (intsV ns) ∧ ∀ v, ((ns = [] ∧ v = d) ∨ ∃ m, v = .int m ∧ m ∈ ns ∧ ∀ y ∈ ns, y ≤ m) → Q v H2
theorem pe_maxD (hc : X.calm = true) (hg : Gl X "max") (hm : X.mg "max" = none) (ha : PA X [e] t) (hk : PK X [⟨some "default", be, kp⟩] tk) (hs : starEach [e] X.env = [(false, eval e X.env)] := by rfl) :
    PE X (.Call (.Name "max" p) [e] [⟨some "default", be, kp⟩] pos) (tMaxD X.K t tk) := by
  intro pins s σ H Q I h
  refine wpAny_Call_Name_kw (ld_blt I hg hm (by decide +kernel : bootBuiltins "max" = some (.builtin "max")) ?_)
  refine callWith_kw (e := e) (rest := []) (thn (ha pos pins s σ H _ I h) fun us s1 ⟨vs, H1, I1, r1, q1⟩ => ?_) (by rw [hs]; rfl) (by rw [hs]; rfl)
  refine thn (hk pos pins s1 σ H1 _ I1 q1) fun ws s2 ⟨zs, H2, I2, rz, q2⟩ => ?_
  obtain ⟨a, ns, d, rfl, rfl, hl, q⟩ := q2
  obtain ⟨its, rv, hl, _⟩ := I2.list hl
  cases rz with
  | cons x y =>
    cases y
    rw [Vals.ref1 r1]
    exact maxD_raw _ (I2.ok.hd hc) hl.isList rv.ints (fun z h' tk hk => ⟨d, H2, I2.kept hk, x, q d (.inl ⟨z, rfl⟩)⟩) fun h' tk m t' hk h1 h2 => ⟨.int _, H2, I2.kept hk, ⟨_, rfl⟩, q (.int m) (.inr ⟨m, rfl, h1, h2⟩)⟩
end
end L2

set_option Elab.async false
set_option linter.all false
set_option maxRecDepth 100000
set_option maxHeartbeats 4000000
namespace L2
open PySem PySem.Spec PyProof.Rows
/-! {k: v for target in iter if ..}, keys that are tuples -/
section
variable {X : Cx} {pins : List (Addr × Obj)} {σ : St} {H : Hp} {s : Shared} {a : Addr} {y v : V} {u r : Value} {A : Around} {E : Value → Shared → Prop}
end
section
variable {X : Cx}
end
end L2

set_option Elab.async false
set_option linter.all false
set_option maxRecDepth 100000
set_option maxHeartbeats 4000000
namespace L2
open PySem PySem.Spec PyProof.Rows
/-! for k, v in d.items(), the keys tuples: the dict's entries, whatever its keys -/
section
variable {prog : Program} {w : World} {A : Around} {E : Value → Shared → Prop} {s : Shared} {d : Addr} {o : Obj} {es : Array DictEntry} {ep n : Nat}
theorem meets_itemsR (hd : (d == sysModules) = false) (hx : o.ExactDict) :
    MeetsIn prog w (Builtin.«dict.items» ⟨[.ref d], []⟩) (fun _ R s => s.heap.get? d = some o ∧
      R (.ok (.ret (.ref s.heap.objs.size))) { s with heap := s.heap.push { cls := .type "dict_items", data := .fields #[.ref d] } }) :=
  .of_wp fun A R s ⟨ho, h⟩ => by
    have hT : s.TypeIs (.ref d) "dict" := ⟨o, ho, hx.1⟩
    unfold Builtin.«dict.items»
    refine wpAny_bind ?_
    unfold Builtin.Dict.noArgs
    refine wpAny_bind (wpAny_notOrdered_dict hT ?_)
    show wpAny _ _ (pure d) _ _ s
    refine wpAny_pure ?_
    show wpAny _ _ (Builtin.Dict.showsAll d >>= _) _ _ s
    unfold Builtin.Dict.showsAll
    rw [if_neg (by rw [hd]; exact Bool.false_ne_true)]
    exact wpAny_bind (wpAny_pure (wpAny_bind (wpAny_newObj_type (wpAny_pure ⟨_, rfl, h⟩))))
theorem iter_itemsR {v : Addr} {Q : Value → Shared → Prop} (hv : s.heap.IsItemsView v d) (ho : s.heap.get? d = some o) (hdat : o.data = .dict es ep) (hsz : es.size = n)
    (hQ : Q (.ref s.heap.objs.size) { s with heap := s.heap.push { cls := .type "dict_itemiterator", data := .fields #[.none, .bool false, .ref d, .int 0 0, .int n 0, .int ep 0, .none, .none] } }) :
    wpAny (model prog w) A (pyIter (.ref v)) Q E s := by
  obtain ⟨ov, hov, hcv, hdv⟩ := id hv
  refine wpAny_pyIter_slot hv.typeIs F.slot_dict_items_iter (wpAny_call_entry F.slot_dict_items_iter hv.typeIs F.entry_dict_items_iter ?_ (F.args_dict_items_iter_1 _))
  unfold Builtin.«dict_items.__iter__» Builtin.Dict_items.dictOf Builtin.Dict_items.newIterator
  have hown : Builtin.Dict_items.ownsTuple "dict_itemiterator" = true := by decide
  refine wpAny_bind (wpAny_pure ?_)
  refine wpAny_bind (wpAny_bind (wpAny_field hov hdv (x := .ref d) rfl (wpAny_pure ?_)))
  refine wpAny_bind ?_
  refine wpAny_bind (wpAny_dictEntries ho hdat ?_)
  refine wpAny_bind (wpAny_dictEpoch ho hdat ?_)
  simp only [hown, if_true]
  refine wpAny_newObj_type (wpAny_pure ⟨_, rfl, "dict_itemiterator", _, ⟨_, Heap.get?_push_size _ rfl, rfl⟩, F.slot_dict_itemiterator_next.lookup, ?_⟩)
    (by simp only [sizeOk, Builtin.Dict_items.ownedTupleFields, List.size_toArray, List.length_append, List.length_cons, List.length_nil, sizeLine_eq]; omega)
  simpa [rawInt, hsz, Builtin.Dict_items.ownedTupleFields] using hQ
theorem next_itemR {it : Addr} {i : Nat} {en : DictEntry} {ok ov : Value} {Q : Option Value → Shared → Prop} (hit : IsItemIter s.heap it d i n ep ok ov) (hod : s.heap.get? d = some o) (hdd : o.data = .dict es ep) (hsz : es.size = n) (hx : es[i]? = some en)
    (hQ : ∀ h', IsItemIterOut h' it d (i + 1) n ep en.key en.val s.heap.objs.size →
      h'.get? s.heap.objs.size = some { cls := .type "tuple", data := .seq #[en.key, en.val] } →
      (∀ b o, b ≠ it → s.heap.get? b = some o → h'.get? b = some o) → Q (some (.ref s.heap.objs.size)) { s with heap := h' }) :
    wpAny (model prog w) A (pyNext (.ref it)) Q E s := by
  obtain ⟨hp, g, dr, tk, os⟩ := s
  have hT : Shared.TypeIs ⟨hp, g, dr, tk, os⟩ (.ref it) "dict_itemiterator" := ⟨_, hit, rfl⟩
  unfold pyNext
  refine wpAny_bind (wpAny_attempt (wpAny_callSpecial?_slot (name := Str.ofString "__next__") hT F.slot_dict_itemiterator_next
    (wpAny_call_entry F.slot_dict_itemiterator_next hT F.entry_dict_itemiterator_next ?_ (F.args_dict_itemiterator_next_1 _))))
  refine wpAny_bind (wpAny_pure (wpAny_bind (wpAny_bind ?_)))
  first | refine wpAny_bind (wpAny_typeNameOfWhole_itemiter hT (wpAny_pure ?_)) | refine wpAny_bind (wpAny_typeNameOf_itemiter hT (wpAny_pure ?_))
  refine wpAny_bind (wpAny_fieldsOf hit rfl ?_)
  have hown : Builtin.Dict_items.ownsTuple "dict_itemiterator" = true := by decide
  simp only [hown, if_true]
  show wpAny _ _ (if (Value.ref d == Value.none) = true then _ else _) _ _ _
  rw [if_neg (show ¬ ((Value.ref d == Value.none) = true) from Bool.false_ne_true)]
  refine wpAny_bind (wpAny_pure (wpAny_bind (wpAny_dictEntries hod hdd ?_)))
  rw [if_neg (by rw [hsz]; simp)]
  refine wpAny_bind (wpAny_pure (wpAny_bind (wpAny_dictEpoch hod hdd ?_)))
  rw [if_neg (by simp)]
  refine wpAny_pure ?_
  obtain ⟨hlt', hen⟩ := Array.getElem?_eq_some_iff.mp hx
  simp only [show ¬ ((i : Int) < 0) from by omega, if_false, Int.toNat_natCast, Array.getElem?_eq_getElem hlt']
  rw [hen]
  refine wpAny_bind ?_
  first | refine wpAny_bind (wpAny_typeNameOfWhole_itemiter hT (wpAny_pure ?_)) | refine wpAny_bind (wpAny_typeNameOf_itemiter hT (wpAny_pure ?_))
  refine wpAny_bind (wpAny_isOneOf_itemiter hT ?_)
  show wpAny _ _ (setField (.ref it) 3 (rawInt ((i : Int) + 1)) >>= _) _ _ ⟨hp, g, dr, tk, os⟩
  refine wpAny_bind (wpAny_setField_rec hit (by simp) fun h₁ he₁ hs₁ => ?_)
  replace hs₁ : Heap.SameBut it hp h₁ := hs₁
  replace he₁ : IsItemIter h₁ it d (i + 1) n ep ok ov := by
    have e : ((i + 1 : Nat) : Int) = (i : Int) + 1 := by omega
    unfold IsItemIter; rw [e]; simpa [rawInt] using he₁
  have hT₁ : Shared.TypeIs ⟨h₁, g, dr, tk, os⟩ (.ref it) "dict_itemiterator" := ⟨_, he₁, rfl⟩
  refine wpAny_bind (wpAny_holding (wpAny_bind (wpAny_isOneOf_itemiter hT₁ (wpAny_bind (wpAny_isOneOf_itemiter hT₁ ?_)))))
  show wpAny _ _ (Builtin.Dict_items.pairFromOwner (.ref it) 6 en.key en.val) _ _ ⟨h₁, g, dr, tk, os⟩
  unfold Builtin.Dict_items.pairFromOwner
  refine wpAny_bind (wpAny_newTuple ?_)
  have he₂ : IsItemIter (h₁.push { cls := .type "tuple", data := .seq #[en.key, en.val] }) it d (i + 1) n ep ok ov := Heap.get?_push_of_some _ he₁
  generalize hh₂ : h₁.push { cls := .type "tuple", data := .seq #[en.key, en.val] } = h₂ at he₂
  have hz₁ : h₁.objs.size = hp.objs.size := hs₁.1
  have hil : it < hp.objs.size := Heap.lt_size hit
  have ht₂ : h₂.get? hp.objs.size = some { cls := .type "tuple", data := .seq #[en.key, en.val] } := by rw [← hh₂, ← hz₁]; exact Heap.get?_push_size _ rfl
  have hk₂ : ∀ b o, b ≠ it → hp.get? b = some o → h₂.get? b = some o := fun b o hb e => by rw [← hh₂]; exact Heap.get?_push_of_some _ (hs₁.extBut b o hb e)
  show wpAny _ _ (Builtin.Dict_items.ownedTupleIsFree (.ref it) >>= _) _ _ ⟨h₂, g, dr, tk, os⟩
  rw [hz₁]
  clear hh₂ he₁ hs₁ hT₁ hz₁ h₁
  refine wpAny_bind ?_
  unfold Builtin.Dict_items.ownedTupleIsFree
  refine wpAny_bind (wpAny_field he₂ rfl (x := .none) rfl (wpAny_pure ?_))
  simp only [if_true]
  refine wpAny_bind (wpAny_field he₂ rfl (x := ok) rfl (wpAny_bind (wpAny_field he₂ rfl (x := ov) rfl ?_)))
  refine wpAny_bind (wpAny_setField_rec he₂ (by simp) fun h₃ he₃ hs₃ => ?_)
  replace hs₃ : Heap.SameBut it h₂ h₃ := hs₃
  replace he₃ : IsItemIter h₃ it d (i + 1) n ep en.key ov := he₃
  refine wpAny_bind (wpAny_setField_rec he₃ (by simp) fun h₄ he₄ hs₄ => ?_)
  replace hs₄ : Heap.SameBut it h₃ h₄ := hs₄
  replace he₄ : IsItemIter h₄ it d (i + 1) n ep en.key en.val := he₄
  refine wpAny_bind (wpAny_setField_rec he₄ (by simp) fun h₅ he₅ hs₅ => ?_)
  replace hs₅ : Heap.SameBut it h₄ h₅ := hs₅
  replace he₅ : IsItemIterOut h₅ it d (i + 1) n ep en.key en.val hp.objs.size := he₅
  refine wpAny_bind (wpAny_setField_rec he₅ (by simp) fun h₆ he₆ hs₆ => ?_)
  replace hs₆ : Heap.SameBut it h₅ h₆ := hs₆
  replace he₆ : IsItemIterOut h₆ it d (i + 1) n ep en.key en.val hp.objs.size := he₆
  refine wpAny_bind (wpAny_letGo (wpAny_pure (wpAny_pure ⟨_, rfl, wpAny_pure (hQ h₆ he₆ ?_ ?_)⟩)))
  · exact hs₆.extBut _ _ (Nat.ne_of_gt hil) (hs₅.extBut _ _ (Nat.ne_of_gt hil) (hs₄.extBut _ _ (Nat.ne_of_gt hil) (hs₃.extBut _ _ (Nat.ne_of_gt hil) ht₂)))
  · exact fun b o hb e => hs₆.extBut b o hb (hs₅.extBut b o hb (hs₄.extBut b o hb (hs₃.extBut b o hb (hk₂ b o hb e))))
theorem end_itemR {it : Addr} {i : Nat} {ok ov : Value} {Q : Option Value → Shared → Prop} (hh : A.handled = none) (hit : IsItemIter s.heap it d i n ep ok ov) (hod : s.heap.get? d = some o) (hdd : o.data = .dict es ep) (hsz : es.size = n) (hge : n ≤ i)
    (hQ : ∀ h', Heap.ExtBut it s.heap h' → Q none { s with heap := h' }) : wpAny (model prog w) A (pyNext (.ref it)) Q E s := by
  have hT : s.TypeIs (.ref it) "dict_itemiterator" := ⟨_, hit, rfl⟩
  unfold pyNext
  refine wpAny_bind (wpAny_attempt (wpAny_callSpecial?_slot (name := Str.ofString "__next__") hT F.slot_dict_itemiterator_next
    (wpAny_call_entry F.slot_dict_itemiterator_next hT F.entry_dict_itemiterator_next ?_ (F.args_dict_itemiterator_next_1 _))))
  refine wpAny_bind (wpAny_pure (wpAny_bind (wpAny_bind ?_)))
  first | refine wpAny_bind (wpAny_typeNameOfWhole_itemiter hT (wpAny_pure ?_)) | refine wpAny_bind (wpAny_typeNameOf_itemiter hT (wpAny_pure ?_))
  refine wpAny_bind (wpAny_fieldsOf hit rfl ?_)
  have hown : Builtin.Dict_items.ownsTuple "dict_itemiterator" = true := by decide
  simp only [hown, if_true]
  show wpAny _ _ (if (Value.ref d == Value.none) = true then _ else _) _ _ s
  rw [if_neg (show ¬ ((Value.ref d == Value.none) = true) from Bool.false_ne_true)]
  refine wpAny_bind (wpAny_pure (wpAny_bind (wpAny_dictEntries hod hdd ?_)))
  rw [if_neg (by rw [hsz]; simp)]
  refine wpAny_bind (wpAny_pure (wpAny_bind (wpAny_dictEpoch hod hdd ?_)))
  rw [if_neg (by simp)]
  refine wpAny_pure ?_
  simp only [show ¬ ((i : Int) < 0) from by omega, if_false, Int.toNat_natCast, Array.getElem?_eq_none (show es.size ≤ i by rw [hsz]; exact hge)]
  refine wpAny_bind ?_
  first | refine wpAny_bind (wpAny_typeNameOfWhole_itemiter hT (wpAny_pure ?_)) | refine wpAny_bind (wpAny_typeNameOf_itemiter hT (wpAny_pure ?_))
  show wpAny _ _ (setField (.ref it) 2 .none >>= _) _ _ s
  refine wpAny_bind (wpAny_setField hit rfl (by simp) ?_)
  show wpAny _ _ (newExc (.type "StopIteration") [] >>= _) _ _ _
  refine wpAny_bind ?_
  simp only [newExc, newTuple]
  refine wpAny_bind (wpAny_newObj_type ?_ (by size_fits))
  refine wpAny_bind (m := firstArgMember _ _) (wpAny_of_eq (a := Value.none) (by first | rfl | (simp only [firstArgMember]; rfl)) ?_)
  refine wpAny_newObj_type ?_ (by size_fits)
  simp only [raiseNew]
  refine wpAny_bind (wpAny_handled ?_)
  rw [show A.in1.handled = none from hh]
  refine wpAny_bind (wpAny_pure (wpAny_throw ?_))
  refine wpAny_bind (wpAny_isInstance (T := "StopIteration") (b := true) ⟨_, Heap.get?_push_size _ rfl, rfl⟩ isSubtype_stop ?_)
  exact wpAny_pure (hQ _ (((Heap.SameBut.update ..).extBut.push _).push _))
end
section
variable {X : Cx} {pins : List (Addr × Obj)} {σ : St} {H : Hp} {s : Shared} {d : Addr} {o : Obj}
theorem Inv.frzTV {kvs : List (List Key × V)} (I : Inv X pins σ H s) (h : H d = some (.frz o (.dT kvs))) :
    (d == sysModules) = false ∧ s.heap.get? d = some o ∧ o.ExactDict ∧ ∃ (es : Array DictEntry) (ep : Nat), o.data = .dict es ep ∧ es.size = kvs.length ∧
      ∀ (i : Nat) (k : List Key) (v : V), kvs[i]? = some (k, v) → ∃ (en : DictEntry) (q : Addr), es[i]? = some en ∧ en.key = .ref q ∧ H q = some (.tup (k.map kV)) ∧ RelV v en.val := by
  obtain ⟨hd, z, hs, xs, pr, o', es, ep, ho, hx, hdt, he, _⟩ := I.hok d _ h
  rw [hd] at ho
  cases ho
  refine ⟨hs, hd, hx, es, ep, hdt, ?_, fun i k v e => ?_⟩
  · have l1 : es.size = xs.length := size_of_entries he
    have l2 : kvs.length = xs.length := Paired.length pr
    omega
  · obtain ⟨b, hb, e1, e2, e3⟩ := paired_get pr e
    have q := entry_at he i
    rw [hb] at q
    exact ⟨_, b.2.1, q, rfl, e2, e3⟩
end
/-- the items of the locked dict at d, keys that are tuples -/
def ItiT (d : Addr) (o : Obj) (kvs : List (List Key × V)) : It :=
  ⟨fun i H => H d = some (.frz o (.dT kvs)) ∧ i < kvs.length, fun i H x H' => ∃ T k v q, kvs[i]? = some (k, v) ∧ x = .ref T ∧ H T = none ∧ H q = some (.tup (k.map kV)) ∧ H' = upd H T (.tup [.ref q, v]), fun i H => H d = some (.frz o (.dT kvs)) ∧ kvs.length ≤ i⟩
theorem turn_itemsT {P : Program} {w : World} {K : PySem.W.Frag} {d : Addr} {o : Obj} {es : Array DictEntry} {ep : Nat} {kvs : List (List Key × V)} {elts : List Expr} {kk : Nat} {tpos : Pos} (it : Addr) (hod : o.data = .dict es ep) :
    Turn P w K (.Tuple elts kk tpos) (ItiT d o kvs) [it] it (fun i h => ∃ ok ov, IsItemIter h it d i kvs.length ep ok ov) where
  mem := by simp
  obj := fun i h st b hb => by
    have e : b = it := by simpa using hb
    subst e
    obtain ⟨ok, ov, e⟩ := st
    exact ⟨_, e, fun v z => nomatch z⟩
  keep := fun i h h' st k => let ⟨ok, ov, e⟩ := st; ⟨ok, ov, k it (by simp) _ e⟩
  item := by
    intro X hP hw hK hc i pins s σ H E I hf st hg
    subst hP hw hK
    obtain ⟨hd, hi⟩ := hg
    obtain ⟨hs, hgd, hx, es', ep', hdt, hsz, ent⟩ := I.frzTV hd
    obtain ⟨rfl, rfl⟩ := dict_ep hod hdt
    obtain ⟨⟨k, v⟩, hkv⟩ : ∃ p, kvs[i]? = some p := ⟨kvs[i], List.getElem?_eq_getElem hi⟩
    obtain ⟨en, q, hen, hkey, hq, ru⟩ := ent i k v hkv
    obtain ⟨ok, ov, he⟩ := st
    have hlt : it < s.heap.objs.size := Heap.lt_size he
    refine next_itemR he hgd hdt hsz hen fun h' ho hT hk => ?_
    refine ⟨_, rfl, wpAny_letOwnedTupleGo_items (s := { s with heap := h' }) ho fun h'' he' sb => ?_⟩
    have hT2 : h''.get? s.heap.objs.size = some { cls := .type "tuple", data := .seq #[en.key, en.val] } := (sb.2 _ (Nat.ne_of_gt hlt)).trans hT
    have new : ObjOk X.prog X.w (upd H s.heap.objs.size (.tup [.ref q, v])) h'' s.heap.objs.size (.tup [.ref q, v]) :=
      ⟨by show 2 ≤ sizeLine; decide, [en.key, en.val], .cons (show RelV (.ref q) en.key from hkey) (.cons ru .nil), ⟨_, hT2, rfl, _, rfl⟩, ⟨_, hT2, rfl⟩⟩
    have I1 : Inv X pins σ (upd H s.heap.objs.size (.tup [.ref q, v])) { s with heap := h'' } :=
      I.turnedNew (t' := s.toks) (ch := [it]) (fun b ob hb e => (sb.2 b (by simpa using hb)).trans (hk b ob (by simpa using hb) e)) hf (Nat.le_refl _) new
    refine ⟨.ref s.heap.objs.size, _, I1, rfl, ⟨_, k, v, q, hkv, rfl, I.hok.fresh (Nat.le_refl _), hq, rfl⟩, ⟨en.key, en.val, he'⟩, fun b hb => ?_⟩
    have e : b = it := by simpa using hb
    rw [e, upd_ne (Nat.ne_of_lt hlt)]
    exact (hf it (by simp)).1
  done := by
    intro X hP hw hK hc i pins s σ H E I hf st hg
    subst hP hw hK
    obtain ⟨hd, hi⟩ := hg
    obtain ⟨f0, f1, f2, f3, f4, f5⟩ := hf it (by simp)
    obtain ⟨hs, hgd, hx, es', ep', hdt, hsz, ent⟩ := I.frzTV hd
    obtain ⟨rfl, rfl⟩ := dict_ep hod hdt
    obtain ⟨ok, ov, he⟩ := st
    exact end_itemR (I.ok.hd hc) he hgd hdt hsz hi fun h' eb => ⟨rfl, I.turned (t' := s.toks) (fun b ob hb e => eb b ob hb e) f0 f1 f3 f4 f5⟩
  self := fun A i s Q E st h => let ⟨_, _, e⟩ := st; PySem.W.kcp_self e h
def iItemsT (td : TE) : TI := fun σ H R => td σ H fun x H1 => ∃ d o kvs, x = .ref d ∧ H1 d = some (.frz o (.dT kvs)) ∧ R (ItiT d o kvs) H1
theorem pi_itemsT {X : Cx} {e : Expr} {td : TE} {apos cpos : Pos} {elts : List Expr} {kk : Nat} {tpos : Pos} (he : PE X e td) (hbase : attributeBase e "items" X.env (eval e X.env) = eval e X.env := by rfl) (hline : (apos.endLine == cpos.line) = true := by rfl) :
    PI X (.Tuple elts kk tpos) (.Call (.Attribute e "items" apos) [] [] cpos) (iItemsT td) := by
  intro pins s σ H R I h
  refine wpAny_Call_method (T := "dict") (id := "dict.items") hbase rfl hline F.plainAttrs_dict F.slot_dict_items F.type_dict_items (thn (he pins s σ H _ I h) fun u s1 ⟨x, H1, I1, rx, d, o, kvs, ex, hd, q⟩ => ?_)
  subst ex
  obtain rfl : u = Value.ref d := rx
  obtain ⟨hs, hgd, hx, es, ep, hdt, hsz, ent⟩ := I1.frzTV hd
  have hT : s1.TypeIs (.ref d) "dict" := ⟨o, hgd, hx.1⟩
  refine ⟨hT, (fun a e => by cases e; exact ⟨o, hgd, hx.2.1⟩), ?_⟩
  have I2 : Inv X pins σ H1 { s1 with heap := s1.heap.push { cls := .type "dict_items", data := .fields #[.ref d] } } := I1.kept (t' := s1.toks) fun b ob q => Heap.get?_push_of_some _ q
  have fin : wpAny (model X.prog X.w) X.A (pyIter (.ref s1.heap.objs.size)) (PIE X pins σ (.Tuple elts kk tpos) R) X.xe { s1 with heap := s1.heap.push { cls := .type "dict_items", data := .fields #[.ref d] } } := by
    refine iter_itemsR (d := d) ⟨_, Heap.get?_push_size _ rfl, rfl, rfl⟩ (Heap.get?_push_of_some _ hgd) hdt hsz (pi_one (tk := s1.toks) I2 _ (turn_itemsT _ hdt) ⟨.none, .none, Heap.get?_push_size _ rfl⟩ q)
  show wpAny _ _ (callWith cpos (.builtin "dict.items") [.ref d] [] []) _ X.xe s1
  exact method_meetsIn F.slot_dict_items F.entry_dict_items rfl (PySem.evalArgs_none ⟨rfl, hT, F.args_dict_items_1 _, _, meets_itemsR hs hx, hgd, fin⟩)
/-- a loop over the items -/
theorem for_itemsT {d : Addr} {o : Obj} {kvs : List (List Key × V)} {g : TG} {tb : TS} {D : Ends} {σ : St} {H : Hp} (Pv : Nat → St → Hp → Prop) (h0 : Pv 0 σ H) (hl : ∀ i σ H, i ≤ kvs.length → Pv i σ H → H d = some (.frz o (.dT kvs)))
    (hs : ∀ i k v q T σ H, kvs[i]? = some (k, v) → H T = none → H q = some (.tup (k.map kV)) → Pv i σ H → g (.ref T) σ (upd H T (.tup [.ref q, v])) fun σ2 H2 => tb { D with nx := Pv (i + 1), ct := Pv (i + 1), bk := D.nx } σ2 H2) (hd : ∀ σ H, Pv kvs.length σ H → D.nx σ H) :
    ∃ W : Nat → Nat → St → Hp → Prop, (∃ m, W 0 m σ H) ∧ ∀ i m σ H, W i m σ H →
      ((ItiT d o kvs).stop i H ∧ D.nx σ H) ∨ ((ItiT d o kvs).go i H ∧ ∃ N : St → Hp → Prop, (∀ σ' H', N σ' H' → ∃ m', m' < m ∧ W (i + 1) m' σ' H') ∧ ∀ x H', (ItiT d o kvs).yld i H x H' → g x σ H' fun σ2 H2 => tb { D with nx := N, ct := N, bk := D.nx } σ2 H2) := by
  refine ⟨fun i m σ H => m = kvs.length - i ∧ i ≤ kvs.length ∧ Pv i σ H, ⟨kvs.length, by simp, Nat.zero_le _, h0⟩, ?_⟩
  rintro i m σ H ⟨rfl, hi, p⟩
  have q := hl i σ H hi p
  by_cases hlt : i < kvs.length
  · refine .inr ⟨⟨q, hlt⟩, Pv (i + 1), fun σ' H' p' => ⟨kvs.length - (i + 1), by omega, rfl, hlt, p'⟩, fun x H' y => ?_⟩
    obtain ⟨T, k, v, b, e1, rfl, hT, hb, rfl⟩ := y
    exact hs i k v b T σ H e1 hT hb p
  · have e : i = kvs.length := by omega
    subst e
    exact .inl ⟨⟨q, Nat.le_refl _⟩, hd σ H p⟩
end L2

set_option Elab.async false
set_option linter.all false
set_option maxRecDepth 100000
set_option maxHeartbeats 4000000
namespace L2
open PySem PySem.Spec PyProof.Rows
/-! a polynomial's number at a point -/
def pp : List Nat → List Int → Int
  | n :: ns, x :: xs => x ^ n * pp ns xs
  | _, _ => 1
def SF (F : List Nat → Int) : Pol → Int
  | [] => 0
  | t :: r => t.2 * F t.1 + SF F r
theorem SF_app (F : List Nat → Int) (a b : Pol) : SF F (a ++ b) = SF F a + SF F b := by
  induction a with
  | nil => simp [SF]
  | cons t r ih => simp only [List.cons_append, SF, ih]; omega
theorem map_absent {ns : List Nat} {c : Int} {d : Pol} (h : ns ∉ d.map (·.1)) : (d.map fun t => if t.1 = ns then (t.1, c) else t) = d := by
  refine (List.map_congr_left fun t ht => ?_).trans (List.map_id _)
  have : t.1 ≠ ns := fun e => h (e ▸ List.mem_map.mpr ⟨t, ht, rfl⟩)
  show (if t.1 = ns then (t.1, c) else t) = t
  rw [if_neg this]
theorem SF_map (F : List Nat → Int) (ns : List Nat) (c : Int) : ∀ {d : Pol}, (d.map (·.1)).Nodup → ns ∈ d.map (·.1) → SF F (d.map fun t => if t.1 = ns then (t.1, c) else t) = SF F d + (c - cf d ns) * F ns
  | [], _, h => nomatch h
  | t :: r, nd, h => by
    rw [List.map_cons, List.nodup_cons] at nd
    by_cases e : t.1 = ns
    · have hr : ns ∉ r.map (·.1) := by rw [← e]; exact nd.1
      rw [List.map_cons, map_absent hr, if_pos e]
      simp only [SF, cf]
      rw [if_pos e, cf_none hr, e, Int.add_zero, Int.sub_mul]
      omega
    · have hr : ns ∈ r.map (·.1) := by
        rw [List.map_cons] at h
        rcases List.mem_cons.mp h with z | z
        · exact absurd z.symm e
        · exact z
      rw [List.map_cons, if_neg e]
      simp only [SF, cf]
      rw [if_neg e, SF_map F ns c nd.2 hr, Int.zero_add]
      omega
theorem SF_put (F : List Nat → Int) {d : Pol} (nd : (d.map (·.1)).Nodup) (ns : List Nat) (c : Int) : SF F (putN d ns c) = SF F d + (c - cf d ns) * F ns := by
  unfold putN
  split
  · rename_i h; exact SF_map F ns c nd h
  · rename_i h
    rw [SF_app, cf_none h, Int.sub_zero]
    simp only [SF]; omega
theorem SF_addUp (F : List Nat → Int) : ∀ (l d : Pol), (d.map (·.1)).Nodup → SF F (addUp d l) = SF F d + SF F l
  | [], d, _ => by simp [addUp, SF]
  | u :: r, d, h => by
    show SF F (addUp (putN d u.1 (cf d u.1 + u.2)) r) = _
    rw [SF_addUp F r _ (putN_nodup h _ _), SF_put F h]
    simp only [SF]
    rw [show cf d u.1 + u.2 - cf d u.1 = u.2 by omega]
    omega
/-- the last unknown replaced by a number -/
def wlT (w : Int) (t : List Nat × Int) : List Nat × Int := (t.1.dropLast, t.2 * w ^ (t.1.getLastD 0))
def wl (w : Int) (D : Pol) : Pol := addUp [] (D.map (wlT w))
theorem last_cut {ns : List Nat} (h : ns ≠ []) : ns = ns.dropLast ++ [ns.getLastD 0] := by
  rw [List.getLastD_eq_getLast?, List.getLast?_eq_some_getLast h]
  exact (List.dropLast_concat_getLast h).symm
theorem SF_nil {D : Pol} (h : ∀ t ∈ D, t.1.length = 0) : SF (fun ns => pp ns []) D = cf D [] := by
  induction D with
  | nil => rfl
  | cons t r ih =>
    have e : t.1 = [] := List.eq_nil_of_length_eq_zero (h t (by simp))
    simp only [SF, cf]
    rw [ih fun u hu => h u (by simp [hu]), e, if_pos rfl]
    simp [pp]
theorem sum_dropLast (ns : List Nat) : ns.dropLast.sum ≤ ns.sum ∧ ns.getLastD 0 ≤ ns.sum := by
  by_cases h : ns = []
  · subst h; simp
  · have e := congrArg List.sum (last_cut h)
    rw [List.sum_append] at e
    simp only [List.sum_cons, List.sum_nil] at e
    omega
theorem pow_le2 {w : Int} {c : Nat} (h : w.natAbs ≤ 2 ^ c) (n : Nat) : (w ^ n).natAbs ≤ 2 ^ (c * n) := by
  rw [Int.natAbs_pow, Nat.pow_mul]
  exact Nat.pow_le_pow_left h n
theorem two_mono {a b : Nat} (h : a ≤ b) : 2 ^ a ≤ 2 ^ b := Nat.pow_le_pow_right (by decide) h
theorem mul_le2 {x y : Int} {a b : Nat} (hx : x.natAbs ≤ 2 ^ a) (hy : y.natAbs ≤ 2 ^ b) : (x * y).natAbs ≤ 2 ^ (a + b) := by
  rw [Int.natAbs_mul, Nat.pow_add]
  exact Nat.mul_le_mul hx hy
theorem wlT_small {w : Int} {b : Nat} {D : Pol} (hw : w.natAbs ≤ 2 ^ 130) (h : Small 20 (2 ^ b) D) : Small 20 (2 ^ (b + 2600)) (D.map (wlT w)) := fun t ht => by
  obtain ⟨u, hu, rfl⟩ := List.mem_map.mp ht
  obtain ⟨h1, h2⟩ := h u hu
  obtain ⟨s1, s2⟩ := sum_dropLast u.1
  refine ⟨Nat.le_trans s1 h1, mul_le2 h2 (Nat.le_trans (pow_le2 hw _) (two_mono ?_))⟩
  have : u.1.getLastD 0 ≤ 20 := Nat.le_trans s2 h1
  omega
theorem addUp_sub : ∀ (l d : Pol), ∀ ns ∈ (addUp d l).map (·.1), ns ∈ d.map (·.1) ∨ ns ∈ l.map (·.1)
  | [], d, ns, h => .inl h
  | u :: r, d, ns, h => by
    rcases addUp_sub r (putN d u.1 (cf d u.1 + u.2)) ns h with z | z
    · rw [putN_keys] at z
      split at z
      · exact .inl z
      · rcases List.mem_append.mp z with z | z
        · exact .inl z
        · rw [List.mem_singleton] at z; subst z; exact .inr (by simp)
    · exact .inr (by rw [List.map_cons]; exact List.mem_cons_of_mem _ z)
theorem addUp_small {z B : Nat} {l : Pol} (h : Small z B l) : Small z (l.length * B) (addUp [] l) := fun t ht => by
  have nd := addUp_nodup l [] List.nodup_nil
  have hk : t.1 ∈ l.map (·.1) := by
    rcases addUp_sub l [] t.1 (List.mem_map.mpr ⟨t, ht, rfl⟩) with z | z
    · cases z
    · exact z
  obtain ⟨u, hu, e⟩ := List.mem_map.mp hk
  refine ⟨by rw [← e]; exact (h u hu).1, ?_⟩
  rw [← cf_mem nd ht, addUp_cf _ _ [] List.nodup_nil]
  have := cf_le h t.1
  show (0 + cf l t.1).natAbs ≤ _
  rw [Int.zero_add]; exact this
structure Tbl (k b : Nat) (D : Pol) : Prop where
  nd : (D.map (·.1)).Nodup
  len : ∀ t ∈ D, t.1.length = k
  few : D.length ≤ 128
  sm : Small 20 (2 ^ b) D
theorem Tbl.wl {k b : Nat} {D : Pol} {w : Int} (h : Tbl (k + 1) b D) (hw : w.natAbs ≤ 2 ^ 130) : Tbl k (b + 2607) (wl w D) where
  nd := addUp_nodup _ [] List.nodup_nil
  len := fun t ht => by
    refine addUp_keys (m := k) (D.map (wlT w)) [] (fun u hu => ?_) (fun _ z => nomatch z) t.1 (List.mem_map.mpr ⟨t, ht, rfl⟩)
    obtain ⟨v, hv, rfl⟩ := List.mem_map.mp hu
    show v.1.dropLast.length = k
    rw [List.length_dropLast, h.len v hv]; rfl
  few := by
    have := addUp_len (D.map (wlT w)) []
    rw [List.length_map] at this
    have e : ([] : Pol).length = 0 := rfl
    have := h.few
    unfold L2.wl
    omega
  sm := by
    refine (addUp_small (wlT_small hw h.sm)).mono (Nat.le_refl _) ?_
    rw [List.length_map]
    refine Nat.le_trans (Nat.mul_le_mul_right _ (show D.length ≤ 2 ^ 7 from h.few)) ?_
    rw [← Nat.pow_add]
    exact two_mono (by omega)
theorem bits_le {x : Int} {m : Nat} (h : x.natAbs ≤ 2 ^ m) : Builtin.Int.intBits x ≤ m + 1 := intBits_le_iff.mpr (Nat.lt_of_le_of_lt h (Nat.pow_lt_pow_right (by decide) (Nat.lt_succ_self m)))
theorem mulOk2 {x y : Int} {a b : Nat} (hx : x.natAbs ≤ 2 ^ a) (hy : y.natAbs ≤ 2 ^ b) (ha : a ≤ 50000) (hb : b ≤ 50000) : IntMulOk x y :=
  bits_ok (Nat.le_trans (bits_le hx) (Nat.le_trans (show a + 1 ≤ 50001 by omega) (by decide))) (Nat.le_trans (bits_le hy) (Nat.le_trans (show b + 1 ≤ 50001 by omega) (by decide)))
theorem same_unlock {H H' : Hp} {d : Addr} {od : Obj} {u : HO} (h : H d = some u) (s : Same (upd H d (.frz od u)) H') : Same H (upd H' d u) := fun p o e => by
  by_cases z : p = d
  · subst z; rw [upd_same, ← h]; exact e
  · rw [upd_ne z]; exact s _ _ (by rw [upd_ne z]; exact e)
end L2

set_option Elab.async false
set_option linter.all false
set_option maxRecDepth 100000
set_option maxHeartbeats 4000000
namespace L2
open PySem PySem.Spec PyProof.Rows
/-! ### dict(l) of a list of pairs whose keys are tuples -/
section
variable {prog : Program} {w : World} {A : Around} {E : Value → Shared → Prop}
end
section
variable {X : Cx}
end
end L2

set_option Elab.async false
set_option linter.all false
set_option maxRecDepth 100000
set_option maxHeartbeats 4000000
namespace HT
open PySem PyProof.Rows
theorem rcGt_int (A : Around) (s : Shared) (a : Int) (t : Tok) (c : Int) (u : Tok) (prog : Program) (w : World) (E : Value → Shared → Prop) (Q : Value → Shared → Prop) (h : Q (.bool (decide (c < a))) s) :
    wpAny (model prog w) A (richCompare .Gt (.int a t) (.int c u)) Q E s :=
  (PyProof.Rows.gt_int h : wpAny (model prog w) A (compareOp .Gt (.int a t) (.int c u)) Q E s)
section
open PySem.SeqAt
open PySem.AutoSeq1 (wpAny_loadPart')
open PySem.MeetsSeq PySem.MeetsSeq2 PySem.MeetsSeq3
theorem tuple_gt_ints (l b : Addr) (items items2 : Array Value) (n n2 : Nat) (dd dd2 : Option Addr) (sl sl2 : Array (Option Value)) (ns ms : List Int) (hi : IntsAre items.toList ns) (hj : IntsAre items2.toList ms) :
    Meets (Builtin.«tuple.__gt__» ⟨[.ref l, .ref b], []⟩)
      (fun _ R s => s.heap.get? l = some { cls := .type "tuple", dict := dd, data := .seq items n, slots := sl } ∧ s.heap.get? b = some { cls := .type "tuple", dict := dd2, data := .seq items2 n2, slots := sl2 } ∧
        R (.ok (.ret (.bool (lexLt ms ns)))) s) :=
  .of_wp fun prog w A R s h => by
    obtain ⟨hp, g, d, tk, os⟩ := s; obtain ⟨hl, hb, h⟩ := h
    have f2 := AutoSeq1.sub_tuple_tuple
    have z1 : items.size = ns.length := by rw [← hi.length]; simp
    have z2 : items2.size = ms.length := by rw [← hj.length]; simp
    wp_walk using wpAny_loadPart' hl, wpAny_loadPart' hb, wpAny_forIn_list _ (fun rest b s' => b.1 = none ∧ s' = ⟨hp, g, d, tk, os⟩ ∧ ∃ (vs ws : List Value) (ns' ms' : List Int), rest = vs.zip ws ∧
      IntsAre vs ns' ∧ IntsAre ws ms' ∧ ns'.length + items2.size = ms'.length + items.size ∧ R (.ok (.ret (.bool (lexLt ms' ns')))) ⟨hp, g, d, tk, os⟩) _
    case turn =>
      rintro ⟨y, x⟩ rest b s' ⟨hb', rfl, vs, ws, ns', ms', hz, hvi, hwi, hlen, hR⟩
      cases hvi with
      | nil => rw [List.zip_nil_left] at hz; cases hz
      | cons a t hvi' =>
        cases hwi with
        | nil => rw [List.zip_nil_right] at hz; cases hz
        | cons c u hwi' =>
          rw [List.zip_cons_cons] at hz
          injection hz with hyx hrest
          injection hyx with hy hx
          subst hy hx
          rw [lexLt_cons] at hR
          simp only [List.length_cons] at hlen
          obtain ⟨e, he, hiff⟩ := eqAt_int A.in1 ⟨hp, g, d, tk, os⟩ a t c u
          refine wpAny_bind (he prog w _ _ ?_)
          cases e with
          | true =>
            rw [if_pos (hiff.mp rfl).symm] at hR
            wp_walk
            exact ⟨rfl, rfl, _, _, _, _, hrest, hvi', hwi', by omega, hR⟩
          | false =>
            rw [if_neg (fun q => absurd (hiff.mpr q.symm) Bool.false_ne_true)] at hR
            have hri := rcGt_int A.in1 ⟨hp, g, d, tk, os⟩ a t c u prog w
            wp_walk using hri
            exact ⟨_, rfl, by simpa using hR⟩
    case fin =>
      rintro ⟨b1, b2⟩ s' ⟨hb', rfl, vs, ws, ns', ms', hz, hvi, hwi, hlen, hR⟩
      simp only at hb'
      subst hb'
      have hv : lexLt ms' ns' = decide (items2.size < items.size) := by
        cases hvi with
        | nil =>
          cases hwi with
          | nil =>
            simp only [List.length_nil] at hlen
            rw [lexLt_nil_nil]
            exact (decide_eq_false (by omega)).symm
          | cons c u hw =>
            simp only [List.length_nil, List.length_cons] at hlen
            rw [lexLt_cons_nil]
            exact (decide_eq_false (by omega)).symm
        | cons a t hv =>
          cases hwi with
          | nil =>
            simp only [List.length_nil, List.length_cons] at hlen
            rw [lexLt_nil_cons]
            exact (decide_eq_true (by omega)).symm
          | cons c u hw =>
            rw [List.zip_cons_cons] at hz
            cases hz
      rw [hv] at hR
      wp_walk
      exact ⟨_, rfl, by simpa [Builtin.Tuple.tupleCompareSizes] using hR⟩
    case h =>
      exact ⟨rfl, rfl, items.toList, items2.toList, ns, ms, rfl, hi, hj, by omega, h⟩
end
section
variable {prog : Program} {w : World} {A : Around} {E : Value → Shared → Prop} {s : Shared}
theorem gt_tupInts {l b : Addr} {items items2 : Array Value} {ns ms : List Int} {Q : Value → Shared → Prop} (hl : IsTup s.heap l items) (hb : IsTup s.heap b items2) (hi : IntsAre items.toList ns) (hj : IntsAre items2.toList ms)
    (hu : A.units < cLine) (h : Q (.bool (lexLt ms ns)) s) : wpAny (model prog w) A (compareOp .Gt (.ref l) (.ref b)) Q E s := by
  obtain ⟨⟨cls, dd, data, sl⟩, ho, hc, n, hd⟩ := id hl
  obtain ⟨⟨cls2, dd2, data2, sl2⟩, ho2, hc2, n2, hd2⟩ := id hb
  simp only at hc hd hc2 hd2
  subst hc hd hc2 hd2
  exact richCompare_meets_room (op := .Gt) ⟨_, ho, rfl⟩ ⟨_, ho2, rfl⟩ PySem.F.slot_tuple_gt PySem.F.entry_tuple_gt (PySem.F.args_tuple_gt_2 _ _) (tuple_gt_ints l b items items2 n n2 dd dd2 sl sl2 ns ms hi hj)
    ⟨ho, ho2, show Value.bool (lexLt ms ns) ≠ Value.notImplemented ∧ Q (.bool (lexLt ms ns)) s from ⟨(fun x => nomatch x), h⟩⟩ hu
end
end HT
namespace L2
open PySem PySem.Spec PyProof.Rows
section
variable {X : Cx}
/-- t > u -/
def rGtT (K : PySem.W.Frag) : R2 := fun x y H Q => ∃ a b ns ms, x = .ref a ∧ y = .ref b ∧ SqT K H a (intsV ns) ∧ SqT K H b (intsV ms) ∧ Q (.bl (HT.lexLt ms ns)) H
theorem op_gtT (hu : X.A.units + 64 < cLine) : OpR X (compareOp .Gt) (rGtT X.K) := by
  intro pins s σ H x y v u Q I rx ry h
  obtain ⟨a, b, ns, ms, rfl, rfl, ha, hb, q⟩ := h
  cases rx
  cases ry
  obtain ⟨its, r1, p1, _⟩ := I.tuple ha
  obtain ⟨its2, r2, p2, _⟩ := I.tuple hb
  have i1 : IntsAre its.toArray.toList ns := intsAre_of r1
  have i2 : IntsAre its2.toArray.toList ms := intsAre_of r2
  exact HT.gt_tupInts p1 p2 i1 i2 (by omega) ⟨.bl (HT.lexLt ms ns), H, I, rfl, q⟩
end
end L2

set_option Elab.async false
set_option linter.all false
set_option maxRecDepth 100000
set_option maxHeartbeats 4000000
namespace L2
open PySem PySem.Spec PyProof.Rows
/-! zip(tuple, list) -/
section
variable {prog : Program} {w : World} {A : Around} {E : Value → Shared → Prop} {s : Shared}
theorem nextOf_tupI {it t : Addr} {i : Nat} {items} {x : Value} {Q : Value → Shared → Prop} (hit : s.heap.IsTupleIter it t i)
    (ht : s.heap.IsTuple t items) (hx : items[i]? = some x)
    (hQ : ∀ h', h'.IsTupleIter it t (i + 1) → Heap.SameBut it s.heap h' → Q x { s with heap := h' }) :
    wpAny (model prog w) A (Builtin.SmallTypes.nextOf (.ref it)) Q E s := by
  obtain ⟨o, ho, hc, hd⟩ := id hit
  obtain ⟨ol, hol, _, nl, hdl⟩ := ht
  unfold Builtin.SmallTypes.nextOf
  refine wpAny_bind (wpAny_callSpecial?_slot (name := Str.ofString "__next__") hit.typeIs F.slot_tuple_iterator_next
    (wpAny_call_entry F.slot_tuple_iterator_next hit.typeIs F.entry_tuple_iterator_next ?_ (F.args_tuple_iterator_next_1 _)))
  show wpAny _ _ (field (.ref it) 0 >>= _) _ _ s
  refine wpAny_bind (wpAny_field ho hd (x := .ref t) rfl ?_)
  show wpAny _ _ (if (Value.ref t == Value.none) = true then _ else _) _ _ s
  rw [if_neg (show ¬ ((Value.ref t == Value.none) = true) from Bool.false_ne_true)]
  show wpAny _ _ (field (.ref it) 1 >>= _) _ _ s
  refine wpAny_bind (wpAny_field ho hd (x := .int i 0) rfl ?_)
  show wpAny _ _ (seqItems? (.ref t) >>= _) _ _ s
  refine wpAny_bind (wpAny_seqItems hol hdl ?_)
  simp only [Int.toNat_natCast, hx]
  refine wpAny_bind (wpAny_setField ho hd (by simp) (wpAny_pure ⟨x, rfl, wpAny_pure (hQ _ ?_ (Heap.SameBut.update ..))⟩))
  exact ⟨_, Heap.get?_update_self _ ho (Obj.isFreed_of_fields (Obj.data_mapFields hd _)), (Obj.cls_mapFields ..).trans hc, by
    rw [Obj.data_mapFields hd]; simp [rawInt]⟩
theorem nextOf_tupE {it t : Addr} {i : Nat} {items} {Q : Value → Shared → Prop} (hh : A.handled = none)
    (hit : s.heap.IsTupleIter it t i) (ht : s.heap.IsTuple t items) (hx : items[i]? = none)
    (hE : ∀ h' e, Heap.ExtBut it s.heap h' → (∃ o, h'.get? e = some o ∧ o.cls = .type "StopIteration") → E (.ref e) { s with heap := h' }) :
    wpAny (model prog w) A (Builtin.SmallTypes.nextOf (.ref it)) Q E s := by
  obtain ⟨o, ho, hc, hd⟩ := id hit
  obtain ⟨ol, hol, _, nl, hdl⟩ := ht
  unfold Builtin.SmallTypes.nextOf
  refine wpAny_bind (wpAny_callSpecial?_slot (name := Str.ofString "__next__") hit.typeIs F.slot_tuple_iterator_next
    (wpAny_call_entry F.slot_tuple_iterator_next hit.typeIs F.entry_tuple_iterator_next ?_ (F.args_tuple_iterator_next_1 _)))
  show wpAny _ _ (field (.ref it) 0 >>= _) _ _ s
  refine wpAny_bind (wpAny_field ho hd (x := .ref t) rfl ?_)
  show wpAny _ _ (if (Value.ref t == Value.none) = true then _ else _) _ _ s
  rw [if_neg (show ¬ ((Value.ref t == Value.none) = true) from Bool.false_ne_true)]
  show wpAny _ _ (field (.ref it) 1 >>= _) _ _ s
  refine wpAny_bind (wpAny_field ho hd (x := .int i 0) rfl ?_)
  show wpAny _ _ (seqItems? (.ref t) >>= _) _ _ s
  refine wpAny_bind (wpAny_seqItems hol hdl ?_)
  simp only [Int.toNat_natCast, hx]
  refine wpAny_bind (wpAny_rule (wpAny_bind (wpAny_setField ho hd (by simp) ?_)))
  show wpAny _ _ (newExc (.type "StopIteration") [] >>= _) _ _ _
  refine wpAny_bind ?_
  simp only [newExc, newTuple]
  refine wpAny_bind (wpAny_newObj_type ?_ (by size_fits))
  refine wpAny_bind (m := firstArgMember _ _) (wpAny_of_eq (a := Value.none) (by first | rfl | (simp only [firstArgMember]; rfl)) ?_)
  refine wpAny_newObj_type ?_ (by size_fits)
  simp only [raiseNew]
  refine wpAny_bind (wpAny_handled ?_)
  first | rw [show A.in1.handled = none from hh] | rw [hh]
  refine wpAny_bind (wpAny_pure (wpAny_throw ?_))
  exact hE _ _ (((Heap.SameBut.update ..).extBut.push _).push _) ⟨_, Heap.get?_push_size _ rfl, rfl⟩
/-- the end: the tuple is read to its end -/
theorem zipT_end {z TI TO i1 i2 l1 l2 : Addr} {k1 : Nat} {xs : Array Value} {a b : Value} {Q : Fin → Shared → Prop} (hh : A.handled = none) (D : ZipApart z TI TO i1 i2 l1 l2)
    (hz : IsZip s.heap z TI TO .none) (hTI : IsPair s.heap TI (.ref i1) (.ref i2)) (hTO : IsPair s.heap TO a b)
    (h1 : s.heap.IsTupleIter i1 l1 k1) (hl1 : s.heap.IsTuple l1 xs) (hx : xs[k1]? = none)
    (hE : ∀ h' e, (∀ c o, c ≠ z → c ≠ TO → c ≠ i1 → c ≠ i2 → s.heap.get? c = some o → h'.get? c = some o) → (∃ o, h'.get? e = some o ∧ o.cls = .type "StopIteration") → E (.ref e) { s with heap := h' }) :
    wpAny (model prog w) A (Builtin.«zip.__next__» ⟨[.ref z], []⟩) Q E s := by
  show wpAny _ _ (field (.ref z) 2 >>= _) _ _ _
  refine wpAny_bind (wpAny_field hz rfl (x := .bool false) rfl ?_)
  show wpAny _ _ (field (.ref z) 3 >>= _) _ _ _
  refine wpAny_bind (wpAny_field hz rfl (x := .ref TI) rfl ?_)
  refine wpAny_bind (wpAny_seqItems hTI rfl ?_)
  show wpAny _ _ (Builtin.SmallTypes.ownedTupleIsFree (.ref z) >>= _) _ _ _
  refine wpAny_bind ?_
  unfold Builtin.SmallTypes.ownedTupleIsFree
  refine wpAny_bind (wpAny_field hz rfl (x := .none) rfl (wpAny_pure ?_))
  simp only [if_true]
  refine wpAny_bind (wpAny_rule ?_)
  refine wpAny_bind (wpAny_field hz rfl (x := .ref TO) rfl ?_)
  refine wpAny_bind (wpAny_setField_rec hz (by simp) fun h₁ hz₁ hs₁ => ?_)
  replace hz₁ : IsZip h₁ z TI TO .ellipsis := hz₁
  refine wpAny_bind ?_
  simp only [List.zipIdx_cons, List.zipIdx_nil, List.forIn_cons, List.forIn_nil]
  refine wpAny_bind (wpAny_bind (wpAny_onRaise ?_))
  show wpAny _ _ (Builtin.SmallTypes.nextOf (.ref i1) >>= _) _ _ _
  refine wpAny_bind (nextOf_tupE hh (h1.extBut hs₁.extBut D.i1z) (hl1.extBut hs₁.extBut D.l1z) hx fun h₂ e hs₂ he => ?_)
  obtain ⟨oe, hoe, hce⟩ := he
  have hz₂ : IsZip h₂ z TI TO .ellipsis := hs₂ _ _ D.i1z.symm hz₁
  have hez : e ≠ z := fun x => by subst x; rw [hz₂] at hoe; cases hoe; simp at hce
  exact wpAny_setField_rec hz₂ (by simp) fun h₃ _ hs₃ => hE h₃ e (fun c o c1 _ c3 _ x => hs₃.extBut _ _ c1 (hs₂ _ _ c3 (hs₁.extBut _ _ c1 x))) ⟨oe, hs₃.extBut _ _ hez hoe, hce⟩
end
section
variable {prog : Program} {w : World} {A : Around} {E : Value → Shared → Prop} {s : Shared}
end
end L2

set_option Elab.async false
set_option linter.all false
set_option maxRecDepth 100000
set_option maxHeartbeats 4000000
namespace L2
open PySem PySem.Spec PyProof.Rows SimS
/-! sorted(d, reverse=b) of a dict with tuple keys, each key's tuple told -/
section
variable {X : Cx} {pins : List (Addr × Obj)} {σ : St} {H : Hp} {s : Shared}
end
section
variable {X : Cx} {e be : Expr} {t tk : TA} {p pos kp : Pos}
end
end L2

set_option Elab.async false
set_option linter.all false
set_option maxRecDepth 100000
set_option maxHeartbeats 4000000
namespace L2
open PySem PySem.Spec PyProof.Rows
/-! ### the items of a dict that was just made, and is left alone from then on -/
def iItemsC (td : TE) : TI := fun σ H R => td σ H fun x H1 => ∃ d kvs, x = .ref d ∧ H1 d = some (.dT kvs) ∧ ∀ o, R (ItiT d o kvs) (upd H1 d (.frz o (.dT kvs)))
theorem pi_itemsC {X : Cx} {e : Expr} {td : TE} {apos cpos : Pos} {elts : List Expr} {kk : Nat} {tpos : Pos} (he : PE X e td) (hbase : attributeBase e "items" X.env (eval e X.env) = eval e X.env := by rfl) (hline : (apos.endLine == cpos.line) = true := by rfl) :
    PI X (.Tuple elts kk tpos) (.Call (.Attribute e "items" apos) [] [] cpos) (iItemsC td) := by
  intro pins s σ H R I h
  refine wpAny_Call_method (T := "dict") (id := "dict.items") hbase rfl hline F.plainAttrs_dict F.slot_dict_items F.type_dict_items (thn (he pins s σ H _ I h) fun u s1 ⟨x, H0, I0, rx, d, kvs, ex, hd0, q0⟩ => ?_)
  subst ex
  obtain rfl : u = Value.ref d := rx
  obtain ⟨o, I1⟩ := I0.lock hd0 trivial
  have hd : (upd H0 d (.frz o (.dT kvs))) d = some (.frz o (.dT kvs)) := upd_same
  have q := q0 o
  generalize upd H0 d (.frz o (.dT kvs)) = H1 at I1 hd q
  obtain ⟨hs, hgd, hx, es, ep, hdt, hsz, ent⟩ := I1.frzTV hd
  have hT : s1.TypeIs (.ref d) "dict" := ⟨o, hgd, hx.1⟩
  refine ⟨hT, (fun a e => by cases e; exact ⟨o, hgd, hx.2.1⟩), ?_⟩
  have I2 : Inv X pins σ H1 { s1 with heap := s1.heap.push { cls := .type "dict_items", data := .fields #[.ref d] } } := I1.kept (t' := s1.toks) fun b ob q => Heap.get?_push_of_some _ q
  have fin : wpAny (model X.prog X.w) X.A (pyIter (.ref s1.heap.objs.size)) (PIE X pins σ (.Tuple elts kk tpos) R) X.xe { s1 with heap := s1.heap.push { cls := .type "dict_items", data := .fields #[.ref d] } } := by
    refine iter_itemsR (d := d) ⟨_, Heap.get?_push_size _ rfl, rfl, rfl⟩ (Heap.get?_push_of_some _ hgd) hdt hsz (pi_one (tk := s1.toks) I2 _ (turn_itemsT _ hdt) ⟨.none, .none, Heap.get?_push_size _ rfl⟩ q)
  show wpAny _ _ (callWith cpos (.builtin "dict.items") [.ref d] [] []) _ X.xe s1
  exact method_meetsIn F.slot_dict_items F.entry_dict_items rfl (PySem.evalArgs_none ⟨rfl, hT, F.args_dict_items_1 _, _, meets_itemsR hs hx, hgd, fin⟩)
section
variable {K : PySem.W.Frag} {g : TG} {tt : TT} {te : TE} {vs : List Nat} {σ : St} {H1 : Hp} {D : Addr} {Qd : Hp → Prop}
/-- a comprehension over the items of a dict of numbers, each item a term -/
theorem lc_itemsM {d : Addr} {o : Obj} {ps : Pol} (p : Nat → Bool) (f : Nat → List Nat × Int) (hdd : H1 d = some (.frz o (.dT (dictV ps)))) (hD : H1 D = none) (hz : ps.length ≤ 100000)
    (hs : ∀ i t q T H (Kk : VK) (Nx : Hp → Prop), ps[i]? = some t → H q = some (.tup (natsV t.1)) → H T = some (.tup [.ref q, .int t.2]) → Same H1 H → H D ≠ none → (p i = true → ∀ y H', Same H H' → TmAt H' y (f i) → Kk y H') → (p i = false → ∀ H', Same H H' → Nx H') →
      g (.ref T) (wipe σ vs) H fun σ2 H2 => wipe σ2 vs = wipe σ vs ∧ tt σ2 H2 fun b H3 => if b = true then te σ2 H3 Kk else Nx H3)
    (hd : ∀ H xs, Same H1 H → H D = some (.lst xs) → Tms H xs (((List.range ps.length).filter p).map f) → Qd H) :
    ∃ W : Nat → Nat → Hp → Prop, (∃ m, W 0 m (upd H1 D (.lst []))) ∧ ∀ i m H, W i m H →
      ((ItiT d o (dictV ps)).stop i H ∧ Qd H) ∨ ((ItiT d o (dictV ps)).go i H ∧ ∃ Nx : Hp → Prop, (∀ H', Nx H' → ∃ m', m' < m ∧ W (i + 1) m' H') ∧ ∀ x H', (ItiT d o (dictV ps)).yld i H x H' → g x (wipe σ vs) H' fun σ2 H2 => wipe σ2 vs = wipe σ vs ∧ tt σ2 H2 fun b H3 =>
        if b = true then te σ2 H3 fun y H4 => ∃ acc, H4 D = some (.lst acc) ∧ acc.length < sizeLine ∧ Nx (upd H4 D (.lst (acc ++ [y]))) else Nx H3) := by
  refine ⟨fun i m H => m = (dictV ps).length - i ∧ i ≤ (dictV ps).length ∧ i ≤ ps.length ∧ Same H1 H ∧ ∃ xs, H D = some (.lst xs) ∧ xs.length ≤ i ∧ Tms H xs (((List.range i).filter p).map f), ⟨(dictV ps).length, by simp, Nat.zero_le _, Nat.zero_le _, same_new hD, [], upd_same, Nat.le_refl _, trivial⟩, ?_⟩
  rintro i m H ⟨rfl, hi0, hin, s1, xs, hx, hl, dp⟩
  have q := s1 _ _ hdd
  by_cases hlt : i < (dictV ps).length
  · refine .inr ⟨⟨q, hlt⟩, fun H => i + 1 ≤ ps.length ∧ Same H1 H ∧ ∃ xs, H D = some (.lst xs) ∧ xs.length ≤ i + 1 ∧ Tms H xs (((List.range (i + 1)).filter p).map f), fun H' p' => ⟨(dictV ps).length - (i + 1), by omega, rfl, hlt, p'⟩, fun x H' y => ?_⟩
    obtain ⟨T, k, v, b, e1, rfl, hT, hb, rfl⟩ := y
    obtain ⟨t, ht, rfl, rfl⟩ := dictV_get e1
    have hi' : i < ps.length := (List.getElem?_eq_some_iff.mp ht).1
    have sT := same_new (o := .tup [.ref b, .int t.2]) hT
    refine hs i t b T _ _ _ ht (sT _ _ (hb.trans (by rw [keyW_V]))) upd_same (s1.trans sT) (by rw [sT _ _ hx]; simp) (fun hp y H' s' dy => ⟨xs, s' _ _ (sT _ _ hx), small5 (by omega), hi', same_upd ((s1.trans sT).trans s') hD, xs ++ [y], upd_same, by rw [List.length_append]; show xs.length + 1 ≤ i + 1; omega, ?_⟩) fun hp H' s' => ⟨hi', (s1.trans sT).trans s', xs, s' _ _ (sT _ _ hx), by omega, ?_⟩
    · rw [filter_map_snoc, if_pos hp]
      exact Tms.snoc (dy.keep (kt_upd (s' _ _ (sT _ _ hx)) (fun _ => nofun))) (Tms.keep ((sT.trans s').kt.trans (kt_upd (s' _ _ (sT _ _ hx)) (fun _ => nofun))) dp)
    · rw [filter_map_snoc, if_neg (by rw [hp]; decide), List.append_nil]
      exact Tms.keep (sT.trans s').kt dp
  · have e : i = (dictV ps).length := by omega
    subst e
    rw [dict_len] at dp
    exact .inl ⟨⟨q, Nat.le_refl _⟩, hd H xs s1 hx dp⟩
end
end L2

set_option Elab.async false
set_option linter.all false
set_option maxRecDepth 100000
set_option maxHeartbeats 4000000
namespace L2
open PySem PySem.Spec PyProof.Rows
section
variable {a b : List Int}
end
end L2

set_option Elab.async false
set_option linter.all false
set_option maxRecDepth 100000
set_option maxHeartbeats 4000000
namespace PySem
open PySem PySem.Spec PyProof.Rows
section
variable {prog : Program} {w : World} {A : Around} {E : Value → Shared → Prop} {s : Shared}
end
end PySem
namespace L2
open PySem PySem.Spec PyProof.Rows
section
variable {X : Cx} {tg : Expr}
end
end L2

set_option Elab.async false
set_option linter.all false
set_option maxRecDepth 100000
set_option maxHeartbeats 4000000
namespace L2
open PySem PySem.Spec PyProof.Rows
section
variable {X : Cx} {e st : Expr} {te ts : TE} {pos p2 : Pos}
end
end L2

set_option Elab.async false
set_option linter.all false
set_option maxRecDepth 100000
set_option maxHeartbeats 4000000
namespace L2
open PySem PySem.Spec PyProof.Rows
/-- no tuple of the fragment has a dict -/
def tupO (o : Obj) : Bool := match o.dict with | none => true | some _ => (match o.cls with | .type t => !(t == "tuple") | _ => true)
def tupK (K : PySem.W.Frag) : Bool := K.all fun q => tupO q.2
theorem join_st {R G : St → Hp → Prop} {A : Prop} (hA : (∀ σ Hx, G σ Hx → R σ Hx) → A) (tail : ∀ σ Hx, G σ Hx → R σ Hx) : A := hA tail
end L2

set_option Elab.async false
set_option linter.all false
set_option maxRecDepth 100000
set_option maxHeartbeats 4000000
namespace L2
open PySem PySem.Spec PyProof.Rows
section
variable {X : Cx}
end
end L2

set_option Elab.async false
set_option linter.all false
set_option maxRecDepth 100000
set_option maxHeartbeats 4000000
namespace L2
open PySem PySem.Spec PyProof.Rows
/-! ### xs += ys of lists -/
section
variable {prog : Program} {w : World} {A : Around} {E : Value → Shared → Prop} {s : Shared}
end
section
variable {X : Cx}
end
end L2

set_option Elab.async false
set_option linter.all false
set_option maxRecDepth 100000
set_option maxHeartbeats 4000000
namespace L2
open PySem PySem.Spec PyProof.Rows
/-! zip(tuple, tuple) -/
section
variable {prog : Program} {w : World} {A : Around} {E : Value → Shared → Prop} {s : Shared}
theorem zipU_item {z TI TO i1 i2 l1 l2 : Addr} {k1 k2 : Nat} {xs ys : Array Value} {x y a b : Value} {Q : Value → Shared → Prop} (D : ZipApart z TI TO i1 i2 l1 l2)
    (hz : IsZip s.heap z TI TO .none) (hTI : IsPair s.heap TI (.ref i1) (.ref i2)) (hTO : IsPair s.heap TO a b)
    (h1 : s.heap.IsTupleIter i1 l1 k1) (h2 : s.heap.IsTupleIter i2 l2 k2) (hl1 : s.heap.IsTuple l1 xs) (hl2 : s.heap.IsTuple l2 ys) (hx : xs[k1]? = some x) (hy : ys[k2]? = some y)
    (hQ : ∀ h', IsZip h' z TI TO (rawInt s.heap.objs.size) → IsPair h' TO x y → h'.IsTupleIter i1 l1 (k1 + 1) → h'.IsTupleIter i2 l2 (k2 + 1) → IsPair h' s.heap.objs.size x y →
      (∀ c o, c ≠ z → c ≠ TO → c ≠ i1 → c ≠ i2 → s.heap.get? c = some o → h'.get? c = some o) → Q (.ref s.heap.objs.size) { s with heap := h' }) :
    wpAny (model prog w) A (Builtin.«zip.__next__» ⟨[.ref z], []⟩) (fun fin s' => ∃ v, fin = .done (.ret v) ∧ Q v s') E s := by
  show wpAny _ _ (field (.ref z) 2 >>= _) _ _ _
  refine wpAny_bind (wpAny_field hz rfl (x := .bool false) rfl ?_)
  show wpAny _ _ (field (.ref z) 3 >>= _) _ _ _
  refine wpAny_bind (wpAny_field hz rfl (x := .ref TI) rfl ?_)
  refine wpAny_bind (wpAny_seqItems hTI rfl ?_)
  show wpAny _ _ (Builtin.SmallTypes.ownedTupleIsFree (.ref z) >>= _) _ _ _
  refine wpAny_bind ?_
  unfold Builtin.SmallTypes.ownedTupleIsFree
  refine wpAny_bind (wpAny_field hz rfl (x := .none) rfl (wpAny_pure ?_))
  simp only [if_true]
  refine wpAny_bind (wpAny_rule ?_)
  refine wpAny_bind (wpAny_field hz rfl (x := .ref TO) rfl ?_)
  refine wpAny_bind (wpAny_setField_rec hz (by simp) fun h₁ hz₁ hs₁ => ?_)
  replace hz₁ : IsZip h₁ z TI TO .ellipsis := hz₁
  refine wpAny_bind ?_
  simp only [List.zipIdx_cons, List.zipIdx_nil, List.forIn_cons, List.forIn_nil]
  refine wpAny_bind (wpAny_bind (wpAny_onRaise ?_))
  show wpAny _ _ (Builtin.SmallTypes.nextOf (.ref i1) >>= _) _ _ _
  refine wpAny_bind (nextOf_tupI (h1.extBut hs₁.extBut D.i1z) (hl1.extBut hs₁.extBut D.l1z) hx fun h₂ h1₂ hs₂ => wpAny_pure ?_)
  have hTO₂ : IsPair h₂ TO a b := hs₂.extBut _ _ D.TOi1 (hs₁.extBut _ _ D.TOz hTO)
  refine wpAny_bind (wpAny_seqItems hTO₂ rfl ?_)
  refine wpAny_bind (wpAny_updateSeq_pair hTO₂ fun h₃ hTO₃ hs₃ => ?_)
  replace hTO₃ : IsPair h₃ TO x b := hTO₃
  refine wpAny_bind (wpAny_letGo (wpAny_pure ?_))
  refine wpAny_bind (wpAny_bind (wpAny_onRaise ?_))
  show wpAny _ _ (Builtin.SmallTypes.nextOf (.ref i2) >>= _) _ _ _
  refine wpAny_bind (nextOf_tupI (((h2.extBut hs₁.extBut D.i2z).extBut hs₂.extBut D.i12.symm).extBut hs₃.extBut D.TOi2.symm)
    (((hl2.extBut hs₁.extBut D.l2z).extBut hs₂.extBut D.l2i1).extBut hs₃.extBut D.l2TO) hy fun h₄ h2₄ hs₄ => wpAny_pure ?_)
  have hTO₄ : IsPair h₄ TO x b := hs₄.extBut _ _ D.TOi2 hTO₃
  refine wpAny_bind (wpAny_seqItems hTO₄ rfl ?_)
  refine wpAny_bind (wpAny_updateSeq_pair hTO₄ fun h₅ hTO₅ hs₅ => ?_)
  replace hTO₅ : IsPair h₅ TO x y := hTO₅
  refine wpAny_bind (wpAny_letGo (wpAny_pure (wpAny_pure ?_)))
  refine wpAny_bind (wpAny_seqItems hTO₅ rfl ?_)
  refine wpAny_bind (wpAny_newTuple ?_)
  have hsz : h₅.objs.size = s.heap.objs.size := by rw [hs₅.1, hs₄.1, hs₃.1, hs₂.1, hs₁.1]
  have hz₅ : IsZip h₅ z TI TO .ellipsis := hs₅.extBut _ _ D.TOz.symm (hs₄.extBut _ _ D.i2z.symm (hs₃.extBut _ _ D.TOz.symm (hs₂.extBut _ _ D.i1z.symm hz₁)))
  have hk₅ : ∀ c o, c ≠ z → c ≠ TO → c ≠ i1 → c ≠ i2 → s.heap.get? c = some o → h₅.get? c = some o := fun c o c1 c2 c3 c4 e =>
    hs₅.extBut _ _ c2 (hs₄.extBut _ _ c4 (hs₃.extBut _ _ c2 (hs₂.extBut _ _ c3 (hs₁.extBut _ _ c1 e))))
  have h1₅ : h₅.IsTupleIter i1 l1 (k1 + 1) := ((h1₂.extBut hs₃.extBut D.TOi1.symm).extBut hs₄.extBut D.i12).extBut hs₅.extBut D.TOi1.symm
  have h2₅ : h₅.IsTupleIter i2 l2 (k2 + 1) := h2₄.extBut hs₅.extBut D.TOi2.symm
  have hzlt : z < h₅.objs.size := Heap.lt_size hz₅
  show wpAny _ _ (Builtin.SmallTypes.ownedTupleHandOut (.ref z) (.ref h₅.objs.size) >>= _) _ _ _
  refine wpAny_bind ?_
  unfold Builtin.SmallTypes.ownedTupleHandOut
  have hz₆ : IsZip (h₅.push { cls := .type "tuple", data := .seq #[x, y] }) z TI TO .ellipsis := Heap.get?_push_of_some _ hz₅
  refine wpAny_bind (wpAny_setField_rec hz₆ (by simp) fun h₇ hz₇ hs₇ => ?_)
  replace hz₇ : IsZip h₇ z TI TO (rawInt h₅.objs.size) := hz₇
  refine wpAny_setField_rec hz₇ (by simp) fun h₈ hz₈ hs₈ => ?_
  replace hz₈ : IsZip h₈ z TI TO (rawInt h₅.objs.size) := hz₈
  have up : ∀ c o, c ≠ z → h₅.get? c = some o → h₈.get? c = some o := fun c o c1 e => hs₈.extBut _ _ c1 (hs₇.extBut _ _ c1 (Heap.get?_push_of_some _ e))
  have hT₈ : IsPair h₈ h₅.objs.size x y := hs₈.extBut _ _ (Nat.ne_of_gt hzlt) (hs₇.extBut _ _ (Nat.ne_of_gt hzlt) (Heap.get?_push_size _ rfl))
  rw [hsz] at hz₈ hT₈
  refine wpAny_pure ⟨_, rfl, ?_⟩
  show Q (.ref h₅.objs.size) _
  rw [hsz]
  exact hQ h₈ hz₈ (up _ _ D.TOz hTO₅) (h1₅.at fun o e => up _ o D.i1z e) (h2₅.at fun o e => up _ o D.i2z e) hT₈ fun c o c1 c2 c3 c4 e => up c o c1 (hk₅ c o c1 c2 c3 c4 e)
end
abbrev zuH1 (h : Heap) (l1 : Addr) : Heap := h.push { cls := .type "tuple_iterator", data := .fields #[.ref l1, .int 0 0] }
abbrev zuH2 (h : Heap) (l1 l2 : Addr) : Heap := (zuH1 h l1).push { cls := .type "tuple_iterator", data := .fields #[.ref l2, .int 0 0] }
abbrev zuH3 (h : Heap) (l1 l2 : Addr) : Heap := (zuH2 h l1 l2).push { cls := .type "tuple", data := .seq #[.ref h.objs.size, .ref (zuH1 h l1).objs.size] }
abbrev zuH4 (h : Heap) (l1 l2 : Addr) : Heap := (zuH3 h l1 l2).push { cls := .type "tuple", data := .seq #[.none, .none] }
abbrev zuH5 (h : Heap) (l1 l2 : Addr) : Heap := (zuH4 h l1 l2).push { cls := .type "zip", data := .fields #[.none, .bool false, .bool false, .ref (zuH2 h l1 l2).objs.size, .ref (zuH3 h l1 l2).objs.size] }
theorem meets_zipU (l1 l2 : Addr) (xs ys : Array Value) :
    Meets (Builtin.«zip.__new__» ⟨[.type "zip", .ref l1, .ref l2], []⟩) (fun _ R s => s.heap.IsTuple l1 xs ∧ s.heap.IsTuple l2 ys ∧
      R (.ok (.ret (.ref (zuH4 s.heap l1 l2).objs.size))) { s with heap := zuH5 s.heap l1 l2 }) :=
  .of_wp fun prog w A R s h => by
    obtain ⟨hp, g, d, tk, os⟩ := s; obtain ⟨hl1, hl2, h⟩ := h
    have hsub := sub_zip
    have hL1 : Heap.IsTuple (Shared.heap ⟨hp, g, d, tk, os⟩) l1 xs := hl1
    have hL2 : Heap.IsTuple (Shared.heap ⟨hp.push { cls := .type "tuple_iterator", data := .fields #[.ref l1, .int 0 0] }, g, d, tk, os⟩) l2 ys := Heap.IsTuple.push hl2 _
    wp_walk using wpAny_pyIter_tuple hL1, wpAny_pyIter_tuple hL2
    exact ⟨_, rfl, h⟩
section
variable {prog : Program} {w : World} {A : Around} {E : Value → Shared → Prop} {s : Shared}
theorem call_zipU {l1 l2 : Addr} {xs ys : Array Value} {Q : Value → Shared → Prop} (hl1 : s.heap.IsTuple l1 xs) (hl2 : s.heap.IsTuple l2 ys)
    (h : ∀ h', IsZip h' (s.heap.objs.size + 4) (s.heap.objs.size + 2) (s.heap.objs.size + 3) .none → IsPair h' (s.heap.objs.size + 2) (.ref s.heap.objs.size) (.ref (s.heap.objs.size + 1)) →
      IsPair h' (s.heap.objs.size + 3) .none .none → h'.IsTupleIter s.heap.objs.size l1 0 → h'.IsTupleIter (s.heap.objs.size + 1) l2 0 →
      (∀ c o, s.heap.get? c = some o → h'.get? c = some o) → Q (.ref (s.heap.objs.size + 4)) { s with heap := h' }) :
    wpAny (model prog w) A (call (.type "zip") [.ref l1, .ref l2]) Q E s := by
  refine callType_new F.called_zip (by decide) (F.typeCall_zip_2 _ _) (F.newCall_zip_2 _ _) (fun obj => F.args_object_init_3 obj _ _) F.entry_zip_new
    (meets_zipU l1 l2 xs ys) ⟨hl1, hl2, ?_⟩
  have z1 : (zuH1 s.heap l1).objs.size = s.heap.objs.size + 1 := Heap.size_push ..
  have z2 : (zuH2 s.heap l1 l2).objs.size = s.heap.objs.size + 2 := by rw [Heap.size_push, z1]
  have z3 : (zuH3 s.heap l1 l2).objs.size = s.heap.objs.size + 3 := by rw [Heap.size_push, z2]
  have z4 : (zuH4 s.heap l1 l2).objs.size = s.heap.objs.size + 4 := by rw [Heap.size_push, z3]
  have g5 : (zuH5 s.heap l1 l2).get? (zuH4 s.heap l1 l2).objs.size = some _ := Heap.get?_push_size _ rfl
  have g4 : (zuH5 s.heap l1 l2).get? (zuH3 s.heap l1 l2).objs.size = some _ := Heap.get?_push_of_some _ (Heap.get?_push_size _ rfl)
  have g3 : (zuH5 s.heap l1 l2).get? (zuH2 s.heap l1 l2).objs.size = some _ := Heap.get?_push_of_some _ (Heap.get?_push_of_some _ (Heap.get?_push_size _ rfl))
  have g2 : (zuH5 s.heap l1 l2).get? (zuH1 s.heap l1).objs.size = some _ := Heap.get?_push_of_some _ (Heap.get?_push_of_some _ (Heap.get?_push_of_some _ (Heap.get?_push_size _ rfl)))
  have g1 : (zuH5 s.heap l1 l2).get? s.heap.objs.size = some _ := Heap.get?_push_of_some _ (Heap.get?_push_of_some _ (Heap.get?_push_of_some _ (Heap.get?_push_of_some _ (Heap.get?_push_size _ rfl))))
  show _ ∧ _
  rw [z2, z3, z4] at g5
  rw [z1, z2] at g3
  rw [z3] at g4
  rw [z1] at g2
  rw [z4]
  exact ⟨⟨_, g5, rfl⟩, h _ g5 g3 g4 ⟨_, g1, rfl, rfl⟩ ⟨_, g2, rfl, rfl⟩ fun c o x =>
    Heap.get?_push_of_some _ (Heap.get?_push_of_some _ (Heap.get?_push_of_some _ (Heap.get?_push_of_some _ (Heap.get?_push_of_some _ x))))⟩
end
/-- the tuple at a and the list at b, the items in new pairs; the list at least as long -/
def ItzU (K : PySem.W.Frag) (a b : Addr) : It :=
  ⟨fun i H => ∃ (xs ys : List V) (x y : V), SqT K H a xs ∧ SqT K H b ys ∧ xs[i]? = some x ∧ ys[i]? = some y,
    fun i H v H' => ∃ T x y, v = .ref T ∧ H T = none ∧ H' = upd H T (.tup [x, y]) ∧ (∀ xs, SqT K H a xs → xs[i]? = some x) ∧ ∀ ys, SqT K H b ys → ys[i]? = some y,
    fun i H => ∃ xs : List V, SqT K H a xs ∧ xs.length ≤ i⟩
theorem turn_zipU {P : Program} {w : World} {K : PySem.W.Frag} {elts : List Expr} {kk : Nat} {tpos : Pos} {a b z TI TO i1 i2 : Addr} (D : ZipApart z TI TO i1 i2 a b) :
    Turn P w K (.Tuple elts kk tpos) (ItzU K a b) [z, TI, TO, i1, i2] z (fun i h => IsZip h z TI TO .none ∧ IsPair h TI (.ref i1) (.ref i2) ∧ (∃ x y, IsPair h TO x y) ∧ h.IsTupleIter i1 a i ∧ h.IsTupleIter i2 b i) where
  mem := by simp
  obj := fun i h st c hc => by
    obtain ⟨hz, hTI, ⟨x, y, hTO⟩, ⟨o1, e1, _, d1⟩, ⟨o2, e2, _, d2⟩⟩ := st
    have e' : c = z ∨ c = TI ∨ c = TO ∨ c = i1 ∨ c = i2 := by simpa using hc
    rcases e' with q | q | q | q | q
    · rw [q]; exact ⟨_, hz, fun v q => nomatch q⟩
    · rw [q]; exact ⟨_, hTI, fun v q => nomatch q⟩
    · rw [q]; exact ⟨_, hTO, fun v q => nomatch q⟩
    · rw [q]; exact ⟨o1, e1, fun v q => by rw [d1] at q; cases q⟩
    · rw [q]; exact ⟨o2, e2, fun v q => by rw [d2] at q; cases q⟩
  keep := fun i h h' st k => by
    obtain ⟨hz, hTI, ⟨x, y, hTO⟩, h1, h2⟩ := st
    exact ⟨k z (by simp) _ hz, k TI (by simp) _ hTI, ⟨x, y, k TO (by simp) _ hTO⟩, h1.at fun o q => k i1 (by simp) o q, h2.at fun o q => k i2 (by simp) o q⟩
  item := by
    intro X hP hw hK hc i pins s σ H E I hf st hg
    subst hP hw hK
    obtain ⟨hz, hTI, ⟨x0, y0, hTO⟩, h1, h2⟩ := st
    obtain ⟨xs, ys, x, y, hqx, hqy, hx, hy⟩ := hg
    obtain ⟨its, rv, p, _⟩ := I.tuple hqx
    obtain ⟨its2, rv2, p2, _⟩ := I.tuple hqy
    obtain ⟨u, hu, ru⟩ := rv.get hx
    obtain ⟨u2, hu2, ru2⟩ := rv2.get hy
    have hzl : z < s.heap.objs.size := Heap.lt_size hz
    have hT : s.TypeIs (.ref z) "zip" := ⟨_, hz, rfl⟩
    unfold pyNext
    refine wpAny_bind (wpAny_attempt (wpAny_callSpecial?_slot (name := Str.ofString "__next__") hT F.slot_zip_next (wpAny_call_entry F.slot_zip_next hT F.entry_zip_next
      (zipU_item D hz hTI hTO h1 h2 (show s.heap.IsTuple a its.toArray from p) (show s.heap.IsTuple b its2.toArray from p2) (x := u) (y := u2) (by simpa using hu) (by simpa using hu2) fun h' z' TO' h1' h2' hT hk => wpAny_pure ?_) (F.args_zip_next_1 _))))
    refine ⟨_, rfl, wpAny_letOwnedTupleGo_zip (s := { s with heap := h' }) z' fun h'' z'' sb => ?_⟩
    have hT2 : h''.get? s.heap.objs.size = some { cls := .type "tuple", data := .seq #[u, u2] } := (sb.2 _ (Nat.ne_of_gt hzl)).trans hT
    have new : ObjOk X.prog X.w (upd H s.heap.objs.size (.tup [x, y])) h'' s.heap.objs.size (.tup [x, y]) :=
      ⟨by show 2 ≤ sizeLine; decide, [u, u2], .cons ru (.cons ru2 .nil), ⟨_, hT2, rfl, _, rfl⟩, ⟨_, hT2, rfl⟩⟩
    have I1 : Inv X pins σ (upd H s.heap.objs.size (.tup [x, y])) { s with heap := h'' } :=
      I.turnedNew (t' := s.toks) (ch := [z, TI, TO, i1, i2]) (fun c o hb q => (sb.2 c (fun q' => hb (by simp [q']))).trans (hk c o (fun q' => hb (by simp [q'])) (fun q' => hb (by simp [q'])) (fun q' => hb (by simp [q'])) (fun q' => hb (by simp [q'])) q)) hf (Nat.le_refl _) new
    refine ⟨.ref s.heap.objs.size, _, I1, rfl, ⟨_, x, y, rfl, I.hok.fresh (Nat.le_refl _), rfl, fun l hl => by rw [I.tuple_inj hl hqx]; exact hx, fun l hl => by rw [I.tuple_inj hl hqy]; exact hy⟩, ⟨z'', ?_, ⟨u, u2, ?_⟩, ?_, ?_⟩, fun c hcm => ?_⟩
    · exact (sb.2 _ D.TIz).trans (hk _ _ D.TIz D.TITO D.TIi1 D.TIi2 hTI)
    · exact (sb.2 _ D.TOz).trans TO'
    · exact h1'.at fun o q => (sb.2 _ D.i1z).trans q
    · exact h2'.at fun o q => (sb.2 _ D.i2z).trans q
    · have hlt : c < s.heap.objs.size := by
        have e' : c = z ∨ c = TI ∨ c = TO ∨ c = i1 ∨ c = i2 := by simpa using hcm
        rcases e' with q | q | q | q | q
        · rw [q]; exact hzl
        · rw [q]; exact Heap.lt_size hTI
        · rw [q]; exact Heap.lt_size hTO
        · rw [q]; obtain ⟨_, e1, _⟩ := h1; exact Heap.lt_size e1
        · rw [q]; obtain ⟨_, e2, _⟩ := h2; exact Heap.lt_size e2
      rw [upd_ne (Nat.ne_of_lt hlt)]
      exact (hf c hcm).1
  done := by
    intro X hP hw hK hc i pins s σ H E I hf st hg
    subst hP hw hK
    obtain ⟨hz, hTI, ⟨x0, y0, hTO⟩, h1, h2⟩ := st
    obtain ⟨xs, hqx, hend⟩ := hg
    obtain ⟨its, rv, p, _⟩ := I.tuple hqx
    have l1 := rv.length
    have he : its.toArray[i]? = none := by simp; omega
    have hT : s.TypeIs (.ref z) "zip" := ⟨_, hz, rfl⟩
    unfold pyNext
    refine wpAny_bind (wpAny_attempt (wpAny_callSpecial?_slot (name := Str.ofString "__next__") hT F.slot_zip_next
      (wpAny_call_entry F.slot_zip_next hT F.entry_zip_next (zipT_end (I.ok.hd hc) D hz hTI hTO h1 (show s.heap.IsTuple a its.toArray from p) he fun h' e hk he => ?_) (F.args_zip_next_1 _))))
    obtain ⟨o, ho, hcl⟩ := he
    refine wpAny_bind (wpAny_isInstance (T := "StopIteration") (b := true) ⟨o, ho, hcl⟩ isSubtype_stop ?_)
    exact wpAny_pure ⟨rfl, I.turnedL (t' := s.toks) (ch := [z, TI, TO, i1, i2]) (fun c o hb q =>
      hk c o (fun q' => hb (by simp [q'])) (fun q' => hb (by simp [q'])) (fun q' => hb (by simp [q'])) (fun q' => hb (by simp [q'])) q) hf⟩
  self := fun A i s Q E st h => wpAny_pyIter_zip st.1 h
def iZipU (K : PySem.W.Frag) (ta : TA) : TI := fun σ H R => ta σ H fun vs H1 => ∃ a b xs ys, vs = [.ref a, .ref b] ∧ SqT K H1 a xs ∧ SqT K H1 b ys ∧ R (ItzU K a b) H1
theorem pi_zipU {X : Cx} {e e2 : Expr} {ta : TA} {p pos tpos : Pos} {elts : List Expr} {kk : Nat} (hg : Gl X "zip") (hm : X.mg "zip" = none) (ha : PA X [e, e2] ta)
    (hs : starEach [e, e2] X.env = (false, eval e X.env) :: starEach [e2] X.env := by rfl) (hpl : (backTo pos (starEach [e2] X.env)).any (·.1) = false := by rfl) :
    PI X (.Tuple elts kk tpos) (.Call (.Name "zip" p) [e, e2] [] pos) (iZipU X.K ta) := by
  intro pins s σ H R I h
  refine Call_ (ld_blt I hg hm boot_zip5 (PyProof.Rows.callWith_type1 (thn (ha pos pins s σ H _ I h) fun us s1 ⟨vs, H1, I1, r1, q1⟩ => ?_) hs hpl))
  obtain ⟨a, b, xs, ys, ex, hqx, hqy, q⟩ := q1
  subst ex
  cases r1 with
  | cons r rr =>
    cases rr with
    | cons r' rr =>
      cases rr
      cases r
      cases r'
      obtain ⟨its, rv, p1, _⟩ := I1.tuple hqx
      obtain ⟨its2, rv2, p2, _⟩ := I1.tuple hqy
      have la : a < s1.heap.objs.size := by obtain ⟨o, e, _⟩ := p1; exact Heap.lt_size e
      have lb : b < s1.heap.objs.size := by obtain ⟨o, e, _⟩ := p2; exact Heap.lt_size e
      refine call_zipU (show s1.heap.IsTuple a its.toArray from p1) (show s1.heap.IsTuple b its2.toArray from p2) fun h' hz hTI hTO h1 h2 hk => wpAny_pyIter_zip hz ?_
      have I2 : Inv X pins σ H1 { s1 with heap := h' } := I1.kept (t' := s1.toks) hk
      refine ⟨s1.heap.objs.size + 4, [s1.heap.objs.size + 4, s1.heap.objs.size + 2, s1.heap.objs.size + 3, s1.heap.objs.size, s1.heap.objs.size + 1], _, _, H1, rfl, I2, turn_zipU (PySem.W.ktu_apart s1.heap.objs.size a b la lb), ⟨hz, hTI, ⟨_, _, hTO⟩, h1, h2⟩, fun c hcm => ?_, q⟩
      have e' : c = s1.heap.objs.size + 4 ∨ c = s1.heap.objs.size + 2 ∨ c = s1.heap.objs.size + 3 ∨ c = s1.heap.objs.size ∨ c = s1.heap.objs.size + 1 := by simpa using hcm
      have hle : s1.heap.objs.size ≤ c := by
        rcases e' with z | z | z | z | z <;> rw [z] <;> first | exact Nat.le_refl _ | exact Nat.le_add_right _ _
      exact I1.fpOk hle (I1.hok.fresh hle)
section
variable {K : PySem.W.Frag} {g : TG} {tt : TT} {te : TE} {vs : List Nat} {σ : St} {H1 : Hp} {D : Addr} {Qd : Hp → Prop}
theorem lc_zipU {a b : Addr} {xs ys : List V} (Pv : Nat → Hp → Prop) (h0 : Pv 0 (upd H1 D (.lst []))) (hle : xs.length ≤ ys.length) (hl : ∀ i H, i ≤ xs.length → Pv i H → SqT K H a xs ∧ SqT K H b ys)
    (hs : ∀ i x y T H, xs[i]? = some x → ys[i]? = some y → H T = none → Pv i H → g (.ref T) (wipe σ vs) (upd H T (.tup [x, y])) fun σ2 H2 => wipe σ2 vs = wipe σ vs ∧ tt σ2 H2 fun b H3 =>
      if b = true then te σ2 H3 fun y H4 => ∃ acc, H4 D = some (.lst acc) ∧ acc.length < sizeLine ∧ Pv (i + 1) (upd H4 D (.lst (acc ++ [y]))) else Pv (i + 1) H3) (hd : ∀ H, Pv xs.length H → Qd H) :
    ∃ W : Nat → Nat → Hp → Prop, (∃ m, W 0 m (upd H1 D (.lst []))) ∧ ∀ i m H, W i m H →
      ((ItzU K a b).stop i H ∧ Qd H) ∨ ((ItzU K a b).go i H ∧ ∃ Nx : Hp → Prop, (∀ H', Nx H' → ∃ m', m' < m ∧ W (i + 1) m' H') ∧ ∀ x H', (ItzU K a b).yld i H x H' → g x (wipe σ vs) H' fun σ2 H2 => wipe σ2 vs = wipe σ vs ∧ tt σ2 H2 fun b H3 =>
        if b = true then te σ2 H3 fun y H4 => ∃ acc, H4 D = some (.lst acc) ∧ acc.length < sizeLine ∧ Nx (upd H4 D (.lst (acc ++ [y]))) else Nx H3) := by
  refine ⟨fun i m H => m = xs.length - i ∧ i ≤ xs.length ∧ Pv i H, ⟨xs.length, by simp, Nat.zero_le _, h0⟩, ?_⟩
  rintro i m H ⟨rfl, hi, p⟩
  obtain ⟨q1, q2⟩ := hl i H hi p
  by_cases hlt : i < xs.length
  · have hlt2 : i < ys.length := by omega
    refine .inr ⟨⟨xs, ys, xs[i], ys[i], q1, q2, by simp [hlt], by simp [hlt2]⟩, Pv (i + 1), fun H' p' => ⟨xs.length - (i + 1), by omega, rfl, hlt, p'⟩, fun x H' y => ?_⟩
    obtain ⟨T, x1, y1, rfl, hT, rfl, e1, e2⟩ := y
    exact hs i x1 y1 T H (e1 xs q1) (e2 ys q2) hT p
  · have e : i = xs.length := by omega
    subst e
    exact .inl ⟨⟨xs, q1, Nat.le_refl _⟩, hd H p⟩
end
end L2

set_option Elab.async false
set_option linter.all false
set_option maxRecDepth 100000
set_option maxHeartbeats 4000000
namespace L2
open PySem PySem.Spec PyProof.Rows
/-! products of polynomials, and how they are found by packed rows -/
def addP (a b : List Nat) : List Nat := List.zipWith (· + ·) a b
def mulT (t : List Nat × Int) (us : Pol) : Pol := us.map fun u => (addP t.1 u.1, t.2 * u.2)
def mulP (ts us : Pol) : Pol := ts.flatMap fun t => mulT t us
theorem addP_len {a b : List Nat} (h : a.length = b.length) : (addP a b).length = a.length := by unfold addP; rw [List.length_zipWith, h, Nat.min_self]
theorem mulP_take {ts us : Pol} {i : Nat} {t : List Nat × Int} (h : ts[i]? = some t) : mulP (ts.take (i + 1)) us = mulP (ts.take i) us ++ mulT t us := by
  unfold mulP
  rw [take_snoc h, List.flatMap_append]; simp
theorem mulP_len (us : Pol) : ∀ ts : Pol, (mulP ts us).length = ts.length * us.length
  | [] => by simp [mulP]
  | t :: r => by
    show (mulT t us ++ mulP r us).length = (r.length + 1) * us.length
    rw [List.length_append, mulP_len us r, Nat.add_mul, Nat.one_mul]
    unfold mulT
    rw [List.length_map]; omega
theorem addP_sum : ∀ {a b : List Nat}, a.length = b.length → (addP a b).sum = a.sum + b.sum
  | [], [], _ => rfl
  | x :: a, y :: b, h => by
    have e : (addP (x :: a) (y :: b)).sum = (x + y) + (addP a b).sum := List.sum_cons
    rw [e, addP_sum (by simpa using h), List.sum_cons, List.sum_cons]; omega
  | [], _ :: _, h => by simp at h
  | _ :: _, [], h => by simp at h
/-! keys -/
def pkF (k : Nat) (ns : List Nat) : Nat := ns.foldl (fun k x => k * 32 + x) k
def pk (ns : List Nat) : Nat := pkF 0 ns
/-! sums over terms -/
/-! rows -/
theorem SF_addUp0 (F : List Nat → Int) (l : Pol) : SF F (addUp [] l) = SF F l := by
  rw [SF_addUp F l [] List.nodup_nil]
  show (0 : Int) + _ = _
  omega
/-! the numbers of a row -/
/-! how great the numbers of a product are -/
/-! the terms -/
theorem mem_mulP {ts us : Pol} {w : List Nat × Int} : w ∈ mulP ts us ↔ ∃ t ∈ ts, ∃ u ∈ us, w = (addP t.1 u.1, t.2 * u.2) := by
  unfold mulP mulT
  rw [List.mem_flatMap]
  constructor
  · rintro ⟨t, ht, h⟩
    obtain ⟨u, hu, rfl⟩ := List.mem_map.mp h
    exact ⟨t, ht, u, hu, rfl⟩
  · rintro ⟨t, ht, u, hu, rfl⟩
    exact ⟨t, ht, List.mem_map.mpr ⟨u, hu, rfl⟩⟩
end L2

set_option Elab.async false
set_option linter.all false
set_option maxRecDepth 100000
set_option maxHeartbeats 4000000
namespace L2
open PySem PySem.Spec PyProof.Rows
/-! dicts of numbers by numbers -/
def One (D : Pol) : Prop := ∀ t ∈ D, ∃ x, t.1 = [x]
theorem one_mul {A B : Pol} (oa : One A) (ob : One B) : One (mulP A B) := fun w hw => by
  obtain ⟨t, h1, u, h2, rfl⟩ := mem_mulP.mp hw
  obtain ⟨x, e1⟩ := oa t h1
  obtain ⟨y, e2⟩ := ob u h2
  exact ⟨x + y, by show addP t.1 u.1 = _; rw [e1, e2]; rfl⟩
/-! comprehensions over reversed(range(n)), numbers -/
section
variable {K : PySem.W.Frag} {g : TG} {tt : TT} {te : TE} {vs : List Nat} {σ : St} {H1 : Hp} {D : Addr} {Qd : Hp → Prop}
end
end L2

set_option Elab.async false
set_option linter.all false
set_option maxRecDepth 100000
set_option maxHeartbeats 4000000
namespace L2
open PySem PySem.Spec PyProof.Rows
/-! how polynomials are reckoned with -/
theorem SF_ext (F : List Nat → Int) {a b : Pol} (h : ∀ ns, cf a ns = cf b ns) : SF F a = SF F b := by
  have neg : ∀ l : Pol, SF F (l.map fun t => (t.1, -t.2)) = - SF F l := fun l => by
    induction l with
    | nil => rfl
    | cons t r ih =>
      show -t.2 * F t.1 + SF F _ = -(t.2 * F t.1 + SF F r)
      rw [ih, Int.neg_mul]; omega
  have cneg : ∀ (l : Pol) ns, cf (l.map fun t => (t.1, -t.2)) ns = - cf l ns := fun l ns => by
    induction l with
    | nil => rfl
    | cons t r ih =>
      show (if t.1 = ns then -t.2 else 0) + cf _ ns = -((if t.1 = ns then t.2 else 0) + cf r ns)
      rw [ih]
      by_cases e : t.1 = ns
      · rw [if_pos e, if_pos e]; omega
      · rw [if_neg e, if_neg e]; omega
  have z : SF F (addUp [] (a ++ b.map fun t => (t.1, -t.2))) = 0 := by
    have nd := addUp_nodup (a ++ b.map fun t => (t.1, -t.2)) [] List.nodup_nil
    have hc : ∀ ns, cf (addUp [] (a ++ b.map fun t => (t.1, -t.2))) ns = 0 := fun ns => by
      rw [addUp_cf ns (a ++ b.map fun t => (t.1, -t.2)) [] List.nodup_nil, cf_app, cneg, h ns]
      show (0 : Int) + _ = 0
      omega
    generalize addUp [] (a ++ b.map fun t => (t.1, -t.2)) = D at nd hc
    have h0 : ∀ t ∈ D, t.2 = 0 := fun t ht => by rw [← cf_mem nd ht]; exact hc _
    clear nd hc
    induction D with
    | nil => rfl
    | cons t r ih =>
      show t.2 * F t.1 + SF F r = 0
      rw [h0 t (by simp), ih fun u hu => h0 u (by simp [hu])]; simp
  rw [SF_addUp0, SF_app, neg] at z
  omega
theorem cf_far {m : Nat} {a : Pol} (ha : ∀ t ∈ a, t.1.length = m) {ns : List Nat} (h : ns.length ≠ m) : cf a ns = 0 := cf_none fun z => h (by
  obtain ⟨t, ht, rfl⟩ := List.mem_map.mp z
  exact ha t ht)
/-! bounds -/
structure Bd (m z j k : Nat) (ts : Pol) : Prop where
  cn : Can m ts
  few : ts.length ≤ 2 ^ j
  sm : Small z (2 ^ k) ts
theorem mul_small {z1 z2 B1 B2 m : Nat} {a b : Pol} (ha : Small z1 B1 a) (hb : Small z2 B2 b) (la : ∀ t ∈ a, t.1.length = m) (lb : ∀ t ∈ b, t.1.length = m) : Small (z1 + z2) (B1 * B2) (mulP a b) := fun w hw => by
  obtain ⟨t, ht, u, hu, rfl⟩ := mem_mulP.mp hw
  obtain ⟨h1, h2⟩ := ha t ht
  obtain ⟨h3, h4⟩ := hb u hu
  refine ⟨?_, ?_⟩
  · show (addP t.1 u.1).sum ≤ _
    rw [addP_sum (by rw [la t ht, lb u hu])]; omega
  · show (t.2 * u.2).natAbs ≤ _
    rw [Int.natAbs_mul]; exact Nat.mul_le_mul h2 h4
theorem Bd.of {m z j k : Nat} {ts us : Pol} (hc : Can m us) (e : ∀ ns, cf us ns = cf ts ns) (hl : ts.length ≤ 2 ^ j) (hs : Small z (2 ^ k) ts) : Bd m z j (k + j) us := by
  refine ⟨hc, Nat.le_trans (hc.len e) hl, (hc.small e hs).mono (Nat.le_refl _) ?_⟩
  rw [Nat.pow_add, Nat.mul_comm]
  exact Nat.mul_le_mul_left _ hl
theorem two_le {a b : Nat} (h : a ≤ b) : 2 ^ a ≤ 2 ^ b := Nat.pow_le_pow_right (by decide) h
theorem Bd.mono {m z z' j j' k k' : Nat} {ts : Pol} (h : Bd m z j k ts) (hz : z ≤ z') (hj : j ≤ j') (hk : k ≤ k') : Bd m z' j' k' ts :=
  ⟨h.cn, Nat.le_trans h.few (two_le hj), h.sm.mono hz (two_le hk)⟩
theorem Bd.len {m z j k : Nat} {ts : Pol} (h : Bd m z j k ts) : ∀ t ∈ ts, t.1.length = m := fun t ht => (h.cn.ok t ht).1
theorem Bd.sum {m z j k : Nat} {ts : Pol} (h : Bd m z j k ts) : ∀ t ∈ ts, t.1.sum ≤ z := fun t ht => (h.sm t ht).1
theorem Bd.times {m z1 z2 j1 j2 k1 k2 : Nat} {a b w : Pol} (ha : Bd m z1 j1 k1 a) (hb : Bd m z2 j2 k2 b) (hw : Can m w) (e : ∀ ns, cf w ns = cf (mulP a b) ns) : Bd m (z1 + z2) (j1 + j2) (k1 + k2 + (j1 + j2)) w :=
  Bd.of (ts := mulP a b) hw e (by rw [mulP_len, Nat.pow_add]; exact Nat.mul_le_mul ha.few hb.few) (by rw [Nat.pow_add]; exact mul_small ha.sm hb.sm ha.len hb.len)
end L2

set_option Elab.async false
set_option linter.all false
set_option maxRecDepth 100000
namespace L2
open PySem PySem.Spec PyProof.Rows
section
variable {P : Program} {w : World} {K : PySem.W.Frag} {mg : Str → Option Value} {base : Heap} {gq : Array GenState → Drawn → Prop} {k : Nat} {f : Addr} {fd : FuncData} {ps : List Str} {sp sp' : Sp}
/-- two promises of one def -/
theorem FnOk.or {CX : CXT} (F : FnOk P w K mg base CX k f fd ps sp) (G : FnOk P w K mg base CX k f fd ps sp') : FnOk P w K mg base CX k f fd ps (fun vs H Q E => sp vs H Q E ∨ sp' vs H Q E) :=
  ⟨fun vs H Q E h => h.elim (F.len vs H Q E) (G.len vs H Q E), fun A outer s H args us vs Q E hr he hb hv hs => hs.elim (F.run A outer s H args us vs Q E hr he hb hv) (G.run A outer s H args us vs Q E hr he hb hv)⟩
end
/-- whether a thing is an order, as is_order tells -/
def OrdIs (K : PySem.W.Frag) (H : Hp) (v : V) (b : Bool) : Prop := (∃ k, Kd K H v k ∧ k ≠ "tuple" ∧ b = false) ∨ ∃ a xs, v = .ref a ∧ SqT K H a xs ∧ Known K H xs ∧ b = ordV xs
theorem OrdIs.same {K : PySem.W.Frag} {H H' : Hp} {v : V} {b : Bool} (h : OrdIs K H v b) (s : Same H H') : OrdIs K H' v b := by
  rcases h with ⟨k, a, c, d⟩ | ⟨a, xs, rfl, c, d, e⟩
  · exact .inl ⟨k, s.kd a, c, d⟩
  · exact .inr ⟨a, xs, rfl, s.seqT c, fun x hx => let ⟨k, h⟩ := d x hx; ⟨k, s.kd h⟩, e⟩
end L2

set_option Elab.async false
set_option linter.all false
set_option maxRecDepth 100000
set_option maxHeartbeats 4000000
namespace L2
open PySem PySem.Spec PyProof.Rows
/-- whether a thing is a word of so many things -/
def wordV (m : Int) (xs : List V) : Bool := decide (xs.length ≤ 30) && xs.all fun x => withinV x 0 (m - 2)
def WordIs (K : PySem.W.Frag) (H : Hp) (m : Int) (v : V) (b : Bool) : Prop := (∃ k, Kd K H v k ∧ k ≠ "list" ∧ b = false) ∨ ∃ a xs, v = .ref a ∧ SqL K H a xs ∧ Known K H xs ∧ b = wordV m xs
theorem WordIs.same {K : PySem.W.Frag} {H H' : Hp} {m : Int} {v : V} {b : Bool} (h : WordIs K H m v b) (s : Same H H') : WordIs K H' m v b := by
  rcases h with ⟨k, a, c, d⟩ | ⟨a, xs, rfl, c, d, e⟩
  · exact .inl ⟨k, s.kd a, c, d⟩
  · exact .inr ⟨a, xs, rfl, s.seqL c, fun x hx => let ⟨k, h⟩ := d x hx; ⟨k, s.kd h⟩, e⟩
theorem wordV_true {m : Int} {xs : List V} (h : xs.length ≤ 30) (hi : ∀ x ∈ xs, ∃ i : Int, x = .int i ∧ 0 ≤ i ∧ i ≤ m - 2) : wordV m xs = true := by
  unfold wordV
  rw [decide_eq_true h, Bool.true_and, List.all_eq_true]
  intro x hx
  obtain ⟨i, rfl, h0, h1⟩ := hi x hx
  simp [withinV, h0, h1]
theorem word_known {K : PySem.W.Frag} {H : Hp} {m : Int} {xs : List V} (hi : ∀ x ∈ xs, ∃ i : Int, x = .int i ∧ 0 ≤ i ∧ i ≤ m - 2) : Known K H xs := fun x hx => by
  obtain ⟨i, rfl, _⟩ := hi x hx
  exact ⟨"int", rfl⟩
end L2

set_option Elab.async false
set_option linter.all false
set_option maxRecDepth 100000
set_option maxHeartbeats 4000000
namespace L2
open PySem PySem.Spec PyProof.Rows
section
variable {X : Cx}
end
end L2

set_option Elab.async false
set_option linter.all false
set_option maxRecDepth 100000
set_option maxHeartbeats 4000000
namespace L2
open PySem PySem.Spec PyProof.Rows
section
variable {K : PySem.W.Frag} {g : TG} {tt : TT} {te : TE} {vs : List Nat} {σ : St} {H1 H0 : Hp} {D : Addr} {Qd : Hp → Prop}
end
end L2

set_option Elab.async false
set_option linter.all false
set_option maxRecDepth 100000
set_option maxHeartbeats 4000000
namespace K32
open PySem L2
def top (i : Nat) : Stmt := PySem.Challenge.pw_crossbends_k32_differences_along_words.main.body.getD i (.Pass ⟨0, 0, 0, 0⟩)
abbrev s_is_whole : Stmt := top 7
abbrev N_is_whole : List Str := ["thing"]
abbrev P_is_whole : List Str := ["thing"]
theorem sc_is_whole : FnScope N_is_whole P_is_whole (defScope s_is_whole) := ⟨rfl, rfl, rfl, by decide +kernel, rfl, by decide +kernel, by decide +kernel⟩
abbrev s_is_within : Stmt := top 8
abbrev N_is_within : List Str := ["thing", "least", "most"]
abbrev P_is_within : List Str := ["thing", "least", "most"]
theorem sc_is_within : FnScope N_is_within P_is_within (defScope s_is_within) := ⟨rfl, rfl, rfl, by decide +kernel, rfl, by decide +kernel, by decide +kernel⟩
abbrev s_check_count : Stmt := top 9
abbrev N_check_count : List Str := ["many"]
abbrev P_check_count : List Str := ["many"]
theorem sc_check_count : FnScope N_check_count P_check_count (defScope s_check_count) := ⟨rfl, rfl, rfl, by decide +kernel, rfl, by decide +kernel, by decide +kernel⟩
abbrev s_swapped : Stmt := top 10
abbrev N_swapped : List Str := ["row", "k"]
abbrev P_swapped : List Str := ["row", "k"]
theorem sc_swapped : FnScope N_swapped P_swapped (defScope s_swapped) := ⟨rfl, rfl, rfl, by decide +kernel, rfl, by decide +kernel, by decide +kernel⟩
abbrev s_greatest_weight : Stmt := top 13
abbrev N_greatest_weight : List Str := ["some", "powers", "number"]
abbrev P_greatest_weight : List Str := ["some"]
theorem sc_greatest_weight : FnScope N_greatest_weight P_greatest_weight (defScope s_greatest_weight) := ⟨rfl, rfl, rfl, by decide +kernel, rfl, by decide +kernel, by decide +kernel⟩
abbrev s_is_word : Stmt := top 16
abbrev N_is_word : List Str := ["many", "thing"]
abbrev P_is_word : List Str := ["many", "thing"]
theorem sc_is_word : FnScope N_is_word P_is_word (defScope s_is_word) := ⟨rfl, rfl, rfl, by decide +kernel, rfl, by decide +kernel, by decide +kernel⟩
abbrev s_check_word : Stmt := top 17
abbrev N_check_word : List Str := ["many", "word"]
abbrev P_check_word : List Str := ["many", "word"]
theorem sc_check_word : FnScope N_check_word P_check_word (defScope s_check_word) := ⟨rfl, rfl, rfl, by decide +kernel, rfl, by decide +kernel, by decide +kernel⟩
abbrev s_check_room : Stmt := top 19
abbrev N_check_room : List Str := ["some"]
abbrev P_check_room : List Str := ["some"]
theorem sc_check_room : FnScope N_check_room P_check_room (defScope s_check_room) := ⟨rfl, rfl, rfl, by decide +kernel, rfl, by decide +kernel, by decide +kernel⟩
abbrev s_differed_by : Stmt := top 20
abbrev N_differed_by : List Str := ["many", "some", "word", "told", "k"]
abbrev P_differed_by : List Str := ["many", "some", "word"]
theorem sc_differed_by : FnScope N_differed_by P_differed_by (defScope s_differed_by) := ⟨rfl, rfl, rfl, by decide +kernel, rfl, by decide +kernel, by decide +kernel⟩
abbrev s_raised_by : Stmt := top 21
abbrev N_raised_by : List Str := ["many", "some", "word", "told", "k"]
abbrev P_raised_by : List Str := ["many", "some", "word"]
theorem sc_raised_by : FnScope N_raised_by P_raised_by (defScope s_raised_by) := ⟨rfl, rfl, rfl, by decide +kernel, rfl, by decide +kernel, by decide +kernel⟩
abbrev s_without_idle : Stmt := top 22
abbrev N_without_idle : List Str := ["many", "word", "kept", "order", "k"]
abbrev P_without_idle : List Str := ["many", "word"]
theorem sc_without_idle : FnScope N_without_idle P_without_idle (defScope s_without_idle) := ⟨rfl, rfl, rfl, by decide +kernel, rfl, by decide +kernel, by decide +kernel⟩
abbrev s_lifted : Stmt := top 23
abbrev N_lifted : List Str := ["some", "k", "powers", "number"]
abbrev P_lifted : List Str := ["some", "k"]
theorem sc_lifted : FnScope N_lifted P_lifted (defScope s_lifted) := ⟨rfl, rfl, rfl, by decide +kernel, rfl, by decide +kernel, by decide +kernel⟩
abbrev s_difference : Stmt := top 24
abbrev N_difference : List Str := ["some", "k", "terms", "key", "row", "power", "number", "powers"]
abbrev P_difference : List Str := ["some", "k"]
theorem sc_difference : FnScope N_difference P_difference (defScope s_difference) := ⟨rfl, rfl, rfl, by decide +kernel, rfl, by decide +kernel, by decide +kernel⟩
abbrev s_rows_by_sum : Stmt := top 25
abbrev N_rows_by_sum : List Str := ["some", "k", "rows", "powers", "number", "both", "key"]
abbrev P_rows_by_sum : List Str := ["some", "k"]
theorem sc_rows_by_sum : FnScope N_rows_by_sum P_rows_by_sum (defScope s_rows_by_sum) := ⟨rfl, rfl, rfl, by decide +kernel, rfl, by decide +kernel, by decide +kernel⟩
abbrev s_row_difference : Stmt := top 26
abbrev N_row_difference : List Str := ["row", "found", "number", "power"]
abbrev P_row_difference : List Str := ["row"]
theorem sc_row_difference : FnScope N_row_difference P_row_difference (defScope s_row_difference) := ⟨rfl, rfl, rfl, by decide +kernel, rfl, by decide +kernel, by decide +kernel⟩
abbrev s_mixed : Stmt := top 28
abbrev N_mixed : List Str := ["_law_cell_here", "_law_k", "_law_number"]
abbrev P_mixed : List Str := ["_law_cell_here", "_law_k"]
theorem sc_mixed : FnScope N_mixed P_mixed (defScope s_mixed) := ⟨rfl, rfl, rfl, by decide +kernel, rfl, by decide +kernel, by decide +kernel⟩
abbrev s_cell : Stmt := top 29
abbrev N_cell : List Str := ["_law_script", "_law_k", "_law_cell_here", "_law_found", "_law_j"]
abbrev P_cell : List Str := ["_law_script", "_law_k"]
theorem sc_cell : FnScope N_cell P_cell (defScope s_cell) := ⟨rfl, rfl, rfl, by decide +kernel, rfl, by decide +kernel, by decide +kernel⟩
abbrev s_take : Stmt := top 30
abbrev N_take : List Str := ["_law_pile", "_law_size", "_law_digit"]
abbrev P_take : List Str := ["_law_pile", "_law_size"]
theorem sc_take : FnScope N_take P_take (defScope s_take) := ⟨rfl, rfl, rfl, by decide +kernel, rfl, by decide +kernel, by decide +kernel⟩
abbrev s_gathered : Stmt := top 31
abbrev N_gathered : List Str := ["_law_counts", "_law_powers", "_law_number"]
abbrev P_gathered : List Str := ["_law_counts"]
theorem sc_gathered : FnScope N_gathered P_gathered (defScope s_gathered) := ⟨rfl, rfl, rfl, by decide +kernel, rfl, by decide +kernel, by decide +kernel⟩
abbrev s_poly : Stmt := top 32
abbrev N_poly : List Str := ["_law_pile", "_law_many", "_law_most", "_law_weight", "_law_counts", "_law_k", "_law_powers", "_law_left", "_law_j", "_law_turn", "_law_number", "_law_key"]
abbrev P_poly : List Str := ["_law_pile", "_law_many", "_law_most", "_law_weight"]
theorem sc_poly : FnScope N_poly P_poly (defScope s_poly) := ⟨rfl, rfl, rfl, by decide +kernel, rfl, by decide +kernel, by decide +kernel⟩
abbrev s_times : Stmt := top 33
abbrev N_times : List Str := ["_law_one", "_law_other", "_law_counts", "_law_left", "_law_first", "_law_right", "_law_second", "_law_powers", "_law_a", "_law_b"]
abbrev P_times : List Str := ["_law_one", "_law_other"]
theorem sc_times : FnScope N_times P_times (defScope s_times) := ⟨rfl, rfl, rfl, by decide +kernel, rfl, by decide +kernel, by decide +kernel⟩
abbrev s_unknown : Stmt := top 34
abbrev N_unknown : List Str := ["_law_many", "_law_k", "_law_place"]
abbrev P_unknown : List Str := ["_law_many", "_law_k"]
theorem sc_unknown : FnScope N_unknown P_unknown (defScope s_unknown) := ⟨rfl, rfl, rfl, by decide +kernel, rfl, by decide +kernel, by decide +kernel⟩
abbrev s_whole : Stmt := top 35
abbrev N_whole : List Str := ["_law_found"]
abbrev P_whole : List Str := ["_law_found"]
theorem sc_whole : FnScope N_whole P_whole (defScope s_whole) := ⟨rfl, rfl, rfl, by decide +kernel, rfl, by decide +kernel, by decide +kernel⟩
abbrev s_is_poly : Stmt := top 36
abbrev N_is_poly : List Str := ["_law_found", "_law_many", "_law_one", "_law_power", "_law_k"]
abbrev P_is_poly : List Str := ["_law_found", "_law_many"]
theorem sc_is_poly : FnScope N_is_poly P_is_poly (defScope s_is_poly) := ⟨rfl, rfl, rfl, by decide +kernel, rfl, by decide +kernel, by decide +kernel⟩
abbrev s_divided : Stmt := top 37
abbrev N_divided : List Str := ["_law_some", "_law_k", "_law_counts", "_law_powers", "_law_number", "_law_a", "_law_b", "_law_step", "_law_key"]
abbrev P_divided : List Str := ["_law_some", "_law_k"]
theorem sc_divided : FnScope N_divided P_divided (defScope s_divided) := ⟨rfl, rfl, rfl, by decide +kernel, rfl, by decide +kernel, by decide +kernel⟩
abbrev s_along : Stmt := top 38
abbrev N_along : List Str := ["_law_many", "_law_some", "_law_word", "_law_lift", "_law_found", "_law_k"]
abbrev P_along : List Str := ["_law_many", "_law_some", "_law_word", "_law_lift"]
theorem sc_along : FnScope N_along P_along (defScope s_along) := ⟨rfl, rfl, rfl, by decide +kernel, rfl, by decide +kernel, by decide +kernel⟩
abbrev s_good : Stmt := top 39
abbrev N_good : List Str := ["_law_many", "_law_some", "_law_word", "_law_kept", "_law_dues", "_law_turn", "_law_found", "_law_one"]
abbrev P_good : List Str := ["_law_many", "_law_some", "_law_word"]
theorem sc_good : FnScope N_good P_good (defScope s_good) := ⟨rfl, rfl, rfl, by decide +kernel, rfl, by decide +kernel, by decide +kernel⟩
abbrev s_law : Stmt := top 40
abbrev N_law : List Str := ["_law_script", "_law_turn", "_law_pile", "_law_many", "_law_word", "_law_k", "_law_some"]
abbrev P_law : List Str := ["_law_script"]
theorem sc_law : FnScope N_law P_law (defScope s_law) := ⟨rfl, rfl, rfl, by decide +kernel, rfl, by decide +kernel, by decide +kernel⟩
structure Adr where
  is_whole : Addr
  fd_is_whole : FuncData
  is_within : Addr
  fd_is_within : FuncData
  check_count : Addr
  fd_check_count : FuncData
  swapped : Addr
  fd_swapped : FuncData
  greatest_weight : Addr
  fd_greatest_weight : FuncData
  is_word : Addr
  fd_is_word : FuncData
  check_word : Addr
  fd_check_word : FuncData
  check_room : Addr
  fd_check_room : FuncData
  differed_by : Addr
  fd_differed_by : FuncData
  raised_by : Addr
  fd_raised_by : FuncData
  without_idle : Addr
  fd_without_idle : FuncData
  lifted : Addr
  fd_lifted : FuncData
  difference : Addr
  fd_difference : FuncData
  rows_by_sum : Addr
  fd_rows_by_sum : FuncData
  row_difference : Addr
  fd_row_difference : FuncData
  mixed : Addr
  fd_mixed : FuncData
  cell : Addr
  fd_cell : FuncData
  take : Addr
  fd_take : FuncData
  gathered : Addr
  fd_gathered : FuncData
  poly : Addr
  fd_poly : FuncData
  times : Addr
  fd_times : FuncData
  unknown : Addr
  fd_unknown : FuncData
  whole : Addr
  fd_whole : FuncData
  is_poly : Addr
  fd_is_poly : FuncData
  divided : Addr
  fd_divided : FuncData
  along : Addr
  fd_along : FuncData
  good : Addr
  fd_good : FuncData
  law : Addr
  fd_law : FuncData
  t_MOST_THINGS : Tok
  t_MOST_WEIGHT : Tok
  t_MOST_ENTRIES : Tok
  c_is_word : Addr
  p_is_word : Addr
structure Txt (K : PySem.W.Frag) (mg : Str → Option Value) (A : Adr) : Prop where
  m_is_whole : mg "is_whole" = some (.ref A.is_whole)
  F_is_whole : Fun K "is_whole" "is_whole" s_is_whole A.is_whole A.fd_is_whole
  m_is_within : mg "is_within" = some (.ref A.is_within)
  F_is_within : Fun K "is_within" "is_within" s_is_within A.is_within A.fd_is_within
  m_check_count : mg "check_count" = some (.ref A.check_count)
  F_check_count : Fun K "check_count" "check_count" s_check_count A.check_count A.fd_check_count
  m_swapped : mg "swapped" = some (.ref A.swapped)
  F_swapped : Fun K "swapped" "swapped" s_swapped A.swapped A.fd_swapped
  m_greatest_weight : mg "greatest_weight" = some (.ref A.greatest_weight)
  F_greatest_weight : Fun K "greatest_weight" "greatest_weight" s_greatest_weight A.greatest_weight A.fd_greatest_weight
  m_is_word : mg "is_word" = some (.ref A.is_word)
  F_is_word : Fun K "is_word" "is_word" s_is_word A.is_word A.fd_is_word
  m_check_word : mg "check_word" = some (.ref A.check_word)
  F_check_word : Fun K "check_word" "check_word" s_check_word A.check_word A.fd_check_word
  m_check_room : mg "check_room" = some (.ref A.check_room)
  F_check_room : Fun K "check_room" "check_room" s_check_room A.check_room A.fd_check_room
  m_differed_by : mg "differed_by" = some (.ref A.differed_by)
  F_differed_by : Fun K "differed_by" "differed_by" s_differed_by A.differed_by A.fd_differed_by
  m_raised_by : mg "raised_by" = some (.ref A.raised_by)
  F_raised_by : Fun K "raised_by" "raised_by" s_raised_by A.raised_by A.fd_raised_by
  m_without_idle : mg "without_idle" = some (.ref A.without_idle)
  F_without_idle : Fun K "without_idle" "without_idle" s_without_idle A.without_idle A.fd_without_idle
  m_lifted : mg "lifted" = some (.ref A.lifted)
  F_lifted : Fun K "lifted" "lifted" s_lifted A.lifted A.fd_lifted
  m_difference : mg "difference" = some (.ref A.difference)
  F_difference : Fun K "difference" "difference" s_difference A.difference A.fd_difference
  m_rows_by_sum : mg "rows_by_sum" = some (.ref A.rows_by_sum)
  F_rows_by_sum : Fun K "rows_by_sum" "rows_by_sum" s_rows_by_sum A.rows_by_sum A.fd_rows_by_sum
  m_row_difference : mg "row_difference" = some (.ref A.row_difference)
  F_row_difference : Fun K "row_difference" "row_difference" s_row_difference A.row_difference A.fd_row_difference
  m_mixed : mg "_law_mixed" = some (.ref A.mixed)
  F_mixed : Fun K "_law_mixed" "_law_mixed" s_mixed A.mixed A.fd_mixed
  m_cell : mg "_law_cell" = some (.ref A.cell)
  F_cell : Fun K "_law_cell" "_law_cell" s_cell A.cell A.fd_cell
  m_take : mg "_law_take" = some (.ref A.take)
  F_take : Fun K "_law_take" "_law_take" s_take A.take A.fd_take
  m_gathered : mg "_law_gathered" = some (.ref A.gathered)
  F_gathered : Fun K "_law_gathered" "_law_gathered" s_gathered A.gathered A.fd_gathered
  m_poly : mg "_law_poly" = some (.ref A.poly)
  F_poly : Fun K "_law_poly" "_law_poly" s_poly A.poly A.fd_poly
  m_times : mg "_law_times" = some (.ref A.times)
  F_times : Fun K "_law_times" "_law_times" s_times A.times A.fd_times
  m_unknown : mg "_law_unknown" = some (.ref A.unknown)
  F_unknown : Fun K "_law_unknown" "_law_unknown" s_unknown A.unknown A.fd_unknown
  m_whole : mg "_law_whole" = some (.ref A.whole)
  F_whole : Fun K "_law_whole" "_law_whole" s_whole A.whole A.fd_whole
  m_is_poly : mg "_law_is_poly" = some (.ref A.is_poly)
  F_is_poly : Fun K "_law_is_poly" "_law_is_poly" s_is_poly A.is_poly A.fd_is_poly
  m_divided : mg "_law_divided" = some (.ref A.divided)
  F_divided : Fun K "_law_divided" "_law_divided" s_divided A.divided A.fd_divided
  m_along : mg "_law_along" = some (.ref A.along)
  F_along : Fun K "_law_along" "_law_along" s_along A.along A.fd_along
  m_good : mg "_law_good" = some (.ref A.good)
  F_good : Fun K "_law_good" "_law_good" s_good A.good A.fd_good
  m_law : mg "law" = some (.ref A.law)
  F_law : Fun K "law" "law" s_law A.law A.fd_law
  g_MOST_THINGS : mg "MOST_THINGS" = some (.int 5 A.t_MOST_THINGS)
  g_MOST_WEIGHT : mg "MOST_WEIGHT" = some (.int 20 A.t_MOST_WEIGHT)
  g_MOST_ENTRIES : mg "MOST_ENTRIES" = some (.int 30 A.t_MOST_ENTRIES)
  z_abs : mg "abs" = none
  z_all : mg "all" = none
  z_bool : mg "bool" = none
  z_int : mg "int" = none
  z_isinstance : mg "isinstance" = none
  z_len : mg "len" = none
  z_list : mg "list" = none
  z_max : mg "max" = none
  z_min : mg "min" = none
  z_range : mg "range" = none
  z_reversed : mg "reversed" = none
  z_sorted : mg "sorted" = none
  z_str : mg "str" = none
  z_sum : mg "sum" = none
  z_tuple : mg "tuple" = none
  z_zip : mg "zip" = none
  c_is_word : A.fd_is_word.code = .ref A.c_is_word
  tk : tupK K = true
/-- of the heap that every state bears: the codes of the defs with a generator, the module of the builtins -/
structure Bas (mg : Str → Option Value) (base : Heap) (A : Adr) : Prop where
  bm : ∃ bm ob, mg "__builtins__" = some (.ref bm) ∧ bm ≠ builtinsNs ∧ base.get? bm = some ob ∧ ob.cls = .type "module" ∧ ob.dict = some builtinsNs ∧ ob.data = .plain
  d_is_word : PySem.W.CodeHd base A.c_is_word A.p_is_word
/-- the tables that may grow -/
def Tab (A : Adr) (H : Hp) : Prop := H A.p_is_word = some (TabP A.p_is_word)
section
variable {K : PySem.W.Frag} {mg : Str → Option Value} {A : Adr}
theorem b_is_whole (T : Txt K mg A) : Binds K A.fd_is_whole P_is_whole [] := T.F_is_whole.binds fun _ _ _ _ _ _ us hl => match us, hl with | [_], _ => rfl
theorem b_is_within (T : Txt K mg A) : Binds K A.fd_is_within P_is_within [] := T.F_is_within.binds fun _ _ _ _ _ _ us hl => match us, hl with | [_, _, _], _ => rfl
theorem b_check_count (T : Txt K mg A) : Binds K A.fd_check_count P_check_count [] := T.F_check_count.binds fun _ _ _ _ _ _ us hl => match us, hl with | [_], _ => rfl
theorem b_swapped (T : Txt K mg A) : Binds K A.fd_swapped P_swapped [] := T.F_swapped.binds fun _ _ _ _ _ _ us hl => match us, hl with | [_, _], _ => rfl
theorem b_greatest_weight (T : Txt K mg A) : Binds K A.fd_greatest_weight P_greatest_weight [] := T.F_greatest_weight.binds fun _ _ _ _ _ _ us hl => match us, hl with | [_], _ => rfl
theorem b_is_word (T : Txt K mg A) : Binds K A.fd_is_word P_is_word [] := T.F_is_word.binds fun _ _ _ _ _ _ us hl => match us, hl with | [_, _], _ => rfl
theorem b_check_word (T : Txt K mg A) : Binds K A.fd_check_word P_check_word [] := T.F_check_word.binds fun _ _ _ _ _ _ us hl => match us, hl with | [_, _], _ => rfl
theorem b_check_room (T : Txt K mg A) : Binds K A.fd_check_room P_check_room [] := T.F_check_room.binds fun _ _ _ _ _ _ us hl => match us, hl with | [_], _ => rfl
theorem b_differed_by (T : Txt K mg A) : Binds K A.fd_differed_by P_differed_by [] := T.F_differed_by.binds fun _ _ _ _ _ _ us hl => match us, hl with | [_, _, _], _ => rfl
theorem b_raised_by (T : Txt K mg A) : Binds K A.fd_raised_by P_raised_by [] := T.F_raised_by.binds fun _ _ _ _ _ _ us hl => match us, hl with | [_, _, _], _ => rfl
theorem b_without_idle (T : Txt K mg A) : Binds K A.fd_without_idle P_without_idle [] := T.F_without_idle.binds fun _ _ _ _ _ _ us hl => match us, hl with | [_, _], _ => rfl
theorem b_lifted (T : Txt K mg A) : Binds K A.fd_lifted P_lifted [] := T.F_lifted.binds fun _ _ _ _ _ _ us hl => match us, hl with | [_, _], _ => rfl
theorem b_difference (T : Txt K mg A) : Binds K A.fd_difference P_difference [] := T.F_difference.binds fun _ _ _ _ _ _ us hl => match us, hl with | [_, _], _ => rfl
theorem b_rows_by_sum (T : Txt K mg A) : Binds K A.fd_rows_by_sum P_rows_by_sum [] := T.F_rows_by_sum.binds fun _ _ _ _ _ _ us hl => match us, hl with | [_, _], _ => rfl
theorem b_row_difference (T : Txt K mg A) : Binds K A.fd_row_difference P_row_difference [] := T.F_row_difference.binds fun _ _ _ _ _ _ us hl => match us, hl with | [_], _ => rfl
theorem b_mixed (T : Txt K mg A) : Binds K A.fd_mixed P_mixed [] := T.F_mixed.binds fun _ _ _ _ _ _ us hl => match us, hl with | [_, _], _ => rfl
theorem b_cell (T : Txt K mg A) : Binds K A.fd_cell P_cell [] := T.F_cell.binds fun _ _ _ _ _ _ us hl => match us, hl with | [_, _], _ => rfl
theorem b_take (T : Txt K mg A) : Binds K A.fd_take P_take [] := T.F_take.binds fun _ _ _ _ _ _ us hl => match us, hl with | [_, _], _ => rfl
theorem b_gathered (T : Txt K mg A) : Binds K A.fd_gathered P_gathered [] := T.F_gathered.binds fun _ _ _ _ _ _ us hl => match us, hl with | [_], _ => rfl
theorem b_poly (T : Txt K mg A) : Binds K A.fd_poly P_poly [] := T.F_poly.binds fun _ _ _ _ _ _ us hl => match us, hl with | [_, _, _, _], _ => rfl
theorem b_times (T : Txt K mg A) : Binds K A.fd_times P_times [] := T.F_times.binds fun _ _ _ _ _ _ us hl => match us, hl with | [_, _], _ => rfl
theorem b_unknown (T : Txt K mg A) : Binds K A.fd_unknown P_unknown [] := T.F_unknown.binds fun _ _ _ _ _ _ us hl => match us, hl with | [_, _], _ => rfl
theorem b_whole (T : Txt K mg A) : Binds K A.fd_whole P_whole [] := T.F_whole.binds fun _ _ _ _ _ _ us hl => match us, hl with | [_], _ => rfl
theorem b_is_poly (T : Txt K mg A) : Binds K A.fd_is_poly P_is_poly [] := T.F_is_poly.binds fun _ _ _ _ _ _ us hl => match us, hl with | [_, _], _ => rfl
theorem b_divided (T : Txt K mg A) : Binds K A.fd_divided P_divided [] := T.F_divided.binds fun _ _ _ _ _ _ us hl => match us, hl with | [_, _], _ => rfl
theorem b_along (T : Txt K mg A) : Binds K A.fd_along P_along [] := T.F_along.binds fun _ _ _ _ _ _ us hl => match us, hl with | [_, _, _, _], _ => rfl
theorem b_good (T : Txt K mg A) : Binds K A.fd_good P_good [] := T.F_good.binds fun _ _ _ _ _ _ us hl => match us, hl with | [_, _, _], _ => rfl
end
section
variable {P : Program} {w : World} {K : PySem.W.Frag} {mg : Str → Option Value} {base : Heap} {A : Adr} {gq : Array GenState → Drawn → Prop}
theorem ok_is_whole (T : Txt K mg A) : FnOk P w K mg base (CXq gq) 1 A.is_whole A.fd_is_whole P_is_whole (sp_whole K) := by
  have nd := sc_is_whole.nd
  refine T.F_is_whole.okc sc_is_whole (fun vs H Q E h => ?_) (fun A' outer s H vs Q E hr h => ?_)
  · obtain ⟨v, k, rfl, _⟩ := h; rfl
  obtain ⟨v, k, rfl, hk, q⟩ := h
  refine ⟨_, (pss_one (ps_ret (pe_and (pe_callB call_isi (by rfl) T.z_isinstance (by decide +kernel) (pa_cons (pv 0) (pa_cons (pe_ty "int" (by rfl) T.z_int (by decide +kernel)) pa_nil))) (pe_one (pe_not (pe_callB call_isi (by rfl) T.z_isinstance (by decide +kernel) (pa_cons (pv 0) (pa_cons (pe_ty "bool" (by rfl) T.z_bool (by decide +kernel)) pa_nil)))))))), ?_⟩
  refine ⟨v, rfl, v, k, "int", rfl, hk, .inl rfl, _, rfl, ?_⟩
  unfold wholeK at q
  cases e : isi k "int" with
  | false =>
    rw [e] at q
    exact iteF q
  | true =>
    rw [e] at q
    refine iteT ⟨v, rfl, v, k, "bool", rfl, hk, .inr (.inl rfl), _, rfl, q⟩
theorem ok_is_within (T : Txt K mg A) : FnOk P w K mg base (CXq gq) 2 A.is_within A.fd_is_within P_is_within (sp_within K) := by
  have nd := sc_is_within.nd
  have G_is_whole : FnOk P w K mg base (CXq gq) 1 A.is_whole A.fd_is_whole P_is_whole (sp_whole K) := ok_is_whole T
  have b_is_whole := b_is_whole T
  refine T.F_is_within.okc sc_is_within (fun vs H Q E h => ?_) (fun A' outer s H vs Q E hr h => ?_)
  · obtain ⟨v, k, lo, hi, rfl, _⟩ := h; rfl
  obtain ⟨v, k, lo, hi, rfl, hk, q⟩ := h
  refine ⟨_, (pss_one (ps_ret (pe_and (pe_call (G_is_whole.mono (by decide)) hr rfl T.m_is_whole T.F_is_whole.kp b_is_whole .nil pass0 (pa_cons (pv 0) pa_nil)) (pe_one (pe_chain op_le op_le (pv 1) (pv 0) (pv 2)))))), ?_⟩
  refine ⟨v, rfl, v, k, rfl, hk, _, rfl, ?_⟩
  rw [wholeK_eq hk]
  cases v with
  | int i =>
    refine iteT ⟨_, rfl, _, rfl, _, _, rfl, rfl, _, rfl, ?_⟩
    have q : Q (.bl (decide (lo ≤ i) && decide (i ≤ hi))) H := q
    cases e : decide (lo ≤ i) with
    | true =>
      rw [e, Bool.true_and] at q
      exact iteT ⟨_, rfl, _, _, rfl, rfl, q⟩
    | false =>
      rw [e, Bool.false_and] at q
      exact iteF q
  | _ => exact iteF q
def sp_mixed : Sp := fun vs H Q _ => ∃ a k : Int, vs = [.int a, .int k] ∧ ∀ r : Int, 0 ≤ r → r < 2147483579 → Q (.int r) H
theorem mul31 {a b : Int} (h1 : 0 ≤ a) (h2 : a < 2147483648) : IntMulOk a b := IntMulOk.of_left (PySem.intBits_le_64 (by omega) (by omega))
theorem mul31r {a b : Int} (h1 : 0 ≤ b) (h2 : b < 2147483648) : IntMulOk a b := IntMulOk.of_right (PySem.intBits_le_64 (by omega) (by omega))
theorem ok_mixed (T : Txt K mg A) : FnOk P w K mg base (CXq gq) 1 A.mixed A.fd_mixed P_mixed sp_mixed := by
  have nd := sc_mixed.nd
  refine T.F_mixed.okc sc_mixed (fun vs H Q E h => ?_) (fun A' outer s H vs Q E hr h => ?_)
  · obtain ⟨a, k, rfl, _⟩ := h; rfl
  obtain ⟨a, k, rfl, q⟩ := h
  refine ⟨_, (pss_cons (ps_set (i := 2) nd rfl (Or.inl rfl) (pe_op op_mod (pe_op op_add (pe_op op_add (pe_op op_mulB (pe_op op_mod (pv 0) pe_int) pe_int) (pe_op op_mulB (pv 1) pe_int)) pe_int) pe_int))
      (pss_cons (ps_set (i := 2) nd rfl (Or.inl rfl) (pe_op op_mod (pe_op op_mulB (pv 2) (pv 2)) pe_int))
      (pss_one (ps_ret (pe_op op_mod (pe_op op_mulB (pv 2) (pe_op op_add (pv 2) pe_int)) pe_int))))), ?_⟩
  refine ⟨_, rfl, _, _, rfl, rfl, (by show (0 : Int) < 2147483647; decide), _, _, rfl, rfl, mul31r (by decide) (by decide), _, rfl, _, _, rfl, rfl, mul31r (by decide) (by decide), _, _, rfl, rfl, _, _, rfl, rfl, _, _, rfl, rfl, (by show (0 : Int) < 2147483629; decide), ?_⟩
  have em : ∀ x z : Int, 0 < z → z < 2147483648 → 0 ≤ x % z ∧ x % z < 2147483648 := fun x z h1 h2 => ⟨Int.emod_nonneg _ (by omega), Int.lt_trans (Int.emod_lt_of_pos _ h1) h2⟩
  refine ⟨_, rfl, _, rfl, _, _, rfl, rfl, mul31 (em _ _ (by decide) (by decide)).1 (em _ _ (by decide) (by decide)).2, _, _, rfl, rfl, (by show (0 : Int) < 2147483587; decide), ?_⟩
  refine ⟨_, rfl, _, rfl, _, _, rfl, rfl, _, _, rfl, rfl, mul31 (em _ _ (by decide) (by decide)).1 (em _ _ (by decide) (by decide)).2, _, _, rfl, rfl, (by show (0 : Int) < 2147483579; decide), ?_⟩
  exact q _ (Int.emod_nonneg _ (by decide)) (Int.emod_lt_of_pos _ (by decide))
def sp_take : Sp := fun vs H Q _ => ∃ (p : Addr) (n z : Int), vs = [.ref p, .int z] ∧ H p = some (.lst [.int n]) ∧ 0 < z ∧ z.natAbs.log2 < 9000 ∧ ∀ d n' : Int, 0 ≤ d → d < z → Q (.int d) (upd H p (.lst [.int n']))
theorem ok_take (T : Txt K mg A) : FnOk P w K mg base (CXq gq) 1 A.take A.fd_take P_take sp_take := by
  have nd := sc_take.nd
  refine T.F_take.okc sc_take (fun vs H Q E h => ?_) (fun A' outer s H vs Q E hr h => ?_)
  · obtain ⟨p, n, z, rfl, _⟩ := h; rfl
  obtain ⟨p, n, z, rfl, hp, h0, h9, q⟩ := h
  refine ⟨_, (pss_cons (ps_set (i := 2) nd rfl (Or.inl rfl) (pe_op op_mod (pe_ix ix_list (pv 0) pe_int (fun _ _ => rfl)) (pv 1)))
      (pss_cons (ps_asg (pe_op op_fdivB (pe_ix ix_list (pv 0) pe_int (fun _ _ => rfl)) (pv 1)) (pg_sub (pv 0) pe_int set_list))
      (pss_one (ps_ret (pv 2))))), ?_⟩
  refine ⟨_, rfl, p, _, _, .int n, rfl, rfl, SqL.of hp, atI_nat (j := 0) rfl, _, rfl, _, _, rfl, rfl, h0, ?_⟩
  refine ⟨_, rfl, p, _, _, .int n, rfl, rfl, SqL.of hp, atI_nat (j := 0) rfl, _, rfl, _, _, rfl, rfl, ⟨h0, h9⟩, ?_⟩
  refine ⟨_, rfl, p, _, _, 0, rfl, rfl, hp, rfl, ?_⟩
  exact ⟨_, rfl, q _ _ (Int.emod_nonneg _ (by omega)) (Int.emod_lt_of_pos _ h0)⟩
def sp_cell (K : PySem.W.Frag) : Sp := fun vs H Q _ => ∃ (a : Addr) (ns : List Int) (k : Nat), vs = [.ref a, .int k] ∧ SqL K H a (intsV ns) ∧ k ≤ 100 ∧ ∀ n : Int, Q (.int n) H
theorem ok_cell (T : Txt K mg A) : FnOk P w K mg base (CXq gq) 2 A.cell A.fd_cell P_cell (sp_cell K) := by
  have nd := sc_cell.nd
  have G_mixed : FnOk P w K mg base (CXq gq) 1 A.mixed A.fd_mixed P_mixed sp_mixed := ok_mixed T
  have b_mixed := b_mixed T
  refine T.F_cell.okc sc_cell (fun vs H Q E h => ?_) (fun A' outer s H vs Q E hr h => ?_)
  · obtain ⟨a, ns, k, rfl, _⟩ := h; rfl
  obtain ⟨a, ns, k, rfl, ha, hk, q⟩ := h
  refine ⟨_, (pss_cons (ps_set (i := 2) nd rfl (Or.inl rfl) pe_int)
      (pss_cons (ps_if (pt_cmpR op_lt (pv 1) (pe_callB call_len (by rfl) T.z_len PySem.boot_len (pa_cons (pv 0) pa_nil)) (nomark _)) (pss_one (ps_set (i := 2) nd rfl (Or.inl rfl) (pe_ix ix_list (pv 0) (pv 1) (fun _ _ => rfl)))) pss_nil)
      (pss_cons (ps_if (pt_cmpR op_ge (pv 2) (pe_op op_pow pe_int pe_int) (nomark _)) (pss_one (ps_ret (pe_op op_mod (pe_op op_sub (pv 2) (pe_op op_pow pe_int pe_int)) (pe_op op_mulB (pe_op op_mulB (pe_op op_mulB (pe_op op_pow pe_int pe_int) (pe_op op_pow pe_int pe_int)) (pe_op op_pow pe_int pe_int)) (pe_op op_pow pe_int pe_int))))) pss_nil)
      (pss_cons (ps_set (i := 3) nd rfl (Or.inl rfl) pe_int)
      (pss_cons (ps_for PassesOwn.never rfl (pi_range1 (by rfl) T.z_range (pa_cons pe_int pa_nil)) (pg_name (i := 4) nd rfl (Or.inl rfl)) (pss_one (ps_set (i := 3) nd rfl (Or.inl rfl) (pe_op op_add (pe_op op_mulB (pv 3) pe_int) (pe_call (G_mixed.mono (by decide)) hr rfl T.m_mixed T.F_mixed.kp b_mixed .nil pass0 (pa_cons (pv 2) (pa_cons (pe_op op_add (pe_op op_add (pe_op op_mulB pe_int (pv 1)) (pe_op op_mulB pe_int (pv 4))) (pe_op op_mulB (pv 4) (pv 4))) pa_nil)))))))
      (pss_one (ps_ret (pv 3)))))))), ?_⟩
  refine ⟨_, rfl, _, rfl, .ref a, ns.length, rfl, .inl ⟨_, ha, (intsV_len ns).symm⟩, _, _, rfl, rfl, _, rfl, ?_⟩
  refine ite2 (fun h => ?a) (fun h => ?b)
  case' a =>
    obtain ⟨n, en⟩ := get_some (show k < ns.length by simpa using h)
    refine ⟨_, rfl, _, rfl, a, _, _, .int n, rfl, rfl, ha, atI_nat (get_intsV en), ?_⟩
  all_goals
    refine ⟨_, rfl, _, _, rfl, rfl, powOk (by decide) (by decide) (by decide), _, _, rfl, rfl, _, rfl, ?_⟩
    refine ite2 (fun _ => ?_) (fun _ => ?_)
    · refine ⟨_, rfl, _, _, rfl, rfl, powOk (by decide) (by decide) (by decide), _, _, rfl, rfl, _, _, rfl, rfl, powOk (by decide) (by decide) (by decide), _, _, rfl, rfl, powOk (by decide) (by decide) (by decide), _, _, rfl, rfl, bits_ok (by decide) (by decide),
        _, _, rfl, rfl, powOk (by decide) (by decide) (by decide), _, _, rfl, rfl, bits_ok (by decide) (by decide), _, _, rfl, rfl, powOk (by decide) (by decide) (by decide), _, _, rfl, rfl, bits_ok (by decide) (by decide), _, _, rfl, rfl, ?_, q _⟩
      show (0 : Int) < 10 ^ Int.toNat 60 * 10 ^ Int.toNat 60 * 10 ^ Int.toNat 60 * 10 ^ Int.toNat 60
      decide
    · refine ⟨24, rfl, by decide, by decide, for_range (lo := 0) (n := 24) (fun i σ H2 => ∃ (c f : Int) (v : Option V), σ = [some (.ref a), some (.int k), some (.int c), some (.int f), v] ∧ H2 = H) ⟨_, _, _, rfl, rfl⟩ ?_ ?_⟩
      · rintro i σ H2 hi ⟨c, f, v, rfl, rfl⟩
        refine ⟨_, rfl, _, _, rfl, rfl, mul31r (by decide) (by decide), _, rfl, _, rfl, _, _, rfl, rfl, mul31 (by decide) (by decide), _, rfl, _, _, rfl, rfl, mul31 (by decide) (by decide), _, _, rfl, rfl, _, rfl, _, rfl, _, _, rfl, rfl, mul31 (by omega) (by omega), _, _, rfl, rfl, _, _, rfl, fun r _ _ => ?_⟩
        exact ⟨_, _, rfl, rfl, _, _, _, rfl, rfl⟩
      · rintro σ H2 ⟨c, f, v, rfl, rfl⟩
        exact ⟨_, rfl, q _⟩
end
end K32

set_option Elab.async false
set_option linter.all false
set_option maxRecDepth 100000
set_option maxHeartbeats 4000000
namespace L2
open PySem PySem.Spec PyProof.Rows
theorem split_at {ns : List Nat} {k m : Nat} (h : ns.length = m) (hk : k + 2 ≤ m) : ∃ (pre : List Nat) (x y : Nat) (post : List Nat), ns = pre ++ x :: y :: post ∧ pre.length = k ∧ k + post.length + 2 = m := by
  have h1 : k < ns.length := by omega
  have h2 : k + 1 < ns.length := by omega
  refine ⟨ns.take k, ns[k], ns[k + 1], ns.drop (k + 2), ?_, by rw [List.length_take]; omega, by rw [List.length_drop]; omega⟩
  rw [← List.drop_eq_getElem_cons h2, ← List.drop_eq_getElem_cons h1, List.take_append_drop]
/-- the terms of a term's difference -/
def divT (k : Nat) (t : List Nat × Int) : Pol := (List.range (max (t.1.getD k 0) (t.1.getD (k + 1) 0) - min (t.1.getD k 0) (t.1.getD (k + 1) 0))).map fun s => (t.1.take k ++ (max (t.1.getD k 0) (t.1.getD (k + 1) 0) - 1 - s) :: (min (t.1.getD k 0) (t.1.getD (k + 1) 0) + s) :: t.1.drop (k + 2), if t.1.getD k 0 < t.1.getD (k + 1) 0 then -t.2 else t.2)
def divP (k : Nat) (ts : Pol) : Pol := ts.flatMap (divT k)
theorem divT_eq {k : Nat} {pre post : List Nat} {a b : Nat} (c : Int) (h : pre.length = k) : divT k (pre ++ a :: b :: post, c) = (List.range (max a b - min a b)).map fun s => (pre ++ (max a b - 1 - s) :: (min a b + s) :: post, if a < b then -c else c) := by
  have e1 : (pre ++ a :: b :: post).getD k 0 = a := by rw [List.getD, List.getElem?_append_right (by omega), h, Nat.sub_self]; rfl
  have e2 : (pre ++ a :: b :: post).getD (k + 1) 0 = b := by rw [List.getD, List.getElem?_append_right (by omega), h, show k + 1 - k = 1 by omega]; rfl
  have e3 : (pre ++ a :: b :: post).take k = pre := by rw [← h, List.take_left]
  have e4 : (pre ++ a :: b :: post).drop (k + 2) = post := by rw [List.drop_append, h, show k + 2 - k = 2 by omega, List.drop_eq_nil_of_le (by omega)]; rfl
  unfold divT
  dsimp only
  rw [e1, e2, e3, e4]
theorem cf_range_none {n : Nat} {g : Nat → List Nat} {c : Int} {ns : List Nat} (h : ∀ s, s < n → g s ≠ ns) : cf ((List.range n).map fun s => (g s, c)) ns = 0 := cf_none fun z => by
  rw [List.map_map] at z
  obtain ⟨s, hs, e⟩ := List.mem_map.mp z
  exact h s (List.mem_range.mp hs) e
theorem cf_range_one {n : Nat} {g : Nat → List Nat} {c : Int} {ns : List Nat} {s : Nat} (hs : s < n) (e : g s = ns) (inj : ∀ i j, g i = g j → i = j) : cf ((List.range n).map fun s => (g s, c)) ns = c := by
  have nd : (((List.range n).map fun s => ((g s, c) : List Nat × Int)).map (·.1)).Nodup := by
    rw [List.map_map]
    exact List.pairwise_map.mpr (List.nodup_range.imp fun h z => h (inj _ _ z))
  have := cf_mem nd (t := (g s, c)) (List.mem_map.mpr ⟨s, List.mem_range.mpr hs, rfl⟩)
  rw [← e]; exact this
theorem pre_inj {pre pre' post post' : List Nat} {a b a' b' : Nat} (hl : pre.length = pre'.length) (e : pre ++ a :: b :: post = pre' ++ a' :: b' :: post') : pre = pre' ∧ a = a' ∧ b = b' ∧ post = post' := by
  obtain ⟨h1, h2⟩ := List.append_inj e hl
  injection h2 with h2 h3
  injection h3 with h3 h4
  exact ⟨h1, h2, h3, h4⟩
theorem cf_divT {k : Nat} {pre post : List Nat} {a b x y : Nat} (c : Int) (h : pre.length = k) (hs : a + b = x + y + 1) : cf (divT k (pre ++ a :: b :: post, c)) (pre ++ x :: y :: post) = (if b ≤ y then c else 0) - (if a ≤ y then c else 0) := by
  rw [divT_eq c h]
  have inj : ∀ i j, pre ++ (max a b - 1 - i) :: (min a b + i) :: post = pre ++ (max a b - 1 - j) :: (min a b + j) :: post → i = j := fun i j e => by
    have := (pre_inj rfl e).2.2.1; omega
  by_cases h1 : min a b ≤ y ∧ y < max a b
  · rw [cf_range_one (s := y - min a b) (by omega) (by rw [show max a b - 1 - (y - min a b) = x by omega, show min a b + (y - min a b) = y by omega]) inj]
    by_cases hab : a < b
    · rw [if_pos hab, if_neg (by omega), if_pos (by omega)]; omega
    · rw [if_neg hab, if_pos (by omega), if_neg (by omega)]; omega
  · rw [cf_range_none]
    · by_cases h2 : y < min a b
      · rw [if_neg (by omega), if_neg (by omega)]; rfl
      · rw [if_pos (by omega), if_pos (by omega)]; omega
    · intro s hs e
      obtain ⟨_, e1, e2, _⟩ := pre_inj rfl e
      omega
theorem cf_divT0 {k : Nat} {pre post pre' post' : List Nat} {a b x y : Nat} (c : Int) (h : pre.length = k) (h' : pre'.length = k) (hn : ¬ (pre = pre' ∧ post = post' ∧ a + b = x + y + 1)) : cf (divT k (pre ++ a :: b :: post, c)) (pre' ++ x :: y :: post') = 0 := by
  rw [divT_eq c h]
  refine cf_range_none fun s hs e => hn ?_
  obtain ⟨e1, e2, e3, e4⟩ := pre_inj (h.trans h'.symm) e
  exact ⟨e1, e4, by omega⟩
theorem divT_mem {k m : Nat} {t u : List Nat × Int} (hk : k + 2 ≤ m) (ht : t.1.length = m) (h : u ∈ divT k t) : u.1.length = m ∧ u.1.sum + 1 = t.1.sum := by
  obtain ⟨p, a, b, q, et, hp, hq⟩ := split_at ht hk
  obtain ⟨t1, c⟩ := t
  have et : t1 = p ++ a :: b :: q := et
  subst et
  rw [divT_eq c hp] at h
  obtain ⟨s, hs, rfl⟩ := List.mem_map.mp h
  have := List.mem_range.mp hs
  simp only [List.length_append, List.length_cons, List.sum_append, List.sum_cons]
  omega
theorem divP_mem {k m : Nat} {ts : Pol} {u : List Nat × Int} (hk : k + 2 ≤ m) (ht : ∀ t ∈ ts, t.1.length = m) (h : u ∈ divP k ts) : u.1.length = m ∧ ∃ t ∈ ts, u.1.sum + 1 = t.1.sum := by
  obtain ⟨t, h1, h2⟩ := List.mem_flatMap.mp h
  have := divT_mem hk (ht t h1) h2
  exact ⟨this.1, t, h1, this.2⟩
theorem cf_divL {k : Nat} (l : List Nat) (c : Int) (ns : List Nat) : cf (divT k (l, c)) ns = c * cf (divT k (l, 1)) ns := by
  unfold divT
  dsimp only
  generalize (List.range _) = R
  induction R with
  | nil => show (0 : Int) = c * 0; simp
  | cons s r ih =>
    simp only [List.map_cons]
    show (if _ then _ else _) + cf _ ns = c * ((if _ then _ else _) + cf _ ns)
    rw [ih, Int.mul_add]
    congr 1
    split <;> (split <;> simp_all)
theorem cf_divSF (k : Nat) (ns : List Nat) : ∀ ts : Pol, cf (divP k ts) ns = SF (fun l => cf (divT k (l, 1)) ns) ts
  | [] => rfl
  | t :: r => by
    show cf (divT k t ++ divP k r) ns = t.2 * cf (divT k (t.1, 1)) ns + SF _ r
    rw [cf_app, cf_divSF k ns r, ← cf_divL]
theorem div_congr {k : Nat} {a b : Pol} (h : ∀ ns, cf a ns = cf b ns) (ns : List Nat) : cf (divP k a) ns = cf (divP k b) ns := by
  rw [cf_divSF, cf_divSF]; exact SF_ext _ h
/-- a polynomial in its one form, reckoned -/
def insN (t : List Nat × Int) : Pol → Pol
  | [] => if t.2 = 0 then [] else [t]
  | u :: us => if t.1 = u.1 then (if t.2 + u.2 = 0 then us else (u.1, t.2 + u.2) :: us) else if lexI (toI t.1) (toI u.1) then u :: insN t us else if t.2 = 0 then u :: us else t :: u :: us
def nfP (p : Pol) : Pol := p.foldr insN []
def divW (ks : List Nat) (ts : Pol) : Pol := ks.foldr divP ts
def nfW (ks : List Nat) (ts : Pol) : Pol := ks.foldr (fun k p => nfP (divP k p)) ts
def stairN (n : Nat) : List Nat := (List.range n).map fun i => n - 1 - i
/-- the least short word, fall by fall -/
def leW : Nat → List Int → List Nat
  | 0, _ => []
  | n + 1, ns => match faN ns with
    | [] => []
    | k :: _ => k :: leW n (swapAt ns k)
def downW (os : List Int) : List Nat := leW 10 (backL (joinL (backL os) (turnL os.length)))
/-- the polynomial of an order, reckoned -/
def oF (os : List Int) : Pol := nfW (downW os) [(stairN os.length, 1)]
structure OSum (os : List Int) : Prop where
  can : Can os.length (oF os)
  len : (oF os).length ≤ 30
  pos : ∀ t ∈ oF os, 1 ≤ t.2 ∧ t.2 ≤ 100 ∧ t.1.sum = (wpP os).length
end L2

set_option Elab.async false
set_option linter.all false
set_option maxRecDepth 100000
set_option maxHeartbeats 4000000
namespace L2
open PySem PySem.Spec PyProof.Rows
/-! polynomials with equal numbers at all points are equal -/
/-- the number at a point -/
def ev (v : List Int) (ts : Pol) : Int := SF (fun ns => pp ns v) ts
theorem ev_app (v : List Int) (a b : Pol) : ev v (a ++ b) = ev v a + ev v b := SF_app _ _ _
/-- a falling row of numbers above 0 -/
def Dsc : List Int → Prop
  | [] => True
  | x :: r => 0 < x ∧ (∀ y ∈ r, y < x) ∧ Dsc r
/-- the terms without the first unknown; the others, divided by it -/
def hd0 : Pol → Pol
  | [] => []
  | (0 :: ns, c) :: r => (ns, c) :: hd0 r
  | _ :: r => hd0 r
def hdS : Pol → Pol
  | [] => []
  | ((n + 1) :: ns, c) :: r => (n :: ns, c) :: hdS r
  | _ :: r => hdS r
theorem ev_hd (x : Int) (v : List Int) {m : Nat} : ∀ {ts : Pol}, (∀ t ∈ ts, t.1.length = m + 1) → ev (x :: v) ts = ev v (hd0 ts) + x * ev (x :: v) (hdS ts)
  | [], _ => by simp [hd0, hdS, ev, SF]
  | ([], c) :: r, h => by have := h _ List.mem_cons_self; simp at this
  | (0 :: ns, c) :: r, h => by
    have ih := ev_hd x v (m := m) (ts := r) fun t ht => h t (List.mem_cons_of_mem _ ht)
    show c * (x ^ 0 * pp ns v) + ev (x :: v) r = (c * pp ns v + ev v (hd0 r)) + x * ev (x :: v) (hdS r)
    rw [ih, Int.pow_zero, Int.one_mul]; omega
  | ((n + 1) :: ns, c) :: r, h => by
    have ih := ev_hd x v (m := m) (ts := r) fun t ht => h t (List.mem_cons_of_mem _ ht)
    show c * (x ^ (n + 1) * pp ns v) + ev (x :: v) r = ev v (hd0 r) + x * (c * (x ^ n * pp ns v) + ev (x :: v) (hdS r))
    rw [ih, Int.pow_succ]; grind
theorem cf_hd0 (ns : List Nat) : ∀ ts : Pol, cf ts (0 :: ns) = cf (hd0 ts) ns
  | [] => rfl
  | ([], c) :: r => by
    show (if ([] : List Nat) = 0 :: ns then c else 0) + cf r _ = _
    rw [if_neg (by simp), cf_hd0 ns r]; show (0 : Int) + _ = cf (hd0 r) ns; omega
  | (0 :: l, c) :: r => by
    show (if 0 :: l = 0 :: ns then c else 0) + cf r _ = (if l = ns then c else 0) + cf (hd0 r) ns
    rw [cf_hd0 ns r]
    by_cases h : l = ns
    · rw [if_pos h, if_pos (by rw [h])]
    · rw [if_neg h, if_neg (fun z => h (by simpa using z))]
  | ((n + 1) :: l, c) :: r => by
    show (if (n + 1) :: l = 0 :: ns then c else 0) + cf r _ = _
    rw [if_neg (by simp), cf_hd0 ns r]; show (0 : Int) + _ = cf (hd0 r) ns; omega
theorem cf_hdS (n : Nat) (ns : List Nat) : ∀ ts : Pol, cf ts ((n + 1) :: ns) = cf (hdS ts) (n :: ns)
  | [] => rfl
  | ([], c) :: r => by
    show (if ([] : List Nat) = (n + 1) :: ns then c else 0) + cf r _ = _
    rw [if_neg (by simp), cf_hdS n ns r]; show (0 : Int) + _ = cf (hdS r) _; omega
  | (0 :: l, c) :: r => by
    show (if 0 :: l = (n + 1) :: ns then c else 0) + cf r _ = _
    rw [if_neg (by simp), cf_hdS n ns r]; show (0 : Int) + _ = cf (hdS r) _; omega
  | ((k + 1) :: l, c) :: r => by
    show (if (k + 1) :: l = (n + 1) :: ns then c else 0) + cf r _ = (if k :: l = n :: ns then c else 0) + cf (hdS r) _
    rw [cf_hdS n ns r]
    by_cases h : k :: l = n :: ns
    · rw [if_pos h, if_pos (by simpa using h)]
    · rw [if_neg h, if_neg (fun z => h (by simpa using z))]
theorem hd0_len {m : Nat} : ∀ {ts : Pol}, (∀ t ∈ ts, t.1.length = m + 1) → ∀ t ∈ hd0 ts, t.1.length = m
  | [], _, _, h => by cases h
  | ([], c) :: r, h, t, ht => by have := h _ List.mem_cons_self; simp at this
  | (0 :: ns, c) :: r, h, t, ht => by
    rcases List.mem_cons.mp ht with rfl | ht
    · have := h _ List.mem_cons_self; simpa using this
    · exact hd0_len (fun t ht => h t (List.mem_cons_of_mem _ ht)) t ht
  | ((n + 1) :: ns, c) :: r, h, t, ht => hd0_len (fun t ht => h t (List.mem_cons_of_mem _ ht)) t ht
theorem hdS_len {m N : Nat} : ∀ {ts : Pol}, (∀ t ∈ ts, t.1.length = m + 1 ∧ t.1.headD 0 < N + 1) → ∀ t ∈ hdS ts, t.1.length = m + 1 ∧ t.1.headD 0 < N
  | [], _, _, h => by cases h
  | ([], c) :: r, h, t, ht => by have := (h _ List.mem_cons_self).1; simp at this
  | ((n + 1) :: ns, c) :: r, h, t, ht => by
    rcases List.mem_cons.mp ht with rfl | ht
    · have := h _ List.mem_cons_self
      simp at this
      exact ⟨by simp [this.1], by show n < N; omega⟩
    · exact hdS_len (fun t ht => h t (List.mem_cons_of_mem _ ht)) t ht
  | (0 :: ns, c) :: r, h, t, ht => hdS_len (fun t ht => h t (List.mem_cons_of_mem _ ht)) t ht
theorem bound_of : ∀ v : List Int, ∃ T : Int, 0 < T ∧ ∀ y ∈ v, y < T
  | [] => ⟨1, by decide, fun _ h => nomatch h⟩
  | x :: r => by
    obtain ⟨T, h0, h⟩ := bound_of r
    refine ⟨T + x.natAbs + 1, by omega, fun y hy => ?_⟩
    rcases List.mem_cons.mp hy with rfl | hy
    · omega
    · have := h y hy; omega
/-- nought at all falling points: nought -/
theorem ev_inj : ∀ (m : Nat) (ts : Pol), (∀ t ∈ ts, t.1.length = m) → (∀ v : List Int, v.length = m → Dsc v → ev v ts = 0) → ∀ ns, cf ts ns = 0
  | 0, ts, hl, h, ns => by
    by_cases e : ns = []
    · subst e
      have := h [] rfl trivial
      rw [← SF_nil hl]; exact this
    · exact cf_far hl (by simpa using e)
  | m + 1, ts, hl, h, ns => by
    obtain ⟨N, hN⟩ : ∃ N : Nat, ∀ t ∈ ts, t.1.length = m + 1 ∧ t.1.headD 0 < N := by
      clear h
      induction ts with
      | nil => exact ⟨0, fun _ h => nomatch h⟩
      | cons t r ih =>
        obtain ⟨N, hN⟩ := ih fun t ht => hl t (List.mem_cons_of_mem _ ht)
        refine ⟨N + t.1.headD 0 + 1, fun u hu => ?_⟩
        rcases List.mem_cons.mp hu with rfl | hu
        · exact ⟨hl _ List.mem_cons_self, by omega⟩
        · have := hN u hu; exact ⟨this.1, by omega⟩
    clear hl
    induction N generalizing ts ns with
    | zero =>
      cases ts with
      | nil => rfl
      | cons t r => have := (hN t List.mem_cons_self).2; omega
    | succ N ih =>
      have hl : ∀ t ∈ ts, t.1.length = m + 1 := fun t ht => (hN t ht).1
      have h0 : ∀ v : List Int, v.length = m → Dsc v → ev v (hd0 ts) = 0 := fun v lv dv => by
        obtain ⟨T, hT0, hT⟩ := bound_of v
        generalize hc : ev v (hd0 ts) = c
        have hx := h ((T + c.natAbs) :: v) (by simp [lv]) ⟨by omega, fun y hy => by have := hT y hy; omega, dv⟩
        rw [ev_hd _ _ hl, hc] at hx
        generalize ev ((T + c.natAbs) :: v) (hdS ts) = q at hx
        have hd : (T + c.natAbs) ∣ c := ⟨-q, by grind⟩
        exact Int.eq_zero_of_dvd_of_natAbs_lt_natAbs hd (by omega)
      have e0 := ev_inj m (hd0 ts) (hd0_len hl) h0
      have hS : ∀ v : List Int, v.length = m + 1 → Dsc v → ev v (hdS ts) = 0 := fun v lv dv => by
        cases v with
        | nil => simp at lv
        | cons x v =>
          have hx := h (x :: v) lv dv
          rw [ev_hd x v hl, h0 v (by simpa using lv) dv.2.2, Int.zero_add] at hx
          rcases Int.mul_eq_zero.mp hx with z | z
          · have := dv.1; omega
          · exact z
      match ns with
      | [] => exact cf_far hl (by simp)
      | 0 :: ns => rw [cf_hd0]; exact e0 ns
      | (n + 1) :: ns => rw [cf_hdS]; exact ih (hdS ts) hS (n :: ns) (hdS_len hN)
/-- the other way about -/
def negP (ts : Pol) : Pol := ts.map fun t => (t.1, -t.2)
theorem cf_negP (ns : List Nat) : ∀ ts : Pol, cf (negP ts) ns = - cf ts ns
  | [] => rfl
  | t :: r => by
    show (if t.1 = ns then -t.2 else 0) + cf (negP r) ns = -((if t.1 = ns then t.2 else 0) + cf r ns)
    rw [cf_negP ns r]; split <;> omega
theorem ev_negP (v : List Int) : ∀ ts : Pol, ev v (negP ts) = - ev v ts
  | [] => rfl
  | t :: r => by
    show (-t.2) * pp t.1 v + ev v (negP r) = -(t.2 * pp t.1 v + ev v r)
    rw [ev_negP v r, Int.neg_mul]; omega
theorem ev_uniq {m : Nat} {a b : Pol} (ha : ∀ t ∈ a, t.1.length = m) (hb : ∀ t ∈ b, t.1.length = m) (h : ∀ v : List Int, v.length = m → Dsc v → ev v a = ev v b) (ns : List Nat) : cf a ns = cf b ns := by
  have := ev_inj m (a ++ negP b) (fun t ht => by
    rcases List.mem_append.mp ht with z | z
    · exact ha t z
    · obtain ⟨u, hu, rfl⟩ := List.mem_map.mp z; exact hb u hu) (fun v lv dv => by rw [ev_app, ev_negP, h v lv dv]; omega) ns
  rw [cf_app, cf_negP] at this; omega
end L2

set_option Elab.async false
set_option linter.all false
set_option maxRecDepth 100000
set_option maxHeartbeats 4000000
namespace L2
open PySem PySem.Spec PyProof.Rows
/-- times the unknown k -/
def upAt (k : Nat) (ns : List Nat) : List Nat := ns.take k ++ (ns.getD k 0 + 1) :: ns.drop (k + 1)
def upT (k : Nat) (t : List Nat × Int) : List Nat × Int := (upAt k t.1, t.2)
theorem upAt_eq {k : Nat} {pre post : List Nat} {x : Nat} (h : pre.length = k) : upAt k (pre ++ x :: post) = pre ++ (x + 1) :: post := by
  unfold upAt
  rw [List.take_left' h, show pre ++ x :: post = (pre ++ [x]) ++ post by simp, List.drop_left' (by simp [h]), ← show pre ++ x :: post = (pre ++ [x]) ++ post by simp]
  have : (pre ++ x :: post).getD k 0 = x := by
    rw [List.getD, List.getElem?_append_right (by omega), h, Nat.sub_self]; rfl
  rw [this]
/-- raised at k -/
def raiP (k : Nat) (ts : Pol) : Pol := divP k (ts.map (upT k))
theorem cf_raiSF (k : Nat) (ns : List Nat) (ts : Pol) : cf (raiP k ts) ns = SF (fun l => cf (divT k (upAt k l, 1)) ns) ts := by
  unfold raiP
  rw [cf_divSF]
  induction ts with
  | nil => rfl
  | cons t r ih =>
    show t.2 * _ + SF _ (r.map (upT k)) = t.2 * _ + SF _ r
    rw [ih]; rfl
theorem rai_congr {k : Nat} {a b : Pol} (h : ∀ ns, cf a ns = cf b ns) (ns : List Nat) : cf (raiP k a) ns = cf (raiP k b) ns := by
  rw [cf_raiSF, cf_raiSF]; exact SF_ext _ h
def raiW (ks : List Nat) (ts : Pol) : Pol := ks.foldr raiP ts
theorem upM_len {k m : Nat} {ts : Pol} (hk : k < m) (h : ∀ t ∈ ts, t.1.length = m) : ∀ t ∈ ts.map (upT k), t.1.length = m := fun t ht => by
  obtain ⟨u, hu, rfl⟩ := List.mem_map.mp ht
  have := h u hu
  show (upAt k u.1).length = m
  unfold upAt
  rw [List.length_append, List.length_take, List.length_cons, List.length_drop]; omega
theorem divP_len {k m : Nat} {ts : Pol} (hk : k + 2 ≤ m) (h : ∀ t ∈ ts, t.1.length = m) : ∀ t ∈ divP k ts, t.1.length = m := fun t ht => (divP_mem hk h ht).1
theorem raiP_len {k m : Nat} {ts : Pol} (hk : k + 2 ≤ m) (h : ∀ t ∈ ts, t.1.length = m) : ∀ t ∈ raiP k ts, t.1.length = m := divP_len hk (upM_len (by omega) h)
theorem raiW_len {m : Nat} {ts : Pol} (h : ∀ t ∈ ts, t.1.length = m) : ∀ {ks : List Nat}, (∀ k ∈ ks, k + 2 ≤ m) → ∀ t ∈ raiW ks ts, t.1.length = m
  | [], _ => h
  | k :: ks, hk => raiP_len (hk k List.mem_cons_self) (raiW_len h fun j hj => hk j (List.mem_cons_of_mem _ hj))
/-! numbers at points -/
theorem pp_mid : ∀ {a : List Nat} {p : List Int} (b : List Nat) (q : List Int), a.length = p.length → pp (a ++ b) (p ++ q) = pp a p * pp b q
  | [], [], b, q, _ => by show pp b q = 1 * pp b q; omega
  | n :: a, x :: p, b, q, h => by
    show x ^ n * pp (a ++ b) (p ++ q) = x ^ n * pp a p * pp b q
    rw [pp_mid b q (by simpa using h), Int.mul_assoc]
  | [], _ :: _, _, _, h => by simp at h
  | _ :: _, [], _, _, h => by simp at h
section
variable {k m : Nat} {p q : List Int} (hp : p.length = k)
include hp
theorem ev_range {x y c : Int} {pre post : List Nat} {M n : Nat} (h1 : pre.length = k) : ∀ j, j ≤ M → (x - y) * ev (p ++ x :: y :: q) ((List.range j).map fun s => (pre ++ (M - 1 - s) :: (n + s) :: post, c)) = c * (pp pre p * pp post q) * (x ^ M * y ^ n - x ^ (M - j) * y ^ (n + j))
  | 0, _ => by
    show (x - y) * 0 = _
    rw [Nat.sub_zero, Nat.add_zero, Int.sub_self]; simp
  | j + 1, hj => by
    rw [List.range_succ, List.map_append, ev_app, Int.mul_add, ev_range h1 j (by omega)]
    have e : ev (p ++ x :: y :: q) ([j].map fun s => (pre ++ (M - 1 - s) :: (n + s) :: post, c)) = c * (pp pre p * (x ^ (M - 1 - j) * (y ^ (n + j) * pp post q))) := by
      show c * pp (pre ++ (M - 1 - j) :: (n + j) :: post) (p ++ x :: y :: q) + 0 = _
      rw [pp_mid _ _ (h1.trans hp.symm), Int.add_zero]; rfl
    rw [e]
    have e2 : x ^ (M - j) = x ^ (M - 1 - j) * x := by rw [← Int.pow_succ]; congr 1; omega
    have e3 : y ^ (n + (j + 1)) = y ^ (n + j) * y := by rw [← Int.pow_succ]; rfl
    rw [e2, e3, show M - (j + 1) = M - 1 - j by omega]
    generalize x ^ (M - 1 - j) = X
    generalize y ^ (n + j) = Y
    grind
theorem ev_divT {x y c : Int} {pre post : List Nat} {a b : Nat} (h1 : pre.length = k) : (x - y) * ev (p ++ x :: y :: q) (divT k (pre ++ a :: b :: post, c)) = c * (pp pre p * pp post q) * (x ^ a * y ^ b - x ^ b * y ^ a) := by
  rw [divT_eq c h1]
  by_cases h : a < b
  · rw [if_pos h, show max a b = b by omega, show min a b = a by omega, ev_range hp h1 _ (by omega), show b - (b - a) = a by omega, show a + (b - a) = b by omega]
    grind
  · rw [if_neg h, show max a b = a by omega, show min a b = b by omega, ev_range hp h1 _ (by omega), show a - (a - b) = b by omega, show b + (a - b) = a by omega]
/-- the difference at a point -/
theorem ev_div (hk : k + 2 ≤ m) {x y : Int} (hq : k + q.length + 2 = m) : ∀ {ts : Pol}, (∀ t ∈ ts, t.1.length = m) → (x - y) * ev (p ++ x :: y :: q) (divP k ts) = ev (p ++ x :: y :: q) ts - ev (p ++ y :: x :: q) ts
  | [], _ => by show (x - y) * 0 = 0 - 0; simp
  | t :: r, h => by
    have ih := ev_div hk (x := x) (y := y) hq (ts := r) fun u hu => h u (List.mem_cons_of_mem _ hu)
    obtain ⟨pre, a, b, post, et, h1, h2⟩ := split_at (h t List.mem_cons_self) hk
    obtain ⟨t1, c⟩ := t
    have et : t1 = pre ++ a :: b :: post := et
    subst et
    show (x - y) * ev _ (divT k (pre ++ a :: b :: post, c) ++ divP k r) = (c * pp (pre ++ a :: b :: post) (p ++ x :: y :: q) + ev _ r) - (c * pp (pre ++ a :: b :: post) (p ++ y :: x :: q) + ev _ r)
    rw [ev_app, Int.mul_add, ih, ev_divT hp h1, pp_mid _ _ (h1.trans hp.symm), pp_mid _ _ (h1.trans hp.symm)]
    show _ = (c * (pp pre p * (x ^ a * (y ^ b * pp post q))) + _) - (c * (pp pre p * (y ^ a * (x ^ b * pp post q))) + _)
    grind
theorem ev_up (hk : k + 1 ≤ m) {x : Int} {q : List Int} (hq : k + q.length + 1 = m) : ∀ {ts : Pol}, (∀ t ∈ ts, t.1.length = m) → ev (p ++ x :: q) (ts.map (upT k)) = x * ev (p ++ x :: q) ts
  | [], _ => by show (0 : Int) = x * 0; simp
  | t :: r, h => by
    have ih := ev_up hk (x := x) hq (ts := r) fun u hu => h u (List.mem_cons_of_mem _ hu)
    have lt := h t List.mem_cons_self
    obtain ⟨t1, c⟩ := t
    have lt : t1.length = m := lt
    have ek : k < t1.length := by omega
    obtain ⟨pre, a, post, rfl, h1⟩ : ∃ (pre : List Nat) (a : Nat) (post : List Nat), t1 = pre ++ a :: post ∧ pre.length = k :=
      ⟨t1.take k, t1[k], t1.drop (k + 1), by rw [← List.drop_eq_getElem_cons ek, List.take_append_drop], by rw [List.length_take]; omega⟩
    show c * pp (upAt k (pre ++ a :: post)) (p ++ x :: q) + ev _ (r.map (upT k)) = x * (c * pp (pre ++ a :: post) (p ++ x :: q) + ev _ r)
    rw [ih, upAt_eq h1, pp_mid _ _ (h1.trans hp.symm), pp_mid _ _ (h1.trans hp.symm)]
    show c * (pp pre p * (x ^ (a + 1) * pp post q)) + _ = x * (c * (pp pre p * (x ^ a * pp post q)) + _)
    rw [Int.pow_succ]
    grind
/-- raised, at a point -/
theorem ev_rai (hk : k + 2 ≤ m) {x y : Int} (hq : k + q.length + 2 = m) {ts : Pol} (h : ∀ t ∈ ts, t.1.length = m) : (x - y) * ev (p ++ x :: y :: q) (raiP k ts) = x * ev (p ++ x :: y :: q) ts - y * ev (p ++ y :: x :: q) ts := by
  unfold raiP
  rw [ev_div hp hk hq (upM_len (by omega) h), ev_up hp (by omega) (by simp; omega) h, ev_up hp (by omega) (by simp; omega) h]
end
theorem Dsc.nodup : ∀ {v : List Int}, Dsc v → v.Nodup
  | [], _ => .nil
  | x :: r, h => List.nodup_cons.mpr ⟨fun z => by have := h.2.1 x z; omega, h.2.2.nodup⟩
theorem cancel {a u w : Int} (h : a ≠ 0) (e : a * u = a * w) : u = w := Int.eq_of_mul_eq_mul_left h e
theorem split3 {v : List Int} {k m : Nat} (h : v.length = m) (hk : k + 3 ≤ m) : ∃ (p : List Int) (x y z : Int) (q : List Int), v = p ++ x :: y :: z :: q ∧ p.length = k ∧ k + q.length + 3 = m := by
  have h1 : k < v.length := by omega
  have h2 : k + 1 < v.length := by omega
  have h3 : k + 2 < v.length := by omega
  refine ⟨v.take k, v[k], v[k + 1], v[k + 2], v.drop (k + 3), ?_, by rw [List.length_take]; omega, by rw [List.length_drop]; omega⟩
  rw [← List.drop_eq_getElem_cons h3, ← List.drop_eq_getElem_cons h2, ← List.drop_eq_getElem_cons h1, List.take_append_drop]
theorem split2 {v : List Int} {k m : Nat} (h : v.length = m) (hk : k + 2 ≤ m) : ∃ (p : List Int) (x y : Int) (q : List Int), v = p ++ x :: y :: q ∧ p.length = k ∧ k + q.length + 2 = m := by
  have h1 : k < v.length := by omega
  have h2 : k + 1 < v.length := by omega
  refine ⟨v.take k, v[k], v[k + 1], v.drop (k + 2), ?_, by rw [List.length_take]; omega, by rw [List.length_drop]; omega⟩
  rw [← List.drop_eq_getElem_cons h2, ← List.drop_eq_getElem_cons h1, List.take_append_drop]
theorem app3 (p : List Int) (x y z : Int) (q : List Int) : p ++ x :: y :: z :: q = (p ++ [x]) ++ y :: z :: q := by simp
/-- raised twice at one place -/
theorem rai_rai {k m : Nat} (hk : k + 2 ≤ m) {ts : Pol} (h : ∀ t ∈ ts, t.1.length = m) (ns : List Nat) : cf (raiP k (raiP k ts)) ns = cf (raiP k ts) ns := by
  refine ev_uniq (raiP_len hk (raiP_len hk h)) (raiP_len hk h) (fun v lv dv => ?_) ns
  obtain ⟨p, x, y, q, rfl, hp, hq⟩ := split2 lv hk
  have nd := dv.nodup
  have hxy : x - y ≠ 0 := fun z => by
    have e : x = y := by omega
    subst e
    simp [List.nodup_append] at nd
  have e1 := ev_rai hp hk hq (x := x) (y := y) (raiP_len hk h)
  have e2 := ev_rai hp hk hq (x := x) (y := y) h
  have e3 := ev_rai hp hk hq (x := y) (y := x) h
  have e4 : ev (p ++ y :: x :: q) (raiP k ts) = ev (p ++ x :: y :: q) (raiP k ts) := cancel hxy (by grind)
  exact cancel hxy (by rw [e1, e4]; grind)
end L2

set_option Elab.async false
set_option linter.all false
set_option maxRecDepth 100000
set_option maxHeartbeats 4000000
namespace L2
open PySem PySem.Spec PyProof.Rows
theorem nd_mid2 {p q : List Int} {x y : Int} (h : (p ++ x :: y :: q).Nodup) : x - y ≠ 0 := fun z => by
  have e : x = y := by omega
  subst e
  simp [List.nodup_append] at h
theorem nd_mid3 {p q : List Int} {x y z : Int} (h : (p ++ x :: y :: z :: q).Nodup) : x - y ≠ 0 ∧ y - z ≠ 0 ∧ x - z ≠ 0 := by
  refine ⟨nd_mid2 h, nd_mid2 (p := p ++ [x]) (by rw [app3] at h; exact h), fun e => ?_⟩
  have e : x = z := by omega
  subst e
  simp [List.nodup_append] at h
theorem three_ne {a b c : Int} (h : a ≠ 0 ∧ b ≠ 0 ∧ c ≠ 0) : a * b * c ≠ 0 := Int.mul_ne_zero (Int.mul_ne_zero h.1 h.2.1) h.2.2
theorem braid_rai {x y z f1 f2 f3 f4 f5 f6 g1 g1' g2 g3 h1 h2 u : Int} (hxy : x - y ≠ 0)
    (e1 : (x - y) * u = x * h1 - y * h2) (e2 : (y - z) * h1 = y * g1 - z * g2) (e3 : (x - z) * h2 = x * g1' - z * g3)
    (e4 : (x - y) * g1 = x * f1 - y * f2) (e4' : (y - x) * g1' = y * f2 - x * f1) (e5 : (x - z) * g2 = x * f3 - z * f4) (e6 : (y - z) * g3 = y * f5 - z * f6) :
    (x - y) * (y - z) * (x - z) * u = x * y * (x * f1 - y * f2) - x * z * (x * f3 - z * f4) + y * z * (y * f5 - z * f6) := by
  have e7 : g1' = g1 := cancel hxy (by rw [e4, show (x - y) * g1' = -((y - x) * g1') by rw [← Int.neg_mul, Int.neg_sub], e4', Int.neg_sub])
  subst e7
  have a1 : (x - y) * (y - z) * (x - z) * u = (y - z) * (x - z) * (x * h1 - y * h2) := by rw [← e1]; grind
  have a2 : (y - z) * (x - z) * (x * h1 - y * h2) = x * (x - z) * ((y - z) * h1) - y * (y - z) * ((x - z) * h2) := by grind
  have a3 : x * (x - z) * (y * g1' - z * g2) - y * (y - z) * (x * g1' - z * g3) = x * y * ((x - y) * g1') - x * z * ((x - z) * g2) + y * z * ((y - z) * g3) := by grind
  rw [a1, a2, e2, e3, a3, e4, e5, e6]
theorem braid_rai2 {x y z f1 f2 f3 f4 f5 f6 g1 g1' g2 g3 h1 h2 u : Int} (hyz : y - z ≠ 0)
    (e1 : (y - z) * u = y * h1 - z * h2) (e2 : (x - y) * h1 = x * g1 - y * g2) (e3 : (x - z) * h2 = x * g1' - z * g3)
    (e4 : (y - z) * g1 = y * f1 - z * f2) (e4' : (z - y) * g1' = z * f2 - y * f1) (e5 : (x - z) * g2 = x * f3 - z * f4) (e6 : (x - y) * g3 = x * f5 - y * f6) :
    (x - y) * (y - z) * (x - z) * u = x * x * (y * f1 - z * f2) - y * y * (x * f3 - z * f4) + z * z * (x * f5 - y * f6) := by
  have e7 : g1' = g1 := cancel hyz (by rw [e4, show (y - z) * g1' = -((z - y) * g1') by rw [← Int.neg_mul, Int.neg_sub], e4', Int.neg_sub])
  subst e7
  have a1 : (x - y) * (y - z) * (x - z) * u = (x - y) * (x - z) * (y * h1 - z * h2) := by rw [← e1]; grind
  have a2 : (x - y) * (x - z) * (y * h1 - z * h2) = y * (x - z) * ((x - y) * h1) - z * (x - y) * ((x - z) * h2) := by grind
  have a3 : y * (x - z) * (x * g1' - y * g2) - z * (x - y) * (x * g1' - z * g3) = x * x * ((y - z) * g1') - y * y * ((x - z) * g2) + z * z * ((x - y) * g3) := by grind
  rw [a1, a2, e2, e3, a3, e4, e5, e6]
/-- raised at neighbouring places -/
theorem rai_braid {k m : Nat} (hk : k + 3 ≤ m) {ts : Pol} (h : ∀ t ∈ ts, t.1.length = m) (ns : List Nat) : cf (raiP k (raiP (k + 1) (raiP k ts))) ns = cf (raiP (k + 1) (raiP k (raiP (k + 1) ts))) ns := by
  have k1 : k + 2 ≤ m := by omega
  have k2 : (k + 1) + 2 ≤ m := by omega
  have l1 := raiP_len k1 h
  have l2 := raiP_len k2 h
  have l12 := raiP_len k1 l2
  have l21 := raiP_len k2 l1
  refine ev_uniq (raiP_len k1 l21) (raiP_len k2 l12) (fun v lv dv => ?_) ns
  obtain ⟨p, x, y, z, q, rfl, hp, hq⟩ := split3 lv hk
  have nz := nd_mid3 dv.nodup
  have A : ∀ (a b c : Int) {ts : Pol}, (∀ t ∈ ts, t.1.length = m) → (a - b) * ev (p ++ a :: b :: c :: q) (raiP k ts) = a * ev (p ++ a :: b :: c :: q) ts - b * ev (p ++ b :: a :: c :: q) ts := fun a b c ts h => ev_rai hp k1 (q := c :: q) (by simp; omega) h
  have B : ∀ (a b c : Int) {ts : Pol}, (∀ t ∈ ts, t.1.length = m) → (b - c) * ev (p ++ a :: b :: c :: q) (raiP (k + 1) ts) = b * ev (p ++ a :: b :: c :: q) ts - c * ev (p ++ a :: c :: b :: q) ts := fun a b c ts h => by
    rw [app3 p a b c, app3 p a c b]
    exact ev_rai (p := p ++ [a]) (by simp [hp]) k2 (q := q) (by omega) h
  refine cancel (three_ne nz) ?_
  rw [braid_rai nz.1 (A x y z l21) (B x y z l1) (B y x z l1) (A x y z h) (A y x z h) (A x z y h) (A y z x h), braid_rai2 nz.2.1 (B x y z l12) (A x y z l2) (A x z y l2) (B x y z h) (B x z y h) (B y x z h) (B z x y h)]
  grind
/-! places far from one another -/
theorem split4 {v : List Int} {i j m : Nat} (h : v.length = m) (hi : i + 2 ≤ j) (hj : j + 2 ≤ m) : ∃ (p : List Int) (x y : Int) (r : List Int) (a b : Int) (q : List Int), v = p ++ x :: y :: (r ++ a :: b :: q) ∧ p.length = i ∧ i + r.length + 2 = j ∧ j + q.length + 2 = m := by
  obtain ⟨p, x, y, s, rfl, hp, hs⟩ := split2 (k := i) h (by omega)
  obtain ⟨r, a, b, q, rfl, hr, hq⟩ := split2 (v := s) (k := j - (i + 2)) (m := m - (i + 2)) (by omega) (by omega)
  exact ⟨p, x, y, r, a, b, q, rfl, hp, by omega, by omega⟩
theorem far_alg {X Y x y a b f1 f2 f3 f4 g1 g2 h1 h2 u w : Int} (hX : X ≠ 0) (hY : Y ≠ 0)
    (e1 : X * u = x * g1 - y * g2) (e2 : Y * g1 = a * f1 - b * f2) (e3 : Y * g2 = a * f3 - b * f4)
    (e4 : Y * w = a * h1 - b * h2) (e5 : X * h1 = x * f1 - y * f3) (e6 : X * h2 = x * f2 - y * f4) : u = w := by
  refine cancel (Int.mul_ne_zero hX hY) ?_
  have a1 : X * Y * u = x * (Y * g1) - y * (Y * g2) := by
    have : X * Y * u = Y * (X * u) := by grind
    rw [this, e1]; grind
  have a2 : X * Y * w = a * (X * h1) - b * (X * h2) := by
    have : X * Y * w = X * (Y * w) := by grind
    rw [this, e4]; grind
  rw [a1, a2, e2, e3, e5, e6]; grind
theorem app4 (p : List Int) (x y : Int) (s : List Int) : p ++ x :: y :: s = (p ++ [x, y]) ++ s := by simp
theorem nd_far {p r q : List Int} {x y a b : Int} (h : (p ++ x :: y :: (r ++ a :: b :: q)).Nodup) : x - y ≠ 0 ∧ a - b ≠ 0 := by
  refine ⟨nd_mid2 h, ?_⟩
  rw [app4, ← List.append_assoc] at h
  exact nd_mid2 h
theorem rai_far {i j m : Nat} (hi : i + 2 ≤ j) (hj : j + 2 ≤ m) {ts : Pol} (h : ∀ t ∈ ts, t.1.length = m) (ns : List Nat) : cf (raiP i (raiP j ts)) ns = cf (raiP j (raiP i ts)) ns := by
  have k1 : i + 2 ≤ m := by omega
  have li := raiP_len k1 h
  have lj := raiP_len hj h
  refine ev_uniq (raiP_len k1 lj) (raiP_len hj li) (fun v lv dv => ?_) ns
  obtain ⟨p, x, y, r, a, b, q, rfl, hp, hr, hq⟩ := split4 lv hi hj
  have nz := nd_far dv.nodup
  have A : ∀ (x y a b : Int) {ts : Pol}, (∀ t ∈ ts, t.1.length = m) → (x - y) * ev (p ++ x :: y :: (r ++ a :: b :: q)) (raiP i ts) = x * ev (p ++ x :: y :: (r ++ a :: b :: q)) ts - y * ev (p ++ y :: x :: (r ++ a :: b :: q)) ts := fun x y a b ts h => ev_rai hp k1 (by simp; omega) h
  have B : ∀ (x y a b : Int) {ts : Pol}, (∀ t ∈ ts, t.1.length = m) → (a - b) * ev (p ++ x :: y :: (r ++ a :: b :: q)) (raiP j ts) = a * ev (p ++ x :: y :: (r ++ a :: b :: q)) ts - b * ev (p ++ x :: y :: (r ++ b :: a :: q)) ts := fun x y a b ts h => by
    rw [app4, app4 p x y (r ++ b :: a :: q), ← List.append_assoc, ← List.append_assoc]
    exact ev_rai (p := p ++ [x, y] ++ r) (by simp; omega) hj (by omega) h
  exact far_alg nz.1 nz.2 (A x y a b lj) (B x y a b h) (B y x a b h) (B x y a b li) (A x y a b h) (A x y b a h)
end L2

set_option Elab.async false
set_option linter.all false
set_option maxRecDepth 100000
set_option maxHeartbeats 4000000
namespace L2
open PySem PySem.Spec PyProof.Rows
/-- the first place where an order falls -/
def fstD (o : List Nat) : Option Nat := (List.range (o.length - 1)).find? fun k => decide (o.getD (k + 1) 0 < o.getD k 0)
/-- a short word of an order -/
def lwF : Nat → List Nat → List Nat
  | 0, _ => []
  | n + 1, o => match fstD o with
    | none => []
    | some d => lwF n (swapAt o d) ++ [d]
def lw (o : List Nat) : List Nat := lwF 10 o
/-- the word without its idle entries -/
def idleF : List Nat → List Nat → List Nat
  | _, [] => []
  | o, k :: ks => if o.getD k 0 < o.getD (k + 1) 0 then k :: idleF (swapAt o k) ks else idleF o ks
def fal (o : List Nat) (k : Nat) : Bool := decide (o.getD (k + 1) 0 < o.getD k 0)
def chkD (m : Nat) (o : List Nat) (k : Nat) : Bool := !fal o k || match fstD o with
  | none => false
  | some d => decide (d + 2 ≤ m) && decide (lw o = lw (swapAt o d) ++ [d]) && decide ((lw (swapAt o k)).length + 1 = (lw o).length) && fal o d &&
    (decide (k = d) || (if k + 2 ≤ d ∨ d + 2 ≤ k then fal (swapAt o d) k && fal (swapAt o k) d && decide (swapAt (swapAt o d) k = swapAt (swapAt o k) d)
      else fal (swapAt o d) k && fal (swapAt (swapAt o d) k) d && fal (swapAt o k) d && fal (swapAt (swapAt o k) d) k && decide (swapAt (swapAt (swapAt o d) k) d = swapAt (swapAt (swapAt o k) d) k)))
def natL (l : List Int) : List Nat := l.map Int.toNat
def chkDs (m : Nat) (o : List Nat) : Bool := (List.range (m - 1)).all fun k => chkD m o k && (fal o k || decide (o.getD k 0 < o.getD (k + 1) 0)) && (fal o k || fal (swapAt o k) k)
theorem chkD_all : ((List.range 6).all fun m => (allP (plainI m)).all fun o => chkDs m (natL o)) = true := by decide +kernel
theorem natL_toI (l : List Nat) : natL (toI l) = l := by
  unfold natL toI
  rw [List.map_map]
  exact (List.map_congr_left fun x _ => Int.toNat_natCast x).trans (List.map_id _)
theorem toI_range (m : Nat) : toI (List.range m) = plainI m := rfl
/-- orders as numbers from 0 on -/
def PmN (m : Nat) (o : List Nat) : Prop := o.Perm (List.range m)
theorem PmN.chk {m : Nat} {o : List Nat} (h : PmN m o) (m5 : m ≤ 5) {k : Nat} (hk : k + 2 ≤ m) : chkD m o k = true ∧ (fal o k = true ∨ o.getD k 0 < o.getD (k + 1) 0) ∧ (fal o k = true ∨ fal (swapAt o k) k = true) := by
  have c := List.all_eq_true.mp chkD_all m (List.mem_range.mpr (by omega))
  have hp : (toI o).Perm (plainI m) := by rw [← toI_range]; exact List.Perm.map _ h
  have c := List.all_eq_true.mp c (toI o) (allP_mem _ _ hp)
  rw [natL_toI] at c
  have c := List.all_eq_true.mp c k (List.mem_range.mpr (by omega))
  simp only [Bool.and_eq_true, Bool.or_eq_true, decide_eq_true_eq] at c
  exact ⟨c.1.1, c.1.2, c.2⟩
theorem PmN.swap {m : Nat} {o : List Nat} (h : PmN m o) (k : Nat) : PmN m (swapAt o k) := (swapAt_perm o k).trans h
/-- deeds by place on polynomials -/
structure Hop (m : Nat) (op : Nat → Pol → Pol) : Prop where
  congr : ∀ {k : Nat} {a b : Pol}, (∀ ns, cf a ns = cf b ns) → ∀ ns, cf (op k a) ns = cf (op k b) ns
  len : ∀ {k : Nat} {a : Pol}, k + 2 ≤ m → (∀ t ∈ a, t.1.length = m) → ∀ t ∈ op k a, t.1.length = m
  far : ∀ {i j : Nat} {a : Pol}, i + 2 ≤ j → j + 2 ≤ m → (∀ t ∈ a, t.1.length = m) → ∀ ns, cf (op i (op j a)) ns = cf (op j (op i a)) ns
  braid : ∀ {k : Nat} {a : Pol}, k + 3 ≤ m → (∀ t ∈ a, t.1.length = m) → ∀ ns, cf (op k (op (k + 1) (op k a))) ns = cf (op (k + 1) (op k (op (k + 1) a))) ns
theorem hop_rai (m : Nat) : Hop m raiP := ⟨rai_congr, raiP_len, fun h1 h2 ha => rai_far h1 h2 ha, fun h ha => rai_braid h ha⟩
section
variable {m : Nat} {op : Nat → Pol → Pol} (O : Hop m op)
include O
theorem Hop.wcongr {a b : Pol} (h : ∀ ns, cf a ns = cf b ns) : ∀ (ks : List Nat) (ns : List Nat), cf (ks.foldr op a) ns = cf (ks.foldr op b) ns
  | [], ns => h ns
  | k :: ks, ns => O.congr (Hop.wcongr h ks) ns
theorem Hop.wlen {a : Pol} (h : ∀ t ∈ a, t.1.length = m) : ∀ {ks : List Nat}, (∀ k ∈ ks, k + 2 ≤ m) → ∀ t ∈ ks.foldr op a, t.1.length = m
  | [], _ => h
  | k :: ks, hk => O.len (hk k List.mem_cons_self) (Hop.wlen h fun j hj => hk j (List.mem_cons_of_mem _ hj))
/-- an order's word may end with any place where the order falls -/
theorem Hop.ends (m5 : m ≤ 5) : ∀ (n : Nat) (o : List Nat) (k : Nat) (a : Pol), (lw o).length = n → PmN m o → k + 2 ≤ m → fal o k = true → (∀ t ∈ a, t.1.length = m) → ∀ ns, cf ((lw o).foldr op a) ns = cf ((lw (swapAt o k)).foldr op (op k a)) ns := by
  intro n
  induction n using Nat.strongRecOn with
  | ind n ih =>
    intro o k a hn po hk hf ha ns
    have c := (po.chk m5 hk).1
    unfold chkD at c
    rw [hf, Bool.not_true, Bool.false_or] at c
    split at c
    · cases c
    rename_i d ed
    simp only [Bool.and_eq_true, Bool.or_eq_true, decide_eq_true_eq] at c
    obtain ⟨⟨⟨⟨hd, e1⟩, e2⟩, e3⟩, c⟩ := c
    have l1 : (lw (swapAt o d)).length + 1 = (lw o).length := by rw [e1]; simp
    rw [e1, List.foldr_append]
    show cf ((lw (swapAt o d)).foldr op (op d a)) ns = _
    rcases c with rfl | c
    · rfl
    split at c
    · rename_i hfar
      simp only [Bool.and_eq_true, decide_eq_true_eq] at c
      obtain ⟨⟨f1, f2⟩, e⟩ := c
      rw [ih _ (by omega) (swapAt o d) k (op d a) rfl (po.swap d) hk f1 (O.len hd ha), ih (lw (swapAt o k)).length (by omega) (swapAt o k) d (op k a) rfl (po.swap k) hd f2 (O.len hk ha), e]
      refine O.wcongr (fun ns => ?_) _ ns
      rcases hfar with h | h
      · exact O.far h hd ha ns
      · exact (O.far h hk ha ns).symm
    · rename_i hnear
      by_cases hkd : k = d
      · subst hkd; rfl
      simp only [Bool.and_eq_true, decide_eq_true_eq] at c
      obtain ⟨⟨⟨⟨f1, f2⟩, f3⟩, f4⟩, e⟩ := c
      have q1 := (((po.swap d).chk m5 hk).1)
      have q2 := (((po.swap k).chk m5 hd).1)
      have ll : ∀ {o : List Nat} {k : Nat}, PmN m o → k + 2 ≤ m → fal o k = true → (lw (swapAt o k)).length + 1 = (lw o).length := fun {o k} po hk hf => by
        have c := (po.chk m5 hk).1
        unfold chkD at c
        rw [hf, Bool.not_true, Bool.false_or] at c
        split at c
        · cases c
        simp only [Bool.and_eq_true, Bool.or_eq_true, decide_eq_true_eq] at c
        exact c.1.1.2
      have l2 := ll (po.swap d) hk f1
      have l3 := ll (po.swap k) hd f3
      rw [ih _ (by omega) (swapAt o d) k (op d a) rfl (po.swap d) hk f1 (O.len hd ha), ih (lw (swapAt (swapAt o d) k)).length (by omega) (swapAt (swapAt o d) k) d _ rfl ((po.swap d).swap k) hd f2 (O.len hk (O.len hd ha)),
        ih (lw (swapAt o k)).length (by omega) (swapAt o k) d (op k a) rfl (po.swap k) hd f3 (O.len hk ha), ih (lw (swapAt (swapAt o k) d)).length (by omega) (swapAt (swapAt o k) d) k _ rfl ((po.swap k).swap d) hk f4 (O.len hd (O.len hk ha)), e]
      refine O.wcongr (fun ns => ?_) _ ns
      rcases (show k = d + 1 ∨ d = k + 1 by omega) with h | h
      · subst h; exact O.braid (by omega) ha ns
      · subst h; exact (O.braid (by omega) ha ns).symm
/-- a step up at the word's end -/
theorem Hop.rise (m5 : m ≤ 5) {o : List Nat} {k : Nat} {a : Pol} (po : PmN m o) (hk : k + 2 ≤ m) (hr : o.getD k 0 < o.getD (k + 1) 0) (ha : ∀ t ∈ a, t.1.length = m) (ns : List Nat) : cf ((lw o).foldr op (op k a)) ns = cf ((lw (swapAt o k)).foldr op a) ns := by
  have hf : fal (swapAt o k) k = true := by
    rcases (po.chk m5 hk).2.2 with h | h
    · unfold fal at h
      have := of_decide_eq_true h; omega
    · exact h
  have := O.ends m5 _ (swapAt o k) k a rfl (po.swap k) hk hf ha ns
  rw [swap_twiceG] at this
  exact this.symm
/-- a word without idle entries is a short word of its order -/
theorem Hop.short (m5 : m ≤ 5) {a : Pol} (ha : ∀ t ∈ a, t.1.length = m) : ∀ (ks : List Nat) (o : List Nat), PmN m o → (∀ k ∈ ks, k + 2 ≤ m) → idleF o ks = ks → ∀ ns, cf ((lw o).foldr op (ks.foldr op a)) ns = cf ((lw (ks.foldl swapAt o)).foldr op a) ns
  | [], o, _, _, _, ns => rfl
  | k :: ks, o, po, hk, h, ns => by
    have hk' : ∀ j ∈ ks, j + 2 ≤ m := fun j hj => hk j (List.mem_cons_of_mem _ hj)
    have hkm := hk k List.mem_cons_self
    have e : idleF o (k :: ks) = if o.getD k 0 < o.getD (k + 1) 0 then k :: idleF (swapAt o k) ks else idleF o ks := rfl
    rw [e] at h
    split at h
    · rename_i hr
      injection h with _ h
      show cf ((lw o).foldr op (op k (ks.foldr op a))) ns = cf ((lw (ks.foldl swapAt (swapAt o k))).foldr op a) ns
      rw [O.rise m5 po hkm hr (O.wlen ha hk')]
      exact Hop.short m5 ha ks _ (po.swap k) hk' h ns
    · exfalso
      have : ∀ (ks o : List Nat), (idleF o ks).length ≤ ks.length := fun ks => by
        induction ks with
        | nil => intro o; exact Nat.le_refl _
        | cons j r ih =>
          intro o
          show (if o.getD j 0 < o.getD (j + 1) 0 then j :: idleF (swapAt o j) r else idleF o r).length ≤ _
          split
          · have := ih (swapAt o j); simp; omega
          · have := ih o; simp; omega
      have := this ks o
      rw [h] at this
      simp at this
      omega
end
/-- raised along a word: idle entries do nothing -/
theorem rai_idle {m : Nat} (m5 : m ≤ 5) {a : Pol} (ha : ∀ t ∈ a, t.1.length = m) : ∀ (ks : List Nat) (o : List Nat), PmN m o → (∀ k ∈ ks, k + 2 ≤ m) → ∀ ns, cf (raiW (lw o) (raiW ks a)) ns = cf (raiW (lw o) (raiW (idleF o ks) a)) ns
  | [], _, _, _, _ => rfl
  | k :: ks, o, po, hk, ns => by
    have hk' : ∀ j ∈ ks, j + 2 ≤ m := fun j hj => hk j (List.mem_cons_of_mem _ hj)
    have hkm := hk k List.mem_cons_self
    have O := hop_rai m
    have sub : ∀ {ks o : List Nat}, (∀ k ∈ ks, k + 2 ≤ m) → ∀ k ∈ idleF o ks, k + 2 ≤ m := fun {ks} => by
      induction ks with
      | nil => intro o _ k h; cases h
      | cons j r ih =>
        intro o hk k h
        have e : idleF o (j :: r) = if o.getD j 0 < o.getD (j + 1) 0 then j :: idleF (swapAt o j) r else idleF o r := rfl
        rw [e] at h
        split at h
        · rcases List.mem_cons.mp h with rfl | h
          · exact hk _ List.mem_cons_self
          · exact ih (fun i hi => hk i (List.mem_cons_of_mem _ hi)) k h
        · exact ih (fun i hi => hk i (List.mem_cons_of_mem _ hi)) k h
    have e : idleF o (k :: ks) = if o.getD k 0 < o.getD (k + 1) 0 then k :: idleF (swapAt o k) ks else idleF o ks := rfl
    rw [e]
    split
    · rename_i hr
      show cf ((lw o).foldr raiP (raiP k (raiW ks a))) ns = cf ((lw o).foldr raiP (raiP k (raiW (idleF (swapAt o k) ks) a))) ns
      rw [O.rise m5 po hkm hr (raiW_len ha hk'), O.rise m5 po hkm hr (raiW_len ha (sub hk'))]
      exact rai_idle m5 ha ks _ (po.swap k) hk' ns
    · rename_i hr
      have hf : fal o k = true := (po.chk m5 hkm).2.1.resolve_right hr
      have hg := raiW_len ha hk'
      show cf ((lw o).foldr raiP (raiP k (raiW ks a))) ns = _
      rw [← rai_idle m5 ha ks o po hk' ns]
      show _ = cf ((lw o).foldr raiP (raiW ks a)) ns
      rw [O.ends m5 _ o k _ rfl po hkm hf (raiP_len hkm hg), O.ends m5 _ o k _ rfl po hkm hf hg]
      exact O.wcongr (fun ns => rai_rai hkm hg ns) _ ns
theorem lw_plain : ∀ m, m < 6 → lw (List.range m) = [] := by decide +kernel
theorem PmN.plain (m : Nat) : PmN m (List.range m) := List.Perm.refl _
/-- raised along a word and along what is left of it: the same -/
theorem raiW_idle {m : Nat} (m5 : m ≤ 5) {a : Pol} (ha : ∀ t ∈ a, t.1.length = m) {ks : List Nat} (hk : ∀ k ∈ ks, k + 2 ≤ m) (ns : List Nat) : cf (raiW ks a) ns = cf (raiW (idleF (List.range m) ks) a) ns := by
  have := rai_idle m5 ha ks _ (PmN.plain m) hk ns
  rw [lw_plain m (by omega)] at this
  exact this
end L2

set_option Elab.async false
set_option linter.all false
set_option maxRecDepth 100000
set_option maxHeartbeats 4000000
namespace K32
open PySem L2
section
variable {P : Program} {w : World} {K : PySem.W.Frag} {mg : Str → Option Value} {base : Heap} {A : Adr} {gq : Array GenState → Drawn → Prop}
theorem ite2r {c : Prop} [Decidable c] {A B : Prop} (hB : ¬ c → B) (hA : c → A) : if c then A else B := ite2 hA hB
def sp_countG : Sp := fun vs H Q _ => ∃ m : Int, vs = [.int m] ∧ 1 ≤ m ∧ m ≤ 5 ∧ Q .non H
theorem ok_check_count (T : Txt K mg A) : FnOk P w K mg base (CXq gq) 3 A.check_count A.fd_check_count P_check_count sp_countG := by
  have nd := sc_check_count.nd
  have G_is_within : FnOk P w K mg base (CXq gq) 2 A.is_within A.fd_is_within P_is_within (sp_within K) := ok_is_within T
  have b_is_within := b_is_within T
  refine T.F_check_count.okc sc_check_count (fun vs H Q E h => ?_) (fun A' outer s H vs Q E hr h => ?_)
  · obtain ⟨m, rfl, _⟩ := h; rfl
  obtain ⟨m, rfl, m1, m2, q⟩ := h
  refine ⟨_, (pss_one (ps_if (pt_not (pt_val (pe_call (G_is_within.mono (by decide)) hr rfl T.m_is_within T.F_is_within.kp b_is_within .nil pass0 (pa_cons (pv 0) (pa_cons pe_int (pa_cons (pe_gint rfl T.g_MOST_THINGS) pa_nil)))))) (pss_one ps_never) pss_nil)), ?_⟩
  refine ⟨_, rfl, .int m, "int", 1, 5, rfl, rfl, _, rfl, ?_⟩
  rw [show withinV (.int m) 1 5 = true by show (decide (1 ≤ m) && decide (m ≤ 5)) = true; rw [decide_eq_true m1, decide_eq_true m2]; rfl]
  exact iteF q
theorem tabW {A : Adr} {H : Hp} (ht : Tab A H) : H A.p_is_word = some (TabP A.p_is_word) := by first | exact ht | exact ht.1 | exact ht.2 | exact ht.2.1 | exact ht.2.2 | exact ht.2.2.1 | exact ht.2.2.2 | exact ht.2.2.2.1 | exact ht.2.2.2.2
def sp_is_word (K : PySem.W.Frag) (A : Adr) : Sp := fun vs H Q _ => ∃ (m : Int) (v : V) (b : Bool), vs = [.int m, v] ∧ WordIs K H m v b ∧ Tab A H ∧ Q (.bl b) H
theorem ok_is_word (T : Txt K mg A) (B : Bas mg base A) : FnOk P w K mg base CX0 4 A.is_word A.fd_is_word P_is_word (sp_is_word K A) := by
  have nd := sc_is_word.nd
  have G_is_within : ∀ gq, FnOk P w K mg base (CXq gq) 2 A.is_within A.fd_is_within P_is_within (sp_within K) := fun _ => ok_is_within T
  have b_is_within := b_is_within T
  refine T.F_is_word.okc sc_is_word (fun vs H Q E h => ?_) (fun A' outer s H vs Q E hr h => ?_)
  · obtain ⟨m, v, b, rfl, _⟩ := h; rfl
  obtain ⟨m, v, b, rfl, hv, ht, q⟩ := h
  refine ⟨_, (pss_cons (ps_if (PW.pt (pw_or (pt_not (pt_val (pe_callB call_isi (by rfl) T.z_isinstance (by decide +kernel) (pa_cons (pv 1) (pa_cons (pe_ty "list" (by rfl) T.z_list (by decide +kernel)) pa_nil))))) (pw_or1 (pt_cmpR op_gt (pe_callB call_len (by rfl) T.z_len PySem.boot_len (pa_cons (pv 1) pa_nil)) (pe_gint rfl T.g_MOST_ENTRIES) (nomark _))))) (pss_one (ps_ret pe_bl)) pss_nil)
      (pss_one (ps_ret (pe_allgen (k := 2) (x := "k") rfl rfl hr T.c_is_word B.d_is_word ⟨B.bm⟩ rfl (by decide +kernel) (by show ∀ y : Str × NameKind, y ∈ _ → y.2 = NameKind.free → (defScope s_is_word).names.lookup y.1 = some NameKind.cell; decide +kernel) (by decide +kernel) (by decide +kernel) rfl rfl T.z_all (by decide +kernel) (pv 1) (fun _ => rfl) G_is_within T.m_is_within T.F_is_within.kp b_is_within (by decide +kernel) (ga_cons (ge_loc rfl (by decide +kernel)) (ga_cons ge_int (ga_cons (ge_sub (ge_free 0 rfl (by decide +kernel) rfl (by show (defScope s_is_word).names.lookup _ = _; decide +kernel)) ge_int) ga_nil))))))), ?_⟩
  rcases hv with ⟨k, hk, nk, rfl⟩ | ⟨a, xs, rfl, hs, kn, rfl⟩
  · refine ⟨_, rfl, v, k, "list", rfl, hk, .inr (.inr (.inl rfl)), _, rfl, ?_⟩
    have ei : isi k "list" = false := by
      unfold isi
      rw [show (k == "list") = false by simpa using nk]
      cases (k == "bool") <;> rfl
    rw [ei]
    exact iteT (iteT q)
  · refine ⟨_, rfl, .ref a, "list", "list", rfl, .inl ⟨rfl, xs, hs⟩, .inr (.inr (.inl rfl)), _, rfl, iteF ?_⟩
    refine ⟨_, rfl, .ref a, xs.length, rfl, .inl ⟨xs, hs, rfl⟩, _, _, rfl, rfl, _, rfl, ?_⟩
    unfold wordV at q
    by_cases h30 : xs.length ≤ 30
    · rw [decide_eq_false (show ¬ (30 : Int) < (xs.length : Int) by omega)]
      refine iteF ?_
      rw [decide_eq_true h30, Bool.true_and] at q
      refine ⟨_, rfl, a, xs, rfl, .inl hs, tabW ht, fun x => withinV x 0 (m - 2), fun y hy => ?_, q⟩
      obtain ⟨k', hk'⟩ := kn y hy
      exact ⟨_, rfl, fun Hf lf => ⟨y, k', 0, m - 2, rfl, lf.kd hk', rfl⟩⟩
    · rw [decide_eq_true (show (30 : Int) < (xs.length : Int) by omega)]
      rw [decide_eq_false h30, Bool.false_and] at q
      exact iteT q
end
end K32

set_option Elab.async false
set_option linter.all false
set_option maxRecDepth 100000
set_option maxHeartbeats 4000000
namespace K32
open PySem L2
section
variable {P : Program} {w : World} {K : PySem.W.Frag} {mg : Str → Option Value} {base : Heap} {A : Adr} {gq : Array GenState → Drawn → Prop}
def sp_checkw (K : PySem.W.Frag) (A : Adr) : Sp := fun vs H Q _ => ∃ (m : Int) (a : Addr) (xs : List V), vs = [.int m, .ref a] ∧ SqL K H a xs ∧ xs.length ≤ 30 ∧ (∀ x ∈ xs, ∃ i : Int, x = .int i ∧ 0 ≤ i ∧ i ≤ m - 2) ∧ Tab A H ∧ Q .non H
theorem ok_check_word (T : Txt K mg A) (B : Bas mg base A) : FnOk P w K mg base CX0 5 A.check_word A.fd_check_word P_check_word (sp_checkw K A) := by
  have nd := sc_check_word.nd
  have G_is_word : FnOk P w K mg base CX0 4 A.is_word A.fd_is_word P_is_word (sp_is_word K A) := ok_is_word T B
  have b_is_word := b_is_word T
  refine T.F_check_word.okc sc_check_word (fun vs H Q E h => ?_) (fun A' outer s H vs Q E hr h => ?_)
  · obtain ⟨m, a, xs, rfl, _⟩ := h; rfl
  obtain ⟨m, a, xs, rfl, hx, hz, hi, ht, q⟩ := h
  refine ⟨_, (pss_one (ps_if (pt_not (pt_val (pe_call (G_is_word.mono (by decide)) hr rfl T.m_is_word T.F_is_word.kp b_is_word .nil pass0 (pa_cons (pv 0) (pa_cons (pv 1) pa_nil))))) (pss_one ps_never) pss_nil)), ?_⟩
  refine ⟨_, rfl, _, rfl, m, .ref a, true, rfl, .inr ⟨a, xs, rfl, hx, word_known hi, (wordV_true hz hi).symm⟩, ht, _, rfl, iteF q⟩
def ndf (r : List Int) : Nat → Int
  | 0 => 0
  | i + 1 => ndf r i + (r.getD (r.length - 1 - i) 0 - r.getD i 0)
def rdl (r : List Int) : Nat → List (Nat × Int)
  | 0 => []
  | i + 1 => rdl r i ++ (if ndf r (i + 1) ≠ 0 then [(r.length - 2 - i, ndf r (i + 1))] else [])
/-- tuples of two numbers -/
def Prs (H : Hp) : List V → List (Nat × Int) → Prop
  | [], [] => True
  | v :: vs, t :: ts => (∃ p, v = .ref p ∧ H p = some (.tup [.int t.1, .int t.2])) ∧ Prs H vs ts
  | _, _ => False
theorem Prs.len {H : Hp} : ∀ {vs : List V} {ts : List (Nat × Int)}, Prs H vs ts → vs.length = ts.length
  | [], [], _ => rfl
  | [], _ :: _, x => x.elim
  | _ :: _, [], x => x.elim
  | _ :: _, _ :: _, x => by rw [List.length_cons, List.length_cons, Prs.len x.2]
theorem Prs.keep {H H' : Hp} (k : KeepT H H') : ∀ {vs : List V} {ts : List (Nat × Int)}, Prs H vs ts → Prs H' vs ts
  | [], [], _ => trivial
  | [], _ :: _, x => x.elim
  | _ :: _, [], x => x.elim
  | _ :: _, _ :: _, ⟨⟨p, e, h⟩, x⟩ => ⟨⟨p, e, k _ _ h⟩, x.keep k⟩
theorem Prs.snoc {H : Hp} {p : Addr} {t : Nat × Int} (h : H p = some (.tup [.int t.1, .int t.2])) : ∀ {vs : List V} {ts : List (Nat × Int)}, Prs H vs ts → Prs H (vs ++ [.ref p]) (ts ++ [t])
  | [], [], _ => ⟨⟨p, rfl, h⟩, trivial⟩
  | [], _ :: _, x => x.elim
  | _ :: _, [], x => x.elim
  | _ :: _, _ :: _, ⟨y, x⟩ => ⟨y, Prs.snoc h x⟩
theorem Prs.get {H : Hp} : ∀ {vs : List V} {ts : List (Nat × Int)} {i : Nat} {z : V}, Prs H vs ts → vs[i]? = some z → ∃ t p, ts[i]? = some t ∧ z = .ref p ∧ H p = some (.tup [.int t.1, .int t.2])
  | [], [], _, _, _, e => by cases e
  | [], _ :: _, _, _, x, _ => x.elim
  | _ :: _, [], _, _, x, _ => x.elim
  | _ :: _, t :: _, 0, _, ⟨⟨p, e, h⟩, _⟩, ez => by cases ez; exact ⟨t, p, rfl, e, h⟩
  | _ :: _, _ :: _, i + 1, _, ⟨_, x⟩, ez => x.get (by simpa using ez)
theorem rdl_len (r : List Int) : ∀ i, (rdl r i).length ≤ i
  | 0 => Nat.le_refl _
  | i + 1 => by
    have := rdl_len r i
    show (rdl r i ++ _).length ≤ i + 1
    rw [List.length_append]
    split
    · show _ + 1 ≤ _; omega
    · show _ + 0 ≤ _; omega
theorem at_neg {xs : List V} {z : Int} {j : Nat} {v : V} (e : z = (j : Int) - (xs.length : Int)) (h : xs[j]? = some v) : atI xs z = some v := by
  have hj : j < xs.length := (List.getElem?_eq_some_iff.mp h).1
  have : ixN xs.length z = some j := by
    unfold ixN
    subst e
    rw [if_neg (by omega), if_pos (by omega)]
    congr 1
    omega
  unfold atI
  rw [this]
  exact h
def sp_rowd (K : PySem.W.Frag) : Sp := fun vs H Q _ => ∃ (a : Addr) (r : List Int), vs = [.ref a] ∧ SqL K H a (intsV r) ∧ 1 ≤ r.length ∧ r.length ≤ 100 ∧ ∀ (l : Addr) (rs : List V) (H' : Hp), Same H H' → H l = none → H' l = some (.lst rs) → Prs H' rs (rdl r (r.length - 1)) → Q (.ref l) H'
theorem ok_row_difference (T : Txt K mg A) : FnOk P w K mg base (CXq gq) 1 A.row_difference A.fd_row_difference P_row_difference (sp_rowd K) := by
  have nd := sc_row_difference.nd
  refine T.F_row_difference.okc sc_row_difference (fun vs H Q E h => ?_) (fun A' outer s H vs Q E hr h => ?_)
  · obtain ⟨a, r, rfl, _⟩ := h; rfl
  obtain ⟨a, r, rfl, ha, r1, r2, q⟩ := h
  refine ⟨_, (pss_cons (ps_set (i := 1) nd rfl (Or.inl rfl) (pe_lst pa_nil))
      (pss_cons (ps_set (i := 2) nd rfl (Or.inl rfl) pe_int)
      (pss_cons (ps_for PassesOwn.never rfl (pi_range3 (by rfl) T.z_range (pa_cons (pe_op op_sub (pe_callB call_len (by rfl) T.z_len PySem.boot_len (pa_cons (pv 0) pa_nil)) pe_int) (pa_cons pe_int (pa_cons (pe_un un_neg pe_int) pa_nil)))) (pg_name (i := 3) nd rfl (Or.inl rfl)) (pss_cons (ps_aug (i := 2) nd rfl (Or.inl rfl) (pe_op op_sub (pe_ix ix_list (pv 0) (pv 3) (fun _ _ => rfl)) (pe_ix ix_list (pv 0) (pe_op op_sub (pe_un un_neg pe_int) (pv 3)) (fun _ _ => rfl))) ip_add)
        (pss_one (ps_if (pt_cmpR op_ne (pv 2) pe_int (nomark _)) (pss_one (ps_expr (pe_bm PySem.F.plainAttrs_list PySem.F.slot_list_append PySem.F.type_list_append mt_append (pv 1) (pa_cons (pe_tup (pa_cons (pe_op op_sub (pv 3) pe_int) (pa_cons (pv 2) pa_nil))) pa_nil)))) pss_nil))))
      (pss_one (ps_ret (pv 1)))))), ?_⟩
  refine ⟨(by show 0 ≤ sizeLine; decide), fun f hf => ?_⟩
  have hf0 : H f = none := hf
  have s1 := same_new (o := .lst []) hf
  refine ⟨_, rfl, .ref a, r.length, rfl, .inl ⟨_, s1.seqL ha, (intsV_len r).symm⟩, _, _, rfl, rfl, _, rfl, (r.length : Int) - 1, 0, -1, ((r.length : Int) - 1 - 0).toNat, rfl, RgC.neg (by omega) (by omega) (by decide) (by decide), ?_⟩
  have en : ((r.length : Int) - 1 - 0).toNat = r.length - 1 := by omega
  show ∃ W : Nat → Nat → L2.St → Hp → Prop, _
  rw [en]
  refine for_rangeC (lo := (r.length : Int) - 1) (c := -1) (n := r.length - 1) (fun i σ H2 => ∃ (u : Option V) (rs : List V), σ = [some (.ref a), some (.ref f), some (.int (ndf r i)), u] ∧ Same H H2 ∧ H2 f = some (.lst rs) ∧ Prs H2 rs (rdl r i)) ⟨none, [], rfl, s1, upd_same, trivial⟩ ?_ ?_
  · rintro i σ H2 hi ⟨u, rs, rfl, s2, hf2, pr⟩
    have ha2 := s2.seqL ha
    obtain ⟨x, ex⟩ := get_some (show r.length - 1 - i < r.length by omega)
    obtain ⟨y, ey⟩ := get_some (show i < r.length by omega)
    have lr := rdl_len r i
    refine ⟨_, rfl, _, rfl, _, rfl, a, _, _, .int x, rfl, rfl, ha2, at_of (j := r.length - 1 - i) (by show (r.length : Int) - 1 + (i : Int) * (-1) = ((r.length - 1 - i : Nat) : Int); omega) (get_intsV ex), ?_⟩
    refine ⟨_, rfl, _, rfl, _, rfl, _, _, rfl, rfl, a, _, _, .int y, rfl, rfl, ha2, at_neg (j := i) (by rw [intsV_len]; show (-1 : Int) - ((r.length : Int) - 1 + (i : Int) * (-1)) = (i : Int) - (r.length : Int); omega) (get_intsV ey), _, _, rfl, rfl, ?_⟩
    have e1 : ndf r i + (x - y) = ndf r (i + 1) := by
      show _ = ndf r i + (r.getD (r.length - 1 - i) 0 - r.getD i 0)
      rw [show r.getD (r.length - 1 - i) 0 = x by simp [List.getD, ex], show r.getD i 0 = y by simp [List.getD, ey]]
    refine ⟨_, _, rfl, rfl, ?_⟩
    refine ⟨_, rfl, rfl, _, rfl, ?_⟩
    by_cases h0 : ndf r (i + 1) = 0
    · rw [decide_eq_true (show V.int (ndf r i + (x - y)) = V.int 0 by rw [e1, h0])]
      refine iteF ⟨_, rs, by show [some (V.ref a), some (V.ref f), some (V.int (ndf r i + (x - y))), _] = _; rw [e1], s2, hf2, ?_⟩
      show Prs H2 rs (rdl r i ++ (if ndf r (i + 1) ≠ 0 then [(r.length - 2 - i, ndf r (i + 1))] else []))
      rw [if_neg (by rw [h0]; simp), List.append_nil]
      exact pr
    · rw [decide_eq_false (show ¬ V.int (ndf r i + (x - y)) = V.int 0 from fun z => h0 (by rw [← e1]; exact V.int.inj z))]
      refine iteT ⟨_, rfl, .inl ⟨rfl, _, SqL.of hf2⟩, _, rfl, _, _, rfl, rfl, _, rfl, (by show 2 ≤ sizeLine; decide), fun g hg => ?_⟩
      have s3 := same_new (o := .tup [.int ((r.length : Int) - 1 + (i : Int) * (-1) - 1), .int (ndf r i + (x - y))]) hg
      have hf3 := s3 _ _ hf2
      refine ⟨f, rs, _, rfl, rfl, hf3, small1000 (by rw [pr.len]; omega), ?_⟩
      have kt := kt_upd (o := .lst (rs ++ [.ref g])) hf3 fun _ => nofun
      refine ⟨_, rs ++ [.ref g], by show [some (V.ref a), some (V.ref f), some (V.int (ndf r i + (x - y))), _] = _; rw [e1], same_upd (s2.trans s3) hf0, upd_same, ?_⟩
      show Prs _ (rs ++ [.ref g]) (rdl r i ++ (if ndf r (i + 1) ≠ 0 then [(r.length - 2 - i, ndf r (i + 1))] else []))
      rw [if_pos h0]
      refine Prs.snoc (kt _ _ ?_) ((pr.keep s3.kt).keep kt)
      rw [upd_same, e1, show (r.length : Int) - 1 + (i : Int) * (-1) - 1 = ((r.length - 2 - i : Nat) : Int) by omega]
  · rintro σ H2 ⟨u, rs, rfl, s2, hf2, pr⟩
    exact ⟨_, rfl, q f rs H2 s2 hf0 hf2 pr⟩
abbrev Row := List Nat × List Int × Addr
/-- what the rows of terms are -/
structure RowsOk (k m : Nat) (ts : Pol) (E : List Row) : Prop where
  nd : (E.map (·.1)).Nodup
  row : ∀ e ∈ E, ∃ (pre : List Nat) (s : Nat) (post : List Nat), e.1 = pre ++ s :: post ∧ pre.length = k ∧ k + post.length + 2 = m ∧ e.2.1.length = s + 1 ∧ ∀ q, q ≤ s → e.2.1.getD q 0 = cf ts (pre ++ q :: (s - q) :: post)
  all : ∀ t ∈ ts, ∀ (pre : List Nat) (a b : Nat) (post : List Nat), t.1 = pre ++ a :: b :: post → pre.length = k → (pre ++ (a + b) :: post) ∈ E.map (·.1)
theorem split_eq {pre pre' post post' : List Nat} {x x' : Nat} (h : pre ++ x :: post = pre' ++ x' :: post') (hl : pre.length = pre'.length) : pre = pre' ∧ x = x' ∧ post = post' := by
  obtain ⟨h1, h2⟩ := List.append_inj h hl
  injection h2 with h2 h3
  exact ⟨h1, h2, h3⟩
theorem rows_nil (k m : Nat) : RowsOk k m [] [] := ⟨List.nodup_nil, (fun _ h => nomatch h), (fun _ h => nomatch h)⟩
theorem RowsOk.ensure {k m : Nat} {ts : Pol} {E : List Row} (h : RowsOk k m ts E) {pre post : List Nat} {s : Nat} (hk : pre.length = k) (hm : k + post.length + 2 = m) (hn : pre ++ s :: post ∉ E.map (·.1)) (la : Addr) : RowsOk k m ts (E ++ [(pre ++ s :: post, List.replicate (s + 1) 0, la)]) where
  nd := by
    rw [List.map_append]
    refine List.nodup_append.mpr ⟨h.nd, by simp, fun a ha b hb => ?_⟩
    rw [List.map_singleton, List.mem_singleton] at hb
    subst hb
    rintro rfl
    exact hn ha
  row := fun e he => by
    rcases List.mem_append.mp he with he | he
    · exact h.row e he
    · rw [List.mem_singleton] at he
      subst he
      refine ⟨pre, s, post, rfl, hk, hm, List.length_replicate, fun q hq => ?_⟩
      have hz : cf ts (pre ++ q :: (s - q) :: post) = 0 := cf_none fun hmem => by
        obtain ⟨t, ht, e⟩ := List.mem_map.mp hmem
        have := h.all t ht pre q (s - q) post e hk
        rw [show q + (s - q) = s by omega] at this
        exact hn this
      rw [hz]
      show (List.replicate (s + 1) (0 : Int)).getD q 0 = 0
      rw [List.getD, List.getElem?_replicate]
      split <;> rfl
  all := fun t ht pre' a b post' e hl => by
    rw [List.map_append]
    exact List.mem_append_left _ (h.all t ht pre' a b post' e hl)
theorem set_same {α : Type} {l : List α} {j : Nat} {x : α} (h : l[j]? = some x) : l.set j x = l := by
  apply List.ext_getElem?
  intro i
  rw [List.getElem?_set]
  split
  · rename_i e; subst e
    rw [h, if_pos (List.getElem?_eq_some_iff.mp h).1]
  · rfl
theorem RowsOk.put {k m : Nat} {ts : Pol} {E : List Row} (h : RowsOk k m ts E) {pre post : List Nat} {a b j : Nat} {r : List Int} {la : Addr} {c : Int} (hk : pre.length = k) (hj : E[j]? = some (pre ++ (a + b) :: post, r, la)) (h0 : cf ts (pre ++ a :: b :: post) = 0) :
    RowsOk k m (ts ++ [(pre ++ a :: b :: post, c)]) (E.set j (pre ++ (a + b) :: post, r.set a c, la)) := by
  have ek : (E.set j (pre ++ (a + b) :: post, r.set a c, la)).map (·.1) = E.map (·.1) := by
    rw [List.map_set]
    exact set_same (by rw [List.getElem?_map, hj]; rfl)
  have hj' : (E.map (·.1))[j]? = some (pre ++ (a + b) :: post) := by rw [List.getElem?_map, hj]; rfl
  have cfx : ∀ ns, cf (ts ++ [(pre ++ a :: b :: post, c)]) ns = cf ts ns + (if pre ++ a :: b :: post = ns then c else 0) := fun ns => by
    rw [cf_app]
    show _ + (((if pre ++ a :: b :: post = ns then c else 0) : Int) + 0) = _
    omega
  refine ⟨by rw [ek]; exact h.nd, fun e he => ?_, fun t ht pre' a' b' post' e hl => ?_⟩
  · obtain ⟨i, hi⟩ := List.mem_iff_getElem?.mp he
    by_cases hij : j = i
    · subst hij
      have hlt : j < E.length := (List.getElem?_eq_some_iff.mp hj).1
      rw [List.getElem?_set_self hlt] at hi
      cases hi
      obtain ⟨pre1, s1, post1, e1, k1, m1, l1, r1⟩ := h.row _ (List.mem_of_getElem? hj)
      obtain ⟨rfl, rfl, rfl⟩ := split_eq e1 (hk.trans k1.symm)
      refine ⟨pre, a + b, post, rfl, hk, m1, by show (r.set a c).length = _; rw [List.length_set]; exact l1, fun q hq => ?_⟩
      show (r.set a c).getD q 0 = _
      rw [cfx]
      have rq : r.getD q 0 = cf ts (pre ++ q :: (a + b - q) :: post) := r1 q hq
      by_cases hqa : q = a
      · subst hqa
        rw [show q + b - q = b by omega, if_pos rfl, h0]
        have hl : q < r.length := by have : r.length = q + b + 1 := l1; omega
        simp [List.getD, List.getElem?_set, hl]
      · rw [if_neg, ← rq]
        · have : (r.set a c)[q]? = r[q]? := List.getElem?_set_ne (fun z => hqa z.symm)
          simp [List.getD, this]
        · intro z
          obtain ⟨_, z2, _⟩ := split_eq z rfl
          exact hqa z2.symm
    · rw [List.getElem?_set_ne hij] at hi
      have hi' : (E.map (·.1))[i]? = some e.1 := by rw [List.getElem?_map, hi]; rfl
      obtain ⟨pre1, s1, post1, e1, k1, m1, l1, r1⟩ := h.row e (List.mem_of_getElem? hi)
      refine ⟨pre1, s1, post1, e1, k1, m1, l1, fun q hq => ?_⟩
      rw [cfx, r1 q hq, if_neg]
      · omega
      · intro z
        obtain ⟨z1, z2, z3⟩ := split_eq z (hk.trans k1.symm)
        injection z3 with z3 z4
        have : e.1 = pre ++ (a + b) :: post := by rw [e1, z1, z4, show s1 = a + b by omega]
        rw [this] at hi'
        exact hij ((List.getElem?_inj (List.getElem?_eq_some_iff.mp hj').1 h.nd).mp (hj'.trans hi'.symm))
  · rw [ek]
    rcases List.mem_append.mp ht with ht | ht
    · exact h.all t ht pre' a' b' post' e hl
    · rw [List.mem_singleton] at ht
      subst ht
      obtain ⟨z1, z2, z3⟩ := split_eq (show pre ++ a :: b :: post = pre' ++ a' :: b' :: post' from e) (hk.trans hl.symm)
      injection z3 with z3 z4
      rw [← z1, ← z2, ← z3, ← z4]
      exact List.mem_of_getElem? hj'
def rowsV (E : List Row) : List (List Key × V) := E.map fun e => (keyW e.1, .ref e.2.2)
def RowsAt (H : Hp) (E : List Row) : Prop := (E.map (·.2.2)).Nodup ∧ ∀ e ∈ E, H e.2.2 = some (.lst (intsV e.2.1))
theorem rowsV_in : ∀ {E : List Row} {j : Nat} {e : Row}, (E.map (·.1)).Nodup → E[j]? = some e → valV (rowsV E) (keyW e.1) = some (.ref e.2.2)
  | [], _, _, _, h => by cases h
  | x :: r, 0, e, _, h => by cases h; exact valV_pos rfl
  | x :: r, j + 1, e, nd, h => by
    rw [List.map_cons, List.nodup_cons] at nd
    have h' : r[j]? = some e := by simpa using h
    rw [show rowsV (x :: r) = (keyW x.1, V.ref x.2.2) :: rowsV r from rfl, valV_neg]
    · exact rowsV_in nd.2 h'
    · intro z
      exact nd.1 (List.mem_map.mpr ⟨e, List.mem_of_getElem? h', (keyW_inj z).symm⟩)
theorem rowsV_out : ∀ {E : List Row} {ns : List Nat}, ns ∉ E.map (·.1) → valV (rowsV E) (keyW ns) = none
  | [], _, _ => rfl
  | x :: r, ns, h => by
    rw [List.map_cons, List.mem_cons, not_or] at h
    rw [show rowsV (x :: r) = (keyW x.1, V.ref x.2.2) :: rowsV r from rfl, valV_neg]
    · exact rowsV_out h.2
    · intro z
      exact h.1 (keyW_inj z).symm
theorem rowsV_put {E : List Row} {ns : List Nat} {r : List Int} {la : Addr} (h : ns ∉ E.map (·.1)) : putK (rowsV E) (keyW ns) (.ref la) = rowsV (E ++ [(ns, r, la)]) := by
  unfold putK
  rw [valV_any, rowsV_out h]
  unfold rowsV
  rw [List.map_append]
  rfl
theorem rowsV_set {E : List Row} {j : Nat} {ns : List Nat} {r r' : List Int} {la : Addr} (h : E[j]? = some (ns, r, la)) : rowsV (E.set j (ns, r', la)) = rowsV E := by
  unfold rowsV
  rw [List.map_set]
  exact set_same (by rw [List.getElem?_map, h]; rfl)
theorem RowsAt.snoc {H : Hp} {E : List Row} {ns : List Nat} {r : List Int} {la : Addr} (h : RowsAt H E) (hn : ∀ e ∈ E, e.2.2 ≠ la) (hl : H la = some (.lst (intsV r))) : RowsAt H (E ++ [(ns, r, la)]) := by
  refine ⟨?_, fun e he => ?_⟩
  · rw [List.map_append]
    refine List.nodup_append.mpr ⟨h.1, by simp, fun a ha b hb => ?_⟩
    rw [List.map_singleton, List.mem_singleton] at hb
    subst hb
    obtain ⟨e, he, rfl⟩ := List.mem_map.mp ha
    exact hn e he
  · rcases List.mem_append.mp he with he | he
    · exact h.2 e he
    · rw [List.mem_singleton] at he; subst he; exact hl
theorem RowsAt.set {H : Hp} {E : List Row} {j : Nat} {ns : List Nat} {r r' : List Int} {la : Addr} (h : RowsAt H E) (hj : E[j]? = some (ns, r, la)) : RowsAt (upd H la (.lst (intsV r'))) (E.set j (ns, r', la)) := by
  have hj' : (E.map (·.2.2))[j]? = some la := by rw [List.getElem?_map, hj]; rfl
  refine ⟨?_, fun e he => ?_⟩
  · rw [List.map_set]
    rw [set_same (x := la) hj']
    exact h.1
  · obtain ⟨i, hi⟩ := List.mem_iff_getElem?.mp he
    by_cases hij : j = i
    · subst hij
      rw [List.getElem?_set_self (List.getElem?_eq_some_iff.mp hj).1] at hi
      cases hi
      exact upd_same
    · rw [List.getElem?_set_ne hij] at hi
      have hi' : (E.map (·.2.2))[i]? = some e.2.2 := by rw [List.getElem?_map, hi]; rfl
      rw [upd_ne]
      · exact h.2 e (List.mem_of_getElem? hi)
      · intro z
        rw [z] at hi'
        exact hij ((List.getElem?_inj (List.getElem?_eq_some_iff.mp hj').1 h.1).mp (hj'.trans hi'.symm))
theorem RowsAt.keep {H H' : Hp} {E : List Row} (h : RowsAt H E) (k : ∀ e ∈ E, ∀ o, H e.2.2 = some o → H' e.2.2 = some o) : RowsAt H' E := ⟨h.1, fun e he => k e he _ (h.2 e he)⟩
end
end K32

set_option Elab.async false
set_option linter.all false
set_option maxRecDepth 100000
set_option maxHeartbeats 4000000
namespace K32
open PySem L2
section
variable {P : Program} {w : World} {K : PySem.W.Frag} {mg : Str → Option Value} {base : Heap} {A : Adr} {gq : Array GenState → Drawn → Prop}
theorem split_at {ns : List Nat} {k m : Nat} (h : ns.length = m) (hk : k + 2 ≤ m) : ∃ (pre : List Nat) (x y : Nat) (post : List Nat), ns = pre ++ x :: y :: post ∧ pre.length = k ∧ k + post.length + 2 = m := by
  have h1 : k < ns.length := by omega
  have h2 : k + 1 < ns.length := by omega
  refine ⟨ns.take k, ns[k], ns[k + 1], ns.drop (k + 2), ?_, by rw [List.length_take]; omega, by rw [List.length_drop]; omega⟩
  rw [← List.drop_eq_getElem_cons h2, ← List.drop_eq_getElem_cons h1, List.take_append_drop]
theorem getN {pre post : List Nat} {x : Nat} {k : Nat} (h : pre.length = k) : (natsV (pre ++ x :: post))[k]? = some (.int (x : Int)) := by
  unfold natsV
  rw [List.getElem?_map, List.getElem?_append_right (by omega), h, Nat.sub_self]; rfl
theorem getN1 {pre post : List Nat} {x y : Nat} {k : Nat} (h : pre.length = k) : (natsV (pre ++ x :: y :: post))[k + 1]? = some (.int (y : Int)) := by
  unfold natsV
  rw [List.getElem?_map, List.getElem?_append_right (by omega), h, Nat.add_sub_cancel_left]; rfl
theorem cutPre {pre post : List Nat} {k : Nat} (h : pre.length = k) : cutV (natsV (pre ++ post)) none (some (k : Int)) = natsV pre := by
  rw [cut_to (by rw [natsV_len, List.length_append]; omega), natsV_takeW, List.take_left' h]
theorem cutPost {pre post : List Nat} {k : Nat} {z : Int} (h : pre.length = k) (e : z = (k : Int)) : cutV (natsV (pre ++ post)) (some z) none = natsV post := by
  rw [cut_fromZ k e (by rw [natsV_len, List.length_append]; omega), natsV_dropW, List.drop_left' h]
theorem rep_ints (n : Nat) (c : Int) : (List.replicate n [V.int c]).flatten = intsV (List.replicate n c) := by
  induction n with
  | zero => rfl
  | succ n ih => rw [List.replicate_succ, List.flatten_cons, ih, List.replicate_succ]; rfl
def sp_rows (K : PySem.W.Frag) : Sp := fun vs H Q _ => ∃ (a : Addr) (k m : Nat) (xs : List V) (ts : Pol), vs = [.ref a, .int k] ∧ SqL K H a xs ∧ Tms H xs ts ∧ (ts.map (·.1)).Nodup ∧ (∀ t ∈ ts, t.1.length = m) ∧ (∀ t ∈ ts, t.1.sum ≤ 50) ∧ k + 2 ≤ m ∧ m ≤ 100 ∧ ts.length ≤ 1900 ∧
  ∀ (d : Addr) (E : List Row) (H' : Hp), Same H H' → H d = none → H' d = some (.dT (rowsV E)) → RowsAt H' E → (∀ e ∈ E, H e.2.2 = none) → (∀ e ∈ E, e.1.sum ≤ 50) → E.length ≤ ts.length → RowsOk k m ts E → Q (.ref d) H'
theorem ok_rows_by_sum (T : Txt K mg A) : FnOk P w K mg base (CXq gq) 1 A.rows_by_sum A.fd_rows_by_sum P_rows_by_sum (sp_rows K) := by
  have nd := sc_rows_by_sum.nd
  refine T.F_rows_by_sum.okc sc_rows_by_sum (fun vs H Q E h => ?_) (fun A' outer s H vs Q E hr h => ?_)
  · obtain ⟨a, k, m, xs, ts, rfl, _⟩ := h; rfl
  obtain ⟨a, k, m, xs, ts, rfl, ha, tm, nt, hm, hsum, hk, m9, hz, q⟩ := h
  have hu := hu_of hr
  refine ⟨_, (pss_cons (ps_set (i := 2) nd rfl (Or.inl rfl) pe_dnewT)
      (pss_cons (ps_for PassesOwn.never rfl (pi_list (pv 0)) (pg_tup (by rfl) (pgs_cons (pg_name (i := 3) nd rfl (Or.inl rfl)) (pgs_cons (pg_name (i := 4) nd rfl (Or.inl rfl)) pgs_nil))) (pss_cons (ps_set (i := 5) nd rfl (Or.inl rfl) (pe_op op_add (pe_ix ix_tup (pv 3) (pv 1) (fun _ _ => rfl)) (pe_ix ix_tup (pv 3) (pe_op op_add (pv 1) pe_int) (fun _ _ => rfl))))
        (pss_cons (ps_set (i := 6) nd rfl (Or.inl rfl) (pe_op op_catK (pe_op op_catK (pe_slice sl_tupK (pv 3) po_none (po_some (pv 1))) (pe_tup (pa_cons (pv 5) pa_nil))) (pe_slice sl_tupK (pv 3) (po_some (pe_op op_add (pv 1) pe_int)) po_none)))
        (pss_cons (ps_if (pt_cmp (pc_dnotin hu (pv 6) (pv 2)) (by rfl)) (pss_one (ps_dput hu (pv 2) (pv 6) (pe_op op_rep (pe_lst (pa_cons pe_int pa_nil)) (pe_op op_add (pv 5) pe_int)) rfl)) pss_nil)
        (pss_one (ps_asg (pv 4) (pg_sub (pe_dget hu (pv 2) (pv 6) (fun _ _ => rfl)) (pe_ix ix_tup (pv 3) (pv 1) (fun _ _ => rfl)) set_list)))))))
      (pss_one (ps_ret (pv 2))))), ?_⟩
  intro d hd
  have hd0 : H d = none := hd
  have s1 := same_new (o := .dT []) hd
  have lx : xs.length = ts.length := tm.length
  refine ⟨_, rfl, a, rfl, ⟨_, s1.seqL ha⟩, ?_⟩
  refine for_list (xs := xs) (fun i σ H2 => ∃ (u1 u2 u3 u4 : Option V) (E : List Row), σ = [some (.ref a), some (.int k), some (.ref d), u1, u2, u3, u4] ∧ Same H H2 ∧ H2 d = some (.dT (rowsV E)) ∧ RowsAt H2 E ∧ (∀ e ∈ E, H e.2.2 = none) ∧ (∀ e ∈ E, e.1.sum ≤ 50) ∧ E.length ≤ i ∧ RowsOk k m (ts.take i) E) ⟨none, none, none, none, [], rfl, s1, upd_same, ⟨List.nodup_nil, fun _ h => nomatch h⟩, (fun _ h => nomatch h), (fun _ h => nomatch h), Nat.le_refl _, rows_nil k m⟩ (fun i σ H2 _ h => by obtain ⟨_, _, _, _, _, _, s2, _⟩ := h; exact s2.seqL ha) ?_ ?_
  · rintro i z σ H2 ez ⟨u1, u2, u3, u4, E, rfl, s2, hd2, ra, fr, sE, lE, ok⟩
    obtain ⟨t, et, tt⟩ := tm.get ez
    have hi : i < ts.length := (List.getElem?_eq_some_iff.mp et).1
    have mt := List.mem_of_getElem? et
    obtain ⟨p, b, rfl, hp, hb⟩ := tt.same s2
    obtain ⟨ns, c⟩ := t
    have st := hsum _ mt
    obtain ⟨pre, x, y, post, rfl, hpre, hpost⟩ := split_at (hm _ mt) hk
    have hb : H2 b = some (.tup (natsV (pre ++ x :: y :: post))) := hb
    have st : (pre ++ x :: y :: post).sum ≤ 50 := st
    have hsm : pre.sum + (x + (y + post.sum)) ≤ 50 := by simpa [List.sum_append, List.sum_cons] using st
    refine ⟨p, _, rfl, SqT.of hp, rfl, _, _, rfl, _, _, rfl, rfl, ?_⟩
    refine ⟨_, rfl, _, rfl, b, _, _, .int x, rfl, rfl, SqT.of hb, at_of (j := k) rfl (getN hpre), _, rfl, _, rfl, _, _, rfl, rfl, b, _, _, .int y, rfl, rfl, SqT.of hb, at_of (j := k + 1) (by omega) (getN1 hpre), _, _, rfl, rfl, ?_⟩
    refine ⟨_, rfl, _, rfl, _, rfl, b, _, rfl, hb, fun e1 E1 s3 z1 => ?_⟩
    rw [cutPre hpre] at z1
    refine ⟨_, rfl, (by show 1 ≤ sizeLine; decide), fun e2 ne2 => ?_⟩
    have s4 := same_new (o := .tup [.int ((x : Int) + (y : Int))]) ne2
    have z2 := upd_same (H := E1) (a := e2) (o := .tup [.int ((x : Int) + (y : Int))])
    generalize upd E1 e2 (.tup [.int ((x : Int) + (y : Int))]) = E2 at s4 z2 ⊢
    refine ⟨e1, e2, _, _, rfl, rfl, s4 _ _ z1, z2, le_size (by rw [natsV_len]; show pre.length + 1 ≤ 1000; omega), fun e3 E3 s5 z3 => ?_⟩
    have s35 := s3.trans (s4.trans s5)
    refine ⟨_, rfl, _, rfl, _, _, rfl, rfl, _, rfl, b, _, rfl, s35 _ _ hb, fun e4 E4 s6 z4 => ?_⟩
    rw [show pre ++ x :: y :: post = (pre ++ [x, y]) ++ post by simp, cutPost (k := k + 2) (by simp; omega) (by omega)] at z4
    refine ⟨e3, e4, _, _, rfl, rfl, s6 _ _ z3, z4, le_size (by rw [List.length_append, natsV_len, natsV_len]; show pre.length + 1 + post.length ≤ 1000; omega), fun kb E5 s7 z5 => ?_⟩
    have ekey : natsV pre ++ [V.int ((x : Int) + (y : Int))] ++ natsV post = natsV (pre ++ (x + y) :: post) := by
      unfold natsV; simp
    rw [ekey] at z5
    have s25 := s35.trans (s6.trans s7)
    have s05 := s2.trans s25
    have hd5 := s25 _ _ hd2
    have ra5 : RowsAt E5 E := ra.keep fun e _ o h => s25 _ _ h
    have hb5 := s25 _ _ hb
    generalize E5 = H5 at s7 z5 s25 s05 hd5 ra5 hb5 ⊢
    have ks : (pre ++ (x + y) :: post).sum ≤ 50 := by simp [List.sum_append, List.sum_cons]; omega
    have ezI : ((x : Int) + (y : Int)) = ((x + y : Nat) : Int) := by omega
    apply join_st (G := fun σ Hx => ∃ (E1 : List Row) (j : Nat) (r : List Int) (la : Addr), σ = [some (.ref a), some (.int k), some (.ref d), some (.ref b), some (.int c), some (.int ((x : Int) + (y : Int))), some (.ref kb)] ∧ Same H Hx ∧ Hx d = some (.dT (rowsV E1)) ∧ RowsAt Hx E1 ∧ (∀ e ∈ E1, H e.2.2 = none) ∧ (∀ e ∈ E1, e.1.sum ≤ 50) ∧ E1.length ≤ i + 1 ∧ RowsOk k m (ts.take i) E1 ∧ E1[j]? = some (pre ++ (x + y) :: post, r, la) ∧ Hx b = some (.tup (natsV (pre ++ x :: y :: post))) ∧ Hx kb = some (.tup (natsV (pre ++ (x + y) :: post))))
    · intro tail
      refine ⟨_, rfl, _, rfl, d, valV (rowsV E) (keyW (pre ++ (x + y) :: post)), rfl, .inr ⟨_, _, kb, .inl hd5, rfl, by rw [← keyW_V]; exact z5, rfl⟩, _, rfl, ?_⟩
      by_cases hin : pre ++ (x + y) :: post ∈ E.map (·.1)
      · obtain ⟨e, he, ee⟩ := List.mem_map.mp hin
        obtain ⟨j, hj⟩ := List.mem_iff_getElem?.mp he
        obtain ⟨e1, r, la⟩ := e
        have ee : e1 = pre ++ (x + y) :: post := ee
        subst ee
        rw [rowsV_in ok.nd hj]
        exact iteF (tail _ _ ⟨E, j, r, la, rfl, s05, hd5, ra5, fr, sE, by omega, ok, hj, hb5, z5⟩)
      · rw [rowsV_out hin]
        refine iteT ⟨(by show 1 ≤ sizeLine; decide), fun l3 hl3 => ?_⟩
        have r1 := same_new (o := .lst [.int 0]) hl3
        refine ⟨_, rfl, _, _, rfl, rfl, l3, (x : Int) + (y : Int) + 1, _, rfl, rfl, upd_same, by omega, by omega, by show 1 * ((x : Int) + (y : Int) + 1).toNat ≤ sizeLine; exact le_size (by omega), fun la hla => ?_⟩
        have r2 := same_new (o := .lst (List.replicate ((x : Int) + (y : Int) + 1).toNat [V.int 0]).flatten) hla
        have gla : (upd (upd H5 l3 (.lst [.int 0])) la (.lst (List.replicate ((x : Int) + (y : Int) + 1).toNat [V.int 0]).flatten)) la = some (.lst (intsV (List.replicate (x + y + 1) 0))) := by
          rw [upd_same, show ((x : Int) + (y : Int) + 1).toNat = x + y + 1 by omega, rep_ints]
        have hla0 : H la = none := (s05.trans r1).free hla
        have hne : ∀ e ∈ E, e.2.2 ≠ la := fun e he => ne_of_none (r1 _ _ (ra5.2 e he)) hla
        have r12 := r1.trans r2
        generalize upd (upd H5 l3 (.lst [.int 0])) la (.lst (List.replicate ((x : Int) + (y : Int) + 1).toNat [V.int 0]).flatten) = HL at r2 r12 gla ⊢
        have hdL := r12 _ _ hd5
        have zL := r12 _ _ z5
        have raL : RowsAt HL (E ++ [(pre ++ (x + y) :: post, List.replicate (x + y + 1) 0, la)]) := (ra5.keep fun e _ o h => r12 _ _ h).snoc hne gla
        refine ⟨_, rfl, _, rfl, d, _, rfl, DPut.t (k := keyW (pre ++ (x + y) :: post)) hdL (by rw [← keyW_V]; exact zL) (small5 (by unfold rowsV; rw [List.length_map]; omega)), ?_⟩
        rw [rowsV_put (r := List.replicate (x + y + 1) 0) hin]
        refine tail _ _ ⟨_, E.length, List.replicate (x + y + 1) 0, la, rfl, same_upd (s05.trans r12) hd0, upd_same, raL.keep fun e he o h => ?_, fun e he => ?_, fun e he => ?_, by rw [List.length_append]; show E.length + 1 ≤ i + 1; omega, ok.ensure hpre hpost hin la, by simp, ?_, ?_⟩
        · rw [upd_ne (fun z => by rw [z, hdL] at h; cases h; have := raL.2 e he; rw [z, hdL] at this; cases this)]; exact h
        · rcases List.mem_append.mp he with he | he
          · exact fr e he
          · rw [List.mem_singleton] at he; subst he; exact hla0
        · rcases List.mem_append.mp he with he | he
          · exact sE e he
          · rw [List.mem_singleton] at he; subst he; exact ks
        · rw [upd_ne (fun z => by have := r12 _ _ hb5; rw [z, hdL] at this; cases this)]; exact r12 _ _ hb5
        · rw [upd_ne (fun z => by rw [z, hdL] at zL; cases zL)]; exact zL
    rintro σ HX ⟨E1, j, r, la, rfl, sX, hdX, raX, frX, suX, lX, okX, hj, hbX, hkX⟩
    obtain ⟨pre1, s1', post1, e1, k1, _, l1, _⟩ := okX.row _ (List.mem_of_getElem? hj)
    obtain ⟨_, rfl, _⟩ := split_eq e1 (hpre.trans k1.symm)
    have l1 : r.length = x + y + 1 := l1
    have hla := raX.2 _ (List.mem_of_getElem? hj)
    have hla : HX la = some (.lst (intsV r)) := hla
    have h0 : cf (ts.take i) (pre ++ x :: y :: post) = 0 := cf_none fun hmem => by
      obtain ⟨t', ht', e'⟩ := List.mem_map.mp hmem
      obtain ⟨i', hi'⟩ := List.mem_iff_getElem?.mp ht'
      have hlt : i' < i := by
        have := (List.getElem?_eq_some_iff.mp hi').1
        rw [List.length_take] at this; omega
      rw [List.getElem?_take, if_pos hlt] at hi'
      have a1 : (ts.map (·.1))[i']? = some (pre ++ x :: y :: post) := by rw [List.getElem?_map, hi', ← e']; rfl
      have a2 : (ts.map (·.1))[i]? = some (pre ++ x :: y :: post) := by rw [List.getElem?_map, et]; rfl
      have := (List.getElem?_inj (List.getElem?_eq_some_iff.mp a1).1 nt).mp (a1.trans a2.symm)
      omega
    refine ⟨_, rfl, _, rfl, _, rfl, d, .ref la, rfl, .inr ⟨_, _, kb, .inl hdX, rfl, by rw [← keyW_V]; exact hkX, (rowsV_in okX.nd hj).symm⟩, _, rfl, _, rfl, b, _, _, .int x, rfl, rfl, SqT.of hbX, at_of (j := k) rfl (getN hpre), la, intsV r, (x : Int), x, rfl, rfl, hla, ixN_nat (by rw [intsV_len]; omega), ?_⟩
    have eset : (intsV r).set x (.int c) = intsV (r.set x c) := by unfold intsV; rw [List.map_set]
    show _
    refine ⟨_, _, _, _, E1.set j (pre ++ (x + y) :: post, r.set x c, la), rfl, same_upd sX (frX _ (List.mem_of_getElem? hj)), ?_, ?_, fun e he => ?_, fun e he => ?_, by rw [List.length_set]; exact lX, ?_⟩
    · rw [upd_ne (fun z => by rw [z, hla] at hdX; cases hdX), rowsV_set hj]; exact hdX
    · show RowsAt (upd HX la (.lst ((intsV r).set x (.int c)))) _
      rw [eset]; exact raX.set hj
    · rcases List.mem_or_eq_of_mem_set he with he | rfl
      · exact frX e he
      · exact frX (pre ++ (x + y) :: post, r, la) (List.mem_of_getElem? hj)
    · rcases List.mem_or_eq_of_mem_set he with he | rfl
      · exact suX e he
      · exact ks
    · rw [take_snoc et]
      exact okX.put hpre hj h0
  · rintro σ H2 ⟨u1, u2, u3, u4, E, rfl, s2, hd2, ra, fr, sE, lE, ok⟩
    rw [lx, List.take_length] at ok
    exact ⟨_, rfl, q d E H2 s2 hd0 hd2 ra fr sE (by omega) ok⟩
end
end K32

set_option Elab.async false
set_option linter.all false
set_option maxRecDepth 100000
set_option maxHeartbeats 4000000
namespace K32
open PySem L2
section
variable {P : Program} {w : World} {K : PySem.W.Frag} {mg : Str → Option Value} {base : Heap} {A : Adr} {gq : Array GenState → Drawn → Prop}
def rowF (F : List Nat → Int) (pre : List Nat) (s : Nat) (post : List Nat) : List Int := (List.range (s + 1)).map fun q => F (pre ++ q :: (s - q) :: post)
theorem rowF_len (F : List Nat → Int) (pre : List Nat) (s : Nat) (post : List Nat) : (rowF F pre s post).length = s + 1 := by unfold rowF; rw [List.length_map, List.length_range]
theorem rowF_get (F : List Nat → Int) (pre : List Nat) {s : Nat} (post : List Nat) {q : Nat} (h : q ≤ s) : (rowF F pre s post).getD q 0 = F (pre ++ q :: (s - q) :: post) := by
  unfold rowF
  rw [List.getD, List.getElem?_map, List.getElem?_range (by omega)]; rfl
theorem row_eq {r : List Int} {F : List Nat → Int} {pre post : List Nat} {s : Nat} (l : r.length = s + 1) (h : ∀ q, q ≤ s → r.getD q 0 = F (pre ++ q :: (s - q) :: post)) : r = rowF F pre s post := by
  refine List.ext_getElem (by rw [l, rowF_len]) fun i h1 h2 => ?_
  have a1 := h i (by omega)
  have a2 := rowF_get F pre post (show i ≤ s by omega)
  simp only [List.getD, List.getElem?_eq_getElem h1, List.getElem?_eq_getElem h2, Option.getD_some] at a1 a2
  rw [a1, a2]
theorem rdl_mem {r : List Int} : ∀ {n : Nat} {t : Nat × Int}, n + 1 ≤ r.length → t ∈ rdl r n → t.1 + 2 ≤ r.length ∧ r.length - 2 - t.1 < n ∧ t.2 ≠ 0
  | 0, _, _, h => nomatch h
  | n + 1, t, hn, h => by
    rcases List.mem_append.mp (show t ∈ rdl r n ++ _ from h) with h | h
    · obtain ⟨a, b, c⟩ := rdl_mem (by omega) h
      exact ⟨a, by omega, c⟩
    · by_cases h0 : ndf r (n + 1) = 0
      · rw [if_neg (by rw [h0]; simp)] at h; cases h
      · rw [if_pos h0, List.mem_singleton] at h
        subst h
        exact ⟨by show r.length - 2 - n + 2 ≤ r.length; omega, by show r.length - 2 - (r.length - 2 - n) < n + 1; omega, h0⟩
theorem rdl_nodup {r : List Int} : ∀ {n : Nat}, n + 1 ≤ r.length → ((rdl r n).map (·.1)).Nodup
  | 0, _ => List.nodup_nil
  | n + 1, hn => by
    show ((rdl r n ++ _).map (·.1)).Nodup
    rw [List.map_append]
    refine List.nodup_append.mpr ⟨rdl_nodup (r := r) (n := n) (by omega), ?_, fun a ha b hb => ?_⟩
    · split <;> simp
    · obtain ⟨t, ht, rfl⟩ := List.mem_map.mp ha
      obtain ⟨h1, h2, _⟩ := rdl_mem (r := r) (n := n) (by omega) ht
      obtain ⟨t', ht', rfl⟩ := List.mem_map.mp hb
      by_cases h0 : ndf r (n + 1) = 0
      · rw [if_neg (by rw [h0]; simp)] at ht'; cases ht'
      · rw [if_pos h0, List.mem_singleton] at ht'
        subst ht'
        show t.1 ≠ r.length - 2 - n
        omega
theorem cf_rdl {r : List Int} (g : Nat → List Nat) (inj : ∀ a b, g a = g b → a = b) (p : Nat) : ∀ {n : Nat}, n + 1 ≤ r.length → cf ((rdl r n).map fun t => (g t.1, t.2)) (g p) = if p + 2 ≤ r.length ∧ r.length - 2 - p < n then ndf r (r.length - 1 - p) else 0
  | 0, _ => by rw [if_neg (by omega)]; rfl
  | n + 1, hn => by
    have ih := cf_rdl (r := r) g inj p (n := n) (by omega)
    show cf ((rdl r n ++ _).map _) _ = _
    rw [List.map_append, cf_app, ih]
    have e : cf ((if ndf r (n + 1) ≠ 0 then [(r.length - 2 - n, ndf r (n + 1))] else []).map fun t => (g t.1, t.2)) (g p) = if r.length - 2 - n = p then ndf r (n + 1) else 0 := by
      by_cases h0 : ndf r (n + 1) = 0
      · rw [if_neg (by rw [h0]; simp), h0]
        split <;> rfl
      · rw [if_pos h0]
        show (if g (r.length - 2 - n) = g p then ndf r (n + 1) else 0) + 0 = _
        by_cases hp : r.length - 2 - n = p
        · rw [if_pos (by rw [hp]), if_pos hp]; omega
        · rw [if_neg (fun z => hp (inj _ _ z)), if_neg hp]; omega
    rw [e]
    by_cases hp : r.length - 2 - n = p
    · rw [if_pos hp, if_neg (by omega), if_pos (by omega), show r.length - 1 - p = n + 1 by omega]; omega
    · rw [if_neg hp]
      by_cases h1 : p + 2 ≤ r.length ∧ r.length - 2 - p < n
      · rw [if_pos h1, if_pos (by omega)]; omega
      · rw [if_neg h1, if_neg (by omega)]; omega
/-- the terms of a row's differences -/
def dP (k : Nat) (key : List Nat) (p : Nat) : List Nat := key.take k ++ p :: (key.getD k 0 - 1 - p) :: key.drop (k + 1)
def dRow (k : Nat) (e : Row) : Pol := (rdl e.2.1 (e.2.1.length - 1)).map fun t => (dP k e.1 t.1, t.2)
def dTerms (k : Nat) (E : List Row) : Pol := E.flatMap (dRow k)
theorem dP_eq {k : Nat} {pre post : List Nat} {s : Nat} (h : pre.length = k) (p : Nat) : dP k (pre ++ s :: post) p = pre ++ p :: (s - 1 - p) :: post := by
  unfold dP
  rw [List.take_left' h, show pre ++ s :: post = (pre ++ [s]) ++ post by simp, List.drop_left' (by simp [h]), ← show pre ++ s :: post = (pre ++ [s]) ++ post by simp]
  have : (pre ++ s :: post).getD k 0 = s := by
    rw [List.getD, List.getElem?_append_right (by omega), h, Nat.sub_self]; rfl
  rw [this]
theorem dRow_mem {k m : Nat} {ts : Pol} {e : Row} {t : List Nat × Int} (hr : ∃ (pre : List Nat) (s : Nat) (post : List Nat), e.1 = pre ++ s :: post ∧ pre.length = k ∧ k + post.length + 2 = m ∧ e.2.1.length = s + 1 ∧ ∀ q, q ≤ s → e.2.1.getD q 0 = cf ts (pre ++ q :: (s - q) :: post)) (h : t ∈ dRow k e) :
    ∃ (pre : List Nat) (a b : Nat) (post : List Nat), t.1 = pre ++ a :: b :: post ∧ e.1 = pre ++ (a + b + 1) :: post ∧ pre.length = k ∧ k + post.length + 2 = m ∧ t.2 ≠ 0 := by
  obtain ⟨pre, s, post, e1, k1, m1, l1, _⟩ := hr
  obtain ⟨u, hu, rfl⟩ := List.mem_map.mp h
  obtain ⟨a1, a2, a3⟩ := rdl_mem (by omega) hu
  refine ⟨pre, u.1, s - 1 - u.1, post, by show dP k e.1 u.1 = _; rw [e1, dP_eq k1], ?_, k1, m1, a3⟩
  rw [e1, show u.1 + (s - 1 - u.1) + 1 = s by omega]
theorem dTerms_mem {k m : Nat} {ts : Pol} {E : List Row} {t : List Nat × Int} (ok : RowsOk k m ts E) (h : t ∈ dTerms k E) :
    ∃ (pre : List Nat) (a b : Nat) (post : List Nat) (e : Row), e ∈ E ∧ t.1 = pre ++ a :: b :: post ∧ e.1 = pre ++ (a + b + 1) :: post ∧ pre.length = k ∧ k + post.length + 2 = m ∧ t.2 ≠ 0 := by
  obtain ⟨e, he, h⟩ := List.mem_flatMap.mp h
  obtain ⟨pre, a, b, post, h1, h2, h3, h4, h5⟩ := dRow_mem (ok.row e he) h
  exact ⟨pre, a, b, post, e, he, h1, h2, h3, h4, h5⟩
theorem dTerms_nodup {k m : Nat} {ts : Pol} : ∀ {E : List Row}, (E.map (·.1)).Nodup → (∀ e ∈ E, ∃ (pre : List Nat) (s : Nat) (post : List Nat), e.1 = pre ++ s :: post ∧ pre.length = k ∧ k + post.length + 2 = m ∧ e.2.1.length = s + 1 ∧ ∀ q, q ≤ s → e.2.1.getD q 0 = cf ts (pre ++ q :: (s - q) :: post)) → ((dTerms k E).map (·.1)).Nodup
  | [], _, _ => List.nodup_nil
  | e :: E, nd, row => by
    rw [List.map_cons, List.nodup_cons] at nd
    show ((dRow k e ++ dTerms k E).map (·.1)).Nodup
    rw [List.map_append]
    refine List.nodup_append.mpr ⟨?_, dTerms_nodup nd.2 fun e' he => row e' (List.mem_cons_of_mem _ he), fun x hx y hy => ?_⟩
    · obtain ⟨pre, s, post, e1, k1, m1, l1, _⟩ := row e List.mem_cons_self
      have z := rdl_nodup (r := e.2.1) (n := e.2.1.length - 1) (by omega)
      unfold dRow
      rw [List.map_map]
      rw [show ((fun x : List Nat × Int => x.1) ∘ fun t : Nat × Int => (dP k e.1 t.1, t.2)) = (dP k e.1) ∘ (·.1) from rfl, ← List.map_map]
      refine List.Pairwise.map _ (fun a b hab z => hab ?_) z
      rw [e1, dP_eq k1, dP_eq k1] at z
      exact (split_eq z rfl).2.1
    · rintro rfl
      obtain ⟨t, ht, e1⟩ := List.mem_map.mp hx
      obtain ⟨t', ht', e2⟩ := List.mem_map.mp hy
      obtain ⟨pre, a, b, post, h1, h2, h3, _⟩ := dRow_mem (row e List.mem_cons_self) ht
      obtain ⟨e', he', ht'⟩ := List.mem_flatMap.mp ht'
      obtain ⟨pre', a', b', post', h1', h2', h3', _⟩ := dRow_mem (row e' (List.mem_cons_of_mem _ he')) ht'
      have z : pre ++ a :: b :: post = pre' ++ a' :: b' :: post' := by rw [← h1, ← h1', e1, e2]
      obtain ⟨z1, z2, z3⟩ := split_eq z (h3.trans h3'.symm)
      injection z3 with z3 z4
      exact nd.1 (List.mem_map.mpr ⟨e', he', by rw [h2, h2', z1, z2, z3, z4]⟩)
theorem cf_dT {k m : Nat} {ts : Pol} {pre post : List Nat} {a b : Nat} (hk : pre.length = k) : ∀ {E : List Row}, (E.map (·.1)).Nodup → (∀ e ∈ E, ∃ (pre : List Nat) (s : Nat) (post : List Nat), e.1 = pre ++ s :: post ∧ pre.length = k ∧ k + post.length + 2 = m ∧ e.2.1.length = s + 1 ∧ ∀ q, q ≤ s → e.2.1.getD q 0 = cf ts (pre ++ q :: (s - q) :: post)) →
    cf (dTerms k E) (pre ++ a :: b :: post) = if pre ++ (a + b + 1) :: post ∈ E.map (·.1) then ndf (rowF (cf ts) pre (a + b + 1) post) (b + 1) else 0
  | [], _, _ => rfl
  | e :: E, nd, row => by
    rw [List.map_cons, List.nodup_cons] at nd
    have ih := cf_dT (m := m) (ts := ts) (pre := pre) (post := post) (a := a) (b := b) hk nd.2 fun e' he => row e' (List.mem_cons_of_mem _ he)
    show cf (dRow k e ++ dTerms k E) _ = _
    rw [cf_app, ih, List.map_cons]
    obtain ⟨pre1, s1, post1, e1, k1, m1, l1, r1⟩ := row e List.mem_cons_self
    by_cases he : e.1 = pre ++ (a + b + 1) :: post
    · obtain ⟨rfl, rfl, rfl⟩ := split_eq (e1.symm.trans he) (k1.trans hk.symm)
      rw [if_neg (by rw [← he]; exact nd.1), if_pos (by rw [he]; exact List.mem_cons_self)]
      have er := row_eq l1 r1
      have g := cf_rdl (r := e.2.1) (dP k e.1) (fun x y z => by rw [e1, dP_eq k1, dP_eq k1] at z; exact (split_eq z rfl).2.1) a (n := e.2.1.length - 1) (by omega)
      have eg : dP k e.1 a = pre1 ++ a :: b :: post1 := by rw [e1, dP_eq k1, show a + b + 1 - 1 - a = b by omega]
      rw [eg, if_pos (by omega)] at g
      show cf ((rdl e.2.1 (e.2.1.length - 1)).map fun t => (dP k e.1 t.1, t.2)) _ + 0 = _
      rw [g, show e.2.1.length - 1 - a = b + 1 by omega, er]; omega
    · have hz : cf (dRow k e) (pre ++ a :: b :: post) = 0 := cf_none fun hmem => by
        obtain ⟨t, ht, et⟩ := List.mem_map.mp hmem
        obtain ⟨pre', a', b', post', h1, h2, h3, _⟩ := dRow_mem (row e List.mem_cons_self) ht
        obtain ⟨z1, z2, z3⟩ := split_eq (show pre' ++ a' :: b' :: post' = pre ++ a :: b :: post from h1.symm.trans et) (h3.trans hk.symm)
        injection z3 with z3 z4
        exact he (by rw [h2, z1, z2, z3, z4])
      rw [hz]
      by_cases hin : pre ++ (a + b + 1) :: post ∈ E.map (·.1)
      · rw [if_pos hin, if_pos (List.mem_cons_of_mem _ hin)]; omega
      · rw [if_neg hin, if_neg]
        · rfl
        · intro z
          rcases List.mem_cons.mp z with z | z
          · exact he z.symm
          · exact hin z
theorem ndf_zero {r : List Int} (h : ∀ q, r.getD q 0 = 0) : ∀ i, ndf r i = 0
  | 0 => rfl
  | i + 1 => by
    show ndf r i + (r.getD (r.length - 1 - i) 0 - r.getD i 0) = 0
    rw [ndf_zero h i, h, h]; rfl
/-- the numbers of the difference -/
theorem cf_dTerms {k m : Nat} {ts : Pol} {E : List Row} (ok : RowsOk k m ts E) {pre post : List Nat} (a b : Nat) (hk : pre.length = k) : cf (dTerms k E) (pre ++ a :: b :: post) = ndf (rowF (cf ts) pre (a + b + 1) post) (b + 1) := by
  rw [cf_dT hk ok.nd ok.row]
  by_cases hin : pre ++ (a + b + 1) :: post ∈ E.map (·.1)
  · rw [if_pos hin]
  · rw [if_neg hin, ndf_zero]
    intro q
    by_cases hq : q ≤ a + b + 1
    · rw [rowF_get _ _ _ hq]
      refine cf_none fun hmem => ?_
      obtain ⟨t, ht, e⟩ := List.mem_map.mp hmem
      have := ok.all t ht pre q (a + b + 1 - q) post e hk
      rw [show q + (a + b + 1 - q) = a + b + 1 by omega] at this
      exact hin this
    · rw [List.getD, List.getElem?_eq_none (by rw [rowF_len]; omega)]; rfl
def S0 (g : Nat → Int) : Nat → Int
  | 0 => 0
  | n + 1 => S0 g n + g n
theorem S0_congr {g g' : Nat → Int} : ∀ {n : Nat}, (∀ j, j < n → g j = g' j) → S0 g n = S0 g' n
  | 0, _ => rfl
  | n + 1, h => by
    show S0 g n + g n = S0 g' n + g' n
    rw [S0_congr fun j hj => h j (by omega), h n (by omega)]
theorem ndf_S0 (r : List Int) : ∀ n, ndf r n = S0 (fun j => r.getD (r.length - 1 - j) 0) n - S0 (fun j => r.getD j 0) n
  | 0 => rfl
  | n + 1 => by
    show ndf r n + (r.getD (r.length - 1 - n) 0 - r.getD n 0) = S0 (fun j => r.getD (r.length - 1 - j) 0) n + r.getD (r.length - 1 - n) 0 - (S0 (fun j => r.getD j 0) n + r.getD n 0)
    rw [ndf_S0 r n]; omega
end
end K32

set_option Elab.async false
set_option linter.all false
set_option maxRecDepth 100000
set_option maxHeartbeats 4000000
namespace K32
open PySem L2
section
variable {P : Program} {w : World} {K : PySem.W.Frag} {mg : Str → Option Value} {base : Heap} {A : Adr} {gq : Array GenState → Drawn → Prop}
theorem dTerms_take {k i : Nat} {E : List Row} {e : Row} (h : E[i]? = some e) : dTerms k (E.take (i + 1)) = dTerms k (E.take i) ++ dRow k e := by
  unfold dTerms
  rw [take_snoc h, List.flatMap_append]; simp
theorem dRow_len (k : Nat) (e : Row) : (dRow k e).length ≤ e.2.1.length - 1 := by
  unfold dRow
  rw [List.length_map]
  exact rdl_len _ _
theorem dTerms_len {k : Nat} : ∀ {E : List Row}, (∀ e ∈ E, e.2.1.length ≤ 51) → (dTerms k E).length ≤ E.length * 50
  | [], _ => Nat.le_refl _
  | e :: E, h => by
    have h1 := dTerms_len (k := k) fun e' he => h e' (List.mem_cons_of_mem _ he)
    have h2 := dRow_len k e
    have h3 := h e List.mem_cons_self
    show (dRow k e ++ dTerms k E).length ≤ (E.length + 1) * 50
    rw [List.length_append]; omega
def sp_diff (K : PySem.W.Frag) : Sp := fun vs H Q _ => ∃ (a : Addr) (k m : Nat) (xs : List V) (ts : Pol), vs = [.ref a, .int k] ∧ SqL K H a xs ∧ Tms H xs ts ∧ (ts.map (·.1)).Nodup ∧ (∀ t ∈ ts, t.1.length = m) ∧ (∀ t ∈ ts, t.1.sum ≤ 50) ∧ k + 2 ≤ m ∧ m ≤ 100 ∧ ts.length ≤ 1900 ∧
  ∀ (l : Addr) (rs : List V) (us : Pol) (H' : Hp), Same H H' → H l = none → H' l = some (.lst rs) → Tms H' rs us → Can m us → (∀ (pre : List Nat) (a b : Nat) (post : List Nat), pre.length = k → cf us (pre ++ a :: b :: post) = ndf (rowF (cf ts) pre (a + b + 1) post) (b + 1)) → (∀ u ∈ us, u.1.sum ≤ 49) → us.length ≤ ts.length * 50 → Q (.ref l) H'
theorem ok_difference (T : Txt K mg A) : FnOk P w K mg base (CXq gq) 2 A.difference A.fd_difference P_difference (sp_diff K) := by
  have nd := sc_difference.nd
  have G_row_difference : FnOk P w K mg base (CXq gq) 1 A.row_difference A.fd_row_difference P_row_difference (sp_rowd K) := ok_row_difference T
  have G_rows_by_sum : FnOk P w K mg base (CXq gq) 1 A.rows_by_sum A.fd_rows_by_sum P_rows_by_sum (sp_rows K) := ok_rows_by_sum T
  have b_row_difference := b_row_difference T
  have b_rows_by_sum := b_rows_by_sum T
  refine T.F_difference.okc sc_difference (fun vs H Q E h => ?_) (fun A' outer s H vs Q E hr h => ?_)
  · obtain ⟨a, k, m, xs, ts, rfl, _⟩ := h; rfl
  obtain ⟨a, k, m, xs, ts, rfl, ha, tm, nt, hm, hsum, hk, m9, hz, q⟩ := h
  refine ⟨_, (pss_cons (ps_set (i := 2) nd rfl (Or.inl rfl) (pe_lst pa_nil))
      (pss_cons (ps_for PassesOwn.never rfl (pi_itemsC (pe_call (G_rows_by_sum.mono (by decide)) hr rfl T.m_rows_by_sum T.F_rows_by_sum.kp b_rows_by_sum .nil pass0 (pa_cons (pv 0) (pa_cons (pv 1) pa_nil)))) (pg_tup (by rfl) (pgs_cons (pg_name (i := 3) nd rfl (Or.inl rfl)) (pgs_cons (pg_name (i := 4) nd rfl (Or.inl rfl)) pgs_nil))) (pss_one (ps_for PassesOwn.never rfl (pi_list (pe_call (G_row_difference.mono (by decide)) hr rfl T.m_row_difference T.F_row_difference.kp b_row_difference .nil pass0 (pa_cons (pv 4) pa_nil))) (pg_tup (by rfl) (pgs_cons (pg_name (i := 5) nd rfl (Or.inl rfl)) (pgs_cons (pg_name (i := 6) nd rfl (Or.inl rfl)) pgs_nil))) (pss_cons (ps_set (i := 7) nd rfl (Or.inl rfl) (pe_op op_catK (pe_op op_catK (pe_slice sl_tupK (pv 3) po_none (po_some (pv 1))) (pe_tup (pa_cons (pv 5) (pa_cons (pe_op op_sub (pe_op op_sub (pe_ix ix_tup (pv 3) (pv 1) (fun _ _ => rfl)) pe_int) (pv 5)) pa_nil)))) (pe_slice sl_tupK (pv 3) (po_some (pe_op op_add (pv 1) pe_int)) po_none)))
          (pss_one (ps_expr (pe_bm PySem.F.plainAttrs_list PySem.F.slot_list_append PySem.F.type_list_append mt_append (pv 2) (pa_cons (pe_tup (pa_cons (pv 7) (pa_cons (pv 6) pa_nil))) pa_nil))))))))
      (pss_one (ps_ret (pe_sortedR hr.units (by rfl) T.z_sorted (pa_cons (pv 2) pa_nil) (pk_cons pe_bl pk_nil)))))), ?_⟩
  refine ⟨(by show 0 ≤ sizeLine; decide), fun f hf => ?_⟩
  have hf0 : H f = none := hf
  have s1 := same_new (o := .lst []) hf
  refine ⟨_, rfl, _, rfl, a, k, m, xs, ts, rfl, s1.seqL ha, tm.same s1, nt, hm, hsum, hk, m9, hz, fun d E H1 s2 hd0 hd1 ra fr sE lE ok => ?_⟩
  have hf1 : H1 f = some (.lst []) := s2 _ _ upd_same
  have nfd : d ≠ f := fun z => by rw [z, upd_same] at hd0; cases hd0
  have nfe : ∀ e ∈ E, e.2.2 ≠ f := fun e he z => by have := fr e he; rw [z, upd_same] at this; cases this
  have nde : ∀ e ∈ E, e.2.2 ≠ d := fun e he z => by have := ra.2 e he; rw [z, hd1] at this; cases this
  refine ⟨d, _, rfl, hd1, fun o => ?_⟩
  have hd2 : (upd H1 d (.frz o (.dT (rowsV E)))) d = some (.frz o (.dT (rowsV E))) := upd_same
  have hf2 : (upd H1 d (.frz o (.dT (rowsV E)))) f = some (.lst []) := by rw [upd_ne nfd.symm]; exact hf1
  have ra2 : RowsAt (upd H1 d (.frz o (.dT (rowsV E)))) E := ra.keep fun e he o' h => by rw [upd_ne (nde e he)]; exact h
  have sH : Same H (upd H1 d (.frz o (.dT (rowsV E)))) := same_upd (s1.trans s2) (s1.free hd0)
  generalize upd H1 d (.frz o (.dT (rowsV E))) = H2 at hd2 hf2 ra2 sH ⊢
  have lrow : ∀ e ∈ E, e.2.1.length ≤ 51 := fun e he => by
    obtain ⟨pre, s, post, e1, k1, m1, l1, _⟩ := ok.row e he
    have := sE e he
    rw [e1, List.sum_append, List.sum_cons] at this
    omega
  have ldt : (dTerms k E).length ≤ E.length * 50 := dTerms_len lrow
  show ∃ W : Nat → Nat → L2.St → Hp → Prop, _
  refine for_itemsT (fun i σ H3 => ∃ (u1 u2 u3 u4 u5 : Option V) (ys : List V), σ = [some (.ref a), some (.int k), some (.ref f), u1, u2, u3, u4, u5] ∧ SameB f H2 H3 ∧ H3 f = some (.lst ys) ∧ Tms H3 ys (dTerms k (E.take i))) ⟨none, none, none, none, none, [], rfl, .refl _ _, hf2, trivial⟩ (fun i σ H3 _ h => by obtain ⟨_, _, _, _, _, _, _, sb, _⟩ := h; exact sb _ _ nfd hd2) ?_ ?_
  · rintro i kk v kq T σ H3 hi hT hq ⟨u1, u2, u3, u4, u5, ys, rfl, sb, hf3, tm3⟩
    obtain ⟨e, he, rfl, rfl⟩ : ∃ e, E[i]? = some e ∧ kk = keyW e.1 ∧ v = .ref e.2.2 := by
      unfold rowsV at hi
      rw [List.getElem?_map] at hi
      cases ee : E[i]? with
      | none => rw [ee] at hi; cases hi
      | some e => rw [ee] at hi; cases hi; exact ⟨e, rfl, rfl, rfl⟩
    have me := List.mem_of_getElem? he
    have hie : i < E.length := (List.getElem?_eq_some_iff.mp he).1
    rw [← keyW_V] at hq
    obtain ⟨pre, s, post, e1, k1, pm1, l1, _⟩ := ok.row e me
    have hse := sE e me
    rw [e1, List.sum_append, List.sum_cons] at hse
    have sT := same_new (o := .tup [.ref kq, .ref e.2.2]) hT
    have gT : (upd H3 T (.tup [.ref kq, .ref e.2.2])) T = some (.tup [.ref kq, .ref e.2.2]) := upd_same
    have hqT := sT _ _ hq
    have hfT := sT _ _ hf3
    have tmT := tm3.same sT
    have sbT := sb.same sT
    have hrow := sbT _ _ (nfe e me) (ra2.2 e me)
    generalize upd H3 T (.tup [.ref kq, .ref e.2.2]) = H4 at sT gT hqT hfT tmT sbT hrow ⊢
    refine ⟨T, _, rfl, SqT.of gT, rfl, _, _, rfl, _, _, rfl, rfl, ?_⟩
    refine ⟨_, rfl, e.2.2, e.2.1, rfl, SqL.of hrow, by omega, by omega, fun l rs H5 s5 hl5 hr5 pr => ?_⟩
    have nlf : l ≠ f := fun z => by rw [z, hfT] at hl5; cases hl5
    have hq5 := s5 _ _ hqT
    rw [e1] at hq5
    have sb5 := sbT.same s5
    refine ⟨l, rfl, ⟨_, SqL.of hr5⟩, ?_⟩
    refine for_list (xs := rs) (fun j σ H6 => ∃ (u3 u4 u5 : Option V) (ys : List V), σ = [some (.ref a), some (.int k), some (.ref f), some (.ref kq), some (.ref e.2.2), u3, u4, u5] ∧ SameB f H2 H6 ∧ H6 f = some (.lst ys) ∧ Tms H6 ys (dTerms k (E.take i) ++ ((rdl e.2.1 (e.2.1.length - 1)).take j).map fun t => (dP k e.1 t.1, t.2)) ∧ H6 kq = some (.tup (natsV (pre ++ s :: post))) ∧ H6 l = some (.lst rs) ∧ Prs H6 rs (rdl e.2.1 (e.2.1.length - 1))) ⟨_, _, _, ys, rfl, sb5, s5 _ _ hfT, by simpa using tmT.same s5, hq5, hr5, pr⟩ (fun j σ H6 _ h => by obtain ⟨_, _, _, _, _, _, _, _, _, h, _⟩ := h; exact SqL.of h) ?_ ?_
    · rintro j z σ H6 ez ⟨u3, u4, u5, ys, rfl, sb6, hf6, tm6, hq6, hl6, pr6⟩
      obtain ⟨t, p, et, rfl, hp⟩ := pr6.get ez
      have hjl : j < (rdl e.2.1 (e.2.1.length - 1)).length := (List.getElem?_eq_some_iff.mp et).1
      obtain ⟨t1, _, _⟩ := rdl_mem (r := e.2.1) (n := e.2.1.length - 1) (by omega) (List.mem_of_getElem? et)
      have lenT : (dTerms k (E.take i)).length ≤ E.length * 50 := by
        have := dTerms_len (k := k) (E := E.take i) fun e' he' => lrow e' (List.mem_of_mem_take he')
        rw [List.length_take] at this
        exact Nat.le_trans this (Nat.mul_le_mul_right _ (by omega))
      have lenR := rdl_len e.2.1 (e.2.1.length - 1)
      have lr51 := lrow e me
      refine ⟨p, _, rfl, SqT.of hp, rfl, _, _, rfl, _, _, rfl, rfl, ?_⟩
      refine ⟨_, rfl, _, rfl, _, rfl, kq, _, rfl, hq6, fun e1' E1 r1 z1 => ?_⟩
      rw [cutPre k1] at z1
      refine ⟨_, rfl, _, rfl, _, rfl, kq, _, _, .int s, rfl, rfl, SqT.of (r1 _ _ hq6), at_of (j := k) rfl (getN k1), _, _, rfl, rfl, _, rfl, _, _, rfl, rfl, (by show 2 ≤ sizeLine; decide), fun e2 ne2 => ?_⟩
      have r2 := same_new (o := .tup [.int (t.1 : Int), .int ((s : Int) - 1 - (t.1 : Int))]) ne2
      have z2 := upd_same (H := E1) (a := e2) (o := .tup [.int (t.1 : Int), .int ((s : Int) - 1 - (t.1 : Int))])
      generalize upd E1 e2 (.tup [.int (t.1 : Int), .int ((s : Int) - 1 - (t.1 : Int))]) = E2 at r2 z2 ⊢
      refine ⟨e1', e2, _, _, rfl, rfl, r2 _ _ z1, z2, le_size (by rw [natsV_len]; show pre.length + 2 ≤ 1000; omega), fun e3 E3 r3 z3 => ?_⟩
      have r13 := r1.trans (r2.trans r3)
      refine ⟨_, rfl, _, rfl, _, _, rfl, rfl, _, rfl, kq, _, rfl, r13 _ _ hq6, fun e4 E4 r4 z4 => ?_⟩
      rw [show pre ++ s :: post = (pre ++ [s]) ++ post by simp, cutPost (k := k + 1) (by simp; omega) (by omega)] at z4
      refine ⟨e3, e4, _, _, rfl, rfl, r4 _ _ z3, z4, le_size (by rw [List.length_append, natsV_len, natsV_len]; show pre.length + 2 + post.length ≤ 1000; omega), fun pb E5 r5 z5 => ?_⟩
      have ekey : natsV pre ++ [V.int (t.1 : Int), V.int ((s : Int) - 1 - (t.1 : Int))] ++ natsV post = natsV (dP k e.1 t.1) := by
        rw [e1, dP_eq k1, show ((s : Int) - 1 - (t.1 : Int)) = ((s - 1 - t.1 : Nat) : Int) by omega]
        unfold natsV; simp
      rw [ekey] at z5
      have r15 := r13.trans (r4.trans r5)
      have hf5 := r15 _ _ hf6
      refine ⟨_, rfl, .inl ⟨rfl, _, SqL.of hf5⟩, _, rfl, _, rfl, (by show 2 ≤ sizeLine; decide), fun g hg => ?_⟩
      have r6 := same_new (o := .tup [.ref pb, .int t.2]) hg
      have hf7 := r6 _ _ hf5
      have kt := kt_upd (o := .lst (ys ++ [.ref g])) hf7 (fun _ => nofun)
      have r16 := r15.trans r6
      refine ⟨f, ys, _, rfl, rfl, hf7, small5 (by rw [tm6.length, List.length_append, List.length_map, List.length_take]; omega), ?_⟩
      refine ⟨_, _, _, ys ++ [.ref g], rfl, (sb6.same r16).trans sameB_upd, upd_same, ?_, kt _ _ (r16 _ _ hq6), by rw [upd_ne nlf]; exact r16 _ _ hl6, (pr6.keep r16.kt).keep kt⟩
      rw [take_snoc et, List.map_append, ← List.append_assoc]
      exact Tms.snoc (t := (dP k e.1 t.1, t.2)) ⟨g, pb, rfl, kt _ _ upd_same, kt _ _ (r6 _ _ z5)⟩ (Tms.keep (r16.kt.trans kt) tm6)
    · rintro σ H6 ⟨u3, u4, u5, ys, rfl, sb6, hf6, tm6, hq6, hl6, pr6⟩
      rw [pr.len, List.take_length] at tm6
      exact ⟨_, _, _, _, _, ys, rfl, sb6, hf6, by rw [dTerms_take he]; exact tm6⟩
  · rintro σ H3 ⟨u1, u2, u3, u4, u5, ys, rfl, sb, hf3, tm3⟩
    rw [show (rowsV E).length = E.length by unfold rowsV; rw [List.length_map], List.take_length] at tm3
    have mf : ∀ t ∈ dTerms k E, t.1.length = m ∧ t.2 ≠ 0 := fun t ht => by
      obtain ⟨pre, a, b, post, e, he, h1, h2, h3, h4, h5⟩ := dTerms_mem ok ht
      exact ⟨by rw [h1, List.length_append]; simp; omega, h5⟩
    have msum : ∀ t ∈ dTerms k E, t.1.sum ≤ 49 := fun t ht => by
      obtain ⟨pre, a, b, post, e, he, h1, h2, h3, h4, h5⟩ := dTerms_mem ok ht
      have := sE e he
      rw [h2, List.sum_append, List.sum_cons] at this
      rw [h1, List.sum_append, List.sum_cons, List.sum_cons]; omega
    refine ⟨_, rfl, f, true, rfl, rfl, ys, (dTerms k E).map termN, SqL.of hf3, tm3.dp, termN_srt fun t ht => (mf t ht).1, by rw [List.length_map]; omega, fun p rs ds pm pw hp dp => ?_⟩
    obtain ⟨us, rfl, pu, tu⟩ := tm3.sorted pm dp.length
    have s3 : Same H H3 := fun b o e => sb b o (ne_of_none e hf0) (sH b o e)
    refine q p rs us _ (s3.trans (same_new hp)) (s3.free hp) upd_same (Tms.keep (kt_new hp) tu) (can_of pu (dTerms_nodup ok.nd ok.row) mf (pair_term pw)) (fun pre a b post h => ?_) (fun u hu => msum u (pu.mem_iff.mp hu)) (by rw [pu.length_eq]; exact Nat.le_trans ldt (Nat.mul_le_mul_right _ lE))
    rw [cf_perm pu, cf_dTerms ok a b h]
end
end K32

set_option Elab.async false
set_option linter.all false
namespace L2
open PySem PySem.Spec PyProof.Rows
/-- sum(t), within a comprehension -/
def rSumT (K : PySem.W.Frag) : List V → Hp → VK → Prop := fun vs H Q => ∃ (a : Addr) (ns : List Int), vs = [V.ref a] ∧ SqT K H a (intsV ns) ∧ Q (.int ns.sum) H
theorem cr_sumTB {X : Cx} (hc : X.calm = true) : CallR X (.builtin "sum") (rSumT X.K) := cr_sumT hc
/-- int(b), within a comprehension -/
def rInt1 : List V → Hp → VK → Prop := fun xs H Q => (∃ i, xs = [.int i] ∧ Q (.int i) H) ∨ ∃ k, xs = [.bl k] ∧ Q (.int (if k then 1 else 0)) H
theorem call_int1B {X : Cx} : CallR X (.type "int") rInt1 := call_int1
end L2

set_option Elab.async false
set_option linter.all false
set_option maxRecDepth 100000
set_option maxHeartbeats 4000000
namespace K32
open PySem L2
section
variable {P : Program} {w : World} {K : PySem.W.Frag} {mg : Str → Option Value} {base : Heap} {A : Adr} {gq : Array GenState → Drawn → Prop}
theorem split1 {ns : List Nat} {k : Nat} (hk : k < ns.length) : ∃ (pre : List Nat) (x : Nat) (post : List Nat), ns = pre ++ x :: post ∧ pre.length = k ∧ k + post.length + 1 = ns.length := by
  refine ⟨ns.take k, ns[k], ns.drop (k + 1), ?_, by rw [List.length_take]; omega, by rw [List.length_drop]; omega⟩
  rw [← List.drop_eq_getElem_cons hk, List.take_append_drop]
def sp_lifted (K : PySem.W.Frag) : Sp := fun vs H Q _ => ∃ (a : Addr) (k m : Nat) (xs : List V) (ts : Pol), vs = [.ref a, .int k] ∧ SqL K H a xs ∧ Tms H xs ts ∧ (∀ t ∈ ts, t.1.length = m) ∧ k < m ∧ m ≤ 100 ∧ ts.length ≤ 1900 ∧ ∀ (l : Addr) (rs : List V) (H' : Hp), Same H H' → H' l = some (.lst rs) → Tms H' rs (ts.map (upT k)) → Q (.ref l) H'
theorem ok_lifted (T : Txt K mg A) : FnOk P w K mg base (CXq gq) 1 A.lifted A.fd_lifted P_lifted (sp_lifted K) := by
  have nd := sc_lifted.nd
  refine T.F_lifted.okc sc_lifted (fun vs H Q E h => ?_) (fun A' outer s H vs Q E hr h => ?_)
  · obtain ⟨a, k, m, xs, ts, rfl, _⟩ := h; rfl
  obtain ⟨a, k, m, xs, ts, rfl, ha, tm, hm, hk, m9, hz, q⟩ := h
  refine ⟨_, (pss_one (ps_ret (pe_lc (own := [("powers", 2), ("number", 3)]) (g := gTup K 2 (gCons (gName 2) (gCons (gName 3) gNil))) (by rfl) nd (pi_list (pv 0)) (blkOk_by (own := [("powers", 2), ("number", 3)]) (N := N_lifted) (sc := defScope s_lifted) (by decide +kernel)) (fun _ _ _ _ _ => pg_tupB K (by rfl) (pgs_cons (pg_name (i := 2) nd rfl (Or.inl rfl)) (pgs_cons (pg_name (i := 3) nd rfl (Or.inl rfl)) pgs_nil))) (fun _ _ _ _ _ => pts_nil) (fun _ _ _ _ _ => (pe_tup (pa_cons (pe_op op_catK (pe_op op_catK (pe_slice sl_tupK (pv 2) po_none (po_some (pv 1))) (pe_tup (pa_cons (pe_op op_add (pe_ix (r := rIxT K) ix_tup (pv 2) (pv 1) (fun _ _ => rfl)) pe_int) pa_nil))) (pe_slice sl_tupK (pv 2) (po_some (pe_op op_add (pv 1) pe_int)) po_none)) (pa_cons (pv 3) pa_nil))))))), ?_⟩
  refine ⟨_, rfl, a, rfl, ⟨_, ha⟩, fun D hD => ?_⟩
  have hD : H D = none := hD
  have lx := tm.length
  refine lc_listM (K := K) (a := a) (zs := xs) (fun _ => true) (fun i => upT k (ts.getD i ([], 0))) hD ha (by omega) ?_ ?_
  · intro i z H1 Kk Nx ez s1 hD1 hK hN
    obtain ⟨t, et, tt⟩ := tm.get ez
    rw [getD_some et] at hK
    obtain ⟨p, c, rfl, hp, hc⟩ := tt.same s1
    have mt := List.mem_of_getElem? et
    obtain ⟨ns, n⟩ := t
    have hl : ns.length = m := hm _ mt
    obtain ⟨pre, x, post, rfl, hpre, hpost⟩ := split1 (show k < ns.length by omega)
    have hc : H1 c = some (.tup (natsV (pre ++ x :: post))) := hc
    refine ⟨p, _, rfl, SqT.of hp, rfl, _, _, rfl, _, _, rfl, rfl, rfl, yes_of ?_⟩
    refine ⟨_, rfl, _, rfl, _, rfl, c, _, rfl, hc, fun e1 E1 s3 z1 => ?_⟩
    rw [cutPre hpre] at z1
    refine ⟨_, rfl, _, rfl, c, _, _, .int x, rfl, rfl, SqT.of (s3 _ _ hc), at_of (j := k) rfl (getN hpre), _, _, rfl, rfl, (by show 1 ≤ sizeLine; decide), fun e2 ne2 => ?_⟩
    have s4 := same_new (o := .tup [.int ((x : Int) + 1)]) ne2
    have z2 := upd_same (H := E1) (a := e2) (o := .tup [.int ((x : Int) + 1)])
    generalize upd E1 e2 (.tup [.int ((x : Int) + 1)]) = E2 at s4 z2 ⊢
    refine ⟨e1, e2, _, _, rfl, rfl, s4 _ _ z1, z2, le_size (by rw [natsV_len]; show pre.length + 1 ≤ 1000; omega), fun e3 E3 s5 z3 => ?_⟩
    have s35 := s3.trans (s4.trans s5)
    refine ⟨_, rfl, _, rfl, _, _, rfl, rfl, _, rfl, c, _, rfl, s35 _ _ hc, fun e4 E4 s6 z4 => ?_⟩
    rw [show pre ++ x :: post = (pre ++ [x]) ++ post by simp, cutPost (k := k + 1) (by simp; omega) (by omega)] at z4
    refine ⟨e3, e4, _, _, rfl, rfl, s6 _ _ z3, z4, le_size (by rw [List.length_append, natsV_len, natsV_len]; show pre.length + 1 + post.length ≤ 1000; omega), fun pb E5 s7 z5 => ?_⟩
    have ekey : natsV pre ++ [V.int ((x : Int) + 1)] ++ natsV post = natsV (upAt k (pre ++ x :: post)) := by
      rw [upAt_eq hpre]
      unfold natsV; simp
    rw [ekey] at z5
    refine ⟨_, rfl, (by show 2 ≤ sizeLine; decide), fun g hg => ?_⟩
    exact hK rfl _ _ (s35.trans (s6.trans (s7.trans (same_new hg)))) ⟨g, pb, rfl, upd_same, same_new hg _ _ z5⟩
  · intro H1 ys s1 hys tm1
    rw [filter_true, lx, range_map] at tm1
    exact q D ys H1 s1 hys tm1
def sp_gw (K : PySem.W.Frag) : Sp := fun vs H Q _ => ∃ (a : Addr) (B : Nat) (xs : List V) (ts : Pol), vs = [.ref a] ∧ SqL K H a xs ∧ Tms H xs ts ∧ (∀ t ∈ ts, t.1.sum ≤ B) ∧ ts.length ≤ 1900 ∧ ∀ (w : Nat) (H' : Hp), w ≤ B → Same H H' → Q (.int w) H'
theorem sum_toI (ns : List Nat) : (toI ns).sum = ((ns.sum : Nat) : Int) := by
  unfold toI
  induction ns with
  | nil => rfl
  | cons a r ih => rw [List.map_cons, List.sum_cons, List.sum_cons, ih]; omega
theorem ok_greatest_weight (T : Txt K mg A) : FnOk P w K mg base (CXq gq) 1 A.greatest_weight A.fd_greatest_weight P_greatest_weight (sp_gw K) := by
  have nd := sc_greatest_weight.nd
  refine T.F_greatest_weight.okc sc_greatest_weight (fun vs H Q E h => ?_) (fun A' outer s H vs Q E hr h => ?_)
  · obtain ⟨a, B, xs, ts, rfl, _⟩ := h; rfl
  obtain ⟨a, B, xs, ts, rfl, ha, tm, hB, hz, q⟩ := h
  refine ⟨_, (pss_one (ps_ret (pe_maxD rfl (by rfl) T.z_max (pa_cons (pe_lc (own := [("powers", 1), ("number", 2)]) (g := gTup K 2 (gCons (gName 1) (gCons (gName 2) gNil))) (by rfl) nd (pi_list (pv 0)) (blkOk_by (own := [("powers", 1), ("number", 2)]) (N := N_greatest_weight) (sc := defScope s_greatest_weight) (by decide +kernel)) (fun _ _ _ _ _ => pg_tupB K (by rfl) (pgs_cons (pg_name (i := 1) nd rfl (Or.inl rfl)) (pgs_cons (pg_name (i := 2) nd rfl (Or.inl rfl)) pgs_nil))) (fun _ _ _ _ _ => pts_nil) (fun _ _ _ _ _ => (pe_callB (r := rSumT K) (cr_sumTB rfl) (by rfl) T.z_sum (by decide +kernel) (pa_cons (pv 1) pa_nil)))) pa_nil) (pk_cons pe_int pk_nil)))), ?_⟩
  refine ⟨_, rfl, a, rfl, ⟨_, ha⟩, fun D hD => ?_⟩
  have hD : H D = none := hD
  have lx := tm.length
  refine lc_list (xs := xs) (fun i H2 => i ≤ xs.length ∧ Same H H2 ∧ H2 D = some (.lst (intsV ((ts.take i).map fun t => ((t.1.sum : Nat) : Int))))) ⟨Nat.zero_le _, same_new hD, upd_same⟩ (fun i H2 _ h => h.2.1.seqL ha) ?_ ?_
  · rintro i z H2 ez ⟨hin, s2, h2⟩
    obtain ⟨t, et, tt⟩ := tm.get ez
    have hi : i < ts.length := (List.getElem?_eq_some_iff.mp et).1
    obtain ⟨p, c, rfl, hp, hc⟩ := tt.same s2
    refine ⟨p, _, rfl, SqT.of hp, rfl, _, _, rfl, _, _, rfl, rfl, rfl, yes_of ?_⟩
    refine ⟨_, rfl, c, toI t.1, rfl, SqT.of (by rw [← natsV_toI]; exact hc), _, h2, small5 (by rw [intsV_len, List.length_map, List.length_take]; omega), by omega, same_upd s2 hD, ?_⟩
    rw [upd_same, take_snoc et, List.map_append, sum_toI]
    unfold intsV
    rw [List.map_append]; rfl
  · rintro H2 ⟨_, s2, h2⟩
    rw [lx, List.take_length] at h2
    refine ⟨D, _, .int 0, rfl, rfl, SqL.of h2, fun v hv => ?_⟩
    rcases hv with ⟨_, rfl⟩ | ⟨w, rfl, hw, _⟩
    · exact q 0 _ (Nat.zero_le _) s2
    · obtain ⟨t, ht, rfl⟩ := List.mem_map.mp hw
      exact q _ _ (hB t ht) s2
def sp_room (K : PySem.W.Frag) : Sp := fun vs H Q _ => ∃ (a : Addr) (xs : List V) (ts : Pol), vs = [.ref a] ∧ SqL K H a xs ∧ Tms H xs ts ∧ (∀ t ∈ ts, t.1.sum ≤ 19) ∧ ts.length ≤ 1900 ∧ ∀ (H' : Hp), Same H H' → Q .non H'
theorem ok_check_room (T : Txt K mg A) : FnOk P w K mg base (CXq gq) 2 A.check_room A.fd_check_room P_check_room (sp_room K) := by
  have nd := sc_check_room.nd
  have G_greatest_weight : FnOk P w K mg base (CXq gq) 1 A.greatest_weight A.fd_greatest_weight P_greatest_weight (sp_gw K) := ok_greatest_weight T
  have b_greatest_weight := b_greatest_weight T
  refine T.F_check_room.okc sc_check_room (fun vs H Q E h => ?_) (fun A' outer s H vs Q E hr h => ?_)
  · obtain ⟨a, xs, ts, rfl, _⟩ := h; rfl
  obtain ⟨a, xs, ts, rfl, ha, tm, hB, hz, q⟩ := h
  refine ⟨_, (pss_one (ps_if (pt_cmpR op_gt (pe_op op_add (pe_call (G_greatest_weight.mono (by decide)) hr rfl T.m_greatest_weight T.F_greatest_weight.kp b_greatest_weight .nil pass0 (pa_cons (pv 0) pa_nil)) pe_int) (pe_gint rfl T.g_MOST_WEIGHT) (nomark _)) (pss_one ps_never) pss_nil)), ?_⟩
  refine ⟨_, rfl, a, 19, xs, ts, rfl, ha, tm, hB, hz, fun w H' hw s' => ?_⟩
  refine ⟨_, _, rfl, rfl, _, _, rfl, rfl, _, rfl, ?_⟩
  refine ite2r (fun h => q _ s') (fun h => absurd (of_decide_eq_true h) (by omega))
theorem upT_nodup {k m : Nat} {ts : Pol} (hk : k < m) (hm : ∀ t ∈ ts, t.1.length = m) (nt : (ts.map (·.1)).Nodup) : ((ts.map (upT k)).map (·.1)).Nodup := by
  rw [List.map_map, show ((fun x : List Nat × Int => x.1) ∘ upT k) = upAt k ∘ (·.1) from rfl, ← List.map_map]
  have : ∀ l : List (List Nat), (∀ x ∈ l, x.length = m) → l.Nodup → (l.map (upAt k)).Nodup := by
    intro l
    induction l with
    | nil => intro _ _; exact List.nodup_nil
    | cons x r ih =>
      intro hl nd
      rw [List.nodup_cons] at nd
      rw [List.map_cons, List.nodup_cons]
      refine ⟨fun hmem => ?_, ih (fun y hy => hl y (List.mem_cons_of_mem _ hy)) nd.2⟩
      obtain ⟨y, hy, e⟩ := List.mem_map.mp hmem
      have lx := hl x List.mem_cons_self
      have ly := hl y (List.mem_cons_of_mem _ hy)
      obtain ⟨pre, a, post, rfl, h1, _⟩ := split1 (show k < x.length by omega)
      obtain ⟨pre', a', post', rfl, h1', _⟩ := split1 (show k < y.length by omega)
      rw [upAt_eq h1, upAt_eq h1'] at e
      obtain ⟨rfl, e2, rfl⟩ := split_eq e (h1'.trans h1.symm)
      have : a = a' := by omega
      subst this
      exact nd.1 hy
  refine this _ (fun x hx => ?_) nt
  obtain ⟨t, ht, rfl⟩ := List.mem_map.mp hx
  exact hm t ht
theorem upT_len {k m : Nat} {ts : Pol} (hk : k < m) (hm : ∀ t ∈ ts, t.1.length = m) : ∀ t ∈ ts.map (upT k), t.1.length = m := fun t ht => by
  obtain ⟨u, hu, rfl⟩ := List.mem_map.mp ht
  have lu := hm u hu
  obtain ⟨ns, c⟩ := u
  have lu : ns.length = m := lu
  obtain ⟨pre, a, post, rfl, h1, h2⟩ := split1 (show k < ns.length by omega)
  show (upAt k (pre ++ a :: post)).length = m
  rw [upAt_eq h1, List.length_append]; simp; omega
theorem nat_get' {ks : List Nat} {i : Nat} (h : i < ks.length) : ∃ k, ks[i]? = some k := ⟨ks[i], List.getElem?_eq_getElem h⟩
theorem get_natsV {ks : List Nat} {i k : Nat} (h : ks[i]? = some k) : (natsV ks)[i]? = some (.int (k : Int)) := by
  unfold natsV
  rw [List.getElem?_map, h]; rfl
theorem ok_swapped (T : Txt K mg A) : FnOk P w K mg base (CXq gq) 1 A.swapped A.fd_swapped P_swapped sp_swapK := by
  have nd := sc_swapped.nd
  refine T.F_swapped.okc sc_swapped (fun vs H Q E h => ?_) (fun A' outer s H vs Q E hr h => ?_)
  · obtain ⟨a, xs, k, rfl, _⟩ := h; rfl
  obtain ⟨a, xs, k, rfl, hx, hk, hz, q⟩ := h
  obtain ⟨x, ex⟩ := get_some (show k < xs.length by omega)
  obtain ⟨y, ey⟩ := get_some hk
  refine ⟨_, (pss_one (ps_ret (pe_op op_catK (pe_op op_catK (pe_slice sl_tupK (pv 0) po_none (po_some (pv 1))) (pe_tup (pa_cons (pe_ix ix_tup (pv 0) (pe_op op_add (pv 1) pe_int) (fun _ _ => rfl)) (pa_cons (pe_ix ix_tup (pv 0) (pv 1) (fun _ _ => rfl)) pa_nil)))) (pe_slice sl_tupK (pv 0) (po_some (pe_op op_add (pv 1) pe_int)) po_none)))), ?_⟩
  refine ⟨_, rfl, _, rfl, _, rfl, a, xs, rfl, hx, fun p1 H1 s1 h1 => ?_⟩
  rw [cut_to (show k ≤ xs.length by omega)] at h1
  refine ⟨_, rfl, _, rfl, _, _, rfl, rfl, a, xs, _, y, rfl, rfl, SqT.of (s1 _ _ hx), at_of (j := k + 1) (by omega) ey, _, rfl, _, rfl, a, xs, _, x, rfl, rfl, SqT.of (s1 _ _ hx), atI_nat ex, (by show 2 ≤ sizeLine; decide), fun p2 hp2 => ?_⟩
  have s2 := same_new (o := .tup [y, x]) hp2
  refine ⟨p1, p2, _, _, rfl, rfl, s2 _ _ h1, upd_same, ?_, fun p3 H3 s3 h3 => ?_⟩
  · rw [List.length_take]; exact Nat.le_trans (show min k xs.length + 2 ≤ 1002 by omega) (by decide)
  refine ⟨_, rfl, _, rfl, _, _, rfl, rfl, _, rfl, a, xs, rfl, s3 _ _ (s2 _ _ (s1 _ _ hx)), fun p4 H4 s4 h4 => ?_⟩
  have e2 : ((k : Int) + 2) = ((k + 2 : Nat) : Int) := by omega
  rw [e2, cut_from (show k + 2 ≤ xs.length by omega)] at h4
  refine ⟨p3, p4, _, _, rfl, rfl, s4 _ _ h3, h4, ?_, fun p5 H5 s5 h5 => ?_⟩
  · rw [List.length_append, List.length_take, List.length_drop]; exact Nat.le_trans (show min k xs.length + 2 + (xs.length - (k + 2)) ≤ 2002 by omega) (by decide)
  rw [swapAt_cut xs k x y ex ey] at h5
  exact q p5 H5 ((((s1.trans s2).trans s3).trans s4).trans s5) h5
end
end K32

set_option Elab.async false
set_option linter.all false
set_option maxRecDepth 100000
set_option maxHeartbeats 4000000
namespace L2
open PySem PySem.Spec PyProof.Rows
/-- all powers of one weight -/
def allW : Nat → Nat → List (List Nat)
  | 0, w => if w = 0 then [[]] else []
  | m + 1, w => (List.range (w + 1)).flatMap fun x => (allW m (w - x)).map (x :: ·)
theorem mem_allW : ∀ {m w : Nat} {l : List Nat}, l.length = m → l.sum = w → l ∈ allW m w
  | 0, w, l, h, e => by
    have : l = [] := List.eq_nil_of_length_eq_zero h
    subst this
    have e : 0 = w := e
    subst e
    exact List.mem_singleton_self _
  | m + 1, w, [], h, _ => by simp at h
  | m + 1, w, x :: r, h, e => by
    rw [List.sum_cons] at e
    refine List.mem_flatMap.mpr ⟨x, List.mem_range.mpr (by omega), List.mem_map.mpr ⟨r, mem_allW (by simpa using h) (by omega), rfl⟩⟩
theorem cut_drop {α : Type} {l : List α} {i : Nat} {x : α} (h : l[i]? = some x) : l.drop i = x :: l.drop (i + 1) := by
  have hi : i < l.length := (List.getElem?_eq_some_iff.mp h).1
  rw [List.drop_eq_getElem_cons hi]
  congr 1
  rw [List.getElem?_eq_getElem hi] at h
  exact Option.some.inj h
end L2

set_option Elab.async false
set_option linter.all false
set_option maxRecDepth 100000
set_option maxHeartbeats 4000000
namespace K32
open PySem L2
section
variable {P : Program} {w : World} {K : PySem.W.Frag} {mg : Str → Option Value} {base : Heap} {A : Adr} {gq : Array GenState → Drawn → Prop}
theorem S0_one (b : Nat) (c : Int) : ∀ n, S0 (fun j => if j = b then c else 0) n = if b < n then c else 0
  | 0 => rfl
  | n + 1 => by
    show S0 _ n + (if n = b then c else 0) = _
    rw [S0_one b c n]
    by_cases h : n = b
    · subst h; rw [if_neg (by omega), if_pos rfl, if_pos (by omega)]; omega
    · rw [if_neg h]
      by_cases h2 : b < n
      · rw [if_pos h2, if_pos (by omega)]; omega
      · rw [if_neg h2, if_neg (by omega)]; omega
theorem S0_add (f g : Nat → Int) : ∀ n, S0 (fun j => f j + g j) n = S0 f n + S0 g n
  | 0 => rfl
  | n + 1 => by
    show S0 _ n + (f n + g n) = S0 f n + f n + (S0 g n + g n)
    rw [S0_add f g n]; omega
theorem S0_nil : ∀ n, S0 (fun _ => 0) n = 0
  | 0 => rfl
  | n + 1 => by show S0 _ n + 0 = 0; rw [S0_nil n]; rfl
/-- what a row's differences come to, term by term -/
theorem ndf_div {k m : Nat} {pre post : List Nat} (hk : pre.length = k) (hm : k + post.length + 2 = m) (x y : Nat) : ∀ {ts : Pol}, (∀ t ∈ ts, t.1.length = m) → ndf (rowF (cf ts) pre (x + y + 1) post) (y + 1) = cf (divP k ts) (pre ++ x :: y :: post) := by
  intro ts hts
  have e : ndf (rowF (cf ts) pre (x + y + 1) post) (y + 1) = S0 (fun j => cf ts (pre ++ (x + y + 1 - j) :: j :: post)) (y + 1) - S0 (fun j => cf ts (pre ++ j :: (x + y + 1 - j) :: post)) (y + 1) := by
    rw [ndf_S0, rowF_len]
    congr 1
    · refine S0_congr fun j hj => ?_
      rw [rowF_get _ _ _ (by omega), show x + y + 1 + 1 - 1 - j = x + y + 1 - j by omega, show x + y + 1 - (x + y + 1 - j) = j by omega]
    · refine S0_congr fun j hj => ?_
      rw [rowF_get _ _ _ (by omega)]
  rw [e]
  clear e
  induction ts with
  | nil => show S0 (fun _ => 0) _ - S0 (fun _ => 0) _ = 0; rw [S0_nil]; rfl
  | cons t r ih =>
    have ih := ih fun u hu => hts u (by simp [hu])
    obtain ⟨p, a, b, q, et, hp, hq⟩ := split_at (hts t (by simp)) (show k + 2 ≤ m by omega)
    have eD : cf (divP k (t :: r)) (pre ++ x :: y :: post) = cf (divT k t) (pre ++ x :: y :: post) + cf (divP k r) (pre ++ x :: y :: post) := by
      show cf (divT k t ++ divP k r) _ = _
      rw [cf_app]
    obtain ⟨t1, c⟩ := t
    have et : t1 = p ++ a :: b :: q := et
    subst et
    have e1 : S0 (fun j => cf ((p ++ a :: b :: q, c) :: r) (pre ++ (x + y + 1 - j) :: j :: post)) (y + 1) = S0 (fun j => if p ++ a :: b :: q = pre ++ (x + y + 1 - j) :: j :: post then c else 0) (y + 1) + S0 (fun j => cf r (pre ++ (x + y + 1 - j) :: j :: post)) (y + 1) := S0_add _ _ _
    have e2 : S0 (fun j => cf ((p ++ a :: b :: q, c) :: r) (pre ++ j :: (x + y + 1 - j) :: post)) (y + 1) = S0 (fun j => if p ++ a :: b :: q = pre ++ j :: (x + y + 1 - j) :: post then c else 0) (y + 1) + S0 (fun j => cf r (pre ++ j :: (x + y + 1 - j) :: post)) (y + 1) := S0_add _ _ _
    rw [eD, e1, e2]
    by_cases hM : p = pre ∧ q = post ∧ a + b = x + y + 1
    · obtain ⟨rfl, rfl, hs⟩ := hM
      rw [cf_divT c hp hs]
      have f1 : S0 (fun j => if p ++ a :: b :: q = p ++ (x + y + 1 - j) :: j :: q then c else 0) (y + 1) = if b ≤ y then c else 0 := by
        rw [S0_congr (g' := fun j => if j = b then c else 0) (fun j hj => ?_), S0_one]
        · by_cases h : b ≤ y
          · rw [if_pos h, if_pos (by omega)]
          · rw [if_neg h, if_neg (by omega)]
        · show (if _ then c else 0) = (if _ then c else 0)
          by_cases h : j = b
          · rw [if_pos h, if_pos (by rw [h, show x + y + 1 - b = a by omega])]
          · rw [if_neg h, if_neg (fun z => h (pre_inj rfl z).2.2.1.symm)]
      have f2 : S0 (fun j => if p ++ a :: b :: q = p ++ j :: (x + y + 1 - j) :: q then c else 0) (y + 1) = if a ≤ y then c else 0 := by
        rw [S0_congr (g' := fun j => if j = a then c else 0) (fun j hj => ?_), S0_one]
        · by_cases h : a ≤ y
          · rw [if_pos h, if_pos (by omega)]
          · rw [if_neg h, if_neg (by omega)]
        · show (if _ then c else 0) = (if _ then c else 0)
          by_cases h : j = a
          · rw [if_pos h, if_pos (by rw [h, show x + y + 1 - a = b by omega])]
          · rw [if_neg h, if_neg (fun z => h (pre_inj rfl z).2.1.symm)]
      rw [f1, f2]; omega
    · rw [cf_divT0 c hp hk hM]
      have f1 : S0 (fun j => if p ++ a :: b :: q = pre ++ (x + y + 1 - j) :: j :: post then c else 0) (y + 1) = 0 := by
        rw [S0_congr (g' := fun _ => 0) (fun j hj => if_neg fun z => hM ?_), S0_nil]
        obtain ⟨e1, e2, e3, e4⟩ := pre_inj (hp.trans hk.symm) z
        exact ⟨e1, e4, by omega⟩
      have f2 : S0 (fun j => if p ++ a :: b :: q = pre ++ j :: (x + y + 1 - j) :: post then c else 0) (y + 1) = 0 := by
        rw [S0_congr (g' := fun _ => 0) (fun j hj => if_neg fun z => hM ?_), S0_nil]
        obtain ⟨e1, e2, e3, e4⟩ := pre_inj (hp.trans hk.symm) z
        exact ⟨e1, e4, by omega⟩
      rw [f1, f2]; omega
theorem diff_div {k m : Nat} {ts us : Pol} (hk : k + 2 ≤ m) (ht : ∀ t ∈ ts, t.1.length = m) (cu : Can m us) (hc : ∀ (pre : List Nat) (a b : Nat) (post : List Nat), pre.length = k → cf us (pre ++ a :: b :: post) = ndf (rowF (cf ts) pre (a + b + 1) post) (b + 1)) (ns : List Nat) : cf us ns = cf (divP k ts) ns := by
  by_cases hl : ns.length = m
  · obtain ⟨pre, x, y, post, rfl, hp, hq⟩ := split_at hl hk
    rw [hc pre x y post hp, ndf_div hp hq x y ht]
  · rw [cf_far (fun t h => (cu.ok t h).1) hl, cf_far (fun u h => (divP_mem hk ht h).1) hl]
theorem wordOk {ks : List Nat} {m : Nat} (hk : ∀ k ∈ ks, k + 2 ≤ m) : ∀ x ∈ natsV ks, ∃ i : Int, x = .int i ∧ 0 ≤ i ∧ i ≤ (m : Int) - 2 := fun x hx => by
  unfold natsV at hx
  obtain ⟨k, hk1, rfl⟩ := List.mem_map.mp hx
  have := hk k hk1
  exact ⟨(k : Int), rfl, by omega, by omega⟩
theorem for_revL {a : Addr} {xs : List V} {g : TG} {tb : TS} {D : Ends} {σ : St} {H : Hp} (Pv : Nat → St → Hp → Prop) (h0 : Pv 0 σ H) (hl : ∀ i σ H, i ≤ xs.length → Pv i σ H → SqL K H a xs)
    (hs : ∀ i x σ H, i < xs.length → xs[xs.length - 1 - i]? = some x → Pv i σ H → g x σ H fun σ2 H2 => tb { D with nx := Pv (i + 1), ct := Pv (i + 1), bk := D.nx } σ2 H2) (hd : ∀ σ H, Pv xs.length σ H → D.nx σ H) :
    ∃ W : Nat → Nat → St → Hp → Prop, (∃ m, W 0 m σ H) ∧ ∀ i m σ H, W i m σ H →
      ((Itv K a xs.length).stop i H ∧ D.nx σ H) ∨ ((Itv K a xs.length).go i H ∧ ∃ N : St → Hp → Prop, (∀ σ' H', N σ' H' → ∃ m', m' < m ∧ W (i + 1) m' σ' H') ∧ ∀ x H', (Itv K a xs.length).yld i H x H' → g x σ H' fun σ2 H2 => tb { D with nx := N, ct := N, bk := D.nx } σ2 H2) := by
  refine ⟨fun i m σ H => m = xs.length - i ∧ i ≤ xs.length ∧ Pv i σ H, ⟨xs.length, by simp, Nat.zero_le _, h0⟩, ?_⟩
  rintro i m σ H ⟨rfl, hi, p⟩
  have q := hl i σ H hi p
  by_cases hlt : i < xs.length
  · refine .inr ⟨⟨hlt, xs, xs[xs.length - 1 - i], q, List.getElem?_eq_getElem (by omega)⟩, Pv (i + 1), fun σ' H' p' => ⟨xs.length - (i + 1), by omega, rfl, hlt, p'⟩, fun x H' y => ?_⟩
    obtain ⟨e, y⟩ := y
    subst e
    exact hs i x _ _ hlt (y xs q) p
  · have e : i = xs.length := by omega
    subst e
    exact .inl ⟨Nat.le_refl _, hd σ H p⟩
/-- a tracked polynomial: the list at an address -/
def PL (H : Hp) (a : Addr) (ts : Pol) : Prop := ∃ xs, H a = some (.lst xs) ∧ Tms H xs ts
theorem PL.same {H H' : Hp} {a : Addr} {ts : Pol} (h : PL H a ts) (s : Same H H') : PL H' a ts := by
  obtain ⟨xs, h1, h2⟩ := h
  exact ⟨xs, s _ _ h1, h2.same s⟩
end
end K32

set_option Elab.async false
set_option linter.all false
set_option maxRecDepth 100000
set_option maxHeartbeats 4000000
namespace L2
open PySem PySem.Spec PyProof.Rows
/-- all powers of at most one weight -/
def allLe (m w : Nat) : List (List Nat) := (List.range (w + 1)).flatMap (allW m)
theorem mem_allLe {m w : Nat} {l : List Nat} (h : l.length = m) (e : l.sum ≤ w) : l ∈ allLe m w := List.mem_flatMap.mpr ⟨l.sum, List.mem_range.mpr (by omega), mem_allW h rfl⟩
theorem allLe_len : ∀ m, m < 6 → ∀ w, w < 9 → (allLe m w).length ≤ 1300 := by decide +kernel
theorem le_len {m w : Nat} {ts : Pol} (nd : (ts.map (·.1)).Nodup) (hl : ∀ t ∈ ts, t.1.length = m) (hw : ∀ t ∈ ts, t.1.sum ≤ w) (m5 : m ≤ 5) (w8 : w ≤ 8) : ts.length ≤ 1300 := by
  have := nodup_le nd (b := allLe m w) fun x hx => by
    obtain ⟨t, ht, rfl⟩ := List.mem_map.mp hx
    exact mem_allLe (hl t ht) (hw t ht)
  rw [List.length_map] at this
  exact Nat.le_trans this (allLe_len m (by omega) w (by omega))
theorem up_sum {k m w : Nat} {ts : Pol} (hk : k < m) (hm : ∀ t ∈ ts, t.1.length = m) (hw : ∀ t ∈ ts, t.1.sum ≤ w) : ∀ t ∈ ts.map (upT k), t.1.sum ≤ w + 1 := fun t ht => by
  obtain ⟨u, hu, rfl⟩ := List.mem_map.mp ht
  have lu := hm u hu
  have ek : k < u.1.length := by omega
  have e : u.1 = u.1.take k ++ u.1[k] :: u.1.drop (k + 1) := by rw [← List.drop_eq_getElem_cons ek, List.take_append_drop]
  have h2 := hw u hu
  show (upAt k u.1).sum ≤ w + 1
  rw [e] at h2 ⊢
  rw [upAt_eq (by rw [List.length_take]; omega)]
  simp only [List.sum_append, List.sum_cons] at h2 ⊢
  omega
/-- what a polynomial of small weights, raised, is -/
theorem rai_sum {k m w : Nat} {ts us : Pol} (hk : k + 2 ≤ m) (hm : ∀ t ∈ ts, t.1.length = m) (hw : ∀ t ∈ ts, t.1.sum ≤ w) (cu : Can m us) (hc : ∀ ns, cf us ns = cf (raiP k ts) ns) : ∀ u ∈ us, u.1.sum ≤ w := fun u hu => by
  have h1 := Can.sub cu hc u.1 (List.mem_map.mpr ⟨u, hu, rfl⟩)
  obtain ⟨v, hv, e⟩ := List.mem_map.mp h1
  obtain ⟨_, t, ht, es⟩ := divP_mem hk (upM_len (show k < m by omega) hm) hv
  have := up_sum (show k < m by omega) hm hw t ht
  rw [← e]; omega
theorem div_sum {k m w : Nat} {ts us : Pol} (hk : k + 2 ≤ m) (hm : ∀ t ∈ ts, t.1.length = m) (hw : ∀ t ∈ ts, t.1.sum ≤ w) (cu : Can m us) (hc : ∀ ns, cf us ns = cf (divP k ts) ns) : ∀ u ∈ us, u.1.sum ≤ w := fun u hu => by
  have h1 := Can.sub cu hc u.1 (List.mem_map.mpr ⟨u, hu, rfl⟩)
  obtain ⟨v, hv, e⟩ := List.mem_map.mp h1
  obtain ⟨_, t, ht, es⟩ := divP_mem hk hm hv
  have := hw t ht
  rw [← e]; omega
theorem idle_sub : ∀ {ks o : List Nat} {k : Nat}, k ∈ idleF o ks → k ∈ ks
  | [], _, _, h => by cases h
  | j :: ks, o, k, h => by
    have e : idleF o (j :: ks) = if o.getD j 0 < o.getD (j + 1) 0 then j :: idleF (swapAt o j) ks else idleF o ks := rfl
    rw [e] at h
    split at h
    · rcases List.mem_cons.mp h with rfl | h
      · exact List.mem_cons_self
      · exact List.mem_cons_of_mem _ (idle_sub h)
    · exact List.mem_cons_of_mem _ (idle_sub h)
end L2

set_option Elab.async false
set_option linter.all false
set_option maxRecDepth 100000
set_option maxHeartbeats 4000000
namespace K32
open PySem L2
section
variable {P : Program} {w : World} {K : PySem.W.Frag} {mg : Str → Option Value} {base : Heap} {A : Adr} {gq : Array GenState → Drawn → Prop}
theorem rng_nats {m : Nat} (h : m ≤ 5) : rngV 0 (m : Int) = natsV (List.range m) := by
  have : m = 0 ∨ m = 1 ∨ m = 2 ∨ m = 3 ∨ m = 4 ∨ m = 5 := by omega
  rcases this with rfl | rfl | rfl | rfl | rfl | rfl <;> rfl
theorem getD_n {l : List Nat} {i x : Nat} (h : l[i]? = some x) : l.getD i 0 = x := by rw [List.getD, h]; rfl
def sp_idle (K : PySem.W.Frag) : Sp := fun vs H Q _ => ∃ (m : Nat) (b : Addr) (ks : List Nat), vs = [.int m, .ref b] ∧ 1 ≤ m ∧ m ≤ 5 ∧ SqL K H b (natsV ks) ∧ ks.length ≤ 30 ∧ (∀ k ∈ ks, k + 2 ≤ m) ∧ ∀ (l : Addr) (H' : Hp), Same H H' → H l = none → H' l = some (.lst (natsV (idleF (List.range m) ks))) → Q (.ref l) H'
theorem ok_without_idle (T : Txt K mg A) : FnOk P w K mg base (CXq gq) 2 A.without_idle A.fd_without_idle P_without_idle (sp_idle K) := by
  have nd := sc_without_idle.nd
  have G_swapped : FnOk P w K mg base (CXq gq) 1 A.swapped A.fd_swapped P_swapped sp_swapK := ok_swapped T
  have b_swapped := b_swapped T
  refine T.F_without_idle.okc sc_without_idle (fun vs H Q E h => ?_) (fun A' outer s H vs Q E hr h => ?_)
  · obtain ⟨m, b, ks, rfl, _⟩ := h; rfl
  obtain ⟨m, b, ks, rfl, m1, m5, hb, hz, hk, q⟩ := h
  refine ⟨_, (pss_cons (ps_set (i := 2) nd rfl (Or.inl rfl) (pe_lst pa_nil))
      (pss_cons (ps_set (i := 3) nd rfl (Or.inl rfl) (pe_callTy (call_tupR rfl) (by rfl) T.z_tuple (by decide +kernel) (pa_cons (pe_callTy call_range1 (by rfl) T.z_range (by decide +kernel) (pa_cons (pv 0) pa_nil)) pa_nil)))
      (pss_cons (ps_for PassesOwn.never rfl (pi_list (pv 1)) (pg_name (i := 4) nd rfl (Or.inl rfl)) (pss_one (ps_if (pt_cmpR op_lt (pe_ix ix_tup (pv 3) (pv 4) (fun _ _ => rfl)) (pe_ix ix_tup (pv 3) (pe_op op_add (pv 4) pe_int) (fun _ _ => rfl)) (nomark _)) (pss_cons (ps_expr (pe_bm PySem.F.plainAttrs_list PySem.F.slot_list_append PySem.F.type_list_append mt_append (pv 2) (pa_cons (pv 4) pa_nil)))
          (pss_one (ps_set (i := 3) nd rfl (Or.inl rfl) (pe_call (G_swapped.mono (by decide)) hr rfl T.m_swapped T.F_swapped.kp b_swapped .nil pass0 (pa_cons (pv 3) (pa_cons (pv 4) pa_nil)))))) pss_nil)))
      (pss_one (ps_ret (pv 2)))))), ?_⟩
  refine ⟨(by show 0 ≤ sizeLine; decide), fun f hf => ?_⟩
  have hf0 : H f = none := hf
  have s0 := same_new (o := .lst []) hf0
  have g0 := (upd_same : (upd H f (.lst [])) f = some (.lst []))
  generalize upd H f (.lst []) = H1 at s0 g0 ⊢
  refine ⟨_, rfl, (m : Int), rfl, fun p1 hp1 => ?_⟩
  have s1 := same_new (o := .rng 0 (m : Int)) hp1
  refine ⟨p1, 0, (m : Int), rfl, upd_same, ⟨by omega, by omega, by omega, by omega⟩, by omega, fun p2 hp2 => ?_⟩
  have s12 := s1.trans (same_new (o := .tup (rngV 0 (m : Int))) hp2)
  have g2 := (upd_same : (upd (upd H1 p1 (.rng 0 (m : Int))) p2 (.tup (rngV 0 (m : Int)))) p2 = some (.tup (rngV 0 (m : Int))))
  rw [rng_nats m5] at g2
  rw [rng_nats m5] at s12
  rw [rng_nats m5]
  have g0 := s12 _ _ g0
  replace s12 := s0.trans s12
  generalize upd (upd H1 p1 (.rng 0 (m : Int))) p2 (.tup (natsV (List.range m))) = H2 at s12 g2 g0 ⊢
  refine ⟨_, rfl, b, rfl, ⟨_, s12.seqL hb⟩, ?_⟩
  refine for_list (K := K) (a := b) (xs := natsV ks) (fun i σ H3 => ∃ (o : Addr) (on done : List Nat) (u : Option V), σ = [some (.int m), some (.ref b), some (.ref f), some (.ref o), u] ∧ Same H H3 ∧ H3 f = some (.lst (natsV done)) ∧ H3 o = some (.tup (natsV on)) ∧ on.length = m ∧ done.length ≤ i ∧ idleF (List.range m) ks = done ++ idleF on (ks.drop i)) ⟨p2, List.range m, [], none, rfl, s12, g0, g2, List.length_range, Nat.le_refl _, rfl⟩ (fun i σ H3 _ h => by obtain ⟨_, _, _, _, _, s3, _⟩ := h; exact s3.seqL hb) ?_ ?_
  · rintro i z σ H3 ez ⟨o, on, done, u, rfl, s3, hf3, ho3, lo, ld, ei⟩
    obtain ⟨k, ek, rfl⟩ := natsV_get ez
    have hi : i < ks.length := (List.getElem?_eq_some_iff.mp ek).1
    have hkm := hk k (List.mem_of_getElem? ek)
    have ed : ks.drop i = k :: ks.drop (i + 1) := by
      rw [List.drop_eq_getElem_cons hi]
      congr 1
      rw [List.getElem?_eq_getElem hi] at ek
      exact Option.some.inj ek
    rw [ed] at ei
    obtain ⟨x, ex⟩ := nat_get' (show k < on.length by omega)
    obtain ⟨y, ey⟩ := nat_get' (show k + 1 < on.length by omega)
    refine ⟨_, rfl, _, rfl, o, _, _, .int (x : Int), rfl, rfl, SqT.of ho3, atI_nat (get_natsV ex), _, rfl, _, rfl, _, _, rfl, rfl, o, _, _, .int (y : Int), rfl, rfl, SqT.of ho3, at_of (j := k + 1) (by omega) (get_natsV ey), _, _, rfl, rfl, _, rfl, ?_⟩
    have ei' : idleF on (k :: ks.drop (i + 1)) = if on.getD k 0 < on.getD (k + 1) 0 then k :: idleF (swapAt on k) (ks.drop (i + 1)) else idleF on (ks.drop (i + 1)) := rfl
    rw [getD_n ex, getD_n ey] at ei'
    rw [ei'] at ei
    by_cases hlt : x < y
    · rw [decide_eq_true (show (x : Int) < (y : Int) by omega)]
      rw [if_pos hlt] at ei
      refine iteT ⟨_, rfl, .inl ⟨rfl, _, SqL.of hf3⟩, _, rfl, f, _, _, rfl, rfl, hf3, small5 (by rw [natsV_len]; omega), ?_⟩
      have nof : o ≠ f := fun z => by rw [z, hf3] at ho3; cases ho3
      refine ⟨_, rfl, _, rfl, o, natsV on, k, rfl, by rw [upd_ne nof]; exact ho3, by rw [natsV_len]; omega, by rw [natsV_len]; omega, fun o2 H5 s5 ho5 => ?_⟩
      rw [natsV_swap] at ho5
      refine ⟨o2, swapAt on k, done ++ [k], _, rfl, (same_upd s3 hf0).trans s5, ?_, ho5, by rw [swapAt_len]; exact lo, by rw [List.length_append]; show done.length + 1 ≤ i + 1; omega, by rw [ei, List.append_assoc]; rfl⟩
      refine (s5 _ _ upd_same).trans ?_
      rw [← natsV_app]; rfl
    · rw [decide_eq_false (show ¬ (x : Int) < (y : Int) by omega)]
      rw [if_neg hlt] at ei
      exact iteF ⟨o, on, done, _, rfl, s3, hf3, ho3, lo, by omega, ei⟩
  · rintro σ H3 ⟨o, on, done, u, rfl, s3, hf3, ho3, lo, ld, ei⟩
    rw [natsV_len, List.drop_length] at ei
    refine ⟨_, rfl, q f H3 s3 hf0 ?_⟩
    rw [hf3, ei]
    show _ = some (HO.lst (natsV (done ++ [])))
    rw [List.append_nil]
def sp_dby (K : PySem.W.Frag) (A : Adr) : Sp := fun vs H Q _ => ∃ (a b : Addr) (m w : Nat) (ts : Pol) (ks : List Nat), vs = [.int m, .ref a, .ref b] ∧ PL H a ts ∧ Can m ts ∧ (∀ t ∈ ts, t.1.sum ≤ w) ∧ w ≤ 8 ∧ 1 ≤ m ∧ m ≤ 5 ∧ SqL K H b (natsV ks) ∧ ks.length ≤ 30 ∧ (∀ k ∈ ks, k + 2 ≤ m) ∧ Tab A H ∧
  ∀ (l : Addr) (ws : Pol) (H' : Hp), Same H H' → H l = none → PL H' l ws → Can m ws → (∀ t ∈ ws, t.1.sum ≤ w) → (∀ ns, cf ws ns = cf (divW ks ts) ns) → Q (.ref l) H'
theorem ok_differed_by (T : Txt K mg A) (B : Bas mg base A) : FnOk P w K mg base CX0 6 A.differed_by A.fd_differed_by P_differed_by (sp_dby K A) := by
  have nd := sc_differed_by.nd
  have G_check_count : FnOk P w K mg base (CXq Bare) 3 A.check_count A.fd_check_count P_check_count sp_countG := ok_check_count T
  have G_check_word : FnOk P w K mg base CX0 5 A.check_word A.fd_check_word P_check_word (sp_checkw K A) := ok_check_word T B
  have G_difference : FnOk P w K mg base (CXq Bare) 2 A.difference A.fd_difference P_difference (sp_diff K) := ok_difference T
  have b_check_count := b_check_count T
  have b_check_word := b_check_word T
  have b_difference := b_difference T
  refine T.F_differed_by.okc sc_differed_by (fun vs H Q E h => ?_) (fun A' outer s H vs Q E hr h => ?_)
  · obtain ⟨a, b, m, w, ts, ks, rfl, _⟩ := h; rfl
  obtain ⟨a, b, m, w, ts, ks, rfl, pa, cn, hw, w10, m1, m5, hb, hz, hk, ht, q⟩ := h
  refine ⟨_, (pss_cons (ps_expr (pe_call (G_check_count.mono (by decide)) hr rfl T.m_check_count T.F_check_count.kp b_check_count .nil pass0 (pa_cons (pv 0) pa_nil)))
      (pss_cons (ps_expr (pe_call (G_check_word.mono (by decide)) hr rfl T.m_check_word T.F_check_word.kp b_check_word .nil pass0 (pa_cons (pv 0) (pa_cons (pv 2) pa_nil))))
      (pss_cons (ps_set (i := 3) nd rfl (Or.inl rfl) (pe_callTy call_list_of (by rfl) T.z_list (by decide +kernel) (pa_cons (pv 1) pa_nil)))
      (pss_cons (ps_for PassesOwn.never rfl (pi_reversed (by rfl) T.z_reversed (pa_cons (pv 2) pa_nil)) (pg_name (i := 4) nd rfl (Or.inl rfl)) (pss_one (ps_set (i := 3) nd rfl (Or.inl rfl) (pe_call (G_difference.mono (by decide)) hr rfl T.m_difference T.F_difference.kp b_difference .nil pass0 (pa_cons (pv 3) (pa_cons (pv 4) pa_nil))))))
      (pss_one (ps_ret (pv 3))))))), ?_⟩
  obtain ⟨xs, ha, tm⟩ := pa
  refine ⟨_, rfl, (m : Int), rfl, by omega, by omega, ?_⟩
  refine ⟨_, rfl, _, rfl, (m : Int), b, natsV ks, rfl, hb, by rw [natsV_len]; exact hz, wordOk hk, ht, ?_⟩
  refine ⟨_, rfl, a, xs, rfl, .inl (SqL.of ha), fun r hr => ?_⟩
  have hr0 : H r = none := hr
  have sR := same_new (o := .lst xs) hr
  have gR := (upd_same : (upd H r (.lst xs)) r = some (.lst xs))
  generalize upd H r (.lst xs) = HR at sR gR ⊢
  have hbR := sR.seqL hb
  have lks := natsV_len ks
  refine ⟨_, rfl, b, _, rfl, hbR, ?_⟩
  refine for_revL (K := K) (xs := natsV ks) (fun i σ H4 => ∃ (r' : Addr) (us : Pol) (u : Option V), σ = [some (.int m), some (.ref a), some (.ref b), some (.ref r'), u] ∧ Same HR H4 ∧ H r' = none ∧ PL H4 r' us ∧ Can m us ∧ (∀ t ∈ us, t.1.sum ≤ w) ∧ ∀ ns, cf us ns = cf (divW (ks.drop (ks.length - i)) ts) ns)
    ⟨r, ts, none, rfl, .refl _, hr0, ⟨xs, gR, tm.same sR⟩, cn, hw, fun ns => by rw [Nat.sub_zero, List.drop_length]; rfl⟩ (fun i σ H4 _ h => by obtain ⟨_, _, _, _, s4, _⟩ := h; exact s4.seqL hbR) ?_ ?_
  · rintro i z σ H4 hi ez ⟨r', us, u, rfl, s4, hr', ⟨ys, hy, ty⟩, cu, hu, hc⟩
    rw [lks] at hi ez
    obtain ⟨k, ek, rfl⟩ := natsV_get ez
    have hkm := hk k (List.mem_of_getElem? ek)
    have hum : ∀ t ∈ us, t.1.length = m := fun t h => (cu.ok t h).1
    have lu := le_len cu.nd hum hu m5 w10
    refine ⟨_, rfl, _, rfl, r', k, m, ys, us, rfl, SqL.of hy, ty, cu.nd, hum, fun t h => by have := hu t h; omega, hkm, by omega, by omega, fun l6 rs6 vs H6 s6 hl6 hr6 tr6 cv hcv _ _ => ?_⟩
    have hcv2 : ∀ ns, cf vs ns = cf (divP k us) ns := diff_div hkm hum cv hcv
    refine ⟨l6, vs, _, rfl, s4.trans s6, (sR.trans s4).free hl6, ⟨rs6, hr6, tr6⟩, cv, div_sum hkm hum hu cv hcv2, fun ns => ?_⟩
    rw [hcv2, div_congr hc, show ks.length - (i + 1) = ks.length - 1 - i by omega, cut_drop ek, show ks.length - 1 - i + 1 = ks.length - i by omega]
    rfl
  · rintro σ H4 ⟨r', us, u, rfl, s4, hr', pl, cu, hu, hc⟩
    rw [lks, Nat.sub_self] at hc
    exact ⟨_, rfl, q r' us H4 (sR.trans s4) hr' pl cu hu hc⟩

def sp_rby (K : PySem.W.Frag) (A : Adr) : Sp := fun vs H Q _ => ∃ (a b : Addr) (m w : Nat) (ts : Pol) (ks : List Nat), vs = [.int m, .ref a, .ref b] ∧ PL H a ts ∧ Can m ts ∧ (∀ t ∈ ts, t.1.sum ≤ w) ∧ w ≤ 8 ∧ 1 ≤ m ∧ m ≤ 5 ∧ SqL K H b (natsV ks) ∧ ks.length ≤ 30 ∧ (∀ k ∈ ks, k + 2 ≤ m) ∧ Tab A H ∧
  ∀ (l : Addr) (ws : Pol) (H' : Hp), Same H H' → H l = none → PL H' l ws → Can m ws → (∀ t ∈ ws, t.1.sum ≤ w) → (∀ ns, cf ws ns = cf (raiW ks ts) ns) → Q (.ref l) H'
theorem eqv_nats (ks : List Nat) : PyData.eqv (.list ((toI ks).map PyData.int)) (.list []) = decide (ks = []) := by cases ks <;> rfl
theorem ok_raised_by (T : Txt K mg A) (B : Bas mg base A) : FnOk P w K mg base CX0 6 A.raised_by A.fd_raised_by P_raised_by (sp_rby K A) := by
  have nd := sc_raised_by.nd
  have G_check_count : FnOk P w K mg base (CXq Bare) 3 A.check_count A.fd_check_count P_check_count sp_countG := ok_check_count T
  have G_check_word : FnOk P w K mg base CX0 5 A.check_word A.fd_check_word P_check_word (sp_checkw K A) := ok_check_word T B
  have G_check_room : FnOk P w K mg base (CXq Bare) 2 A.check_room A.fd_check_room P_check_room (sp_room K) := ok_check_room T
  have G_without_idle : FnOk P w K mg base (CXq Bare) 2 A.without_idle A.fd_without_idle P_without_idle (sp_idle K) := ok_without_idle T
  have G_difference : FnOk P w K mg base (CXq Bare) 2 A.difference A.fd_difference P_difference (sp_diff K) := ok_difference T
  have G_lifted : FnOk P w K mg base (CXq Bare) 1 A.lifted A.fd_lifted P_lifted (sp_lifted K) := ok_lifted T
  have b_check_count := b_check_count T
  have b_check_word := b_check_word T
  have b_check_room := b_check_room T
  have b_without_idle := b_without_idle T
  have b_difference := b_difference T
  have b_lifted := b_lifted T
  refine T.F_raised_by.okc sc_raised_by (fun vs H Q E h => ?_) (fun A' outer s H vs Q E hr h => ?_)
  · obtain ⟨a, b, m, w, ts, ks, rfl, _⟩ := h; rfl
  obtain ⟨a, b, m, w, ts, ks, rfl, pa, cn, hw, w10, m1, m5, hb, hz, hk, ht, q⟩ := h
  refine ⟨_, (pss_cons (ps_expr (pe_call (G_check_count.mono (by decide)) hr rfl T.m_check_count T.F_check_count.kp b_check_count .nil pass0 (pa_cons (pv 0) pa_nil)))
      (pss_cons (ps_expr (pe_call (G_check_word.mono (by decide)) hr rfl T.m_check_word T.F_check_word.kp b_check_word .nil pass0 (pa_cons (pv 0) (pa_cons (pv 2) pa_nil))))
      (pss_cons (ps_if (pt_cmpR (op_neD hr.units) (pv 2) (pe_lst pa_nil) (nomark _)) (pss_one (ps_expr (pe_call (G_check_room.mono (by decide)) hr rfl T.m_check_room T.F_check_room.kp b_check_room .nil pass0 (pa_cons (pv 1) pa_nil)))) pss_nil)
      (pss_cons (ps_set (i := 3) nd rfl (Or.inl rfl) (pe_callTy call_list_of (by rfl) T.z_list (by decide +kernel) (pa_cons (pv 1) pa_nil)))
      (pss_cons (ps_for PassesOwn.never rfl (pi_reversed (by rfl) T.z_reversed (pa_cons (pe_call (G_without_idle.mono (by decide)) hr rfl T.m_without_idle T.F_without_idle.kp b_without_idle .nil pass0 (pa_cons (pv 0) (pa_cons (pv 2) pa_nil))) pa_nil)) (pg_name (i := 4) nd rfl (Or.inl rfl)) (pss_one (ps_set (i := 3) nd rfl (Or.inl rfl) (pe_call (G_difference.mono (by decide)) hr rfl T.m_difference T.F_difference.kp b_difference .nil pass0 (pa_cons (pe_call (G_lifted.mono (by decide)) hr rfl T.m_lifted T.F_lifted.kp b_lifted .nil pass0 (pa_cons (pv 3) (pa_cons (pv 4) pa_nil))) (pa_cons (pv 4) pa_nil))))))
      (pss_one (ps_ret (pv 3)))))))), ?_⟩
  obtain ⟨xs, ha, tm⟩ := pa
  have hm : ∀ t ∈ ts, t.1.length = m := fun t h => (cn.ok t h).1
  refine ⟨_, rfl, (m : Int), rfl, by omega, by omega, ?_⟩
  refine ⟨_, rfl, _, rfl, (m : Int), b, natsV ks, rfl, hb, by rw [natsV_len]; exact hz, wordOk hk, ht, ?_⟩
  refine ⟨_, rfl, (by show 0 ≤ sizeLine; decide), fun z hz0 => ?_⟩
  have s1 := same_new (o := .lst []) hz0
  have gz := (upd_same : (upd H z (.lst [])) z = some (.lst []))
  generalize upd H z (.lst []) = H1 at s1 gz ⊢
  have hb1 := s1.seqL hb
  have hl0 := le_len cn.nd hm hw m5 w10
  refine ⟨_, _, .lst hb1 (by rw [natsV_toI]; exact dp_ints K _ _), .lst (SqL.of gz) .nil, shaped_l _, by decide, ?_⟩
  rw [eqv_nats]
  apply join_st (G := fun σ HX => σ = [some (.int m), some (.ref a), some (.ref b), none, none] ∧ Same H HX)
  · intro tail
    by_cases h0 : ks = []
    · rw [decide_eq_true h0]
      exact ⟨_, rfl, iteF (tail _ _ ⟨rfl, s1⟩)⟩
    · rw [decide_eq_false h0]
      refine ⟨_, rfl, iteT ⟨_, rfl, a, xs, ts, rfl, SqL.of (s1 _ _ ha), tm.same s1, fun t h => by have := hw t h; omega, by omega, fun H2 s2 => tail _ _ ⟨rfl, s1.trans s2⟩⟩⟩
  rintro σ HX ⟨rfl, sX⟩
  refine ⟨_, rfl, a, xs, rfl, .inl (SqL.of (sX _ _ ha)), fun r hr => ?_⟩
  have hr0 := sX.free hr
  have sR := sX.trans (same_new (o := .lst xs) hr)
  have gR := (upd_same : (upd HX r (.lst xs)) r = some (.lst xs))
  generalize upd HX r (.lst xs) = HR at sR gR ⊢
  refine ⟨_, rfl, _, rfl, m, b, ks, rfl, m1, m5, sR.seqL hb, hz, hk, fun l H3 s3 hl hl3 => ?_⟩
  have hkk : ∀ k ∈ idleF (List.range m) ks, k + 2 ≤ m := fun k h => hk k (idle_sub h)
  have hq : ∀ ns, cf (raiW (idleF (List.range m) ks) ts) ns = cf (raiW ks ts) ns := fun ns => (raiW_idle m5 hm hk ns).symm
  generalize idleF (List.range m) ks = kp at hl3 hkk hq ⊢
  have s03 := sR.trans s3
  have lkp := natsV_len kp
  refine ⟨l, _, rfl, SqL.of hl3, ?_⟩
  refine for_revL (K := K) (xs := natsV kp) (fun i σ H4 => ∃ (r' : Addr) (us : Pol) (u : Option V), σ = [some (.int m), some (.ref a), some (.ref b), some (.ref r'), u] ∧ Same H3 H4 ∧ H r' = none ∧ PL H4 r' us ∧ Can m us ∧ (∀ t ∈ us, t.1.sum ≤ w) ∧ ∀ ns, cf us ns = cf (raiW (kp.drop (kp.length - i)) ts) ns)
    ⟨r, ts, none, rfl, .refl _, hr0, ⟨xs, s3 _ _ gR, tm.same s03⟩, cn, hw, fun ns => by rw [Nat.sub_zero, List.drop_length]; rfl⟩ (fun i σ H4 _ h => by obtain ⟨_, _, _, _, s4, _⟩ := h; exact SqL.of (s4 _ _ hl3)) ?_ ?_
  · rintro i z σ H4 hi ez ⟨r', us, u, rfl, s4, hr', ⟨ys, hy, ty⟩, cu, hu, hc⟩
    rw [lkp] at hi ez
    obtain ⟨k, ek, rfl⟩ := natsV_get ez
    have hkm := hkk k (List.mem_of_getElem? ek)
    have hum : ∀ t ∈ us, t.1.length = m := fun t h => (cu.ok t h).1
    have lu := le_len cu.nd hum hu m5 w10
    refine ⟨_, rfl, _, rfl, r', k, m, ys, us, rfl, SqL.of hy, ty, hum, by omega, by omega, by omega, fun l5 rs5 H5 s5 hl5 tr5 => ?_⟩
    refine ⟨_, rfl, l5, k, m, rs5, us.map (upT k), rfl, SqL.of hl5, tr5, upT_nodup (by omega) hum cu.nd, upT_len (by omega) hum, fun t h => by have := up_sum (show k < m by omega) hum hu t h; omega, hkm, by omega, by rw [List.length_map]; omega, fun l6 rs6 vs H6 s6 hl6 hr6 tr6 cv hcv _ _ => ?_⟩
    have hcv2 : ∀ ns, cf vs ns = cf (raiP k us) ns := diff_div hkm (upT_len (by omega) hum) cv hcv
    refine ⟨l6, vs, _, rfl, s4.trans (s5.trans s6), s03.free ((s4.trans s5).free hl6), ⟨rs6, hr6, tr6⟩, cv, rai_sum hkm hum hu cv hcv2, fun ns => ?_⟩
    rw [hcv2, rai_congr hc, show kp.length - (i + 1) = kp.length - 1 - i by omega, cut_drop ek, show kp.length - 1 - i + 1 = kp.length - i by omega]
    rfl
  · rintro σ H4 ⟨r', us, u, rfl, s4, hr', pl, cu, hu, hc⟩
    rw [lkp, Nat.sub_self] at hc
    exact ⟨_, rfl, q r' us H4 (s03.trans s4) hr' pl cu hu fun ns => (hc ns).trans (hq ns)⟩
end
end K32

set_option Elab.async false
set_option linter.all false
set_option maxRecDepth 100000
set_option maxHeartbeats 4000000
namespace L2
open PySem PySem.Spec PyProof.Rows
/-! products of polynomials, unknowns, and the orders of one thing more by one exchange across k -/
def unitN (m k : Nat) : List Nat := (List.range m).map fun i => if i = k then 1 else 0
theorem unitN_len (m k : Nat) : (unitN m k).length = m := by unfold unitN; rw [List.length_map, List.length_range]
end L2

set_option Elab.async false
set_option linter.all false
set_option maxRecDepth 100000
set_option maxHeartbeats 4000000
namespace K32
open PySem L2
section
variable {P : Program} {w : World} {K : PySem.W.Frag} {mg : Str → Option Value} {base : Heap} {A : Adr} {gq : Array GenState → Drawn → Prop}
def sp_gath (K : PySem.W.Frag) : Sp := fun vs H Q _ => ∃ (d : Addr) (D : Pol) (m : Nat), vs = [.ref d] ∧ H d = some (.dT (dictV D)) ∧ (D.map (·.1)).Nodup ∧ (∀ t ∈ D, t.1.length = m) ∧ D.length ≤ 90000 ∧ ∀ (l : Addr) (rs : List V) (us : Pol) (H' : Hp), Same H H' → H l = none → H' l = some (.lst rs) → Tms H' rs us → Can m us → (∀ ns, cf us ns = cf D ns) → Q (.ref l) H'
theorem ok_gathered (T : Txt K mg A) : FnOk P w K mg base (CXq gq) 1 A.gathered A.fd_gathered P_gathered (sp_gath K) := by
  have nd := sc_gathered.nd
  refine T.F_gathered.okc sc_gathered (fun vs H Q E h => ?_) (fun A' outer s H vs Q E hr h => ?_)
  · obtain ⟨d, D, m, rfl, _⟩ := h; rfl
  obtain ⟨d, D, m, rfl, hd, hnd, hk, ll, q⟩ := h
  refine ⟨_, (pss_one (ps_ret (pe_sortedR hr.units (by rfl) T.z_sorted (pa_cons (pe_lock (pe_lc (own := [("_law_powers", 1), ("_law_number", 2)]) (g := gTup K 2 (gCons (gName 1) (gCons (gName 2) gNil))) (by rfl) nd (pi_itemsT (pv 0)) (blkOk_by (own := [("_law_powers", 1), ("_law_number", 2)]) (N := N_gathered) (sc := defScope s_gathered) (by decide +kernel)) (fun _ _ _ _ _ => pg_tupB K (by rfl) (pgs_cons (pg_name (i := 1) nd rfl (Or.inl rfl)) (pgs_cons (pg_name (i := 2) nd rfl (Or.inl rfl)) pgs_nil))) (fun _ _ _ _ _ => (pts_one (pt_cmpR op_ne (pv 2) pe_int (nomark _)))) (fun _ _ _ _ _ => (pe_tup (pa_cons (pv 1) (pa_cons (pv 2) pa_nil)))))) pa_nil) (pk_cons pe_bl pk_nil)))), ?_⟩
  refine ⟨d, _, hd, trivial, fun od => ?_⟩
  refine ⟨_, rfl, d, od, _, rfl, upd_same, fun D2 hD2 => ?_⟩
  have nD : D2 ≠ d := fun z => by rw [z, upd_same] at hD2; cases hD2
  have hD20 : H D2 = none := by rw [upd_ne nD] at hD2; exact hD2
  refine lc_itemsM (ps := D) (fun i => decide ((D.getD i ([], 0)).2 ≠ 0)) (fun i => D.getD i ([], 0)) upd_same hD2 (by omega) ?_ ?_
  · intro i t b T H3 Kk Nx et hb hT s3 hD3 hK hN
    rw [getD_some et] at hK hN
    refine ⟨T, _, rfl, SqT.of hT, rfl, _, _, rfl, _, _, rfl, rfl, rfl, ?_⟩
    refine ⟨_, rfl, rfl, _, rfl, ?_⟩
    refine ite2r (fun h => ?_) (fun h => ?_)
    · refine hN (decide_eq_false fun z => h ?_) _ (Same.refl _)
      rw [decide_eq_false (fun e => z (V.int.inj e))]; rfl
    · refine ⟨_, rfl, _, rfl, (by show 2 ≤ sizeLine; decide), fun e he => ?_⟩
      refine hK (decide_eq_true fun z => ?_) _ _ (same_new he) ⟨e, b, rfl, upd_same, same_new he _ _ hb⟩
      rw [z, decide_eq_true rfl] at h
      cases h
  · intro H3 ys s3 hys tm3
    rw [range_filter D ([], 0) fun t => decide (t.2 ≠ 0)] at tm3
    have hdf := s3 _ _ (upd_same (H := H) (a := d) (o := .frz od (.dT (dictV D))))
    have s4 : Same H (upd H3 d (.dT (dictV D))) := same_unlock hd s3
    have tm4 := Tms.keep (kt_upd (o := .dT (dictV D)) hdf (fun _ => nofun)) tm3
    have hy4 : (upd H3 d (.dT (dictV D))) D2 = some (.lst ys) := by rw [upd_ne nD]; exact hys
    have lf : (D.filter fun t => decide (t.2 ≠ 0)).length ≤ D.length := List.length_filter_le _ _
    have mf : ∀ t ∈ D.filter (fun t => decide (t.2 ≠ 0)), t.1.length = m ∧ t.2 ≠ 0 := fun t ht => by
      have := List.mem_filter.mp ht
      exact ⟨hk t this.1, of_decide_eq_true this.2⟩
    refine ⟨hdf, D2, true, rfl, rfl, ys, (D.filter fun t => decide (t.2 ≠ 0)).map termN, SqL.of hy4, tm4.dp, termN_srt fun t ht => (mf t ht).1, by rw [List.length_map]; omega, fun p rs ds pm pw hp dp => ?_⟩
    have hl : rs.length = ds.length := dp.length
    obtain ⟨us, rfl, pu, tu⟩ := tm4.sorted pm hl
    refine q p rs us _ (s4.trans (same_new hp)) (s4.free hp) upd_same (Tms.keep (kt_new hp) tu) (can_of pu (filter_sub hnd) mf (pair_term pw)) fun ns => ?_
    rw [cf_perm pu, cf_filter]
theorem natsV_app' (a b : List Nat) : natsV (a ++ b) = natsV a ++ natsV b := by unfold natsV; rw [List.map_append]
def sp_unknown : Sp := fun vs H Q _ => ∃ (m k : Nat), vs = [.int m, .int k] ∧ m ≤ 100 ∧ ∀ (l : Addr) (rs : List V) (H' : Hp), Same H H' → H l = none → H' l = some (.lst rs) → Tms H' rs [(unitN m k, 1)] → Q (.ref l) H'
theorem ok_unknown (T : Txt K mg A) : FnOk P w K mg base (CXq gq) 1 A.unknown A.fd_unknown P_unknown sp_unknown := by
  have nd := sc_unknown.nd
  refine T.F_unknown.okc sc_unknown (fun vs H Q E h => ?_) (fun A' outer s H vs Q E hr h => ?_)
  · obtain ⟨m, k, rfl, _⟩ := h; rfl
  obtain ⟨m, k, rfl, m9, q⟩ := h
  refine ⟨_, (pss_one (ps_ret (pe_lst (pa_cons (pe_tup (pa_cons (pe_callTy call_tuple_of (by rfl) T.z_tuple (by decide +kernel) (pa_cons (pe_lc (own := [("_law_place", 2)]) (g := gName 2) (by rfl) nd (pi_range1 (by rfl) T.z_range (pa_cons (pv 0) pa_nil)) (blkOk_by (own := [("_law_place", 2)]) (N := N_unknown) (sc := defScope s_unknown) (by decide +kernel)) (fun _ _ _ _ _ => pg_name (i := 2) nd rfl (Or.inl rfl)) (fun _ _ _ _ _ => pts_nil) (fun _ _ _ _ _ => (pe_callTy (T := "int") (r := rInt1) call_int1B (by rfl) T.z_int (by decide +kernel) (pa_cons (pe_cmpR op_eq (pv 2) (pv 1) (nomark _)) pa_nil)))) pa_nil)) (pa_cons pe_int pa_nil))) pa_nil)))), ?_⟩
  refine ⟨_, rfl, _, rfl, by omega, by omega, fun D hD => ?_⟩
  have hD : H D = none := hD
  show ∃ W : Nat → Nat → Hp → Prop, _
  rw [Int.toNat_natCast]
  refine lc_range (lo := 0) (n := m) (fun j H2 => Same H H2 ∧ H2 D = some (.lst (natsV ((List.range j).map fun i => if i = k then 1 else 0)))) ⟨same_new hD, upd_same⟩ ?_ ?_
  · rintro j H2 hj ⟨s2, h2⟩
    refine ⟨rfl, yes_of ?_⟩
    refine ⟨_, rfl, _, rfl, rfl, .inr ⟨_, rfl, _, h2, small1000 (by rw [natsV_len, List.length_map, List.length_range]; omega), same_upd s2 hD, ?_⟩⟩
    rw [upd_same, List.range_succ, List.map_append, natsV_app']
    have : (if decide (V.int (0 + (j : Int)) = V.int (k : Int)) = true then (1 : Int) else 0) = (((if j = k then 1 else 0 : Nat)) : Int) := by
      by_cases e : j = k
      · subst e
        rw [if_pos (decide_eq_true (by rw [Int.zero_add])), if_pos rfl]; rfl
      · rw [if_neg (by rw [decide_eq_false (fun z => e (by have := V.int.inj z; omega))]; decide), if_neg e]; rfl
    rw [this]; rfl
  · rintro H2 ⟨s2, h2⟩
    refine ⟨D, _, rfl, .inl ⟨SqL.of h2, fun t ht => ?_⟩⟩
    have s3 := same_new (o := .tup (natsV ((List.range m).map fun i => if i = k then 1 else 0))) ht
    refine ⟨(by show 2 ≤ sizeLine; decide), fun p hp => ⟨(by show 1 ≤ sizeLine; decide), fun l hl => ?_⟩⟩
    have s4 := same_new (o := .tup [.ref t, .int 1]) hp
    have s5 := same_new (o := .lst [.ref p]) hl
    have s25 := s2.trans (s3.trans (s4.trans s5))
    exact q l _ _ s25 ((s2.trans (s3.trans s4)).free hl) upd_same ⟨⟨p, t, rfl, s5 _ _ upd_same, s5 _ _ (s4 _ _ upd_same)⟩, trivial⟩
theorem e30 : (10 : Int) ^ (30 : Int).toNat = 1000000000000000000000000000000 := by decide
def sp_poly (K : PySem.W.Frag) : Sp := fun vs H Q _ => ∃ (p : Addr) (n : Int) (m sz z : Nat), vs = [.ref p, .int m, .int sz, .int z] ∧ H p = some (.lst [.int n]) ∧ 1 ≤ m ∧ m ≤ 5 ∧ z ≤ 20 ∧ sz ≤ 100 ∧
  ∀ (l : Addr) (rs : List V) (us : Pol) (n' : Int) (H' : Hp), H l = none → H' l = some (.lst rs) → Tms H' rs us → Can m us → us.length ≤ sz → Small z (sz * 10 ^ 31) us → H' p = some (.lst [.int n']) → SameB p H H' → Q (.ref l) H'
theorem ok_poly (T : Txt K mg A) : FnOk P w K mg base (CXq gq) 2 A.poly A.fd_poly P_poly (sp_poly K) := by
  have nd := sc_poly.nd
  have G_gathered : FnOk P w K mg base (CXq gq) 1 A.gathered A.fd_gathered P_gathered (sp_gath K) := ok_gathered T
  have G_take : FnOk P w K mg base (CXq gq) 1 A.take A.fd_take P_take sp_take := ok_take T
  have b_gathered := b_gathered T
  have b_take := b_take T
  refine T.F_poly.okc sc_poly (fun vs H Q E h => ?_) (fun A' outer s H vs Q E hr h => ?_)
  · obtain ⟨p, n, m, sz, z, rfl, _⟩ := h; rfl
  obtain ⟨p, n, m, sz, z, rfl, hp, m1, m2, z2, zs2, q⟩ := h
  have hu := hu_of hr
  refine ⟨_, (pss_cons (ps_set (i := 4) nd rfl (Or.inl rfl) pe_dnewT)
      (pss_cons (ps_for PassesOwn.never rfl (pi_range1 (by rfl) T.z_range (pa_cons (pe_call (G_take.mono (by decide)) hr rfl T.m_take T.F_take.kp b_take .nil pass0 (pa_cons (pv 0) (pa_cons (pe_op op_add (pv 2) pe_int) pa_nil))) pa_nil)) (pg_name (i := 5) nd rfl (Or.inl rfl)) (pss_cons (ps_set (i := 6) nd rfl (Or.inl rfl) (pe_lst pa_nil))
        (pss_cons (ps_set (i := 7) nd rfl (Or.inl rfl) (pe_call (G_take.mono (by decide)) hr rfl T.m_take T.F_take.kp b_take .nil pass0 (pa_cons (pv 0) (pa_cons (pe_op op_add (pv 3) pe_int) pa_nil))))
        (pss_cons (ps_for PassesOwn.never rfl (pi_range1 (by rfl) T.z_range (pa_cons (pv 1) pa_nil)) (pg_name (i := 8) nd rfl (Or.inl rfl)) (pss_cons (ps_expr (pe_bm PySem.F.plainAttrs_list PySem.F.slot_list_append PySem.F.type_list_append mt_append (pv 6) (pa_cons (pe_call (G_take.mono (by decide)) hr rfl T.m_take T.F_take.kp b_take .nil pass0 (pa_cons (pv 0) (pa_cons (pe_op op_add (pv 7) pe_int) pa_nil))) pa_nil)))
          (pss_one (ps_set (i := 7) nd rfl (Or.inl rfl) (pe_op op_sub (pv 7) (pe_ix ix_list (pv 6) (pe_un un_neg pe_int) (fun _ _ => rfl)))))))
        (pss_cons (ps_set (i := 9) nd rfl (Or.inl rfl) (pe_call (G_take.mono (by decide)) hr rfl T.m_take T.F_take.kp b_take .nil pass0 (pa_cons (pv 0) (pa_cons (pv 1) pa_nil))))
        (pss_cons (ps_set (i := 10) nd rfl (Or.inl rfl) (pe_ix ix_list (pe_lst (pa_cons (pe_op op_sub (pe_call (G_take.mono (by decide)) hr rfl T.m_take T.F_take.kp b_take .nil pass0 (pa_cons (pv 0) (pa_cons pe_int pa_nil))) pe_int) (pa_cons (pe_op op_sub (pe_call (G_take.mono (by decide)) hr rfl T.m_take T.F_take.kp b_take .nil pass0 (pa_cons (pv 0) (pa_cons (pe_op op_mulB pe_int (pe_op op_pow pe_int pe_int)) pa_nil))) (pe_op op_pow pe_int pe_int)) pa_nil))) (pe_callTy call_int1 (by rfl) T.z_int (by decide +kernel) (pa_cons (pe_cmpR op_eq (pe_call (G_take.mono (by decide)) hr rfl T.m_take T.F_take.kp b_take .nil pass0 (pa_cons (pv 0) (pa_cons pe_int pa_nil))) pe_int (nomark _)) pa_nil)) (fun _ _ => rfl)))
        (pss_cons (ps_set (i := 11) nd rfl (Or.inl rfl) (pe_callTy call_tuple_of (by rfl) T.z_tuple (by decide +kernel) (pa_cons (pe_op op_cat (pe_slice sl_list (pv 6) (po_some (pv 9)) po_none) (pe_slice sl_list (pv 6) po_none (po_some (pv 9)))) pa_nil)))
        (pss_one (ps_dput hu (pv 4) (pv 11) (pe_op op_add (pe_dget2 hu (pv 4) (pv 11) pe_int ⟨rfl, rfl, rfl, rfl⟩) (pv 10)) rfl)))))))))
      (pss_one (ps_ret (pe_call (G_gathered.mono (by decide)) hr rfl T.m_gathered T.F_gathered.kp b_gathered .nil pass0 (pa_cons (pv 4) pa_nil)))))), ?_⟩
  intro d hd
  have hd0 : H d = none := hd
  have npd : p ≠ d := ne_of_none hp hd0
  refine ⟨_, rfl, _, rfl, _, _, rfl, rfl, p, n, (sz : Int) + 1, rfl, by rw [upd_ne npd]; exact hp, by omega, ?_, fun d1 n1 d10 d11 => ?_⟩
  · exact (Nat.log2_lt (by omega)).mpr (Nat.lt_of_lt_of_le (show ((sz : Int) + 1).natAbs < 2 ^ 8 by omega) (Nat.pow_le_pow_right (by decide) (by decide)))
  obtain ⟨e, rfl⟩ : ∃ e : Nat, d1 = (e : Int) := ⟨d1.toNat, by omega⟩
  refine ⟨_, rfl, by omega, by omega, ?_⟩
  show ∃ W : Nat → Nat → L2.St → Hp → Prop, _
  rw [Int.toNat_natCast]
  refine for_range (lo := 0) (n := e) (fun i σ H2 => ∃ (L : Pol) (n' : Int) (u1 u2 u3 u4 u5 u6 u7 : Option V), σ = [some (.ref p), some (.int m), some (.int sz), some (.int z), some (.ref d), u1, u2, u3, u4, u5, u6, u7] ∧ L.length = i ∧ H2 d = some (.dT (dictV (addUp [] L))) ∧ (∀ t ∈ L, t.1.length = m) ∧ Small z (10 ^ 31) L ∧ H2 p = some (.lst [.int n']) ∧ SameB p H H2)
    ⟨[], n1, none, none, none, none, none, none, none, rfl, rfl, by rw [upd_ne npd.symm]; exact upd_same, (fun _ h => nomatch h), (fun _ h => nomatch h), upd_same, (SameB.new (.refl _ _) hd0).trans sameB_upd⟩ ?_ ?_
  · rintro i σ H2 hi ⟨L, n', u1, u2, u3, u4, u5, u6, u7, rfl, lL, hd2, hm, sm, hp2, sb⟩
    refine ⟨(by show 0 ≤ sizeLine; decide), fun f hf => ?_⟩
    have hf0 : H2 f = none := hf
    have npf : p ≠ f := ne_of_none hp2 hf0
    have nfd : f ≠ d := (ne_of_none hd2 hf0).symm
    have sf := same_new (o := .lst []) hf0
    refine ⟨_, rfl, _, rfl, _, _, rfl, rfl, p, n', (z : Int) + 1, rfl, sf _ _ hp2, by omega, ?_, fun d2 n2 d20 d21 => ?_⟩
    · exact (Nat.log2_lt (by omega)).mpr (Nat.lt_of_lt_of_le (show ((z : Int) + 1).natAbs < 2 ^ 8 by omega) (Nat.pow_le_pow_right (by decide) (by decide)))
    obtain ⟨y, rfl⟩ : ∃ y : Nat, d2 = (y : Int) := ⟨d2.toNat, by omega⟩
    refine ⟨_, rfl, _, rfl, by omega, by omega, ?_⟩
    show ∃ W : Nat → Nat → L2.St → Hp → Prop, _
    rw [Int.toNat_natCast]
    refine for_range (lo := 0) (n := m) (fun j σ H3 => ∃ (ks : List Nat) (n3 : Int) (lf : Nat) (u3 u4 u5 u6 u7 : Option V), σ = [some (.ref p), some (.int m), some (.int sz), some (.int z), some (.ref d), some (.int (0 + (i : Int))), some (.ref f), some (.int lf), u3, u4, u5, u6] ∧ ks.length = j ∧ ks.sum + lf = y ∧ H3 f = some (.lst (natsV ks)) ∧ H3 p = some (.lst [.int n3]) ∧ H3 d = some (.dT (dictV (addUp [] L))) ∧ SameB p H2 H3)
      ⟨[], n2, y, _, _, _, _, none, rfl, rfl, by simp, by rw [upd_ne npf.symm]; exact upd_same, upd_same, by rw [upd_ne npd.symm]; exact sf _ _ hd2, (SameB.new (.refl _ _) hf0).trans sameB_upd⟩ ?_ ?_
    · rintro j σ H3 hj ⟨ks, n3, lf, u3, u4, u5, u6, u7, rfl, lk, sk, hf3, hp3, hd3, sb3⟩
      refine ⟨_, rfl, .inl ⟨rfl, _, SqL.of hf3⟩, ?_⟩
      refine ⟨_, rfl, _, rfl, _, _, rfl, rfl, p, n3, (lf : Int) + 1, rfl, hp3, by omega, ?_, fun d4 n4 d40 d41 => ?_⟩
      · exact (Nat.log2_lt (by omega)).mpr (Nat.lt_of_lt_of_le (show ((lf : Int) + 1).natAbs < 2 ^ 6 by omega) (Nat.pow_le_pow_right (by decide) (by decide)))
      obtain ⟨g, rfl⟩ : ∃ g : Nat, d4 = (g : Int) := ⟨d4.toNat, by omega⟩
      refine ⟨f, _, _, rfl, rfl, by rw [upd_ne npf.symm]; exact hf3, small1000 (by rw [natsV_len]; omega), ?_⟩
      refine ⟨_, rfl, _, rfl, _, rfl, f, _, _, .int (g : Int), rfl, rfl, SqL.of upd_same, atI_last _ _, _, _, rfl, rfl, ?_⟩
      refine ⟨ks ++ [g], n4, lf - g, some (.int (0 + (j : Int))), u4, u5, u6, u7, ?_, ?_, ?_, ?_, ?_, ?_, ?_⟩
      · show [some (V.ref p), some (V.int m), some (V.int sz), some (V.int z), some (V.ref d), some (V.int (0 + (i : Int))), some (V.ref f), some (V.int ((lf : Int) - (g : Int))), some (V.int (0 + (j : Int))), u4, u5, u6] = _
        rw [show ((lf : Int) - (g : Int)) = ((lf - g : Nat) : Int) by omega]
      · rw [List.length_append, lk]; rfl
      · rw [List.sum_append]; simp; omega
      · rw [upd_same, ← natsV_app]; rfl
      · rw [upd_ne npf, upd_same]
      · rw [upd_ne nfd.symm, upd_ne npd.symm]; exact hd3
      · exact (sb3.trans sameB_upd).new hf0
    · rintro σ H3 ⟨ks, n3, lf, u3, u4, u5, u6, u7, rfl, lk, sk, hf3, hp3, hd3, sb3⟩
      refine ⟨_, rfl, _, rfl, p, n3, (m : Int), rfl, hp3, by omega, ?_, fun d5 n5 d50 d51 => ?_⟩
      · exact (Nat.log2_lt (by omega)).mpr (Nat.lt_of_lt_of_le (show ((m : Int)).natAbs < 2 ^ 5 by omega) (Nat.pow_le_pow_right (by decide) (by decide)))
      obtain ⟨g, rfl⟩ : ∃ g : Nat, d5 = (g : Int) := ⟨d5.toNat, by omega⟩
      refine ⟨_, rfl, p, n5, 19, rfl, upd_same, by decide, by decide, fun c1 n6 c10 c11 => ⟨_, _, rfl, rfl, ?_⟩⟩
      refine ⟨_, rfl, _, _, rfl, rfl, powOk (by decide) (by decide) (by decide), _, _, rfl, rfl, mul31 (by decide) (by decide), p, n6, _, rfl, upd_same, ?_, ?_, fun c2 n7 c20 c21 => ?_⟩
      · rw [e30]; decide
      · rw [e30]; decide +kernel
      rw [e30] at c21
      refine ⟨_, _, rfl, rfl, powOk (by decide) (by decide) (by decide), _, _, rfl, rfl, (by show 2 ≤ sizeLine; decide), fun M hM => ?_⟩
      rw [e30]
      have sb4 : SameB p H3 (upd (upd (upd H3 p (.lst [.int n5])) p (.lst [.int n6])) p (.lst [.int n7])) := (sameB_upd.trans sameB_upd).trans sameB_upd
      have hp4 : (upd (upd (upd H3 p (.lst [.int n5])) p (.lst [.int n6])) p (.lst [.int n7])) p = some (.lst [.int n7]) := upd_same
      generalize upd (upd (upd H3 p (.lst [.int n5])) p (.lst [.int n6])) p (.lst [.int n7]) = H4 at sb4 hp4 hM ⊢
      have hM0 : H4 M = none := hM
      have sM := same_new (o := .lst [.int (c1 - 9), .int (c2 - 1000000000000000000000000000000)]) hM0
      have npM : p ≠ M := ne_of_none hp4 hM0
      refine ⟨_, rfl, p, n7, 4, rfl, sM _ _ hp4, by decide, by decide, fun c3 n8 c30 c31 => ⟨rfl, .inr ⟨_, rfl, ?_⟩⟩⟩
      have hM5 : (upd (upd H4 M (.lst [.int (c1 - 9), .int (c2 - 1000000000000000000000000000000)])) p (.lst [.int n8])) M = some (.lst [.int (c1 - 9), .int (c2 - 1000000000000000000000000000000)]) := by rw [upd_ne npM.symm, upd_same]
      have hp5 : (upd (upd H4 M (.lst [.int (c1 - 9), .int (c2 - 1000000000000000000000000000000)])) p (.lst [.int n8])) p = some (.lst [.int n8]) := upd_same
      have sb5 : SameB p H3 (upd (upd H4 M (.lst [.int (c1 - 9), .int (c2 - 1000000000000000000000000000000)])) p (.lst [.int n8])) := (sb4.same sM).trans sameB_upd
      generalize upd (upd H4 M (.lst [.int (c1 - 9), .int (c2 - 1000000000000000000000000000000)])) p (.lst [.int n8]) = H5 at hM5 hp5 sb5 ⊢
      obtain ⟨c, hcs, hat⟩ : ∃ c : Int, c.natAbs ≤ 10 ^ 31 ∧ atI [V.int (c1 - 9), .int (c2 - 1000000000000000000000000000000)] (if decide (V.int c3 = V.int 0) = true then 1 else 0) = some (.int c) := by
        by_cases h : decide (V.int c3 = V.int 0) = true
        · rw [if_pos h]
          exact ⟨c2 - 1000000000000000000000000000000, by omega, rfl⟩
        · rw [if_neg h]
          exact ⟨c1 - 9, by omega, rfl⟩
      refine ⟨M, _, _, .int c, rfl, rfl, SqL.of hM5, hat, ?_⟩
      have hf5 := sb5 f _ npf.symm hf3
      have hd5 := sb5 d _ npd.symm hd3
      refine ⟨_, rfl, _, rfl, _, rfl, f, _, rfl, SqL.of hf5, fun l1 hl1 => ?_⟩
      rw [cut_from (by rw [natsV_len]; omega), natsV_dropW]
      have t1 := same_new (o := .lst (natsV (ks.drop g))) hl1
      have h1 : (upd H5 l1 (.lst (natsV (ks.drop g)))) l1 = some (.lst (natsV (ks.drop g))) := upd_same
      generalize upd H5 l1 (.lst (natsV (ks.drop g))) = X1 at t1 h1 ⊢
      refine ⟨_, rfl, _, rfl, _, rfl, f, _, rfl, SqL.of (t1 _ _ hf5), fun l2 hl2 => ?_⟩
      rw [cut_to (by rw [natsV_len]; omega), natsV_takeW]
      have t2 := same_new (o := .lst (natsV (ks.take g))) hl2
      refine ⟨l1, l2, _, _, rfl, rfl, t2 _ _ h1, upd_same, le_size (by rw [natsV_len, natsV_len, List.length_drop, List.length_take]; omega), fun l3 hl3 => ?_⟩
      rw [natsV_app]
      have t3 := (t1.trans t2).trans (same_new (o := .lst (natsV (ks.drop g ++ ks.take g))) hl3)
      refine ⟨l3, _, rfl, .inl ⟨SqL.of upd_same, fun kb hkb => ?_⟩⟩
      have t4 := t3.trans (same_new (o := .tup (natsV (ks.drop g ++ ks.take g))) hkb)
      have zb := upd_same (H := upd (upd X1 l2 (.lst (natsV (ks.take g)))) l3 (.lst (natsV (ks.drop g ++ ks.take g)))) (a := kb) (o := .tup (natsV (ks.drop g ++ ks.take g)))
      generalize upd (upd (upd X1 l2 (.lst (natsV (ks.take g)))) l3 (.lst (natsV (ks.drop g ++ ks.take g)))) kb (.tup (natsV (ks.drop g ++ ks.take g))) = H6 at t4 zb ⊢
      have hd6 := t4 _ _ hd5
      have sb6 : SameB p H H6 := (sb.trans sb3).trans (sb5.same t4)
      have lkey : (ks.drop g ++ ks.take g).length = m := by rw [List.length_append, List.length_drop, List.length_take]; omega
      have skey : (ks.drop g ++ ks.take g).sum ≤ z := by
        have : (ks.take g ++ ks.drop g).sum = ks.sum := by rw [List.take_append_drop]
        rw [List.sum_append] at this ⊢; omega
      generalize ks.drop g ++ ks.take g = key at zb lkey skey t4
      have nd' := addUp_nodup L [] List.nodup_nil
      have ll := addUp_len L []
      rw [List.length_nil, Nat.zero_add] at ll
      refine ⟨_, rfl, d, rfl, .inr ⟨_, .inl hd6⟩, _, rfl, _, DGet.t (k := keyW key) hd6 (by rw [← keyW_V]; exact zb), _, rfl, _, _, dict_get0 nd' key, rfl, _, rfl, _, rfl, d, _, rfl, DPut.t (k := keyW key) hd6 (by rw [← keyW_V]; exact zb) (small5 (by rw [dict_len]; omega)), L ++ [(key, c)], n8, _, _, _, _, _, _, _, rfl, ?_, ?_, ?_, ?_, ?_, ?_⟩
      · rw [List.length_append, lL]; rfl
      · rw [upd_same, dict_put, addUp_snoc]
      · intro t ht
        rcases List.mem_append.mp ht with ht | ht
        · exact hm t ht
        · rw [List.mem_singleton] at ht; subst ht; exact lkey
      · exact sm.snoc skey hcs
      · rw [upd_ne npd]; exact t4 _ _ hp5
      · exact sb6.new hd0
  · rintro σ H2 ⟨L, n', u1, u2, u3, u4, u5, u6, u7, rfl, lL, hd2, hm, sm, hp2, sb⟩
    have ll := addUp_len L []
    rw [List.length_nil, Nat.zero_add] at ll
    refine ⟨_, rfl, d, addUp [] L, m, rfl, hd2, addUp_nodup _ [] List.nodup_nil, fun t ht => ?_, by omega, fun l rs us H' s' hl hr tr cn hc => ?_⟩
    · exact addUp_keys (m := m) L [] hm (fun ns hn => nomatch hn) t.1 (List.mem_map.mpr ⟨t, ht, rfl⟩)
    · have hc' : ∀ ns, cf us ns = cf L ns := fun ns => by
        rw [hc, addUp_cf ns L [] List.nodup_nil]
        show (0 : Int) + _ = _
        omega
      exact q l rs us n' H' (sb.free hp2 hl) hr tr cn (Nat.le_trans (cn.len hc') (by omega)) ((cn.small hc' sm).mono (Nat.le_refl _) (Nat.mul_le_mul_right _ (by omega))) (s' _ _ hp2) (sb.same s')
def sp_times (K : PySem.W.Frag) : Sp := fun vs H Q _ => ∃ (a b : Addr) (m : Nat) (xs ys : List V) (ts us : Pol), vs = [.ref a, .ref b] ∧ SqL K H a xs ∧ SqL K H b ys ∧ Tms H xs ts ∧ Tms H ys us ∧ (∀ t ∈ ts, t.1.length = m) ∧ (∀ t ∈ us, t.1.length = m) ∧ (∀ t ∈ ts, t.2.natAbs ≤ 2 ^ 1000) ∧ (∀ t ∈ us, t.2.natAbs ≤ 2 ^ 1000) ∧ m ≤ 100 ∧ ts.length ≤ 4 ∧ us.length ≤ 1900 ∧
  ∀ (l : Addr) (rs : List V) (ws : Pol) (H' : Hp), Same H H' → H l = none → H' l = some (.lst rs) → Tms H' rs ws → Can m ws → (∀ ns, cf ws ns = cf (mulP ts us) ns) → Q (.ref l) H'
theorem ok_times (T : Txt K mg A) : FnOk P w K mg base (CXq gq) 2 A.times A.fd_times P_times (sp_times K) := by
  have nd := sc_times.nd
  have G_gathered : FnOk P w K mg base (CXq gq) 1 A.gathered A.fd_gathered P_gathered (sp_gath K) := ok_gathered T
  have b_gathered := b_gathered T
  refine T.F_times.okc sc_times (fun vs H Q E h => ?_) (fun A' outer s H vs Q E hr h => ?_)
  · obtain ⟨a, b, m, xs, ys, ts, us, rfl, _⟩ := h; rfl
  obtain ⟨a, b, m, xs, ys, ts, us, rfl, ha, hb, tm, tu, hm, hmu, hsm, hsu, m9, hz, hz2, q⟩ := h
  have hu := hu_of hr
  refine ⟨_, (pss_cons (ps_set (i := 2) nd rfl (Or.inl rfl) pe_dnewT)
      (pss_cons (ps_for PassesOwn.never rfl (pi_list (pv 0)) (pg_tup (by rfl) (pgs_cons (pg_name (i := 3) nd rfl (Or.inl rfl)) (pgs_cons (pg_name (i := 4) nd rfl (Or.inl rfl)) pgs_nil))) (pss_one (ps_for PassesOwn.never rfl (pi_list (pv 1)) (pg_tup (by rfl) (pgs_cons (pg_name (i := 5) nd rfl (Or.inl rfl)) (pgs_cons (pg_name (i := 6) nd rfl (Or.inl rfl)) pgs_nil))) (pss_cons (ps_set (i := 7) nd rfl (Or.inl rfl) (pe_callTy call_tuple_of (by rfl) T.z_tuple (by decide +kernel) (pa_cons (pe_lc (own := [("_law_a", 8), ("_law_b", 9)]) (g := gTup K 2 (gCons (gName 8) (gCons (gName 9) gNil))) (by rfl) nd (pi_zipU (by rfl) T.z_zip (pa_cons (pv 3) (pa_cons (pv 5) pa_nil))) (blkOk_by (own := [("_law_a", 8), ("_law_b", 9)]) (N := N_times) (sc := defScope s_times) (by decide +kernel)) (fun _ _ _ _ _ => pg_tupB K (by rfl) (pgs_cons (pg_name (i := 8) nd rfl (Or.inl rfl)) (pgs_cons (pg_name (i := 9) nd rfl (Or.inl rfl)) pgs_nil))) (fun _ _ _ _ _ => pts_nil) (fun _ _ _ _ _ => (pe_op op_add (pv 8) (pv 9)))) pa_nil)))
          (pss_one (ps_dput hu (pv 2) (pv 7) (pe_op op_add (pe_dget2 hu (pv 2) (pv 7) pe_int ⟨rfl, rfl, rfl, rfl⟩) (pe_op op_mulB (pv 4) (pv 6))) rfl))))))
      (pss_one (ps_ret (pe_call (G_gathered.mono (by decide)) hr rfl T.m_gathered T.F_gathered.kp b_gathered .nil pass0 (pa_cons (pv 2) pa_nil)))))), ?_⟩
  intro d hd
  have hd0 : H d = none := hd
  have s1 := same_new (o := .dT []) hd
  have lx : xs.length = ts.length := tm.length
  have ly : ys.length = us.length := tu.length
  have lp := mulP_len us
  refine ⟨_, rfl, a, rfl, ⟨_, s1.seqL ha⟩, ?_⟩
  refine for_list (xs := xs) (fun i σ H2 => ∃ (u1 u2 u3 u4 u5 u6 u7 : Option V), σ = [some (.ref a), some (.ref b), some (.ref d), u1, u2, u3, u4, u5, u6, u7] ∧ Same H H2 ∧ H2 d = some (.dT (dictV (addUp [] (mulP (ts.take i) us))))) ⟨none, none, none, none, none, none, none, rfl, s1, upd_same⟩ (fun i σ H2 _ h => by obtain ⟨_, _, _, _, _, _, _, _, s2, _⟩ := h; exact s2.seqL ha) ?_ ?_
  · rintro i z σ H2 ez ⟨u1, u2, u3, u4, u5, u6, u7, rfl, s2, hd2⟩
    obtain ⟨t, et, tt⟩ := tm.get ez
    have hi : i < ts.length := (List.getElem?_eq_some_iff.mp et).1
    have mt := List.mem_of_getElem? et
    obtain ⟨p, c, rfl, hp, hc⟩ := tt.same s2
    refine ⟨p, _, rfl, SqT.of hp, rfl, _, _, rfl, _, _, rfl, rfl, ?_⟩
    refine ⟨_, rfl, b, rfl, ⟨_, s2.seqL hb⟩, ?_⟩
    refine for_list (xs := ys) (fun j σ H3 => ∃ (u3 u4 u5 u6 u7 : Option V), σ = [some (.ref a), some (.ref b), some (.ref d), some (.ref c), some (.int t.2), u3, u4, u5, u6, u7] ∧ Same H H3 ∧ H3 c = some (.tup (natsV t.1)) ∧ H3 d = some (.dT (dictV (addUp [] (mulP (ts.take i) us ++ mulT t (us.take j)))))) ⟨_, _, _, _, _, rfl, s2, hc, by simpa [mulT] using hd2⟩ (fun j σ H3 _ h => by obtain ⟨_, _, _, _, _, _, s3, _⟩ := h; exact s3.seqL hb) ?_ ?_
    · rintro j z σ H3 ez ⟨u3, u4, u5, u6, u7, rfl, s3, hc3, hd3⟩
      obtain ⟨w, ew, ww⟩ := tu.get ez
      have hj : j < us.length := (List.getElem?_eq_some_iff.mp ew).1
      have mw := List.mem_of_getElem? ew
      obtain ⟨p', c', rfl, hp', hc'⟩ := ww.same s3
      have lt := hm t mt
      have lw := hmu w mw
      refine ⟨p', _, rfl, SqT.of hp', rfl, _, _, rfl, _, _, rfl, rfl, ?_⟩
      refine ⟨_, rfl, _, rfl, c, c', _, _, rfl, SqT.of hc3, SqT.of hc', fun D hD => ?_⟩
      have hD : H3 D = none := hD
      have lap : (addP t.1 w.1).length = m := by rw [addP_len (by rw [lt, lw])]; exact lt
      refine lc_zipU (xs := natsV t.1) (ys := natsV w.1) (fun k H4 => k ≤ m ∧ Same H3 H4 ∧ H4 D = some (.lst (natsV ((addP t.1 w.1).take k)))) ⟨Nat.zero_le _, same_new hD, upd_same⟩ (by rw [natsV_len, natsV_len]; omega) (fun k H4 _ h => ⟨SqT.of (h.2.1 _ _ hc3), SqT.of (h.2.1 _ _ hc')⟩) ?_ ?_
      · rintro k x y T' H4 ex ey hT ⟨_, s4, h4⟩
        obtain ⟨x, ex', rfl⟩ := natsV_get ex
        obtain ⟨y, ey', rfl⟩ := natsV_get ey
        have hk : k < t.1.length := (List.getElem?_eq_some_iff.mp ex').1
        have sT := same_new (o := .tup [.int (x : Int), .int (y : Int)]) hT
        have eadd : (addP t.1 w.1)[k]? = some (x + y) := by
          unfold addP
          rw [List.getElem?_zipWith, ex', ey']
        refine ⟨T', _, rfl, SqT.of upd_same, rfl, _, _, rfl, _, _, rfl, rfl, rfl, yes_of ?_⟩
        refine ⟨_, rfl, _, rfl, _, _, rfl, rfl, _, sT _ _ h4, small1000 (by rw [natsV_len, List.length_take]; omega), by omega, same_upd (s4.trans sT) hD, ?_⟩
        rw [upd_same, take_snoc eadd, natsV_app']
        show some (HO.lst (natsV ((addP t.1 w.1).take k) ++ [V.int ((x : Int) + (y : Int))])) = some (HO.lst (natsV ((addP t.1 w.1).take k) ++ [V.int ((x + y : Nat) : Int)]))
        rw [show ((x : Int) + (y : Int)) = ((x + y : Nat) : Int) by omega]
      · rintro H4 ⟨_, s4, h4⟩
        rw [natsV_len, lt, ← lap, List.take_length] at h4
        refine ⟨D, _, rfl, .inl ⟨SqL.of h4, fun pb hpb => ?_⟩⟩
        have s5 := same_new (o := .tup (natsV (addP t.1 w.1))) hpb
        have zb : (upd H4 pb (.tup (natsV (addP t.1 w.1)))) pb = some (.tup (natsV (addP t.1 w.1))) := upd_same
        have s45 := s4.trans s5
        generalize upd H4 pb (.tup (natsV (addP t.1 w.1))) = H5 at s5 zb s45 ⊢
        have hd5 := s45 _ _ hd3
        have hc5 := s45 _ _ hc3
        have nd' := addUp_nodup (mulP (ts.take i) us ++ mulT t (us.take j)) [] List.nodup_nil
        have ll : (addUp [] (mulP (ts.take i) us ++ mulT t (us.take j))).length ≤ 40000 := by
          have := addUp_len (mulP (ts.take i) us ++ mulT t (us.take j)) []
          rw [List.length_append, mulP_len, List.length_take] at this
          have h1 : (mulT t (us.take j)).length ≤ us.length := by unfold mulT; rw [List.length_map, List.length_take]; omega
          have h2 : min i ts.length * us.length ≤ 4 * 1900 := Nat.mul_le_mul (by omega) hz2
          rw [List.length_nil] at this
          omega
        refine ⟨_, rfl, d, rfl, .inr ⟨_, .inl hd5⟩, _, rfl, _, DGet.t (k := keyW (addP t.1 w.1)) hd5 (by rw [← keyW_V]; exact zb), _, rfl, _, rfl, _, _, rfl, rfl, mulOk2 (a := 1000) (b := 1000) (hsm t mt) (hsu w mw) (by decide) (by decide), _, _, dict_get0 nd' (addP t.1 w.1), rfl, _, rfl, _, rfl, d, _, rfl, DPut.t (k := keyW (addP t.1 w.1)) hd5 (by rw [← keyW_V]; exact zb) (small5 (by rw [dict_len]; omega)), _, _, _, _, _, rfl, same_upd (s3.trans s45) hd0, ?_, ?_⟩
        · rw [upd_ne (fun z => by rw [z, hd5] at hc5; cases hc5)]; exact hc5
        · rw [upd_same, dict_put, take_snoc ew]
          unfold mulT
          rw [List.map_append, List.map_singleton, ← List.append_assoc, addUp_snoc]
    · rintro σ H3 ⟨u3, u4, u5, u6, u7, rfl, s3, hc3, hd3⟩
      rw [ly, List.take_length, ← mulP_take et] at hd3
      exact ⟨_, _, _, _, _, _, _, rfl, s3, hd3⟩
  · rintro σ H2 ⟨u1, u2, u3, u4, u5, u6, u7, rfl, s2, hd2⟩
    rw [lx, List.take_length] at hd2
    have ll := addUp_len (mulP ts us) []
    rw [mulP_len, List.length_nil, Nat.zero_add] at ll
    have l2 : ts.length * us.length ≤ 4 * 1900 := Nat.mul_le_mul hz hz2
    refine ⟨_, rfl, d, addUp [] (mulP ts us), m, rfl, hd2, addUp_nodup _ [] List.nodup_nil, fun t ht => ?_, by omega, fun l rs ws H' s' hl hr tr cn hc => q l rs ws H' (s2.trans s') (s2.free hl) hr tr cn fun ns => ?_⟩
    · refine addUp_keys (m := m) (mulP ts us) [] (fun t ht => ?_) (fun ns hn => nomatch hn) t.1 (List.mem_map.mpr ⟨t, ht, rfl⟩)
      obtain ⟨x, hx, hy⟩ := List.mem_flatMap.mp ht
      obtain ⟨y, hy', rfl⟩ := List.mem_map.mp hy
      show (addP x.1 y.1).length = m
      rw [addP_len (by rw [hm x hx, hmu y hy'])]; exact hm x hx
    · rw [hc, addUp_cf ns (mulP ts us) [] List.nodup_nil]
      show (0 : Int) + _ = _
      omega
end
end K32

set_option Elab.async false
set_option linter.all false
set_option maxRecDepth 100000
set_option maxHeartbeats 4000000
namespace PySem
open PySem PySem.Spec PyProof.Rows
section
variable {prog : Program} {w : World} {A : Around} {E : Value → Shared → Prop} {s : Shared}
end
end PySem
namespace L2
open PySem PySem.Spec PyProof.Rows
section
variable {X : Cx}
end
end L2

set_option Elab.async false
set_option linter.all false
set_option maxRecDepth 100000
set_option maxHeartbeats 4000000
namespace K32
open PySem L2
section
variable {P : Program} {w : World} {K : PySem.W.Frag} {mg : Str → Option Value} {base : Heap} {A : Adr} {gq : Array GenState → Drawn → Prop}
theorem ok_whole (T : Txt K mg A) : FnOk P w K mg base (CXq gq) 1 A.whole A.fd_whole P_whole (sp_whole K) := by
  have nd := sc_whole.nd
  refine T.F_whole.okc sc_whole (fun vs H Q E h => ?_) (fun A' outer s H vs Q E hr h => ?_)
  · obtain ⟨v, k, rfl, _⟩ := h; rfl
  obtain ⟨v, k, rfl, hk, q⟩ := h
  refine ⟨_, (pss_one (ps_ret (pe_and (pe_callB call_isi (by rfl) T.z_isinstance (by decide +kernel) (pa_cons (pv 0) (pa_cons (pe_ty "int" (by rfl) T.z_int (by decide +kernel)) pa_nil))) (pe_one (pe_not (pe_callB call_isi (by rfl) T.z_isinstance (by decide +kernel) (pa_cons (pv 0) (pa_cons (pe_ty "bool" (by rfl) T.z_bool (by decide +kernel)) pa_nil)))))))), ?_⟩
  refine ⟨v, rfl, v, k, "int", rfl, hk, .inl rfl, _, rfl, ?_⟩
  unfold wholeK at q
  cases e : isi k "int" with
  | false =>
    rw [e] at q
    exact iteF q
  | true =>
    rw [e] at q
    refine iteT ⟨v, rfl, v, k, "bool", rfl, hk, .inr (.inl rfl), _, rfl, q⟩
theorem lex_gt : ∀ {a b : List Nat}, a.length = b.length → lexI (toI a) (toI b) = false → a ≠ b → HT.lexLt (toI b) (toI a) = true
  | [], [], _, _, h => absurd rfl h
  | [], _ :: _, h, _, _ => by cases h
  | _ :: _, [], h, _, _ => by cases h
  | x :: a, y :: b, hl, h, hne => by
    have h : lexI ((x : Int) :: toI a) ((y : Int) :: toI b) = false := h
    show HT.lexLt ((y : Int) :: toI b) ((x : Int) :: toI a) = true
    rw [HT.lexLt_cons]
    by_cases e : x = y
    · subst e
      rw [lexI_same] at h
      rw [if_pos rfl]
      exact lex_gt (by simpa using hl) h fun z => hne (by rw [z])
    · rw [lexI_other (by omega), decide_eq_false_iff_not] at h
      rw [if_neg (by omega)]
      exact decide_eq_true (by omega)
def sp_is_poly (K : PySem.W.Frag) : Sp := fun vs H Q _ => ∃ (a : Addr) (m : Nat) (xs : List V) (ts : Pol), vs = [.ref a, .int m] ∧ SqL K H a xs ∧ Tms H xs ts ∧ Can m ts ∧ m ≤ 100 ∧ ts.length ≤ 5000 ∧ ∀ H', Same H H' → Q (.bl true) H'
theorem ok_is_poly (T : Txt K mg A) : FnOk P w K mg base (CXq gq) 2 A.is_poly A.fd_is_poly P_is_poly (sp_is_poly K) := by
  have nd := sc_is_poly.nd
  have G_whole : FnOk P w K mg base (CXq gq) 1 A.whole A.fd_whole P_whole (sp_whole K) := ok_whole T
  have b_whole := b_whole T
  refine T.F_is_poly.okc sc_is_poly (fun vs H Q E h => ?_) (fun A' outer s H vs Q E hr h => ?_)
  · obtain ⟨a, m, xs, ts, rfl, _⟩ := h; rfl
  obtain ⟨a, m, xs, ts, rfl, ha, tm, cn, m9, hz, q⟩ := h
  refine ⟨_, (pss_cons (ps_if (pt_not (pt_val (pe_callB call_isi (by rfl) T.z_isinstance (by decide +kernel) (pa_cons (pv 0) (pa_cons (pe_ty "list" (by rfl) T.z_list (by decide +kernel)) pa_nil))))) (pss_one (ps_ret pe_bl)) pss_nil)
      (pss_cons (ps_for PassesOwn.never rfl (pi_list (pv 0)) (pg_name (i := 2) nd rfl (Or.inl rfl)) (pss_cons (ps_if (PW.pt (pw_or (pt_not (pt_val (pe_callB call_isi (by rfl) T.z_isinstance (by decide +kernel) (pa_cons (pv 2) (pa_cons (pe_ty "tuple" (by rfl) T.z_tuple (by decide +kernel)) pa_nil))))) (pw_or (pt_cmpR op_ne (pe_callB call_len (by rfl) T.z_len PySem.boot_len (pa_cons (pv 2) pa_nil)) pe_int (nomark _)) (pw_or (pt_not (pt_val (pe_callB call_isi (by rfl) T.z_isinstance (by decide +kernel) (pa_cons (pe_ix ix_tup (pv 2) pe_int (fun _ _ => rfl)) (pa_cons (pe_ty "tuple" (by rfl) T.z_tuple (by decide +kernel)) pa_nil))))) (pw_or1 (pt_cmpR op_ne (pe_callB call_len (by rfl) T.z_len PySem.boot_len (pa_cons (pe_ix ix_tup (pv 2) pe_int (fun _ _ => rfl)) pa_nil)) (pv 1) (nomark _))))))) (pss_one (ps_ret pe_bl)) pss_nil)
        (pss_one (ps_if (PW.pt (pw_or (pt_not (pt_val (pe_callB (cr_all rfl) (by rfl) T.z_all (by decide +kernel) (pa_cons (pe_lc (own := [("_law_power", 3)]) (g := gName 3) (by rfl) nd (pi_tup (pe_ix ix_tup (pv 2) pe_int (fun _ _ => rfl))) (blkOk_by (own := [("_law_power", 3)]) (N := N_is_poly) (sc := defScope s_is_poly) (by decide +kernel)) (fun _ _ _ _ _ => pg_name (i := 3) nd rfl (Or.inl rfl)) (fun _ _ _ _ _ => pts_nil) (fun _ _ _ _ _ => (pe_and (pe_call (G_whole.mono (by decide)) hr rfl T.m_whole T.F_whole.kp b_whole .nil pass0 (pa_cons (pv 3) pa_nil)) (pe_one (pe_cmpR op_ge (pv 3) pe_int (nomark _)))))) pa_nil)))) (pw_or (pt_not (pt_val (pe_call (G_whole.mono (by decide)) hr rfl T.m_whole T.F_whole.kp b_whole .nil pass0 (pa_cons (pe_ix ix_tup (pv 2) pe_int (fun _ _ => rfl)) pa_nil)))) (pw_or1 (pt_cmpR (op_eqD hr.units) (pe_ix ix_tup (pv 2) pe_int (fun _ _ => rfl)) pe_int (nomark _)))))) (pss_one (ps_ret pe_bl)) pss_nil))))
      (pss_one (ps_ret (pe_callB (cr_all rfl) (by rfl) T.z_all (by decide +kernel) (pa_cons (pe_lc (own := [("_law_k", 4)]) (g := gName 4) (by rfl) nd (pi_range1 (by rfl) T.z_range (pa_cons (pe_op op_sub (pe_callB call_len (by rfl) T.z_len PySem.boot_len (pa_cons (pv 0) pa_nil)) pe_int) pa_nil)) (blkOk_by (own := [("_law_k", 4)]) (N := N_is_poly) (sc := defScope s_is_poly) (by decide +kernel)) (fun _ _ _ _ _ => pg_name (i := 4) nd rfl (Or.inl rfl)) (fun _ _ _ _ _ => pts_nil) (fun _ _ _ _ _ => (pe_cmpR (r := rGtT K) (op_gtT hr.units) (pe_ix (r := rIxT K) ix_tup (pe_ix (r := rIxL K) ix_list (pv 0) (pv 4) (fun _ _ => rfl)) pe_int (fun _ _ => rfl)) (pe_ix (r := rIxT K) ix_tup (pe_ix (r := rIxL K) ix_list (pv 0) (pe_op op_add (pv 4) pe_int) (fun _ _ => rfl)) pe_int (fun _ _ => rfl)) (nomark _)))) pa_nil)))))), ?_⟩
  have lx := tm.length
  refine ⟨_, rfl, .ref a, "list", "list", rfl, .inl ⟨rfl, _, ha⟩, .inr (.inr (.inl rfl)), _, rfl, iteF ?_⟩
  refine ⟨_, rfl, a, rfl, ⟨_, ha⟩, ?_⟩
  refine for_list (xs := xs) (fun i σ H2 => ∃ (u v w : Option V), σ = [some (.ref a), some (.int m), u, v, w] ∧ Same H H2) ⟨none, none, none, rfl, .refl _⟩ (fun i σ H2 _ h => by obtain ⟨u, v, w, _, s2⟩ := h; exact s2.seqL ha) ?_ ?_
  · rintro i z σ H2 ez ⟨u, v, w, rfl, s2⟩
    obtain ⟨t, et, tt⟩ := tm.get ez
    obtain ⟨lt, nz⟩ := cn.ok t (List.mem_of_getElem? et)
    obtain ⟨p, c, rfl, hp, hc⟩ := tt.same s2
    refine ⟨_, rfl, .ref p, "tuple", "tuple", rfl, .inr ⟨rfl, _, SqT.of hp⟩, .inr (.inr (.inr rfl)), _, rfl, iteF ?_⟩
    refine ⟨_, rfl, .ref p, 2, rfl, .inr ⟨_, SqT.of hp, rfl⟩, rfl, _, rfl, ?_⟩
    rw [decide_eq_true (show V.int ((2 : Nat) : Int) = V.int 2 from rfl)]
    refine iteF ?_
    refine ⟨_, rfl, p, _, _, .ref c, rfl, rfl, SqT.of hp, atI_nat (j := 0) rfl, .ref c, "tuple", "tuple", rfl, .inr ⟨rfl, _, SqT.of hc⟩, .inr (.inr (.inr rfl)), _, rfl, iteF ?_⟩
    refine ⟨_, rfl, p, _, _, .ref c, rfl, rfl, SqT.of hp, atI_nat (j := 0) rfl, .ref c, m, rfl, .inr ⟨_, SqT.of hc, by rw [natsV_len, lt]⟩, _, rfl, rfl, _, rfl, ?_⟩
    rw [decide_eq_true (show V.int (m : Int) = V.int (m : Int) from rfl)]
    refine iteF ?_
    refine ⟨_, rfl, p, _, _, .ref c, rfl, rfl, SqT.of hp, atI_nat (j := 0) rfl, c, rfl, ⟨_, SqT.of hc⟩, fun D hD => ?_⟩
    have hD : H2 D = none := hD
    refine lc_tupD (K := K) (a := c) (zs := natsV t.1) (oneH D) (oneH_at D) (fun _ => true) (fun _ => .bool true) hD (SqT.of hc) (by rw [natsV_len]; omega) ?_ ?_
    · intro j y H3 Kk' Nx' hy s3 hF3 hK' hN'
      obtain ⟨n, en, rfl⟩ := natsV_get hy
      refine ⟨rfl, yes_of ⟨_, rfl, .int (n : Int), "int", rfl, rfl, ?_⟩⟩
      refine ⟨_, rfl, iteT ⟨_, rfl, _, _, rfl, rfl, hK' rfl _ _ (.refl _) ?_⟩⟩
      show Dp K _ (V.bl (decide ((0 : Int) ≤ (n : Int)))) (.bool true)
      rw [decide_eq_true (show (0 : Int) ≤ (n : Int) by omega)]
      exact .bl _
    · intro H3 zs s3 hy dp3
      rw [filter_true, map_const_true] at dp3
      rw [dp3.bls] at hy
      refine ⟨D, _, rfl, SqL.of hy, ?_⟩
      rw [all_rep]
      refine ⟨_, rfl, iteF ?_⟩
      have hp3 := s3 _ _ hp
      refine ⟨_, rfl, p, _, _, .int t.2, rfl, rfl, SqT.of hp3, atI_nat (j := 1) rfl, .int t.2, "int", rfl, rfl, _, rfl, iteF ?_⟩
      refine ⟨_, rfl, p, _, _, .int t.2, rfl, rfl, SqT.of hp3, atI_nat (j := 1) rfl, .int t.2, .int 0, .int _, .int _, rfl, rfl, _, rfl, ?_⟩
      rw [show PyData.eqv (.int t.2) (.int 0) = false by show (t.2 == 0) = false; simpa using nz]
      exact iteF ⟨_, _, _, rfl, s2.trans s3⟩
  · rintro σ H2 ⟨u, v, w, rfl, s2⟩
    have ha2 := s2.seqL ha
    have tm2 := tm.same s2
    refine ⟨_, rfl, .ref a, ts.length, rfl, .inl ⟨_, ha2, lx.symm⟩, _, _, rfl, rfl, _, rfl, by omega, by omega, fun D hD => ?_⟩
    have hD : H2 D = none := hD
    show ∃ W : Nat → Nat → Hp → Prop, _
    rw [show ((ts.length : Int) - 1).toNat = ts.length - 1 by omega]
    refine lc_range (lo := 0) (n := ts.length - 1) (fun j H3 => j ≤ ts.length - 1 ∧ Same H2 H3 ∧ H3 D = some (.lst ((List.replicate j true).map V.bl))) ⟨Nat.zero_le _, same_new hD, upd_same⟩ ?_ ?_
    · rintro j H3 hj ⟨_, s3, h3⟩
      have ha3 := s3.seqL ha2
      obtain ⟨x, ex⟩ := get_some (show j < xs.length by omega)
      obtain ⟨y, ey⟩ := get_some (show j + 1 < xs.length by omega)
      have tm3 := tm2.same s3
      obtain ⟨t, et, tt⟩ := tm3.get ex
      obtain ⟨t', et', tt'⟩ := tm3.get ey
      obtain ⟨p, c, rfl, hp, hc⟩ := tt
      obtain ⟨p', c', rfl, hp', hc'⟩ := tt'
      have l1 := (cn.ok t (List.mem_of_getElem? et)).1
      have l2 := (cn.ok t' (List.mem_of_getElem? et')).1
      have hj1 : j < ts.length := by omega
      have hj2 : j + 1 < ts.length := by omega
      have e1 : ts[j] = t := by rw [List.getElem?_eq_getElem hj1] at et; exact Option.some.inj et
      have e2 : ts[j + 1] = t' := by rw [List.getElem?_eq_getElem hj2] at et'; exact Option.some.inj et'
      have fall := List.pairwise_iff_getElem.mp cn.fall j (j + 1) hj1 hj2 (by omega)
      rw [e1, e2] at fall
      have ne : t.1 ≠ t'.1 := fun z => by
        have a1 : (ts.map (·.1))[j]? = some t.1 := by rw [List.getElem?_map, et]; rfl
        have a2 : (ts.map (·.1))[j + 1]? = some t.1 := by rw [List.getElem?_map, et', z]; rfl
        have := (List.getElem?_inj (List.getElem?_eq_some_iff.mp a1).1 cn.nd).mp (a1.trans a2.symm)
        omega
      have gt := lex_gt (l1.trans l2.symm) fall ne
      refine ⟨rfl, yes_of ?_⟩
      refine ⟨_, rfl, _, rfl, a, _, _, .ref p, rfl, rfl, ha3, at_of (j := j) (by omega) ex, p, _, _, .ref c, rfl, rfl, SqT.of hp, atI_nat (j := 0) rfl, _, rfl, _, rfl, _, _, rfl, rfl, a, _, _, .ref p', rfl, rfl, ha3, at_of (j := j + 1) (by omega) ey, p', _, _, .ref c', rfl, rfl, SqT.of hp', atI_nat (j := 0) rfl, c, c', toI t.1, toI t'.1, rfl, rfl, SqT.of (by rw [← natsV_toI]; exact hc), SqT.of (by rw [← natsV_toI]; exact hc'), _, h3, small5 (by rw [List.length_map, List.length_replicate]; omega), by omega, same_upd s3 hD, ?_⟩
      rw [upd_same, gt, List.replicate_succ', List.map_append]; rfl
    · rintro H3 ⟨_, s3, h3⟩
      refine ⟨D, _, rfl, SqL.of h3, ?_⟩
      rw [all_rep]
      exact q _ (s2.trans s3)
theorem cut_two {pre post : List Nat} {x y k : Nat} (h : pre.length = k) : cutV (natsV (pre ++ x :: y :: post)) (some (k : Int)) (some ((k : Int) + 2)) = [.int (x : Int), .int (y : Int)] := by
  unfold cutV HT.sIx
  dsimp only
  rw [if_neg (by omega), if_neg (by omega)]
  have l : (natsV (pre ++ x :: y :: post)).length = k + 2 + post.length := by rw [natsV_len, List.length_append, List.length_cons, List.length_cons]; omega
  rw [l, show ((k : Int) + 2).toNat = k + 2 by omega, show ((k : Int)).toNat = k by omega, Nat.min_eq_left (by omega), Nat.min_eq_left (by omega), show k + 2 - k = 2 by omega, natsV_dropW]
  rw [show (pre ++ x :: y :: post).drop k = x :: y :: post by rw [← h, List.drop_left]]
  rfl
theorem divP_take {k : Nat} {ts : Pol} {i : Nat} {t : List Nat × Int} (h : ts[i]? = some t) : divP k (ts.take (i + 1)) = divP k (ts.take i) ++ divT k t := by
  unfold divP
  rw [take_snoc h, List.flatMap_append]; simp
theorem divT_len {k m : Nat} {t : List Nat × Int} (hk : k + 2 ≤ m) (hm : t.1.length = m) (hs : t.1.sum ≤ 20) : (divT k t).length ≤ 20 := by
  obtain ⟨p, a, b, q, et, hp, hq⟩ := split_at hm hk
  obtain ⟨t1, c⟩ := t
  have et : t1 = p ++ a :: b :: q := et
  subst et
  rw [divT_eq c hp, List.length_map, List.length_range]
  simp only [List.sum_append, List.sum_cons] at hs
  omega
theorem divP_lenL {k m : Nat} (hk : k + 2 ≤ m) : ∀ {ts : Pol}, (∀ t ∈ ts, t.1.length = m) → (∀ t ∈ ts, t.1.sum ≤ 20) → (divP k ts).length ≤ 20 * ts.length
  | [], _, _ => Nat.le_refl _
  | t :: r, hm, hs => by
    have h1 := divT_len hk (hm t List.mem_cons_self) (hs t List.mem_cons_self)
    have h2 := divP_lenL hk (ts := r) (fun u hu => hm u (List.mem_cons_of_mem _ hu)) fun u hu => hs u (List.mem_cons_of_mem _ hu)
    show (divT k t ++ divP k r).length ≤ _
    rw [List.length_append, List.length_cons]; omega
def sp_divided (K : PySem.W.Frag) : Sp := fun vs H Q _ => ∃ (a : Addr) (k m : Nat) (xs : List V) (ts : Pol), vs = [.ref a, .int k] ∧ SqL K H a xs ∧ Tms H xs ts ∧ (∀ t ∈ ts, t.1.length = m) ∧ (∀ t ∈ ts, t.1.sum ≤ 20) ∧ k + 2 ≤ m ∧ m ≤ 100 ∧ ts.length ≤ 1900 ∧
  ∀ (l : Addr) (ws : Pol) (H' : Hp), Same H H' → H l = none → PL H' l ws → Can m ws → (∀ ns, cf ws ns = cf (divP k ts) ns) → Q (.ref l) H'
theorem ok_divided (T : Txt K mg A) : FnOk P w K mg base (CXq gq) 2 A.divided A.fd_divided P_divided (sp_divided K) := by
  have nd := sc_divided.nd
  have G_gathered : FnOk P w K mg base (CXq gq) 1 A.gathered A.fd_gathered P_gathered (sp_gath K) := ok_gathered T
  have b_gathered := b_gathered T
  refine T.F_divided.okc sc_divided (fun vs H Q E h => ?_) (fun A' outer s H vs Q E hr h => ?_)
  · obtain ⟨a, k, m, xs, ts, rfl, _⟩ := h; rfl
  obtain ⟨a, k, m, xs, ts, rfl, ha, tm, hm, hsum, hk, m9, hz, q⟩ := h
  have hu := hu_of hr
  refine ⟨_, (pss_cons (ps_set (i := 2) nd rfl (Or.inl rfl) pe_dnewT)
      (pss_cons (ps_for PassesOwn.never rfl (pi_list (pv 0)) (pg_tup (by rfl) (pgs_cons (pg_name (i := 3) nd rfl (Or.inl rfl)) (pgs_cons (pg_name (i := 4) nd rfl (Or.inl rfl)) pgs_nil))) (pss_cons (ps_asg (pe_slice sl_tupK (pv 3) (po_some (pv 1)) (po_some (pe_op op_add (pv 1) pe_int))) (pg_tup (by rfl) (pgs_cons (pg_name (i := 5) nd rfl (Or.inl rfl)) (pgs_cons (pg_name (i := 6) nd rfl (Or.inl rfl)) pgs_nil))))
        (pss_one (ps_for PassesOwn.never rfl (pi_range1 (by rfl) T.z_range (pa_cons (pe_callB call_abs (by rfl) T.z_abs (by decide +kernel) (pa_cons (pe_op op_sub (pv 5) (pv 6)) pa_nil)) pa_nil)) (pg_name (i := 7) nd rfl (Or.inl rfl)) (pss_cons (ps_set (i := 8) nd rfl (Or.inl rfl) (pe_op op_catK (pe_op op_catK (pe_slice sl_tupK (pv 3) po_none (po_some (pv 1))) (pe_tup (pa_cons (pe_op op_sub (pe_op op_sub (pe_callB (call_max2 rfl) (by rfl) T.z_max (by decide +kernel) (pa_cons (pv 5) (pa_cons (pv 6) pa_nil))) pe_int) (pv 7)) (pa_cons (pe_op op_add (pe_callB (call_min2 rfl) (by rfl) T.z_min (by decide +kernel) (pa_cons (pv 5) (pa_cons (pv 6) pa_nil))) (pv 7)) pa_nil)))) (pe_slice sl_tupK (pv 3) (po_some (pe_op op_add (pv 1) pe_int)) po_none)))
          (pss_one (ps_dput hu (pv 2) (pv 8) (pe_op op_add (pe_dget2 hu (pv 2) (pv 8) pe_int ⟨rfl, rfl, rfl, rfl⟩) (pe_ix ix_list (pe_lst (pa_cons (pv 4) (pa_cons (pe_op op_sub pe_int (pv 4)) pa_nil))) (pe_callTy call_int1 (by rfl) T.z_int (by decide +kernel) (pa_cons (pe_cmpR op_lt (pv 5) (pv 6) (nomark _)) pa_nil)) (fun _ _ => rfl))) rfl)))))))
      (pss_one (ps_ret (pe_call (G_gathered.mono (by decide)) hr rfl T.m_gathered T.F_gathered.kp b_gathered .nil pass0 (pa_cons (pv 2) pa_nil)))))), ?_⟩
  intro d hd
  have hd0 : H d = none := hd
  have s1 := same_new (o := .dT []) hd
  have lx : xs.length = ts.length := tm.length
  refine ⟨_, rfl, a, rfl, ⟨_, s1.seqL ha⟩, ?_⟩
  refine for_list (xs := xs) (fun i σ H2 => ∃ (u1 u2 u3 u4 u5 u6 : Option V), σ = [some (.ref a), some (.int k), some (.ref d), u1, u2, u3, u4, u5, u6] ∧ Same H H2 ∧ H2 d = some (.dT (dictV (addUp [] (divP k (ts.take i)))))) ⟨none, none, none, none, none, none, rfl, s1, upd_same⟩ (fun i σ H2 _ h => by obtain ⟨_, _, _, _, _, _, _, s2, _⟩ := h; exact s2.seqL ha) ?_ ?_
  · rintro i z σ H2 ez ⟨u1, u2, u3, u4, u5, u6, rfl, s2, hd2⟩
    obtain ⟨t, et, tt⟩ := tm.get ez
    have hi : i < ts.length := (List.getElem?_eq_some_iff.mp et).1
    have mt := List.mem_of_getElem? et
    obtain ⟨p, c, rfl, hp, hc⟩ := tt.same s2
    obtain ⟨pre, x, y, post, e1, hpre, hpost⟩ := split_at (hm t mt) hk
    obtain ⟨t1, n⟩ := t
    have e1 : t1 = pre ++ x :: y :: post := e1
    subst e1
    have hc : H2 c = some (.tup (natsV (pre ++ x :: y :: post))) := hc
    have hxy : x + y ≤ 20 := by have := hsum _ mt; simp only [List.sum_append, List.sum_cons] at this; omega
    refine ⟨p, _, rfl, SqT.of hp, rfl, _, _, rfl, _, _, rfl, rfl, ?_⟩
    refine ⟨_, rfl, _, rfl, _, rfl, _, rfl, _, _, rfl, rfl, _, rfl, c, _, rfl, hc, fun p1 H3 s3 h1 => ?_⟩
    rw [cut_two hpre] at h1
    refine ⟨p1, _, rfl, SqT.of h1, rfl, _, _, rfl, _, _, rfl, rfl, ?_⟩
    have s23 := s2.trans s3
    have hc3 := s3 _ _ hc
    have hd3 := s3 _ _ hd2
    have eT := divT_eq (k := k) (pre := pre) (post := post) (a := x) (b := y) n hpre
    have lT := divT_len hk (hm _ mt) (hsum _ mt)
    have eab : (if (x : Int) - (y : Int) < 0 then -((x : Int) - (y : Int)) else (x : Int) - (y : Int)) = ((max x y - min x y : Nat) : Int) := by split <;> omega
    refine ⟨_, rfl, _, rfl, _, _, rfl, rfl, _, rfl, _, rfl, ?_⟩
    rw [eab]
    refine ⟨by omega, by omega, ?_⟩
    show ∃ W : Nat → Nat → L2.St → Hp → Prop, _
    rw [Int.toNat_natCast]
    have lTs : (divT k (pre ++ x :: y :: post, n)).length = max x y - min x y := by rw [eT, List.length_map, List.length_range]
    refine for_range (lo := 0) (n := max x y - min x y) (fun j σ H4 => ∃ (u5 u6 : Option V), σ = [some (.ref a), some (.int k), some (.ref d), some (.ref c), some (.int n), some (.int x), some (.int y), u5, u6] ∧ Same H H4 ∧ H4 c = some (.tup (natsV (pre ++ x :: y :: post))) ∧ H4 d = some (.dT (dictV (addUp [] (divP k (ts.take i) ++ (divT k (pre ++ x :: y :: post, n)).take j))))) ⟨_, _, rfl, s23, hc3, by rw [List.take_zero, List.append_nil]; exact hd3⟩ ?_ ?_
    · rintro j σ H4 hj ⟨u5, u6, rfl, s4, hc4, hd4⟩
      have ej : (divT k (pre ++ x :: y :: post, n))[j]? = some (pre ++ (max x y - 1 - j) :: (min x y + j) :: post, if x < y then -n else n) := by
        rw [eT, List.getElem?_map, List.getElem?_range hj]; rfl
      refine ⟨_, rfl, _, rfl, _, rfl, c, _, rfl, hc4, fun q1 H5 s5 z1 => ?_⟩
      rw [cutPre hpre] at z1
      refine ⟨_, rfl, _, rfl, _, _, rfl, _, _, rfl, rfl, _, rfl, _, _, rfl, rfl, _, rfl, _, rfl, _, _, rfl, _, rfl, _, _, rfl, rfl, (by show 2 ≤ sizeLine; decide), fun q2 hq2 => ?_⟩
      have emx : (if (y : Int) > (x : Int) then (y : Int) else (x : Int)) - 1 - (0 + (j : Int)) = ((max x y - 1 - j : Nat) : Int) := by split <;> omega
      have emn : (if (y : Int) < (x : Int) then (y : Int) else (x : Int)) + (0 + (j : Int)) = ((min x y + j : Nat) : Int) := by split <;> omega
      show rCatK (V.ref q1) (V.ref q2) (upd H5 q2 (.tup [.int ((if (y : Int) > (x : Int) then (y : Int) else (x : Int)) - 1 - (0 + (j : Int))), .int ((if (y : Int) < (x : Int) then (y : Int) else (x : Int)) + (0 + (j : Int)))])) _
      rw [emx, emn]
      have s7 := same_new (o := .tup [.int ((max x y - 1 - j : Nat) : Int), .int ((min x y + j : Nat) : Int)]) hq2
      refine ⟨q1, q2, _, _, rfl, rfl, s7 _ _ z1, upd_same, le_size (by rw [natsV_len]; show pre.length + 2 ≤ 1000; omega), fun q3 H8 s8 z3 => ?_⟩
      have s58 := s5.trans (s7.trans s8)
      refine ⟨_, rfl, _, rfl, _, _, rfl, rfl, _, rfl, c, _, rfl, s58 _ _ hc4, fun q4 H9 s9 z4 => ?_⟩
      rw [show pre ++ x :: y :: post = (pre ++ [x, y]) ++ post by simp, cutPost (k := k + 2) (by simp; omega) (by omega)] at z4
      refine ⟨q3, q4, _, _, rfl, rfl, s9 _ _ z3, z4, le_size (by rw [List.length_append, natsV_len, natsV_len]; show pre.length + 2 + post.length ≤ 1000; omega), fun q5 Ha sa z5 => ?_⟩
      have ekey : natsV pre ++ [V.int ((max x y - 1 - j : Nat) : Int), V.int ((min x y + j : Nat) : Int)] ++ natsV post = natsV (pre ++ (max x y - 1 - j) :: (min x y + j) :: post) := by
        unfold natsV; simp
      rw [ekey] at z5
      have s5a := s58.trans (s9.trans sa)
      have hda := s5a _ _ hd4
      have nd' := addUp_nodup (divP k (ts.take i) ++ (divT k (pre ++ x :: y :: post, n)).take j) [] List.nodup_nil
      have ll : (addUp [] (divP k (ts.take i) ++ (divT k (pre ++ x :: y :: post, n)).take j)).length ≤ 40000 := by
        have h1 := addUp_len (divP k (ts.take i) ++ (divT k (pre ++ x :: y :: post, n)).take j) []
        rw [List.length_append, List.length_take, List.length_nil] at h1
        have h2 := divP_lenL hk (ts := ts.take i) (fun t ht => hm t (List.mem_of_mem_take ht)) (fun t ht => hsum t (List.mem_of_mem_take ht))
        rw [List.length_take] at h2
        omega
      refine ⟨_, rfl, d, rfl, .inr ⟨_, .inl hda⟩, _, rfl, _, DGet.t (k := keyW (pre ++ (max x y - 1 - j) :: (min x y + j) :: post)) hda (by rw [← keyW_V]; exact z5), ?_⟩
      refine ⟨_, rfl, _, rfl, _, _, rfl, rfl, (by show 2 ≤ sizeLine; decide), fun L hL => ?_⟩
      have tL := same_new (o := .lst [.int n, .int (0 - n)]) hL
      refine ⟨_, rfl, _, rfl, _, _, rfl, rfl, .inr ⟨_, rfl, ?_⟩⟩
      have hat : atI [V.int n, V.int (0 - n)] (if decide ((x : Int) < (y : Int)) = true then 1 else 0) = some (.int (if x < y then -n else n)) := by
        by_cases h : x < y
        · rw [if_pos (by simpa using h), if_pos h, show (-n : Int) = 0 - n by omega]; rfl
        · rw [if_neg (by simpa using h), if_neg h]; rfl
      refine ⟨L, _, _, .int (if x < y then -n else n), rfl, rfl, SqL.of upd_same, hat, ?_⟩
      have hdL := tL _ _ hda
      refine ⟨_, _, dict_get0 nd' (pre ++ (max x y - 1 - j) :: (min x y + j) :: post), rfl, _, rfl, _, rfl, d, _, rfl, DPut.t (k := keyW (pre ++ (max x y - 1 - j) :: (min x y + j) :: post)) hdL (by rw [← keyW_V]; exact tL _ _ z5) (small5 (by rw [dict_len]; omega)), ?_⟩
      refine ⟨_, _, rfl, same_upd (s4.trans (s5a.trans tL)) hd0, ?_, ?_⟩
      · have hcL := tL _ _ (s5a _ _ hc4)
        rw [upd_ne (fun z => by rw [z] at hcL; rw [hdL] at hcL; cases hcL)]; exact hcL
      · rw [upd_same, dict_put, take_snoc ej, ← List.append_assoc, addUp_snoc]
    · rintro σ H4 ⟨u5, u6, rfl, s4, hc4, hd4⟩
      rw [← lTs, List.take_length, ← divP_take et] at hd4
      exact ⟨_, _, _, _, _, _, rfl, s4, hd4⟩
  · rintro σ H2 ⟨u1, u2, u3, u4, u5, u6, rfl, s2, hd2⟩
    rw [lx, List.take_length] at hd2
    have ll := addUp_len (divP k ts) []
    have l2 := divP_lenL hk hm hsum
    rw [List.length_nil, Nat.zero_add] at ll
    refine ⟨_, rfl, d, addUp [] (divP k ts), m, rfl, hd2, addUp_nodup _ [] List.nodup_nil, fun t ht => ?_, by omega, fun l rs us H' s' hl hr tr cn hc => q l us H' (s2.trans s') (s2.free hl) ⟨rs, hr, tr⟩ cn fun ns => ?_⟩
    · exact addUp_keys (m := m) (divP k ts) [] (fun t ht => (divP_mem hk hm ht).1) (fun ns hn => nomatch hn) t.1 (List.mem_map.mpr ⟨t, ht, rfl⟩)
    · rw [hc, addUp_cf ns (divP k ts) [] List.nodup_nil]
      show (0 : Int) + _ = _
      omega
end
end K32

set_option Elab.async false
set_option linter.all false
set_option maxRecDepth 100000
set_option maxHeartbeats 4000000
namespace K32
open PySem L2
section
variable {P : Program} {w : World} {K : PySem.W.Frag} {mg : Str → Option Value} {base : Heap} {A : Adr} {gq : Array GenState → Drawn → Prop}
theorem addP_unit {m k : Nat} : ∀ {l : List Nat}, l.length = m → k < m → addP (unitN m k) l = upAt k l := fun {l} hl hk => by
  subst hl
  obtain ⟨pre, x, post, e, hp, hq⟩ := split1 (ns := l) hk
  subst e
  rw [upAt_eq hp]
  refine List.ext_getElem? fun i => ?_
  unfold addP unitN
  rw [List.getElem?_zipWith, List.getElem?_map]
  by_cases hi : i < (pre ++ x :: post).length
  · rw [List.getElem?_range hi]
    by_cases h1 : i < k
    · rw [List.getElem?_append_left (by omega), List.getElem?_append_left (by omega), List.getElem?_eq_getElem (by omega)]
      simp [show i ≠ k by omega]
    · by_cases h2 : i = k
      · subst h2
        rw [List.getElem?_append_right (by omega), List.getElem?_append_right (by omega), hp, Nat.sub_self]
        simp [Nat.add_comm]
      · rw [List.getElem?_append_right (by omega), List.getElem?_append_right (by omega), hp, show i - k = (i - k - 1) + 1 by omega]
        rw [List.length_append, List.length_cons] at hi
        rw [List.getElem?_cons_succ, List.getElem?_cons_succ, List.getElem?_eq_getElem (by omega)]
        simp [h2]
  · rw [List.getElem?_eq_none (l := List.range _) (by rw [List.length_range]; omega), List.getElem?_eq_none (l := pre ++ x :: post) (by omega)]
    rw [List.length_append, List.length_cons] at hi
    rw [List.getElem?_eq_none (by rw [List.length_append, List.length_cons]; omega)]
    rfl
theorem mul_up {m k : Nat} (hk : k < m) : ∀ {ts : Pol}, (∀ t ∈ ts, t.1.length = m) → mulP [(unitN m k, 1)] ts = ts.map (upT k) := fun {ts} hm => by
  show mulT (unitN m k, 1) ts ++ [] = _
  rw [List.append_nil]
  unfold mulT
  refine List.map_congr_left fun t ht => ?_
  show (addP (unitN m k) t.1, 1 * t.2) = (upAt k t.1, t.2)
  rw [addP_unit (hm t ht) hk, Int.one_mul]
theorem small_div {k m w B : Nat} (hk : k + 2 ≤ m) {ts : Pol} (hm : ∀ t ∈ ts, t.1.length = m) (hs : Small w B ts) : Small w B (divP k ts) := fun u hu => by
  obtain ⟨t, ht, hu'⟩ := List.mem_flatMap.mp hu
  have h1 := (divT_mem hk (hm t ht) hu').2
  have h2 := hs t ht
  refine ⟨by omega, ?_⟩
  obtain ⟨p, a, b, q, et, hp, hq⟩ := split_at (hm t ht) hk
  obtain ⟨t1, c⟩ := t
  have et : t1 = p ++ a :: b :: q := et
  subst et
  rw [divT_eq c hp] at hu'
  obtain ⟨s, hs', rfl⟩ := List.mem_map.mp hu'
  show (if a < b then -c else c).natAbs ≤ B
  have h2 := h2.2
  split
  · rw [Int.natAbs_neg]; exact h2
  · exact h2
theorem small_up {k m w B : Nat} (hk : k < m) {ts : Pol} (hm : ∀ t ∈ ts, t.1.length = m) (hs : Small w B ts) : Small (w + 1) B (ts.map (upT k)) := fun t ht => by
  refine ⟨up_sum hk hm (fun t ht => (hs t ht).1) t ht, ?_⟩
  obtain ⟨u, hu, rfl⟩ := List.mem_map.mp ht
  exact (hs u hu).2
theorem pow_mul {a b c : Nat} (h : a ≤ 2 ^ b) : a * 2 ^ c ≤ 2 ^ (b + c) := by rw [Nat.pow_add]; exact Nat.mul_le_mul_right _ h
def alongW (lift : Bool) (ks : List Nat) (ts : Pol) : Pol := if lift then raiW ks ts else divW ks ts
def sp_along (K : PySem.W.Frag) : Sp := fun vs H Q _ => ∃ (a b : Addr) (m w : Nat) (ts : Pol) (ks : List Nat) (lift : Bool), vs = [.int m, .ref a, .ref b, .bl lift] ∧ PL H a ts ∧ Can m ts ∧ Small w (2 ^ 120) ts ∧ w ≤ 8 ∧ 1 ≤ m ∧ m ≤ 5 ∧ SqL K H b (natsV ks) ∧ ks.length ≤ 30 ∧ (∀ k ∈ ks, k + 2 ≤ m) ∧
  ∀ (l : Addr) (ws : Pol) (H' : Hp), Same H H' → PL H' l ws → Can m ws → (∀ t ∈ ws, t.1.sum ≤ w) → (∀ ns, cf ws ns = cf (alongW lift ks ts) ns) → Q (.ref l) H'
theorem ok_along (T : Txt K mg A) : FnOk P w K mg base (CXq gq) 3 A.along A.fd_along P_along (sp_along K) := by
  have nd := sc_along.nd
  have G_divided : FnOk P w K mg base (CXq gq) 2 A.divided A.fd_divided P_divided (sp_divided K) := ok_divided T
  have G_times : FnOk P w K mg base (CXq gq) 2 A.times A.fd_times P_times (sp_times K) := ok_times T
  have G_unknown : FnOk P w K mg base (CXq gq) 1 A.unknown A.fd_unknown P_unknown sp_unknown := ok_unknown T
  have b_divided := b_divided T
  have b_times := b_times T
  have b_unknown := b_unknown T
  refine T.F_along.okc sc_along (fun vs H Q E h => ?_) (fun A' outer s H vs Q E hr h => ?_)
  · obtain ⟨a, b, m, w, ts, ks, lift, rfl, _⟩ := h; rfl
  obtain ⟨a, b, m, w, ts, ks, lift, rfl, pa, cn, sm, w8, m1, m5, hb, hz, hk, q⟩ := h
  refine ⟨_, (pss_cons (ps_set (i := 4) nd rfl (Or.inl rfl) (pv 1))
      (pss_cons (ps_for PassesOwn.never rfl (pi_reversed (by rfl) T.z_reversed (pa_cons (pv 2) pa_nil)) (pg_name (i := 5) nd rfl (Or.inl rfl)) (pss_cons (ps_if (pt_val (pv 3)) (pss_one (ps_set (i := 4) nd rfl (Or.inl rfl) (pe_call (G_times.mono (by decide)) hr rfl T.m_times T.F_times.kp b_times .nil pass0 (pa_cons (pe_call (G_unknown.mono (by decide)) hr rfl T.m_unknown T.F_unknown.kp b_unknown .nil pass0 (pa_cons (pv 0) (pa_cons (pv 5) pa_nil))) (pa_cons (pv 4) pa_nil))))) pss_nil)
        (pss_one (ps_set (i := 4) nd rfl (Or.inl rfl) (pe_call (G_divided.mono (by decide)) hr rfl T.m_divided T.F_divided.kp b_divided .nil pass0 (pa_cons (pv 4) (pa_cons (pv 5) pa_nil)))))))
      (pss_one (ps_ret (pv 4))))), ?_⟩
  refine ⟨_, rfl, ?_⟩
  have lks := natsV_len ks
  refine ⟨_, rfl, b, _, rfl, hb, ?_⟩
  refine for_revL (K := K) (xs := natsV ks) (fun i σ H4 => ∃ (r : Addr) (us : Pol) (u : Option V), σ = [some (.int m), some (.ref a), some (.ref b), some (.bl lift), some (.ref r), u] ∧ Same H H4 ∧ PL H4 r us ∧ Can m us ∧ Small w (2 ^ (120 + 26 * i)) us ∧ ∀ ns, cf us ns = cf (alongW lift (ks.drop (ks.length - i)) ts) ns)
    ⟨a, ts, none, rfl, .refl _, pa, cn, sm, fun ns => by rw [Nat.sub_zero, List.drop_length]; unfold alongW; cases lift <;> rfl⟩ (fun i σ H4 _ h => by obtain ⟨_, _, _, _, s4, _⟩ := h; exact s4.seqL hb) ?_ ?_
  · rintro i z σ H4 hi ez ⟨r, us, u, rfl, s4, ⟨ys, hy, ty⟩, cu, su, hc⟩
    rw [lks] at hi ez
    obtain ⟨k, ek, rfl⟩ := natsV_get ez
    have hkm := hk k (List.mem_of_getElem? ek)
    have hum : ∀ t ∈ us, t.1.length = m := fun t h => (cu.ok t h).1
    have lu := le_len cu.nd hum (fun t h => (su t h).1) m5 w8
    apply join_st (G := fun σ HX => ∃ (r' : Addr) (vs : Pol), σ = [some (.int m), some (.ref a), some (.ref b), some (.bl lift), some (.ref r'), some (.int k)] ∧ Same H4 HX ∧ PL HX r' vs ∧ Can m vs ∧ Small (w + 1) (2 ^ (120 + 26 * i + 11)) vs ∧ vs.length ≤ 1300 ∧ ∀ ns, cf vs ns = cf (if lift then us.map (upT k) else us) ns)
    · intro tail
      rcases (Bool.eq_false_or_eq_true lift).symm with hl | hl
      · exact ⟨_, rfl, false, by rw [hl], iteF (tail _ _ ⟨r, us, rfl, .refl _, ⟨ys, hy, ty⟩, cu, su.mono (by omega) (Nat.pow_le_pow_right (by decide) (by omega)), lu, fun ns => by rw [hl]; rfl⟩)⟩
      · refine ⟨_, rfl, true, by rw [hl], iteT ?_⟩
        refine ⟨_, rfl, _, rfl, m, k, rfl, by omega, fun l1 r1 H1 s1 hl1 hr1 tr1 => ?_⟩
        have tus := ty.same s1
        refine ⟨_, rfl, l1, r, m, r1, ys, [(unitN m k, 1)], us, rfl, SqL.of hr1, SqL.of (s1 _ _ hy), tr1, tus, fun t h => by rw [List.mem_singleton.mp h]; exact unitN_len _ _, hum, fun t h => by rw [List.mem_singleton.mp h]; exact Nat.one_le_two_pow, fun t h => Nat.le_trans (su t h).2 (Nat.pow_le_pow_right (by decide) (by omega)), by omega, (by show 1 ≤ 4; decide), by omega, fun l2 r2 vs H2 s2 hl2 hr2 tr2 cv hv => ?_⟩
        have hv2 : ∀ ns, cf vs ns = cf (us.map (upT k)) ns := fun ns => by rw [hv, mul_up (by omega) hum]
        have lv : vs.length ≤ us.length := by have := cv.len hv2; rw [List.length_map] at this; exact this
        refine tail _ _ ⟨l2, vs, rfl, s1.trans s2, ⟨r2, hr2, tr2⟩, cv, ?_, by omega, fun ns => by rw [hv2, hl]; rfl⟩
        refine (cv.small hv2 (small_up (by omega) hum su)).mono (Nat.le_refl _) ?_
        rw [List.length_map, Nat.add_comm (120 + 26 * i) 11]
        exact pow_mul (by omega)
    rintro σ HX ⟨r', vs, rfl, sX, ⟨zs, hz', tz⟩, cv, sv, lv, hv⟩
    have hvm : ∀ t ∈ vs, t.1.length = m := fun t h => (cv.ok t h).1
    refine ⟨_, rfl, _, rfl, r', k, m, zs, vs, rfl, SqL.of hz', tz, hvm, fun t h => by have := (sv t h).1; omega, hkm, by omega, by omega, fun l6 ws H6 s6 hl6 pl6 cw hw => ?_⟩
    have hws : ∀ t ∈ ws, t.1.sum ≤ w := fun t ht => by
      have h1 := Can.sub cw hw t.1 (List.mem_map.mpr ⟨t, ht, rfl⟩)
      obtain ⟨v, hv', e⟩ := List.mem_map.mp h1
      obtain ⟨_, t', ht', es⟩ := divP_mem hkm hvm hv'
      have := (sv t' ht').1
      rw [← e]; omega
    refine ⟨l6, ws, _, rfl, s4.trans (sX.trans s6), pl6, cw, fun t ht => ⟨hws t ht, ?_⟩, fun ns => ?_⟩
    · refine Nat.le_trans ((cw.small hw (small_div hkm hvm sv)) t ht).2 ?_
      have l1 := divP_lenL hkm hvm fun t h => by have := (sv t h).1; omega
      rw [show 120 + 26 * (i + 1) = 15 + (120 + 26 * i + 11) by omega]
      exact pow_mul (by omega)
    · rw [hw, show ks.length - (i + 1) = ks.length - 1 - i by omega, cut_drop ek, show ks.length - 1 - i + 1 = ks.length - i by omega]
      rcases Bool.eq_false_or_eq_true lift with hl | hl
      · rw [hl] at hc hv ⊢
        show _ = cf (raiP k (raiW _ ts)) ns
        refine (div_congr hv ns).trans ?_
        exact rai_congr hc ns
      · rw [hl] at hc hv ⊢
        show _ = cf (divP k (divW _ ts)) ns
        exact (div_congr hv ns).trans (div_congr hc ns)
  · rintro σ H4 ⟨r, us, u, rfl, s4, pl, cu, su, hc⟩
    rw [lks, Nat.sub_self] at hc
    exact ⟨_, rfl, q r us H4 s4 pl cu (fun t h => (su t h).1) hc⟩
end
end K32

set_option Elab.async false
set_option linter.all false
set_option maxRecDepth 100000
set_option maxHeartbeats 4000000
namespace K32
open PySem L2
section
variable {P : Program} {w : World} {K : PySem.W.Frag} {mg : Str → Option Value} {base : Heap} {A : Adr} {gq : Array GenState → Drawn → Prop}
def Ly (n : Nat) (d : PyData) : Prop := d.canLay0 = true ∧ d.depth ≤ n
theorem ly_all {n : Nat} : ∀ {ds : List PyData}, (∀ d ∈ ds, Ly n d) → PyData.canLayAll0 ds = true ∧ PyData.depthAll ds ≤ n
  | [], _ => ⟨rfl, Nat.zero_le _⟩
  | d :: r, h => by
    obtain ⟨a, b⟩ := h d List.mem_cons_self
    obtain ⟨c, e⟩ := ly_all fun x hx => h x (List.mem_cons_of_mem _ hx)
    refine ⟨?_, ?_⟩
    · show (d.canLay0 && PyData.canLayAll0 r) = true
      rw [a, c]; rfl
    · show max d.depth (PyData.depthAll r) ≤ n
      omega
theorem ly_tup {n : Nat} {ds : List PyData} (h : ∀ d ∈ ds, Ly n d) : Ly (n + 1) (.tuple ds) := by
  obtain ⟨a, b⟩ := ly_all h
  exact ⟨by simpa only [PyData.canLay0] using a, by simp only [PyData.depth]; omega⟩
theorem ly_lst {n : Nat} {ds : List PyData} (h : ∀ d ∈ ds, Ly n d) : Ly (n + 1) (.list ds) := by
  obtain ⟨a, b⟩ := ly_all h
  exact ⟨by simpa only [PyData.canLay0] using a, by simp only [PyData.depth]; omega⟩
theorem Ly.mono {n m : Nat} {d : PyData} (h : Ly n d) (z : n ≤ m) : Ly m d := ⟨h.1, Nat.le_trans h.2 z⟩
theorem Ly.shaped {n : Nat} {d : PyData} (h : Ly n d) (z : n ≤ 60) : SeqAt.shaped d = true := by
  unfold SeqAt.shaped
  rw [h.1, Bool.true_and]
  exact decide_eq_true (Nat.le_trans h.2 (by omega))
theorem smN {n B : Nat} (h : n ≤ B) (hB : B < 10 ^ 60) : Sm 0 200 (.int ((n : Nat) : Int)) := Sm.int (Nat.lt_of_le_of_lt (show ((n : Int)).natAbs ≤ B by omega) hB)
theorem sm_poly {m : Nat} {ts : Pol} (hm : ∀ t ∈ ts, t.1.length = m) (m5 : m ≤ 5) (hs : Small 50 (10 ^ 55) ts) (hz : ts.length ≤ 16) : Sm 3 48016 (.list (ts.map termN)) := by
  refine Sm.list (k := 2) (m := 3000) (n := 16) (fun d hd => ?_) (by rw [List.length_map]; exact hz)
  obtain ⟨t, ht, rfl⟩ := List.mem_map.mp hd
  have lt := hm t ht
  obtain ⟨s1, s2⟩ := hs t ht
  refine (Sm.tuple (k := 1) (m := 1100) (n := 2) (fun d hd => ?_) (Nat.le_refl _)).mono (by decide) (by decide)
  simp only [List.mem_cons, List.not_mem_nil, or_false] at hd
  rcases hd with rfl | rfl
  · refine (Sm.tuple (k := 0) (m := 200) (n := 5) (fun d hd => ?_) (by simp [toI]; omega)).mono (by decide) (by decide)
    obtain ⟨i, hi, rfl⟩ := List.mem_map.mp hd
    unfold toI at hi
    obtain ⟨n, hn, rfl⟩ := List.mem_map.mp hi
    have : n ≤ t.1.sum := by
      have : ∀ (l : List Nat), n ∈ l → n ≤ l.sum := by
        intro l
        induction l with
        | nil => intro h; cases h
        | cons a r ih =>
          intro h
          rw [List.sum_cons]
          rcases List.mem_cons.mp h with rfl | h
          · omega
          · have := ih h; omega
      exact this _ hn
    exact smN (Nat.le_trans this s1) (by decide)
  · exact (Sm.int (Nat.lt_of_le_of_lt s2 (by decide))).mono (by decide) (by decide)
theorem sm_word {ks : List Nat} (hz : ks.length ≤ 30) (h : ∀ k ∈ ks, k ≤ 10) : Sm 1 6030 (.list ((toI ks).map PyData.int)) := by
  refine Sm.list (k := 0) (m := 200) (n := 30) (fun d hd => ?_) (by simp [toI]; exact hz)
  obtain ⟨i, hi, rfl⟩ := List.mem_map.mp hd
  obtain ⟨n, hn, rfl⟩ := List.mem_map.mp hi
  exact smN (h n hn) (by decide)
theorem sm_two {x y : PyData} {k m : Nat} (hx : Sm k m x) (hy : Sm k m y) : Sm (k + 1) ((m + 1) * 2) (.list [x, y]) := Sm.list (fun d hd => by
  simp only [List.mem_cons, List.not_mem_nil, or_false] at hd
  rcases hd with rfl | rfl <;> assumption) (Nat.le_refl _)
theorem ly_term (t : List Nat × Int) : Ly 2 (termN t) := ly_tup (n := 1) fun d hd => by
  simp only [List.mem_cons, List.not_mem_nil, or_false] at hd
  rcases hd with rfl | rfl
  · refine ly_tup (n := 0) fun d hd => ?_
    obtain ⟨k, _, rfl⟩ := List.mem_map.mp hd
    exact ⟨rfl, by simp [PyData.depth]⟩
  · exact ⟨rfl, by simp [PyData.depth]⟩
theorem shaped_two (a b : Pol) : SeqAt.shaped (.list [.list (a.map termN), .list (b.map termN)]) = true := (ly_lst (n := 3) fun d hd => by
  simp only [List.mem_cons, List.not_mem_nil, or_false] at hd
  have : ∀ a : Pol, Ly 3 (.list (a.map termN)) := fun a => ly_lst (n := 2) fun d hd => by
    obtain ⟨x, _, rfl⟩ := List.mem_map.mp hd
    exact ly_term x
  rcases hd with rfl | rfl
  · exact this a
  · exact this b).shaped (by decide)
theorem Tab.same {A : Adr} {H H' : Hp} (t : Tab A H) (s : Same H H') : Tab A H' := by
  first
  | exact s _ _ t
  | exact ⟨s _ _ t.1, s _ _ t.2⟩
  | exact ⟨s _ _ t.1, s _ _ t.2.1, s _ _ t.2.2⟩
  | exact ⟨s _ _ t.1, s _ _ t.2.1, s _ _ t.2.2.1, s _ _ t.2.2.2⟩
  | exact ⟨s _ _ t.1, s _ _ t.2.1, s _ _ t.2.2.1, s _ _ t.2.2.2.1, s _ _ t.2.2.2.2⟩
  | exact ⟨s _ _ t.1, s _ _ t.2.1, s _ _ t.2.2.1, s _ _ t.2.2.2.1, s _ _ t.2.2.2.2.1, s _ _ t.2.2.2.2.2⟩
def sp_good (K : PySem.W.Frag) (A : Adr) : Sp := fun vs H Q _ => ∃ (a b : Addr) (m : Nat) (ts : Pol) (ks : List Nat), vs = [.int m, .ref a, .ref b] ∧ PL H a ts ∧ Can m ts ∧ Small 7 (10 ^ 35) ts ∧ ts.length ≤ 16 ∧ 1 ≤ m ∧ m ≤ 5 ∧ SqL K H b (natsV ks) ∧ ks.length ≤ 30 ∧ (∀ k ∈ ks, k + 2 ≤ m) ∧ Tab A H ∧ ∀ H', Same H H' → Q (.bl true) H'
theorem ok_good (T : Txt K mg A) (B : Bas mg base A) : FnOk P w K mg base (CXr Bare) 7 A.good A.fd_good P_good (sp_good K A) := by
  have nd := sc_good.nd
  have G_along : FnOk P w K mg base (CXq Bare) 3 A.along A.fd_along P_along (sp_along K) := ok_along T
  have G_differed_by : FnOk P w K mg base CX0 6 A.differed_by A.fd_differed_by P_differed_by (sp_dby K A) := ok_differed_by T B
  have G_raised_by : FnOk P w K mg base CX0 6 A.raised_by A.fd_raised_by P_raised_by (sp_rby K A) := ok_raised_by T B
  have G_is_poly : FnOk P w K mg base (CXq Bare) 2 A.is_poly A.fd_is_poly P_is_poly (sp_is_poly K) := ok_is_poly T
  have b_along := b_along T
  have b_differed_by := b_differed_by T
  have b_raised_by := b_raised_by T
  have b_is_poly := b_is_poly T
  refine T.F_good.okc sc_good (fun vs H Q E h => ?_) (fun A' outer s H vs Q E hr h => ?_)
  · obtain ⟨a, b, m, ts, ks, rfl, _⟩ := h; rfl
  obtain ⟨a, b, m, ts, ks, rfl, pa, cn, sm, hz, m1, m5, hb, hzk, hk, ht, q⟩ := h
  refine ⟨_, (pss_cons (ps_set (i := 3) nd rfl (Or.inl rfl) (pe_callTy (call_strD trivial hr.units) (by rfl) T.z_str (by decide +kernel) (pa_cons (pe_lst (pa_cons (pv 1) (pa_cons (pv 2) pa_nil))) pa_nil)))
      (pss_cons (ps_set (i := 4) nd rfl (Or.inl rfl) (pe_lst (pa_cons (pe_call (G_along.mono (by decide)) hr rfl T.m_along T.F_along.kp b_along .nil pass0 (pa_cons (pv 0) (pa_cons (pv 1) (pa_cons (pv 2) (pa_cons pe_bl pa_nil))))) (pa_cons (pe_call (G_along.mono (by decide)) hr rfl T.m_along T.F_along.kp b_along .nil pass0 (pa_cons (pv 0) (pa_cons (pv 1) (pa_cons (pv 2) (pa_cons pe_bl pa_nil))))) pa_nil))))
      (pss_cons (ps_for PassesOwn.never rfl (pi_range1 (by rfl) T.z_range (pa_cons pe_int pa_nil)) (pg_name (i := 5) nd rfl (Or.inl rfl)) (pss_cons (ps_set (i := 6) nd rfl (Or.inl rfl) (pe_lst (pa_cons (pe_call (G_differed_by.mono (by decide)) hr rfl T.m_differed_by T.F_differed_by.kp b_differed_by .nil pass0 (pa_cons (pv 0) (pa_cons (pv 1) (pa_cons (pv 2) pa_nil)))) (pa_cons (pe_call (G_raised_by.mono (by decide)) hr rfl T.m_raised_by T.F_raised_by.kp b_raised_by .nil pass0 (pa_cons (pv 0) (pa_cons (pv 1) (pa_cons (pv 2) pa_nil)))) pa_nil))))
        (pss_cons (ps_if (PW.pt (pw_or (pt_cmpR (op_neD hr.units) (pv 6) (pv 4) (nomark _)) (pw_or (pt_not (pt_val (pe_callB (cr_all rfl) (by rfl) T.z_all (by decide +kernel) (pa_cons (pe_lc (own := [("_law_one", 7)]) (g := gName 7) (by rfl) nd (pi_list (pv 6)) (blkOk_by (own := [("_law_one", 7)]) (N := N_good) (sc := defScope s_good) (by decide +kernel)) (fun _ _ _ _ _ => pg_name (i := 7) nd rfl (Or.inl rfl)) (fun _ _ _ _ _ => pts_nil) (fun _ _ _ _ _ => (pe_call (G_is_poly.mono (by decide)) hr rfl T.m_is_poly T.F_is_poly.kp b_is_poly .nil pass0 (pa_cons (pv 7) (pa_cons (pv 0) pa_nil))))) pa_nil)))) (pw_or1 (pt_cmpR op_ne (pe_callTy (call_strD trivial hr.units) (by rfl) T.z_str (by decide +kernel) (pa_cons (pe_lst (pa_cons (pv 1) (pa_cons (pv 2) pa_nil))) pa_nil)) (pv 3) (nomark _)))))) (pss_one (ps_ret pe_bl)) pss_nil)
        (pss_one (ps_for PassesOwn.never rfl (pi_list (pv 6)) (pg_name (i := 7) nd rfl (Or.inl rfl)) (pss_one (ps_expr (pe_bm PySem.F.plainAttrs_list PySem.F.slot_list_append PySem.F.type_list_append mt_append (pv 7) (pa_cons (pe_tup (pa_cons pe_int pa_nil)) pa_nil)))))))))
      (pss_one (ps_ret pe_bl))))), ?_⟩
  have hm : ∀ t ∈ ts, t.1.length = m := fun t h => (cn.ok t h).1
  obtain ⟨xs, ha, tm⟩ := pa
  have SM : Sm 40 100000 (.list [.list (ts.map termN), .list ((toI ks).map PyData.int)]) := (sm_two (sm_poly hm m5 (sm.mono (by decide) (by decide)) hz) ((sm_word hzk fun k h => by have := hk k h; omega).mono (by decide) (by decide))).mono (by decide) (by decide)
  have sm2 : Small 7 (2 ^ 120) ts := sm.mono (by decide) (by decide)
  have hs7 : ∀ t ∈ ts, t.1.sum ≤ 7 := fun t h => (sm t h).1
  refine ⟨_, rfl, _, rfl, (by show 2 ≤ sizeLine; decide), fun L hL => ?_⟩
  have s1 := same_new (o := .lst [.ref a, .ref b]) hL
  have dW : ∀ {HX : Hp}, SqL K HX b (natsV ks) → Dp K HX (.ref b) (.list ((toI ks).map PyData.int)) := fun h => .lst h (by rw [natsV_toI]; exact dp_ints K _ _)
  refine ⟨_, _, rfl, .lst (SqL.of upd_same) (.cons (.lst (SqL.of (s1 _ _ ha)) (tm.same s1).dp) (.cons (dW (s1.seqL hb)) .nil)), SM, ?_⟩
  obtain ⟨kt, ekt⟩ : ∃ kt : Str, kt = strT (.list [.list (ts.map termN), .list ((toI ks).map PyData.int)]) := ⟨_, rfl⟩
  rw [← ekt]
  generalize upd H L (.lst [.ref a, .ref b]) = H1 at s1 ⊢
  refine ⟨_, rfl, _, rfl, _, rfl, a, b, m, 7, ts, ks, false, rfl, ⟨xs, s1 _ _ ha, tm.same s1⟩, cn, sm2, by decide, m1, m5, s1.seqL hb, hzk, hk, fun d1 w1 H2 s2 pl1 c1 hw1 hc1 => ?_⟩
  have s12 := s1.trans s2
  refine ⟨_, rfl, _, rfl, _, rfl, a, b, m, 7, ts, ks, true, rfl, ⟨xs, s12 _ _ ha, tm.same s12⟩, cn, sm2, by decide, m1, m5, s12.seqL hb, hzk, hk, fun d2 w2 H3 s3 pl2 c2 hw2 hc2 => ?_⟩
  refine ⟨(by show 2 ≤ sizeLine; decide), fun D hD => ?_⟩
  have sD := same_new (o := .lst [.ref d1, .ref d2]) hD
  have gD := (upd_same : (upd H3 D (.lst [.ref d1, .ref d2])) D = some (.lst [.ref d1, .ref d2]))
  have s0 := (s12.trans s3).trans sD
  have q1 := (pl1.same s3).same sD
  have q2 := pl2.same sD
  generalize upd H3 D (.lst [.ref d1, .ref d2]) = H4 at s0 gD q1 q2 ⊢
  refine ⟨_, rfl, by decide, by decide, ?_⟩
  show ∃ W : Nat → Nat → L2.St → Hp → Prop, _
  rw [show (3 : Int).toNat = 3 from rfl]
  refine for_range (lo := 0) (n := 3) (fun i σ H5 => ∃ (u1 u2 u3 : Option V), σ = [some (.int m), some (.ref a), some (.ref b), some (.str kt), some (.ref D), u1, u2, u3] ∧ Same H4 H5) ⟨none, none, none, rfl, .refl _⟩ ?_ ?_
  · rintro i σ H5 hi ⟨u1, u2, u3, rfl, s5⟩
    have s05 := s0.trans s5
    refine ⟨_, rfl, _, rfl, _, rfl, a, b, m, 7, ts, ks, rfl, ⟨xs, s05 _ _ ha, tm.same s05⟩, cn, hs7, by decide, m1, m5, s05.seqL hb, hzk, hk, ht.same s05, fun f1 v1 H6 s6 hf1 p1 e1 hv1 he1 => ?_⟩
    have s06 := s05.trans s6
    refine ⟨_, rfl, _, rfl, _, rfl, a, b, m, 7, ts, ks, rfl, ⟨xs, s06 _ _ ha, tm.same s06⟩, cn, hs7, by decide, m1, m5, s06.seqL hb, hzk, hk, ht.same s06, fun f2 v2 H7 s7 hf2 p2 e2 hv2 he2 => ?_⟩
    have E1 : v1 = w1 := can_uniq e1 c1 fun ns => (he1 ns).trans (hc1 ns).symm
    have E2 : v2 = w2 := can_uniq e2 c2 fun ns => (he2 ns).trans (hc2 ns).symm
    subst E1 E2
    refine ⟨(by show 2 ≤ sizeLine; decide), fun F hF => ?_⟩
    have n1 : f1 ≠ F := by obtain ⟨_, h, _⟩ := p1.same s7; exact ne_of_none h hF
    have n2 : f2 ≠ F := by obtain ⟨_, h, _⟩ := p2; exact ne_of_none h hF
    have n12 : f1 ≠ f2 := by obtain ⟨_, h, _⟩ := p1; exact ne_of_none h hf2
    have sF := same_new (o := .lst [.ref f1, .ref f2]) hF
    have gF := (upd_same : (upd H7 F (.lst [.ref f1, .ref f2])) F = some (.lst [.ref f1, .ref f2]))
    have p1' := (p1.same s7).same sF
    have p2' := p2.same sF
    have s58 := (s6.trans s7).trans sF
    have hF5 : H5 F = none := (s6.trans s7).free hF
    have hf25 : H5 f2 = none := s6.free hf2
    generalize upd H7 F (.lst [.ref f1, .ref f2]) = H8 at gF p1' p2' s58 ⊢
    obtain ⟨x1, hx1, t1⟩ := p1'
    obtain ⟨x2, hx2, t2⟩ := p2'
    have s48 := s5.trans s58
    obtain ⟨y1, hy1, r1⟩ := q1.same s48
    obtain ⟨y2, hy2, r2⟩ := q2.same s48
    have l1 := le_len e1.nd (fun t h => (e1.ok t h).1) hv1 m5 (by decide)
    have l2 := le_len e2.nd (fun t h => (e2.ok t h).1) hv2 m5 (by decide)
    refine ⟨_, rfl, _, rfl, _, _, .lst (SqL.of gF) (.cons (.lst (SqL.of hx1) t1.dp) (.cons (.lst (SqL.of hx2) t2.dp) .nil)), .lst (SqL.of (s48 _ _ gD)) (.cons (.lst (SqL.of hy1) r1.dp) (.cons (.lst (SqL.of hy2) r2.dp) .nil)), shaped_two v1 v2, shaped_two v1 v2, _, rfl, ?_⟩
    rw [eqv_self (shaped_two v1 v2)]
    refine iteF ?_
    refine ⟨_, rfl, F, rfl, ⟨_, SqL.of gF⟩, fun E hE => ?_⟩
    have hE : H8 E = none := hE
    refine lc_listD (K := K) (a := F) (zs := [.ref f1, .ref f2]) (oneH E) (oneH_at E) (fun _ => true) (fun _ => .bool true) hE (SqL.of gF) (by show 2 ≤ 1000; decide) ?_ ?_
    · intro i z H9 Kk Nx ez s9 hE9 hK hN
      match i, ez with
      | 0, ez =>
        cases ez
        exact ⟨rfl, yes_of ⟨_, rfl, _, rfl, f1, m, x1, v1, rfl, SqL.of (s9 _ _ hx1), t1.same s9, e1, by omega, by omega, fun HA sA => hK rfl _ _ sA (.bl _)⟩⟩
      | 1, ez =>
        cases ez
        exact ⟨rfl, yes_of ⟨_, rfl, _, rfl, f2, m, x2, v2, rfl, SqL.of (s9 _ _ hx2), t2.same s9, e2, by omega, by omega, fun HA sA => hK rfl _ _ sA (.bl _)⟩⟩
    intro H9 ys s9 hys dp9
    rw [filter_true, map_const_true] at dp9
    rw [dp9.bls] at hys
    refine ⟨E, _, rfl, SqL.of hys, ?_⟩
    rw [all_rep]
    refine ⟨_, rfl, iteF ?_⟩
    have s59 := s58.trans s9
    have s09 := s05.trans s59
    refine ⟨_, rfl, _, rfl, (by show 2 ≤ sizeLine; decide), fun L2 hL2 => ?_⟩
    have sA := same_new (o := .lst [.ref a, .ref b]) hL2
    have s0A := s09.trans sA
    refine ⟨_, _, rfl, .lst (SqL.of upd_same) (.cons (.lst (SqL.of (s0A _ _ ha)) (tm.same s0A).dp) (.cons (dW (s0A.seqL hb)) .nil)), SM, ?_⟩
    rw [← ekt]
    have s5A := s59.trans sA
    have s8A := s9.trans sA
    have gFA := s8A _ _ gF
    have hx1A := s8A _ _ hx1
    have hx2A := s8A _ _ hx2
    show _
    generalize upd H9 L2 (.lst [.ref a, .ref b]) = HA at s5A gFA hx1A hx2A ⊢
    refine ⟨_, rfl, rfl, _, rfl, ?_⟩
    rw [decide_eq_true (p := V.str kt = V.str kt) rfl]
    refine iteF ?_
    refine ⟨_, rfl, F, rfl, ⟨_, SqL.of gFA⟩, ?_⟩
    refine for_list (xs := [.ref f1, .ref f2]) (fun j σ HX => ∃ (u : Option V), σ = [some (.int m), some (.ref a), some (.ref b), some (.str kt), some (.ref D), some (.int (0 + (i : Int))), some (.ref F), u] ∧ Same H5 HX ∧ HX F = some (.lst [.ref f1, .ref f2]) ∧ (∃ z1, HX f1 = some (.lst z1) ∧ z1.length ≤ 1300 + j) ∧ ∃ z2, HX f2 = some (.lst z2) ∧ z2.length ≤ 1300 + j) ⟨_, rfl, s5A, gFA, ⟨x1, hx1A, by rw [t1.length]; omega⟩, ⟨x2, hx2A, by rw [t2.length]; omega⟩⟩ (fun j σ HX _ h => by obtain ⟨_, _, _, h, _⟩ := h; exact SqL.of h) ?_ ?_
    · rintro j z σ HX ez ⟨u, rfl, sX, gX, ⟨z1, h1, k1⟩, ⟨z2, h2, k2⟩⟩
      match j, ez with
      | 0, ez =>
        cases ez
        refine ⟨_, rfl, .inl ⟨rfl, _, SqL.of h1⟩, (by show 1 ≤ sizeLine; decide), fun g hg => ?_⟩
        have sg := same_new (o := .tup [.int 0]) hg
        refine ⟨f1, z1, _, rfl, rfl, sg _ _ h1, small5 (by omega), ?_⟩
        exact ⟨_, rfl, same_upd (sX.trans sg) hf1, by rw [upd_ne n1.symm]; exact sg _ _ gX, ⟨_, upd_same, by rw [List.length_append]; show z1.length + 1 ≤ _; omega⟩, ⟨z2, by rw [upd_ne n12.symm]; exact sg _ _ h2, by omega⟩⟩
      | 1, ez =>
        cases ez
        refine ⟨_, rfl, .inl ⟨rfl, _, SqL.of h2⟩, (by show 1 ≤ sizeLine; decide), fun g hg => ?_⟩
        have sg := same_new (o := .tup [.int 0]) hg
        refine ⟨f2, z2, _, rfl, rfl, sg _ _ h2, small5 (by omega), ?_⟩
        exact ⟨_, rfl, same_upd (sX.trans sg) hf25, by rw [upd_ne n2.symm]; exact sg _ _ gX, ⟨z1, by rw [upd_ne n12]; exact sg _ _ h1, by omega⟩, ⟨_, upd_same, by rw [List.length_append]; show z2.length + 1 ≤ _; omega⟩⟩
    · rintro σ HX ⟨u, rfl, sX, gX, _⟩
      exact ⟨_, _, _, rfl, s5.trans sX⟩
  · rintro σ H5 ⟨u1, u2, u3, rfl, s5⟩
    exact q _ (s0.trans s5)
end
end K32

set_option Elab.async false
set_option linter.all false
set_option maxRecDepth 100000
set_option maxHeartbeats 4000000
namespace K32
open PySem L2
section
variable {P : Program} {w : World} {K : PySem.W.Frag} {mg : Str → Option Value} {base : Heap} {A : Adr} {gq : Array GenState → Drawn → Prop}
theorem cnt_of (n c : Nat) (c1 : 1 ≤ c) : ∃ cnt : Nat, (if (1 : Int) > (if (c : Int) < (n : Int) then (c : Int) else (n : Int)) then 1 else (if (c : Int) < (n : Int) then (c : Int) else (n : Int))) = (cnt : Int) ∧ 1 ≤ cnt ∧ cnt ≤ c := by
  refine ⟨(if (1 : Int) > (if (c : Int) < (n : Int) then (c : Int) else (n : Int)) then (1 : Int) else (if (c : Int) < (n : Int) then (c : Int) else (n : Int))).toNat, ?_, ?_, ?_⟩
  · split <;> (split <;> omega)
  · split <;> (split <;> omega)
  · split <;> (split <;> omega)
def sp_law (K : PySem.W.Frag) (A : Adr) : Sp := fun vs H Q _ => ∃ (a : Addr) (ns : List Int), vs = [.ref a] ∧ SqL K H a (intsV ns) ∧ Tab A H ∧ ∀ H', Same H H' → Q (.bl true) H'
theorem ok_law (T : Txt K mg A) (B : Bas mg base A) : FnOk P w K mg base (CXr Bare) 8 A.law A.fd_law P_law (sp_law K A) := by
  have nd := sc_law.nd
  have G_poly : FnOk P w K mg base (CXq Bare) 2 A.poly A.fd_poly P_poly (sp_poly K) := ok_poly T
  have G_cell : FnOk P w K mg base (CXq Bare) 2 A.cell A.fd_cell P_cell (sp_cell K) := ok_cell T
  have G_take : FnOk P w K mg base (CXq Bare) 1 A.take A.fd_take P_take sp_take := ok_take T
  have G_good : FnOk P w K mg base (CXr Bare) 7 A.good A.fd_good P_good (sp_good K A) := ok_good T B
  have b_poly := b_poly T
  have b_cell := b_cell T
  have b_take := b_take T
  have b_good := b_good T
  refine T.F_law.okc sc_law (fun vs H Q E h => ?_) (fun A' outer s H vs Q E hr h => ?_)
  · obtain ⟨a, ns, rfl, _⟩ := h; rfl
  obtain ⟨a, ns, rfl, ha, ht, q⟩ := h
  refine ⟨_, (pss_cons (ps_for PassesOwn.never rfl (pi_range1 (by rfl) T.z_range (pa_cons (pe_callB (call_max2 rfl) (by rfl) T.z_max (by decide +kernel) (pa_cons (pe_callB (call_min2 rfl) (by rfl) T.z_min (by decide +kernel) (pa_cons (pe_callB call_len (by rfl) T.z_len PySem.boot_len (pa_cons (pv 0) pa_nil)) (pa_cons pe_int pa_nil))) (pa_cons pe_int pa_nil))) pa_nil)) (pg_name (i := 1) nd rfl (Or.inl rfl)) (pss_cons (ps_set (i := 2) nd rfl (Or.inr rfl) (pe_lst (pa_cons (pe_call (G_cell.mono (by decide)) hr rfl T.m_cell T.F_cell.kp b_cell .nil pass0 (pa_cons (pv 0) (pa_cons (pv 1) pa_nil))) pa_nil)))
        (pss_cons (ps_set (i := 3) nd rfl (Or.inr rfl) (pe_op op_add pe_int (pe_call (G_take.mono (by decide)) hr rfl T.m_take T.F_take.kp b_take .nil pass0 (pa_cons (pv 2) (pa_cons pe_int pa_nil)))))
        (pss_cons (ps_setLc (i := 4) (own := [("_law_k", 5)]) (g := gName 5) (by rfl) nd rfl rfl (sw_true rfl rfl rfl (by decide +kernel)) (pi_range1 (by rfl) T.z_range (pa_cons (pe_op op_mulB (pe_call (G_take.mono (by decide)) hr rfl T.m_take T.F_take.kp b_take .nil pass0 (pa_cons (pv 2) (pa_cons pe_int pa_nil))) (pe_callTy call_int1 (by rfl) T.z_int (by decide +kernel) (pa_cons (pe_cmpR op_gt (pv 3) pe_int (nomark _)) pa_nil))) pa_nil)) (blkOk_by (own := [("_law_k", 5)]) (N := N_law) (sc := defScope s_law) (by decide +kernel)) (fun _ _ _ _ _ => pg_name (i := 5) nd rfl (Or.inl rfl)) (fun _ _ _ _ _ => pts_nil) (fun _ _ _ _ _ => (pe_call (G_take.mono (by decide)) hr rfl T.m_take T.F_take.kp b_take .nil pass0 (pa_cons (pv 2) (pa_cons (pe_callB (call_max2 rfl) (by rfl) T.z_max (by decide +kernel) (pa_cons (pe_op op_sub (pv 3) pe_int) (pa_cons pe_int pa_nil))) pa_nil)))))
        (pss_cons (ps_set (i := 6) nd rfl (Or.inl rfl) (pe_call (G_poly.mono (by decide)) hr rfl T.m_poly T.F_poly.kp b_poly .nil pass0 (pa_cons (pv 2) (pa_cons (pv 3) (pa_cons pe_int (pa_cons pe_int pa_nil))))))
        (pss_one (ps_if (PW.pt (pw_or (pt_not (pt_val (pe_call (G_good.mono (by decide)) hr rfl T.m_good T.F_good.kp b_good .nil (passR trivial) (pa_cons (pv 3) (pa_cons (pv 6) (pa_cons (pv 4) pa_nil)))))) (pw_or1 (pt_not (pt_val (pe_call (G_good.mono (by decide)) hr rfl T.m_good T.F_good.kp b_good .nil (passR trivial) (pa_cons (pv 3) (pa_cons (pv 6) (pa_cons (pe_lst pa_nil) pa_nil))))))))) (pss_one (ps_ret pe_bl)) pss_nil)))))))
      (pss_one (ps_ret pe_bl))), ?_⟩
  refine ⟨_, rfl, .ref a, ns.length, rfl, .inl ⟨_, ha, (intsV_len ns).symm⟩, _, _, rfl, _, _, rfl, _, rfl, ?_⟩
  obtain ⟨cnt, ecnt, _, c6⟩ := cnt_of ns.length 4 (by decide)
  rw [show (4 : Int) = ((4 : Nat) : Int) from rfl, ecnt]
  refine ⟨by omega, by omega, ?_⟩
  show ∃ W : Nat → Nat → L2.St → Hp → Prop, _
  rw [Int.toNat_natCast]
  refine for_range (lo := 0) (n := cnt) (fun i σ H2 => ∃ (u1 u2 u3 u4 u5 u6 : Option V), σ = [some (.ref a), u1, u2, u3, u4, u5, u6] ∧ Same H H2) ⟨none, none, none, none, none, none, rfl, .refl _⟩ ?_ ?_
  · rintro i σ H2 hi ⟨u1, u2, u3, u4, u5, u6, rfl, s2⟩
    have e0 : (0 : Int) + (i : Int) = (i : Int) := by omega
    refine ⟨_, rfl, _, rfl, a, ns, i, by show [V.ref a, V.int (0 + (i : Int))] = _; rw [e0], s2.seq ha, by omega, fun c => ⟨(by show 1 ≤ sizeLine; decide), fun p hp => ?_⟩⟩
    have s3 := s2.trans (same_new (o := .lst [.int c]) hp)
    have hp0 : H p = none := s2.free hp
    refine ⟨_, rfl, p, c, 5, rfl, upd_same, by decide, by decide, fun d n1 d0 d1 => ⟨_, _, rfl, rfl, ?_⟩⟩
    obtain ⟨m, em, m1, m5⟩ : ∃ m : Nat, 1 + d = (m : Int) ∧ 1 ≤ m ∧ m ≤ 5 := ⟨(1 + d).toNat, by omega, by omega, by omega⟩
    have em' : (fun i j : Int => V.int (i + j)) 1 d = V.int ((m : Nat) : Int) := by show V.int (1 + d) = _; rw [em]
    rw [em']
    have s4 := same_upd (o := .lst [.int n1]) s3 hp0
    have hp4 : (upd (upd H2 p (.lst [.int c])) p (.lst [.int n1])) p = some (.lst [.int n1]) := upd_same
    generalize upd (upd H2 p (.lst [.int c])) p (.lst [.int n1]) = H3 at s4 hp4 ⊢
    refine ⟨_, rfl, p, n1, 9, rfl, hp4, by decide, by decide, fun d n2 d0 d1 => ?_⟩
    refine ⟨_, rfl, _, _, rfl, rfl, .inr ⟨_, rfl, _, _, rfl, rfl, mul31 d0 (by omega), ?_⟩⟩
    obtain ⟨z, ez, hz, hz1⟩ : ∃ z : Nat, d * (if decide ((1 : Int) < (m : Int)) = true then 1 else 0) = (z : Int) ∧ z ≤ 8 ∧ (m = 1 → z = 0) := by
      by_cases hm : m = 1
      · subst hm
        exact ⟨0, by simp, by omega, fun _ => rfl⟩
      · refine ⟨d.toNat, ?_, by omega, fun h => absurd h hm⟩
        rw [if_pos (by simp; omega)]; omega
    refine ⟨_, rfl, ?_, ?_, fun D hD => ?_⟩
    · show -(2 ^ 62) ≤ d * _; rw [ez]; omega
    · show d * _ < 2 ^ 62; rw [ez]; omega
    have hD0 : H3 D = none := by
      by_cases e : D = p
      · have hD : upd H3 p _ D = none := hD
        rw [e, upd_same] at hD; cases hD
      · have hD : upd H3 p _ D = none := hD
        rw [upd_ne e] at hD; exact hD
    have nDp : p ≠ D := ne_of_none hp4 hD0
    have hn : (d * (if decide ((1 : Int) < (m : Int)) = true then 1 else 0)).toNat = z := by rw [ez]; simp
    show ∃ W : Nat → Nat → Hp → Prop, _
    rw [hn]
    refine lc_range (lo := 0) (n := z) (fun i H2 => ∃ (ks : List Nat) (n' : Int), H2 D = some (.lst (natsV ks)) ∧ ks.length = i ∧ (∀ k ∈ ks, k + 2 ≤ m) ∧ H2 p = some (.lst [.int n']) ∧ SameB p H3 H2) ⟨[], n2, upd_same, rfl, fun k hk => (nomatch hk), ?_, ?_⟩ ?_ ?_
    · rw [upd_ne nDp, upd_same]
    · intro b o hb e
      rw [upd_ne (ne_of_none e hD0), upd_ne hb]; exact e
    · rintro j H5 hj ⟨ks, n', h1, h2, h3, h4, h5⟩
      have hm : 2 ≤ m := by
        rcases Nat.lt_or_ge m 2 with h | h
        · have := hz1 (by omega); omega
        · exact h
      refine ⟨rfl, yes_of ?_⟩
      have emx : (if (1 : Int) > (m : Int) - 1 then (1 : Int) else (m : Int) - 1) = (m : Int) - 1 := if_neg (by omega)
      refine ⟨_, rfl, _, rfl, _, _, rfl, rfl, _, _, rfl, p, n', (m : Int) - 1, by show [V.ref p, V.int (if (1 : Int) > (m : Int) - 1 then (1 : Int) else (m : Int) - 1)] = _; rw [emx], h4, by omega, ?_, fun d2 n3 f0 f1 => ?_⟩
      · have : ((m : Int) - 1).natAbs < 2 ^ 9000 := Nat.lt_of_lt_of_le (show ((m : Int) - 1).natAbs < 2 ^ 3 by omega) (Nat.pow_le_pow_right (by decide) (by decide))
        by_cases e : ((m : Int) - 1).natAbs = 0
        · rw [e]; decide
        · exact (Nat.log2_lt e).mpr this
      · refine ⟨_, by rw [upd_ne nDp.symm]; exact h1, by rw [natsV_len]; exact small1000 (by omega), ks ++ [d2.toNat], n3, ?_, by simp [h2], fun k hk => ?_, ?_, ?_⟩
        · rw [upd_same]
          unfold natsV
          rw [List.map_append]
          show some (HO.lst (_ ++ [V.int d2])) = some (HO.lst (_ ++ [V.int ((d2.toNat : Nat) : Int)]))
          rw [Int.toNat_of_nonneg f0]
        · rcases List.mem_append.mp hk with hk | hk
          · exact h3 k hk
          · have := List.mem_singleton.mp hk
            omega
        · rw [upd_ne nDp, upd_same]
        · intro b o hb e
          rw [upd_ne (ne_of_none e hD0), upd_ne hb]; exact h5 b o hb e
    rintro H5 ⟨ks, n', h1, h2, h3, h4, h5⟩
    refine ⟨_, rfl, _, rfl, p, n', m, 5, 7, rfl, h4, m1, m5, by decide, by decide, fun l rs us n4 H6 hl hr tr cu lu su hp6 sb => ?_⟩
    have s5 : Same H H5 := fun b o e => h5 b o (ne_of_none e hp0) (s4 b o e)
    have s6 : Same H H6 := fun b o e => sb b o (ne_of_none e hp0) (s5 b o e)
    have hD6 := sb _ _ nDp.symm h1
    have su' : Small 7 (10 ^ 35) us := su.mono (by decide) (by decide)
    refine ⟨_, rfl, _, rfl, _, rfl, l, D, m, us, ks, rfl, ⟨rs, hr, tr⟩, cu, su', by omega, m1, m5, SqL.of hD6, by omega, h3, ht.same s6, fun H7 s7 => ⟨_, rfl, iteF ?_⟩⟩
    refine ⟨_, rfl, _, rfl, (by show 0 ≤ sizeLine; decide), fun E hE => ?_⟩
    have sE := same_new (o := .lst []) hE
    have s7E := s7.trans sE
    have s0E := s6.trans s7E
    refine ⟨l, E, m, us, [], rfl, ⟨rs, s7E _ _ hr, tr.same s7E⟩, cu, su', by omega, m1, m5, SqL.of upd_same, by decide, (fun _ h => nomatch h), ht.same s0E, fun H8 s8 => ⟨_, rfl, iteF ?_⟩⟩
    exact ⟨_, _, _, _, _, _, rfl, s0E.trans s8⟩
  · rintro σ H2 ⟨u1, u2, u3, u4, u5, u6, rfl, s2⟩
    exact q _ s2
end
end K32

set_option Elab.async false
set_option linter.all false
set_option maxRecDepth 100000
namespace K32
open PySem L2
theorem txt_mk {K : PySem.W.Frag} {h : Heap} {mg : Str → Option Value} (X : K.In h) (G : h.Ns mainGlobals mg)
    {f_is_whole : Addr} {oc_is_whole kV_is_whole dc_is_whole pm_is_whole cd_is_whole ct_is_whole : Value} {od_is_whole an_is_whole : Option Addr} {sl_is_whole : Array (Option Value)}
    {f_is_within : Addr} {oc_is_within kV_is_within dc_is_within pm_is_within cd_is_within ct_is_within : Value} {od_is_within an_is_within : Option Addr} {sl_is_within : Array (Option Value)}
    {f_check_count : Addr} {oc_check_count kV_check_count dc_check_count pm_check_count cd_check_count ct_check_count : Value} {od_check_count an_check_count : Option Addr} {sl_check_count : Array (Option Value)}
    {f_swapped : Addr} {oc_swapped kV_swapped dc_swapped pm_swapped cd_swapped ct_swapped : Value} {od_swapped an_swapped : Option Addr} {sl_swapped : Array (Option Value)}
    {f_greatest_weight : Addr} {oc_greatest_weight kV_greatest_weight dc_greatest_weight pm_greatest_weight cd_greatest_weight ct_greatest_weight : Value} {od_greatest_weight an_greatest_weight : Option Addr} {sl_greatest_weight : Array (Option Value)}
    {f_is_word : Addr} {oc_is_word kV_is_word dc_is_word pm_is_word cd_is_word ct_is_word : Value} {od_is_word an_is_word : Option Addr} {sl_is_word : Array (Option Value)}
    {f_check_word : Addr} {oc_check_word kV_check_word dc_check_word pm_check_word cd_check_word ct_check_word : Value} {od_check_word an_check_word : Option Addr} {sl_check_word : Array (Option Value)}
    {f_check_room : Addr} {oc_check_room kV_check_room dc_check_room pm_check_room cd_check_room ct_check_room : Value} {od_check_room an_check_room : Option Addr} {sl_check_room : Array (Option Value)}
    {f_differed_by : Addr} {oc_differed_by kV_differed_by dc_differed_by pm_differed_by cd_differed_by ct_differed_by : Value} {od_differed_by an_differed_by : Option Addr} {sl_differed_by : Array (Option Value)}
    {f_raised_by : Addr} {oc_raised_by kV_raised_by dc_raised_by pm_raised_by cd_raised_by ct_raised_by : Value} {od_raised_by an_raised_by : Option Addr} {sl_raised_by : Array (Option Value)}
    {f_without_idle : Addr} {oc_without_idle kV_without_idle dc_without_idle pm_without_idle cd_without_idle ct_without_idle : Value} {od_without_idle an_without_idle : Option Addr} {sl_without_idle : Array (Option Value)}
    {f_lifted : Addr} {oc_lifted kV_lifted dc_lifted pm_lifted cd_lifted ct_lifted : Value} {od_lifted an_lifted : Option Addr} {sl_lifted : Array (Option Value)}
    {f_difference : Addr} {oc_difference kV_difference dc_difference pm_difference cd_difference ct_difference : Value} {od_difference an_difference : Option Addr} {sl_difference : Array (Option Value)}
    {f_rows_by_sum : Addr} {oc_rows_by_sum kV_rows_by_sum dc_rows_by_sum pm_rows_by_sum cd_rows_by_sum ct_rows_by_sum : Value} {od_rows_by_sum an_rows_by_sum : Option Addr} {sl_rows_by_sum : Array (Option Value)}
    {f_row_difference : Addr} {oc_row_difference kV_row_difference dc_row_difference pm_row_difference cd_row_difference ct_row_difference : Value} {od_row_difference an_row_difference : Option Addr} {sl_row_difference : Array (Option Value)}
    {f_mixed : Addr} {oc_mixed kV_mixed dc_mixed pm_mixed cd_mixed ct_mixed : Value} {od_mixed an_mixed : Option Addr} {sl_mixed : Array (Option Value)}
    {f_cell : Addr} {oc_cell kV_cell dc_cell pm_cell cd_cell ct_cell : Value} {od_cell an_cell : Option Addr} {sl_cell : Array (Option Value)}
    {f_take : Addr} {oc_take kV_take dc_take pm_take cd_take ct_take : Value} {od_take an_take : Option Addr} {sl_take : Array (Option Value)}
    {f_gathered : Addr} {oc_gathered kV_gathered dc_gathered pm_gathered cd_gathered ct_gathered : Value} {od_gathered an_gathered : Option Addr} {sl_gathered : Array (Option Value)}
    {f_poly : Addr} {oc_poly kV_poly dc_poly pm_poly cd_poly ct_poly : Value} {od_poly an_poly : Option Addr} {sl_poly : Array (Option Value)}
    {f_times : Addr} {oc_times kV_times dc_times pm_times cd_times ct_times : Value} {od_times an_times : Option Addr} {sl_times : Array (Option Value)}
    {f_unknown : Addr} {oc_unknown kV_unknown dc_unknown pm_unknown cd_unknown ct_unknown : Value} {od_unknown an_unknown : Option Addr} {sl_unknown : Array (Option Value)}
    {f_whole : Addr} {oc_whole kV_whole dc_whole pm_whole cd_whole ct_whole : Value} {od_whole an_whole : Option Addr} {sl_whole : Array (Option Value)}
    {f_is_poly : Addr} {oc_is_poly kV_is_poly dc_is_poly pm_is_poly cd_is_poly ct_is_poly : Value} {od_is_poly an_is_poly : Option Addr} {sl_is_poly : Array (Option Value)}
    {f_divided : Addr} {oc_divided kV_divided dc_divided pm_divided cd_divided ct_divided : Value} {od_divided an_divided : Option Addr} {sl_divided : Array (Option Value)}
    {f_along : Addr} {oc_along kV_along dc_along pm_along cd_along ct_along : Value} {od_along an_along : Option Addr} {sl_along : Array (Option Value)}
    {f_good : Addr} {oc_good kV_good dc_good pm_good cd_good ct_good : Value} {od_good an_good : Option Addr} {sl_good : Array (Option Value)}
    {f_law : Addr} {oc_law kV_law dc_law pm_law cd_law ct_law : Value} {od_law an_law : Option Addr} {sl_law : Array (Option Value)}
    {t_MOST_THINGS : Tok}
    {t_MOST_WEIGHT : Tok}
    {t_MOST_ENTRIES : Tok}
    (a_is_whole : PySem.W.nsIn K mainGlobals "is_whole" = some (some (.ref f_is_whole)))
    (l_is_whole : K.lookup f_is_whole = some ⟨oc_is_whole, od_is_whole, .func (PySem.W.fnOf "is_whole" "is_whole" (defArgs s_is_whole) (defBody s_is_whole) (defScope s_is_whole) .none kV_is_whole dc_is_whole pm_is_whole an_is_whole cd_is_whole ct_is_whole), sl_is_whole⟩)
    (e_is_whole : PySem.W.codeIn K cd_is_whole "is_whole" = true) (k_is_whole : PySem.W.keepIn K (.ref f_is_whole) = true)
    (a_is_within : PySem.W.nsIn K mainGlobals "is_within" = some (some (.ref f_is_within)))
    (l_is_within : K.lookup f_is_within = some ⟨oc_is_within, od_is_within, .func (PySem.W.fnOf "is_within" "is_within" (defArgs s_is_within) (defBody s_is_within) (defScope s_is_within) .none kV_is_within dc_is_within pm_is_within an_is_within cd_is_within ct_is_within), sl_is_within⟩)
    (e_is_within : PySem.W.codeIn K cd_is_within "is_within" = true) (k_is_within : PySem.W.keepIn K (.ref f_is_within) = true)
    (a_check_count : PySem.W.nsIn K mainGlobals "check_count" = some (some (.ref f_check_count)))
    (l_check_count : K.lookup f_check_count = some ⟨oc_check_count, od_check_count, .func (PySem.W.fnOf "check_count" "check_count" (defArgs s_check_count) (defBody s_check_count) (defScope s_check_count) .none kV_check_count dc_check_count pm_check_count an_check_count cd_check_count ct_check_count), sl_check_count⟩)
    (e_check_count : PySem.W.codeIn K cd_check_count "check_count" = true) (k_check_count : PySem.W.keepIn K (.ref f_check_count) = true)
    (a_swapped : PySem.W.nsIn K mainGlobals "swapped" = some (some (.ref f_swapped)))
    (l_swapped : K.lookup f_swapped = some ⟨oc_swapped, od_swapped, .func (PySem.W.fnOf "swapped" "swapped" (defArgs s_swapped) (defBody s_swapped) (defScope s_swapped) .none kV_swapped dc_swapped pm_swapped an_swapped cd_swapped ct_swapped), sl_swapped⟩)
    (e_swapped : PySem.W.codeIn K cd_swapped "swapped" = true) (k_swapped : PySem.W.keepIn K (.ref f_swapped) = true)
    (a_greatest_weight : PySem.W.nsIn K mainGlobals "greatest_weight" = some (some (.ref f_greatest_weight)))
    (l_greatest_weight : K.lookup f_greatest_weight = some ⟨oc_greatest_weight, od_greatest_weight, .func (PySem.W.fnOf "greatest_weight" "greatest_weight" (defArgs s_greatest_weight) (defBody s_greatest_weight) (defScope s_greatest_weight) .none kV_greatest_weight dc_greatest_weight pm_greatest_weight an_greatest_weight cd_greatest_weight ct_greatest_weight), sl_greatest_weight⟩)
    (e_greatest_weight : PySem.W.codeIn K cd_greatest_weight "greatest_weight" = true) (k_greatest_weight : PySem.W.keepIn K (.ref f_greatest_weight) = true)
    (a_is_word : PySem.W.nsIn K mainGlobals "is_word" = some (some (.ref f_is_word)))
    (l_is_word : K.lookup f_is_word = some ⟨oc_is_word, od_is_word, .func (PySem.W.fnOf "is_word" "is_word" (defArgs s_is_word) (defBody s_is_word) (defScope s_is_word) .none kV_is_word dc_is_word pm_is_word an_is_word cd_is_word ct_is_word), sl_is_word⟩)
    (e_is_word : PySem.W.codeIn K cd_is_word "is_word" = true) (k_is_word : PySem.W.keepIn K (.ref f_is_word) = true)
    (a_check_word : PySem.W.nsIn K mainGlobals "check_word" = some (some (.ref f_check_word)))
    (l_check_word : K.lookup f_check_word = some ⟨oc_check_word, od_check_word, .func (PySem.W.fnOf "check_word" "check_word" (defArgs s_check_word) (defBody s_check_word) (defScope s_check_word) .none kV_check_word dc_check_word pm_check_word an_check_word cd_check_word ct_check_word), sl_check_word⟩)
    (e_check_word : PySem.W.codeIn K cd_check_word "check_word" = true) (k_check_word : PySem.W.keepIn K (.ref f_check_word) = true)
    (a_check_room : PySem.W.nsIn K mainGlobals "check_room" = some (some (.ref f_check_room)))
    (l_check_room : K.lookup f_check_room = some ⟨oc_check_room, od_check_room, .func (PySem.W.fnOf "check_room" "check_room" (defArgs s_check_room) (defBody s_check_room) (defScope s_check_room) .none kV_check_room dc_check_room pm_check_room an_check_room cd_check_room ct_check_room), sl_check_room⟩)
    (e_check_room : PySem.W.codeIn K cd_check_room "check_room" = true) (k_check_room : PySem.W.keepIn K (.ref f_check_room) = true)
    (a_differed_by : PySem.W.nsIn K mainGlobals "differed_by" = some (some (.ref f_differed_by)))
    (l_differed_by : K.lookup f_differed_by = some ⟨oc_differed_by, od_differed_by, .func (PySem.W.fnOf "differed_by" "differed_by" (defArgs s_differed_by) (defBody s_differed_by) (defScope s_differed_by) .none kV_differed_by dc_differed_by pm_differed_by an_differed_by cd_differed_by ct_differed_by), sl_differed_by⟩)
    (e_differed_by : PySem.W.codeIn K cd_differed_by "differed_by" = true) (k_differed_by : PySem.W.keepIn K (.ref f_differed_by) = true)
    (a_raised_by : PySem.W.nsIn K mainGlobals "raised_by" = some (some (.ref f_raised_by)))
    (l_raised_by : K.lookup f_raised_by = some ⟨oc_raised_by, od_raised_by, .func (PySem.W.fnOf "raised_by" "raised_by" (defArgs s_raised_by) (defBody s_raised_by) (defScope s_raised_by) .none kV_raised_by dc_raised_by pm_raised_by an_raised_by cd_raised_by ct_raised_by), sl_raised_by⟩)
    (e_raised_by : PySem.W.codeIn K cd_raised_by "raised_by" = true) (k_raised_by : PySem.W.keepIn K (.ref f_raised_by) = true)
    (a_without_idle : PySem.W.nsIn K mainGlobals "without_idle" = some (some (.ref f_without_idle)))
    (l_without_idle : K.lookup f_without_idle = some ⟨oc_without_idle, od_without_idle, .func (PySem.W.fnOf "without_idle" "without_idle" (defArgs s_without_idle) (defBody s_without_idle) (defScope s_without_idle) .none kV_without_idle dc_without_idle pm_without_idle an_without_idle cd_without_idle ct_without_idle), sl_without_idle⟩)
    (e_without_idle : PySem.W.codeIn K cd_without_idle "without_idle" = true) (k_without_idle : PySem.W.keepIn K (.ref f_without_idle) = true)
    (a_lifted : PySem.W.nsIn K mainGlobals "lifted" = some (some (.ref f_lifted)))
    (l_lifted : K.lookup f_lifted = some ⟨oc_lifted, od_lifted, .func (PySem.W.fnOf "lifted" "lifted" (defArgs s_lifted) (defBody s_lifted) (defScope s_lifted) .none kV_lifted dc_lifted pm_lifted an_lifted cd_lifted ct_lifted), sl_lifted⟩)
    (e_lifted : PySem.W.codeIn K cd_lifted "lifted" = true) (k_lifted : PySem.W.keepIn K (.ref f_lifted) = true)
    (a_difference : PySem.W.nsIn K mainGlobals "difference" = some (some (.ref f_difference)))
    (l_difference : K.lookup f_difference = some ⟨oc_difference, od_difference, .func (PySem.W.fnOf "difference" "difference" (defArgs s_difference) (defBody s_difference) (defScope s_difference) .none kV_difference dc_difference pm_difference an_difference cd_difference ct_difference), sl_difference⟩)
    (e_difference : PySem.W.codeIn K cd_difference "difference" = true) (k_difference : PySem.W.keepIn K (.ref f_difference) = true)
    (a_rows_by_sum : PySem.W.nsIn K mainGlobals "rows_by_sum" = some (some (.ref f_rows_by_sum)))
    (l_rows_by_sum : K.lookup f_rows_by_sum = some ⟨oc_rows_by_sum, od_rows_by_sum, .func (PySem.W.fnOf "rows_by_sum" "rows_by_sum" (defArgs s_rows_by_sum) (defBody s_rows_by_sum) (defScope s_rows_by_sum) .none kV_rows_by_sum dc_rows_by_sum pm_rows_by_sum an_rows_by_sum cd_rows_by_sum ct_rows_by_sum), sl_rows_by_sum⟩)
    (e_rows_by_sum : PySem.W.codeIn K cd_rows_by_sum "rows_by_sum" = true) (k_rows_by_sum : PySem.W.keepIn K (.ref f_rows_by_sum) = true)
    (a_row_difference : PySem.W.nsIn K mainGlobals "row_difference" = some (some (.ref f_row_difference)))
    (l_row_difference : K.lookup f_row_difference = some ⟨oc_row_difference, od_row_difference, .func (PySem.W.fnOf "row_difference" "row_difference" (defArgs s_row_difference) (defBody s_row_difference) (defScope s_row_difference) .none kV_row_difference dc_row_difference pm_row_difference an_row_difference cd_row_difference ct_row_difference), sl_row_difference⟩)
    (e_row_difference : PySem.W.codeIn K cd_row_difference "row_difference" = true) (k_row_difference : PySem.W.keepIn K (.ref f_row_difference) = true)
    (a_mixed : PySem.W.nsIn K mainGlobals "_law_mixed" = some (some (.ref f_mixed)))
    (l_mixed : K.lookup f_mixed = some ⟨oc_mixed, od_mixed, .func (PySem.W.fnOf "_law_mixed" "_law_mixed" (defArgs s_mixed) (defBody s_mixed) (defScope s_mixed) .none kV_mixed dc_mixed pm_mixed an_mixed cd_mixed ct_mixed), sl_mixed⟩)
    (e_mixed : PySem.W.codeIn K cd_mixed "_law_mixed" = true) (k_mixed : PySem.W.keepIn K (.ref f_mixed) = true)
    (a_cell : PySem.W.nsIn K mainGlobals "_law_cell" = some (some (.ref f_cell)))
    (l_cell : K.lookup f_cell = some ⟨oc_cell, od_cell, .func (PySem.W.fnOf "_law_cell" "_law_cell" (defArgs s_cell) (defBody s_cell) (defScope s_cell) .none kV_cell dc_cell pm_cell an_cell cd_cell ct_cell), sl_cell⟩)
    (e_cell : PySem.W.codeIn K cd_cell "_law_cell" = true) (k_cell : PySem.W.keepIn K (.ref f_cell) = true)
    (a_take : PySem.W.nsIn K mainGlobals "_law_take" = some (some (.ref f_take)))
    (l_take : K.lookup f_take = some ⟨oc_take, od_take, .func (PySem.W.fnOf "_law_take" "_law_take" (defArgs s_take) (defBody s_take) (defScope s_take) .none kV_take dc_take pm_take an_take cd_take ct_take), sl_take⟩)
    (e_take : PySem.W.codeIn K cd_take "_law_take" = true) (k_take : PySem.W.keepIn K (.ref f_take) = true)
    (a_gathered : PySem.W.nsIn K mainGlobals "_law_gathered" = some (some (.ref f_gathered)))
    (l_gathered : K.lookup f_gathered = some ⟨oc_gathered, od_gathered, .func (PySem.W.fnOf "_law_gathered" "_law_gathered" (defArgs s_gathered) (defBody s_gathered) (defScope s_gathered) .none kV_gathered dc_gathered pm_gathered an_gathered cd_gathered ct_gathered), sl_gathered⟩)
    (e_gathered : PySem.W.codeIn K cd_gathered "_law_gathered" = true) (k_gathered : PySem.W.keepIn K (.ref f_gathered) = true)
    (a_poly : PySem.W.nsIn K mainGlobals "_law_poly" = some (some (.ref f_poly)))
    (l_poly : K.lookup f_poly = some ⟨oc_poly, od_poly, .func (PySem.W.fnOf "_law_poly" "_law_poly" (defArgs s_poly) (defBody s_poly) (defScope s_poly) .none kV_poly dc_poly pm_poly an_poly cd_poly ct_poly), sl_poly⟩)
    (e_poly : PySem.W.codeIn K cd_poly "_law_poly" = true) (k_poly : PySem.W.keepIn K (.ref f_poly) = true)
    (a_times : PySem.W.nsIn K mainGlobals "_law_times" = some (some (.ref f_times)))
    (l_times : K.lookup f_times = some ⟨oc_times, od_times, .func (PySem.W.fnOf "_law_times" "_law_times" (defArgs s_times) (defBody s_times) (defScope s_times) .none kV_times dc_times pm_times an_times cd_times ct_times), sl_times⟩)
    (e_times : PySem.W.codeIn K cd_times "_law_times" = true) (k_times : PySem.W.keepIn K (.ref f_times) = true)
    (a_unknown : PySem.W.nsIn K mainGlobals "_law_unknown" = some (some (.ref f_unknown)))
    (l_unknown : K.lookup f_unknown = some ⟨oc_unknown, od_unknown, .func (PySem.W.fnOf "_law_unknown" "_law_unknown" (defArgs s_unknown) (defBody s_unknown) (defScope s_unknown) .none kV_unknown dc_unknown pm_unknown an_unknown cd_unknown ct_unknown), sl_unknown⟩)
    (e_unknown : PySem.W.codeIn K cd_unknown "_law_unknown" = true) (k_unknown : PySem.W.keepIn K (.ref f_unknown) = true)
    (a_whole : PySem.W.nsIn K mainGlobals "_law_whole" = some (some (.ref f_whole)))
    (l_whole : K.lookup f_whole = some ⟨oc_whole, od_whole, .func (PySem.W.fnOf "_law_whole" "_law_whole" (defArgs s_whole) (defBody s_whole) (defScope s_whole) .none kV_whole dc_whole pm_whole an_whole cd_whole ct_whole), sl_whole⟩)
    (e_whole : PySem.W.codeIn K cd_whole "_law_whole" = true) (k_whole : PySem.W.keepIn K (.ref f_whole) = true)
    (a_is_poly : PySem.W.nsIn K mainGlobals "_law_is_poly" = some (some (.ref f_is_poly)))
    (l_is_poly : K.lookup f_is_poly = some ⟨oc_is_poly, od_is_poly, .func (PySem.W.fnOf "_law_is_poly" "_law_is_poly" (defArgs s_is_poly) (defBody s_is_poly) (defScope s_is_poly) .none kV_is_poly dc_is_poly pm_is_poly an_is_poly cd_is_poly ct_is_poly), sl_is_poly⟩)
    (e_is_poly : PySem.W.codeIn K cd_is_poly "_law_is_poly" = true) (k_is_poly : PySem.W.keepIn K (.ref f_is_poly) = true)
    (a_divided : PySem.W.nsIn K mainGlobals "_law_divided" = some (some (.ref f_divided)))
    (l_divided : K.lookup f_divided = some ⟨oc_divided, od_divided, .func (PySem.W.fnOf "_law_divided" "_law_divided" (defArgs s_divided) (defBody s_divided) (defScope s_divided) .none kV_divided dc_divided pm_divided an_divided cd_divided ct_divided), sl_divided⟩)
    (e_divided : PySem.W.codeIn K cd_divided "_law_divided" = true) (k_divided : PySem.W.keepIn K (.ref f_divided) = true)
    (a_along : PySem.W.nsIn K mainGlobals "_law_along" = some (some (.ref f_along)))
    (l_along : K.lookup f_along = some ⟨oc_along, od_along, .func (PySem.W.fnOf "_law_along" "_law_along" (defArgs s_along) (defBody s_along) (defScope s_along) .none kV_along dc_along pm_along an_along cd_along ct_along), sl_along⟩)
    (e_along : PySem.W.codeIn K cd_along "_law_along" = true) (k_along : PySem.W.keepIn K (.ref f_along) = true)
    (a_good : PySem.W.nsIn K mainGlobals "_law_good" = some (some (.ref f_good)))
    (l_good : K.lookup f_good = some ⟨oc_good, od_good, .func (PySem.W.fnOf "_law_good" "_law_good" (defArgs s_good) (defBody s_good) (defScope s_good) .none kV_good dc_good pm_good an_good cd_good ct_good), sl_good⟩)
    (e_good : PySem.W.codeIn K cd_good "_law_good" = true) (k_good : PySem.W.keepIn K (.ref f_good) = true)
    (a_law : PySem.W.nsIn K mainGlobals "law" = some (some (.ref f_law)))
    (l_law : K.lookup f_law = some ⟨oc_law, od_law, .func (PySem.W.fnOf "law" "law" (defArgs s_law) (defBody s_law) (defScope s_law) .none kV_law dc_law pm_law an_law cd_law ct_law), sl_law⟩)
    (e_law : PySem.W.codeIn K cd_law "law" = true) (k_law : PySem.W.keepIn K (.ref f_law) = true)
    (g_MOST_THINGS : PySem.W.nsIn K mainGlobals "MOST_THINGS" = some (some (.int 5 t_MOST_THINGS)))
    (g_MOST_WEIGHT : PySem.W.nsIn K mainGlobals "MOST_WEIGHT" = some (some (.int 20 t_MOST_WEIGHT)))
    (g_MOST_ENTRIES : PySem.W.nsIn K mainGlobals "MOST_ENTRIES" = some (some (.int 30 t_MOST_ENTRIES)))
    (z_abs : PySem.W.nsIn K mainGlobals "abs" = some none)
    (z_all : PySem.W.nsIn K mainGlobals "all" = some none)
    (z_bool : PySem.W.nsIn K mainGlobals "bool" = some none)
    (z_int : PySem.W.nsIn K mainGlobals "int" = some none)
    (z_isinstance : PySem.W.nsIn K mainGlobals "isinstance" = some none)
    (z_len : PySem.W.nsIn K mainGlobals "len" = some none)
    (z_list : PySem.W.nsIn K mainGlobals "list" = some none)
    (z_max : PySem.W.nsIn K mainGlobals "max" = some none)
    (z_min : PySem.W.nsIn K mainGlobals "min" = some none)
    (z_range : PySem.W.nsIn K mainGlobals "range" = some none)
    (z_reversed : PySem.W.nsIn K mainGlobals "reversed" = some none)
    (z_sorted : PySem.W.nsIn K mainGlobals "sorted" = some none)
    (z_str : PySem.W.nsIn K mainGlobals "str" = some none)
    (z_sum : PySem.W.nsIn K mainGlobals "sum" = some none)
    (z_tuple : PySem.W.nsIn K mainGlobals "tuple" = some none)
    (z_zip : PySem.W.nsIn K mainGlobals "zip" = some none)
    (f_tk : tupK K = true)
    {tc_is_word tp_is_word : Addr}
    (t_is_word : ∃ (a : Addr) (o : Obj) (fd : FuncData), mg "is_word" = some (.ref a) ∧ h.get? a = some o ∧ o.data = .func fd ∧ fd.code = .ref tc_is_word)
    : ∃ A : Adr, Txt K mg A ∧ A.law = f_law ∧ A.fd_law = PySem.W.fnOf "law" "law" (defArgs s_law) (defBody s_law) (defScope s_law) .none kV_law dc_law pm_law an_law cd_law ct_law ∧ A.c_is_word = tc_is_word ∧ A.p_is_word = tp_is_word := by
  have c_is_word : cd_is_word = .ref tc_is_word := by
    obtain ⟨a, o, fd, h1, h2, h3, h4⟩ := t_is_word
    rw [PySem.W.mg_of X G a_is_word] at h1
    cases h1
    rw [X _ _ l_is_word] at h2
    cases h2
    cases h3
    exact h4
  refine ⟨{
    is_whole := f_is_whole, fd_is_whole := _,
    is_within := f_is_within, fd_is_within := _,
    check_count := f_check_count, fd_check_count := _,
    swapped := f_swapped, fd_swapped := _,
    greatest_weight := f_greatest_weight, fd_greatest_weight := _,
    is_word := f_is_word, fd_is_word := _,
    check_word := f_check_word, fd_check_word := _,
    check_room := f_check_room, fd_check_room := _,
    differed_by := f_differed_by, fd_differed_by := _,
    raised_by := f_raised_by, fd_raised_by := _,
    without_idle := f_without_idle, fd_without_idle := _,
    lifted := f_lifted, fd_lifted := _,
    difference := f_difference, fd_difference := _,
    rows_by_sum := f_rows_by_sum, fd_rows_by_sum := _,
    row_difference := f_row_difference, fd_row_difference := _,
    mixed := f_mixed, fd_mixed := _,
    cell := f_cell, fd_cell := _,
    take := f_take, fd_take := _,
    gathered := f_gathered, fd_gathered := _,
    poly := f_poly, fd_poly := _,
    times := f_times, fd_times := _,
    unknown := f_unknown, fd_unknown := _,
    whole := f_whole, fd_whole := _,
    is_poly := f_is_poly, fd_is_poly := _,
    divided := f_divided, fd_divided := _,
    along := f_along, fd_along := _,
    good := f_good, fd_good := _,
    law := f_law, fd_law := _,
    t_MOST_THINGS := t_MOST_THINGS,
    t_MOST_WEIGHT := t_MOST_WEIGHT,
    t_MOST_ENTRIES := t_MOST_ENTRIES,
    c_is_word := tc_is_word, p_is_word := tp_is_word }, {
    m_is_whole := PySem.W.mg_of X G a_is_whole, F_is_whole := fun_mk (st := s_is_whole) l_is_whole e_is_whole k_is_whole,
    m_is_within := PySem.W.mg_of X G a_is_within, F_is_within := fun_mk (st := s_is_within) l_is_within e_is_within k_is_within,
    m_check_count := PySem.W.mg_of X G a_check_count, F_check_count := fun_mk (st := s_check_count) l_check_count e_check_count k_check_count,
    m_swapped := PySem.W.mg_of X G a_swapped, F_swapped := fun_mk (st := s_swapped) l_swapped e_swapped k_swapped,
    m_greatest_weight := PySem.W.mg_of X G a_greatest_weight, F_greatest_weight := fun_mk (st := s_greatest_weight) l_greatest_weight e_greatest_weight k_greatest_weight,
    m_is_word := PySem.W.mg_of X G a_is_word, F_is_word := fun_mk (st := s_is_word) l_is_word e_is_word k_is_word,
    m_check_word := PySem.W.mg_of X G a_check_word, F_check_word := fun_mk (st := s_check_word) l_check_word e_check_word k_check_word,
    m_check_room := PySem.W.mg_of X G a_check_room, F_check_room := fun_mk (st := s_check_room) l_check_room e_check_room k_check_room,
    m_differed_by := PySem.W.mg_of X G a_differed_by, F_differed_by := fun_mk (st := s_differed_by) l_differed_by e_differed_by k_differed_by,
    m_raised_by := PySem.W.mg_of X G a_raised_by, F_raised_by := fun_mk (st := s_raised_by) l_raised_by e_raised_by k_raised_by,
    m_without_idle := PySem.W.mg_of X G a_without_idle, F_without_idle := fun_mk (st := s_without_idle) l_without_idle e_without_idle k_without_idle,
    m_lifted := PySem.W.mg_of X G a_lifted, F_lifted := fun_mk (st := s_lifted) l_lifted e_lifted k_lifted,
    m_difference := PySem.W.mg_of X G a_difference, F_difference := fun_mk (st := s_difference) l_difference e_difference k_difference,
    m_rows_by_sum := PySem.W.mg_of X G a_rows_by_sum, F_rows_by_sum := fun_mk (st := s_rows_by_sum) l_rows_by_sum e_rows_by_sum k_rows_by_sum,
    m_row_difference := PySem.W.mg_of X G a_row_difference, F_row_difference := fun_mk (st := s_row_difference) l_row_difference e_row_difference k_row_difference,
    m_mixed := PySem.W.mg_of X G a_mixed, F_mixed := fun_mk (st := s_mixed) l_mixed e_mixed k_mixed,
    m_cell := PySem.W.mg_of X G a_cell, F_cell := fun_mk (st := s_cell) l_cell e_cell k_cell,
    m_take := PySem.W.mg_of X G a_take, F_take := fun_mk (st := s_take) l_take e_take k_take,
    m_gathered := PySem.W.mg_of X G a_gathered, F_gathered := fun_mk (st := s_gathered) l_gathered e_gathered k_gathered,
    m_poly := PySem.W.mg_of X G a_poly, F_poly := fun_mk (st := s_poly) l_poly e_poly k_poly,
    m_times := PySem.W.mg_of X G a_times, F_times := fun_mk (st := s_times) l_times e_times k_times,
    m_unknown := PySem.W.mg_of X G a_unknown, F_unknown := fun_mk (st := s_unknown) l_unknown e_unknown k_unknown,
    m_whole := PySem.W.mg_of X G a_whole, F_whole := fun_mk (st := s_whole) l_whole e_whole k_whole,
    m_is_poly := PySem.W.mg_of X G a_is_poly, F_is_poly := fun_mk (st := s_is_poly) l_is_poly e_is_poly k_is_poly,
    m_divided := PySem.W.mg_of X G a_divided, F_divided := fun_mk (st := s_divided) l_divided e_divided k_divided,
    m_along := PySem.W.mg_of X G a_along, F_along := fun_mk (st := s_along) l_along e_along k_along,
    m_good := PySem.W.mg_of X G a_good, F_good := fun_mk (st := s_good) l_good e_good k_good,
    m_law := PySem.W.mg_of X G a_law, F_law := fun_mk (st := s_law) l_law e_law k_law,
    g_MOST_THINGS := PySem.W.mg_of X G g_MOST_THINGS,
    g_MOST_WEIGHT := PySem.W.mg_of X G g_MOST_WEIGHT,
    g_MOST_ENTRIES := PySem.W.mg_of X G g_MOST_ENTRIES,
    z_abs := PySem.W.mg_none_of X G z_abs,
    z_all := PySem.W.mg_none_of X G z_all,
    z_bool := PySem.W.mg_none_of X G z_bool,
    z_int := PySem.W.mg_none_of X G z_int,
    z_isinstance := PySem.W.mg_none_of X G z_isinstance,
    z_len := PySem.W.mg_none_of X G z_len,
    z_list := PySem.W.mg_none_of X G z_list,
    z_max := PySem.W.mg_none_of X G z_max,
    z_min := PySem.W.mg_none_of X G z_min,
    z_range := PySem.W.mg_none_of X G z_range,
    z_reversed := PySem.W.mg_none_of X G z_reversed,
    z_sorted := PySem.W.mg_none_of X G z_sorted,
    z_str := PySem.W.mg_none_of X G z_str,
    z_sum := PySem.W.mg_none_of X G z_sum,
    z_tuple := PySem.W.mg_none_of X G z_tuple,
    z_zip := PySem.W.mg_none_of X G z_zip,
    c_is_word := c_is_word,
    tk := f_tk }, rfl, rfl, rfl, rfl⟩

def sp_lawT (K : PySem.W.Frag) (tabs : List (Addr × Addr)) : Sp := fun vs H Q _ => ∃ (a : Addr) (ns : List Int), vs = [.ref a] ∧ SqL K H a (intsV ns) ∧ (∀ q ∈ tabs, H q.2 = some (TabP q.2)) ∧ ∀ H', Same H H' → Q (.bl true) H'
theorem sp_start {K : PySem.W.Frag} {H : Hp} {a : Addr} {ns : List Int} {tabs : List (Addr × Addr)} (hO : OnlyT tabs H) (hS : SqL K H a (ns.map V.int)) : sp_lawT K tabs [.ref a] H (fun v H' => v = .bl true ∧ ∀ q ∈ tabs, H' q.2 = some (TabP q.2)) E0 :=
  ⟨a, ns, rfl, hS, hO.1, fun H' s => ⟨rfl, fun q hq => s _ _ (hO.1 q hq)⟩⟩
end K32
open PySem PySem.W PyProof.Rows
set_option maxRecDepth 100000 in
set_option maxHeartbeats 0 in
theorem PySem.Challenge.cw_crossbends_k32_differences_along_words_holds : PySem.Challenge.rw_crossbends_k32_differences_along_words.Holds := by
  w_on; o_law; k_head; (case hw => w_witness2)
  k_fill
  refine L2.walk_TK (l := PySem.Challenge.rw_crossbends_k32_differences_along_words) (n := 63) (k := 8) (x := "_law_script") (names := ["is_word"]) (sp := K32.sp_lawT) rfl (by decide) rfl ⟨rfl, by decide, by decide⟩ (fun w h Y => PySem.W.kIn_of Y) ?hK ?hrec ?F ?S
  case hK => intro w; kernel_rfl
  case hrec => kernel_rfl
  case S => exact fun K H a ns tabs hl hO hS => K32.sp_start hO hS
  case F =>
    intro w mg fa h tabs KX G hmg hlen htab hbm
    obtain ⟨a0, o0, fd0, q0, i0, j0, k0, l0, m0⟩ := htab 0 "is_word" rfl
    have etabs : tabs = [q0] := by
      apply List.ext_getElem?
      intro i
      match i with
      | 0 => exact i0
      | i + 1 => rw [List.getElem?_eq_none (by rw [hlen]; simp), List.getElem?_eq_none (by simp)]
    subst etabs
    have TX : ∃ A : K32.Adr, K32.Txt (L2.KOf KX) mg A ∧ A.law = fa ∧ A.c_is_word = q0.1 ∧ A.p_is_word = q0.2 := by
      dsimp only [L2.KOf]
      obtain ⟨A, T, e1, e2, et⟩ : ∃ A : K32.Adr, K32.Txt _ mg A ∧ _ := by
        refine' K32.txt_mk (tc_is_word := q0.1) (tp_is_word := q0.2) KX G ?a_is_whole ?l_is_whole ?e_is_whole ?k_is_whole ?a_is_within ?l_is_within ?e_is_within ?k_is_within ?a_check_count ?l_check_count ?e_check_count ?k_check_count ?a_swapped ?l_swapped ?e_swapped ?k_swapped ?a_greatest_weight ?l_greatest_weight ?e_greatest_weight ?k_greatest_weight ?a_is_word ?l_is_word ?e_is_word ?k_is_word ?a_check_word ?l_check_word ?e_check_word ?k_check_word ?a_check_room ?l_check_room ?e_check_room ?k_check_room ?a_differed_by ?l_differed_by ?e_differed_by ?k_differed_by ?a_raised_by ?l_raised_by ?e_raised_by ?k_raised_by ?a_without_idle ?l_without_idle ?e_without_idle ?k_without_idle ?a_lifted ?l_lifted ?e_lifted ?k_lifted ?a_difference ?l_difference ?e_difference ?k_difference ?a_rows_by_sum ?l_rows_by_sum ?e_rows_by_sum ?k_rows_by_sum ?a_row_difference ?l_row_difference ?e_row_difference ?k_row_difference ?a_mixed ?l_mixed ?e_mixed ?k_mixed ?a_cell ?l_cell ?e_cell ?k_cell ?a_take ?l_take ?e_take ?k_take ?a_gathered ?l_gathered ?e_gathered ?k_gathered ?a_poly ?l_poly ?e_poly ?k_poly ?a_times ?l_times ?e_times ?k_times ?a_unknown ?l_unknown ?e_unknown ?k_unknown ?a_whole ?l_whole ?e_whole ?k_whole ?a_is_poly ?l_is_poly ?e_is_poly ?k_is_poly ?a_divided ?l_divided ?e_divided ?k_divided ?a_along ?l_along ?e_along ?k_along ?a_good ?l_good ?e_good ?k_good ?a_law ?l_law ?e_law ?k_law ?g_MOST_THINGS ?g_MOST_WEIGHT ?g_MOST_ENTRIES ?z_abs ?z_all ?z_bool ?z_int ?z_isinstance ?z_len ?z_list ?z_max ?z_min ?z_range ?z_reversed ?z_sorted ?z_str ?z_sum ?z_tuple ?z_zip ?f_tk ⟨a0, o0, fd0, j0, k0, l0, m0⟩
        (case a_is_whole => k_is)
        (case l_is_whole => k_is)
        (case e_is_whole => k_is)
        (case k_is_whole => k_is)
        (case a_is_within => k_is)
        (case l_is_within => k_is)
        (case e_is_within => k_is)
        (case k_is_within => k_is)
        (case a_check_count => k_is)
        (case l_check_count => k_is)
        (case e_check_count => k_is)
        (case k_check_count => k_is)
        (case a_swapped => k_is)
        (case l_swapped => k_is)
        (case e_swapped => k_is)
        (case k_swapped => k_is)
        (case a_greatest_weight => k_is)
        (case l_greatest_weight => k_is)
        (case e_greatest_weight => k_is)
        (case k_greatest_weight => k_is)
        (case a_is_word => k_is)
        (case l_is_word => k_is)
        (case e_is_word => k_is)
        (case k_is_word => k_is)
        (case a_check_word => k_is)
        (case l_check_word => k_is)
        (case e_check_word => k_is)
        (case k_check_word => k_is)
        (case a_check_room => k_is)
        (case l_check_room => k_is)
        (case e_check_room => k_is)
        (case k_check_room => k_is)
        (case a_differed_by => k_is)
        (case l_differed_by => k_is)
        (case e_differed_by => k_is)
        (case k_differed_by => k_is)
        (case a_raised_by => k_is)
        (case l_raised_by => k_is)
        (case e_raised_by => k_is)
        (case k_raised_by => k_is)
        (case a_without_idle => k_is)
        (case l_without_idle => k_is)
        (case e_without_idle => k_is)
        (case k_without_idle => k_is)
        (case a_lifted => k_is)
        (case l_lifted => k_is)
        (case e_lifted => k_is)
        (case k_lifted => k_is)
        (case a_difference => k_is)
        (case l_difference => k_is)
        (case e_difference => k_is)
        (case k_difference => k_is)
        (case a_rows_by_sum => k_is)
        (case l_rows_by_sum => k_is)
        (case e_rows_by_sum => k_is)
        (case k_rows_by_sum => k_is)
        (case a_row_difference => k_is)
        (case l_row_difference => k_is)
        (case e_row_difference => k_is)
        (case k_row_difference => k_is)
        (case a_mixed => k_is)
        (case l_mixed => k_is)
        (case e_mixed => k_is)
        (case k_mixed => k_is)
        (case a_cell => k_is)
        (case l_cell => k_is)
        (case e_cell => k_is)
        (case k_cell => k_is)
        (case a_take => k_is)
        (case l_take => k_is)
        (case e_take => k_is)
        (case k_take => k_is)
        (case a_gathered => k_is)
        (case l_gathered => k_is)
        (case e_gathered => k_is)
        (case k_gathered => k_is)
        (case a_poly => k_is)
        (case l_poly => k_is)
        (case e_poly => k_is)
        (case k_poly => k_is)
        (case a_times => k_is)
        (case l_times => k_is)
        (case e_times => k_is)
        (case k_times => k_is)
        (case a_unknown => k_is)
        (case l_unknown => k_is)
        (case e_unknown => k_is)
        (case k_unknown => k_is)
        (case a_whole => k_is)
        (case l_whole => k_is)
        (case e_whole => k_is)
        (case k_whole => k_is)
        (case a_is_poly => k_is)
        (case l_is_poly => k_is)
        (case e_is_poly => k_is)
        (case k_is_poly => k_is)
        (case a_divided => k_is)
        (case l_divided => k_is)
        (case e_divided => k_is)
        (case k_divided => k_is)
        (case a_along => k_is)
        (case l_along => k_is)
        (case e_along => k_is)
        (case k_along => k_is)
        (case a_good => k_is)
        (case l_good => k_is)
        (case e_good => k_is)
        (case k_good => k_is)
        (case a_law => k_is)
        (case l_law => k_is)
        (case e_law => k_is)
        (case k_law => k_is)
        (case g_MOST_THINGS => k_is)
        (case g_MOST_WEIGHT => k_is)
        (case g_MOST_ENTRIES => k_is)
        (case z_abs => k_is)
        (case z_all => k_is)
        (case z_bool => k_is)
        (case z_int => k_is)
        (case z_isinstance => k_is)
        (case z_len => k_is)
        (case z_list => k_is)
        (case z_max => k_is)
        (case z_min => k_is)
        (case z_range => k_is)
        (case z_reversed => k_is)
        (case z_sorted => k_is)
        (case z_str => k_is)
        (case z_sum => k_is)
        (case z_tuple => k_is)
        (case z_zip => k_is)
        (case f_tk => kernel_rfl)
      refine ⟨A, T, ?_, et⟩
      have z := hmg.symm.trans T.m_law
      injection z with z
      injection z with z
      exact z.symm
    obtain ⟨A, T, rfl, et⟩ := TX
    refine ⟨A.fd_law, ?_, fun base kb nb hcd hmd => ?_⟩
    · intro s u
      obtain ⟨oc, od, kV, doc, pm, an, cdv, ct, osl, e, _, _⟩ := T.F_law.ex
      rw [e]
      exact .of_eq rfl
    · have B : K32.Bas mg base A := ⟨let ⟨bm, ob, b1, b2, b3, b4, b5, b6⟩ := hbm; ⟨bm, ob, b1, b2, hmd _ _ b3 b4, b4, b5, b6⟩, by rw [et.1, et.2]; exact hcd q0 (by simp)⟩
      refine (K32.ok_law T B).imp fun vs H Q E hs => ?_
      obtain ⟨a, ns, e, hS, hT, hQ⟩ := hs
      exact ⟨a, ns, e, hS, by show H A.p_is_word = some (L2.TabP A.p_is_word); rw [et.2]; exact hT q0 (by simp), hQ⟩

