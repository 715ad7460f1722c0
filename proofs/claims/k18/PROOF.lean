import PyProof.Rows.All
import Wide.All
import OpenK.AllK
import Wide.FinOn
import PyProof.EqAt
import PyProof.EqKinds
import PyProof.TupleCall
import KE.BitLaws
import PyProof.Rows.Rebase
import KE.KNest
import PyProof.GenCompD
import PyProof.ConsumeS
import PyProof.ListRange
import PyProof.WalksMore
import PyProof.Rows.SeqGenD
import PyProof.Rows.SeqMore
import PyProof.IsiPairs
import PyProof.IsiHeapPairs
import PyProof.IsiNone
import PyProof.FitsBits
import PyProof.TupleOfSeq
import PyProof.Rows.GenSrcRange
import PyProof.Rows.SetFrom
import PyProof.SetRoads
import PyProof.StationsW
import PyProof.Rows.Catch
import PyProof.Rows.CatchOwn
import PyProof.NsDelKeeps
import PyProof.ExcBaseAll.ValueError
import OpenK.KOwn
import KE.KIsAll
import PyProof.ExcAttrAll.ValueError
import PyProof.Wp
import KE.KSortTupG
import PyProof.Rows.SortShellAny
import PyProof.Rows.SortRev
import PyProof.Draws
import PyProof.WalksU
import PyProof.EnumMake
import PyProof.ListMulRoad
import KE.KSortTup
import KE.KDictSum
import PyProof.DictWalks
import PyProof.ReprRoads
import PyProof.ReprLen
import PyProof.CallStr
import PyProof.P3In
import KE.KMinBuiltin
import KE.KPairComp
import KE.IntBitsLaws
import KE.KRevIter
import PyProof.FactsAll.range
import PyProof.Rows.RuleB_lshift
import PyProof.Rows.RuleM_int
import PyProof.SetScanFacts
import PyProof.TupleKey
import PyProof.IsRules
import PySem.Challenge.RW_crossbends_k18_words_led
set_option Elab.async false
set_option linter.all false
set_option maxRecDepth 100000
/-! THE HAND LAYER, for ints, bools, texts, own classes, lists, tuples, dicts, comprehensions, walks over dicts, enumerate, zip, reversed, texts, calls, loops. Paste it whole ahead of your own text; what your proof does not reach may be deleted. -/
namespace L2
open PySem PySem.Spec PyProof.Rows

/-- a key: an int or a str -/
abbrev Key := Sum Int Str
def keyIs : Key → Value → Bool
  | .inl k, v => Value.isInt k v
  | .inr x, v => Value.isStrOf x v
def keyH (w : World) : Key → Int
  | .inl k => hashInt k
  | .inr x => hashStr w x
theorem keyIs_shape : ∀ {k : Key} {v : Value}, keyIs k v = true → (∃ i t, k = Sum.inl i ∧ v = Value.int i t) ∨ (∃ x t, k = Sum.inr x ∧ v = Value.str x t)
  | .inl i, v, h => by
    obtain ⟨t, e⟩ := Value.isInt_shape (k := i) (v := v) h
    exact .inl ⟨i, t, rfl, e⟩
  | .inr x, v, h => by
    obtain ⟨t, e⟩ := Value.isStrOf_shape (x := x) (v := v) h
    exact .inr ⟨x, t, rfl, e⟩
theorem keyIs_int (i : Int) (t : Tok) : keyIs (.inl i) (.int i t) = true := by simp [keyIs, Value.isInt]
theorem keyIs_str (x : Str) (t : Tok) : keyIs (.inr x) (.str x t) = true := by simp [keyIs, Value.isStrOf]
theorem key_ll (a b : Int) : decide ((Sum.inl a : Key) = Sum.inl b) = (a == b) := by
  by_cases e : a = b
  · subst e; simp
  · have h : ¬ (Sum.inl a : Key) = Sum.inl b := fun q => e (Sum.inl.inj q)
    rw [decide_eq_false h]
    exact (beq_eq_false_iff_ne.mpr e).symm
theorem key_rr (a b : Str) : decide ((Sum.inr a : Key) = Sum.inr b) = decide (a = b) := by
  by_cases e : a = b
  · subst e; simp
  · have h : ¬ (Sum.inr a : Key) = Sum.inr b := fun q => e (Sum.inr.inj q)
    rw [decide_eq_false h, decide_eq_false e]
theorem key_lr (a : Int) (b : Str) : decide ((Sum.inl a : Key) = Sum.inr b) = false := decide_eq_false (fun q => nomatch q)
theorem key_rl (a : Str) (b : Int) : decide ((Sum.inr a : Key) = Sum.inl b) = false := decide_eq_false (fun q => nomatch q)

def mixKind (prog : Program) (w : World) : PySem.KeyKind prog w Key where
  is := keyIs
  hash := keyH w
  inj := fun v a b ha hb => by
    rcases keyIs_shape ha with ⟨i, t, rfl, rfl⟩ | ⟨x, t, rfl, rfl⟩
    · rcases keyIs_shape hb with ⟨j, u, rfl, e⟩ | ⟨y, u, rfl, e⟩
      · injection e with e1 _; rw [e1]
      · exact nomatch e
    · rcases keyIs_shape hb with ⟨j, u, rfl, e⟩ | ⟨y, u, rfl, e⟩
      · exact nomatch e
      · injection e with e1 _; rw [e1]
  byValue := fun k v h => by
    rcases keyIs_shape h with ⟨i, t, rfl, rfl⟩ | ⟨x, t, rfl, rfl⟩ <;> rfl
  pyHash := fun hv h => by
    rcases keyIs_shape hv with ⟨i, t, rfl, rfl⟩ | ⟨x, t, rfl, rfl⟩
    · exact wpAny_pyHash_int h
    · exact wpAny_pyHash_str h
  eqBool := fun hu hv h => by
    rcases keyIs_shape hu with ⟨i, t, rfl, rfl⟩ | ⟨x, t, rfl, rfl⟩
    · rcases keyIs_shape hv with ⟨j, u, rfl, rfl⟩ | ⟨y, u, rfl, rfl⟩
      · rw [key_ll] at h; exact wpAny_eqBool_int h
      · rw [key_lr] at h; exact SeqAt.EqAt.int_str i t y u _ _ _ _ h
    · rcases keyIs_shape hv with ⟨j, u, rfl, rfl⟩ | ⟨y, u, rfl, rfl⟩
      · rw [key_rl] at h; exact SeqAt.EqAt.str_int x t j u _ _ _ _ h
      · rw [key_rr] at h; exact wpAny_eqBool_str h
  «strs» := fun k x t v h => by
    rcases keyIs_shape h with ⟨i, u, rfl, e⟩ | ⟨y, u, rfl, e⟩
    · exact nomatch e
    · injection e with e1 _
      subst e1
      cases v <;> rfl

theorem mixKind_int (prog : Program) (w : World) (i : Int) (t : Tok) : (mixKind prog w).is (.inl i) (.int i t) = true := keyIs_int i t
theorem mixKind_str (prog : Program) (w : World) (x : Str) (t : Tok) : (mixKind prog w).is (.inr x) (.str x t) = true := keyIs_str x t
end L2

namespace L2
open PySem PySem.Spec PyProof.Rows

/-- a value, without the heap -/
inductive V where
  | non | bl (b : Bool) | int (i : Int) | str (x : Str) | byt (b : Array UInt8) | flt (b : UInt64) | ref (a : Addr) | ty (n : String)
  deriving DecidableEq

def RelV : V → Value → Prop
  | .non, u => u = Value.none
  | .bl b, u => u = Value.bool b
  | .int i, u => ∃ t, u = Value.int i t
  | .str x, u => ∃ t, u = Value.str x t
  | .byt b, u => ∃ t, u = Value.bytes b t
  | .flt b, u => ∃ t, u = Value.float b t
  | .ref a, u => u = Value.ref a
  | .ty n, u => u = Value.type n

abbrev Vals : List V → List Value → Prop := Paired RelV
theorem Vals.length {xs : List V} {us : List Value} (r : Vals xs us) : xs.length = us.length := Paired.length r
theorem Vals.get : ∀ {xs : List V} {us : List Value} {i : Nat} {x : V}, Vals xs us → xs[i]? = some x → ∃ u, us[i]? = some u ∧ RelV x u
  | _, _, _, _, .nil, e => by simp at e
  | _, _, 0, _, .cons r _, e => by simp at e; subst e; exact ⟨_, rfl, r⟩
  | _, _, i + 1, x, .cons _ t, e => by
    obtain ⟨u, h1, h2⟩ := Vals.get (i := i) (x := x) t (by simpa using e)
    exact ⟨u, by simpa using h1, h2⟩
theorem Vals.set {x : V} {u : Value} (r : RelV x u) : ∀ {xs : List V} {us : List Value} (i : Nat), Vals xs us → Vals (xs.set i x) (us.set i u)
  | _, _, _, .nil => .nil
  | _, _, 0, .cons _ t => .cons r t
  | _, _, i + 1, .cons q t => .cons q (Vals.set r i t)
theorem Vals.append : ∀ {xs ys : List V} {us ws : List Value}, Vals xs us → Vals ys ws → Vals (xs ++ ys) (us ++ ws)
  | _, _, _, _, .nil, s => s
  | _, _, _, _, .cons r t, s => .cons r (Vals.append t s)
theorem Vals.take : ∀ {xs : List V} {us : List Value} (n : Nat), Vals xs us → Vals (xs.take n) (us.take n)
  | _, _, 0, _ => .nil
  | _, _, _ + 1, .nil => .nil
  | _, _, n + 1, .cons r t => .cons r (Vals.take n t)
theorem Vals.drop : ∀ {xs : List V} {us : List Value} (n : Nat), Vals xs us → Vals (xs.drop n) (us.drop n)
  | _, _, 0, r => r
  | _, _, _ + 1, .nil => .nil
  | _, _, n + 1, .cons _ t => Vals.drop n t
def RelO : Option V → Option Value → Prop
  | some v, some u => RelV v u
  | none, none => True
  | _, _ => False
def KV {κ : Type} : List (κ × V) → List (κ × Value) → Prop := Paired fun (p : κ × V) (q : κ × Value) => p.1 = q.1 ∧ RelV p.2 q.2

/-- a key of a dict (00_mix): an int or a text -/
def kV : Key → V
  | .inl i => .int i
  | .inr x => .str x

/-- what stands at a tracked address -/
inductive HO where
  /-- a list -/
  | lst (xs : List V)
  /-- a tuple (never changes) -/
  | tup (xs : List V)
  /-- a dict whose keys are ints and texts; one whose keys are tuples of ints and texts (the empty one is both) -/
  | dK (kvs : List (Key × V)) | dT (kvs : List (List Key × V))
  /-- a set of ints: its members, its size -/
  | set (S : Int → Bool) (n : Nat)
  /-- an instance of the class at C, its dict at dx, its attributes -/
  | ins (C dx : Addr) (fs : List (Str × V))
  /-- the dict of the instance at x -/
  | own (x : Addr)
  /-- the dict of an exception -/
  | xd (fs : List (Str × V))
  /-- a bound method, f of x -/
  | met (f x : Addr)
  /-- a range object lo, lo + 1, .. below hi -/
  | rng (lo hi : Int)
  /-- a thing that is known to the object (the script; a dict while a loop walks it): read, never written while it is so -/
  | frz (o : Obj) (u : HO)
  /-- a code object's table -/
  | tbl (ps : Array Value)
  /-- any other thing, by what is true of its one object (a def of one's own: SetO a S n := HO.ext fun h => ..) -/
  | ext (φ : Heap → Prop)

abbrev Hp := Addr → Option HO
def upd (H : Hp) (a : Addr) (o : HO) : Hp := fun b => if b = a then some o else H b
theorem upd_same {H : Hp} {a : Addr} {o : HO} : upd H a o a = some o := by unfold upd; rw [if_pos rfl]
theorem upd_ne {H : Hp} {a b : Addr} {o : HO} (h : b ≠ a) : upd H a o b = H b := by unfold upd; rw [if_neg h]
/-- two objects of different content stand apart -/
theorem ne_of {H : Hp} {a b : Addr} {o u : HO} (h : H a = some o) (h' : H b = some u) (d : o ≠ u) : a ≠ b := by
  intro e; subst e; rw [h] at h'; exact d (Option.some.inj h')
theorem ne_of_none {H : Hp} {a b : Addr} {o : HO} (h : H a = some o) (h' : H b = none) : a ≠ b := by
  intro e; subst e; rw [h] at h'; cases h'

/-- no dict of its own -/
def TD (h : Heap) (a : Addr) : Prop := ∃ o, h.get? a = some o ∧ o.dict = none
section
variable (P : Program) (w : World)
def ObjOk (H : Hp) (h : Heap) (a : Addr) : HO → Prop
  | .lst xs => xs.length ≤ sizeLine ∧ ∃ (its : List Value) (n : Nat), Vals xs its ∧ h.get? a = some { cls := .type "list", data := .seq its.toArray n }
  | .tup xs => xs.length ≤ sizeLine ∧ ∃ its : List Value, Vals xs its ∧ IsTup h a its.toArray ∧ TD h a
  | .dK kvs => kvs.length ≤ sizeLine ∧ (a == sysModules) = false ∧ ∃ vs, KV kvs vs ∧ h.DictOf (mixKind P w) a vs
  | .dT kvs => kvs.length ≤ sizeLine ∧ (a == sysModules) = false ∧ ∃ xs : List (List Key × Addr × Value),
      Paired (fun (p : List Key × V) (q : List Key × Addr × Value) => p.1 = q.1 ∧ H q.2.1 = some (.tup (p.1.map kV)) ∧ RelV p.2 q.2.2) kvs xs ∧
      ∃ o es ep, h.get? a = some o ∧ o.ExactDict ∧ o.data = .dict es ep ∧ es.toList = xs.map (entryOfKey (tupleKind (mixKind P w))) ∧ (xs.map (·.1)).Nodup
  | .set S n => h.SetOf (intKind P w) a S n
  | .ins C dx fs => H dx = some (.own a) ∧ fs.length ≤ 1000 ∧ dx ≠ a ∧ h.get? a = some (PySem.W.instObj C dx) ∧
      ∃ mA, h.Ns1 dx mA ∧ (∀ f, RelO (fs.lookup f) (mA f)) ∧ PySem.Within mA (fs.map (·.1))
  | .own _ => ∃ o, h.get? a = some o
  | .xd fs => ∃ mA, h.Ns1 a mA ∧ ∀ f, RelO (fs.lookup f) (mA f)
  | .rng lo hi => ∃ t u v, h.get? a = some { cls := .type "range", data := .fields #[.int lo t, .int hi u, .int 1 v] }
  | .frz o u => h.get? a = some o ∧ ObjOk H h a u
  | .tbl ps => h.get? a = some { cls := .none, data := .fields ps }
  | .met f x => h.get? a = some (PySem.W.methodObj (.ref f) (.ref x))
  | .ext φ => φ h ∧ (∃ o, h.get? a = some o) ∧ ∀ h1 h2 : Heap, φ h1 → (∀ o, h1.get? a = some o → h2.get? a = some o) → φ h2
/-- the abstract heap is held -/
def HOk (H : Hp) (h : Heap) : Prop := ∀ a o, H a = some o → ObjOk P w H h a o
end

section
variable {P : Program} {w : World} {H H' : Hp} {h h' : Heap} {a : Addr} {o : HO}
theorem ObjOk.lt (x : ObjOk P w H h a o) : a < h.objs.size := by
  cases o with
  | lst xs => obtain ⟨_, _, _, _, e⟩ := x; exact Heap.lt_size e
  | tup xs => obtain ⟨_, _, _, p, _⟩ := x; exact p.lt
  | dK kvs => obtain ⟨_, _, _, _, o, _, _, e, _⟩ := x; exact Heap.lt_size e
  | dT kvs => obtain ⟨_, _, _, _, o, _, _, e, _⟩ := x; exact Heap.lt_size e
  | set S n => obtain ⟨o, _, _, _, e, _⟩ := x; exact Heap.lt_size e
  | ins C dx fs => obtain ⟨_, _, _, e, _⟩ := x; exact Heap.lt_size e
  | own y => obtain ⟨_, e⟩ := x; exact Heap.lt_size e
  | xd fs => obtain ⟨_, ⟨_, _, _, e, _⟩, _⟩ := x; exact Heap.lt_size e
  | rng lo hi => obtain ⟨_, _, _, e⟩ := x; exact Heap.lt_size e
  | frz ob u => obtain ⟨e, _⟩ := x; exact Heap.lt_size e
  | tbl ps => exact Heap.lt_size (show h.get? a = some _ from x)
  | met f y => exact Heap.lt_size (show h.get? a = some _ from x)
  | ext φ => obtain ⟨_, ⟨_, e⟩, _⟩ := x; exact Heap.lt_size e
theorem Paired.mapP {α β : Type} {F G : α → β → Prop} : ∀ {l₁ : List α} {l₂ : List β}, Paired F l₁ l₂ → (∀ a b, F a b → G a b) → Paired G l₁ l₂
  | _, _, .nil, _ => .nil
  | _, _, .cons r t, f => .cons (f _ _ r) (Paired.mapP t f)
theorem Paired.imp' {α β : Type} {F G : α → β → Prop} (f : ∀ a b, F a b → G a b) {l₁ : List α} {l₂ : List β} (r : Paired F l₁ l₂) : Paired G l₁ l₂ := Paired.mapP r f
/-- what an object's description leans on: its own object, its own dict, the tuples -/
theorem ObjOk.stay (x : ObjOk P w H h a o) (k : ∀ b u, (b = a ∨ H b = some (.own a)) → h.get? b = some u → h'.get? b = some u)
    (ho : ∀ b, H b = some (.own a) → H' b = some (.own a)) (ht : ∀ b xs, H b = some (.tup xs) → H' b = some (.tup xs)) : ObjOk P w H' h' a o := by
  induction o with
  | lst xs => obtain ⟨z, its, n, r, e⟩ := x; exact ⟨z, its, n, r, k _ _ (.inl rfl) e⟩
  | tup xs => obtain ⟨z, its, r, ⟨ob, e, c⟩, od, e', c'⟩ := x; exact ⟨z, its, r, ⟨ob, k _ _ (.inl rfl) e, c⟩, od, k _ _ (.inl rfl) e', c'⟩
  | dK kvs => obtain ⟨z, y, vs, r, ob, es, ep, e, c⟩ := x; exact ⟨z, y, vs, r, ob, es, ep, k _ _ (.inl rfl) e, c⟩
  | dT kvs =>
    obtain ⟨z, y, xs, r, ob, es, ep, e, c⟩ := x
    exact ⟨z, y, xs, Paired.mapP r fun p q z => ⟨z.1, ht _ _ z.2.1, z.2.2⟩, ob, es, ep, k _ _ (.inl rfl) e, c⟩
  | set S n => obtain ⟨ob, es, ep, t, e, c⟩ := x; exact ⟨ob, es, ep, t, k _ _ (.inl rfl) e, c⟩
  | ins C dx fs =>
    obtain ⟨d, z, ne, e, mA, ⟨od, es, ep, e2, c⟩, r⟩ := x
    exact ⟨ho _ d, z, ne, k _ _ (.inl rfl) e, mA, ⟨od, es, ep, k _ _ (.inr d) e2, c⟩, r⟩
  | own y => obtain ⟨ob, e⟩ := x; exact ⟨ob, k _ _ (.inl rfl) e⟩
  | xd fs => obtain ⟨mA, ⟨od, es, ep, e, c⟩, r⟩ := x; exact ⟨mA, ⟨od, es, ep, k _ _ (.inl rfl) e, c⟩, r⟩
  | rng lo hi => obtain ⟨t, u, v, e⟩ := x; exact ⟨t, u, v, k _ _ (.inl rfl) e⟩
  | frz ob u ih => obtain ⟨e, q⟩ := x; exact ⟨k _ _ (.inl rfl) e, ih q⟩
  | tbl ps =>
    have e : h.get? a = some { cls := .none, data := .fields ps } := x
    show h'.get? a = some { cls := .none, data := .fields ps }
    exact k a _ (.inl rfl) e
  | met f y =>
    have e : h.get? a = some (PySem.W.methodObj (.ref f) (.ref y)) := x
    show h'.get? a = some (PySem.W.methodObj (.ref f) (.ref y))
    exact k a _ (.inl rfl) e
  | ext φ => obtain ⟨p, ⟨o, e⟩, st⟩ := x; exact ⟨st _ _ p fun o q => k _ _ (.inl rfl) q, ⟨o, k _ _ (.inl rfl) e⟩, st⟩
theorem HOk.lt (x : HOk P w H h) (e : H a = some o) : a < h.objs.size := (x a o e).lt
theorem HOk.fresh (x : HOk P w H h) (e : h.objs.size ≤ a) : H a = none := by
  cases q : H a with
  | none => rfl
  | some u => exact absurd (Nat.lt_of_lt_of_le (x.lt q) e) (Nat.lt_irrefl _)
/-- every object of the heap is kept -/
theorem HOk.kept (x : HOk P w H h) (k : ∀ b u, h.get? b = some u → h'.get? b = some u) : HOk P w H h' := fun a o e =>
  (x a o e).stay (fun b u _ q => k b u q) (fun _ q => q) fun _ _ q => q
/-- a new object is laid and tracked -/
theorem HOk.laid (x : HOk P w H h) (k : ∀ b u, h.get? b = some u → h'.get? b = some u) (hp : h.objs.size ≤ a) (new : ObjOk P w (upd H a o) h' a o) : HOk P w (upd H a o) h' := fun b u e => by
  have hn := x.fresh hp
  by_cases hb : b = a
  · subst hb; rw [upd_same] at e; cases e; exact new
  · rw [upd_ne hb] at e
    exact (x b u e).stay (fun c v _ q => k c v q) (fun c q => by rw [upd_ne (ne_of_none q hn)]; exact q) fun c xs q => by rw [upd_ne (ne_of_none q hn)]; exact q
end

/-- what may be read as u: it is u, or a known u -/
def Rd (H : Hp) (a : Addr) (u : HO) : Prop := H a = some u ∨ ∃ o, H a = some (.frz o u)
theorem Rd.of {H : Hp} {a : Addr} {u : HO} (h : H a = some u) : Rd H a u := .inl h
theorem Rd.ok {P : Program} {w : World} {H : Hp} {h : Heap} {a : Addr} {u : HO} (r : Rd H a u) (x : HOk P w H h) : ObjOk P w H h a u := by
  rcases r with r | ⟨o, r⟩
  · exact x a u r
  · obtain ⟨_, q⟩ := x a _ r
    exact q
/-- what may be written -/
def Mut : Option HO → Prop
  | some (.lst _) => True
  | some (.dK _) => True
  | some (.dT _) => True
  | some (.set _ _) => True
  | some (.ins _ _ _) => True
  | some (.ext _) => True
  | _ => False
section
variable {P : Program} {w : World} {H : Hp} {h h' : Heap} {x e : Addr} {o' : HO}
/-- the object at e is changed: x itself, or the dict of the instance x -/
theorem HOk.write (ok : HOk P w H h) (mu : Mut (H x)) (he : e = x ∨ H e = some (.own x)) (k : ∀ b u, b ≠ e → h.get? b = some u → h'.get? b = some u) (heo : ∃ u, h'.get? e = some u)
    (new : ObjOk P w (upd H x o') h' x o') : HOk P w (upd H x o') h' := fun b u q => by
  have nown : ∀ c y, H c = some (.own y) → c ≠ x := fun c y r z => by subst z; rw [r] at mu; exact mu
  have ntup : ∀ c xs, H c = some (.tup xs) → c ≠ x := fun c xs r z => by subst z; rw [r] at mu; exact mu
  by_cases hb : b = x
  · subst hb; rw [upd_same] at q; cases q; exact new
  · rw [upd_ne hb] at q
    by_cases hbe : b = e
    · have q' : H b = some (.own x) := by
        rcases he with z | z
        · exact absurd (hbe.trans z) hb
        · rw [hbe]; exact z
      rw [q] at q'; cases q'
      obtain ⟨v, hv⟩ := heo
      exact ⟨v, by rw [hbe]; exact hv⟩
    · refine (ok b u q).stay (fun c v hc r => k c v ?_ r) (fun c r => by rw [upd_ne (nown c b r)]; exact r) fun c xs r => by rw [upd_ne (ntup c xs r)]; exact r
      rcases hc with rfl | hc
      · exact hbe
      · rintro rfl
        rcases he with z | z
        · exact nown c b hc z
        · rw [hc] at z; cases z; exact hb rfl
end

/-! ### kept unless tracked; of the frames at fs (the callers') the slots may change (an exception that passes writes there); of the records at ex (iterators) nothing is said -/
structure Un (fs ex : List Addr) (H H' : Hp) (h h' : Heap) : Prop where
  keep : ∀ b o, h.get? b = some o → H b = none → b ∉ fs → b ∉ ex → h'.get? b = some o
  slot : ∀ b o, h.get? b = some o → H b = none → b ∈ fs → b ∉ ex → ∃ sl, h'.get? b = some { o with slots := sl }
  free : ∀ b o, h.get? b = some o → H b = none → b ∉ ex → H' b = none
  there : ∀ b o, h.get? b = some o → b ∉ ex → ∃ o', h'.get? b = some o'
  tups : ∀ b xs, H b = some (.tup xs) → H' b = some (.tup xs)
  frzs : ∀ b o u, H b = some (.frz o u) → H' b = some (.frz o u)
  tbls : ∀ b ps, H b = some (.tbl ps) → ∃ more, H' b = some (.tbl (ps ++ more))
section
variable {fs fs' ex ex' : List Addr} {H H1 H2 : Hp} {h h1 h2 h' : Heap} {a x e : Addr} {o : HO}
theorem Un.any (u : Un fs ex H H1 h h1) {b : Addr} {ob : Obj} (q : h.get? b = some ob) (n : H b = none) (hx : b ∉ ex) : ∃ sl, h1.get? b = some { ob with slots := sl } := by
  by_cases hb : b ∈ fs
  · exact u.slot b ob q n hb hx
  · exact ⟨ob.slots, u.keep b ob q n hb hx⟩
theorem Un.trans (a : Un fs ex H H1 h h1) (b : Un fs ex H1 H2 h1 h2) : Un fs ex H H2 h h2 where
  keep := fun c ob q n hc hx => b.keep c ob (a.keep c ob q n hc hx) (a.free c ob q n hx) hc hx
  slot := fun c ob q n hc hx => by
    obtain ⟨sl, e1⟩ := a.slot c ob q n hc hx
    obtain ⟨sl', e2⟩ := b.slot c _ e1 (a.free c ob q n hx) hc hx
    exact ⟨sl', e2⟩
  free := fun c ob q n hx => by
    obtain ⟨o', e1⟩ := a.there c ob q hx
    exact b.free c o' e1 (a.free c ob q n hx) hx
  there := fun c ob q hx => by
    obtain ⟨o', e1⟩ := a.there c ob q hx
    exact b.there c o' e1 hx
  tups := fun c xs q => b.tups c xs (a.tups c xs q)
  frzs := fun c ob xs q => b.frzs c ob xs (a.frzs c ob xs q)
  tbls := fun c ps q => by
    obtain ⟨m1, e1⟩ := a.tbls c ps q
    obtain ⟨m2, e2⟩ := b.tbls c _ e1
    exact ⟨m1 ++ m2, by rw [e2, Array.append_assoc]⟩
theorem Un.kept (k : ∀ b u, h.get? b = some u → h'.get? b = some u) : Un fs ex H H h h' :=
  ⟨fun b ob q _ _ _ => k b ob q, fun b ob q _ _ _ => ⟨ob.slots, k b ob q⟩, fun _ _ _ n _ => n, fun b ob q _ => ⟨ob, k b ob q⟩, fun _ _ q => q, fun _ _ _ q => q, fun _ ps q => ⟨#[], by rw [q]; simp⟩⟩
theorem Un.refl : Un fs ex H H h h := Un.kept fun _ _ q => q
theorem Un.laid (k : ∀ b u, h.get? b = some u → h'.get? b = some u) (hp : h.objs.size ≤ a) (hn : H a = none) : Un fs ex H (upd H a o) h h' where
  keep := fun b u q _ _ _ => k b u q
  slot := fun b u q _ _ _ => ⟨u.slots, k b u q⟩
  free := fun b u q n _ => by rw [upd_ne (Nat.ne_of_lt (Nat.lt_of_lt_of_le (Heap.lt_size q) hp))]; exact n
  there := fun b u q _ => ⟨u, k b u q⟩
  tups := fun b xs q => by rw [upd_ne (ne_of_none q hn)]; exact q
  frzs := fun b u xs q => by rw [upd_ne (ne_of_none q hn)]; exact q
  tbls := fun b ps q => ⟨#[], by rw [upd_ne (ne_of_none q hn), q]; simp⟩
theorem Un.write (mu : Mut (H x)) (he : e = x ∨ H e = some (.own x)) (k : ∀ b u, b ≠ e → h.get? b = some u → h'.get? b = some u) (heo : ∃ u, h'.get? e = some u) : Un fs ex H (upd H x o) h h' := by
  have hx : ∀ b, H b = none → b ≠ x := fun b n z => by subst z; rw [n] at mu; exact mu
  have hb : ∀ b, H b = none → b ≠ e := fun b n z => by
    subst z
    rcases he with r | r
    · exact hx b n r
    · rw [n] at r; cases r
  have hm : ∀ b u, H b = some u → ¬ Mut (some u) → b ≠ x := fun b u q nm z => by subst z; rw [q] at mu; exact nm mu
  refine ⟨fun b u q n _ _ => k b u (hb b n) q, fun b u q n _ _ => ⟨u.slots, k b u (hb b n) q⟩, fun b u q n _ => by rw [upd_ne (hx b n)]; exact n, fun b u q _ => ?_,
    fun b xs q => by rw [upd_ne (hm b _ q fun z => z)]; exact q, fun b u xs q => by rw [upd_ne (hm b _ q fun z => z)]; exact q, fun b ps q => ⟨#[], by rw [upd_ne (hm b _ q fun z => z), q]; simp⟩⟩
  by_cases hbe : b = e
  · subst hbe; exact heo
  · exact ⟨u, k b u hbe q⟩
theorem Un.mono (u : Un fs ex H H1 h h1) (hs : ∀ b ∈ fs, b ∈ fs') (hx : ∀ b ∈ ex, b ∈ ex') : Un fs' ex' H H1 h h1 :=
  ⟨fun b ob q n hb he => u.keep b ob q n (fun z => hb (hs b z)) fun z => he (hx b z), fun _ _ q n _ he => u.any q n fun z => he (hx _ z), fun b ob q n he => u.free b ob q n fun z => he (hx b z), fun b ob q he => u.there b ob q fun z => he (hx b z), u.tups, u.frzs, u.tbls⟩
end

/-! ### the heap without what is tracked -/
def trk (h : Heap) (H : Hp) : List Addr := (List.range h.objs.size).filter fun a => (H a).isSome
def hidT (h : Heap) (H : Hp) : Heap := PySem.W.hideAll h (trk h H)
theorem hidT_size (h : Heap) (H : Hp) : (hidT h H).objs.size = h.objs.size := PySem.W.hideAll_size _ _
theorem hidT_get {h : Heap} {H : Hp} {b : Addr} {o : Obj} (e : h.get? b = some o) (n : H b = none) : (hidT h H).get? b = some o :=
  PySem.W.hideAll_get _ e fun hm => by
    have q : (H b).isSome = true := (List.mem_filter.mp hm).2
    rw [n] at q; simp at q
theorem of_hidT {h : Heap} {H : Hp} {b : Addr} {o : Obj} (e : (hidT h H).get? b = some o) : h.get? b = some o ∧ H b = none := by
  have e' : h.get? b = some o := PySem.W.of_hideAll (trk h H) e
  refine ⟨e', ?_⟩
  cases q : H b with
  | none => rfl
  | some x =>
    have hm : b ∈ trk h H := List.mem_filter.mpr ⟨List.mem_range.mpr (Heap.lt_size e'), by simp [q]⟩
    have z : (hidT h H).get? b = none := PySem.W.hideAll_none (trk h H) hm
    rw [z] at e; cases e

/-! ### OpenK's ledger, filled with every new object but one -/
def allNews (g h : Heap) (L : Addr) : List (Addr × Obj) := (List.range h.objs.size).filterMap fun a => if a = L ∨ (g.get? a).isSome = true then none else (h.get? a).map fun o => (a, o)
def rest (g h : Heap) (L d : Addr) : List (Addr × Obj) := (allNews g h L).filter fun p => decide (p.1 ≠ d)
end L2

namespace L2
open PySem PySem.Spec PyProof.Rows

/-- the module's facts, over the base: the heap at the law's entry without what is tracked there -/
structure Mod (K : PySem.W.Frag) (mg : Str → Option Value) (base : Heap) : Prop where
  kin : K.In base
  glob : base.Ns mainGlobals mg
  blt : ∃ mb, base.Ns builtinsNs mb ∧ ∀ x : Str, x ≠ "__name__" → mb x = bootBuiltins x
  nolimit : base.NoLimit

/-- the context: a def's body (or a comprehension's block) running. base: fixed through the whole law; s₀, H₀: the entry; outer: the frames whose slots others may change (a def's callers); stack: all frames that run;
   ex: iterators that were made ahead of the entry and are walked here (a comprehension's); fn: the names whose cells were made at the entry (a def: all; a comprehension's block: its own); calm: not within an except suite; pn: pins that every state bears; xe: what is wanted of an exception that leaves the code -/
structure Cx where
  prog : Program
  w : World
  K : PySem.W.Frag
  mg : Str → Option Value
  base : Heap
  A : Around
  N : List Str
  s_0 : Shared
  H_0 : Hp
  env : Env
  outer : List Env
  stack : List Env
  ex : List Addr
  fn : Str → Bool
  calm : Bool
  pn : List (Addr × Obj)
  xe : Value → Shared → Prop
  gq : Array GenState → Drawn → Prop
  fr : Prop
/-- the callers' frames -/
def frs (l : List Env) : List Addr := l.filterMap (·.frame)
abbrev Cx.fs (X : Cx) : List Addr := frs X.outer

def Vis (sc : Scope) (x : Str) : Prop := sc.names.lookup x = some .local ∨ sc.names.lookup x = some .cell ∨ sc.names.lookup x = some .free
def Loc (sc : Scope) (x : Str) : Prop := sc.names.lookup x = some .local ∨ sc.names.lookup x = some .cell
def Look (env : Env) (h : Heap) (m : Str → Option Value) (x : Str) (u : Value) : Prop :=
  (env.kindOf x = some .local ∧ m x = some u) ∨ ((env.kindOf x = some .cell ∨ env.kindOf x = some .free) ∧ ∃ c, env.cells.lookup x = some c ∧ h.IsCell c (some u))

structure Cx.Ok (X : Cx) : Prop where
  mod : Mod X.K X.mg X.base
  kind : X.env.scope.kind = .function
  glob : X.env.globals = mainGlobals
  blt : X.env.builtins = builtinsNs
  above : X.s_0.heap.objs.size ≤ X.env.locals
  inj : ∀ x y c, X.env.cells.lookup x = some c → X.env.cells.lookup y = some c → x = y
  has : ∀ x, (X.env.kindOf x = some .cell ∨ X.env.kindOf x = some .free) → ∃ c, X.env.cells.lookup x = some c
  cab : ∀ x c, X.fn x = true → X.env.cells.lookup x = some c → X.s_0.heap.objs.size ≤ c
  hd : X.calm = true → X.A.handled = none
  frames : X.fr → X.A.frames = some X.stack ∧ X.A.guards = some []
  stk : X.stack = X.outer ∨ (X.stack = X.env :: X.outer ∧ X.env.frame = some X.env.locals)
  exf : ∀ b ∈ X.ex, b ≠ X.env.locals ∧ ∀ x c, X.env.cells.lookup x = some c → c ≠ b
  bs : ∀ b o, X.base.get? b = some o → X.s_0.heap.get? b = some o ∧ X.H_0 b = none
  bsz : X.base.objs.size ≤ X.s_0.heap.objs.size
  noex : ∀ b o, X.base.get? b = some o → b ∉ X.ex
  exfs : ∀ b ∈ X.ex, b ∉ X.fs
  funs : X.s_0.heap.FunFrames X.base X.outer
  frf : ∀ b ∈ X.fs, X.H_0 b = none

structure Inv (X : Cx) (pins : List (Addr × Obj)) (σ : List (Option V)) (H : Hp) (s : Shared) : Prop where
  ok : X.Ok
  os : s.os = X.s_0.os
  bare : X.gq s.gens s.drawn
  base : Un X.fs X.ex X.H_0 H X.s_0.heap s.heap
  loc : ∃ m, s.heap.Ns X.env.locals m ∧ ∀ (i : Nat) (x : Str) (v : V), X.N[i]? = some x → σ[i]? = some (some v) → Vis X.env.scope x → ∃ u, RelV v u ∧ Look X.env s.heap m x u
  cell : ∀ x c, X.env.cells.lookup x = some c → ∃ v, s.heap.IsCell c v
  free : H X.env.locals = none
  freeC : ∀ x c, X.env.cells.lookup x = some c → H c = none
  pin : ∀ p ∈ X.pn ++ pins, s.heap.get? p.1 = some p.2 ∧ H p.1 = none ∧ p.1 ≠ X.env.locals ∧ p.1 ∉ X.fs ∧ ∀ v, p.2.data ≠ .cell v
  hok : HOk X.prog X.w H s.heap
  len : σ.length = X.N.length

section
variable {X : Cx} {pins : List (Addr × Obj)} {σ : List (Option V)} {H H' : Hp} {s : Shared} {h' : Heap}

theorem Cx.Ok.nofr (ok : X.Ok) {b : Addr} {o : Obj} (e : X.base.get? b = some o) : b ∉ X.fs := fun hb => by
  have := (ok.funs.mem hb).1
  rw [e] at this; cases this
theorem Inv.bs (I : Inv X pins σ H s) : ∀ b o, X.base.get? b = some o → s.heap.get? b = some o ∧ H b = none := fun b o e =>
  ⟨I.base.keep b o (I.ok.bs b o e).1 (I.ok.bs b o e).2 (I.ok.nofr e) (I.ok.noex b o e), I.base.free b o (I.ok.bs b o e).1 (I.ok.bs b o e).2 (I.ok.noex b o e)⟩
theorem Inv.bk (I : Inv X pins σ H s) : ∀ b o, X.base.get? b = some o → s.heap.get? b = some o := fun b o e => (I.bs b o e).1
theorem Inv.mod (I : Inv X pins σ H s) : Mod X.K X.mg X.base := I.ok.mod
theorem Inv.kIn (I : Inv X pins σ H s) : X.K.In s.heap := I.ok.mod.kin.keeps I.bk
theorem Inv.nolimit (I : Inv X pins σ H s) : s.heap.NoLimit := I.ok.mod.nolimit.keeps I.bk
/-- the frame over the base: for OpenK's rules (K.In X.base is I.mod.kin) -/
theorem Inv.fr (I : Inv X pins σ H s) : ∃ m, Fr X.base X.env.locals s.heap m :=
  let ⟨m, hn, _⟩ := I.loc
  ⟨m, hn, I.bk, Nat.le_trans I.ok.bsz I.ok.above⟩
theorem Inv.lt (I : Inv X pins σ H s) : X.env.locals < s.heap.objs.size := let ⟨_, hn, _⟩ := I.loc; hn.lt
theorem Inv.sz (I : Inv X pins σ H s) : X.s_0.heap.objs.size ≤ s.heap.objs.size := Nat.le_trans I.ok.above (Nat.le_of_lt I.lt)
theorem Inv.nofs (I : Inv X pins σ H s) {a : Addr} (h : s.heap.objs.size ≤ a) : a ∉ X.fs := fun hb => by
  obtain ⟨_, o, ho, _⟩ := I.ok.funs.mem hb
  exact absurd (Nat.lt_of_lt_of_le (Heap.lt_size ho) (Nat.le_trans I.sz h)) (Nat.lt_irrefl _)
theorem Inv.cne (I : Inv X pins σ H s) : ∀ x c, X.env.cells.lookup x = some c → c ≠ X.env.locals := fun x c e z => by
  obtain ⟨v, o, ho, hd⟩ := I.cell x c e
  obtain ⟨m, ⟨o', es, ep, ho', hd', _⟩, _⟩ := I.loc
  rw [z, ho'] at ho; cases ho; rw [hd'] at hd; cases hd
theorem Inv.funs (I : Inv X pins σ H s) : s.heap.FunFrames X.base X.outer := by
  have all : ∀ (l : List Env), (∀ b ∈ frs l, b ∈ X.fs) → X.s_0.heap.FunFrames X.base l → s.heap.FunFrames X.base l := by
    intro l
    induction l with
    | nil => intro _ _; trivial
    | cons env r ih =>
      intro hs hl
      obtain ⟨hk, ⟨L, o, hf, hn, ho, hd⟩, hr⟩ := hl
      have hL : L ∈ X.fs := hs L (by unfold frs; rw [List.filterMap_cons, hf]; exact List.mem_cons_self)
      obtain ⟨sl, e⟩ := I.base.slot L o ho (I.ok.frf L hL) hL fun z => I.ok.exfs L z hL
      exact ⟨hk, ⟨L, _, hf, hn, e, hd⟩, ih (fun b hb => hs b (by unfold frs; rw [List.filterMap_cons, hf]; exact List.mem_cons_of_mem _ hb)) hr⟩
  exact all X.outer (fun _ hb => hb) I.ok.funs

/-- the frames that run, for a call -/
theorem Inv.stack (I : Inv X pins σ H s) : s.heap.FunFrames X.base X.stack := by
  rcases I.ok.stk with e | ⟨e, hf⟩
  · rw [e]; exact I.funs
  · rw [e]
    obtain ⟨m, hn, _⟩ := I.loc
    refine .cons (by rw [I.ok.kind]; decide) hf hn ?_ I.funs
    exact Heap.get?_none_of_le (Nat.le_trans I.ok.bsz I.ok.above)
theorem Inv.stkSub (I : Inv X pins σ H s) : ∀ b ∈ frs X.stack, b ∈ X.env.locals :: X.fs := fun b hb => by
  rcases I.ok.stk with e | ⟨e, hf⟩
  · rw [e] at hb; exact List.mem_cons_of_mem _ hb
  · rw [e] at hb
    unfold frs at hb
    rw [List.filterMap_cons, hf] at hb
    exact hb
theorem Inv.stkFree (I : Inv X pins σ H s) : ∀ b ∈ frs X.stack, H b = none := fun b hb => by
  rcases List.mem_cons.mp (I.stkSub b hb) with e | hb
  · rw [e]; exact I.free
  · obtain ⟨_, o, ho, _⟩ := I.ok.funs.mem hb
    exact I.base.free b o ho (I.ok.frf b hb) fun z => I.ok.exfs b z hb

/-- THE STEP: the untracked objects but the frame and the records at ch are kept (the callers' frames up to slots), the frame's map is kept, the new abstract heap is held -/
theorem Inv.step {g' : Array GenState} {t' : Nat} {d' : Drawn} {ch : List Addr} (I : Inv X pins σ H s)
    (hch : ∀ b ∈ ch, (b ∈ X.ex ∨ X.s_0.heap.objs.size ≤ b) ∧ b ≠ X.env.locals ∧ (∀ x c, X.env.cells.lookup x = some c → c ≠ b) ∧ ∀ p ∈ X.pn ++ pins, p.1 ≠ b)
    (keep : ∀ b o, b ≠ X.env.locals → b ∉ X.fs → b ∉ ch → s.heap.get? b = some o → H b = none → h'.get? b = some o)
    (slot : ∀ b o, b ≠ X.env.locals → b ∈ X.fs → b ∉ ch → s.heap.get? b = some o → H b = none → ∃ sl, h'.get? b = some { o with slots := sl }) (free : ∀ b o, b ∉ ch → s.heap.get? b = some o → H b = none → H' b = none)
    (there : ∀ b o, b ∉ ch → s.heap.get? b = some o → ∃ o', h'.get? b = some o')
    (tups : ∀ b xs, H b = some (.tup xs) → H' b = some (.tup xs)) (frzs : ∀ b o u, H b = some (.frz o u) → H' b = some (.frz o u)) (tbls : ∀ b ps, H b = some (.tbl ps) → ∃ more, H' b = some (.tbl (ps ++ more)))
    (ns : ∀ m, s.heap.Ns X.env.locals m → h'.Ns X.env.locals m) (hok : HOk X.prog X.w H' h') (hg : X.gq g' d') :
    Inv X pins σ H' { s with heap := h', gens := g', drawn := d', toks := t' } := by
  have neL : ∀ b o, X.s_0.heap.get? b = some o → b ≠ X.env.locals := fun b o e => Nat.ne_of_lt (Nat.lt_of_lt_of_le (Heap.lt_size e) I.ok.above)
  have neC : ∀ b o, X.s_0.heap.get? b = some o → b ∉ X.ex → b ∉ ch := fun b o e hx hb => by
    rcases (hch b hb).1 with z | z
    · exact hx z
    · exact absurd (Nat.lt_of_lt_of_le (Heap.lt_size e) z) (Nat.lt_irrefl _)
  have cellK : ∀ x c, X.env.cells.lookup x = some c → ∀ v, s.heap.IsCell c v → h'.IsCell c v := fun x c e v ⟨o, ho, hd⟩ => by
    have nch : c ∉ ch := fun z => (hch c z).2.2.1 x c e rfl
    by_cases hc : c ∈ X.fs
    · obtain ⟨sl, q⟩ := slot c o (I.cne x c e) hc nch ho (I.freeC x c e)
      exact ⟨_, q, hd⟩
    · exact ⟨o, keep c o (I.cne x c e) hc nch ho (I.freeC x c e), hd⟩
  refine ⟨I.ok, I.os, hg, ⟨fun b o e n hb hx => ?_, fun b o e n hb hx => ?_, fun b o e n hx => ?_, fun b o e hx => ?_, fun b xs e => tups b xs (I.base.tups b xs e), fun b o xs e => frzs b o xs (I.base.frzs b o xs e), fun b ps e => ?_⟩, ?_, fun x c e => ?_, ?_, fun x c e => ?_, fun p hp => ?_, hok, I.len⟩
  · exact keep b o (neL b o e) hb (neC b o e hx) (I.base.keep b o e n hb hx) (I.base.free b o e n hx)
  · obtain ⟨sl, e1⟩ := I.base.slot b o e n hb hx
    obtain ⟨sl', e2⟩ := slot b _ (neL b o e) hb (neC b o e hx) e1 (I.base.free b o e n hx)
    exact ⟨sl', e2⟩
  · obtain ⟨o', e1⟩ := I.base.there b o e hx
    exact free b o' (neC b o e hx) e1 (I.base.free b o e n hx)
  · obtain ⟨o', e1⟩ := I.base.there b o e hx
    exact there b o' (neC b o e hx) e1
  · obtain ⟨m1, e1⟩ := I.base.tbls b ps e
    obtain ⟨m2, e2⟩ := tbls b _ e1
    exact ⟨m1 ++ m2, by rw [e2, Array.append_assoc]⟩
  · obtain ⟨m, hn, hl⟩ := I.loc
    refine ⟨m, ns m hn, fun i x v e1 e2 e3 => ?_⟩
    obtain ⟨u, r, l⟩ := hl i x v e1 e2 e3
    refine ⟨u, r, ?_⟩
    rcases l with l | ⟨k, c, e, z⟩
    · exact .inl l
    · exact .inr ⟨k, c, e, cellK x c e _ z⟩
  · obtain ⟨v, z⟩ := I.cell x c e
    exact ⟨v, cellK x c e v z⟩
  · obtain ⟨m, ⟨o, _, _, ho, _⟩, _⟩ := I.loc
    exact free _ o (fun z => (hch _ z).2.1 rfl) ho I.free
  · obtain ⟨v, o, ho, hd⟩ := I.cell x c e
    exact free c o (fun z => (hch c z).2.2.1 x c e rfl) ho (I.freeC x c e)
  · obtain ⟨e, n, ne, nf, d⟩ := I.pin p hp
    have nch : p.1 ∉ ch := fun z => (hch p.1 z).2.2.2 p hp rfl
    exact ⟨keep p.1 p.2 ne nf nch e n, free p.1 p.2 nch e n, ne, nf, d⟩
/-- .. where the frame's own object is kept too -/
theorem Inv.un {t' : Nat} (I : Inv X pins σ H s) (u : Un X.fs [] H H' s.heap h') (hok : HOk X.prog X.w H' h') : Inv X pins σ H' { s with heap := h', toks := t' } := by
  obtain ⟨m, ⟨o, es, ep, ho, r⟩, _⟩ := id I.loc
  obtain ⟨sl, hL⟩ := u.any ho I.free (by simp)
  exact I.step (g' := s.gens) (d' := s.drawn) (ch := []) (fun _ z => nomatch z) (fun b o _ hb _ e n => u.keep b o e n hb (by simp)) (fun b o _ hb _ e n => u.slot b o e n hb (by simp)) (fun b o _ e n => u.free b o e n (by simp)) (fun b o _ e => u.there b o e (by simp)) u.tups u.frzs u.tbls (fun m' hm => by
    obtain ⟨o', es', ep', ho', r'⟩ := hm
    rw [ho] at ho'; cases ho'
    exact ⟨_, es', ep', hL, r'⟩) hok I.bare
/-- behind a call (or a comprehension's block): the slots of this frame may have changed too, the records at ch may have turned -/
theorem Inv.call {g' : Array GenState} {t' : Nat} {d' : Drawn} {ch : List Addr} (I : Inv X pins σ H s) (u : Un (frs X.stack) ch H H' s.heap h') (hok : HOk X.prog X.w H' h') (hg : X.gq g' d')
    (hch : ∀ b ∈ ch, (b ∈ X.ex ∨ X.s_0.heap.objs.size ≤ b) ∧ b ≠ X.env.locals ∧ (∀ x c, X.env.cells.lookup x = some c → c ≠ b) ∧ ∀ p ∈ X.pn ++ pins, p.1 ≠ b) :
    Inv X pins σ H' { s with heap := h', gens := g', drawn := d', toks := t' } := by
  obtain ⟨m, ⟨o, es, ep, ho, r⟩, _⟩ := id I.loc
  obtain ⟨sl, hL⟩ := u.any ho I.free fun z => (hch _ z).2.1 rfl
  exact I.step (ch := ch) hch (fun b o hL hb hc e n => u.keep b o e n (fun z => (List.mem_cons.mp (I.stkSub b z)).elim hL hb) hc) (fun b o _ _ hc e n => u.any e n hc) (fun b o hc e n => u.free b o e n hc) (fun b o hc e => u.there b o e hc) u.tups u.frzs u.tbls (fun m' hm => by
    obtain ⟨o', es', ep', ho', r'⟩ := hm
    rw [ho] at ho'; cases ho'
    exact ⟨_, es', ep', hL, r'⟩) hok hg
/-- an untracked record of ours (an iterator) has turned -/
theorem Inv.turned {t' : Nat} {it : Addr} (I : Inv X pins σ H s) (k : ∀ b o, b ≠ it → s.heap.get? b = some o → h'.get? b = some o) (hn : H it = none) (hL : it ≠ X.env.locals)
    (h1 : it ∈ X.ex ∨ X.s_0.heap.objs.size ≤ it) (h2 : ∀ x c, X.env.cells.lookup x = some c → c ≠ it) (h3 : ∀ p ∈ X.pn ++ pins, p.1 ≠ it) : Inv X pins σ H { s with heap := h', toks := t' } := by
  have nit : ∀ b u, H b = some u → b ≠ it := fun b u e z => by rw [z, hn] at e; cases e
  refine I.step (g' := s.gens) (d' := s.drawn) (ch := [it]) (fun b hb => ?_) (fun b o _ _ hc e _ => k b o (fun z => hc (by simp [z])) e) (fun b o _ _ hc e _ => ⟨o.slots, k b o (fun z => hc (by simp [z])) e⟩) (fun _ _ _ _ n => n)
    (fun b o hc e => ⟨o, k b o (fun z => hc (by simp [z])) e⟩) (fun _ _ e => e) (fun _ _ _ e => e) (fun b ps e => ⟨#[], by rw [e]; simp⟩) (fun m hm => ?_) (fun b u e => ?_) I.bare
  · have e : b = it := by simpa using hb
    subst e
    exact ⟨h1, hL, h2, h3⟩
  · obtain ⟨o, es, ep, ho, r⟩ := hm
    exact ⟨o, es, ep, k _ o (Ne.symm hL) ho, r⟩
  · refine (I.hok b u e).stay (fun c v hc q => k c v ?_ q) (fun _ q => q) fun _ _ q => q
    rcases hc with z | z
    · rw [z]; exact nit b u e
    · exact nit c _ z
theorem Inv.tok (I : Inv X pins σ H s) (t : Nat) : Inv X pins σ H { s with toks := t } := I.un (h' := s.heap) (t' := t) Un.refl I.hok
/-- all objects kept -/
theorem Inv.kept {t' : Nat} (I : Inv X pins σ H s) (k : ∀ b u, s.heap.get? b = some u → h'.get? b = some u) : Inv X pins σ H { s with heap := h', toks := t' } := I.un (Un.kept k) (I.hok.kept k)
/-- a new object laid and tracked -/
theorem Inv.laid {a : Addr} {o : HO} {t' : Nat} (I : Inv X pins σ H s) (k : ∀ b u, s.heap.get? b = some u → h'.get? b = some u) (hp : s.heap.objs.size ≤ a) (new : ObjOk X.prog X.w (upd H a o) h' a o) :
    Inv X pins σ (upd H a o) { s with heap := h', toks := t' } := I.un (Un.laid k hp (I.hok.fresh hp)) (I.hok.laid k hp new)
/-- an object written -/
theorem Inv.write {x e : Addr} {o : HO} {t' : Nat} (I : Inv X pins σ H s) (mu : Mut (H x)) (he : e = x ∨ H e = some (.own x)) (k : ∀ b u, b ≠ e → s.heap.get? b = some u → h'.get? b = some u) (heo : ∃ u, h'.get? e = some u)
    (new : ObjOk X.prog X.w (upd H x o) h' x o) : Inv X pins σ (upd H x o) { s with heap := h', toks := t' } := I.un (Un.write mu he k heo) (I.hok.write mu he k heo new)
/-- forgetting slots, pins -/
theorem Inv.weak {σ' : List (Option V)} (I : Inv X pins σ H s) (hl : σ'.length = σ.length) (w : ∀ (i : Nat) v, σ'[i]? = some (some v) → σ[i]? = some (some v)) : Inv X pins σ' H s :=
  ⟨I.ok, I.os, I.bare, I.base, let ⟨m, hn, hl'⟩ := I.loc; ⟨m, hn, fun i x v e1 e2 e3 => hl' i x v e1 (w i v e2) e3⟩, I.cell, I.free, I.freeC, I.pin, I.hok, hl.trans I.len⟩
theorem Inv.pins_of {pins' : List (Addr × Obj)} (I : Inv X pins σ H s) (h : ∀ p ∈ pins', s.heap.get? p.1 = some p.2 ∧ H p.1 = none ∧ p.1 ≠ X.env.locals ∧ p.1 ∉ X.fs ∧ ∀ v, p.2.data ≠ .cell v) : Inv X pins' σ H s :=
  ⟨I.ok, I.os, I.bare, I.base, I.loc, I.cell, I.free, I.freeC, fun p hp => (List.mem_append.mp hp).elim (fun z => I.pin p (List.mem_append_left _ z)) (h p), I.hok, I.len⟩

theorem nodup_ix {N : List Str} (hN : N.Nodup) {i j : Nat} {x : Str} (a : N[i]? = some x) (b : N[j]? = some x) : i = j := by
  obtain ⟨h1, e1⟩ := List.getElem?_eq_some_iff.mp a
  obtain ⟨h2, e2⟩ := List.getElem?_eq_some_iff.mp b
  exact (List.getElem_inj hN).mp (e1.trans e2.symm)

/-- a name is stored; what changed -/
theorem store_ok2 {M : Model} {A : Around} {E : Value → Shared → Prop} {i : Nat} {x : Str} {v : V} {u : Value} {Q : Unit → Shared → Prop} (I : Inv X pins σ H s) (hN : X.N.Nodup) (hi : X.N[i]? = some x) (hx : Loc X.env.scope x) (r : RelV v u)
    (h : ∀ s', Inv X pins (σ.set i (some v)) H s' → (∃ a, Heap.SameBut a s.heap s'.heap ∧ (a = X.env.locals ∨ X.env.cells.lookup x = some a)) → Q () s') (hf : X.fn x = true ∨ X.env.scope.names.lookup x = some .local := by first | exact .inl rfl | exact .inr rfl | assumption) : wpAny M A (storeName X.env x u) Q E s := by
  obtain ⟨m, hn, hl⟩ := id I.loc
  have hcls : (X.env.scope.kind == .class || (X.env.scope.kind == .module && X.env.locals != X.env.globals)) = false := by rw [I.ok.kind]; rfl
  have hiσ : i < σ.length := by rw [I.len]; exact (List.getElem?_eq_some_iff.mp hi).1
  have cne := I.cne
  have tracked : ∀ {a : Addr} {h' : Heap}, (∃ o, s.heap.get? a = some o ∧ H a = none) → Heap.SameBut a s.heap h' → HOk X.prog X.w H h' := fun {a h'} ha hs b ob e => by
    obtain ⟨_, _, hfree⟩ := ha
    refine (I.hok b ob e).stay (fun c w' hc q => (hs.2 c ?_).trans q) (fun _ q => q) fun _ _ q => q
    rintro rfl
    rcases hc with rfl | hc
    · rw [hfree] at e; cases e
    · rw [hfree] at hc; cases hc
  rcases hx with hk | hk
  · refine wpAny_storeName_local hk hn (fun h' hn' hs => ?_) hcls
    obtain ⟨oL, _, _, hoL, _⟩ := id hn
    refine h _ ⟨I.ok, I.os, I.bare, ⟨fun b o e n hb hx => ?_, fun b o e n hb hx => ?_, I.base.free, fun b o e hx => ?_, I.base.tups, I.base.frzs, I.base.tbls⟩, ⟨_, hn', fun j y v' e1 e2 e3 => ?_⟩, fun y c e => ?_, I.free, I.freeC, fun p hp => ?_, tracked ⟨oL, hoL, I.free⟩ hs, by simpa using I.len⟩ ⟨_, hs, .inl rfl⟩
    · exact (hs.2 b (Nat.ne_of_lt (Nat.lt_of_lt_of_le (Heap.lt_size e) I.ok.above))).trans (I.base.keep b o e n hb hx)
    · obtain ⟨sl, e1⟩ := I.base.slot b o e n hb hx
      exact ⟨sl, (hs.2 b (Nat.ne_of_lt (Nat.lt_of_lt_of_le (Heap.lt_size e) I.ok.above))).trans e1⟩
    · obtain ⟨o', e1⟩ := I.base.there b o e hx
      exact ⟨o', (hs.2 b (Nat.ne_of_lt (Nat.lt_of_lt_of_le (Heap.lt_size e) I.ok.above))).trans e1⟩
    · by_cases hj : j = i
      · subst hj
        rw [hi] at e1; cases e1
        rw [List.getElem?_set_self hiσ] at e2
        cases e2
        exact ⟨u, r, .inl ⟨hk, by simp⟩⟩
      · rw [List.getElem?_set_ne (Ne.symm hj)] at e2
        obtain ⟨u', r', q⟩ := hl j y v' e1 e2 e3
        refine ⟨u', r', ?_⟩
        rcases q with ⟨k, e⟩ | ⟨k, c, e, z⟩
        · refine .inl ⟨k, ?_⟩
          have : y ≠ x := fun e => hj (nodup_ix hN e1 (e ▸ hi))
          simp [this, e]
        · exact .inr ⟨k, c, e, z.sameBut hs (cne y c e)⟩
    · obtain ⟨w', z⟩ := I.cell y c e
      exact ⟨w', z.sameBut hs (cne y c e)⟩
    · obtain ⟨e, n, ne, nf, d⟩ := I.pin p hp
      exact ⟨(hs.2 p.1 ne).trans e, n, ne, nf, d⟩
  · have hfn : X.fn x = true := by
      rcases hf with z | z
      · exact z
      · rw [z] at hk; cases hk
    obtain ⟨c, hc⟩ := I.ok.has x (.inl hk)
    obtain ⟨w', z⟩ := I.cell x c hc
    refine wpAny_storeName_cell I.ok.kind hk hc z (fun h' hc' hs => ?_)
    obtain ⟨oc, hoc, hocd⟩ := id z
    refine h { s with heap := h' } ⟨I.ok, I.os, I.bare, ⟨fun b o e n hb hx => ?_, fun b o e n hb hx => ?_, I.base.free, fun b o e hx => ?_, I.base.tups, I.base.frzs, I.base.tbls⟩, ⟨m, hn.sameBut hs (Ne.symm (cne x c hc)), fun j y v' e1 e2 e3 => ?_⟩, fun y c' e => ?_, I.free, I.freeC, fun p hp => ?_, tracked ⟨oc, hoc, I.freeC x c hc⟩ hs, by simpa using I.len⟩ ⟨c, hs, .inr hc⟩
    · exact (hs.2 b (Nat.ne_of_lt (Nat.lt_of_lt_of_le (Heap.lt_size e) (I.ok.cab x c hfn hc)))).trans (I.base.keep b o e n hb hx)
    · obtain ⟨sl, e1⟩ := I.base.slot b o e n hb hx
      exact ⟨sl, (hs.2 b (Nat.ne_of_lt (Nat.lt_of_lt_of_le (Heap.lt_size e) (I.ok.cab x c hfn hc)))).trans e1⟩
    · obtain ⟨o', e1⟩ := I.base.there b o e hx
      exact ⟨o', (hs.2 b (Nat.ne_of_lt (Nat.lt_of_lt_of_le (Heap.lt_size e) (I.ok.cab x c hfn hc)))).trans e1⟩
    · by_cases hj : j = i
      · subst hj
        rw [hi] at e1; cases e1
        rw [List.getElem?_set_self hiσ] at e2
        cases e2
        exact ⟨u, r, .inr ⟨.inl hk, c, hc, hc'⟩⟩
      · rw [List.getElem?_set_ne (Ne.symm hj)] at e2
        obtain ⟨u', r', q⟩ := hl j y v' e1 e2 e3
        refine ⟨u', r', ?_⟩
        rcases q with q | ⟨k, c', e, z'⟩
        · exact .inl q
        · refine .inr ⟨k, c', e, z'.sameBut hs ?_⟩
          rintro rfl
          exact hj (nodup_ix hN e1 (I.ok.inj _ _ _ e hc ▸ hi))
    · by_cases hcc : c' = c
      · subst hcc; exact ⟨_, hc'⟩
      · obtain ⟨w2, z2⟩ := I.cell y c' e
        exact ⟨w2, z2.sameBut hs hcc⟩
    · obtain ⟨e, n, ne, nf, d⟩ := I.pin p hp
      refine ⟨(hs.2 p.1 ?_).trans e, n, ne, nf, d⟩
      intro q
      rw [q, hoc] at e
      have q' : oc = p.2 := Option.some.inj e
      exact d w' (by rw [← q']; exact hocd)
theorem store_ok {M : Model} {A : Around} {E : Value → Shared → Prop} {i : Nat} {x : Str} {v : V} {u : Value} {Q : Unit → Shared → Prop} (I : Inv X pins σ H s) (hN : X.N.Nodup) (hi : X.N[i]? = some x) (hx : Loc X.env.scope x) (r : RelV v u)
    (h : ∀ s', Inv X pins (σ.set i (some v)) H s' → Q () s') (hf : X.fn x = true ∨ X.env.scope.names.lookup x = some .local := by first | exact .inl rfl | exact .inr rfl | assumption) : wpAny M A (storeName X.env x u) Q E s :=
  store_ok2 I hN hi hx r (fun s' I' _ => h s' I') hf
/-- behind a call or a block, the state as it is -/
theorem Inv.call' {s' : Shared} {ch : List Addr} (I : Inv X pins σ H s) (ho : s'.os = s.os) (u : Un (frs X.stack) ch H H' s.heap s'.heap) (hok : HOk X.prog X.w H' s'.heap) (hg : X.gq s'.gens s'.drawn)
    (hch : ∀ b ∈ ch, (b ∈ X.ex ∨ X.s_0.heap.objs.size ≤ b) ∧ b ≠ X.env.locals ∧ (∀ x c, X.env.cells.lookup x = some c → c ≠ b) ∧ ∀ p ∈ X.pn ++ pins, p.1 ≠ b) : Inv X pins σ H' s' := by
  obtain ⟨h', g', d', t', o'⟩ := s'
  have e : o' = s.os := ho
  subst e
  exact I.call (g' := g') (t' := t') (d' := d') u hok hg hch
end

/-! ### the judgements -/
/-- an exception: its class, its own dict's address (where it has one), the abstract heap behind it -/
abbrev XK := Value → Option Addr → Hp → Prop
abbrev St := List (Option V)
abbrev VK := V → Hp → Prop
/-- an expression's reading; a test's; an argument list's -/
abbrev TE := St → Hp → VK → Prop
abbrev TT := St → Hp → (Bool → Hp → Prop) → Prop
abbrev TA := St → Hp → (List V → Hp → Prop) → Prop
/-- what is wanted behind a statement -/
structure Ends where
  nx : St → Hp → Prop
  rt : VK
  bk : St → Hp → Prop := fun _ _ => False
  ct : St → Hp → Prop := fun _ _ => False
abbrev TS := Ends → St → Hp → Prop

def EP (X : Cx) (pins : List (Addr × Obj)) (σ : St) (Q : VK) (u : Value) (s' : Shared) : Prop := ∃ v H', Inv X pins σ H' s' ∧ RelV v u ∧ Q v H'
def TP (X : Cx) (pins : List (Addr × Obj)) (σ : St) (Q : Bool → Hp → Prop) (b : Bool) (s' : Shared) : Prop := ∃ H', Inv X pins σ H' s' ∧ Q b H'
def AP (X : Cx) (pins : List (Addr × Obj)) (σ : St) (Q : List V → Hp → Prop) (us : List Value) (s' : Shared) : Prop := ∃ vs H', Inv X pins σ H' s' ∧ Vals vs us ∧ Q vs H'
def SP (X : Cx) (pins : List (Addr × Obj)) (D : Ends) (f : Flow) (s' : Shared) : Prop :=
  match f with
  | .next => ∃ σ' H', Inv X pins σ' H' s' ∧ D.nx σ' H'
  | .brk => ∃ σ' H', Inv X pins σ' H' s' ∧ D.bk σ' H'
  | .cont => ∃ σ' H', Inv X pins σ' H' s' ∧ D.ct σ' H'
  | .ret u => ∃ v σ' H', Inv X pins σ' H' s' ∧ RelV v u ∧ D.rt v H'

def PE (X : Cx) (e : Expr) (t : TE) : Prop :=
  ∀ (pins : List (Addr × Obj)) (s : Shared) (σ : St) (H : Hp) (Q : VK), Inv X pins σ H s → t σ H Q → wpAny (model X.prog X.w) X.A (eval e X.env) (EP X pins σ Q) X.xe s
def PT (X : Cx) (e : Expr) (t : TT) : Prop :=
  ∀ (pins : List (Addr × Obj)) (s : Shared) (σ : St) (H : Hp) (Q : Bool → Hp → Prop), Inv X pins σ H s → t σ H Q → wpAny (model X.prog X.w) X.A (isTrue e X.env (eval e X.env)) (TP X pins σ Q) X.xe s
/-- a test whatever its 'whole' is (and, or) -/
def PW (X : Cx) (e : Expr) (t : TT) : Prop :=
  ∀ (whole : Sem Value) (pins : List (Addr × Obj)) (s : Shared) (σ : St) (H : Hp) (Q : Bool → Hp → Prop), Inv X pins σ H s → t σ H Q → wpAny (model X.prog X.w) X.A (isTrue e X.env whole) (TP X pins σ Q) X.xe s
theorem PW.pt {X : Cx} {e : Expr} {t : TT} (h : PW X e t) : PT X e t := h _
/-- an argument list (no star), from the left -/
def PA (X : Cx) (es : List Expr) (t : TA) : Prop :=
  ∀ (pos : Pos) (pins : List (Addr × Obj)) (s : Shared) (σ : St) (H : Hp) (Q : List V → Hp → Prop), Inv X pins σ H s → t σ H Q → wpAny (model X.prog X.w) X.A (spliced (backTo pos (starEach es X.env))) (AP X pins σ Q) X.xe s
def PS (X : Cx) (st : Stmt) (t : TS) : Prop :=
  ∀ (pins : List (Addr × Obj)) (s : Shared) (σ : St) (H : Hp) (D : Ends), Inv X pins σ H s → t D σ H → wpAny (model X.prog X.w) X.A (exec st X.env) (SP X pins D) X.xe s
def PSs (X : Cx) (st : List Stmt) (t : TS) : Prop :=
  ∀ (pins : List (Addr × Obj)) (s : Shared) (σ : St) (H : Hp) (D : Ends), Inv X pins σ H s → t D σ H → wpAny (model X.prog X.w) X.A (execs st X.env) (SP X pins D) X.xe s
/-- weaken the end -/
theorem thn {α : Type} {t : Sem α} {Q Q' : α → Shared → Prop} {M : Model} {A : Around} {E : Value → Shared → Prop} {s : Shared} (h : wpAny M A t Q E s) (hQ : ∀ a s, Q a s → Q' a s) : wpAny M A t Q' E s := wpAny_mono h hQ fun _ _ x => x
end L2

namespace L2
open PySem PySem.Spec PyProof.Rows
section
variable {X : Cx}

/-! ### names and constants -/
def tVar (i : Nat) : TE := fun σ H Q => ∃ v, σ[i]? = some (some v) ∧ Q v H
def tC (v : V) : TE := fun _ H Q => Q v H
theorem pe_var {i : Nat} {x : Str} {pos : Pos} (hN : X.N[i]? = some x) (hv : Vis X.env.scope x) (hd : (x == ("__debug__" : Str)) = false := by decide) (hcd : (x == ("__classdict__" : Str)) = false := by decide) : PE X (.Name x pos) (tVar i) := by
  intro pins s σ H Q I h
  obtain ⟨v, e, h⟩ := h
  obtain ⟨m, hn, hl⟩ := I.loc
  obtain ⟨u, r, l⟩ := hl i x v hN e hv
  have fin : EP X pins σ Q u s := ⟨v, H, I, r, h⟩
  rcases l with ⟨hk, hm⟩ | ⟨hk, c, hc, hcell⟩
  · exact wpAny_Name (wpAny_loadName_local I.ok.kind hk hn hm fin) hd
  · rcases hk with hk | hk
    · exact wpAny_Name (wpAny_loadName_cell I.ok.kind hk hc hcell fin) hd
    · exact wpAny_Name (wpAny_loadName_free I.ok.kind hk hc hcell fin hcd) hd
theorem pe_int {i j pos} : PE X (.Constant (.int i) j pos) (tC (.int i)) := fun _ _ _ H _ I h => wpAny_Constant_int ⟨.int i, H, I.tok _, ⟨_, rfl⟩, h⟩
theorem pe_bl {b j pos} : PE X (.Constant (.bool b) j pos) (tC (.bl b)) := fun _ _ _ H _ I h => Constant_bool ⟨.bl b, H, I, rfl, h⟩
theorem pe_non {j pos} : PE X (.Constant .none j pos) (tC .non) := fun _ _ _ H _ I h => Constant_none ⟨.non, H, I, rfl, h⟩
/-- a global name of the def -/
def Gl (X : Cx) (x : Str) : Prop := X.env.kindOf x = some .globalImplicit
theorem ld_glob {E : Value → Shared → Prop} {pins : List (Addr × Obj)} {s : Shared} {σ : St} {H : Hp} {x : Str} {u : Value} {pos : Pos} {Q : Value → Shared → Prop} (I : Inv X pins σ H s) (hg : Gl X x) (hm : X.mg x = some u) (h : Q u s)
    (hd : (x == ("__debug__" : Str)) = false := by decide) : wpAny (model X.prog X.w) X.A (eval (.Name x pos) X.env) Q E s :=
  Calls.Name_function_global I.ok.kind hg (Calls.loadGlobal_global (by rw [I.ok.glob]; exact I.mod.glob.keeps I.bk) hm h) hd
theorem ld_blt {E : Value → Shared → Prop} {pins : List (Addr × Obj)} {s : Shared} {σ : St} {H : Hp} {x : Str} {u : Value} {pos : Pos} {Q : Value → Shared → Prop} (I : Inv X pins σ H s) (hg : Gl X x) (hm : X.mg x = none) (hv : bootBuiltins x = some u) (h : Q u s)
    (hn : x ≠ "__name__" := by decide) (hd : (x == ("__debug__" : Str)) = false := by decide) : wpAny (model X.prog X.w) X.A (eval (.Name x pos) X.env) Q E s := by
  obtain ⟨mb, h1, h2⟩ := I.mod.blt
  exact Calls.Name_function_global I.ok.kind hg (Calls.loadGlobal_builtin (by rw [I.ok.glob]; exact I.mod.glob.keeps I.bk) hm (by rw [I.ok.blt]; exact h1.keeps I.bk) ((h2 x hn).trans hv) h) hd
/-- a module's constant, a class, a function, as a value -/
theorem pe_glob {x : Str} {v : V} {u : Value} {pos : Pos} (hg : Gl X x) (hm : X.mg x = some u) (r : RelV v u) (hd : (x == ("__debug__" : Str)) = false := by decide) : PE X (.Name x pos) (tC v) :=
  fun _ _ _ H _ I h => ld_glob I hg hm ⟨v, H, I, r, h⟩ hd
theorem pe_bltn {x : Str} {v : V} {u : Value} {pos : Pos} (hg : Gl X x) (hm : X.mg x = none) (hv : bootBuiltins x = some u) (r : RelV v u) (hn : x ≠ "__name__" := by decide) (hd : (x == ("__debug__" : Str)) = false := by decide) : PE X (.Name x pos) (tC v) :=
  fun _ _ _ H _ I h => ld_blt I hg hm hv ⟨v, H, I, r, h⟩ hn hd

/-! ### arithmetic -/
variable {a b : Expr} {ta tb : TE} {pos : Pos}
/-! ### comparisons -/
def PC (X : Cx) (op : CmpOp) (a b : Expr) (t : TE) : Prop :=
  ∀ (pins : List (Addr × Obj)) (s : Shared) (σ : St) (H : Hp) (Q : VK), Inv X pins σ H s → t σ H Q →
    wpAny (model X.prog X.w) X.A (eval a X.env) (fun v s₁ => wpAny (model X.prog X.w) X.A (eval b X.env) (fun u s₂ => wpAny (model X.prog X.w) X.A (compareOp op v u) (EP X pins σ Q) X.xe s₂) X.xe s₁) X.xe s
theorem nobehind (b : Expr) {op : CmpOp} (h : op ≠ .In) (h2 : op ≠ .NotIn) : behindInMarks op b = false := by
  have e1 : (op == CmpOp.In) = false := by cases op <;> first | rfl | exact absurd rfl h
  have e2 : (op == CmpOp.NotIn) = false := by cases op <;> first | rfl | exact absurd rfl h2
  cases b <;> simp [behindInMarks, e1, e2]
/-- a comparison as a value, as a test -/
def tB (t : TE) : TT := fun σ H Q => t σ H fun x H1 => ∃ c, x = .bl c ∧ Q c H1
theorem pt_cmp {op : CmpOp} {t : TE} (h : PC X op a b t) (h1 : behindInMarks op b = false := by first | exact nobehind _ (by decide) (by decide) | rfl) : PT X (.Compare a [op] [b] pos) (tB t) := by
  intro pins s σ H Q I hw
  refine wpAny_isTrue_Compare1 (thn (h pins s σ H _ I hw) fun v s1 h1 => thn h1 fun u s2 h2 => thn h2 fun c s3 ⟨x, H1, I1, r1, q1⟩ => ?_) h1
  obtain ⟨d, rfl, q⟩ := q1
  cases r1
  exact wpAny_truthy_bool ⟨H1, I1, q⟩
/-- an expression whose value is a bool, as a test -/
theorem pt_val {e : Expr} {t : TE} (h : PE X e t) (he : ∀ whole, isTrue e X.env whole = (do let v ← whole; standAt e.pos; holding [v] (truthy v)) := by intro _; rfl) : PT X e (tB t) := by
  intro pins s σ H Q I hw
  refine isTrue_plain (thn (h pins s σ H _ I hw) fun v s1 ⟨x, H1, I1, r1, q1⟩ => ?_) (he _)
  obtain ⟨d, rfl, q⟩ := q1
  cases r1
  exact wpAny_truthy_bool ⟨H1, I1, q⟩

/-! ### and, or, not -/
variable {tA tB' : TT} {rest : List Expr}
def tAnd (t u : TT) : TT := fun σ H Q => t σ H fun c H1 => if c = true then u σ H1 Q else Q false H1
def tOr (t u : TT) : TT := fun σ H Q => t σ H fun c H1 => if c = true then Q true H1 else u σ H1 Q
def tNot (t : TT) : TT := fun σ H Q => t σ H fun c H1 => Q (!c) H1
theorem pw_and1 (ha : PT X a tA) : PW X (.BoolOp .And [a] pos) tA := by
  intro wh pins s σ H Q I h
  refine isTrue_and (thn (ha pins s σ H Q I h) fun c s1 e => ?_)
  cases c with
  | true => exact isTrue_and_nil e
  | false => exact e
theorem pw_or1 (ha : PT X a tA) : PW X (.BoolOp .Or [a] pos) tA := by
  intro wh pins s σ H Q I h
  refine isTrue_or (thn (ha pins s σ H Q I h) fun c s1 e => ?_)
  cases c with
  | false => exact isTrue_or_nil e
  | true => exact e
theorem pw_and (ha : PT X a tA) (hb : PW X (.BoolOp .And (b :: rest) pos) tB') : PW X (.BoolOp .And (a :: b :: rest) pos) (tAnd tA tB') := by
  intro wh pins s σ H Q I h
  refine isTrue_and (thn (ha pins s σ H _ I h) fun c s1 ⟨H1, I1, q1⟩ => ?_)
  cases c with
  | true => exact hb wh pins s1 σ H1 Q I1 q1
  | false => exact ⟨H1, I1, q1⟩
theorem pw_or (ha : PT X a tA) (hb : PW X (.BoolOp .Or (b :: rest) pos) tB') : PW X (.BoolOp .Or (a :: b :: rest) pos) (tOr tA tB') := by
  intro wh pins s σ H Q I h
  refine isTrue_or (thn (ha pins s σ H _ I h) fun c s1 ⟨H1, I1, q1⟩ => ?_)
  cases c with
  | true => exact ⟨H1, I1, q1⟩
  | false => exact hb wh pins s1 σ H1 Q I1 q1
theorem pt_not (ha : PT X a tA) : PT X (.UnaryOp .Not a pos) (tNot tA) := by
  intro pins s σ H Q I h
  exact isTrue_not (ha pins s σ H (fun c H1 => Q (!c) H1) I h)
/-- .. as values (bools) -/
def tAndV (ta tb : TE) : TE := fun σ H Q => ta σ H fun x H1 => ∃ c, x = .bl c ∧ if c = true then tb σ H1 Q else Q (.bl false) H1
def tNotV (ta : TE) : TE := fun σ H Q => ta σ H fun x H1 => ∃ c, x = .bl c ∧ Q (.bl (!c)) H1
theorem pe_one {op} {t : TE} (h : PE X a t) : PE X (.BoolOp op [a] pos) t := fun pins s σ H Q I hw => BoolOp_one (h pins s σ H Q I hw)
theorem pe_and (ha : PE X a ta) (hb : PE X (.BoolOp .And (b :: rest) pos) tb) : PE X (.BoolOp .And (a :: b :: rest) pos) (tAndV ta tb) := by
  intro pins s σ H Q I h
  refine BoolOp_and (thn (ha pins s σ H _ I h) fun v s1 ⟨x, H1, I1, r1, q1⟩ => ?_)
  obtain ⟨c, rfl, q1⟩ := q1
  cases r1
  refine wpAny_truthy_bool ?_
  cases c with
  | true => exact hb pins s1 σ H1 Q I1 q1
  | false => exact ⟨.bl false, H1, I1, rfl, q1⟩
theorem pe_not (ha : PE X a ta) : PE X (.UnaryOp .Not a pos) (tNotV ta) := by
  intro pins s σ H Q I h
  refine UnaryOp_ (thn (ha pins s σ H _ I h) fun v s1 ⟨x, H1, I1, r1, q1⟩ => ?_)
  obtain ⟨c, rfl, q1⟩ := q1
  cases r1
  exact not_of (wpAny_truthy_bool ⟨.bl (!c), H1, I1, rfl, q1⟩)
end
end L2

namespace L2
open PySem PySem.Spec PyProof.Rows

/-! ### a list, a tuple that is read: tracked, frozen, or an object of the module -/
def SqL (K : PySem.W.Frag) (H : Hp) (a : Addr) (xs : List V) : Prop :=
  Rd H a (.lst xs) ∨
    ∃ (o : Obj) (its : Array Value) (n : Nat), K.lookup a = some o ∧ o.cls = .type "list" ∧ o.dict = none ∧ o.data = .seq its n ∧ its.size ≤ sizeLine ∧ Vals xs its.toList
def SqT (K : PySem.W.Frag) (H : Hp) (a : Addr) (xs : List V) : Prop :=
  Rd H a (.tup xs) ∨
    ∃ (o : Obj) (its : Array Value) (n : Nat), K.lookup a = some o ∧ o.cls = .type "tuple" ∧ o.data = .seq its n ∧ its.size ≤ sizeLine ∧ Vals xs its.toList
def absV : Value → Option V
  | .none => some .non
  | .bool b => some (.bl b)
  | .int i _ => some (.int i)
  | .str x _ => some (.str x)
  | .bytes b _ => some (.byt b)
  | .float b _ => some (.flt b)
  | .ref a => some (.ref a)
  | .type n => some (.ty n)
  | _ => none
theorem RelV.abs {x : V} {u : Value} (r : RelV x u) : absV u = some x := by
  cases x with
  | non => cases r; rfl
  | bl _ => cases r; rfl
  | int _ => obtain ⟨t, rfl⟩ := r; rfl
  | str _ => obtain ⟨t, rfl⟩ := r; rfl
  | byt _ => obtain ⟨t, rfl⟩ := r; rfl
  | flt _ => obtain ⟨t, rfl⟩ := r; rfl
  | ref _ => cases r; rfl
  | ty _ => cases r; rfl
theorem RelV.inj {x y : V} {u : Value} (r : RelV x u) (q : RelV y u) : x = y := Option.some.inj (r.abs.symm.trans q.abs)
theorem Vals.inj : ∀ {xs ys : List V} {us : List Value}, Vals xs us → Vals ys us → xs = ys
  | _, _, _, .nil, .nil => rfl
  | _, _, _, .cons r t, .cons r' t' => by rw [r.inj r', Vals.inj t t']
section
variable {X : Cx} {pins : List (Addr × Obj)} {σ : St} {H : Hp} {s : Shared} {a : Addr} {xs ys : List V}
theorem SqL.of {K : PySem.W.Frag} (h : H a = some (.lst xs)) : SqL K H a xs := .inl (.inl h)
theorem SqT.of {K : PySem.W.Frag} (h : H a = some (.tup xs)) : SqT K H a xs := .inl (.inl h)
theorem Inv.list (I : Inv X pins σ H s) (h : SqL X.K H a xs) : ∃ its : List Value, Vals xs its ∧ PlainL s.heap a its.toArray ∧ xs.length ≤ sizeLine := by
  rcases h with h | ⟨o, its, n, hk, hc, hd, hs, hz, r⟩
  · obtain ⟨z, its, n, r, e⟩ := h.ok I.hok
    exact ⟨its, r, ⟨_, n, e, rfl, rfl, rfl⟩, z⟩
  · refine ⟨its.toList, r, ⟨o, n, I.kIn a o hk, hc, hd, by simpa using hs⟩, ?_⟩
    have e := r.length
    simp only [Array.length_toList] at e
    omega
theorem Inv.tuple (I : Inv X pins σ H s) (h : SqT X.K H a xs) : ∃ its : List Value, Vals xs its ∧ IsTup s.heap a its.toArray ∧ xs.length ≤ sizeLine := by
  rcases h with h | ⟨o, its, n, hk, hc, hs, hz, r⟩
  · obtain ⟨z, its, r, p, _⟩ := h.ok I.hok
    exact ⟨its, r, p, z⟩
  · refine ⟨its.toList, r, ⟨o, I.kIn a o hk, hc, n, by simpa using hs⟩, ?_⟩
    have e := r.length
    simp only [Array.length_toList] at e
    omega
theorem Inv.list_inj (I : Inv X pins σ H s) (h : SqL X.K H a xs) (h' : SqL X.K H a ys) : xs = ys := by
  obtain ⟨its, r, ⟨o, n, e, _, _, d⟩, _⟩ := I.list h
  obtain ⟨its', r', ⟨o', n', e', _, _, d'⟩, _⟩ := I.list h'
  rw [e] at e'; cases e'
  rw [d] at d'
  injection d' with d1 _
  have : its = its' := by simpa using congrArg Array.toList d1
  subst this
  exact r.inj r'
end

/-! ### another wish about exceptions -/
abbrev Cx.wish (X : Cx) (E : Value → Shared → Prop) : Cx := { X with xe := E }
/-- no exception leaves -/
abbrev Cx.nox (X : Cx) : Cx := X.wish fun _ _ => False
theorem Cx.Ok.wish {X : Cx} (ok : X.Ok) (E : Value → Shared → Prop) : (X.wish E).Ok :=
  ⟨ok.mod, ok.kind, ok.glob, ok.blt, ok.above, ok.inj, ok.has, ok.cab, ok.hd, ok.frames, ok.stk, ok.exf, ok.bs, ok.bsz, ok.noex, ok.exfs, ok.funs, ok.frf⟩
theorem Cx.Ok.unwish {X : Cx} {E : Value → Shared → Prop} (ok : (X.wish E).Ok) : X.Ok :=
  ⟨ok.mod, ok.kind, ok.glob, ok.blt, ok.above, ok.inj, ok.has, ok.cab, ok.hd, ok.frames, ok.stk, ok.exf, ok.bs, ok.bsz, ok.noex, ok.exfs, ok.funs, ok.frf⟩
section
variable {X : Cx} {pins : List (Addr × Obj)} {σ : St} {H : Hp} {s : Shared} {E : Value → Shared → Prop}
theorem Inv.wish (I : Inv X pins σ H s) (E : Value → Shared → Prop) : Inv (X.wish E) pins σ H s := ⟨I.ok.wish E, I.os, I.bare, I.base, I.loc, I.cell, I.free, I.freeC, I.pin, I.hok, I.len⟩
theorem Inv.unwish (I : Inv (X.wish E) pins σ H s) : Inv X pins σ H s := ⟨I.ok.unwish, I.os, I.bare, I.base, I.loc, I.cell, I.free, I.freeC, I.pin, I.hok, I.len⟩
theorem SP.unwish {D : Ends} {f : Flow} {s' : Shared} (h : SP (X.wish E) pins D f s') : SP X pins D f s' := by
  cases f with
  | next => obtain ⟨σ', H', I, q⟩ := h; exact ⟨σ', H', I.unwish, q⟩
  | brk => obtain ⟨σ', H', I, q⟩ := h; exact ⟨σ', H', I.unwish, q⟩
  | cont => obtain ⟨σ', H', I, q⟩ := h; exact ⟨σ', H', I.unwish, q⟩
  | ret u => obtain ⟨v, σ', H', I, r, q⟩ := h; exact ⟨v, σ', H', I.unwish, r, q⟩
theorem PE.nox {e : Expr} {t : TE} (h : PE X.nox e t) : PE X e t := fun pins s σ H Q I hw =>
  wpAny_mono (h pins s σ H Q (I.wish _) hw) (fun _ _ ⟨v, H', I', r, q⟩ => ⟨v, H', I'.unwish, r, q⟩) fun _ _ z => False.elim z
theorem PT.nox {e : Expr} {t : TT} (h : PT X.nox e t) : PT X e t := fun pins s σ H Q I hw =>
  wpAny_mono (h pins s σ H Q (I.wish _) hw) (fun _ _ ⟨H', I', q⟩ => ⟨H', I'.unwish, q⟩) fun _ _ z => False.elim z
theorem PSs.nox {st : List Stmt} {t : TS} (h : PSs X.nox st t) : PSs X st t := fun pins s σ H D I hw =>
  wpAny_mono (h pins s σ H D (I.wish _) hw) (fun _ _ q => q.unwish) fun _ _ z => False.elim z
end

/-! ### blocks and small statements -/
section
variable {X : Cx} {st : Stmt} {rest : List Stmt} {t u : TS} {e : Expr} {te : TE} {pos : Pos}
def tNext : TS := fun D σ H => D.nx σ H
def tSeq (t u : TS) : TS := fun D σ H => t { D with nx := u D } σ H
theorem pss_nil : PSs X [] tNext := fun _ _ σ H _ I h => wpAny_execs_nil ⟨σ, H, I, h⟩
theorem pss_cons (h1 : PS X st t) (h2 : PSs X rest u) : PSs X (st :: rest) (tSeq t u) := by
  intro pins s σ H D I h
  refine wpAny_execs_cons (thn (h1 pins s σ H { D with nx := u D } I h) fun f s1 q => ?_)
  cases f with
  | next =>
    obtain ⟨σ', H', I', q⟩ := q
    exact h2 pins s1 σ' H' D I' q
  | ret v => exact q
  | brk => exact q
  | cont => exact q
theorem pss_one (h1 : PS X st t) : PSs X [st] t := by
  intro pins s σ H D I h
  refine wpAny_execs_cons (thn (h1 pins s σ H D I h) fun f s1 q => ?_)
  cases f with
  | next => exact wpAny_execs_nil q
  | ret v => exact q
  | brk => exact q
  | cont => exact q
/-- in a def's body nothing is shown -/
theorem Inv.quiet {pins : List (Addr × Obj)} {σ : St} {H : Hp} {s : Shared} (I : Inv X pins σ H s) : interactive X.env = false := by simp [interactive, I.ok.kind]
/-- an expression whose value is dropped -/
def tDrop (te : TE) : TS := fun D σ H => te σ H fun _ H1 => D.nx σ H1
theorem ps_expr (he : PE X e te) (hs : swapsWith e none pos.line X.env = pure false := by rfl) : PS X (.Expr e pos) (tDrop te) := by
  intro pins s σ H D I h
  exact wpAny_Expr_any (thn (he pins s σ H _ I h) fun v s1 ⟨x, H1, I1, r1, q1⟩ => ⟨σ, H1, I1, q1⟩) I.quiet hs
def tRet (te : TE) : TS := fun D σ H => te σ H D.rt
theorem ps_ret (he : PE X e te) : PS X (.Return (some e) pos) (tRet te) := by
  intro pins s σ H D I h
  exact wpAny_Return_some (thn (he pins s σ H _ I h) fun v s1 ⟨x, H1, I1, r1, q1⟩ => ⟨x, σ, H1, I1, r1, q1⟩)
def tIfS (c : TT) (t u : TS) : TS := fun D σ H => c σ H fun b H1 => if b = true then t D σ H1 else u D σ H1
theorem ps_if {c : Expr} {a b : List Stmt} {tc : TT} (hc : PT X c tc) (ha : PSs X a t) (hb : PSs X b u) : PS X (.If c a b pos) (tIfS tc t u) := by
  intro pins s σ H D I h
  refine wpAny_If (thn (hc pins s σ H _ I h) fun d s1 ⟨H1, I1, q1⟩ => ?_)
  cases d with
  | true => exact ha pins s1 σ H1 D I1 q1
  | false => exact hb pins s1 σ H1 D I1 q1
/-- code that the proof never comes to -/
def tNever : TS := fun _ _ _ => False
theorem ps_never : PS X st tNever := fun _ _ _ _ _ _ h => h.elim
end

/-! ### targets -/
abbrev TG := V → St → Hp → (St → Hp → Prop) → Prop
abbrev TGs := List V → St → Hp → (St → Hp → Prop) → Prop
def PG (X : Cx) (target : Expr) (t : TG) : Prop :=
  ∀ (pins : List (Addr × Obj)) (s : Shared) (σ : St) (H : Hp) (v : V) (u : Value) (Q : St → Hp → Prop), Inv X pins σ H s → RelV v u → t v σ H Q →
    wpAny (model X.prog X.w) X.A (assign target X.env u) (fun _ s' => ∃ σ' H', Inv X pins σ' H' s' ∧ Q σ' H') X.xe s
/-- several targets, one after another -/
def PGs (X : Cx) (ts : List Expr) (t : TGs) : Prop :=
  ∀ (pins : List (Addr × Obj)) (s : Shared) (σ : St) (H : Hp) (vs : List V) (us : List Value) (Q : St → Hp → Prop), Inv X pins σ H s → Vals vs us → t vs σ H Q →
    wpAny (model X.prog X.w) X.A (assignInOrder ((assignEach ts X.env).map (·.2)) us) (fun _ s' => ∃ σ' H', Inv X pins σ' H' s' ∧ Q σ' H') X.xe s
/-- o[i] = v, by values -/
abbrev TSet := V → V → V → Hp → (Hp → Prop) → Prop
def PSet (X : Cx) (t : TSet) : Prop :=
  ∀ (pins : List (Addr × Obj)) (s : Shared) (σ : St) (H : Hp) (o i v : V) (ov iv u : Value) (Q : Hp → Prop), Inv X pins σ H s → RelV o ov → RelV i iv → RelV v u → t o i v H Q →
    wpAny (model X.prog X.w) X.A (setItem ov iv u) (fun _ s' => ∃ H', Inv X pins σ H' s' ∧ Q H') X.xe s
/-- a op= b, by values -/
abbrev TIp := V → V → Hp → VK → Prop
def PIp (X : Cx) (op : Operator) (t : TIp) : Prop :=
  ∀ (pins : List (Addr × Obj)) (s : Shared) (σ : St) (H : Hp) (x y : V) (v u : Value) (Q : VK), Inv X pins σ H s → RelV x v → RelV y u → t x y H Q →
    wpAny (model X.prog X.w) X.A (inplaceOp op v u) (EP X pins σ Q) X.xe s
section
variable {X : Cx} {pos : Pos}
def gName (i : Nat) : TG := fun v σ H Q => Q (σ.set i (some v)) H
theorem pg_name {i : Nat} {x : Str} (hN : X.N.Nodup) (hi : X.N[i]? = some x) (hx : Loc X.env.scope x) (hf : X.fn x = true ∨ X.env.scope.names.lookup x = some .local := by first | exact .inl rfl | exact .inr rfl | assumption) : PG X (.Name x pos) (gName i) := by
  intro pins s σ H v u Q I r h
  exact wpAny_assign_Name (store_ok I hN hi hx r (fun s' I' => ⟨_, H, I', h⟩) hf)
def gNil : TGs := fun vs σ H Q => vs = [] ∧ Q σ H
def gCons (t : TG) (u : TGs) : TGs := fun vs σ H Q => ∃ v r, vs = v :: r ∧ t v σ H fun σ' H' => u r σ' H' Q
theorem pgs_nil : PGs X [] gNil := by
  intro pins s σ H vs us Q I r h
  obtain ⟨e, h⟩ := h
  subst e
  cases r
  exact assignInOrder_nil ⟨σ, H, I, h⟩
theorem pgs_cons {e : Expr} {es : List Expr} {t : TG} {u : TGs} (h1 : PG X e t) (h2 : PGs X es u)
    (hs : (assignEach (e :: es) X.env).map (·.2) = assign e X.env :: (assignEach es X.env).map (·.2) := by rfl) : PGs X (e :: es) (gCons t u) := by
  intro pins s σ H vs us Q I r h
  obtain ⟨v, vr, e1, h⟩ := h
  subst e1
  cases r with
  | cons r rr =>
    rw [hs]
    refine assignInOrder_cons (thn (h1 pins s σ H _ _ _ I r h) fun _ s1 ⟨σ1, H1, I1, q1⟩ => ?_)
    exact h2 pins s1 σ1 H1 _ _ Q I1 rr q1
/-- (a, b, ..) = a tuple of that length -/
def gTup (K : PySem.W.Frag) (n : Nat) (t : TGs) : TG := fun v σ H Q => ∃ a xs, v = .ref a ∧ SqT K H a xs ∧ xs.length = n ∧ t xs σ H Q
theorem pg_tup {es : List Expr} {k : Nat} {t : TGs} {n : Nat} (hc : X.calm = true) (h : PGs X es t)
    (hn : (assignEach es X.env).length = n := by rfl) (hst : (assignEach es X.env).findIdx? (·.1) = none := by rfl) : PG X (.Tuple es k pos) (gTup X.K n t) := by
  intro pins s σ H v u Q I r hw
  obtain ⟨a, xs, e1, hq, hl, hw⟩ := hw
  subst e1
  cases r
  obtain ⟨its, rv, ht, hz⟩ := I.tuple hq
  refine assign_Tuple_tuple (I.ok.hd hc) ht (by simp [hn, ← hl, rv.length]) hst fun h' hx => ?_
  have I1 : Inv X pins σ H { s with heap := h' } := I.kept (t' := s.toks) fun b o e => hx b o (Nat.ne_of_lt (Heap.lt_size e)) e
  exact h pins _ σ H xs _ Q I1 (by simpa using rv) hw
/-- o[i] = .. -/
def gSub (to ti : TE) (t : TSet) : TG := fun v σ H Q => to σ H fun o H1 => ti σ H1 fun i H2 => t o i v H2 fun H3 => Q σ H3
theorem pg_sub {o i : Expr} {to ti : TE} {t : TSet} (ho : PE X o to) (hi : PE X i ti) (hs : PSet X t)
    (ha : ∀ v, assign (.Subscript o i pos) X.env v = (do
      let ov ← holding [v] (eval o X.env)
      let iv ← holding [v, ov] (eval i X.env)
      standAt pos
      holding [v, ov, iv] (setItem ov iv v)
      release [v, ov, iv] []) := by intro _; rfl) : PG X (.Subscript o i pos) (gSub to ti t) := by
  intro pins s σ H v u Q I r h
  rw [ha]
  refine wpAny_bind (wpAny_holding (thn (ho pins s σ H _ I h) fun ov s1 ⟨x, H1, I1, r1, q1⟩ => ?_))
  refine wpAny_bind (wpAny_holding (thn (hi pins s1 σ H1 _ I1 q1) fun iv s2 ⟨y, H2, I2, r2, q2⟩ => ?_))
  refine wpAny_bind (wpAny_standAt (wpAny_bind (wpAny_holding (thn (hs pins s2 σ H2 x y v ov iv u _ I2 r1 r2 r q2) fun _ s3 ⟨H3, I3, q3⟩ => ?_))))
  exact wpAny_release ⟨σ, H3, I3, q3⟩
/-- target = value -/
def tAsg (te : TE) (g : TG) : TS := fun D σ H => te σ H fun x H1 => g x σ H1 D.nx
theorem ps_asg {tg e : Expr} {te : TE} {g : TG} (he : PE X e te) (hg : PG X tg g) (hs : swapsWithSole [tg] e pos.line X.env = pure false := by rfl) (hw : swappedStores [tg] e X.env = pure none := by rfl)
    (h1 : (assignEach [tg] X.env).map (·.2) = [assign tg X.env] := by rfl) : PS X (.Assign [tg] e pos) (tAsg te g) := by
  intro pins s σ H D I h
  refine wpAny_Assign_stores (thn (he pins s σ H _ I h) fun v s1 ⟨x, H1, I1, r1, q1⟩ => ?_) hs hw
  rw [h1]
  exact thn (hg pins s1 σ H1 x v _ I1 r1 q1) fun _ s2 q => q
/-- name = value -/
theorem ps_set {i : Nat} {x : Str} {e : Expr} {te : TE} {pos' : Pos} (hN : X.N.Nodup) (hi : X.N[i]? = some x) (hx : Loc X.env.scope x) (he : PE X e te) (hs : swapsWith e (some (.Name x pos')) pos.line X.env = pure false := by rfl) (hf : X.fn x = true ∨ X.env.scope.names.lookup x = some .local := by first | exact .inl rfl | exact .inr rfl | assumption) :
    PS X (.Assign [.Name x pos'] e pos) (tAsg te (gName i)) := by
  intro pins s σ H D I h
  refine wpAny_Assign_Name (thn (he pins s σ H _ I h) fun v s1 ⟨y, H1, I1, r1, q1⟩ => ?_) hs
  exact store_ok I1 hN hi hx r1 (fun s2 I2 => ⟨_, H1, I2, q1⟩) hf
/-- a, b = x, y with plain local names: stored from the right; the pair itself is not tracked (the opening rows as in PyProof/Rows/TupAssign.lean:23) -/
def tPar (i j : Nat) (ta : TA) : TS := fun D σ H => ta σ H fun vs H1 => ∃ v w, vs = [v, w] ∧ D.nx ((σ.set i (some v)).set j (some w)) H1
theorem ps_par {i j : Nat} {x y : Str} {a b : Expr} {ta : TA} {px py pt : Pos} {kt k2 pt2} (hc : X.calm = true) (hN : X.N.Nodup) (hi : X.N[i]? = some x) (hj : X.N[j]? = some y) (hij : i ≠ j)
    (hx : X.env.scope.names.lookup x = some .local) (hy : X.env.scope.names.lookup y = some .local) (ha : PA X [a, b] ta)
    (hw : swappedStores [.Tuple [.Name x px, .Name y py] kt pt] (.Tuple [a, b] k2 pt2) X.env = pure (some [x, y]))
    (hs : swapsWithSole [.Tuple [.Name x px, .Name y py] kt pt] (.Tuple [a, b] k2 pt2) pos.line X.env = pure false := by rfl) :
    PS X (.Assign [.Tuple [.Name x px, .Name y py] kt pt] (.Tuple [a, b] k2 pt2) pos) (tPar i j ta) := by
  intro pins s σ H D I h
  rw [exec_Assign_arm]
  refine wpAny_bind (wpAny_standAt ?_)
  rw [hs]
  refine wpAny_bind (wpAny_pure ?_)
  rw [if_neg (by decide)]
  refine wpAny_bind (Tuple_ (thn (ha _ pins s σ H _ I h) fun us s1 ⟨vs, H1, I1, r1, q1⟩ => ?_))
  obtain ⟨v, w, e1, q1⟩ := q1
  subst e1
  obtain ⟨u1, u2, rfl, rv, rw'⟩ : ∃ u1 u2, us = [u1, u2] ∧ RelV v u1 ∧ RelV w u2 := by
    cases r1 with
    | cons p q =>
      cases q with
      | cons p' q' =>
        cases q'
        exact ⟨_, _, rfl, p, p'⟩
  refine wpAny_newObj_type ?_ (by show 2 ≤ sizeLine; decide)
  have I2 : Inv X pins σ H1 { s1 with heap := s1.heap.push { cls := .type "tuple", data := .seq [u1, u2].toArray } } := I1.kept (t' := s1.toks) fun b o e => Heap.get?_push_of_some _ e
  rw [hw]
  refine wpAny_bind (wpAny_pure ?_)
  show wpAny (model X.prog X.w) X.A (do rule "assign.swapped-stores"; let items ← unpackItems (.ref s1.heap.objs.size) 2 none; assignInOrder [fun v => bindName X.env y v, fun v => bindName X.env x v] items.reverse; pure Flow.next) _ _ _
  refine wpAny_bind (wpAny_rule (wpAny_bind (unpackItems_tuple (items := #[u1, u2]) (I.ok.hd hc) (IsTup.new s1.heap _) fun h' hx' => ?_)))
  have I3 := I2.kept (h' := h') (t' := s1.toks) fun b o e => hx' b o (Nat.ne_of_lt (Heap.lt_size e)) e
  show wpAny _ _ (assignInOrder [fun v => bindName X.env y v, fun v => bindName X.env x v] [u2, u1] >>= fun _ => pure Flow.next) _ _ _
  refine wpAny_bind (assignInOrder_cons (wpAny_bindName (store_ok I3 hN hj (.inl hy) rw' (fun s2 I4 => ?_) (.inr hy))))
  refine assignInOrder_cons (wpAny_bindName (store_ok I4 hN hi (.inl hx) rv (fun s3 I5 => assignInOrder_nil (wpAny_pure ?_)) (.inr hx)))
  rw [List.set_comm _ _ (Ne.symm hij)] at I5
  exact ⟨_, H1, I5, q1⟩
/-- name op= e -/
def tAug (i : Nat) (te : TE) (ti : TIp) : TS := fun D σ H => ∃ x, σ[i]? = some (some x) ∧ te σ H fun y H1 => ti x y H1 fun z H2 => D.nx (σ.set i (some z)) H2
theorem ps_aug {i : Nat} {x : Str} {e : Expr} {te : TE} {op : Operator} {ti : TIp} {pos' : Pos} (hN : X.N.Nodup) (hi : X.N[i]? = some x) (hx : Loc X.env.scope x) (he : PE X e te) (ho : PIp X op ti) (hf : X.fn x = true ∨ X.env.scope.names.lookup x = some .local := by first | exact .inl rfl | exact .inr rfl | assumption) :
    PS X (.AugAssign (.Name x pos') op e pos) (tAug i te ti) := by
  intro pins s σ H D I h
  obtain ⟨v, e1, h⟩ := h
  obtain ⟨m, hn, hl⟩ := I.loc
  have vis : Vis X.env.scope x := by rcases hx with k | k; exact .inl k; exact .inr (.inl k)
  obtain ⟨u, r, l⟩ := hl i x v hi e1 vis
  refine wpAny_AugAssign_Name ?_
  have go : wpAny (model X.prog X.w) X.A (eval e X.env) (fun w s₂ => wpAny (model X.prog X.w) X.A (inplaceOp op u w) (fun r s₃ => wpAny (model X.prog X.w) X.A (storeName X.env x r) (fun _ => SP X pins D .next) X.xe s₃) X.xe s₂) X.xe s := by
    refine thn (he pins s σ H _ I h) fun w s1 ⟨y, H1, I1, r1, q1⟩ => ?_
    refine thn (ho pins s1 σ H1 v y u w _ I1 r r1 q1) fun z s2 ⟨zv, H2, I2, r2, q2⟩ => ?_
    exact store_ok I2 hN hi hx r2 (fun s3 I3 => ⟨_, H2, I3, q2⟩) hf
  rcases l with ⟨hk, hm⟩ | ⟨hk, c, hc, hcell⟩
  · exact wpAny_loadName_local I.ok.kind hk hn hm go
  · rcases hk with hk | hk
    · exact wpAny_loadName_cell I.ok.kind hk hc hcell go
    · rcases hx with k | k
      · have : X.env.scope.names.lookup x = some .free := hk
        rw [k] at this; cases this
      · have : X.env.scope.names.lookup x = some .free := hk
        rw [k] at this; cases this
/-- ints -/
def ipI (f : Int → Int → Int) : TIp := fun x y H Q => ∃ i j, x = .int i ∧ y = .int j ∧ Q (.int (f i j)) H
theorem ip_add : PIp X .Add (ipI fun i j => i + j) := by
  intro pins s σ H x y v u Q I r1 r2 h
  obtain ⟨i, j, e1, e2, q⟩ := h
  subst e1; subst e2
  obtain ⟨t, rfl⟩ := r1
  obtain ⟨t', rfl⟩ := r2
  exact iadd_int ⟨.int _, H, I.tok _, ⟨_, rfl⟩, q⟩
end

/-! ### while -/
section
variable {X : Cx} {pos : Pos}
/-- the invariant W with its measure -/
def tWhile (c : TT) (tb : TS) : TS := fun D σ H => ∃ W : Nat → St → Hp → Prop, (∃ m, W m σ H) ∧ ∀ m σ H, W m σ H →
  c σ H fun b H1 => if b = true then ∃ N : St → Hp → Prop, (∀ σ' H', N σ' H' → ∃ m', m' < m ∧ W m' σ' H') ∧ tb { D with nx := N, ct := N, bk := D.nx } σ H1 else D.nx σ H1
theorem ps_while {c : Expr} {body : List Stmt} {tc : TT} {tb : TS} (hp : PassesOwn (model X.prog X.w) X.A X.env X.xe) (hc : PT X c tc) (hb : PSs X body tb) : PS X (.While c body [] pos) (tWhile tc tb) := by
  intro pins s σ H D I h
  obtain ⟨W, ⟨m0, w0⟩, turn⟩ := h
  refine wpAny_While (codeAny_whileLoop (fun n s' => ∃ σ' H', Inv X pins σ' H' s' ∧ W n σ' H') ?_ m0 ⟨σ, H, I, w0⟩)
  rintro n s1 ⟨σ1, H1, I1, w1⟩
  refine wpAny_passesOwn hp (thn (hc pins s1 σ1 H1 _ I1 (turn n σ1 H1 w1)) fun b s2 ⟨H2, I2, q2⟩ => ?_)
  cases b with
  | true =>
    obtain ⟨N, hN, q2⟩ := q2
    rw [if_pos rfl]
    refine wpAny_passesOwn hp (thn (hb pins s2 σ1 H2 _ I2 q2) fun f s3 q3 => ?_)
    cases f with
    | next =>
      obtain ⟨σ3, H3, I3, n3⟩ := q3
      obtain ⟨m', hm, w3⟩ := hN σ3 H3 n3
      exact ⟨m', hm, σ3, H3, I3, w3⟩
    | cont =>
      obtain ⟨σ3, H3, I3, n3⟩ := q3
      obtain ⟨m', hm, w3⟩ := hN σ3 H3 n3
      exact ⟨m', hm, σ3, H3, I3, w3⟩
    | brk => exact q3
    | ret v => exact q3
  | false =>
    rw [if_neg Bool.false_ne_true]
    exact wpAny_execs_nil ⟨σ1, H2, I2, q2⟩
end

/-! ### what a loop or a comprehension walks -/
/-- at turn i: it yields x (the heap may grow), or it stops -/
structure It where
  go : Nat → Hp → Prop
  yld : Nat → Hp → V → Hp → Prop
  stop : Nat → Hp → Prop
/-- the iterator's own objects may turn: they are not the frame's, not pinned, younger than the entry (or a comprehension's own) -/
def FpOk (X : Cx) (pins : List (Addr × Obj)) (H : Hp) (b : Addr) : Prop :=
  H b = none ∧ b ≠ X.env.locals ∧ b ∉ X.fs ∧ (b ∈ X.ex ∨ X.s_0.heap.objs.size ≤ b) ∧ (∀ x c, X.env.cells.lookup x = some c → c ≠ b) ∧ ∀ p ∈ X.pn ++ pins, p.1 ≠ b
theorem Inv.fpOk {X : Cx} {pins : List (Addr × Obj)} {σ : St} {H H' : Hp} {s : Shared} {b : Addr} (I : Inv X pins σ H s) (hb : s.heap.objs.size ≤ b) (hn : H' b = none) : FpOk X pins H' b := by
  refine ⟨hn, Nat.ne_of_gt (Nat.lt_of_lt_of_le I.lt hb), I.nofs hb, .inr (Nat.le_trans I.sz hb), fun x c e z => ?_, fun p hp z => ?_⟩
  · obtain ⟨v, q⟩ := I.cell x c e
    exact absurd (Nat.lt_of_lt_of_le q.lt (by rw [z]; exact hb)) (Nat.lt_irrefl _)
  · exact absurd (Nat.lt_of_lt_of_le (Heap.lt_size (I.pin p hp).1) (by rw [z]; exact hb)) (Nat.lt_irrefl _)
structure Turn (P : Program) (w : World) (K : PySem.W.Frag) (tg : Expr) (J : It) (fp : List Addr) (it : Addr) (tn : Nat → Heap → Prop) : Prop where
  mem : it ∈ fp
  obj : ∀ i h, tn i h → ∀ b ∈ fp, ∃ o, h.get? b = some o ∧ ∀ v, o.data ≠ .cell v
  keep : ∀ i h h', tn i h → (∀ b ∈ fp, ∀ o, h.get? b = some o → h'.get? b = some o) → tn i h'
  item : ∀ (X : Cx), X.prog = P → X.w = w → X.K = K → X.calm = true → ∀ (i : Nat) (pins : List (Addr × Obj)) (s : Shared) (σ : St) (H : Hp) (E : Value → Shared → Prop), Inv X pins σ H s → (∀ b ∈ fp, FpOk X pins H b) → tn i s.heap → J.go i H →
    wpAny (model P w) X.A (pyNext (.ref it)) (fun r s1 => ∃ u, r = some u ∧
      wpAny (model P w) X.A (letOwnedTupleGo tg (.ref it) u) (fun _ s2 => ∃ x H', Inv X pins σ H' s2 ∧ RelV x u ∧ J.yld i H x H' ∧ tn (i + 1) s2.heap ∧ ∀ b ∈ fp, H' b = none) E s1) E s
  done : ∀ (X : Cx), X.prog = P → X.w = w → X.K = K → X.calm = true → ∀ (i : Nat) (pins : List (Addr × Obj)) (s : Shared) (σ : St) (H : Hp) (E : Value → Shared → Prop), Inv X pins σ H s → (∀ b ∈ fp, FpOk X pins H b) → tn i s.heap → J.stop i H →
    wpAny (model P w) X.A (pyNext (.ref it)) (fun r s1 => r = none ∧ Inv X pins σ H s1) E s
  self : ∀ (A : Around) (i : Nat) (s : Shared) (Q : Value → Shared → Prop) (E : Value → Shared → Prop), tn i s.heap → Q (.ref it) s → wpAny (model P w) A (pyIter (.ref it)) Q E s
abbrev TI := St → Hp → (It → Hp → Prop) → Prop
/-- an iterator has come -/
def PIE (X : Cx) (pins : List (Addr × Obj)) (σ : St) (tg : Expr) (R : It → Hp → Prop) (itv : Value) (s2 : Shared) : Prop :=
  ∃ (it : Addr) (fp : List Addr) (tn : Nat → Heap → Prop) (J : It) (H' : Hp), itv = .ref it ∧ Inv X pins σ H' s2 ∧ Turn X.prog X.w X.K tg J fp it tn ∧ tn 0 s2.heap ∧ (∀ b ∈ fp, FpOk X pins H' b) ∧ R J H'
def PI (X : Cx) (tg iter : Expr) (wi : TI) : Prop :=
  ∀ (pins : List (Addr × Obj)) (s : Shared) (σ : St) (H : Hp) (R : It → Hp → Prop), Inv X pins σ H s → wi σ H R →
    wpAny (model X.prog X.w) X.A (eval iter X.env) (fun v s1 => wpAny (model X.prog X.w) X.A (pyIter v) (PIE X pins σ tg R) X.xe s1) X.xe s

/-- the step ahead of the store is nothing for an iterator that keeps no tuple -/
theorem go_of {M : Model} {A : Around} {E : Value → Shared → Prop} {s : Shared} {tg : Expr} {it : Addr} {u : Value} {o : Obj} {n : String} {vs : Array Value} {Q : Unit → Shared → Prop} (ho : s.heap.get? it = some o) (hc : o.cls = .type n) (hd : o.data = .fields vs)
    (hn : ["enumerate", "zip", "dict_itemiterator", "dict_reverseitemiterator", "odict_iterator", "itertools.zip_longest", "itertools.pairwise"].contains n = false) (hQ : Q () s) : wpAny M A (letOwnedTupleGo tg (.ref it) u) Q E s := by
  unfold letOwnedTupleGo
  cases tg <;> first
    | exact wpAny_pure hQ
    | (cases u <;> first
        | exact wpAny_pure hQ
        | (refine wpAny_bind (wpAny_load ho ?_)
           rw [hc, hd]
           show wpAny M A (if (["enumerate", "zip", "dict_itemiterator", "dict_reverseitemiterator", "odict_iterator", "itertools.zip_longest", "itertools.pairwise"].contains n && vs[0]? == some (rawInt _)) = true then _ else _) Q E s
           rw [if_neg (by intro h; rw [hn, Bool.false_and] at h; cases h)]
           exact wpAny_pure hQ))

/-- the list at a, as it stands at each turn (a loop may append to it) -/
def Itl (K : PySem.W.Frag) (a : Addr) : It :=
  ⟨fun i H => ∃ xs x, SqL K H a xs ∧ xs[i]? = some x, fun i H x H' => H' = H ∧ ∀ xs, SqL K H a xs → xs[i]? = some x, fun i H => ∃ xs, SqL K H a xs ∧ xs.length ≤ i⟩
/-- lo, lo + 1, .. (n of them) -/
def Itr (lo : Int) (n : Nat) : It := ⟨fun i _ => i < n, fun i H x H' => H' = H ∧ x = .int (lo + i), fun i _ => n ≤ i⟩
theorem turn_list {P : Program} {w : World} {K : PySem.W.Frag} {tg : Expr} (a it : Addr) : Turn P w K tg (Itl K a) [it] it (fun i h => h.IsListIter it a i) where
  mem := by simp
  obj := fun i h st b hb => by
    have e : b = it := by simpa using hb
    subst e
    obtain ⟨o, e, c, d⟩ := st
    exact ⟨o, e, fun v z => by rw [d] at z; cases z⟩
  keep := fun i h h' st k => st.at fun o e => k it (by simp) o e
  item := by
    intro X hP hw hK hc i pins s σ H E I hf st hg
    subst hP hw hK
    obtain ⟨xs, x, hq, hx⟩ := hg
    obtain ⟨its, rv, p, hz⟩ := I.list hq
    obtain ⟨u, hu, ru⟩ := rv.get hx
    obtain ⟨f0, f1, f2, f3, f4, f5⟩ := hf it (by simp)
    refine wpAny_pyNext_list_item st p.isList (x := u) (by simpa using hu) fun h' st' sb => ?_
    have I1 : Inv X pins σ H { s with heap := h' } := I.turned (t' := s.toks) (fun b o hb e => (sb.2 b hb).trans e) f0 f1 f3 f4 f5
    obtain ⟨o, e, c, d⟩ := id st'
    exact ⟨u, rfl, go_of (s := { s with heap := h' }) e c d (by decide) ⟨x, H, I1, ru, ⟨rfl, fun ys hy => by rw [I.list_inj hy hq]; exact hx⟩, st', fun b hb => (hf b hb).1⟩⟩
  done := by
    intro X hP hw hK hc i pins s σ H E I hf st hg
    subst hP hw hK
    obtain ⟨xs, hq, hx⟩ := hg
    obtain ⟨its, rv, p, hz⟩ := I.list hq
    obtain ⟨f0, f1, f2, f3, f4, f5⟩ := hf it (by simp)
    have hl := rv.length
    exact wpAny_pyNext_list_end (I.ok.hd hc) st p.isList (by simp; omega) fun h' eb => ⟨rfl, I.turned (t' := s.toks) (fun b o hb e => eb b o hb e) f0 f1 f3 f4 f5⟩
  self := fun _ _ _ _ _ st h => wpAny_pyIter_listiter st h
theorem turn_range {P : Program} {w : World} {K : PySem.W.Frag} {tg : Expr} (it : Addr) (lo : Int) (n : Nat) : Turn P w K tg (Itr lo n) [it] it (fun i h => IsRangeIter h it (lo + (i : Nat) * 1) ((n : Int) - (i : Nat)) 1) where
  mem := by simp
  obj := fun i h st b hb => by
    have e : b = it := by simpa using hb
    subst e
    exact ⟨_, st, fun v z => by
      have z' : Data.fields _ = Data.cell v := z
      cases z'⟩
  keep := fun i h h' st k => k it (by simp) _ st
  item := by
    intro X hP hw hK hc i pins s σ H E I hf st hg
    subst hP hw hK
    obtain ⟨f0, f1, f2, f3, f4, f5⟩ := hf it (by simp)
    have W := Walks.range (prog := X.prog) (w := X.w) (I.ok.hd hc) it lo 1 n
    refine W.item i s _ _ hg st fun v h' tk hv st' kk => ?_
    obtain ⟨t, rfl⟩ := hv
    have I1 : Inv X pins σ H { s with heap := h', toks := tk } := I.turned (fun b o hb e => kk b o (by simpa using hb) e) f0 f1 f3 f4 f5
    refine ⟨_, rfl, go_of (s := { s with heap := h', toks := tk }) (n := "range_iterator") st' rfl rfl (by decide) ⟨.int (lo + i), H, I1, ⟨t, ?_⟩, ⟨rfl, rfl⟩, st', fun b hb => (hf b hb).1⟩⟩
    rw [Int.mul_one]
  done := by
    intro X hP hw hK hc i pins s σ H E I hf st hg
    subst hP hw hK
    obtain ⟨f0, f1, f2, f3, f4, f5⟩ := hf it (by simp)
    exact wpAny_pyNext_range_end (I.ok.hd hc) st (by have : n ≤ i := hg; omega) fun h' eb => ⟨rfl, I.turned (t' := s.toks) (fun b o hb e => eb b o hb e) f0 f1 f3 f4 f5⟩
  self := fun _ _ _ _ _ st h => wpAny_pyIter_rangeiter st h
end L2

namespace L2
open PySem PySem.Spec PyProof.Rows
section
variable {X : Cx} {tg : Expr}
def iList (K : PySem.W.Frag) (tl : TE) : TI := fun σ H R => tl σ H fun x H1 => ∃ a, x = .ref a ∧ (∃ xs, SqL K H1 a xs) ∧ R (Itl K a) H1
theorem pi_list {l : Expr} {tl : TE} (hl : PE X l tl) : PI X tg l (iList X.K tl) := by
  intro pins s σ H R I h
  refine thn (hl pins s σ H _ I h) fun v s1 ⟨x, H1, I1, r1, q1⟩ => ?_
  obtain ⟨a, e, ⟨xs, hq⟩, q⟩ := q1
  subst e
  cases r1
  obtain ⟨its, rv, p, hz⟩ := I1.list hq
  refine wpAny_pyIter_list p.isList ?_
  refine ⟨s1.heap.objs.size, [s1.heap.objs.size], _, _, H1, rfl, I1.kept (t' := s1.toks) fun b o e => Heap.get?_push_of_some _ e, turn_list a _, ⟨_, Heap.get?_push_size _ rfl, rfl, rfl⟩, fun b hb => ?_, q⟩
  have e : b = s1.heap.objs.size := by simpa using hb
  subst e
  exact I1.fpOk (Nat.le_refl _) (I1.hok.fresh (Nat.le_refl _))
/-- a range object just made, walked -/
theorem range_it {pins : List (Addr × Obj)} {σ : St} {H : Hp} {s : Shared} {R : It → Hp → Prop} {E : Value → Shared → Prop} {lo hi : Int} {t u v : Tok} {tk : Nat} (I : Inv X pins σ H s) (h1 : -(2 ^ 62) ≤ lo) (h2 : lo < 2 ^ 62) (h3 : -(2 ^ 62) ≤ hi) (h4 : hi < 2 ^ 62)
    (q : R (Itr lo (hi - lo).toNat) H) : wpAny (model X.prog X.w) X.A (pyIter (.ref s.heap.objs.size)) (PIE X pins σ tg R) E { s with heap := s.heap.push { cls := .type "range", data := .fields #[.int lo t, .int hi u, .int 1 v] }, toks := tk } := by
  refine wpAny_pyIter_range (IsRange.new ..) (small_one h1 h2 h3 h4) ?_
  have I1 : Inv X pins σ H { s with heap := s.heap.push { cls := .type "range", data := .fields #[.int lo t, .int hi u, .int 1 v] }, toks := tk } := I.kept fun b o e => Heap.get?_push_of_some _ e
  refine ⟨(s.heap.push { cls := .type "range", data := .fields #[.int lo t, .int hi u, .int 1 v] }).objs.size, [(s.heap.push { cls := .type "range", data := .fields #[.int lo t, .int hi u, .int 1 v] }).objs.size], _, _, H, rfl,
    I1.kept (t' := tk) fun b o e => Heap.get?_push_of_some _ e, turn_range _ lo (hi - lo).toNat, ?_, fun b hb => ?_, q⟩
  · have e1 : lo + ((0 : Nat) : Int) * 1 = lo := by simp
    have e2 : (((hi - lo).toNat : Nat) : Int) - ((0 : Nat) : Int) = Builtin.Range.rangeSize lo hi 1 := by rw [rangeSize_one]; split <;> omega
    show IsRangeIter _ _ (lo + ((0 : Nat) : Int) * 1) ((((hi - lo).toNat : Nat) : Int) - ((0 : Nat) : Int)) 1
    rw [e1, e2]
    exact Heap.get?_push_size _ rfl
  · have e : b = (s.heap.push { cls := .type "range", data := .fields #[.int lo t, .int hi u, .int 1 v] }).objs.size := by simpa using hb
    subst e
    exact I1.fpOk (Nat.le_refl _) (I1.hok.fresh (Nat.le_refl _))
def iRng1 (ta : TA) : TI := fun σ H R => ta σ H fun vs H1 => ∃ j : Int, vs = [.int j] ∧ -(2 ^ 62) ≤ j ∧ j < 2 ^ 62 ∧ R (Itr 0 j.toNat) H1
def iRng2 (ta : TA) : TI := fun σ H R => ta σ H fun vs H1 => ∃ i j : Int, vs = [.int i, .int j] ∧ (-(2 ^ 62) ≤ i ∧ i < 2 ^ 62 ∧ -(2 ^ 62) ≤ j ∧ j < 2 ^ 62) ∧ R (Itr i (j - i).toNat) H1
theorem pi_range1 {a : Expr} {ta : TA} {p pos : Pos} (hg : Gl X "range") (hm : X.mg "range" = none) (ha : PA X [a] ta) (hs : starEach [a] X.env = [(false, eval a X.env)] := by rfl) : PI X tg (.Call (.Name "range" p) [a] [] pos) (iRng1 ta) := by
  intro pins s σ H R I h
  refine Call_ (ld_blt I hg hm boot_range (PyProof.Rows.callWith_type1 (thn (ha pos pins s σ H _ I h) fun us s1 ⟨vs, H1, I1, r1, q1⟩ => ?_) hs rfl))
  obtain ⟨j, e, q1, q2, q⟩ := q1
  subst e
  cases r1 with
  | cons r rr =>
    cases rr
    obtain ⟨t, rfl⟩ := r
    exact call_range_1 (range_it I1 (by omega) (by omega) q1 q2 (by simpa using q))
theorem pi_range2 {a b : Expr} {ta : TA} {p pos : Pos} (hg : Gl X "range") (hm : X.mg "range" = none) (ha : PA X [a, b] ta) (hs : starEach [a, b] X.env = [(false, eval a X.env), (false, eval b X.env)] := by rfl) (hs2 : starEach [b] X.env = [(false, eval b X.env)] := by rfl) :
    PI X tg (.Call (.Name "range" p) [a, b] [] pos) (iRng2 ta) := by
  intro pins s σ H R I h
  refine Call_ (ld_blt I hg hm boot_range (PyProof.Rows.callWith_type1 (thn (ha pos pins s σ H _ I h) fun us s1 ⟨vs, H1, I1, r1, q1⟩ => ?_) (by rw [hs, hs2]) (by rw [hs2]; rfl)))
  obtain ⟨i, j, e, ⟨q1, q2, q3, q4⟩, q⟩ := q1
  subst e
  cases r1 with
  | cons r rr =>
    cases rr with
    | cons r' rr =>
      cases rr
      obtain ⟨t, rfl⟩ := r
      obtain ⟨t', rfl⟩ := r'
      exact call_range_2 (range_it I1 q1 q2 q3 q4 q)

/-! ### for -/
/-- W: the invariant by the turn and a measure; N: what the body is to reach -/
def tFor (wi : TI) (g : TG) (tb : TS) : TS := fun D σ H => wi σ H fun J H1 => ∃ W : Nat → Nat → St → Hp → Prop, (∃ m, W 0 m σ H1) ∧ ∀ i m σ H, W i m σ H →
  (J.stop i H ∧ D.nx σ H) ∨ (J.go i H ∧ ∃ N : St → Hp → Prop, (∀ σ' H', N σ' H' → ∃ m', m' < m ∧ W (i + 1) m' σ' H') ∧ ∀ x H', J.yld i H x H' → g x σ H' fun σ2 H2 => tb { D with nx := N, ct := N, bk := D.nx } σ2 H2)
/-- the records at fp as they stand -/
def pinsAt (fp : List Addr) (h : Heap) : List (Addr × Obj) := fp.filterMap fun b => (h.get? b).map fun o => (b, o)
theorem mem_pinsAt {fp : List Addr} {h : Heap} {b : Addr} {o : Obj} (hb : b ∈ fp) (e : h.get? b = some o) : (b, o) ∈ pinsAt fp h := List.mem_filterMap.mpr ⟨b, hb, by rw [e]; rfl⟩
theorem of_pinsAt {fp : List Addr} {h : Heap} {p : Addr × Obj} (hp : p ∈ pinsAt fp h) : p.1 ∈ fp ∧ h.get? p.1 = some p.2 := by
  obtain ⟨b, hb, e⟩ := List.mem_filterMap.mp hp
  cases q : h.get? b with
  | none => rw [q] at e; cases e
  | some o =>
    rw [q] at e
    have e' : (b, o) = p := Option.some.inj e
    subst e'
    exact ⟨hb, q⟩
theorem Inv.pinned {pins : List (Addr × Obj)} {σ : St} {H : Hp} {s : Shared} {fp : List Addr} (I : Inv X pins σ H s) (hf : ∀ b ∈ fp, FpOk X pins H b) (ho : ∀ b ∈ fp, ∃ o, s.heap.get? b = some o ∧ ∀ v, o.data ≠ .cell v) : Inv X (pins ++ pinsAt fp s.heap) σ H s :=
  I.pins_of fun p hp => (List.mem_append.mp hp).elim (fun z => I.pin p (List.mem_append_right _ z)) fun z => by
    obtain ⟨hb, e⟩ := of_pinsAt z
    obtain ⟨f0, f1, f2, _⟩ := hf p.1 hb
    obtain ⟨o, e', d⟩ := ho p.1 hb
    rw [e] at e'; cases e'
    exact ⟨e, f0, f1, f2, d⟩
theorem Inv.unpinned {pins pl : List (Addr × Obj)} {σ : St} {H : Hp} {s : Shared} (I : Inv X (pins ++ pl) σ H s) : Inv X pins σ H s := I.pins_of fun p hp => I.pin p (List.mem_append_right _ (List.mem_append_left _ hp))
theorem ps_for {iter : Expr} {body : List Stmt} {wi : TI} {g : TG} {tb : TS} {pos : Pos} (hp : PassesOwn (model X.prog X.w) X.A X.env X.xe) (hc : X.calm = true) (hi : PI X tg iter wi) (hg : PG X tg g) (hb : PSs X body tb)
    (hs : ∀ x, foldedSetIterable iter X.env x = pure x := by intro _; rfl) : PS X (.For tg iter body [] pos) (tFor wi g tb) := by
  intro pins s σ H D I h
  refine wpAny_For (thn (hi pins s σ H _ I h) fun v s1 h1 => thn h1 fun itv s2 h2 => ?_) hs
  obtain ⟨it, fp, tn, J, H2, e, I2, T, st2, f2, W, ⟨m0, w0⟩, turn⟩ := h2
  subst e
  -- what stays true of the iterator's objects through the loop
  have stat : ∀ {H' : Hp}, (∀ b ∈ fp, H' b = none) → ∀ b ∈ fp, FpOk X pins H' b := fun hn b hb => ⟨hn b hb, (f2 b hb).2⟩
  refine codeAny_forLoop_any (fun n s' => ∃ i σ' H', Inv X pins σ' H' s' ∧ tn i s'.heap ∧ (∀ b ∈ fp, H' b = none) ∧ W i n σ' H') ?_ m0 ⟨0, σ, H2, I2, st2, fun b hb => (f2 b hb).1, w0⟩
  rintro n s3 ⟨i, σ3, H3, I3, st3, fr3, w3⟩
  rcases turn i n σ3 H3 w3 with ⟨stop, qn⟩ | ⟨go, N, hN, step⟩
  · refine wpAny_passesOwn hp (thn (T.done X rfl rfl rfl hc i pins s3 σ3 H3 X.xe I3 (stat fr3) st3 stop) fun r s4 ⟨hr, I4⟩ => ?_)
    subst hr
    exact wpAny_execs_nil ⟨σ3, H3, I4, qn⟩
  · refine wpAny_passesOwn hp (thn (T.item X rfl rfl rfl hc i pins s3 σ3 H3 X.xe I3 (stat fr3) st3 go) fun r s4 ⟨u, hr, h4⟩ => ?_)
    subst hr
    refine wpAny_passesOwn hp (thn h4 fun _ s5 ⟨x, H5, I5, r5, y5, st5, fr5⟩ => ?_)
    have I5' := I5.pinned (stat fr5) (T.obj _ _ st5)
    refine wpAny_passesOwn hp (thn (hg _ s5 σ3 H5 x u _ I5' r5 (step x H5 y5)) fun _ s6 ⟨σ6, H6, I6, q6⟩ => ?_)
    refine wpAny_passesOwn hp (thn (hb _ s6 σ6 H6 _ I6 q6) fun f s7 q7 => ?_)
    have again : ∀ {σ7 : St} {H7 : Hp}, Inv X (pins ++ pinsAt fp s5.heap) σ7 H7 s7 → N σ7 H7 → ∃ m, m < n ∧ ∃ i σ' H', Inv X pins σ' H' s7 ∧ tn i s7.heap ∧ (∀ b ∈ fp, H' b = none) ∧ W i m σ' H' := fun {σ7 H7} I7 n7 => by
      obtain ⟨m', hm, w7⟩ := hN σ7 H7 n7
      refine ⟨m', hm, i + 1, σ7, H7, I7.unpinned, T.keep _ _ _ st5 fun b hb o e => (I7.pin (b, o) (List.mem_append_right _ (List.mem_append_right _ (mem_pinsAt hb e)))).1, fun b hb => ?_, w7⟩
      obtain ⟨o, e, d⟩ := T.obj _ _ st5 b hb
      exact (I7.pin (b, o) (List.mem_append_right _ (List.mem_append_right _ (mem_pinsAt hb e)))).2.1
    cases f with
    | next => obtain ⟨σ7, H7, I7, n7⟩ := q7; exact again I7 n7
    | cont => obtain ⟨σ7, H7, I7, n7⟩ := q7; exact again I7 n7
    | brk => obtain ⟨σ7, H7, I7, q7⟩ := q7; exact ⟨σ7, H7, I7.unpinned, q7⟩
    | ret v => obtain ⟨x7, σ7, H7, I7, r7, q7⟩ := q7; exact ⟨x7, σ7, H7, I7.unpinned, r7, q7⟩
end

/-! ### the forms one uses -/
/-- over a list that the body leaves as it is -/
theorem for_list {K : PySem.W.Frag} {a : Addr} {xs : List V} {g : TG} {tb : TS} {D : Ends} {σ : St} {H : Hp} (Pv : Nat → St → Hp → Prop) (h0 : Pv 0 σ H) (hl : ∀ i σ H, i ≤ xs.length → Pv i σ H → SqL K H a xs)
    (hs : ∀ i x σ H, xs[i]? = some x → Pv i σ H → g x σ H fun σ2 H2 => tb { D with nx := Pv (i + 1), ct := Pv (i + 1), bk := D.nx } σ2 H2) (hd : ∀ σ H, Pv xs.length σ H → D.nx σ H) :
    ∃ W : Nat → Nat → St → Hp → Prop, (∃ m, W 0 m σ H) ∧ ∀ i m σ H, W i m σ H →
      ((Itl K a).stop i H ∧ D.nx σ H) ∨ ((Itl K a).go i H ∧ ∃ N : St → Hp → Prop, (∀ σ' H', N σ' H' → ∃ m', m' < m ∧ W (i + 1) m' σ' H') ∧ ∀ x H', (Itl K a).yld i H x H' → g x σ H' fun σ2 H2 => tb { D with nx := N, ct := N, bk := D.nx } σ2 H2) := by
  refine ⟨fun i m σ H => m = xs.length - i ∧ i ≤ xs.length ∧ Pv i σ H, ⟨xs.length, by simp, Nat.zero_le _, h0⟩, ?_⟩
  rintro i m σ H ⟨rfl, hi, p⟩
  have q := hl i σ H hi p
  by_cases hlt : i < xs.length
  · refine .inr ⟨⟨xs, xs[i], q, by simp [hlt]⟩, Pv (i + 1), fun σ' H' p' => ⟨xs.length - (i + 1), by omega, rfl, hlt, p'⟩, fun x H' y => ?_⟩
    obtain ⟨e, y⟩ := y
    subst e
    exact hs i x σ _ (y xs q) p
  · have e : i = xs.length := by omega
    subst e
    exact .inl ⟨⟨xs, q, Nat.le_refl _⟩, hd σ H p⟩
theorem for_range {lo : Int} {n : Nat} {g : TG} {tb : TS} {D : Ends} {σ : St} {H : Hp} (Pv : Nat → St → Hp → Prop) (h0 : Pv 0 σ H)
    (hs : ∀ i σ H, i < n → Pv i σ H → g (.int (lo + i)) σ H fun σ2 H2 => tb { D with nx := Pv (i + 1), ct := Pv (i + 1), bk := D.nx } σ2 H2) (hd : ∀ σ H, Pv n σ H → D.nx σ H) :
    ∃ W : Nat → Nat → St → Hp → Prop, (∃ m, W 0 m σ H) ∧ ∀ i m σ H, W i m σ H →
      ((Itr lo n).stop i H ∧ D.nx σ H) ∨ ((Itr lo n).go i H ∧ ∃ N : St → Hp → Prop, (∀ σ' H', N σ' H' → ∃ m', m' < m ∧ W (i + 1) m' σ' H') ∧ ∀ x H', (Itr lo n).yld i H x H' → g x σ H' fun σ2 H2 => tb { D with nx := N, ct := N, bk := D.nx } σ2 H2) := by
  refine ⟨fun i m σ H => m = n - i ∧ i ≤ n ∧ Pv i σ H, ⟨n, by simp, Nat.zero_le _, h0⟩, ?_⟩
  rintro i m σ H ⟨rfl, hi, p⟩
  by_cases hlt : i < n
  · refine .inr ⟨hlt, Pv (i + 1), fun σ' H' p' => ⟨n - (i + 1), by omega, rfl, hlt, p'⟩, fun x H' y => ?_⟩
    obtain ⟨e, y⟩ := y
    subst e y
    exact hs i σ _ hlt p
  · have e : i = n := by omega
    subst e
    exact .inl ⟨Nat.le_refl _, hd σ H p⟩
/-- while, by a word and a measure of the state -/
theorem while_by {c : TT} {tb : TS} {D : Ends} {σ : St} {H : Hp} (Pv : St → Hp → Prop) (μ : St → Hp → Nat) (h0 : Pv σ H)
    (hs : ∀ σ H, Pv σ H → c σ H fun b H1 => if b = true then tb { D with nx := fun σ' H' => Pv σ' H' ∧ μ σ' H' < μ σ H, ct := fun σ' H' => Pv σ' H' ∧ μ σ' H' < μ σ H, bk := D.nx } σ H1 else D.nx σ H1)
    (mono : ∀ σ H Q Q', (∀ b H1, Q b H1 → Q' b H1) → c σ H Q → c σ H Q') : tWhile c tb D σ H := by
  refine ⟨fun m σ H => m = μ σ H ∧ Pv σ H, ⟨_, rfl, h0⟩, ?_⟩
  rintro m σ H ⟨rfl, p⟩
  refine mono σ H _ _ (fun b H1 q => ?_) (hs σ H p)
  cases b with
  | true => exact ⟨_, fun σ' H' ⟨p', l⟩ => ⟨_, l, rfl, p'⟩, q⟩
  | false => exact q
end L2

namespace L2
open PySem PySem.Spec PyProof.Rows

abbrev R2 := V → V → Hp → VK → Prop
/-- a two-place operation on values: f is binaryOp op, inplaceOp op or compareOp op -/
def OpR (X : Cx) (f : Value → Value → Sem Value) (r : R2) : Prop :=
  ∀ (pins : List (Addr × Obj)) (s : Shared) (σ : St) (H : Hp) (x y : V) (v u : Value) (Q : VK), Inv X pins σ H s → RelV x v → RelV y u → r x y H Q →
    wpAny (model X.prog X.w) X.A (f v u) (EP X pins σ Q) X.xe s
/-- a one-place operation -/
def UnR (X : Cx) (f : Value → Sem Value) (r : V → Hp → VK → Prop) : Prop :=
  ∀ (pins : List (Addr × Obj)) (s : Shared) (σ : St) (H : Hp) (x : V) (v : Value) (Q : VK), Inv X pins σ H s → RelV x v → r x H Q →
    wpAny (model X.prog X.w) X.A (f v) (EP X pins σ Q) X.xe s
/-- a call of a value that is known (a builtin, a type) with values -/
def CallR (X : Cx) (f : Value) (r : List V → Hp → VK → Prop) : Prop :=
  ∀ (pins : List (Addr × Obj)) (s : Shared) (σ : St) (H : Hp) (xs : List V) (us : List Value) (Q : VK), Inv X pins σ H s → Vals xs us → r xs H Q →
    wpAny (model X.prog X.w) X.A (call f us) (EP X pins σ Q) X.xe s
def tOp (r : R2) (ta tb : TE) : TE := fun σ H Q => ta σ H fun x H1 => tb σ H1 fun y H2 => r x y H2 Q
def tUn (r : V → Hp → VK → Prop) (ta : TE) : TE := fun σ H Q => ta σ H fun x H1 => r x H1 Q
/-- ints in, under C, and a value out -/
def rI (C : Int → Int → Prop) (g : Int → Int → V) : R2 := fun x y H Q => ∃ i j, x = .int i ∧ y = .int j ∧ C i j ∧ Q (g i j) H
def rI0 (g : Int → Int → V) : R2 := fun x y H Q => ∃ i j, x = .int i ∧ y = .int j ∧ Q (g i j) H
def rU (g : Int → V) : V → Hp → VK → Prop := fun x H Q => ∃ i, x = .int i ∧ Q (g i) H

section
variable {X : Cx} {a b c : Expr} {ta tb tc : TE} {pos : Pos}

theorem binT (ha : PE X a ta) (hb : PE X b tb) {pins : List (Addr × Obj)} {s : Shared} {σ : St} {H : Hp} {R : V → V → Hp → Prop} (I : Inv X pins σ H s)
    (h : ta σ H fun x H1 => tb σ H1 fun y H2 => R x y H2) {Q : Value → Shared → Prop} {f : Value → Value → Sem Value}
    (hf : ∀ v u s2 x y H2, Inv X pins σ H2 s2 → RelV x v → RelV y u → R x y H2 → wpAny (model X.prog X.w) X.A (f v u) Q X.xe s2) :
    wpAny (model X.prog X.w) X.A (eval a X.env) (fun v s₁ => wpAny (model X.prog X.w) X.A (eval b X.env) (fun u s₂ => wpAny (model X.prog X.w) X.A (f v u) Q X.xe s₂) X.xe s₁) X.xe s := by
  refine thn (ha pins s σ H _ I h) fun v s1 ⟨x, H1, I1, r1, q1⟩ => ?_
  refine thn (hb pins s1 σ H1 _ I1 q1) fun u s2 ⟨y, H2, I2, r2, q2⟩ => ?_
  exact hf v u s2 x y H2 I2 r1 r2 q2

theorem pe_op {op : Operator} {r : R2} (ho : OpR X (binaryOp op) r) (ha : PE X a ta) (hb : PE X b tb) : PE X (.BinOp a op b pos) (tOp r ta tb) := by
  intro pins s σ H Q I h
  exact wpAny_BinOp (binT ha hb I h fun v u s2 x y H2 I2 rx ry q => ho pins s2 σ H2 x y v u Q I2 rx ry q)
theorem pe_un {op : UnaryOp} {r : V → Hp → VK → Prop} (ho : UnR X (unaryOp op) r) (ha : PE X a ta) : PE X (.UnaryOp op a pos) (tUn r ta) := by
  intro pins s σ H Q I h
  exact UnaryOp_ (thn (ha pins s σ H _ I h) fun v s1 ⟨x, H1, I1, r1, q1⟩ => ho pins s1 σ H1 x v Q I1 r1 q1)
/-! ### ints -/
theorem opI {f : Value → Value → Sem Value} {C : Int → Int → Prop} {g : Int → Int → Int}
    (rule : ∀ (i j : Int) (t u : Tok) (s : Shared) (Q : Value → Shared → Prop) (E : Value → Shared → Prop), C i j → Q (.int (g i j) s.toks) { s with toks := s.toks + 1 } → wpAny (model X.prog X.w) X.A (f (.int i t) (.int j u)) Q E s) :
    OpR X f (rI C fun i j => .int (g i j)) := by
  intro pins s σ H x y v u Q I rx ry h
  obtain ⟨i, j, rfl, rfl, hc, q⟩ := h
  obtain ⟨t, rfl⟩ := rx
  obtain ⟨t', rfl⟩ := ry
  exact rule i j t t' s _ _ hc ⟨.int (g i j), H, I.tok _, ⟨_, rfl⟩, q⟩
theorem opI0 {f : Value → Value → Sem Value} {g : Int → Int → Int}
    (rule : ∀ (i j : Int) (t u : Tok) (s : Shared) (Q : Value → Shared → Prop) (E : Value → Shared → Prop), Q (.int (g i j) s.toks) { s with toks := s.toks + 1 } → wpAny (model X.prog X.w) X.A (f (.int i t) (.int j u)) Q E s) :
    OpR X f (rI0 fun i j => .int (g i j)) := by
  intro pins s σ H x y v u Q I rx ry h
  obtain ⟨i, j, rfl, rfl, q⟩ := h
  obtain ⟨t, rfl⟩ := rx
  obtain ⟨t', rfl⟩ := ry
  exact rule i j t t' s _ _ ⟨.int (g i j), H, I.tok _, ⟨_, rfl⟩, q⟩
theorem opB0 {f : Value → Value → Sem Value} {g : Int → Int → Bool}
    (rule : ∀ (i j : Int) (t u : Tok) (s : Shared) (Q : Value → Shared → Prop) (E : Value → Shared → Prop), Q (.bool (g i j)) s → wpAny (model X.prog X.w) X.A (f (.int i t) (.int j u)) Q E s) :
    OpR X f (rI0 fun i j => .bl (g i j)) := by
  intro pins s σ H x y v u Q I rx ry h
  obtain ⟨i, j, rfl, rfl, q⟩ := h
  obtain ⟨t, rfl⟩ := rx
  obtain ⟨t', rfl⟩ := ry
  exact rule i j t t' s _ _ ⟨.bl (g i j), H, I, rfl, q⟩

def CPow (i j : Int) : Prop := 0 ≤ j ∧ j ≤ 1000000 ∧ i.natAbs < 2 ^ 64
def CMul (i j : Int) : Prop := (-(2 ^ 64) < i ∧ i < 2 ^ 64) ∨ (-(2 ^ 64) < j ∧ j < 2 ^ 64)
theorem CMul.ok {i j : Int} (h : CMul i j) : IntMulOk i j := by
  rcases h with ⟨h1, h2⟩ | ⟨h1, h2⟩
  · exact .of_left (intBits_le_64 h1 h2)
  · exact .of_right (intBits_le_64 h1 h2)
theorem op_add : OpR X (binaryOp .Add) (rI0 fun i j => .int (i + j)) := opI0 fun _ _ _ _ _ _ _ q => add_int q
theorem op_sub : OpR X (binaryOp .Sub) (rI0 fun i j => .int (i - j)) := opI0 fun _ _ _ _ _ _ _ q => sub_int q
/-- % by a positive divisor of any size -/
theorem op_mod : OpR X (binaryOp .Mod) (rI (fun _ j => 0 < j) fun i j => .int (i % j)) := opI fun i j _ _ _ _ _ hc q => by
  have h1 : (0 : Int) < j := hc
  exact mod_int' (by omega) (by rw [Int.fmod_eq_emod_of_nonneg i (by omega)]; exact q)
theorem op_pow : OpR X (binaryOp .Pow) (rI CPow fun i j => .int (i ^ j.toNat)) := opI fun _ _ _ _ _ _ _ hc q => pow_int_small hc.1 hc.2.1 hc.2.2 q
theorem unI {f : Value → Sem Value} {g : Int → Int}
    (rule : ∀ (i : Int) (t : Tok) (s : Shared) (Q : Value → Shared → Prop) (E : Value → Shared → Prop), Q (.int (g i) s.toks) { s with toks := s.toks + 1 } → wpAny (model X.prog X.w) X.A (f (.int i t)) Q E s) :
    UnR X f (rU fun i => .int (g i)) := by
  intro pins s σ H x v Q I rx h
  obtain ⟨i, rfl, q⟩ := h
  obtain ⟨t, rfl⟩ := rx
  exact rule i t s _ _ ⟨.int (g i), H, I.tok _, ⟨_, rfl⟩, q⟩
theorem un_neg : UnR X (unaryOp .USub) (rU fun i => .int (-i)) := unI fun _ _ _ _ _ q => neg_int q
/-! ### bools among ints: n += (a < b) -/
end

/-! ### comparisons -/
/-- the scalars that == tells apart as data does -/
def scal : V → V → Bool
  | .non, .non => true | .non, .int _ => true | .int _, .non => true | .non, .bl _ => true | .bl _, .non => true | .non, .str _ => true | .str _, .non => true
  | .int _, .int _ => true | .bl _, .bl _ => true | .str _, .str _ => true | .byt _, .byt _ => true
  | .int _, .str _ => true | .str _, .int _ => true | .bl _, .str _ => true | .str _, .bl _ => true
  | _, _ => false
def rEq : R2 := fun x y H Q => scal x y = true ∧ Q (.bl (decide (x = y))) H
def rNe : R2 := fun x y H Q => scal x y = true ∧ Q (.bl (!decide (x = y))) H

theorem dec_int {i j : Int} : decide (V.int i = V.int j) = (i == j) := by
  rw [Bool.eq_iff_iff]
  simp
theorem dec_bl {i j : Bool} : decide (V.bl i = V.bl j) = (i == j) := by
  rw [Bool.eq_iff_iff]
  simp
theorem dec_str {i j : Str} : decide (V.str i = V.str j) = (i == j) := by
  rw [Bool.eq_iff_iff]
  simp
theorem dec_byt {i j : Array UInt8} : decide (V.byt i = V.byt j) = (i.toList == j.toList) := by
  rw [Bool.eq_iff_iff]
  cases i
  cases j
  simp

section
variable {X : Cx} {a b c : Expr} {ta tb tc : TE} {pos : Pos}
theorem fin_bl {pins : List (Addr × Obj)} {σ : St} {H : Hp} {s : Shared} {Q : VK} {k k' : Bool} (I : Inv X pins σ H s) (q : Q (.bl k) H) (e : k = k') : EP X pins σ Q (.bool k') s := by
  subst e
  exact ⟨.bl k, H, I, rfl, q⟩
theorem op_eq : OpR X (compareOp .Eq) rEq := by
  intro pins s σ H x y v u Q I rx ry h
  obtain ⟨hs, q⟩ := h
  cases x with
  | non =>
    cases rx
    cases y with
    | non => cases ry; exact PySem.EqNone.eq_none_none (fin_bl I q (by simp))
    | bl j => cases ry; exact PySem.EqNone.eq_none_bool (fin_bl I q (by simp))
    | int j => obtain ⟨t', rfl⟩ := ry; exact PySem.EqNone.eq_none_int (fin_bl I q (by simp))
    | str j => obtain ⟨t', rfl⟩ := ry; exact PySem.EqNone.eq_none_str (fin_bl I q (by simp))
    | _ => exact absurd (show false = true from hs) Bool.false_ne_true
  | bl i =>
    cases rx
    cases y with
    | non => cases ry; exact PySem.EqNone.eq_bool_none (fin_bl I q (by simp))
    | bl j => cases ry; exact eq_bool (fin_bl I q dec_bl)
    | str j => obtain ⟨t', rfl⟩ := ry; exact PySem.EqMixed.eq_bool_str (fin_bl I q (by simp))
    | _ => exact absurd (show false = true from hs) Bool.false_ne_true
  | int i =>
    obtain ⟨t, rfl⟩ := rx
    cases y with
    | non => cases ry; exact PySem.EqNone.eq_int_none (fin_bl I q (by simp))
    | int j => obtain ⟨t', rfl⟩ := ry; exact eq_int (fin_bl I q dec_int)
    | str j => obtain ⟨t', rfl⟩ := ry; exact PySem.EqMixed.eq_int_str (fin_bl I q (by simp))
    | _ => exact absurd (show false = true from hs) Bool.false_ne_true
  | str i =>
    obtain ⟨t, rfl⟩ := rx
    cases y with
    | non => cases ry; exact PySem.EqNone.eq_str_none (fin_bl I q (by simp))
    | bl j => cases ry; exact PySem.EqMixed.eq_str_bool (fin_bl I q (by simp))
    | int j => obtain ⟨t', rfl⟩ := ry; exact PySem.EqMixed.eq_str_int (fin_bl I q (by simp))
    | str j => obtain ⟨t', rfl⟩ := ry; exact eq_str (fin_bl I q dec_str)
    | _ => exact absurd (show false = true from hs) Bool.false_ne_true
  | byt i =>
    obtain ⟨t, rfl⟩ := rx
    cases y with
    | byt j => obtain ⟨t', rfl⟩ := ry; exact PySem.W.eq_bytes (fin_bl I q dec_byt)
    | _ => exact absurd (show false = true from hs) Bool.false_ne_true
  | _ => cases y <;> exact absurd (show false = true from hs) Bool.false_ne_true
theorem op_ne : OpR X (compareOp .NotEq) rNe := by
  intro pins s σ H x y v u Q I rx ry h
  obtain ⟨hs, q⟩ := h
  cases x with
  | non =>
    cases rx
    cases y with
    | non => cases ry; exact PySem.EqNone.ne_none_none (fin_bl I q (by simp))
    | bl j => cases ry; exact PySem.EqNone.ne_none_bool (fin_bl I q (by simp))
    | int j => obtain ⟨t', rfl⟩ := ry; exact PySem.EqNone.ne_none_int (fin_bl I q (by simp))
    | str j => obtain ⟨t', rfl⟩ := ry; exact PySem.EqNone.ne_none_str (fin_bl I q (by simp))
    | _ => exact absurd (show false = true from hs) Bool.false_ne_true
  | bl i =>
    cases rx
    cases y with
    | non => cases ry; exact PySem.EqNone.ne_bool_none (fin_bl I q (by simp))
    | bl j => cases ry; exact ne_bool (fin_bl I q (congrArg not dec_bl))
    | str j => obtain ⟨t', rfl⟩ := ry; exact PySem.EqMixed.ne_bool_str (fin_bl I q (by simp))
    | _ => exact absurd (show false = true from hs) Bool.false_ne_true
  | int i =>
    obtain ⟨t, rfl⟩ := rx
    cases y with
    | non => cases ry; exact PySem.EqNone.ne_int_none (fin_bl I q (by simp))
    | int j => obtain ⟨t', rfl⟩ := ry; exact ne_int (fin_bl I q (congrArg not dec_int))
    | str j => obtain ⟨t', rfl⟩ := ry; exact PySem.EqMixed.ne_int_str (fin_bl I q (by simp))
    | _ => exact absurd (show false = true from hs) Bool.false_ne_true
  | str i =>
    obtain ⟨t, rfl⟩ := rx
    cases y with
    | non => cases ry; exact PySem.EqNone.ne_str_none (fin_bl I q (by simp))
    | bl j => cases ry; exact PySem.EqMixed.ne_str_bool (fin_bl I q (by simp))
    | int j => obtain ⟨t', rfl⟩ := ry; exact PySem.EqMixed.ne_str_int (fin_bl I q (by simp))
    | str j => obtain ⟨t', rfl⟩ := ry; exact ne_str (fin_bl I q (congrArg not dec_str))
    | _ => exact absurd (show false = true from hs) Bool.false_ne_true
  | byt i =>
    obtain ⟨t, rfl⟩ := rx
    cases y with
    | byt j => obtain ⟨t', rfl⟩ := ry; exact PySem.W.ne_bytes (fin_bl I q (congrArg not dec_byt))
    | _ => exact absurd (show false = true from hs) Bool.false_ne_true
  | _ => cases y <;> exact absurd (show false = true from hs) Bool.false_ne_true

theorem op_lt : OpR X (compareOp .Lt) (rI0 fun i j => .bl (decide (i < j))) := opB0 fun _ _ _ _ _ _ _ q => lt_int q
theorem op_le : OpR X (compareOp .LtE) (rI0 fun i j => .bl (decide (i ≤ j))) := opB0 fun _ _ _ _ _ _ _ q => le_int q
theorem op_gt : OpR X (compareOp .Gt) (rI0 fun i j => .bl (decide (j < i))) := opB0 fun _ _ _ _ _ _ _ q => gt_int q
theorem op_ge : OpR X (compareOp .GtE) (rI0 fun i j => .bl (decide (j ≤ i))) := opB0 fun _ _ _ _ _ _ _ q => ge_int q
theorem op_notN : OpR X (compareOp .IsNot) (fun x y H Q => y = .non ∧ Q (.bl (!decide (x = .non))) H) := by
  intro pins s σ H x y v u Q I rx ry h
  obtain ⟨rfl, q⟩ := h
  cases ry
  refine isnot_none_gen (fin_bl I q ?_)
  cases x <;> first
    | (cases rx; rfl)
    | (obtain ⟨t, rfl⟩ := rx; rfl)

/-- two rules for one operation: by cases -/
theorem OpR.or {f : Value → Value → Sem Value} {r r' : R2} (h : OpR X f r) (h' : OpR X f r') : OpR X f (fun x y H Q => r x y H Q ∨ r' x y H Q) := by
  intro pins s σ H x y v u Q I rx ry q
  rcases q with q | q
  · exact h pins s σ H x y v u Q I rx ry q
  · exact h' pins s σ H x y v u Q I rx ry q

theorem nomark (b : Expr) {op : CmpOp} (h : op ≠ .In := by decide) (h2 : op ≠ .NotIn := by decide) : behindInMarks op b = false := by
  have e1 : (op == CmpOp.In) = false := by cases op <;> first | rfl | exact absurd rfl h
  have e2 : (op == CmpOp.NotIn) = false := by cases op <;> first | rfl | exact absurd rfl h2
  cases b <;> simp [behindInMarks, e1, e2]
/-- a comparison as a value; hm: nomark b, or (for in, not in) by with_unfolding_all rfl -/
theorem pe_cmpR {op : CmpOp} {r : R2} (ho : OpR X (compareOp op) r) (ha : PE X a ta) (hb : PE X b tb) (hm : behindInMarks op b = false) : PE X (.Compare a [op] [b] pos) (tOp r ta tb) := by
  intro pins s σ H Q I h
  exact wpAny_Compare1 (binT ha hb I h fun v u s2 x y H2 I2 rx ry q => ho pins s2 σ H2 x y v u Q I2 rx ry q) hm
/-- a reading of a value as a test -/
def tTest (t : TE) : TT := fun σ H Q => t σ H fun x H' => ∃ k, x = .bl k ∧ Q k H'
theorem pt_cmpR {op : CmpOp} {r : R2} (ho : OpR X (compareOp op) r) (ha : PE X a ta) (hb : PE X b tb) (hm : behindInMarks op b = false) : PT X (.Compare a [op] [b] pos) (tTest (tOp r ta tb)) := by
  intro pins s σ H Q I h
  refine wpAny_isTrue_Compare1 (thn (ha pins s σ H _ I h) fun v s1 ⟨x, H1, I1, r1, q1⟩ => thn (hb pins s1 σ H1 _ I1 q1) fun u s2 ⟨y, H2, I2, r2, q2⟩ =>
    thn (ho pins s2 σ H2 x y v u _ I2 r1 r2 q2) fun c s3 ⟨z, H3, I3, r3, k, e, q3⟩ => ?_) hm
  subst e
  cases r3
  exact wpAny_truthy_bool ⟨H3, I3, q3⟩
/-- a op1 b op2 c -/
def tChain (r r' : R2) (ta tb tc : TE) : TE := fun σ H Q => ta σ H fun x H1 => tb σ H1 fun y H2 => r x y H2 fun z H3 => ∃ k, z = .bl k ∧
  (if k = true then tc σ H3 fun w' H4 => r' y w' H4 Q else Q (.bl false) H3)
theorem pe_chain {op op' : CmpOp} {r r' : R2} (ho : OpR X (compareOp op) r) (ho' : OpR X (compareOp op') r') (ha : PE X a ta) (hb : PE X b tb) (hc : PE X c tc)
    (hm : lastMarks [op, op'] [b, c] = false := by with_unfolding_all rfl) : PE X (.Compare a [op, op'] [b, c] pos) (tChain r r' ta tb tc) := by
  intro pins s σ H Q I h
  refine Compare_chain (thn (ha pins s σ H _ I h) fun v s1 ⟨x, H1, I1, r1, q1⟩ => chain_link (thn (hb pins s1 σ H1 _ I1 q1) fun u s2 ⟨y, H2, I2, r2, q2⟩ =>
    thn (ho pins s2 σ H2 x y v u _ I2 r1 r2 q2) fun d s3 ⟨z, H3, I3, r3, k, e, q3⟩ => ?_)) hm
  subst e
  cases r3
  refine wpAny_truthy_bool ?_
  cases k with
  | false => exact ite_ff ⟨.bl false, H3, I3, rfl, q3⟩
  | true => exact ite_tt (chain_last (thn (hc pins s3 σ H3 _ I3 q3) fun w' s4 ⟨z', H4, I4, r4, q4⟩ => ho' pins s4 σ H4 y z' u w' Q I4 r2 r4 q4))
/-! ### truth -/
theorem line63 : (sizeLine : Nat) < 2 ^ 63 := by rw [sizeLine_eq]; decide
/-! ### strs and bytes -/
/-! ### scalar builtins, by CallR -/
theorem vals1 {x : V} {us : List Value} (r : Vals [x] us) : ∃ u, us = [u] ∧ RelV x u := by
  cases r with
  | cons r1 r2 => cases r2; exact ⟨_, rfl, r1⟩
theorem call_abs : CallR X (.builtin "abs") (fun xs H Q => ∃ i, xs = [.int i] ∧ Q (.int (if i < 0 then -i else i)) H) := by
  intro pins s σ H xs us Q I r h
  obtain ⟨i, rfl, q⟩ := h
  obtain ⟨u, rfl, t, rfl⟩ := vals1 r
  exact call_abs_int fun u tk => ⟨.int (if i < 0 then -i else i), H, I.tok _, ⟨_, rfl⟩, q⟩
/-- len of a str, a bytes, a list, a tuple -/
def LenV (K : PySem.W.Frag) (x : V) (H : Hp) (n : Nat) : Prop :=
  match x with
  | .str y => y.length ≤ sizeLine ∧ n = y.length
  | .byt y => y.size ≤ sizeLine ∧ n = y.size
  | .ref p => (∃ xs, SqL K H p xs ∧ n = xs.length) ∨ ∃ xs, SqT K H p xs ∧ n = xs.length
  | _ => False
theorem call_len : CallR X (.builtin "len") (fun xs H Q => ∃ x n, xs = [x] ∧ LenV X.K x H n ∧ Q (.int n) H) := by
  intro pins s σ H xs us Q I r h
  obtain ⟨x, n, rfl, e, q⟩ := h
  obtain ⟨u, rfl, rx⟩ := vals1 r
  have hl := line63
  have hs : sizeLine = 16777216 := sizeLine_eq
  cases x with
  | str y =>
    obtain ⟨t, rfl⟩ := rx
    obtain ⟨hy, e'⟩ : y.length ≤ sizeLine ∧ n = y.length := e
    subst e'
    exact len_str (by omega) ⟨.int _, H, I.tok _, ⟨_, rfl⟩, q⟩
  | byt y =>
    obtain ⟨t, rfl⟩ := rx
    obtain ⟨hy, e'⟩ : y.size ≤ sizeLine ∧ n = y.size := e
    subst e'
    exact PySem.W.len_bytes (by omega) ⟨.int _, H, I.tok _, ⟨_, rfl⟩, q⟩
  | ref p =>
    cases rx
    have e' : (∃ xs, SqL X.K H p xs ∧ n = xs.length) ∨ ∃ xs, SqT X.K H p xs ∧ n = xs.length := e
    rcases e' with ⟨xs, hx, e'⟩ | ⟨xs, hx, e'⟩
    · subst e'
      obtain ⟨its, r', pl, hz⟩ := I.list hx
      have hlen := r'.length
      exact Calls.call_len_list pl.isList (by simp only [List.size_toArray]; omega) ⟨.int xs.length, H, I.tok _, ⟨_, by simp only [List.size_toArray]; rw [hlen]⟩, q⟩
    · subst e'
      obtain ⟨its, r', pl, hz⟩ := I.tuple hx
      have hlen := r'.length
      exact len_tuple pl (by simp only [List.size_toArray]; omega) ⟨.int xs.length, H, I.tok _, ⟨_, by simp only [List.size_toArray]; rw [hlen]⟩, q⟩
  | _ => exact (show False from e).elim
end
end L2

namespace L2
open PySem PySem.Spec PyProof.Rows

/-! ### an instance, its attributes a map -/
structure ObjM (h : Heap) (x dx C : Addr) (mA : Str → Option Value) : Prop where
  obj : h.get? x = some (PySem.W.instObj C dx)
  ns : h.Ns1 dx mA
  ne : dx ≠ x

theorem lookIn_ns {h : Heap} {dx : Addr} {mA : Str → Option Value} (n : h.Ns1 dx mA) : ∃ od, h.get? dx = some od ∧ ∀ name, PySem.W.lookIn name od = some (mA name) := by
  obtain ⟨o, es, ep, ho, hd, hk, _, hm⟩ := n
  refine ⟨o, ho, fun name => ?_⟩
  have e := hm name
  unfold nsFind findBy at e
  rw [← Array.find?_toList] at e
  unfold PySem.W.lookIn
  rw [hd]
  dsimp only
  split
  · rename_i y q
    rw [q] at e
    exact congrArg some e
  · rename_i q
    rw [q] at e
    have a : es.toList.any (·.refKey) = false := by
      rw [List.any_eq_false]
      intro y hy
      obtain ⟨z, t, hkey⟩ := hk y (Array.mem_toList_iff.mp hy)
      simp [DictEntry.refKey, hkey]
    have a' : ¬ es.toList.any (·.refKey) = true := by rw [a]; exact Bool.false_ne_true
    rw [if_neg a']
    exact congrArg some e

theorem ObjM.look {h : Heap} {x dx C : Addr} {mA : Str → Option Value} (I : ObjM h x dx C mA) : ∃ od, PySem.W.InstAt h x (PySem.W.instObj C dx) C (some od) ∧ ∀ name, PySem.W.lookIn name od = some (mA name) :=
  let ⟨od, ho, hl⟩ := lookIn_ns I.ns
  ⟨od, ⟨I.obj, rfl, rfl, ho⟩, hl⟩

section
variable {prog : Program} {w : World} {A : Around} {E : Value → Shared → Prop} {s : Shared} {K : PySem.W.Frag} {x dx C f : Addr} {mA : Str → Option Value} {name : Str} {v : Value}

end

/-! ### the attributes as a list of pairs -/
theorem RelO.some_of {v : V} {o : Option Value} (r : RelO (some v) o) : ∃ u, o = some u ∧ RelV v u := by
  cases o with
  | none => exact (show False from r).elim
  | some u => exact ⟨u, rfl, r⟩
section
variable {P : Program} {w : World} {H H' : Hp} {h h' : Heap} {a C dx : Addr} {fs fs' : List (Str × V)}
end

/-! ### what of the text a class must have -/
structure Cls (K : PySem.W.Frag) (C : Addr) : Prop where
  pg : PySem.W.plainGet K C Str.empty = true
  hd : PySem.W.hasDictIn K C = true
  po : PySem.W.plainOver K C = true
  sa : PySem.W.findIn K (.ref C) "__setattr__" = some (some (.builtin "object.__setattr__"))
theorem Cls.get {K : PySem.W.Frag} {C : Addr} (c : Cls K C) (f : Str) : PySem.W.plainGet K C f = true := c.pg
/-- a constant of the class -/
structure Con (K : PySem.W.Frag) (C : Addr) (f : Str) (v : V) (u : Value) : Prop where
  at_ : PySem.W.findIn K (.ref C) f = some (some u)
  rel : RelV v u
  get : PySem.W.specialIn K u "__get__" = some none
  cp : PySem.W.copiedNames.contains f = false
/-- a method: a plain def of the class or of one above it -/
structure Meth (K : PySem.W.Frag) (C : Addr) (m : Str) (f : Addr) : Prop where
  at_ : PySem.W.findIn K (.ref C) m = some (some (.ref f))
  fn : PySem.W.isFn K (.ref f) = true
  kp : PySem.W.keepIn K (.ref f) = true

section
variable {X : Cx} {pins : List (Addr × Obj)} {σ : St} {H : Hp} {s : Shared} {a C dx : Addr} {fs : List (Str × V)} {f : Str} {v : V} {A : Around} {E : Value → Shared → Prop}

/-- a new instance, tracked, without attributes -/
theorem Inv.made (I : Inv X pins σ H s) : Inv X pins σ (upd (upd H s.heap.objs.size (.own (s.heap.objs.size + 1))) (s.heap.objs.size + 1) (.ins C s.heap.objs.size []))
    { s with heap := (s.heap.push PySem.W.emptyDict).push (PySem.W.instObj C s.heap.objs.size) } := by
  have e1 : (s.heap.push PySem.W.emptyDict).get? s.heap.objs.size = some PySem.W.emptyDict := Heap.get?_push_size s.heap rfl
  have e2 : ((s.heap.push PySem.W.emptyDict).push (PySem.W.instObj C s.heap.objs.size)).get? (s.heap.objs.size + 1) = some (PySem.W.instObj C s.heap.objs.size) := by
    have := Heap.get?_push_size (s.heap.push PySem.W.emptyDict) (o := PySem.W.instObj C s.heap.objs.size) rfl
    rwa [Heap.size_push] at this
  have e3 : (s.heap.push PySem.W.emptyDict).Ns s.heap.objs.size (fun _ => none) := ⟨PySem.W.emptyDict, #[], _, e1, rfl, (fun e he => absurd he (by simp)), fun _ => rfl⟩
  have I1 := I.laid (a := s.heap.objs.size) (o := .own (s.heap.objs.size + 1)) (h' := s.heap.push PySem.W.emptyDict) (t' := s.toks) (fun b u q => Heap.get?_push_of_some _ q) (Nat.le_refl _) ⟨_, e1⟩
  refine I1.laid (a := s.heap.objs.size + 1) (o := .ins C s.heap.objs.size []) (t' := s.toks) (fun b u q => Heap.get?_push_of_some _ q) (Nat.le_of_eq (Heap.size_push _ _)) ?_
  have ne : s.heap.objs.size ≠ s.heap.objs.size + 1 := Nat.ne_of_lt (Nat.lt_succ_self _)
  refine ⟨by rw [upd_ne ne, upd_same], Nat.zero_le _, ne, e2, fun _ => none, (Heap.Ns1.of_empty e3).at fun o q => Heap.get?_push_of_some _ q, fun _ => True.intro, fun y hy => absurd rfl hy⟩

end

/-! ### readings and rules -/
section
variable {X : Cx} {o e value : Expr} {f : Str} {pos pos' tpos : Pos} {ta tv : TE}
end

/-! ### isinstance -/
section
variable {X : Cx} {pins : List (Addr × Obj)} {σ : St} {H : Hp} {s : Shared} {A : Around} {E : Value → Shared → Prop} {Q : Value → Shared → Prop} {c : Value} {b : Bool}
/-- the type of a value, as the fragment's deciders take it; for an instance its class -/
inductive TyOf (K : PySem.W.Frag) (H : Hp) : V → Value → Prop where
  | non : TyOf K H .non (.type "NoneType")
  | bl (x : Bool) : TyOf K H (.bl x) (.type "bool")
  | int (i : Int) : TyOf K H (.int i) (.type "int")
  | str (x : Str) : TyOf K H (.str x) (.type "str")
  | flt (x : UInt64) : TyOf K H (.flt x) (.type "float")
  | lst {a : Addr} {xs : List V} (e : H a = some (.lst xs)) : TyOf K H (.ref a) (.type "list")
  | frz {a : Addr} {o : Obj} {xs : List V} (e : H a = some (.frz o (.lst xs))) : TyOf K H (.ref a) (.type "list")
  | tup {a : Addr} {xs : List V} (e : H a = some (.tup xs)) : TyOf K H (.ref a) (.type "tuple")
  | dK {a : Addr} {kvs : List (Key × V)} (e : H a = some (.dK kvs)) : TyOf K H (.ref a) (.type "dict")
  | dT {a : Addr} {kvs : List (List Key × V)} (e : H a = some (.dT kvs)) : TyOf K H (.ref a) (.type "dict")
  | ins {a C dx : Addr} {fs : List (Str × V)} (e : H a = some (.ins C dx fs)) (cl : Cls K C) (ha : PySem.W.findIn K (.ref C) "__class__" = some (some (.builtin "object.__class__")))
      (hn : PySem.W.specialIn K (.builtin "object.__class__") "__get__" = some (some (.builtin "getset_descriptor.__get__"))) (htk : PySem.W.takesIn K (.builtin "object.__class__") = some true)
      (hm : PySem.W.mroIn K C (.type "object") = some true) : TyOf K H (.ref a) (.ref C)
end
end L2

namespace L2
open PySem PySem.Spec PyProof.Rows

/-! ### room -/
structure Room (k : Nat) (A : Around) : Prop where
  hd : A.handled = none
  dp : A.depth + 3 * k + 5 < recursionLimit
  un : A.units + 16 * k + 200 < cLine
theorem Room.mono {j k : Nat} {A : Around} (r : Room k A) (h : j ≤ k) : Room j A := ⟨r.hd, by have := r.dp; omega, by have := r.un; omega⟩
theorem Room.deeper {k : Nat} {A : Around} (r : Room (k + 1) A) (env : Env) : Room k (A.deeper env) :=
  ⟨r.hd, by have := r.dp; show A.depth + 1 + 3 * k + 5 < _; omega, by have := r.un; show A.units + 3 + 16 * k + 200 < _; omega⟩
theorem Room.in1 {k : Nat} {A : Around} (r : Room (k + 1) A) : Room k A.in1 :=
  ⟨r.hd, by have := r.dp; show A.depth + 3 * k + 5 < _; omega, by have := r.un; show A.units + 1 + 16 * k + 200 < _; omega⟩
theorem Room.depth {k : Nat} {A : Around} (r : Room k A) : A.depth < recursionLimit := by have := r.dp; omega
theorem Room.units {k : Nat} {A : Around} (r : Room k A) : A.units + 64 < cLine := by have := r.un; omega
/-! ### argument lists and displays -/
def tNil : TA := fun _ H Q => Q [] H
def tCons (ta : TE) (tr : TA) : TA := fun σ H Q => ta σ H fun x H1 => tr σ H1 fun xs H2 => Q (x :: xs) H2
section
variable {X : Cx} {e : Expr} {es : List Expr} {te : TE} {t : TA} {pos : Pos}
theorem pa_nil : PA X [] tNil := fun _ _ _ _ H Q I h => Calls.spliced_nil ⟨[], H, I, .nil, h⟩
theorem pa_cons (ha : PE X e te) (hr : PA X es t) (hs : starEach (e :: es) X.env = (false, eval e X.env) :: starEach es X.env := by rfl) : PA X (e :: es) (tCons te t) := by
  intro pos pins s σ H Q I h
  rw [hs]
  show wpAny _ _ (spliced ((false, eval e X.env) :: backTo pos (starEach es X.env))) _ _ s
  refine Calls.spliced_cons (thn (ha pins s σ H _ I h) fun u s1 ⟨x, H1, I1, r1, q1⟩ => ?_)
  exact thn (hr pos pins s1 σ H1 _ I1 q1) fun us s2 ⟨xs, H2, I2, r2, q2⟩ => ⟨x :: xs, H2, I2, .cons r1 r2, q2⟩

/-- a tuple, a list of written items -/
def tTup (t : TA) : TE := fun σ H Q => t σ H fun xs H1 => xs.length ≤ sizeLine ∧ ∀ p, H1 p = none → Q (.ref p) (upd H1 p (.tup xs))
def tLst (t : TA) : TE := fun σ H Q => t σ H fun xs H1 => xs.length ≤ sizeLine ∧ ∀ p, H1 p = none → Q (.ref p) (upd H1 p (.lst xs))
theorem pe_tup {x1} (h : PA X es t) : PE X (.Tuple es x1 pos) (tTup t) := by
  intro pins s σ H Q I hq
  refine wpAny_Tuple_spliced (thn (h pos pins s σ H _ I hq) fun us s1 ⟨xs, H1, I1, r, z, q⟩ => ⟨by rw [← r.length]; exact z, ?_⟩)
  have hf : H1 s1.heap.objs.size = none := I1.hok.fresh (Nat.le_refl _)
  refine ⟨.ref s1.heap.objs.size, upd H1 s1.heap.objs.size (.tup xs), I1.laid (t' := s1.toks) (fun b u e => Heap.get?_push_of_some _ e) (Nat.le_refl _) ?_, rfl, q _ hf⟩
  exact ⟨z, us, r, ⟨_, Heap.get?_push_size _ rfl, rfl, _, rfl⟩, ⟨_, Heap.get?_push_size _ rfl, rfl⟩⟩
theorem pe_lst (h : PA X es t) : PE X (.List es pos) (tLst t) := by
  intro pins s σ H Q I hq
  refine wpAny_List_spliced (thn (h pos pins s σ H _ I hq) fun us s1 ⟨xs, H1, I1, r, z, q⟩ => ⟨by rw [← r.length]; exact z, ?_⟩)
  have hf : H1 s1.heap.objs.size = none := I1.hok.fresh (Nat.le_refl _)
  refine ⟨.ref s1.heap.objs.size, upd H1 s1.heap.objs.size (.lst xs), I1.laid (t' := s1.toks) (fun b u e => Heap.get?_push_of_some _ e) (Nat.le_refl _) ?_, rfl, q _ hf⟩
  exact ⟨z, us, 0, r, Heap.get?_push_size _ rfl⟩
end

/-! ### what a def promises -/
/-- a def's promise: the bound arguments in the parameters' order, the heap, the wanted end, the wanted exception -/
abbrev Sp := List V → Hp → VK → XK → Prop
/-- how an exception lies behind a call (file 08 gives it): the callers' frames, abstract heap and state ahead of the call, the wish, the exception, the state -/
structure CXT where
  gq : Array GenState → Drawn → Prop
  fr : Prop
  cx : List Env → Hp → Shared → XK → Value → Shared → Prop
instance : CoeFun CXT (fun _ => List Env → Hp → Shared → XK → Value → Shared → Prop) := ⟨CXT.cx⟩

/-- the state at a call -/
structure Env0 (P : Program) (w : World) (K : PySem.W.Frag) (mg : Str → Option Value) (base : Heap) (gq : Array GenState → Drawn → Prop) (fr : Prop) (A : Around) (outer : List Env) (s : Shared) (H : Hp) : Prop where
  frames : fr → A.frames = some outer ∧ A.guards = some []
  mod : Mod K mg base
  bs : ∀ b o, base.get? b = some o → s.heap.get? b = some o ∧ H b = none
  bsz : base.objs.size ≤ s.heap.objs.size
  funs : s.heap.FunFrames base outer
  frf : ∀ b ∈ frs outer, H b = none
  hok : HOk P w H s.heap
  bare : gq s.gens s.drawn
theorem Env0.weak {P : Program} {w : World} {K : PySem.W.Frag} {mg : Str → Option Value} {base : Heap} {gq : Array GenState → Drawn → Prop} {fr fr' : Prop} {A : Around} {outer : List Env} {s : Shared} {H : Hp} (e : Env0 P w K mg base gq fr A outer s H) (h : fr' → fr) : Env0 P w K mg base gq fr' A outer s H :=
  ⟨fun q => e.frames (h q), e.mod, e.bs, e.bsz, e.funs, e.frf, e.hok, e.bare⟩
theorem guards_deeper {A : Around} {env : Env} (h : A.guards = some []) : (A.deeper env).guards = some [] := by
  first | exact h | simpa [Around.deeper, pushGuards] using h
/-- a call's end -/
def CE (gq : Array GenState → Drawn → Prop) (outer : List Env) (P : Program) (w : World) (H : Hp) (s : Shared) (Q : VK) (u : Value) (s' : Shared) : Prop :=
  ∃ v H', s'.os = s.os ∧ gq s'.gens s'.drawn ∧ Un (frs outer) [] H H' s.heap s'.heap ∧ HOk P w H' s'.heap ∧ RelV v u ∧ Q v H'
def CR (CX : CXT) (outer : List Env) (P : Program) (w : World) (H : Hp) (s : Shared) (Q : VK) (E : XK) (r : Result) (s' : Shared) : Prop :=
  match r with
  | .ok (.ret u) => CE CX.gq outer P w H s Q u s'
  | .ok _ => False
  | .error e => CX outer H s E e s'
structure FnOk (P : Program) (w : World) (K : PySem.W.Frag) (mg : Str → Option Value) (base : Heap) (CX : CXT) (k : Nat) (f : Addr) (fd : FuncData) (ps : List Str) (sp : Sp) : Prop where
  len : ∀ vs H Q E, sp vs H Q E → vs.length = ps.length
  run : ∀ (A : Around) (outer : List Env) (s : Shared) (H : Hp) (args : Args) (us : List Value) (vs : List V) (Q : VK) (E : XK), Room k A → Env0 P w K mg base CX.gq CX.fr A outer s H → BindsTo s fd args (ps.zip us) → Vals vs us → sp vs H Q E →
    codeAny (model P w) A (.call (.ref f) args) (CR CX outer P w H s Q E) s
theorem FnOk.mono {P : Program} {w : World} {K : PySem.W.Frag} {mg : Str → Option Value} {base : Heap} {CX : CXT} {j k : Nat} {f : Addr} {fd : FuncData} {ps : List Str} {sp : Sp} (F : FnOk P w K mg base CX j f fd ps sp) (h : j ≤ k) :
    FnOk P w K mg base CX k f fd ps sp := ⟨F.len, fun A outer s H args us vs Q E hr => F.run A outer s H args us vs Q E (hr.mono h)⟩
/-- a weaker promise -/
theorem FnOk.imp {P : Program} {w : World} {K : PySem.W.Frag} {mg : Str → Option Value} {base : Heap} {CX : CXT} {k : Nat} {f : Addr} {fd : FuncData} {ps : List Str} {sp sp' : Sp} (F : FnOk P w K mg base CX k f fd ps sp)
    (h : ∀ vs H Q E, sp' vs H Q E → sp vs H Q E) : FnOk P w K mg base CX k f fd ps sp' :=
  ⟨fun vs H Q E q => F.len vs H Q E (h _ _ _ _ q), fun A outer s H args us vs Q E hr he hb hv hs => F.run A outer s H args us vs Q E hr he hb hv (h _ _ _ _ hs)⟩

theorem Env0.in1 {gq : Array GenState → Drawn → Prop} {fr : Prop} {P : Program} {w : World} {K : PySem.W.Frag} {mg : Str → Option Value} {base : Heap} {A : Around} {outer : List Env} {s : Shared} {H : Hp} (e : Env0 P w K mg base gq fr A outer s H) :
    Env0 P w K mg base gq fr A.in1 outer s H := ⟨e.frames, e.mod, e.bs, e.bsz, e.funs, e.frf, e.hok, e.bare⟩

section
variable {X : Cx} {pins : List (Addr × Obj)} {σ : St} {H : Hp} {s s' : Shared}
/-- from a body: what a callee wants -/
theorem Inv.env0 (I : Inv X pins σ H s) : Env0 X.prog X.w X.K X.mg X.base X.gq X.fr X.A X.stack s H :=
  ⟨I.ok.frames, I.ok.mod, I.bs, Nat.le_trans I.ok.bsz I.sz, I.stack, I.stkFree, I.hok, I.bare⟩
/-- behind a call -/
theorem Inv.after {Q : VK} {u : Value} (I : Inv X pins σ H s) (h : CE X.gq X.stack X.prog X.w H s Q u s') : EP X pins σ Q u s' := by
  obtain ⟨v, H', os, bare, un, hok, r, q⟩ := h
  obtain ⟨hh, g, d, t, os'⟩ := s'
  obtain rfl : os' = s.os := os
  exact ⟨v, H', I.call (h' := hh) (g' := g) (d' := d) (t' := t) (ch := []) un hok bare (fun b z => absurd z (by simp)), r, q⟩
end

/-! ### calls -/
/-- f(..): the written arguments, then the defaults dvs; E: what is wanted of an exception -/
def tCall (sp : Sp) (dvs : List V) (E : XK) (t : TA) : TE := fun σ H Q => t σ H fun vs H1 => sp (vs ++ dvs) H1 Q E
/-- how the parameters are bound: us the positional arguments, kw the keywords' values by name, ds the defaults that fill up -/
def Binds (K : PySem.W.Frag) (fd : FuncData) (ps : List Str) (ds : List Value) : Prop :=
  ∀ (s : Shared) (us : List Value), K.In s.heap → (us ++ ds).length = ps.length → BindsTo s fd ⟨us, []⟩ (ps.zip (us ++ ds))
/-- every parameter is given -/
theorem Binds.all {K : PySem.W.Frag} {fd : FuncData} {ps : List Str} (h : ∀ us : List Value, us.length = ps.length → bindArgs fd ⟨us, []⟩ = pure (ps.zip us)) : Binds K fd ps [] := fun s us _ hl => by
  rw [List.append_nil] at hl ⊢
  exact .of_eq (h us hl)

/-- an exception of a callee reaches what this body wants of exceptions -/
def Passes (CX : CXT) (X : Cx) (E : XK) : Prop := CX.gq = X.gq ∧ (CX.fr → X.fr) ∧ ∀ (pins : List (Addr × Obj)) (σ : St) (H : Hp) (s : Shared) (e : Value) (s' : Shared), Inv X pins σ H s → CX X.stack H s E e s' → X.xe e s'

section
variable {X : Cx} {CX : CXT} {k : Nat} {f C : Addr} {fd : FuncData} {ps : List Str} {sp : Sp} {dvs : List V} {ds : List Value} {E : XK} {x m : Str} {p pos apos : Pos} {e o : Expr} {es : List Expr} {ta : TE} {t : TA}

/-- the callee runs -/
theorem run_fn {pins : List (Addr × Obj)} {σ : St} {H : Hp} {s : Shared} {Q : VK} {us : List Value} {vs : List V} (F : FnOk X.prog X.w X.K X.mg X.base CX k f fd ps sp) (hr : Room k X.A) (hb : Binds X.K fd ps ds) (hd : Vals dvs ds) (hx : Passes CX X E)
    (I : Inv X pins σ H s) (r : Vals vs us) (h : sp (vs ++ dvs) H Q E) : wpAny (model X.prog X.w) X.A (call (.ref f) us) (EP X pins σ Q) X.xe s := by
  have r2 : Vals (vs ++ dvs) (us ++ ds) := r.append hd
  have hl : (us ++ ds).length = ps.length := by rw [← r2.length]; exact F.len _ _ _ _ h
  refine wpAny_call (codeAny_mono (F.run X.A X.stack s H ⟨us, []⟩ (us ++ ds) (vs ++ dvs) Q E hr (by rw [hx.1]; exact I.env0.weak hx.2.1) (hb s us I.kIn hl) r2 h) fun r s' hq => ?_)
  cases r with
  | error e => exact hx.2.2 pins σ H s e s' I hq
  | ok fl =>
    cases fl with
    | ret u => exact I.after (by rw [← hx.1]; exact hq)
    | next => exact False.elim hq
    | brk => exact False.elim hq
    | cont => exact False.elim hq

theorem pe_call (F : FnOk X.prog X.w X.K X.mg X.base CX k f fd ps sp) (hr : Room k X.A) (hg : Gl X x) (hm : X.mg x = some (.ref f)) (hk : PySem.W.keepIn X.K (.ref f) = true) (hb : Binds X.K fd ps ds) (hd : Vals dvs ds) (hx : Passes CX X E)
    (ha : PA X (e :: es) t) (hdb : (x == ("__debug__" : Str)) = false := by decide) (he : starEach (e :: es) X.env = (false, eval e X.env) :: starEach es X.env := by rfl) (hpl : (backTo pos (starEach es X.env)).any (·.1) = false := by rfl) :
    PE X (.Call (.Name x p) (e :: es) [] pos) (tCall sp dvs E t) := by
  intro pins s σ H Q I h
  refine wpAny_Call_Name_kw (ld_glob I hg hm ?_ hdb)
  refine PySem.W.callWith_K (h₀ := X.base) I.ok.mod.kin hk (thn (ha pos pins s σ H _ I h) fun us s1 ⟨vs, H1, I1, r, q⟩ => ⟨I1.kIn, ?_⟩) he hpl
  exact run_fn F hr hb hd hx I1 r q
/-- what a class must have to be made -/
structure Mk (K : PySem.W.Frag) (C f : Addr) : Prop where
  makes : PySem.W.makesIn K C = true
  init : PySem.W.findIn K (.ref C) "__init__" = some (some (.ref f))
  fn : PySem.W.isFn K (.ref f) = true
  kp : PySem.W.keepIn K (.ref C) = true

end

/-! ### keywords -/
section
variable {X : Cx} {CX : CXT} {k : Nat} {f C : Addr} {fd : FuncData} {ps ks : List Str} {sp : Sp} {E : XK} {x m : Str} {p pos apos kpos : Pos} {e o : Expr} {es : List Expr} {kws : List Keyword} {te ta : TE} {t tk : TA} {nm : Option Str}
/-- how a call with keywords binds: g puts the positional values us and the keywords' values ws (names ks) in the parameters' order, defaults among them -/
structure KBinds (K : PySem.W.Frag) (fd : FuncData) (ps ks : List Str) (g : List Value → List Value → List Value) (gV : List V → List V → List V) : Prop where
  to : ∀ (s : Shared) (us ws : List Value), K.In s.heap → (g us ws).length = ps.length → BindsTo s fd ⟨us, ks.zip ws⟩ (ps.zip (g us ws))
  rel : ∀ {vs : List V} {us : List Value} {zs : List V} {ws : List Value}, Vals vs us → Vals zs ws → Vals (gV vs zs) (g us ws)
variable {g : List Value → List Value → List Value} {gV : List V → List V → List V}
end

/-! ### a def's body keeps its promise -/
/-- names: the parameters first -/
structure FnScope (N P : List Str) (sc : Scope) : Prop where
  kind : sc.kind = .function
  co : sc.isCoroutine = false
  gen : sc.isGenerator = false
  nd : N.Nodup
  pre : N.take P.length = P
  par : ∀ x ∈ P, sc.names.lookup x = some .local ∨ sc.names.lookup x = some .cell
  nofree : ∀ y ∈ sc.names, y.2 ≠ .free

theorem bindL_out {kindOf : Str → Option NameKind} {x : Str} : ∀ {binds : List (Str × Value)} {m : Str → Option Value}, (∀ v, (x, v) ∉ binds) → bindL kindOf binds m x = m x
  | [], _, _ => rfl
  | (n, v) :: r, m, h => by
    unfold bindL
    rw [bindL_out fun w hw => h w (List.mem_cons_of_mem _ hw)]
    split
    · have : x ≠ n := by rintro rfl; exact h v List.mem_cons_self
      simp [this]
    · rfl
theorem bindC_out {kindOf : Str → Option NameKind} {x : Str} : ∀ {binds : List (Str × Value)} {m : Str → Option Value}, (∀ v, (x, v) ∉ binds) → bindC kindOf binds m x = m x
  | [], _, _ => rfl
  | (n, v) :: r, m, h => by
    unfold bindC
    rw [bindC_out fun w hw => h w (List.mem_cons_of_mem _ hw)]
    split
    · rfl
    · have : x ≠ n := by rintro rfl; exact h v List.mem_cons_self
      simp [this]
theorem bindL_get {kindOf : Str → Option NameKind} {x : Str} {v : Value} : ∀ {P : List Str} {vs : List Value} {i : Nat} {m : Str → Option Value}, P.Nodup → P[i]? = some x → vs[i]? = some v → kindOf x = some .local →
    bindL kindOf (P.zip vs) m x = some v
  | [], _, _, _, _, h, _, _ => by simp at h
  | _ :: _, [], _, _, _, _, h, _ => by simp at h
  | p :: P, w :: vs, 0, m, nd, h1, h2, hk => by
    simp at h1 h2; subst h1; subst h2
    show bindL kindOf ((p, w) :: P.zip vs) m p = _
    unfold bindL
    rw [bindL_out fun v hv => (List.nodup_cons.mp nd).1 (List.of_mem_zip hv).1, if_pos hk]
    simp
  | p :: P, w :: vs, i + 1, m, nd, h1, h2, hk => by
    show bindL kindOf ((p, w) :: P.zip vs) m x = _
    unfold bindL
    exact bindL_get (i := i) (List.nodup_cons.mp nd).2 (by simpa using h1) (by simpa using h2) hk
theorem bindC_get {kindOf : Str → Option NameKind} {x : Str} {v : Value} : ∀ {P : List Str} {vs : List Value} {i : Nat} {m : Str → Option Value}, P.Nodup → P[i]? = some x → vs[i]? = some v → kindOf x ≠ some .local →
    bindC kindOf (P.zip vs) m x = some v
  | [], _, _, _, _, h, _, _ => by simp at h
  | _ :: _, [], _, _, _, _, h, _ => by simp at h
  | p :: P, w :: vs, 0, m, nd, h1, h2, hk => by
    simp at h1 h2; subst h1; subst h2
    show bindC kindOf ((p, w) :: P.zip vs) m p = _
    unfold bindC
    rw [bindC_out fun v hv => (List.nodup_cons.mp nd).1 (List.of_mem_zip hv).1, if_neg hk]
    simp
  | p :: P, w :: vs, i + 1, m, nd, h1, h2, hk => by
    show bindC kindOf ((p, w) :: P.zip vs) m x = _
    unfold bindC
    exact bindC_get (i := i) (List.nodup_cons.mp nd).2 (by simpa using h1) (by simpa using h2) hk

/-- the names' values at the entry -/
def start (N : List Str) (vs : List V) : St := vs.map some ++ List.replicate (N.length - vs.length) none

/-- the context of a def's body, at its entry; an exception leaves the frame, then lies as CX says -/
def cxOf (CX : CXT) (P : Program) (w : World) (K : PySem.W.Frag) (mg : Str → Option Value) (base : Heap) (N : List Str) (qual : Str) (scope : Scope) (f : Addr) (cd : Value) (A : Around) (outer : List Env) (s : Shared) (H : Hp) (E : XK) : Cx where
  prog := P
  w := w
  K := K
  mg := mg
  base := base
  A := A.deeper (envOfC qual scope s.heap.objs.size f cd)
  N := N
  s_0 := s
  H_0 := H
  env := envOfC qual scope s.heap.objs.size f cd
  outer := outer
  stack := envOfC qual scope s.heap.objs.size f cd :: outer
  ex := []
  calm := true
  fn := fun _ => true
  pn := []
  gq := CX.gq
  fr := CX.fr
  xe := fun e s' => wpAny (model P w) (A.deeper (envOfC qual scope s.heap.objs.size f cd)) (leaving (envOfC qual scope s.heap.objs.size f cd) e) (fun _ s'' => CX outer H s E e s'') (fun e' s'' => CX outer H s E e' s'') s'

theorem cell_has {sc : Scope} {n : Nat} {x : Str} (h : sc.names.lookup x = some .cell) : ∃ c, (cellsFrom n sc.names []).lookup x = some c := by
  have q := PySem.W.cellsFrom_some sc.names n [] (.inl h)
  exact Option.isSome_iff_exists.mp q

theorem inv_start {CX : CXT} {P : Program} {w : World} {K : PySem.W.Frag} {mg : Str → Option Value} {base : Heap} {N ps : List Str} {qual : Str} {scope : Scope} {f : Addr} {cd : Value} {A : Around} {outer : List Env} {s s1 : Shared} {H : Hp} {E : XK} {us : List Value} {vs : List V}
    (S : FnScope N ps scope) (hd : A.handled = none) (e0 : Env0 P w K mg base CX.gq CX.fr A outer s H) (hl : vs.length = ps.length) (r : Vals vs us)
    (x : InCallC s s.heap.objs.size (bindL (envOfC qual scope s.heap.objs.size f cd).kindOf (ps.zip us) fun _ => none) (cellsFrom (s.heap.objs.size + 1) scope.names []) (bindC (envOfC qual scope s.heap.objs.size f cd).kindOf (ps.zip us) fun _ => none) s1) :
    Inv (cxOf CX P w K mg base N qual scope f cd A outer s H E) [] (start N vs) H s1 := by
  have hpl : ps.length ≤ N.length := by have := congrArg List.length S.pre; rw [List.length_take] at this; omega
  obtain ⟨h1, tk, rfl, hk⟩ := x.done
  have noA : ∀ b : Addr, b ∉ (cxOf CX P w K mg base N qual scope f cd A outer s H E).ex := fun b z => absurd (show b ∈ ([] : List Addr) from z) (by simp)
  refine ⟨⟨e0.mod, S.kind, rfl, rfl, Nat.le_refl _, fun y z c h1 h2 => ?_, fun y hy => ?_, fun y c _ h => ?_, fun _ => hd, fun h => ⟨Around.frames_deeper (e0.frames h).1, guards_deeper (e0.frames h).2⟩, .inr ⟨rfl, rfl⟩, fun b z => absurd z (noA b), e0.bs, e0.bsz, fun b _ _ => noA b, fun b z => absurd z (noA b), e0.funs, e0.frf⟩,
    rfl, e0.bare, Un.kept hk, ⟨_, x.toInCall.ns, fun i y v h1 h2 h3 => ?_⟩, fun y c h => ⟨_, x.cell y c h⟩, e0.hok.fresh (Nat.le_refl _), fun y c h => ?_, fun p hp => absurd (show p ∈ ([] : List (Addr × Obj)) from hp) (by simp), e0.hok.kept hk, ?_⟩
  · exact name_of_addr x.apart (PySem.mem_of_lookup h1) (PySem.mem_of_lookup h2)
  · have hy : scope.names.lookup y = some .cell ∨ scope.names.lookup y = some .free := hy
    rcases hy with hy | hy
    · exact cell_has hy
    · exact absurd rfl (S.nofree _ (PySem.mem_of_lookup hy))
  · exact Nat.le_of_lt (x.above y c (PySem.mem_of_lookup h))
  · have hi : i < vs.length := by
      unfold start at h2
      by_cases hi : i < vs.length
      · exact hi
      · rw [List.getElem?_append_right (by simpa using hi)] at h2
        rw [List.getElem?_replicate] at h2
        split at h2 <;> cases h2
    have ha : vs[i]? = some v := by
      unfold start at h2
      rw [List.getElem?_append_left (by simpa using hi), List.getElem?_map] at h2
      cases e : vs[i]? with
      | none => rw [e] at h2; cases h2
      | some a => rw [e] at h2; cases h2; rfl
    obtain ⟨u, hu, rv⟩ := r.get ha
    have hp : ps[i]? = some y := by
      rw [← S.pre, List.getElem?_take_of_lt (by omega)]; exact h1
    have ndP : ps.Nodup := by rw [← S.pre]; exact S.nd.sublist (List.take_sublist _ _)
    refine ⟨u, rv, ?_⟩
    rcases S.par y (List.mem_of_getElem? hp) with k | k
    · exact .inl ⟨k, bindL_get ndP hp hu k⟩
    · obtain ⟨c, e⟩ := cell_has (n := s.heap.objs.size + 1) k
      refine .inr ⟨.inl k, c, e, ?_⟩
      have q := x.cell y c e
      rw [bindC_get ndP hp hu (by show scope.names.lookup y ≠ _; rw [k]; decide)] at q
      exact q
  · exact e0.hok.fresh (Nat.le_of_lt (x.above y c (PySem.mem_of_lookup h)))
  · unfold start
    show _ = N.length
    rw [List.length_append, List.length_map, List.length_replicate]
    omega

/-- THE RULE: a def (or a method) of the text, by its body. The body's reading t is chosen for each entry; it is run at the parameters' values -/
theorem fn_of {CX : CXT} {P : Program} {w : World} {K : PySem.W.Frag} {mg : Str → Option Value} {base : Heap} {k : Nat} {f : Addr} {name qual : Str} {params : Arguments} {body : List Stmt} {scope : Scope} {dV kV doc pm cdv ct oc : Value} {an od : Option Addr}
    {osl : Array (Option Value)} {N ps : List Str} {sp : Sp} (lk : K.lookup f = some ⟨oc, od, .func (PySem.W.fnOf name qual params body scope dV kV doc pm an cdv ct), osl⟩) (hcd : PySem.W.codeIn K cdv qual = true) (S : FnScope N ps scope)
    (len : ∀ vs H Q E, sp vs H Q E → vs.length = ps.length)
    (hbody : ∀ (A : Around) (outer : List Env) (s : Shared) (H : Hp) (vs : List V) (Q : VK) (E : XK), Room k (A.deeper (envOfC qual scope s.heap.objs.size f cdv)) → sp vs H Q E →
      ∃ t, PSs (cxOf CX P w K mg base N qual scope f cdv A outer s H E) body t ∧ t { nx := fun _ H' => Q .non H', rt := Q } (start N vs) H) :
    FnOk P w K mg base CX (k + 1) f (PySem.W.fnOf name qual params body scope dV kV doc pm an cdv ct) ps sp := by
  refine ⟨len, fun A outer s H args us vs Q E hr e0 hb r hsp => ?_⟩
  have hl := len _ _ _ _ hsp
  have KX : K.In s.heap := e0.mod.kin.keeps fun b o e => (e0.bs b o e).1
  have lim : s.heap.NoLimit := e0.mod.nolimit.keeps fun b o e => (e0.bs b o e).1
  have hkind : ∀ y ∈ ps.zip us, scope.names.lookup y.1 = some .local ∨ (scope.names.lookup y.1 = some .cell ∧ ((cellsFrom (s.heap.objs.size + 1) scope.names []).lookup y.1).isSome = true) := fun ⟨n, v⟩ hy => by
    rcases S.par n (List.of_mem_zip hy).1 with q | q
    · exact .inl q
    · exact .inr ⟨q, PySem.W.cellsFrom_some _ _ _ (.inl q)⟩
  refine codeAny_call_function hr.depth (KX _ _ lk) rfl S.co S.gen rfl (PySem.W.codeRec_of KX hcd) (hb _ _ _ _ ?_)
  refine wpAny_newFunctionEnv_cells S.kind hkind fun env he s1 x => ?_
  subst he
  refine ⟨lim.keeps x.toInCall.keep, codeAny_func ?_⟩
  obtain ⟨t, ht, hq⟩ := hbody A outer s H vs Q E (hr.deeper _) hsp
  have I : Inv (cxOf CX P w K mg base N qual scope f cdv A outer s H E) [] (start N vs) H s1 := inv_start S hr.hd e0 hl r x
  refine wpAny_mono (ht [] s1 (start N vs) H _ I hq) (fun fl s' hs => ?_) fun e s' hs => hs
  have fin : ∀ {σ' : St} {H' : Hp} {v : V} {u : Value}, Inv (cxOf CX P w K mg base N qual scope f cdv A outer s H E) [] σ' H' s' → RelV v u → Q v H' → CE CX.gq outer P w H s Q u s' :=
    fun {σ' H' v u} J rv q => ⟨v, H', J.os, J.bare, J.base, J.hok, rv, q⟩
  cases fl with
  | ret u =>
    obtain ⟨v, σ', H', J, rv, q⟩ := hs
    exact fin J rv q
  | next =>
    obtain ⟨σ', H', J, q⟩ := hs
    exact fin (v := V.non) (u := Value.none) J rfl q
  | brk =>
    obtain ⟨_, _, _, q⟩ := hs
    exact False.elim q
  | cont =>
    obtain ⟨_, _, _, q⟩ := hs
    exact False.elim q
end L2

namespace L2
open PySem PySem.Spec PyProof.Rows
section
variable {X : Cx} {x : Str} {p pos : Pos} {e : Expr} {es : List Expr} {t : TA} {id T : String} {r : List V → Hp → VK → Prop}

def tCB (r : List V → Hp → VK → Prop) (t : TA) : TE := fun σ H Q => t σ H fun vs H1 => r vs H1 Q
/-- f(e, ..), f a built-in function -/
theorem pe_callB (hc : CallR X (.builtin id) r) (hg : Gl X x) (hm : X.mg x = none) (hv : bootBuiltins x = some (.builtin id)) (ha : PA X (e :: es) t) (hn : x ≠ "__name__" := by decide) (hdb : (x == ("__debug__" : Str)) = false := by decide)
    (he : starEach (e :: es) X.env = (false, eval e X.env) :: starEach es X.env := by rfl) (hpl : (backTo pos (starEach es X.env)).any (·.1) = false := by rfl) : PE X (.Call (.Name x p) (e :: es) [] pos) (tCB r t) := by
  intro pins s σ H Q I h
  refine wpAny_Call_Name_kw (ld_blt I hg hm hv ?_ hn hdb)
  exact PyProof.Rows.callWith_builtin1 (thn (ha pos pins s σ H _ I h) fun us s1 ⟨vs, H1, I1, r1, q1⟩ => hc pins s1 σ H1 vs us Q I1 r1 q1) he hpl
/-- T(e, ..), T a built-in type -/
theorem pe_callTy (hc : CallR X (.type T) r) (hg : Gl X x) (hm : X.mg x = none) (hv : bootBuiltins x = some (.type T)) (ha : PA X (e :: es) t) (hn : x ≠ "__name__" := by decide) (hdb : (x == ("__debug__" : Str)) = false := by decide)
    (he : starEach (e :: es) X.env = (false, eval e X.env) :: starEach es X.env := by rfl) (hpl : (backTo pos (starEach es X.env)).any (·.1) = false := by rfl) : PE X (.Call (.Name x p) (e :: es) [] pos) (tCB r t) := by
  intro pins s σ H Q I h
  refine wpAny_Call_Name_kw (ld_blt I hg hm hv ?_ hn hdb)
  exact PyProof.Rows.callWith_type1 (thn (ha pos pins s σ H _ I h) fun us s1 ⟨vs, H1, I1, r1, q1⟩ => hc pins s1 σ H1 vs us Q I1 r1 q1) he hpl
end
end L2

namespace HT
open PySem PyProof.Rows

/-- t < u of tuples of ints -/
def lexLt : List Int → List Int → Bool
  | [], [] => false
  | [], _ :: _ => true
  | _ :: _, [] => false
  | x :: xs, y :: ys => if x = y then lexLt xs ys else decide (x < y)
theorem rcLt_int (A : Around) (s : Shared) (a : Int) (t : Tok) (c : Int) (u : Tok) (prog : Program) (w : World) (E : Value → Shared → Prop) (Q : Value → Shared → Prop) (h : Q (.bool (decide (a < c))) s) :
    wpAny (model prog w) A (richCompare .Lt (.int a t) (.int c u)) Q E s :=
  (PyProof.Rows.lt_int h : wpAny (model prog w) A (compareOp .Lt (.int a t) (.int c u)) Q E s)

section
open PySem.SeqAt
open PySem.AutoSeq1 (wpAny_loadPart')
open PySem.MeetsSeq PySem.MeetsSeq2 PySem.MeetsSeq3

end

section
variable {prog : Program} {w : World} {A : Around} {E : Value → Shared → Prop} {s : Shared}

/-- t + u, t not empty -/
theorem cat_tup {t b : Addr} {vs ws : List Value} {Q : Value → Shared → Prop} (ht : IsTup s.heap t vs.toArray) (hb : IsTup s.heap b ws.toArray) (hv : vs ≠ [])
    (h1 : ws = [] → Q (.ref t) s) (h2 : ws ≠ [] → Q (.ref s.heap.objs.size) { s with heap := s.heap.push { cls := .type "tuple", data := .seq (vs ++ ws).toArray } })
    (hsz : vs.length + ws.length ≤ sizeLine) : wpAny (model prog w) A (binaryOp .Add (.ref t) (.ref b)) Q E s := by
  obtain ⟨⟨cls, dd, data, sl⟩, ho, hc, n, hd⟩ := id ht
  obtain ⟨⟨cls2, dd2, data2, sl2⟩, ho2, hc2, n2, hd2⟩ := id hb
  simp only at hc hd hc2 hd2
  subst hc hd hc2 hd2
  have e : vs.toArray ++ ws.toArray = (vs ++ ws).toArray := by simp
  by_cases hw : ws = []
  · exact concat_meets ⟨_, ho, rfl⟩ ⟨_, ho2, rfl⟩ noFill_tuple_add seq_tuple_add PySem.F.slot_tuple_add PySem.F.entry_tuple_add (PySem.F.args_tuple_add_2 _ _)
      (tuple_addW1 t b vs.toArray ws.toArray n n2 dd dd2 sl sl2 (by simpa using hv) (by simp [hw])) ⟨ho, ho2, h1 hw⟩
  · refine concat_meets ⟨_, ho, rfl⟩ ⟨_, ho2, rfl⟩ noFill_tuple_add seq_tuple_add PySem.F.slot_tuple_add PySem.F.entry_tuple_add (PySem.F.args_tuple_add_2 _ _)
      (tuple_addW2 t b vs.toArray ws.toArray n n2 dd dd2 sl sl2 (by simpa using hv) (by simpa using hw) (by rw [List.size_toArray, List.size_toArray]; exact hsz)) ⟨ho, ho2, ?_⟩
    rw [e]
    exact h2 hw

/-! ### t[a:b], not the whole -/
/-- a slice's bound as a place among n (d where it is left out) -/
def sIx (n d : Nat) : Option Int → Nat
  | none => d
  | some v => if v < 0 then (v + (n : Int)).toNat else min v.toNat n
theorem sIx_nat (n d k : Nat) : sIx n d (some (k : Int)) = min k n := by
  show (if (k : Int) < 0 then ((k : Int) + (n : Int)).toNat else min (k : Int).toNat n) = min k n
  rw [if_neg (by omega), Int.toNat_natCast]
theorem sIx_le (n d : Nat) (hd : d ≤ n) (o : Option Int) : sIx n d o ≤ n := by
  cases o with
  | none => exact hd
  | some v =>
    show (if v < 0 then (v + (n : Int)).toNat else min v.toNat n) ≤ n
    by_cases hv : v < 0
    · rw [if_pos hv]; omega
    · rw [if_neg hv]; exact Nat.min_le_right _ _
theorem clip_eq (v : Int) (n d : Nat) : (if v < 0 then max (v + (n : Int)) 0 else min v (n : Int)) = ((sIx n d (some v) : Nat) : Int) := by
  show (if v < 0 then max (v + (n : Int)) 0 else min v (n : Int)) = (((if v < 0 then (v + (n : Int)).toNat else min v.toNat n) : Nat) : Int)
  by_cases hv : v < 0
  · simp only [if_pos hv]; omega
  · simp only [if_neg hv]; omega
theorem adjust_gen (lo hi : Option Int) (n : Nat) : Builtin.Slice.sliceAdjust lo hi 1 (n : Int) = (((sIx n 0 lo : Nat) : Int), ((sIx n n hi : Nat) : Int)) := by
  have h1 : ¬ ((1 : Int) < 0) := by omega
  unfold Builtin.Slice.sliceAdjust
  simp only [h1, if_false]
  refine Prod.ext ?_ ?_
  · cases lo with
    | none => rfl
    | some v => exact clip_eq v n 0
  · cases hi with
    | none => rfl
    | some v => exact clip_eq v n n
theorem places_gen (i j : Nat) : Builtin.Slice.slicePlaces (i : Int) (j : Int) 1 = j - i := by
  unfold Builtin.Slice.slicePlaces
  have h1 : (1 : Int) > 0 := by omega
  simp only [h1, if_true, Int.ediv_one]
  split <;> omega
theorem slicePart_ {v : Value} {o : Option Int} {Q : Option Int → Shared → Prop} (p : IsPart v o) (h : Q o s) : wpAny (model prog w) A (Builtin.Slice.slicePartIndex v) Q E s := by
  cases p with
  | none => exact slicePart_none h
  | int i t => exact slicePart_int h
theorem sliceApplied_gen {sl : Addr} {vl vu : Value} {lo hi : Option Int} {n : Nat} {Q : Int × Int × Nat → Shared → Prop} (hs : s.heap.IsSliceOf sl vl vu .none) (pl : IsPart vl lo) (pu : IsPart vu hi)
    (h : Q (((sIx n 0 lo : Nat) : Int), 1, sIx n n hi - sIx n 0 lo) s) : wpAny (model prog w) A (Builtin.Slice.sliceApplied (.ref sl) (pure (n : Int))) Q E s := by
  obtain ⟨os, hos, hcs, hds⟩ := id hs
  unfold Builtin.Slice.sliceApplied Builtin.Slice.sliceFields
  refine wpAny_bind (wpAny_bind (wpAny_field hos hds (x := vl) rfl (wpAny_bind (wpAny_field hos hds (x := vu) rfl (wpAny_bind (wpAny_field hos hds (x := .none) rfl (wpAny_pure ?_)))))))
  refine wpAny_bind (slicePart_none ?_)
  show wpAny _ _ (if ((1 : Int) == 0) = true then _ else _) _ _ s
  rw [if_neg (by decide)]
  refine wpAny_bind (slicePart_ pl (wpAny_bind (slicePart_ pu (wpAny_bind (wpAny_pure ?_)))))
  show wpAny _ _ (match Builtin.Slice.sliceAdjust lo hi 1 (n : Int) with | (lo, hi) => pure (lo, (1 : Int), Builtin.Slice.slicePlaces lo hi 1)) _ _ s
  rw [adjust_gen lo hi n]
  show wpAny _ _ (pure (((sIx n 0 lo : Nat) : Int), (1 : Int), Builtin.Slice.slicePlaces ((sIx n 0 lo : Nat) : Int) ((sIx n n hi : Nat) : Int) 1)) _ _ s
  rw [places_gen]
  exact wpAny_pure h
theorem pick_gen (xs : Array Value) (i k : Nat) : ((List.range k).filterMap fun (m : Nat) => xs[((i : Int) + (m : Int) * 1).toNat]?).toArray = ((xs.toList.drop i).take k).toArray := by
  have e : (fun (m : Nat) => xs[((i : Int) + (m : Int) * 1).toNat]?) = fun m => xs[i + m]? := by
    funext m
    have : ((i : Int) + (m : Int) * 1).toNat = i + m := by omega
    rw [this]
  rw [e]
  have := pick_run xs i k
  rw [List.filterMap_map] at this
  have e2 : ((fun x => xs[x]?) ∘ fun x => i + x) = fun m => xs[i + m]? := rfl
  rw [e2] at this
  rw [this]

theorem getItem_tuple_cut {t sl : Addr} {items : Array Value} {vl vu : Value} {lo hi : Option Int} {Q : Value → Shared → Prop} (ht : IsTup s.heap t items) (hs : s.heap.IsSliceOf sl vl vu .none) (pl : IsPart vl lo) (pu : IsPart vu hi)
    (hw : ¬ (sIx items.size 0 lo = 0 ∧ sIx items.size items.size hi = items.size))
    (h : Q (.ref s.heap.objs.size) { s with heap := s.heap.push { cls := .type "tuple", data := .seq ((items.toList.drop (sIx items.size 0 lo)).take (sIx items.size items.size hi - sIx items.size 0 lo)).toArray } })
    (hsz : items.size ≤ sizeLine) : wpAny (model prog w) A (getItem (.ref t) (.ref sl)) Q E s := by
  have htake : sizeOk (.seq ((items.toList.drop (sIx items.size 0 lo)).take (sIx items.size items.size hi - sIx items.size 0 lo)).toArray) := by
    show ((items.toList.drop (sIx items.size 0 lo)).take (sIx items.size items.size hi - sIx items.size 0 lo)).toArray.size ≤ sizeLine
    rw [List.size_toArray, List.length_take, List.length_drop, Array.length_toList]
    omega
  have hj : sIx items.size items.size hi ≤ items.size := sIx_le _ _ (Nat.le_refl _) hi
  obtain ⟨os, hos, hcs, hds⟩ := id hs
  have hTs : s.TypeIs (.ref sl) "slice" := ⟨os, hos, hcs⟩
  unfold getItem
  try with_reducible refine wpAny_holding ?_
  first | refine wpAny_bind (wpAny_pure ?_) | skip
  refine wpAny_bind (wpAny_sequenceKey ht.typeIs (by decide) ?_)
  refine wpAny_bind (wpAny_callSpecial?_slot (name := Str.ofString "__getitem__") ht.typeIs PyProof.Rows.slot_tuple_getitem
    (wpAny_call_entry PyProof.Rows.slot_tuple_getitem ht.typeIs entry_tuple_getitem ?_ (args_tuple_getitem _ _)))
  show wpAny _ _ (Builtin.Tuple.tupleItemsOf (.ref t) >>= _) _ _ s
  refine wpAny_bind (tupleItemsOf_ ht ?_)
  refine wpAny_bind (wpAny_typeOf hTs ?_)
  rw [if_pos (by decide)]
  refine wpAny_bind (sliceApplied_gen hs pl pu ?_)
  have hno : ¬ ((((sIx items.size 0 lo : Nat) : Int) == 0 && (1 : Int) == 1 && (sIx items.size items.size hi - sIx items.size 0 lo) == items.size) = true) := by
    intro q
    rw [Bool.and_eq_true, Bool.and_eq_true] at q
    have q1 : ((sIx items.size 0 lo : Nat) : Int) = 0 := eq_of_beq q.1.1
    have q2 : sIx items.size items.size hi - sIx items.size 0 lo = items.size := eq_of_beq q.2
    exact hw ⟨by omega, by omega⟩
  show wpAny _ _ (if (((sIx items.size 0 lo : Nat) : Int) == 0 && (1 : Int) == 1 && (sIx items.size items.size hi - sIx items.size 0 lo) == items.size) = true then _ else _) _ _ s
  rw [if_neg hno, pick_gen]
  first
    | exact wpAny_bind (m := Builtin.Tuple.tupleExact _) (wpAny_newObj_type (wpAny_pure ⟨_, rfl, wpAny_pure h⟩) htake)
    | exact wpAny_bind (m := Builtin.Tuple.tupleExact _) (wpAny_newObj_type (wpAny_bind (wpAny_pure (wpAny_pure ⟨_, rfl, wpAny_pure h⟩))) htake)
    | exact wpAny_bind (wpAny_bind (m := Builtin.Tuple.tupleExact _) (wpAny_newObj_type (wpAny_pure (wpAny_pure ⟨_, rfl, wpAny_pure h⟩)) htake))
    | exact wpAny_bind (wpAny_bind (m := Builtin.Tuple.tupleExact _) (wpAny_newObj_type (wpAny_pure ⟨_, rfl, wpAny_pure h⟩) htake))
end
end HT

namespace L2
open PySem PySem.Spec PyProof.Rows

/-! ### the parts of a slice -/
abbrev TO := St → Hp → (Option Int → Hp → Prop) → Prop
/-- a slice's part (left out, or an int) -/
def PO (X : Cx) (e : Option Expr) (t : TO) : Prop :=
  ∀ (pins : List (Addr × Obj)) (s : Shared) (σ : St) (H : Hp) (Q : Option Int → Hp → Prop), Inv X pins σ H s → t σ H Q →
    wpAny (model X.prog X.w) X.A (evalPart e X.env) (fun u s' => ∃ o H', Inv X pins σ H' s' ∧ IsPart u o ∧ Q o H') X.xe s
def tNoPart : TO := fun _ H Q => Q none H
def tPart (t : TE) : TO := fun σ H Q => t σ H fun x H1 => ∃ i, x = .int i ∧ Q (some i) H1

theorem intsAre_of {ns : List Int} : ∀ {us : List Value}, Vals (ns.map V.int) us → IntsAre us ns := by
  induction ns with
  | nil => intro us r; rw [List.map_nil] at r; cases r; exact .nil
  | cons n ns ih =>
    intro us r
    rw [List.map_cons] at r
    cases r with
    | cons r1 r2 =>
      obtain ⟨t, e⟩ := r1
      subst e
      exact .cons n t (ih r2)

section
variable {X : Cx} {e : Expr} {te : TE} {lo hi : Option Expr} {tl th : TO} {pos p2 : Pos}

theorem po_none : PO X none tNoPart := by
  intro pins s σ H Q I h
  rw [evalPart_none]
  exact wpAny_pure ⟨none, H, I, .none, h⟩
theorem po_some (h : PE X e te) : PO X (some e) (tPart te) := by
  intro pins s σ H Q I hw
  rw [evalPart_some]
  refine thn (h pins s σ H _ I hw) fun u s1 ⟨x, H1, I1, r1, q1⟩ => ?_
  obtain ⟨i, rfl, q⟩ := q1
  obtain ⟨t, rfl⟩ := r1
  exact ⟨some i, H1, I1, .int i t, q⟩

/-- what a slice of a value is, by values: the slice object stands at sl -/
def SlR (X : Cx) (r : V → Option Int → Option Int → Hp → VK → Prop) : Prop :=
  ∀ (pins : List (Addr × Obj)) (s : Shared) (σ : St) (H : Hp) (x : V) (v vl vu : Value) (lo hi : Option Int) (sl : Addr) (Q : VK), Inv X pins σ H s → RelV x v → s.heap.IsSliceOf sl vl vu .none → IsPart vl lo → IsPart vu hi → r x lo hi H Q →
    ∃ T id, typeLookup (.type T) "__getitem__" = pure (some (.builtin id)) ∧ s.TypeIs v T ∧ wpAny (model X.prog X.w) X.A (getItem v (.ref sl)) (EP X pins σ Q) X.xe s
theorem SlR.or {r r' : V → Option Int → Option Int → Hp → VK → Prop} (h : SlR X r) (h' : SlR X r') : SlR X (fun x lo hi H Q => r x lo hi H Q ∨ r' x lo hi H Q) := by
  intro pins s σ H x v vl vu lo hi sl Q I rx hs pl pu q
  rcases q with q | q
  · exact h pins s σ H x v vl vu lo hi sl Q I rx hs pl pu q
  · exact h' pins s σ H x v vl vu lo hi sl Q I rx hs pl pu q
def tSl (r : V → Option Int → Option Int → Hp → VK → Prop) (te : TE) (tl th : TO) : TE := fun σ H Q => te σ H fun x H1 => tl σ H1 fun l H2 => th σ H2 fun u H3 => r x l u H3 Q
/-- a[lo:hi], any a -/
theorem pe_slice {r : V → Option Int → Option Int → Hp → VK → Prop} (hr : SlR X r) (he : PE X e te) (hl : PO X lo tl) (hu : PO X hi th) : PE X (.Subscript e (.Slice lo hi none p2) pos) (tSl r te tl th) := by
  intro pins s σ H Q I h
  refine Subscript_ (thn (he pins s σ H _ I h) fun v s1 ⟨x, H1, I1, r1, q1⟩ => ?_)
  refine wpAny_Slice (thn (hl pins s1 σ H1 _ I1 q1) fun vl s2 ⟨l, H2, I2, pl, q2⟩ => thn (hu pins s2 σ H2 _ I2 q2) fun vu s3 ⟨u, H3, I3, pu, q3⟩ => ?_)
  rw [evalPart_none]
  refine wpAny_pure ?_
  have I4 : Inv X pins σ H3 { s3 with heap := s3.heap.push { cls := .type "slice", data := .fields #[vl, vu, .none] } } := I3.kept (t' := s3.toks) fun b ob q => Heap.get?_push_of_some _ q
  obtain ⟨T, id, hT, ht, hg⟩ := hr pins { s3 with heap := s3.heap.push { cls := .type "slice", data := .fields #[vl, vu, .none] } } σ H3 x v vl vu l u s3.heap.objs.size Q I4 r1 (Heap.IsSliceOf.new ..) pl pu q3
  show wpAny (model X.prog X.w) X.A (subscriptTail e (.Slice lo hi none p2) v (.ref s3.heap.objs.size)) (EP X pins σ Q) X.xe { s3 with heap := s3.heap.push { cls := .type "slice", data := .fields #[vl, vu, .none] } }
  exact tail_any (ops := [.ref s3.heap.objs.size, v]) ht hT hg (by with_unfolding_all rfl)

/-- the items of xs[lo:hi] -/
def cutV (xs : List V) (lo hi : Option Int) : List V := (xs.drop (HT.sIx xs.length 0 lo)).take (HT.sIx xs.length xs.length hi - HT.sIx xs.length 0 lo)
theorem cutV_length (xs : List V) (lo hi : Option Int) : (cutV xs lo hi).length ≤ xs.length := by
  unfold cutV
  rw [List.length_take, List.length_drop]
  omega
/-- t[lo:hi], not the whole of it (the whole would be t itself) -/
def rSlT (K : PySem.W.Frag) : V → Option Int → Option Int → Hp → VK → Prop := fun x lo hi H Q => ∃ a xs, x = .ref a ∧ SqT K H a xs ∧
  ¬ (HT.sIx xs.length 0 lo = 0 ∧ HT.sIx xs.length xs.length hi = xs.length) ∧ ∀ p, H p = none → Q (.ref p) (upd H p (.tup (cutV xs lo hi)))
theorem sl_tup : SlR X (rSlT X.K) := by
  intro pins s σ H x v vl vu lo hi sl Q I rx hs pl pu h
  obtain ⟨a, xs, rfl, hx, hw, q⟩ := h
  cases rx
  obtain ⟨its, r, ht, hz⟩ := I.tuple hx
  have hlen : its.toArray.size = xs.length := by rw [List.size_toArray]; exact r.length.symm
  refine ⟨"tuple", _, PyProof.Rows.slot_tuple_getitem.lookup, ht.typeIs, ?_⟩
  refine HT.getItem_tuple_cut ht hs pl pu (by rw [hlen]; exact hw) ?_ (by rw [hlen]; exact hz)
  rw [hlen]
  refine ⟨.ref s.heap.objs.size, _, I.laid (t' := s.toks) (o := .tup (cutV xs lo hi)) (fun b ob q => Heap.get?_push_of_some _ q) (Nat.le_refl _) ?_, rfl, q _ (I.hok.fresh (Nat.le_refl _))⟩
  exact ⟨Nat.le_trans (cutV_length xs lo hi) hz, _, (r.drop (HT.sIx xs.length 0 lo)).take (HT.sIx xs.length xs.length hi - HT.sIx xs.length 0 lo), IsTup.new _ _, ⟨_, Heap.get?_push_size _ rfl, rfl⟩⟩

/-! ### t < u, t + u -/
/-- t + u, t not empty: u empty gives t itself -/
def rCatT (K : PySem.W.Frag) : R2 := fun x y H Q => ∃ a b xs ys, x = .ref a ∧ y = .ref b ∧ SqT K H a xs ∧ SqT K H b ys ∧ xs ≠ [] ∧ xs.length + ys.length ≤ sizeLine ∧
  (ys = [] → Q (.ref a) H) ∧ (ys ≠ [] → ∀ p, H p = none → Q (.ref p) (upd H p (.tup (xs ++ ys))))
theorem Vals.nil_iff {xs : List V} {us : List Value} (r : Vals xs us) : us = [] ↔ xs = [] := by
  cases r with
  | nil => simp
  | cons _ _ => simp
theorem op_catT : OpR X (binaryOp .Add) (rCatT X.K) := by
  intro pins s σ H x y v u Q I rx ry h
  obtain ⟨a, b, xs, ys, rfl, rfl, ha, hb, hx, hz, q1, q2⟩ := h
  cases rx
  cases ry
  obtain ⟨its, r1, p1, _⟩ := I.tuple ha
  obtain ⟨its2, r2, p2, _⟩ := I.tuple hb
  refine HT.cat_tup p1 p2 (fun z => hx (r1.nil_iff.mp z)) (fun z => ⟨.ref a, H, I, rfl, q1 (r2.nil_iff.mp z)⟩) (fun z => ?_) (by rw [← r1.length, ← r2.length]; exact hz)
  refine ⟨.ref s.heap.objs.size, _, I.laid (t' := s.toks) (o := .tup (xs ++ ys)) (fun b ob q => Heap.get?_push_of_some _ q) (Nat.le_refl _) ?_, rfl, q2 (fun w => z (r2.nil_iff.mpr w)) _ (I.hok.fresh (Nat.le_refl _))⟩
  exact ⟨by rw [List.length_append]; exact hz, _, r1.append r2, IsTup.new _ _, ⟨_, Heap.get?_push_size _ rfl, rfl⟩⟩
end
end L2

namespace L2
open PySem PySem.Spec PyProof.Rows

/-! ### places -/
/-- the place that an index of any sign means -/
def ixN (n : Nat) (i : Int) : Option Nat := if 0 ≤ i then (if i < n then some i.toNat else none) else if -(n : Int) ≤ i then some (i + n).toNat else none
def atI {α : Type} (xs : List α) (i : Int) : Option α := (ixN xs.length i).bind fun j => xs[j]?
theorem ixN_seq {n : Nat} {i : Int} {j : Nat} (h : ixN n i = some j) : seqIndex? i n = some j ∧ j < n ∧ -(n : Int) ≤ i ∧ i < n := by
  unfold ixN at h
  by_cases h0 : 0 ≤ i
  · rw [if_pos h0] at h
    by_cases h1 : i < n
    · rw [if_pos h1] at h
      have e : i.toNat = j := Option.some.inj h
      exact ⟨by rw [seqIndex_of h0 h1, e], by omega, by omega, h1⟩
    · rw [if_neg h1] at h; cases h
  · rw [if_neg h0] at h
    by_cases h1 : -(n : Int) ≤ i
    · rw [if_pos h1] at h
      have e : (i + n).toNat = j := Option.some.inj h
      exact ⟨by rw [seqIndex_neg (by omega) h1, e], by omega, h1, by omega⟩
    · rw [if_neg h1] at h; cases h
theorem atI_get {α : Type} {xs : List α} {i : Int} {v : α} (h : atI xs i = some v) : ∃ j, seqIndex? i xs.length = some j ∧ xs[j]? = some v ∧ j < xs.length ∧ -(xs.length : Int) ≤ i ∧ i < xs.length := by
  unfold atI at h
  cases e : ixN xs.length i with
  | none => rw [e] at h; cases h
  | some j =>
    rw [e] at h
    obtain ⟨h1, h2, h3, h4⟩ := ixN_seq e
    exact ⟨j, h1, h, h2, h3, h4⟩
theorem atI_nat {α : Type} {xs : List α} {j : Nat} {v : α} (h : xs[j]? = some v) : atI xs (j : Int) = some v := by
  have hj : j < xs.length := (List.getElem?_eq_some_iff.mp h).1
  have e : ixN xs.length (j : Int) = some j := by
    unfold ixN
    rw [if_pos (by omega), if_pos (by omega)]; simp
  unfold atI; rw [e]; exact h
theorem atI_last {α : Type} (xs : List α) (v : α) : atI (xs ++ [v]) (-1) = some v := by
  have hl : (xs ++ [v]).length = xs.length + 1 := by simp
  have e : ixN (xs ++ [v]).length (-1) = some xs.length := by
    unfold ixN
    rw [hl, if_neg (by decide), if_pos (by omega)]
    congr 1
    omega
  unfold atI
  rw [e]
  show (xs ++ [v])[xs.length]? = some v
  simp

/-! ### what may be subscripted -/
/-- what stands as an index of a plain subscript -/
def PlainIx (b : Expr) : Prop := ∀ o i, subscripted b false o i = operate [o, i] (getItem o i)
/-- a subscript by values -/
def IxR (X : Cx) (r : R2) : Prop :=
  ∀ (value slice : Expr) (pins : List (Addr × Obj)) (s : Shared) (σ : St) (H : Hp) (x y : V) (v u : Value) (Q : VK), Inv X pins σ H s → RelV x v → RelV y u → r x y H Q →
    subscripted slice false v u = operate [v, u] (getItem v u) → wpAny (model X.prog X.w) X.A (subscriptTail value slice v u) (EP X pins σ Q) X.xe s
/-- a call of a builtin's method by values: the receiver, the arguments -/
def MtR (X : Cx) (id : String) (r : V → List V → Hp → VK → Prop) : Prop :=
  ∀ (pins : List (Addr × Obj)) (s : Shared) (σ : St) (H : Hp) (x : V) (xs : List V) (v : Value) (us : List Value) (Q : VK), Inv X pins σ H s → RelV x v → Vals xs us → r x xs H Q →
    wpAny (model X.prog X.w) X.A (call (.builtin id) (v :: us)) (EP X pins σ Q) X.xe s
section
variable {X : Cx} {a b : Expr} {ta tb : TE} {pos : Pos}
theorem IxR.or {r r' : R2} (h : IxR X r) (h' : IxR X r') : IxR X (fun x y H Q => r x y H Q ∨ r' x y H Q) := by
  intro value slice pins s σ H x y v u Q I rx ry q hs
  rcases q with q | q
  · exact h value slice pins s σ H x y v u Q I rx ry q hs
  · exact h' value slice pins s σ H x y v u Q I rx ry q hs
theorem MtR.or {id : String} {r r' : V → List V → Hp → VK → Prop} (h : MtR X id r) (h' : MtR X id r') : MtR X id (fun x xs H Q => r x xs H Q ∨ r' x xs H Q) := by
  intro pins s σ H x xs v us Q I rx rs q
  rcases q with q | q
  · exact h pins s σ H x xs v us Q I rx rs q
  · exact h' pins s σ H x xs v us Q I rx rs q
/-- a[b] -/
theorem pe_ix {r : R2} (hr : IxR X r) (ha : PE X a ta) (hb : PE X b tb) (hs : PlainIx b) : PE X (.Subscript a b pos) (tOp r ta tb) := by
  intro pins s σ H Q I h
  exact Subscript_ (binT ha hb I h fun v u s2 x y H2 I2 rx ry q => hr a b pins s2 σ H2 x y v u Q I2 rx ry q (hs _ _))

def rIxL (K : PySem.W.Frag) : R2 := fun x y H Q => ∃ p xs i v, x = .ref p ∧ y = .int i ∧ SqL K H p xs ∧ atI xs i = some v ∧ Q v H
def rIxT (K : PySem.W.Frag) : R2 := fun x y H Q => ∃ p xs i v, x = .ref p ∧ y = .int i ∧ SqT K H p xs ∧ atI xs i = some v ∧ Q v H
theorem ix_list : IxR X (rIxL X.K) := by
  intro value slice pins s σ H x y v u Q I rx ry h hs
  obtain ⟨p, xs, i, z, rfl, rfl, hq, he, q⟩ := h
  cases rx
  obtain ⟨t, rfl⟩ := ry
  obtain ⟨its, r, pl, hz⟩ := I.list hq
  obtain ⟨j, h1, h2, h3, h4, h5⟩ := atI_get he
  obtain ⟨w, ew, rw'⟩ := r.get h2
  have hl := r.length
  have hn := line63
  have fin : EP X pins σ Q w s := ⟨z, H, I, rw', q⟩
  by_cases h0 : 0 ≤ i
  · have hj : i.toNat = j := by
      rw [seqIndex_of h0 h5] at h1
      exact Option.some.inj h1
    exact item_listR pl.isList h0 (by omega) (by rw [hj]; simpa using ew) fin hs
  · have hj : (i + (its.toArray.size : Int)).toNat = j := by
      rw [seqIndex_neg (by omega) h4] at h1
      rw [List.size_toArray, ← hl]
      exact Option.some.inj h1
    exact subscriptTail_builtinR (x := w) pl.isList.typeIs slot_list_getitem.lookup
      (wpAny_getItem_list_neg (Q := fun r s' => r = w ∧ EP X pins σ Q r s') pl.isList (by omega) (by rw [List.size_toArray] <;> omega) (by omega) (by rw [hj]; simpa using ew) ⟨rfl, fin⟩) hs
theorem ix_tup : IxR X (rIxT X.K) := by
  intro value slice pins s σ H x y v u Q I rx ry h hs
  obtain ⟨p, xs, i, z, rfl, rfl, hq, he, q⟩ := h
  cases rx
  obtain ⟨t, rfl⟩ := ry
  obtain ⟨its, r, pl, hz⟩ := I.tuple hq
  obtain ⟨j, h1, h2, h3, h4, h5⟩ := atI_get he
  obtain ⟨w, ew, rw'⟩ := r.get h2
  have hl := r.length
  have hn := line63
  have fin : EP X pins σ Q w s := ⟨z, H, I, rw', q⟩
  exact subscriptTail_builtinR (x := w) pl.typeIs slot_tuple_getitem.lookup
    (getItem_tuple (j := j) (Q := fun r s' => r = w ∧ EP X pins σ Q r s') pl (by omega) (by omega) (by rw [List.size_toArray, ← hl]; exact h1) (by simpa using ew) ⟨rfl, fin⟩) hs
/-! ### xs[i] = v, any sign -/
/-- the list's object behind a store -/
theorem mapSeq_set (its : List Value) (n j : Nat) (u : Value) : Obj.mapSeq (·.setIfInBounds j u) { cls := .type "list", data := .seq its.toArray n } = { cls := .type "list", data := .seq (its.set j u).toArray n } := by
  simp [Obj.mapSeq]
theorem Inv.lst {pins : List (Addr × Obj)} {σ : St} {H : Hp} {s : Shared} {p : Addr} {xs : List V} (I : Inv X pins σ H s) (h : H p = some (.lst xs)) :
    ∃ (its : List Value) (n : Nat), Vals xs its ∧ s.heap.get? p = some { cls := .type "list", data := .seq its.toArray n } ∧ xs.length ≤ sizeLine := by
  obtain ⟨z, its, n, r, e⟩ := I.hok p _ h
  exact ⟨its, n, r, e, z⟩
/-- the list at p is written by an update of its object -/
theorem Inv.lstUpd {pins : List (Addr × Obj)} {σ : St} {H : Hp} {s : Shared} {p : Addr} {xs ys : List V} {its its' : List Value} {n n' : Nat} {f : Obj → Obj} (I : Inv X pins σ H s) (h : H p = some (.lst xs))
    (ho : s.heap.get? p = some { cls := .type "list", data := .seq its.toArray n }) (hf : f { cls := .type "list", data := .seq its.toArray n } = { cls := .type "list", data := .seq its'.toArray n' }) (r : Vals ys its') (hz : ys.length ≤ sizeLine) (t : Nat) :
    Inv X pins σ (upd H p (.lst ys)) { s with heap := s.heap.update p f, toks := t } := by
  have e : (s.heap.update p f).get? p = some { cls := .type "list", data := .seq its'.toArray n' } := by
    rw [Heap.get?_update_self f ho (by rw [hf] <;> rfl), hf]
  refine I.write (x := p) (e := p) (by rw [h]; trivial) (.inl rfl) (fun b u hb q => (Heap.get?_update_other _ _ (Ne.symm hb)).trans q) ⟨_, e⟩ ?_
  exact ⟨hz, its', n', r, e⟩
def rSetL : V → V → V → Hp → (Hp → Prop) → Prop := fun o i v H Q => ∃ p xs k j, o = .ref p ∧ i = .int k ∧ H p = some (.lst xs) ∧ ixN xs.length k = some j ∧ Q (upd H p (.lst (xs.set j v)))
theorem set_list : PSet X rSetL := by
  intro pins s σ H o i v ov iv u Q I ro ri rv h
  obtain ⟨p, xs, k, j, rfl, rfl, hp, hj, q⟩ := h
  cases ro
  obtain ⟨t, rfl⟩ := ri
  obtain ⟨its, n, r, ho, hz⟩ := I.lst hp
  obtain ⟨h1, h2, h3, h4⟩ := ixN_seq hj
  have hl := r.length
  have hn := line63
  have I' : Inv X pins σ (upd H p (.lst (xs.set j v))) { s with heap := s.heap.update p (Obj.mapSeq (·.setIfInBounds j u)) } :=
    I.lstUpd hp ho (mapSeq_set its n j u) (r.set rv j) (by rw [List.length_set]; exact hz) s.toks
  by_cases h0 : 0 ≤ k
  · have hk : k.toNat = j := by
      rw [seqIndex_of h0 h4] at h1
      exact Option.some.inj h1
    exact PySem.W.ki_setAt ho h0 (by omega) (by rw [List.size_toArray, ← hl]; exact h4) (by rw [hk]; exact ⟨_, I', q⟩)
  · have hk : (k + (its.toArray.size : Int)).toNat = j := by
      rw [seqIndex_neg (by omega) h3] at h1
      rw [List.size_toArray, ← hl]
      exact Option.some.inj h1
    exact PySem.W.ki_setBack ho (by omega) (by rw [List.size_toArray, ← hl]; exact h3) (by omega) (by rw [hk]; exact ⟨_, I', q⟩)

/-! ### slices -/
theorem slice_bounds (lo hi : Option Int) (n : Nat) : (sliceBounds lo hi none n).1 = ((HT.sIx n 0 lo : Nat) : Int) ∧ (sliceBounds lo hi none n).2.1 = ((HT.sIx n n hi : Nat) : Int) ∧ (sliceBounds lo hi none n).2.2 = 1 := by
  refine ⟨?_, ?_, rfl⟩
  · cases lo with
    | none => simp [sliceBounds, HT.sIx]
    | some i =>
      simp only [sliceBounds, HT.sIx, Option.getD_none, show (1 : Int) > 0 by decide, if_true]
      by_cases h : i < 0
      · simp only [h, if_true] <;> omega
      · simp only [h, if_false] <;> omega
  · cases hi with
    | none => simp [sliceBounds, HT.sIx]
    | some i =>
      simp only [sliceBounds, HT.sIx, Option.getD_none, show (1 : Int) > 0 by decide, if_true]
      by_cases h : i < 0
      · simp only [h, if_true] <;> omega
      · simp only [h, if_false] <;> omega
theorem slicePick_cut (its : List Value) (lo hi : Option Int) : slicePick its.toArray lo hi none = ((its.drop (HT.sIx its.length 0 lo)).take (HT.sIx its.length its.length hi - HT.sIx its.length 0 lo)).toArray := by
  obtain ⟨h1, h2, h3⟩ := slice_bounds lo hi its.toArray.size
  unfold slicePick
  rw [h1, h2, h3]
  simp only [sliceRange_one, pick_run, List.size_toArray] <;> rfl
/-- xs[lo:hi] of a list: a new list -/
def rSlL (K : PySem.W.Frag) : V → Option Int → Option Int → Hp → VK → Prop := fun x lo hi H Q => ∃ a xs, x = .ref a ∧ SqL K H a xs ∧ ∀ p, H p = none → Q (.ref p) (upd H p (.lst (cutV xs lo hi)))
theorem sl_list : SlR X (rSlL X.K) := by
  intro pins s σ H x v vl vu lo hi sl Q I rx hs pl pu h
  obtain ⟨a, xs, rfl, hx, q⟩ := h
  cases rx
  obtain ⟨its, r, ht, hz⟩ := I.list hx
  have hlen := r.length
  refine ⟨"list", _, slot_list_getitem.lookup, ht.isList.typeIs, ?_⟩
  refine wpAny_getItem_list_slice ht.isList hs pl pu .none (by simp) ?_ (by rw [List.size_toArray] <;> omega)
  rw [slicePick_cut, ← hlen]
  refine ⟨.ref s.heap.objs.size, _, I.laid (t' := s.toks) (o := .lst (cutV xs lo hi)) (fun b ob q => Heap.get?_push_of_some _ q) (Nat.le_refl _) ?_, rfl, q _ (I.hok.fresh (Nat.le_refl _))⟩
  exact ⟨Nat.le_trans (cutV_length xs lo hi) hz, _, 0, (r.drop (HT.sIx xs.length 0 lo)).take (HT.sIx xs.length xs.length hi - HT.sIx xs.length 0 lo), Heap.get?_push_size _ rfl⟩

/-! ### in, not in: flat items -/
/-! ### len, list(x), tuple(x) of any list or tuple that is read -/
theorem CallR.or {f : Value} {r r' : List V → Hp → VK → Prop} (h : CallR X f r) (h' : CallR X f r') : CallR X f (fun xs H Q => r xs H Q ∨ r' xs H Q) := by
  intro pins s σ H xs us Q I rs q
  rcases q with q | q
  · exact h pins s σ H xs us Q I rs q
  · exact h' pins s σ H xs us Q I rs q
theorem call_list_of : CallR X (.type "list") (fun xs H Q => ∃ p ys, xs = [.ref p] ∧ (SqL X.K H p ys ∨ SqT X.K H p ys) ∧ ∀ l, H l = none → Q (.ref l) (upd H l (.lst ys))) := by
  intro pins s σ H xs us Q I r h
  obtain ⟨p, ys, rfl, hq, q⟩ := h
  obtain ⟨u, rfl, rx⟩ := vals1 r
  cases rx
  have fin : ∀ (its : List Value), Vals ys its → ys.length ≤ sizeLine → ∀ (h' : Heap) (c' : Nat), (∀ b o', s.heap.get? b = some o' → h'.get? b = some o') →
      h'.get? s.heap.objs.size = some { cls := .type "list", dict := none, data := .seq its.toArray c', slots := #[] } → EP X pins σ Q (.ref s.heap.objs.size) { s with heap := h' } := fun its r' hz h' c' kp e =>
    ⟨.ref s.heap.objs.size, _, I.laid (t' := s.toks) kp (Nat.le_refl _) (show ObjOk X.prog X.w _ h' _ (.lst ys) from ⟨hz, its, c', r', e⟩), rfl, q _ (I.hok.fresh (Nat.le_refl _))⟩
  rcases hq with hq | hq
  · obtain ⟨its, r', pl, hz⟩ := I.list hq
    have hlen := r'.length
    obtain ⟨o, ho, hc, n, hd⟩ := pl.isList
    exact call_list_seq p (.inl rfl) ho hc hd (fun h' c' kp e => fin its r' hz h' c' kp e) (by simp only [List.size_toArray] <;> omega)
  · obtain ⟨its, r', pl, hz⟩ := I.tuple hq
    have hlen := r'.length
    obtain ⟨o, ho, hc, n, hd⟩ := pl
    exact call_list_seq p (.inr rfl) ho hc hd (fun h' c' kp e => fin its r' hz h' c' kp e) (by simp only [List.size_toArray] <;> omega)
theorem call_tuple_of : CallR X (.type "tuple") (fun xs H Q => ∃ p ys, xs = [.ref p] ∧ ((SqL X.K H p ys ∧ ∀ l, H l = none → Q (.ref l) (upd H l (.tup ys))) ∨ (SqT X.K H p ys ∧ Q (.ref p) H))) := by
  intro pins s σ H xs us Q I r h
  obtain ⟨p, ys, rfl, h⟩ := h
  obtain ⟨u, rfl, rx⟩ := vals1 r
  cases rx
  rcases h with ⟨hq, q⟩ | ⟨hq, q⟩
  · obtain ⟨its, r', pl, hz⟩ := I.list hq
    have hlen := r'.length
    refine call_tuple_list pl.isList (fun h' kp => ?_) (by simp only [List.size_toArray] <;> omega)
    have I1 : Inv X pins σ H { s with heap := h' } := I.kept (t' := s.toks) kp
    have I2 : Inv X pins σ (upd H h'.objs.size (.tup ys)) { s with heap := h'.push { cls := .type "tuple", data := .seq its.toArray } } :=
      I1.laid (t' := s.toks) (fun b o e => Heap.get?_push_of_some _ e) (Nat.le_refl _) (show ObjOk X.prog X.w _ _ _ (.tup ys) from ⟨hz, its, r', IsTup.new _ _, ⟨_, Heap.get?_push_size _ rfl, rfl⟩⟩)
    exact ⟨.ref h'.objs.size, _, I2, rfl, q _ (I1.hok.fresh (Nat.le_refl _))⟩
  · obtain ⟨its, r', pl, hz⟩ := I.tuple hq
    exact call_tuple_same pl ⟨.ref p, H, I, rfl, q⟩

/-! ### the call of a builtin's method: o.m(..) -/
/-- the value is of that builtin type -/
def tyV (K : PySem.W.Frag) (T : String) (x : V) (H : Hp) : Prop := match x with
  | .str _ => T = "str"
  | .int _ => T = "int"
  | .ref p => (T = "list" ∧ ∃ xs, SqL K H p xs) ∨ (T = "tuple" ∧ ((∃ o, K.lookup p = some o ∧ o.cls = .type "tuple" ∧ o.dict = none) ∨ ∃ xs, Rd H p (.tup xs))) ∨
      (T = "dict" ∧ ((∃ kvs, H p = some (.dK kvs)) ∨ ∃ kvs, H p = some (.dT kvs))) ∨ (T = "set" ∧ ∃ S n, H p = some (.set S n))
  | _ => False
theorem tyV_is {pins : List (Addr × Obj)} {σ : St} {H : Hp} {s : Shared} {T : String} {x : V} {v : Value} (I : Inv X pins σ H s) (r : RelV x v) (ty : tyV X.K T x H) :
    s.TypeIs v T ∧ ∀ a, v = .ref a → ∃ ob, s.heap.get? a = some ob ∧ ob.dict = none := by
  cases x with
  | str z =>
    obtain ⟨t, rfl⟩ := r
    cases (show T = "str" from ty)
    exact ⟨typeIs_str s z t, fun _ e => nomatch e⟩
  | int i =>
    obtain ⟨t, rfl⟩ := r
    cases (show T = "int" from ty)
    exact ⟨typeIs_int s i t, fun _ e => nomatch e⟩
  | ref p =>
    cases r
    rcases ty with ⟨rfl, xs, hq⟩ | ⟨rfl, ⟨o, hk, hc, hd⟩ | ⟨xs, hr⟩⟩ | ⟨rfl, hk⟩ | ⟨rfl, S, n, hk⟩
    · obtain ⟨its, _, pl, _⟩ := I.list hq
      refine ⟨pl.isList.typeIs, fun a e => ?_⟩
      cases e
      obtain ⟨o, n, e, c, hd, _⟩ := pl
      exact ⟨o, e, hd⟩
    · refine ⟨⟨o, I.kIn p o hk, hc⟩, fun a e => ?_⟩
      cases e
      exact ⟨o, I.kIn _ o hk, hd⟩
    · obtain ⟨_, its, _, ⟨ob, e1, e2, _⟩, td⟩ := hr.ok I.hok
      refine ⟨⟨ob, e1, e2⟩, fun a e => ?_⟩
      cases e
      exact td
    · have z : ∃ o, s.heap.get? p = some o ∧ o.ExactDict := by
        rcases hk with ⟨kvs, hk⟩ | ⟨kvs, hk⟩
        · obtain ⟨_, _, _, _, o, _, _, e, ex, _⟩ := I.hok p _ hk
          exact ⟨o, e, ex⟩
        · obtain ⟨_, _, _, _, o, _, _, e, ex, _⟩ := I.hok p _ hk
          exact ⟨o, e, ex⟩
      obtain ⟨o, e, ex⟩ := z
      refine ⟨⟨o, e, ex.1⟩, fun a e2 => ?_⟩
      cases e2
      exact ⟨o, e, ex.2.1⟩
    · obtain ⟨o, _, _, _, e, ex, _⟩ := I.hok p _ hk
      refine ⟨⟨o, e, ex.1⟩, fun a e2 => ?_⟩
      cases e2
      exact ⟨o, e, ex.2.1⟩
  | _ => exact False.elim ty
def tBM0 (K : PySem.W.Frag) (T : String) (r : V → List V → Hp → VK → Prop) (to : TE) : TE := fun σ H Q => to σ H fun x H1 => tyV K T x H1 ∧ r x [] H1 Q
def tBM (K : PySem.W.Frag) (T : String) (r : V → List V → Hp → VK → Prop) (to : TE) (t : TA) : TE := fun σ H Q => to σ H fun x H1 => tyV K T x H1 ∧ t σ H1 fun xs H2 => r x xs H2 Q
variable {o e : Expr} {es : List Expr} {to : TE} {t : TA} {name : Str} {apos cpos : Pos} {T id : String} {r : V → List V → Hp → VK → Prop}
theorem pe_bm0 (pa : PlainAttrs T) (slot : Slot T name id) (hty : typeOf (.builtin id) = pure (.type "method_descriptor")) (hm : MtR X id r) (ho : PE X o to)
    (hbase : attributeBase o name X.env (eval o X.env) = eval o X.env := by rfl) (hline : (apos.endLine == cpos.line) = true := by rfl) : PE X (.Call (.Attribute o name apos) [] [] cpos) (tBM0 X.K T r to) := by
  intro pins s σ H Q I h
  refine wpAny_Call_method0_late hbase hline (thn (ho pins s σ H _ I h) fun v s1 ⟨x, H1, I1, r1, ty, q1⟩ => ?_)
  obtain ⟨h1, h2⟩ := tyV_is I1 r1 ty
  exact ⟨T, id, pa, slot, hty, h1, h2, Calls.callWith_builtin rfl (PySem.evalArgs_none (hm pins s1 σ H1 x [] v [] Q I1 r1 .nil q1))⟩
theorem pe_bm (pa : PlainAttrs T) (slot : Slot T name id) (hty : typeOf (.builtin id) = pure (.type "method_descriptor")) (hm : MtR X id r) (ho : PE X o to) (ha : PA X (e :: es) t)
    (hbase : attributeBase o name X.env (eval o X.env) = eval o X.env := by rfl)
    (hfew : ((backTo cpos (starEach (e :: es) X.env)).all (fun x => !x.1) && (backToKw cpos (keywordEach [] X.env)).all (fun x => x.1.isSome)
      && decide ((e :: es).length + ([] : List Keyword).length + (if ([] : List Keyword).isEmpty then 0 else 1) < 30)) = true := by rfl)
    (hline : (apos.endLine == cpos.line) = true := by rfl) (hs : starEach (e :: es) X.env = (false, eval e X.env) :: starEach es X.env := by rfl) (hplain : (backTo cpos (starEach es X.env)).any (·.1) = false := by rfl) :
    PE X (.Call (.Attribute o name apos) (e :: es) [] cpos) (tBM X.K T r to t) := by
  intro pins s σ H Q I h
  refine wpAny_Call_method_late hbase hfew hline rfl (thn (ho pins s σ H _ I h) fun v s1 ⟨x, H1, I1, r1, ty, q1⟩ => ?_)
  obtain ⟨h1, h2⟩ := tyV_is I1 r1 ty
  refine ⟨T, id, pa, slot, hty, h1, h2, ?_⟩
  have hA := ha cpos pins s1 σ H1 _ I1 q1
  rw [hs] at hA ⊢
  refine Calls.callWith_builtin (by show (false || (backTo cpos (starEach es X.env)).any (·.1)) = false; rw [hplain] <;> rfl) (Calls.evalArgs_plain ?_)
  exact thn hA fun us s2 ⟨vs, H2, I2, r2, q2⟩ => hm pins s2 σ H2 x vs v us Q I2 r1 r2 q2
/- xs.append(e), list.index on a module's tuple .. are MtR facts of 06m -/
end
end L2

namespace L2
open PySem PySem.Spec PyProof.Rows

def MtM (X : Cx) (id : String) (r : V → List V → Hp → VK → Prop) : Prop :=
  ∀ (pins : List (Addr × Obj)) (s : Shared) (σ : St) (H : Hp) (x : V) (xs : List V) (v : Value) (us : List Value) (Q : VK), Inv X pins σ H s → RelV x v → Vals xs us → r x xs H Q →
    wpAny (model X.prog X.w) X.A (call (.builtin id) (v :: us)) (EP X pins σ Q) X.xe s

/-! ### lists of values -/
theorem Vals.one : ∀ {x : V} {us : List Value}, Vals [x] us → ∃ u, us = [u] ∧ RelV x u
  | _, _, .cons r .nil => ⟨_, rfl, r⟩
theorem Vals.two : ∀ {x y : V} {us : List Value}, Vals [x, y] us → ∃ u v, us = [u, v] ∧ RelV x u ∧ RelV y v
  | _, _, _, .cons r (.cons q .nil) => ⟨_, _, rfl, r, q⟩
theorem Vals.zero : ∀ {us : List Value}, Vals [] us → us = []
  | _, .nil => rfl
theorem Vals.dropLast {xs : List V} {us : List Value} (h : Vals xs us) : Vals xs.dropLast us.dropLast := by
  induction h with
  | nil => exact .nil
  | cons r t ih =>
    cases t with
    | nil => exact .nil
    | cons q t' => exact .cons r ih
theorem Vals.eraseIdx : ∀ {xs : List V} {us : List Value} (i : Nat), Vals xs us → Vals (xs.eraseIdx i) (us.eraseIdx i)
  | _, _, _, .nil => .nil
  | _, _, 0, .cons _ t => t
  | _, _, i + 1, .cons r t => .cons r (Vals.eraseIdx i t)
theorem Vals.reverse {xs : List V} {us : List Value} (h : Vals xs us) : Vals xs.reverse us.reverse := by
  induction h with
  | nil => exact .nil
  | cons r t ih => rw [List.reverse_cons, List.reverse_cons]; exact Vals.append ih (.cons r .nil)
theorem len_erase {α : Type} : ∀ (l : List α) (i : Nat), (l.eraseIdx i).length ≤ l.length
  | [], _ => Nat.le_refl _
  | _ :: _, 0 => Nat.le_succ _
  | _ :: r, i + 1 => Nat.succ_le_succ (len_erase r i)
section
variable {X : Cx} {pins : List (Addr × Obj)} {σ : St} {H : Hp} {s : Shared} {l b : Addr} {xs ys zs : List V}

/-! ### the two steps: a tracked list is rewritten, a new list is laid -/
theorem Inv.lset {its its' : List Value} {n : Nat} {f : Array Value → Array Value} {t' : Nat} (I : Inv X pins σ H s) (hH : H l = some (.lst xs))
    (e : s.heap.get? l = some { cls := .type "list", data := .seq its.toArray n }) (hf : f its.toArray = its'.toArray) (hv : Vals ys its') (hz : ys.length ≤ sizeLine) :
    Inv X pins σ (upd H l (.lst ys)) { s with heap := s.heap.update l (Obj.mapSeq f), toks := t' } := by
  have q := PySem.IsL.update e f
  rw [hf] at q
  refine I.write (x := l) (e := l) (by rw [hH]; exact trivial) (.inl rfl) (fun b' u hb hu => (Heap.get?_update_other s.heap (Obj.mapSeq f) (Ne.symm hb)).trans hu) ⟨_, q⟩ ?_
  exact ⟨hz, its', _, hv, q⟩
theorem Inv.lnew {its : List Value} {t' : Nat} (I : Inv X pins σ H s) (hv : Vals ys its) (hz : ys.length ≤ sizeLine) :
    Inv X pins σ (upd H s.heap.objs.size (.lst ys)) { s with heap := s.heap.push { cls := .type "list", data := .seq its.toArray }, toks := t' } :=
  I.laid (fun _ _ q => Heap.get?_push_of_some _ q) (Nat.le_refl _) ⟨hz, its, 0, hv, Heap.get?_push_size _ rfl⟩
theorem Inv.fresh (I : Inv X pins σ H s) : H s.heap.objs.size = none := I.hok.fresh (Nat.le_refl _)
theorem Inv.lstM (I : Inv X pins σ H s) (hH : H l = some (.lst xs)) : xs.length ≤ sizeLine ∧ ∃ (its : List Value) (n : Nat), Vals xs its ∧ xs.length = its.length ∧ s.heap.get? l = some { cls := .type "list", data := .seq its.toArray n } := by
  obtain ⟨z, its, n, r, e⟩ := I.hok l _ hH
  exact ⟨z, its, n, r, r.length, e⟩

end

section
variable {X : Cx}

/-! ### methods -/
def rAppend : V → List V → Hp → VK → Prop := fun x vs H Q => ∃ l xs y, x = .ref l ∧ vs = [y] ∧ H l = some (.lst xs) ∧ xs.length < sizeLine ∧ Q .non (upd H l (.lst (xs ++ [y])))
theorem mt_append : MtM X "list.append" rAppend := by
  intro pins s σ H x vs v us Q I rx rv h
  obtain ⟨l, xs, y, rfl, rfl, hH, hz, q⟩ := h
  cases rx
  obtain ⟨u, rfl, ru⟩ := rv.one
  obtain ⟨z, its, n, r, hl, e⟩ := I.lstM hH
  refine call_meets F.slot_list_append ⟨_, e, rfl⟩ F.entry_list_append (F.args_list_append_2 _ _) (PySem.list_append l its.toArray n u (by rw [List.size_toArray]; omega)) ⟨e, ?_⟩
  refine ⟨.non, _, I.lset (its' := its ++ [u]) hH e (by simp) (r.append (.cons ru .nil)) ?_, rfl, q⟩
  rw [List.length_append, List.length_singleton]
  omega

def rPopAt : V → List V → Hp → VK → Prop := fun x vs H Q => ∃ l xs i k y, x = .ref l ∧ vs = [.int i] ∧ H l = some (.lst xs) ∧ -(2 ^ 63) ≤ i ∧ i < 2 ^ 63 ∧ seqIndex? i xs.length = some k ∧ xs[k]? = some y ∧ Q y (upd H l (.lst (xs.eraseIdx k)))
theorem mt_popAt : MtM X "list.pop" rPopAt := by
  intro pins s σ H x vs v us Q I rx rv h
  obtain ⟨l, xs, i, k, y, rfl, rfl, hH, h1, h2, hk, hy, q⟩ := h
  cases rx
  obtain ⟨u, rfl, ru⟩ := rv.one
  obtain ⟨t, rfl⟩ := ru
  obtain ⟨z, its, n, r, hl, e⟩ := I.lstM hH
  obtain ⟨w, hw, rw'⟩ := r.get hy
  refine call_meets F.slot_list_pop ⟨_, e, rfl⟩ F.entry_list_pop (F.args_list_pop_2 _ _)
    (MeetsSeq.list_pop_at l its.toArray n i t k w (fitsIndex_both h1 h2) (by rw [List.size_toArray, ← hl]; exact hk) (by rw [← Array.getElem?_toList]; exact hw) (by rw [List.size_toArray]; omega)) ⟨e, ?_⟩
  refine ⟨y, _, I.lset (its' := its.eraseIdx k) hH e ?_ (r.eraseIdx k) ?_, rw', q⟩
  · show its.toArray.eraseIdxIfInBounds k = (its.eraseIdx k).toArray
    rw [List.eraseIdxIfInBounds_toArray]
  · have := len_erase xs k
    omega

def rClear : V → List V → Hp → VK → Prop := fun x vs H Q => ∃ l xs, x = .ref l ∧ vs = [] ∧ H l = some (.lst xs) ∧ Q .non (upd H l (.lst []))
theorem mt_clear : MtM X "list.clear" rClear := by
  intro pins s σ H x vs v us Q I rx rv h
  obtain ⟨l, xs, rfl, rfl, hH, q⟩ := h
  cases rx
  have hus := rv.zero
  subst hus
  obtain ⟨z, its, n, r, hl, e⟩ := I.lstM hH
  refine call_meets F.slot_list_clear ⟨_, e, rfl⟩ F.entry_list_clear (F.args_list_clear_1 _) (AutoSeq1.list_clear_list_0 l its.toArray n (by rw [List.size_toArray]; omega)) ⟨e, ?_⟩
  exact ⟨.non, _, I.lset (its' := []) (ys := []) hH e rfl .nil (Nat.zero_le _), rfl, q⟩

/-! ### list + list, list += list, list * int -/
def rCat : R2 := fun x y H Q => ∃ l b xs zs, x = .ref l ∧ y = .ref b ∧ H l = some (.lst xs) ∧ H b = some (.lst zs) ∧ xs.length + zs.length ≤ sizeLine ∧ ∀ p, H p = none → Q (.ref p) (upd H p (.lst (xs ++ zs)))
theorem op_cat : OpR X (binaryOp .Add) rCat := by
  intro pins s σ H x y v u Q I rx ry h
  obtain ⟨l, b, xs, zs, rfl, rfl, hH, hB, hz, q⟩ := h
  cases rx
  cases ry
  obtain ⟨z, its, n, r, hl, e⟩ := I.lstM hH
  obtain ⟨z2, its2, n2, r2, hl2, e2⟩ := I.lstM hB
  refine PySem.P.add_list e e2 ?_ (by rw [List.size_toArray, List.size_toArray]; omega)
  have ea : its.toArray ++ its2.toArray = (its ++ its2).toArray := by simp
  rw [ea]
  exact ⟨.ref _, _, I.lnew (t' := s.toks) (r.append r2) (by rw [List.length_append]; omega), rfl, q _ I.fresh⟩
/-! ### del xs[i] -/
end

/-! ### xs[a:b] = ys -/
section
variable {prog : Program} {w : World} {A : Around} {E : Value → Shared → Prop} {s : Shared}
end

section
variable {X : Cx}
end
end L2

namespace L2
open PySem PySem.Spec PyProof.Rows

theorem Vals.ints : ∀ {ns : List Int} {us : List Value}, Vals (ns.map V.int) us → IntsAre us ns
  | [], us, h => by
    rw [List.map_nil] at h
    cases h
    exact IntsAre.nil
  | n :: ns, us, h => by
    rw [List.map_cons] at h
    cases h with
    | cons r t =>
      obtain ⟨k, rfl⟩ := r
      exact IntsAre.cons n k (Vals.ints t)
theorem Vals.strs : ∀ {xs : List Str} {us : List Value}, Vals (xs.map V.str) us → StrsAre us xs
  | [], us, h => by
    rw [List.map_nil] at h
    cases h
    exact StrsAre.nil
  | x :: xs, us, h => by
    rw [List.map_cons] at h
    cases h with
    | cons r t =>
      obtain ⟨k, rfl⟩ := r
      exact StrsAre.cons x k (Vals.strs t)
theorem Vals.bls : ∀ {bs : List Bool} {us : List Value}, Vals (bs.map V.bl) us → us = bs.map Value.bool
  | [], us, h => by
    rw [List.map_nil] at h
    cases h
    rfl
  | b :: bs, us, h => by
    rw [List.map_cons] at h
    cases h with
    | cons r t =>
      cases r
      rw [Vals.bls t, List.map_cons]
theorem Vals.ref1 {a : Addr} {us : List Value} (r : Vals [V.ref a] us) : us = [Value.ref a] := by
  cases r with
  | cons r t =>
    cases t
    cases r
    rfl
/-! ### the library's walks over a list of ints, kept objects alone -/
section
variable {prog : Program} {w : World} {A : Around} {E : Value → Shared → Prop} {s : Shared} {l : Addr} {its : List Value} {ns : List Int} {Q : Value → Shared → Prop}
end

/-! ### the calls, by values (CallR of 03t; MtR of 06l) -/
section
variable {X : Cx}
/-! sorted, sort (fewer than 64 items: the library's own bound) -/
end

/-! ### list.index, flat items -/
section
variable {X : Cx}
end

/-! ### type(x) of an own instance; is, is not of a module's class -/
section
variable {X : Cx}
end

/-! ### any(xs), all(xs) of a list of bools -/
theorem iter_any {prog : Program} {w : World} {A : Around} {E : Value → Shared → Prop} {s : Shared} {l : Addr} {items : Array Value} {Q : Value → Shared → Prop} (hl : s.heap.IsList l items)
    (h : ∀ s₂ : Shared, s₂ = { s with heap := s.heap.push { cls := .type "list_iterator", data := .fields #[.ref l, .int 0 0] } } →
      (s₂.heap.IsListIter s.heap.objs.size l 0 ∧ s₂.heap.IsList l items) → l ≠ s.heap.objs.size → Q (.ref s.heap.objs.size) s₂) : wpAny (model prog w) A (pyIter (.ref l)) Q E s := by
  have hlt : l < s.heap.objs.size := by obtain ⟨_, e, _⟩ := hl; exact Heap.lt_size e
  exact wpAny_pyIter_list hl (h _ rfl ⟨⟨_, Heap.get?_push_size _ rfl, rfl, rfl⟩, hl.push _⟩ (Nat.ne_of_lt hlt))
theorem truth_bools {prog : Program} {w : World} {A : Around} {bs : List Bool} {its : List Value} (e : its = bs.map Value.bool) :
    TruthOf prog w A (fun i v => its.toArray[i]? = some v) (fun i => bs.getD i false) := fun i v s Q E hv hq => by
  have hv' : its[i]? = some v := by simpa using hv
  rw [e, List.getElem?_map] at hv'
  obtain ⟨b, hb, rfl⟩ := Option.map_eq_some_iff.mp hv'
  have hg : bs.getD i false = b := by rw [List.getD_eq_getElem?_getD, hb] <;> rfl
  have hq' : Q (bs.getD i false) s := hq
  rw [hg] at hq'
  exact wpAny_truthy_bool hq'
theorem all_range : ∀ bs : List Bool, (List.range bs.length).all (fun i => bs.getD i false) = bs.all id
  | [] => rfl
  | b :: bs => by
    rw [List.length_cons, List.range_succ_eq_map, List.all_cons, List.all_map, List.all_cons, ← all_range bs]
    all_goals rfl
section
variable {X : Cx}
def rAll (K : PySem.W.Frag) : List V → Hp → VK → Prop := fun vs H Q => ∃ (a : Addr) (bs : List Bool), vs = [V.ref a] ∧ SqL K H a (bs.map V.bl) ∧ Q (.bl (bs.all id)) H
theorem cr_all (hc : X.calm = true) : CallR X (.builtin "all") (rAll X.K) := by
  intro pins s σ H vs us Q I r h
  obtain ⟨a, bs, rfl, hs, q⟩ := h
  obtain ⟨its, rv, hl, _⟩ := I.list hs
  rw [Vals.ref1 r]
  have hb := rv.bls
  refine call_all_walk (iter_any hl.isList fun s₂ e2 st hne => ?_)
  subst e2
  refine ⟨_, _, _, _, _, _, _, rfl, Walks.list (A := X.A.in1) (I.ok.hd hc) _ a hne its.toArray, st, truth_bools hb, fun h' tk hk => ?_⟩
  refine ⟨.bl _, H, I.kept fun b o eo => hk b o (fun hmem => ?_) (Heap.get?_push_of_some _ eo), ?_, q⟩
  · rcases List.mem_cons.mp hmem with e1 | hmem
    · exact absurd (e1 ▸ Heap.lt_size eo) (Nat.lt_irrefl _)
    · cases hmem
  · show Value.bool _ = Value.bool _
    rw [← all_range, hb, List.size_toArray, List.length_map]
end

/-! ### == and != of data at any depth: none, bools, ints, texts, lists, tuples -/
mutual
inductive Dp (K : PySem.W.Frag) (H : Hp) : V → PyData → Prop
  | non : Dp K H .non .none
  | bl (b : Bool) : Dp K H (.bl b) (.bool b)
  | int (i : Int) : Dp K H (.int i) (.int i)
  | str (x : Str) : Dp K H (.str x) (.str x)
  | lst {a : Addr} {xs : List V} {ds : List PyData} : SqL K H a xs → DpAll K H xs ds → Dp K H (.ref a) (.list ds)
  | tup {a : Addr} {xs : List V} {ds : List PyData} : SqT K H a xs → DpAll K H xs ds → Dp K H (.ref a) (.tuple ds)
inductive DpAll (K : PySem.W.Frag) (H : Hp) : List V → List PyData → Prop
  | nil : DpAll K H [] []
  | cons {v : V} {vs : List V} {d : PyData} {ds : List PyData} : Dp K H v d → DpAll K H vs ds → DpAll K H (v :: vs) (d :: ds)
end
section
variable {X : Cx} {pins : List (Addr × Obj)} {σ : St} {H : Hp} {s : Shared}
mutual
theorem Dp.reads (I : Inv X pins σ H s) : ∀ (d : PyData) (v : V) (u : Value), Dp X.K H v d → RelV v u → ∃ as, Reads s.heap u d as
  | .none, _, _, h, r => by
    cases h
    cases r
    exact ⟨_, Reads.none⟩
  | .bool b, _, _, h, r => by
    cases h
    cases r
    exact ⟨_, Reads.bool b⟩
  | .int i, _, _, h, r => by
    cases h
    obtain ⟨t, rfl⟩ := r
    exact ⟨_, Reads.int i t⟩
  | .str x, _, _, h, r => by
    cases h
    obtain ⟨t, rfl⟩ := r
    exact ⟨_, Reads.str x t⟩
  | .list ds, _, _, h, r => by
    cases h with
    | lst hs ha =>
      cases r
      obtain ⟨its, rv, ⟨o, n, ho, hc, _, hd⟩, _⟩ := I.list hs
      obtain ⟨as, hr⟩ := Dp.readsAll I ds _ its ha rv
      exact ⟨_, Reads.list ho hc hd hr⟩
  | .tuple ds, _, _, h, r => by
    cases h with
    | tup hs ha =>
      cases r
      obtain ⟨its, rv, ⟨o, ho, hc, n, hd⟩, _⟩ := I.tuple hs
      obtain ⟨as, hr⟩ := Dp.readsAll I ds _ its ha rv
      exact ⟨_, Reads.tuple ho hc hd hr⟩
  | .dict _, _, _, h, _ => by cases h
theorem Dp.readsAll (I : Inv X pins σ H s) : ∀ (ds : List PyData) (vs : List V) (us : List Value), DpAll X.K H vs ds → Vals vs us → ∃ as, ReadsAll s.heap us ds as
  | [], _, _, h, r => by
    cases h
    cases r
    exact ⟨_, ReadsAll.nil⟩
  | d :: ds, _, _, h, r => by
    cases h with
    | cons h1 h2 =>
      cases r with
      | cons r1 r2 =>
        obtain ⟨as, q1⟩ := Dp.reads I d _ _ h1 r1
        obtain ⟨bs, q2⟩ := Dp.readsAll I ds _ _ h2 r2
        exact ⟨_, ReadsAll.cons q1 q2⟩
end
end
section
variable {X : Cx}
def rEqD (K : PySem.W.Frag) : R2 := fun x y H Q => ∃ d e, Dp K H x d ∧ Dp K H y e ∧ SeqAt.shaped d = true ∧ SeqAt.shaped e = true ∧ Q (.bl (PyData.eqv d e)) H
def rNeD (K : PySem.W.Frag) : R2 := fun x y H Q => ∃ d e, Dp K H x d ∧ Dp K H y e ∧ SeqAt.shaped d = true ∧ SeqAt.shaped e = true ∧ Q (.bl (!PyData.eqv d e)) H
theorem op_eqD (hu : X.A.units + 64 < cLine) : OpR X (compareOp .Eq) (rEqD X.K) := by
  intro pins s σ H x y v u Q I rx ry h
  obtain ⟨d, e, hd, he, sd, se, q⟩ := h
  obtain ⟨as, r1⟩ := Dp.reads I d x v hd rx
  obtain ⟨bs, r2⟩ := Dp.reads I e y u he ry
  exact SeqAt.compareEq_shaped r1 r2 sd se hu ⟨.bl _, H, I, rfl, q⟩
theorem op_neD (hu : X.A.units + 64 < cLine) : OpR X (compareOp .NotEq) (rNeD X.K) := by
  intro pins s σ H x y v u Q I rx ry h
  obtain ⟨d, e, hd, he, sd, se, q⟩ := h
  obtain ⟨as, r1⟩ := Dp.reads I d x v hd rx
  obtain ⟨bs, r2⟩ := Dp.reads I e y u he ry
  exact SeqAt.compareNe_shaped r1 r2 sd se hu ⟨.bl _, H, I, rfl, q⟩
end
end L2

namespace L2
open PySem PySem.Spec PyProof.Rows
abbrev CellAt (h : Heap) (c : Addr) (v : Option Value) : Prop := h.IsCell c v
def relS (scope sc : Scope) : Scope :=
  { scope with names := scope.names.map fun (n, k) => if (k == .free && sc.kind == .function && sc.names.lookup n == some .cell) then (n, .cell) else (n, k) }

def cloFrom (cells : List (Str × Addr)) : List (Str × NameKind) → List (Str × Addr) → List (Str × Addr)
  | [], acc => acc
  | (n, k) :: r, acc => if k == .free then cloFrom cells r ((n, (cells.lookup n).getD 0) :: acc) else cloFrom cells r acc

theorem closure_loop (env : Env) (f : Str × NameKind → List (Str × Addr) → Sem (ForInStep (List (Str × Addr))))
    (hf : ∀ n k c, f (n, k) c = if k == .free then (do let a ← cellOf env n; pure (.yield ((n, a) :: c))) else pure (.yield c)) :
    ∀ (names : List (Str × NameKind)) (acc : List (Str × Addr)), (∀ y ∈ names, y.2 = .free → ∃ c, env.cells.lookup y.1 = some c) → forIn names acc f = pure (cloFrom env.cells names acc)
  | [], acc, _ => by rw [List.forIn_nil]; rfl
  | (n, k) :: r, acc, h => by
    rw [List.forIn_cons, hf]
    have ih := fun acc => closure_loop env f hf r acc fun y hy => h y (List.mem_cons_of_mem _ hy)
    unfold cloFrom
    by_cases hk : (k == NameKind.free) = true
    · rw [if_pos hk, if_pos hk]
      obtain ⟨c, hc⟩ := h (n, k) List.mem_cons_self (by simpa using hk)
      have e : cellOf env n = pure c := by unfold cellOf; rw [hc]
      rw [e]
      have e2 : (env.cells.lookup n).getD 0 = c := by rw [hc]; rfl
      rw [e2]
      exact ih _
    · rw [if_neg hk, if_neg hk]
      exact ih _
theorem closure_ok {scope : Scope} {env : Env} (h : ∀ y ∈ scope.names, y.2 = .free → ∃ c, env.cells.lookup y.1 = some c) : closureFor scope env = pure (cloFrom env.cells scope.names []) := by
  simp only [closureFor]
  rw [closure_loop env _ (fun n k c => rfl) scope.names [] h]
  rfl

theorem mem_lookup {α : Type} : ∀ {l : List (Str × α)} {n : Str} {c : α}, (n, c) ∈ l → ∃ c', l.lookup n = some c'
  | (k, v) :: r, n, c, h => by
    rw [List.lookup_cons]
    cases hb : n == k with
    | true => exact ⟨_, rfl⟩
    | false =>
      rcases List.mem_cons.mp h with e | h
      · cases e; simp at hb
      · exact mem_lookup h

theorem cloFrom_mem {cells : List (Str × Addr)} : ∀ {names : List (Str × NameKind)} {acc : List (Str × Addr)} {n : Str} {c : Addr}, (n, c) ∈ cloFrom cells names acc → (n, c) ∈ acc ∨ ((n, .free) ∈ names ∧ c = (cells.lookup n).getD 0)
  | [], _, _, _, h => .inl h
  | (m, k) :: r, acc, n, c, h => by
    unfold cloFrom at h
    split at h
    · rename_i hk
      have hk : k = .free := by simpa using hk
      rcases cloFrom_mem h with h | ⟨h1, h2⟩
      · rcases List.mem_cons.mp h with e | h
        · cases e; exact .inr ⟨hk ▸ List.mem_cons_self, rfl⟩
        · exact .inl h
      · exact .inr ⟨List.mem_cons_of_mem _ h1, h2⟩
    · rcases cloFrom_mem h with h | ⟨h1, h2⟩
      · exact .inl h
      · exact .inr ⟨List.mem_cons_of_mem _ h1, h2⟩
theorem cloFrom_acc {cells : List (Str × Addr)} : ∀ {names : List (Str × NameKind)} {acc : List (Str × Addr)} {p : Str × Addr}, p ∈ acc → p ∈ cloFrom cells names acc
  | [], _, _, h => h
  | (m, k) :: r, acc, p, h => by
    unfold cloFrom
    split
    · exact cloFrom_acc (List.mem_cons_of_mem _ h)
    · exact cloFrom_acc h
theorem cloFrom_has {cells : List (Str × Addr)} : ∀ {names : List (Str × NameKind)} {acc : List (Str × Addr)} {n : Str}, (n, .free) ∈ names → (n, (cells.lookup n).getD 0) ∈ cloFrom cells names acc
  | (m, k) :: r, acc, n, h => by
    unfold cloFrom
    rcases List.mem_cons.mp h with e | h
    · cases e
      exact cloFrom_acc List.mem_cons_self
    · split
      · exact cloFrom_has h
      · exact cloFrom_has h

theorem cells_mem : ∀ {names : List (Str × NameKind)} {h : Heap} {acc : List (Str × Addr)} {x : Str} {c : Addr}, (x, c) ∈ cellsFrom h.objs.size names acc →
    (x, c) ∈ acc ∨ ((x, .cell) ∈ names ∧ h.objs.size ≤ c ∧ CellAt (pushCells h names) c none)
  | [], _, _, _, _, h => .inl h
  | (n, k) :: r, h, acc, x, c, hm => by
    unfold cellsFrom at hm
    unfold pushCells
    split at hm
    · rename_i hk
      rw [if_pos hk]
      have hk : k = .cell := by simpa using hk
      rw [← Heap.size_push h { cls := .type "cell", data := .cell none }] at hm
      rcases cells_mem hm with hm | ⟨h1, h2, h3⟩
      · rcases List.mem_cons.mp hm with e | hm
        · cases e
          exact .inr ⟨hk ▸ List.mem_cons_self, Nat.le_refl _, _, pushCells_keeps r _ _ _ (Heap.get?_push_size _ rfl), rfl⟩
        · exact .inl hm
      · rw [Heap.size_push] at h2
        exact .inr ⟨List.mem_cons_of_mem _ h1, Nat.le_of_succ_le h2, h3⟩
    · rename_i hk
      rw [if_neg hk]
      rcases cells_mem hm with hm | ⟨h1, h2, h3⟩
      · exact .inl hm
      · exact .inr ⟨List.mem_cons_of_mem _ h1, h2, h3⟩
theorem cells_acc : ∀ {names : List (Str × NameKind)} {n : Nat} {acc : List (Str × Addr)} {p : Str × Addr}, p ∈ acc → p ∈ cellsFrom n names acc
  | [], _, _, _, h => h
  | (m, k) :: r, n, acc, p, h => by
    unfold cellsFrom
    split
    · exact cells_acc (List.mem_cons_of_mem _ h)
    · exact cells_acc h
theorem cells_has : ∀ {names : List (Str × NameKind)} {n : Nat} {acc : List (Str × Addr)} {x : Str}, (x, .cell) ∈ names → ∃ c, (x, c) ∈ cellsFrom n names acc
  | (m, k) :: r, n, acc, x, h => by
    unfold cellsFrom
    rcases List.mem_cons.mp h with e | h
    · cases e
      exact ⟨n, cells_acc List.mem_cons_self⟩
    · split
      · exact cells_has h
      · exact cells_has h
theorem cells_inj : ∀ {names : List (Str × NameKind)} {h : Heap} {acc : List (Str × Addr)} {x y : Str} {c : Addr}, (∀ p ∈ acc, p.2 < h.objs.size) → (∀ x y c, (x, c) ∈ acc → (y, c) ∈ acc → x = y) →
    (x, c) ∈ cellsFrom h.objs.size names acc → (y, c) ∈ cellsFrom h.objs.size names acc → x = y
  | [], _, _, _, _, _, _, hi, h1, h2 => hi _ _ _ h1 h2
  | (n, k) :: r, h, acc, x, y, c, hl, hi, h1, h2 => by
    unfold cellsFrom at h1 h2
    split at h1
    · rename_i hk
      rw [if_pos hk] at h2
      rw [← Heap.size_push h { cls := .type "cell", data := .cell none }] at h1 h2
      refine cells_inj (h := h.push _) (fun p hp => ?_) (fun x y c a b => ?_) h1 h2
      · rw [Heap.size_push]
        rcases List.mem_cons.mp hp with rfl | hp
        · exact Nat.lt_succ_self _
        · exact Nat.lt_succ_of_lt (hl p hp)
      · rcases List.mem_cons.mp a with e | a <;> rcases List.mem_cons.mp b with e' | b
        · cases e; cases e'; rfl
        · cases e; exact absurd (hl _ b) (Nat.lt_irrefl _)
        · cases e'; exact absurd (hl _ a) (Nat.lt_irrefl _)
        · exact hi _ _ _ a b
    · rename_i hk
      rw [if_neg hk] at h2
      exact cells_inj hl hi h1 h2

theorem newEnv_comp {M : Model} {A : Around} {E : Value → Shared → Prop} {s : Shared} {scope : Scope} {globals : Addr} {closure : List (Str × Addr)} {qual : Str} {func : Option Addr} {code : Value} {around : Env} {builtins : Addr} {Q : Env → Shared → Prop}
    (h : Q (newEnv scope s.heap.objs.size globals (cellsFrom (s.heap.objs.size + 1) scope.names closure) qual func code (some around) builtins)
      { s with heap := pushCells (s.heap.push { cls := .type "dict", data := .dict #[] }) scope.names }) :
    wpAny M A (newFunctionEnv scope globals closure [] qual func code (some around) builtins) Q E s := by
  simp only [newFunctionEnv, Option.isSome_some, if_true]
  refine wpAny_bind (wpAny_alloc ?_)
  refine wpAny_bind (wpAny_layCells _ (fun n k c => rfl) scope.names closure _ _ ?_)
  rw [show ({ s with heap := s.heap.push { cls := .type "dict", data := .dict #[] } } : Shared).heap.objs.size = s.heap.objs.size + 1 from Heap.size_push ..]
  rw [List.forIn_nil]
  exact wpAny_bind (wpAny_pure (wpAny_pure h))

/-- every name of the written scope, in the scope that runs -/
theorem lookup_relS {sc : Scope} : ∀ {names : List (Str × NameKind)} {x : Str} {k : NameKind},
    (names.map fun (n, k) => if (k == NameKind.free && sc.kind == .function && sc.names.lookup n == some .cell) then (n, NameKind.cell) else (n, k)).lookup x = some k →
    ∃ k', names.lookup x = some k' ∧ (k = k' ∨ (k' = .free ∧ k = .cell))
  | [], _, _, h => by simp at h
  | (n, k₀) :: r, x, k, h => by
    have ih := @lookup_relS sc r x k
    have h' : List.lookup x ((if (k₀ == NameKind.free && sc.kind == .function && sc.names.lookup n == some .cell) = true then (n, NameKind.cell) else (n, k₀)) :: (r.map _)) = some k := h
    cases hx : x == n with
    | true =>
      simp only [List.lookup_cons, hx]
      by_cases hc : (k₀ == NameKind.free && sc.kind == .function && sc.names.lookup n == some .cell) = true
      · rw [if_pos hc] at h'
        simp only [List.lookup_cons, hx] at h'
        cases h'
        simp only [Bool.and_eq_true, beq_iff_eq] at hc
        exact ⟨k₀, rfl, .inr ⟨hc.1.1, rfl⟩⟩
      · rw [if_neg hc] at h'
        simp only [List.lookup_cons, hx] at h'
        cases h'
        exact ⟨_, rfl, .inl rfl⟩
    | false =>
      simp only [List.lookup_cons, hx]
      by_cases hc : (k₀ == NameKind.free && sc.kind == .function && sc.names.lookup n == some .cell) = true
      · rw [if_pos hc] at h'
        simp only [List.lookup_cons, hx] at h'
        exact ih h'
      · rw [if_neg hc] at h'
        simp only [List.lookup_cons, hx] at h'
        exact ih h'
/-- the names of a comprehension's block: its own (with their places in N), or captured -/
structure BlkOk (N : List Str) (sc scope : Scope) (own : List (Str × Nat)) : Prop where
  kind : scope.kind = .function
  uniq : ∀ y ∈ scope.names, scope.names.lookup y.1 = some y.2
  ix : ∀ p ∈ own, N[p.2]? = some p.1
  free : ∀ y ∈ scope.names, y.2 = .free → sc.names.lookup y.1 = some .cell ∨ sc.names.lookup y.1 = some .free
  own : ∀ y ∈ scope.names, y.2 = .local ∨ y.2 = .cell → y.1 ∈ own.map (·.1) ∨ y.1 ∉ N
/-- the slots of the block's own names forgotten -/
def wipe (σ : St) : List Nat → St
  | [] => σ
  | v :: vs => (wipe σ vs).set v none
theorem wipe_length (σ : St) : ∀ vs : List Nat, (wipe σ vs).length = σ.length
  | [] => rfl
  | v :: vs => by unfold wipe; rw [List.length_set, wipe_length σ vs]
theorem wipe_some {σ : St} {i : Nat} {x : V} : ∀ {vs : List Nat}, (wipe σ vs)[i]? = some (some x) → σ[i]? = some (some x) ∧ i ∉ vs
  | [], h => ⟨h, by simp⟩
  | v :: vs, h => by
    unfold wipe at h
    by_cases hi : v = i
    · subst hi
      by_cases hv : v < (wipe σ vs).length
      · rw [List.getElem?_set_self hv] at h; cases h
      · rw [List.getElem?_eq_none (by simpa using hv)] at h; cases h
    · rw [List.getElem?_set_ne hi] at h
      obtain ⟨h1, h2⟩ := wipe_some h
      exact ⟨h1, by simp only [List.mem_cons, not_or]; exact ⟨fun e => hi e.symm, h2⟩⟩

/-- the context of a block that starts at s, its iterator's objects at fp -/
abbrev Cx.blk (X : Cx) (s : Shared) (H : Hp) (scope : Scope) (cenv : Env) (fp : List Addr) : Cx := { X with s_0 := s, H_0 := H, env := cenv, outer := X.stack, ex := fp, fn := fun x => scope.names.lookup x == some .cell, pn := [], xe := fun _ _ => False }
section
variable {X : Cx} {pins : List (Addr × Obj)} {σ : St} {H : Hp} {s : Shared}
theorem block_start {scope : Scope} {own : List (Str × Nat)} {fp : List Addr} (I : Inv X pins σ H s) (ok : BlkOk X.N X.env.scope scope own) (hN : X.N.Nodup) (hfp : ∀ b ∈ fp, FpOk X pins H b ∧ b < s.heap.objs.size) :
    Inv (X.blk s H scope (compEnvC scope (cellsFrom (s.heap.objs.size + 1) scope.names (cloFrom X.env.cells scope.names [])) s.heap.objs.size X.env) fp) [] (wipe σ (own.map (·.2))) H { s with heap := pushCells (s.heap.push { cls := .type "dict", data := .dict #[] }) scope.names } := by
  have hfree : ∀ y ∈ scope.names, y.2 = .free → ∃ c, X.env.cells.lookup y.1 = some c := fun y hy e => by
    rcases ok.free y hy e with k | k
    · exact I.ok.has _ (.inl k)
    · exact I.ok.has _ (.inr k)
  generalize hcenv : compEnvC scope (cellsFrom (s.heap.objs.size + 1) scope.names (cloFrom X.env.cells scope.names [])) s.heap.objs.size X.env = cenv
  have kp : ∀ b o, s.heap.get? b = some o → (pushCells (s.heap.push { cls := .type "dict", data := .dict #[] }) scope.names).get? b = some o := fun b o e => pushCells_keeps _ _ _ _ (Heap.get?_push_of_some _ e)
  have hL : cenv.locals = s.heap.objs.size := by rw [← hcenv]; rfl
  have hcl : cenv.cells = cellsFrom (s.heap.objs.size + 1) scope.names (cloFrom X.env.cells scope.names []) := by rw [← hcenv]; rfl
  have hsc : cenv.scope = relS scope X.env.scope := by rw [← hcenv]; rfl
  rw [← Heap.size_push s.heap { cls := .type "dict", data := .dict #[] }] at hcl
  have cm : ∀ {y c}, (y, c) ∈ cloFrom X.env.cells scope.names [] → X.env.cells.lookup y = some c ∧ c < s.heap.objs.size := fun {y c} hm => by
    rcases cloFrom_mem hm with hm | ⟨h1, rfl⟩
    · cases hm
    · obtain ⟨c, hc⟩ := hfree _ h1 rfl
      rw [hc]
      obtain ⟨w, z⟩ := I.cell _ _ hc
      exact ⟨rfl, z.lt⟩
  have mem : ∀ {y c}, cenv.cells.lookup y = some c → (X.env.cells.lookup y = some c ∧ c < s.heap.objs.size) ∨ (s.heap.objs.size + 1 ≤ c ∧ CellAt (pushCells (s.heap.push { cls := .type "dict", data := .dict #[] }) scope.names) c none) := fun {y c} e => by
    rw [hcl] at e
    rcases cells_mem (PySem.mem_of_lookup e) with hm | ⟨_, h2, h3⟩
    · exact .inl (cm hm)
    · rw [Heap.size_push] at h2; exact .inr ⟨h2, h3⟩
  have look : ∀ {y}, scope.names.lookup y = some .free → ∃ c, cenv.cells.lookup y = some c ∧ X.env.cells.lookup y = some c := fun {y} hl => by
    have hy : (y, NameKind.free) ∈ scope.names := PySem.mem_of_lookup hl
    obtain ⟨c', e'⟩ := mem_lookup (cells_acc (names := scope.names) (n := (s.heap.push { cls := .type "dict", data := .dict #[] }).objs.size) (cloFrom_has (cells := X.env.cells) (acc := []) hy))
    rw [← hcl] at e'
    refine ⟨c', e', ?_⟩
    rw [hcl] at e'
    rcases cells_mem (PySem.mem_of_lookup e') with hm | ⟨h1, _, _⟩
    · exact (cm hm).1
    · have := ok.uniq _ h1
      rw [hl] at this; cases this
  have okB : (X.blk s H scope cenv fp).Ok := by
    refine ⟨I.ok.mod, by show cenv.scope.kind = _; rw [hsc]; exact ok.kind, by show cenv.globals = _; rw [← hcenv]; exact I.ok.glob, by show cenv.builtins = _; rw [← hcenv]; exact I.ok.blt, by show s.heap.objs.size ≤ cenv.locals; rw [hL]; exact Nat.le_refl _,
      fun y z c e1 e2 => ?_, fun y hy => ?_, fun y c z e => ?_, I.ok.hd, I.ok.frames, .inl rfl, fun b hb => ⟨?_, fun y c e z => ?_⟩, I.bs, Nat.le_trans I.ok.bsz I.sz, fun b o e hb => ?_, fun b hb z => ?_, I.stack, I.stkFree⟩
    · have e1 : cenv.cells.lookup y = some c := e1
      have e2 : cenv.cells.lookup z = some c := e2
      rw [hcl] at e1 e2
      refine cells_inj (fun p hp => ?_) (fun y z c a b => I.ok.inj y z c (cm a).1 (cm b).1) (PySem.mem_of_lookup e1) (PySem.mem_of_lookup e2)
      rw [Heap.size_push]
      exact Nat.lt_succ_of_lt (cm (y := p.1) (c := p.2) hp).2
    · show ∃ c, cenv.cells.lookup y = some c
      have key : ∀ k, cenv.kindOf y = some k → (k = .cell ∨ k = .free) → ∃ c, cenv.cells.lookup y = some c := fun k hk hk' => by
        unfold Env.kindOf at hk
        rw [hsc] at hk
        obtain ⟨k', e, r⟩ := lookup_relS hk
        have : k' = .cell ∨ k' = .free := by
          rcases r with rfl | ⟨rfl, _⟩
          · exact hk'
          · exact .inr rfl
        rcases this with rfl | rfl
        · obtain ⟨c, hm⟩ := cells_has (n := (s.heap.push { cls := .type "dict", data := .dict #[] }).objs.size) (acc := cloFrom X.env.cells scope.names []) (PySem.mem_of_lookup e)
          obtain ⟨c', e'⟩ := mem_lookup hm
          exact ⟨c', by rw [hcl]; exact e'⟩
        · obtain ⟨c, h1, _⟩ := look e
          exact ⟨c, h1⟩
      rcases hy with hy | hy
      · exact key _ hy (.inl rfl)
      · exact key _ hy (.inr rfl)
    · have z : (scope.names.lookup y == some NameKind.cell) = true := z
      have z : scope.names.lookup y = some .cell := by simpa using z
      have e : cenv.cells.lookup y = some c := e
      rw [hcl] at e
      rcases cells_mem (PySem.mem_of_lookup e) with hm | ⟨_, h2, _⟩
      · rcases cloFrom_mem hm with hm | ⟨h1, _⟩
        · cases hm
        · have q := ok.uniq _ h1
          rw [z] at q; cases q
      · rw [Heap.size_push] at h2
        exact Nat.le_of_succ_le h2
    · show b ≠ cenv.locals
      rw [hL]; exact Nat.ne_of_lt (hfp b hb).2
    · have e : cenv.cells.lookup y = some c := e
      rcases mem e with ⟨h1, _⟩ | ⟨h1, _⟩
      · exact (hfp b hb).1.2.2.2.2.1 y c h1 z
      · have h2 : s.heap.objs.size + 1 ≤ b := by rw [← z]; exact h1
        exact absurd (Nat.lt_of_lt_of_le (hfp b hb).2 (Nat.le_of_succ_le h2)) (Nat.lt_irrefl _)
    · rcases (hfp b hb).1.2.2.2.1 with z | z
      · exact I.ok.noex b o e z
      · exact absurd (Nat.lt_of_lt_of_le (Heap.lt_size e) (Nat.le_trans I.ok.bsz z)) (Nat.lt_irrefl _)
    · rcases List.mem_cons.mp (I.stkSub b z) with z | z
      · exact (hfp b hb).1.2.1 z
      · exact (hfp b hb).1.2.2.1 z
  refine ⟨okB, rfl, I.bare, Un.kept kp, ⟨fun _ => none, ?_, fun i y av e1 e2 e3 => ?_⟩, fun y c e => ?_, ?_, fun y c e => ?_, fun p hp => ?_, I.hok.kept kp, by rw [wipe_length]; exact I.len⟩
  · show Heap.Ns _ cenv.locals _
    rw [hL]
    exact Heap.Ns.keeps (Heap.Ns.new ..) fun b o e => pushCells_keeps _ _ _ _ e
  · obtain ⟨e2, hne⟩ := wipe_some e2
    have hfr : scope.names.lookup y = some .free ∧ (cenv.kindOf y = some .cell ∨ cenv.kindOf y = some .free) := by
      have key : ∀ k, cenv.scope.names.lookup y = some k → k = .local ∨ k = .cell ∨ k = .free → scope.names.lookup y = some .free ∧ (cenv.kindOf y = some .cell ∨ cenv.kindOf y = some .free) := fun k hk hk' => by
        have hk0 := hk
        rw [hsc] at hk
        obtain ⟨k', e, r⟩ := lookup_relS hk
        have no : ¬ (k' = .local ∨ k' = .cell) := fun hh => by
          rcases ok.own _ (PySem.mem_of_lookup e) hh with e' | e'
          · obtain ⟨p, hp, hpy⟩ := List.mem_map.mp e'
            have e3 := ok.ix p hp
            have : p.1 = y := hpy
            rw [this] at e3
            exact hne (List.mem_map.mpr ⟨p, hp, nodup_ix hN e3 e1⟩)
          · exact e' (List.mem_of_getElem? e1)
        rcases r with rfl | ⟨rfl, rfl⟩
        · rcases hk' with rfl | rfl | rfl
          · exact absurd (.inl rfl) no
          · exact absurd (.inr rfl) no
          · exact ⟨e, .inr hk0⟩
        · exact ⟨e, .inl hk0⟩
      have e3 : Vis cenv.scope y := e3
      rcases e3 with e3 | e3 | e3
      · exact key _ e3 (.inl rfl)
      · exact key _ e3 (.inr (.inl rfl))
      · exact key _ e3 (.inr (.inr rfl))
    obtain ⟨m, hn, hl⟩ := I.loc
    have hvis : Vis X.env.scope y := (ok.free _ (PySem.mem_of_lookup hfr.1) rfl).elim (fun k => .inr (.inl k)) (fun k => .inr (.inr k))
    obtain ⟨w, r, q⟩ := hl i y av e1 e2 hvis
    refine ⟨w, r, .inr ⟨hfr.2, ?_⟩⟩
    obtain ⟨c, h1, h2⟩ := look hfr.1
    rcases q with ⟨k, _⟩ | ⟨_, c', e', z⟩
    · have k : X.env.scope.names.lookup y = some .local := k
      rcases ok.free _ (PySem.mem_of_lookup hfr.1) rfl with k' | k' <;> rw [show X.env.scope.names.lookup y = _ from k'] at k <;> cases k
    · rw [h2] at e'; cases e'
      exact ⟨c, h1, z.keeps kp⟩
  · have e : cenv.cells.lookup y = some c := e
    rcases mem e with ⟨h1, _⟩ | ⟨_, z⟩
    · obtain ⟨w, z⟩ := I.cell y c h1
      exact ⟨w, z.keeps kp⟩
    · exact ⟨_, z⟩
  · show H cenv.locals = none
    rw [hL]; exact I.hok.fresh (Nat.le_refl _)
  · have e : cenv.cells.lookup y = some c := e
    rcases mem e with ⟨h1, _⟩ | ⟨h1, _⟩
    · exact I.freeC y c h1
    · exact I.hok.fresh (Nat.le_of_succ_le h1)
  · exact absurd (show p ∈ ([] : List (Addr × Obj)) ++ [] from hp) (by simp)

/-- an item appended to a tracked list -/
theorem app_ok {E : Value → Shared → Prop} {D : Addr} {xs : List V} {y : V} {v : Value} {Q : Value → Shared → Prop} (I : Inv X pins σ H s) (hD : H D = some (.lst xs)) (hz : xs.length < sizeLine) (r : RelV y v)
    (h : ∀ s', Inv X pins σ (upd H D (.lst (xs ++ [y]))) s' → Q .none s') : wpAny (model X.prog X.w) X.A (call (.builtin "list.append") [.ref D, v]) Q E s := by
  obtain ⟨hz', its, n, ri, e⟩ := I.hok D _ hD
  have hl := ri.length
  refine append_at (hsz := by rw [List.size_toArray]; omega) e fun h' sb ho' => ?_
  refine h { s with heap := h' } (I.write (t' := s.toks) (by rw [hD]; trivial) (.inl rfl) (fun b u hb q => (sb.2 b hb).trans q) ⟨_, ho'⟩ ⟨by rw [List.length_append]; exact hz, its ++ [v], n + 1, ri.append (.cons r .nil), ?_⟩)
  rw [ho']
  simp

/-- a clause's tests -/
def PTs (X : Cx) (ifs : List Expr) (t : TT) : Prop :=
  ∀ (pins : List (Addr × Obj)) (s : Shared) (σ : St) (H : Hp) (Q : Bool → Hp → Prop), Inv X pins σ H s → t σ H Q →
    wpAny (model X.prog X.w) X.A (forIn ifs true fun c r => if r = true then do let ok ← isTrue c X.env (eval c X.env); pure (ForInStep.yield ok) else pure (ForInStep.yield r)) (TP X pins σ Q) X.xe s
def tYes : TT := fun _ H Q => Q true H
theorem pts_nil : PTs X [] tYes := fun _ _ _ H _ I h => wpAny_tests_nil ⟨H, I, h⟩
theorem pts_one {c : Expr} {t : TT} (h : PT X c t) : PTs X [c] t := fun pins s σ H Q I hw => wpAny_tests_one (h pins s σ H Q I hw)
end

theorem thnF {α : Type} {t : Sem α} {Q Q' : α → Shared → Prop} {M : Model} {A : Around} {E : Value → Shared → Prop} {s : Shared} (h : wpAny M A t Q (fun _ _ => False) s) (hQ : ∀ a s, Q a s → Q' a s) : wpAny M A t Q' E s := wpAny_mono h hQ fun _ _ z => False.elim z

/-- the loop of a list comprehension's block, the target of any form (codeAny_compLoop_tests asks a target that no tuple goes to; statement and proof follow it, PyProof/CompMap.lean:41-61, with the step letOwnedTupleGo kept) -/
theorem compLoop_any {prog : Program} {w : World} {A : Around} {R : Result → Shared → Prop} {s : Shared} {elt target iter : Expr} {ifs : List Expr} {scope : Scope} {pos : Pos} {it acc : Value} {env : Env} (I : Nat → Shared → Prop)
    (turn : ∀ n s, I n s → wpAny (model prog w) A (pyNext it) (fun r s₁ => match r with
      | none => R (.ok .next) s₁
      | some v => wpAny (model prog w) A (letOwnedTupleGo target it v) (fun _ s₁' => wpAny (model prog w) A (assign target env v) (fun _ s₂ =>
          wpAny (model prog w) A (forIn ifs true fun c r => if r = true then do let ok ← isTrue c env (eval c env); pure (ForInStep.yield ok) else pure (ForInStep.yield r)) (fun ok s₃ =>
            if ok = true then wpAny (model prog w) A (eval elt env) (fun x s₄ =>
              wpAny (model prog w) A (call (.builtin "list.append") [acc, x]) (fun _ s₅ => ∃ m, m < n ∧ I m s₅) (notedBy (model prog w) A env fun e s' => R (.error e) s') s₄) (notedBy (model prog w) A env fun e s' => R (.error e) s') s₃
            else ∃ m, m < n ∧ I m s₃) (notedBy (model prog w) A env fun e s' => R (.error e) s') s₂) (notedBy (model prog w) A env fun e s' => R (.error e) s') s₁') (notedBy (model prog w) A env fun e s' => R (.error e) s') s₁) (notedBy (model prog w) A env fun e s' => R (.error e) s') s)
    (n : Nat) (h : I n s) :
    codeAny (model prog w) A (.compLoop (.ListComp elt [⟨target, iter, ifs, 0⟩] scope pos) 0 it acc env) R s := by
  refine codeAny_loop rfl I (fun n s hI => ?_) n h
  show wpAny _ A ((compTurn (.ListComp elt [⟨target, iter, ifs, 0⟩] scope pos) 0 it acc env).onRaise (fun x => do noteFrame x env; theTreesLotGoes x)) _ _ s
  refine wpAny_noted ?_
  rw [compTurn_list]
  refine wpAny_bind (wpAny_standAt (wpAny_bind (wpAny_mono (turn n s hI) (fun r s₁ h₁ => ?_) fun _ _ h' => h')))
  cases r with
  | none => exact wpAny_pure h₁
  | some v =>
    refine wpAny_bind (wpAny_mono h₁ (fun _ s₁' h₁' => ?_) fun _ _ h' => h')
    refine wpAny_bind (wpAny_mono h₁' (fun _ s₂ h₂ => wpAny_bind (wpAny_mono h₂ (fun ok s₃ h₃ => ?_) fun _ _ h' => h')) fun _ _ h' => h')
    cases ok with
    | false => exact wpAny_pure ⟨rfl, h₃⟩
    | true =>
      exact wpAny_bind (wpAny_bind (wpAny_mono h₃ (fun x s₄ h₄ => wpAny_bind (wpAny_mono h₄ (fun _ s₅ h₅ => wpAny_pure (wpAny_pure ⟨rfl, h₅⟩)) fun _ _ h' => h')) fun _ _ h' => h'))

section
variable {X : Cx}
/-- [elt for target in iter if ..]: D the new list; W by the turn and a measure, Nx what a turn is to reach -/
def tLc (wi : TI) (g : TG) (tt : TT) (te : TE) (vs : List Nat) : TE := fun σ H Q => wi σ H fun J H1 => ∀ D, H1 D = none → ∃ W : Nat → Nat → Hp → Prop, (∃ m, W 0 m (upd H1 D (.lst []))) ∧ ∀ i m H, W i m H →
  (J.stop i H ∧ Q (.ref D) H) ∨ (J.go i H ∧ ∃ Nx : Hp → Prop, (∀ H', Nx H' → ∃ m', m' < m ∧ W (i + 1) m' H') ∧ ∀ x H', J.yld i H x H' → g x (wipe σ vs) H' fun σ2 H2 => wipe σ2 vs = wipe σ vs ∧ tt σ2 H2 fun b H3 =>
    if b = true then te σ2 H3 fun y H4 => ∃ acc, H4 D = some (.lst acc) ∧ acc.length < sizeLine ∧ Nx (upd H4 D (.lst (acc ++ [y]))) else Nx H3)
theorem lc_core {pins : List (Addr × Obj)} {s : Shared} {σ : St} {H : Hp} {Q : VK} {elt tg iter : Expr} {ifs : List Expr} {scope : Scope} {own : List (Str × Nat)} {pos pos' : Pos} {wi : TI} {g : TG} {tt : TT} {te : TE} {use : Option (Value → Sem Unit)} {Qf : Value → Shared → Prop}
    (hc : X.calm = true) (hN : X.N.Nodup) (I : Inv X pins σ H s) (hi : PI X tg iter wi) (ok : BlkOk X.N X.env.scope scope own)
    (hg : ∀ (s : Shared) (H : Hp) (C : Addr) (cl : List (Str × Addr)) (fp : List Addr), PG (X.blk s H scope (compEnvC scope cl C X.env) fp) tg g) (ht : ∀ (s : Shared) (H : Hp) (C : Addr) (cl : List (Str × Addr)) (fp : List Addr), PTs (X.blk s H scope (compEnvC scope cl C X.env) fp) ifs tt)
    (he : ∀ (s : Shared) (H : Hp) (C : Addr) (cl : List (Str × Addr)) (fp : List Addr), PE (X.blk s H scope (compEnvC scope cl C X.env) fp) elt te) (hs : ∀ x, foldedSetIterable iter X.env x = pure x)
    (h : tLc wi g tt te (own.map (·.2)) σ H Q)
    (hRR : ∀ D C s' m H', Inv X pins σ H' s' → Q (.ref D) H' → s'.heap.Ns C m → FpOk X pins H' C → compPost (model X.prog X.w) X.A X.xe use Qf (.ref D) C (.ok .next) s') :
    wpAny (model X.prog X.w) X.A (comprehension (.ListComp elt [⟨tg, iter, ifs, 0⟩] scope pos) scope X.env pos' (newList []) false (eval iter X.env) use) Qf X.xe s := by
  have hfree : ∀ y ∈ scope.names, y.2 = .free → ∃ c, X.env.cells.lookup y.1 = some c := fun y hy e => by
    rcases ok.free y hy e with k | k
    · exact I.ok.has _ (.inl k)
    · exact I.ok.has _ (.inr k)
  refine wpAny_comprehension_free (use := use) rfl hs (closure_ok hfree) ok.kind (fun y hy e => by rw [ok.uniq y hy, e])
    (thn (hi pins s σ H _ I h) fun xv s1 hx => thn hx fun itv s2 h2 => ?_)
  obtain ⟨it, fp, tn, J, H2, e, I2, T, st2, f2, q⟩ := h2
  subst e
  refine wpAny_newObj_type (newEnv_comp ?_) (by show 0 ≤ sizeLine; decide)
  generalize hD : s2.heap.objs.size = D
  have hDn : H2 D = none := I2.hok.fresh (Nat.le_of_eq hD)
  obtain ⟨W, ⟨m0, w0⟩, turn⟩ := q D hDn
  -- the new list
  generalize hs3 : ({ s2 with heap := s2.heap.push { cls := .type "list", data := .seq ([] : List Value).toArray } } : Shared) = s3
  have I3 : Inv X pins σ (upd H2 D (.lst [])) s3 := by
    rw [← hs3]
    refine I2.laid (t' := s2.toks) (fun b o e => Heap.get?_push_of_some _ e) (Nat.le_of_eq hD) ⟨Nat.zero_le _, [], 0, .nil, ?_⟩
    rw [← hD]
    exact Heap.get?_push_size _ rfl
  have h3 : s3.heap = s2.heap.push { cls := .type "list", data := .seq ([] : List Value).toArray } := by rw [← hs3]
  have sz : ∀ b ∈ fp, b < s2.heap.objs.size := fun b hb => by
    obtain ⟨o, e, _⟩ := T.obj _ _ st2 b hb
    exact Heap.lt_size e
  have f3 : ∀ b ∈ fp, FpOk X pins (upd H2 D (.lst [])) b ∧ b < s3.heap.objs.size := fun b hb => by
    have hlt := sz b hb
    refine ⟨⟨?_, (f2 b hb).2⟩, by rw [h3, Heap.size_push]; exact Nat.lt_succ_of_lt hlt⟩
    rw [upd_ne (by rw [← hD]; exact Nat.ne_of_lt hlt)]
    exact (f2 b hb).1
  have st3 : tn 0 s3.heap := T.keep _ _ _ st2 fun b _ o e => by rw [h3]; exact Heap.get?_push_of_some _ e
  have I4 := block_start I3 ok hN f3
  have pg := hg s3 (upd H2 D (.lst [])) s3.heap.objs.size (cellsFrom (s3.heap.objs.size + 1) scope.names (cloFrom X.env.cells scope.names [])) fp
  have pt := ht s3 (upd H2 D (.lst [])) s3.heap.objs.size (cellsFrom (s3.heap.objs.size + 1) scope.names (cloFrom X.env.cells scope.names [])) fp
  have pe := he s3 (upd H2 D (.lst [])) s3.heap.objs.size (cellsFrom (s3.heap.objs.size + 1) scope.names (cloFrom X.env.cells scope.names [])) fp
  show codeAny _ _ (.compStart (.ListComp elt [⟨tg, iter, ifs, 0⟩] scope pos) 0 (.ref it) (.ref D) (compEnvC scope (cellsFrom (s3.heap.objs.size + 1) scope.names (cloFrom X.env.cells scope.names [])) s3.heap.objs.size X.env)) (compPost (model X.prog X.w) X.A X.xe use Qf (.ref D) s3.heap.objs.size) { s3 with heap := pushCells (s3.heap.push { cls := .type "dict", data := .dict #[] }) scope.names }
  have nfp : ∀ b ∈ fp, (upd H2 D (.lst [])) b = none := fun b hb => (f3 b hb).1.1
  generalize hce : compEnvC scope (cellsFrom (s3.heap.objs.size + 1) scope.names (cloFrom X.env.cells scope.names [])) s3.heap.objs.size X.env = ce at I4 pg pt pe ⊢
  have cL : ce.locals = s3.heap.objs.size := by subst hce; rfl
  generalize hH3 : upd H2 D (.lst []) = H3 at I3 I4 pg pt pe w0 nfp f3
  generalize hs4 : ({ s3 with heap := pushCells (s3.heap.push { cls := .type "dict", data := .dict #[] }) scope.names } : Shared) = s4 at I4 ⊢
  have st4 : tn 0 s4.heap := T.keep _ _ _ st3 fun b _ o e => by rw [← hs4]; exact pushCells_keeps _ _ _ _ (Heap.get?_push_of_some _ e)
  have stat : ∀ {σ' : St} {H' : Hp} {s' : Shared}, Inv (X.blk s3 H3 scope ce fp) [] σ' H' s' → (∀ b ∈ fp, H' b = none) → ∀ b ∈ fp, FpOk (X.blk s3 H3 scope ce fp) [] H' b := fun {σ' H' s'} I' hn b hb =>
    ⟨hn b hb, (I'.ok.exf b hb).1, I'.ok.exfs b hb, .inl hb, fun x c e => (I'.ok.exf b hb).2 x c e, fun p hp => absurd (show p ∈ ([] : List (Addr × Obj)) ++ [] from hp) (by simp)⟩
  have loop : codeAny (model X.prog X.w) X.A (.compLoop (.ListComp elt [⟨tg, iter, ifs, 0⟩] scope pos) 0 (.ref it) (.ref D) ce) (compPost (model X.prog X.w) X.A X.xe use Qf (.ref D) s3.heap.objs.size) s4 := by
    refine compLoop_any (fun n s' => ∃ i H', Inv (X.blk s3 H3 scope ce fp) [] (wipe σ (own.map (·.2))) H' s' ∧ tn i s'.heap ∧ (∀ b ∈ fp, H' b = none) ∧ W i n H') ?_ m0 ⟨0, H3, I4, st4, nfp, w0⟩
    rintro n s5 ⟨i, H5, I5, st5, n5, w5⟩
    rcases turn i n H5 w5 with ⟨stop, qq⟩ | ⟨go, Nx, hNx, step⟩
    · have td := T.done (X.blk s3 H3 scope ce fp) rfl rfl rfl hc i [] s5 _ H5 (fun _ _ => False) I5 (stat I5 n5) st5 stop
      refine thnF td fun r s6 ⟨hr, I6⟩ => ?_
      subst hr
      -- back in the def's context
      have I7 : Inv X pins σ H5 s6 := I3.call' (ch := fp) I6.os I6.base I6.hok I6.bare fun b hb => ⟨(f3 b hb).1.2.2.2.1, (f3 b hb).1.2.1, (f3 b hb).1.2.2.2.2.1, (f3 b hb).1.2.2.2.2.2⟩
      have nC : H5 s3.heap.objs.size = none := by
        have z : H5 ce.locals = none := I6.free
        rw [cL] at z
        exact z
      obtain ⟨m, hn, _⟩ := I6.loc
      have hn : s6.heap.Ns ce.locals m := hn
      rw [cL] at hn
      exact hRR D s3.heap.objs.size s6 m H5 I7 qq hn (I3.fpOk (Nat.le_refl _) nC)
    · have ti := T.item (X.blk s3 H3 scope ce fp) rfl rfl rfl hc i [] s5 _ H5 (fun _ _ => False) I5 (stat I5 n5) st5 go
      refine thnF ti fun r s6 ⟨u, hr, h6⟩ => ?_
      subst hr
      refine thnF h6 fun _ s7 ⟨x, H7, I7, r7, y7, st7, n7⟩ => ?_
      have I7' := I7.pinned (stat I7 n7) (T.obj _ _ st7)
      refine thnF (pg _ s7 _ H7 x u _ I7' r7 (step x H7 y7)) fun _ s8 ⟨σ8, H8, I8, hw8, q8⟩ => ?_
      refine thnF (pt _ s8 σ8 H8 _ I8 q8) fun b s9 ⟨H9, I9, q9⟩ => ?_
      -- the turn's end
      have fin : ∀ {s' : Shared} {H' : Hp}, Inv (X.blk s3 H3 scope ce fp) ([] ++ pinsAt fp s7.heap) σ8 H' s' → Nx H' → ∃ m, m < n ∧ ∃ i H', Inv (X.blk s3 H3 scope ce fp) [] (wipe σ (own.map (·.2))) H' s' ∧ tn i s'.heap ∧ (∀ b ∈ fp, H' b = none) ∧ W i m H' := fun {s' H'} I' nx => by
        obtain ⟨m', hm, w'⟩ := hNx H' nx
        have pin' : ∀ b ∈ fp, ∀ o, s7.heap.get? b = some o → s'.heap.get? b = some o ∧ H' b = none := fun b hb o e =>
          let z := I'.pin (b, o) (List.mem_append_right _ (List.mem_append_right _ (mem_pinsAt hb e)))
          ⟨z.1, z.2.1⟩
        have hl : (wipe σ (own.map (·.2))).length = σ8.length := by rw [← hw8, wipe_length]
        refine ⟨m', hm, i + 1, H', (I'.unpinned (pins := [])).weak hl (fun j v e => ?_), T.keep _ _ _ st7 fun b hb o e => (pin' b hb o e).1, fun b hb => ?_, w'⟩
        · rw [← hw8] at e
          exact (wipe_some e).1
        · obtain ⟨o, e, _⟩ := T.obj _ _ st7 b hb
          exact (pin' b hb o e).2
      cases b with
      | false =>
        simp only [Bool.false_eq_true, if_false] at q9 ⊢
        exact fin I9 q9
      | true =>
        simp only [if_true] at q9 ⊢
        refine thnF (pe _ s9 σ8 H9 _ I9 q9) fun z s10 ⟨yv, H10, I10, r10, acc, hD10, hz10, nx⟩ => ?_
        exact app_ok (X := X.blk s3 H3 scope ce fp) I10 hD10 hz10 r10 fun s11 I11 => fin I11 nx
  exact codeAny_compStart_list loop (T.self X.A 0 _ _ _ st4 loop)
/-- as a value -/
theorem pe_lc {elt tg iter : Expr} {ifs : List Expr} {scope : Scope} {own : List (Str × Nat)} {pos : Pos} {wi : TI} {g : TG} {tt : TT} {te : TE} (hc : X.calm = true) (hN : X.N.Nodup) (hi : PI X tg iter wi) (ok : BlkOk X.N X.env.scope scope own)
    (hg : ∀ (s : Shared) (H : Hp) (C : Addr) (cl : List (Str × Addr)) (fp : List Addr), PG (X.blk s H scope (compEnvC scope cl C X.env) fp) tg g) (ht : ∀ (s : Shared) (H : Hp) (C : Addr) (cl : List (Str × Addr)) (fp : List Addr), PTs (X.blk s H scope (compEnvC scope cl C X.env) fp) ifs tt)
    (he : ∀ (s : Shared) (H : Hp) (C : Addr) (cl : List (Str × Addr)) (fp : List Addr), PE (X.blk s H scope (compEnvC scope cl C X.env) fp) elt te) (hs : ∀ x, foldedSetIterable iter X.env x = pure x := by intro _; rfl) :
    PE X (.ListComp elt [⟨tg, iter, ifs, 0⟩] scope pos) (tLc wi g tt te (own.map (·.2))) := by
  intro pins s σ H Q I h
  rw [eval_ListComp]
  refine lc_core hc hN I hi ok hg ht he hs h fun D C s' m H' I' q hn f => ⟨m, hn, fun h'' sb => ?_⟩
  obtain ⟨f0, f1, f2, f3, f4, f5⟩ := f
  exact ⟨.ref D, H', I'.turned (t' := s'.toks) (fun b o hb e => (sb.2 b hb).trans e) f0 f1 f3 f4 f5, rfl, q⟩
/-- name = [..] on one line, the name a local -/
theorem ps_setLc {i : Nat} {y : Str} {py : Pos} {elt tg iter : Expr} {ifs : List Expr} {scope : Scope} {own : List (Str × Nat)} {pos spos : Pos} {wi : TI} {g : TG} {tt : TT} {te : TE} (hc : X.calm = true) (hN : X.N.Nodup) (hy : X.N[i]? = some y) (hyl : X.env.scope.names.lookup y = some .local)
    (hsw : swapsWith (.ListComp elt [⟨tg, iter, ifs, 0⟩] scope pos) (some (.Name y py)) spos.line X.env = pure true) (hi : PI X tg iter wi) (ok : BlkOk X.N X.env.scope scope own)
    (hg : ∀ (s : Shared) (H : Hp) (C : Addr) (cl : List (Str × Addr)) (fp : List Addr), PG (X.blk s H scope (compEnvC scope cl C X.env) fp) tg g) (ht : ∀ (s : Shared) (H : Hp) (C : Addr) (cl : List (Str × Addr)) (fp : List Addr), PTs (X.blk s H scope (compEnvC scope cl C X.env) fp) ifs tt)
    (he : ∀ (s : Shared) (H : Hp) (C : Addr) (cl : List (Str × Addr)) (fp : List Addr), PE (X.blk s H scope (compEnvC scope cl C X.env) fp) elt te) (hs : ∀ x, foldedSetIterable iter X.env x = pure x := by intro _; rfl) :
    PS X (.Assign [.Name y py] (.ListComp elt [⟨tg, iter, ifs, 0⟩] scope pos) spos) (tAsg (tLc wi g tt te (own.map (·.2))) (gName i)) := by
  intro pins s σ H D I h
  rw [exec_Assign_Name_used _ _ _ _ hsw]
  refine wpAny_bind (wpAny_standAt (wpAny_bind ?_))
  show wpAny _ X.A (do let _ ← comprehension (.ListComp elt [⟨tg, iter, ifs, 0⟩] scope pos) scope X.env (firstIterPos [⟨tg, iter, ifs, 0⟩] pos) (newList []) false (eval iter X.env) (some (assign (.Name y py) X.env))) _ _ s
  have h : tLc wi g tt te (own.map (·.2)) σ H (fun x H1 => gName i x σ H1 D.nx) := h
  refine wpAny_bind (thn (lc_core (Qf := fun _ s' => SP X pins D .next s') hc hN I hi ok hg ht he hs h fun L C s' m H' I' q hn f => ?_) fun _ s' hq => wpAny_pure (wpAny_pure hq))
  show wpAny _ _ (assign (.Name y py) X.env (.ref L)) _ _ _
  refine wpAny_assign_Name (store_ok2 (v := V.ref L) I' hN hy (.inl hyl) rfl (fun s2 I2 ⟨a, sb, ha⟩ => ?_) (.inr hyl))
  obtain ⟨f0, f1, f2, f3, f4, f5⟩ := f
  have haC : C ≠ a := by
    rcases ha with z | z
    · rw [z]; exact f1
    · exact fun e => f4 y a z e.symm
  refine ⟨m, hn.sameBut sb haC, fun h3 sb3 => ?_⟩
  exact ⟨_, H', I2.turned (t' := s2.toks) (fun b o hb e => (sb3.2 b hb).trans e) f0 f1 f3 f4 f5, q⟩
theorem sw_true {elt : Expr} {gs : List Comprehension} {scope : Scope} {pos py : Pos} {y : Str} {l : Nat} {env : Env} (hk : env.scope.kind = .function) (hy : env.scope.names.lookup y = some .local) (hl : (py.line == pos.line) = true)
    (ha : (scope.names.any fun (n, k) => n == y && (k == .local || k == .cell)) = false) : swapsWith (.ListComp elt gs scope pos) (some (.Name y py)) l env = pure true := by
  have ky : env.kindOf y = some .local := hy
  have hb : env.blockKind = .function := by unfold Env.blockKind; rw [hk]; rfl
  unfold swapsWith
  simp only [hb, ky, ha, Expr.pos, hl]
  rfl
end

/-! ### the forms one uses -/
/-- over a range: Pv by the turn and the heap (the new list at D within) -/
theorem lc_range {lo : Int} {n : Nat} {g : TG} {tt : TT} {te : TE} {vs : List Nat} {σ : St} {H1 : Hp} {D : Addr} {Qd : Hp → Prop} (Pv : Nat → Hp → Prop) (h0 : Pv 0 (upd H1 D (.lst [])))
    (hs : ∀ i H, i < n → Pv i H → g (.int (lo + i)) (wipe σ vs) H fun σ2 H2 => wipe σ2 vs = wipe σ vs ∧ tt σ2 H2 fun b H3 =>
      if b = true then te σ2 H3 fun y H4 => ∃ acc, H4 D = some (.lst acc) ∧ acc.length < sizeLine ∧ Pv (i + 1) (upd H4 D (.lst (acc ++ [y]))) else Pv (i + 1) H3) (hd : ∀ H, Pv n H → Qd H) :
    ∃ W : Nat → Nat → Hp → Prop, (∃ m, W 0 m (upd H1 D (.lst []))) ∧ ∀ i m H, W i m H →
      ((Itr lo n).stop i H ∧ Qd H) ∨ ((Itr lo n).go i H ∧ ∃ Nx : Hp → Prop, (∀ H', Nx H' → ∃ m', m' < m ∧ W (i + 1) m' H') ∧ ∀ x H', (Itr lo n).yld i H x H' → g x (wipe σ vs) H' fun σ2 H2 => wipe σ2 vs = wipe σ vs ∧ tt σ2 H2 fun b H3 =>
        if b = true then te σ2 H3 fun y H4 => ∃ acc, H4 D = some (.lst acc) ∧ acc.length < sizeLine ∧ Nx (upd H4 D (.lst (acc ++ [y]))) else Nx H3) := by
  refine ⟨fun i m H => m = n - i ∧ i ≤ n ∧ Pv i H, ⟨n, by simp, Nat.zero_le _, h0⟩, ?_⟩
  rintro i m H ⟨rfl, hi, p⟩
  by_cases hlt : i < n
  · refine .inr ⟨hlt, Pv (i + 1), fun H' p' => ⟨n - (i + 1), by omega, rfl, hlt, p'⟩, fun x H' y => ?_⟩
    obtain ⟨e, y⟩ := y
    subst e y
    exact hs i _ hlt p
  · have e : i = n := by omega
    subst e
    exact .inl ⟨Nat.le_refl _, hd H p⟩
/-- over a list that the block leaves as it is -/
theorem lc_list {K : PySem.W.Frag} {a : Addr} {xs : List V} {g : TG} {tt : TT} {te : TE} {vs : List Nat} {σ : St} {H1 : Hp} {D : Addr} {Qd : Hp → Prop} (Pv : Nat → Hp → Prop) (h0 : Pv 0 (upd H1 D (.lst []))) (hl : ∀ i H, i ≤ xs.length → Pv i H → SqL K H a xs)
    (hs : ∀ i x H, xs[i]? = some x → Pv i H → g x (wipe σ vs) H fun σ2 H2 => wipe σ2 vs = wipe σ vs ∧ tt σ2 H2 fun b H3 =>
      if b = true then te σ2 H3 fun y H4 => ∃ acc, H4 D = some (.lst acc) ∧ acc.length < sizeLine ∧ Pv (i + 1) (upd H4 D (.lst (acc ++ [y]))) else Pv (i + 1) H3) (hd : ∀ H, Pv xs.length H → Qd H) :
    ∃ W : Nat → Nat → Hp → Prop, (∃ m, W 0 m (upd H1 D (.lst []))) ∧ ∀ i m H, W i m H →
      ((Itl K a).stop i H ∧ Qd H) ∨ ((Itl K a).go i H ∧ ∃ Nx : Hp → Prop, (∀ H', Nx H' → ∃ m', m' < m ∧ W (i + 1) m' H') ∧ ∀ x H', (Itl K a).yld i H x H' → g x (wipe σ vs) H' fun σ2 H2 => wipe σ2 vs = wipe σ vs ∧ tt σ2 H2 fun b H3 =>
        if b = true then te σ2 H3 fun y H4 => ∃ acc, H4 D = some (.lst acc) ∧ acc.length < sizeLine ∧ Nx (upd H4 D (.lst (acc ++ [y]))) else Nx H3) := by
  refine ⟨fun i m H => m = xs.length - i ∧ i ≤ xs.length ∧ Pv i H, ⟨xs.length, by simp, Nat.zero_le _, h0⟩, ?_⟩
  rintro i m H ⟨rfl, hi, p⟩
  have q := hl i H hi p
  by_cases hlt : i < xs.length
  · refine .inr ⟨⟨xs, xs[i], q, by simp [hlt]⟩, Pv (i + 1), fun H' p' => ⟨xs.length - (i + 1), by omega, rfl, hlt, p'⟩, fun x H' y => ?_⟩
    obtain ⟨e, y⟩ := y
    subst e
    exact hs i x _ (y xs q) p
  · have e : i = xs.length := by omega
    subst e
    exact .inl ⟨⟨xs, q, Nat.le_refl _⟩, hd H p⟩
def blkC (N : List Str) (sc scope : Scope) (own : List (Str × Nat)) : Bool :=
  (match scope.kind with | .function => true | _ => false) && (scope.names.all fun y => decide (scope.names.lookup y.1 = some y.2)) && (own.all fun p => decide (N[p.2]? = some p.1)) &&
    (scope.names.all fun y => match y.2 with
      | .free => (match sc.names.lookup y.1 with | some .cell => true | some .free => true | _ => false)
      | .local => decide (y.1 ∈ own.map (·.1)) || decide (y.1 ∉ N)
      | .cell => decide (y.1 ∈ own.map (·.1)) || decide (y.1 ∉ N)
      | _ => true)
theorem blkOk_by {N : List Str} {sc scope : Scope} {own : List (Str × Nat)} (h : blkC N sc scope own = true) : BlkOk N sc scope own := by
  unfold blkC at h
  simp only [Bool.and_eq_true, List.all_eq_true, decide_eq_true_eq] at h
  obtain ⟨⟨⟨h1, h2⟩, h3⟩, h4⟩ := h
  refine ⟨?_, h2, h3, fun y hy e => ?_, fun y hy e => ?_⟩
  · split at h1
    · assumption
    · cases h1
  · have q := h4 y hy
    simp only [e] at q
    split at q <;> first | exact .inl (by assumption) | exact .inr (by assumption) | cases q
  · have q := h4 y hy
    rcases e with e | e <;> (simp only [e, Bool.or_eq_true, decide_eq_true_eq] at q; exact q)
end L2

namespace L2
open PySem PySem.Spec PyProof.Rows

section
variable {prog : Program} {w : World} {A : Around} {R : Result → Shared → Prop} {s : Shared} {elt t0 i0 t1 i1 : Expr} {ifs0 ifs1 : List Expr} {scope : Scope} {pos : Pos} {it acc : Value} {env : Env}
end

section
variable {X : Cx}
end
end L2

namespace L2
open PySem PySem.Spec PyProof.Rows

/-! ### lists of pairs as tables -/
section
variable {κ : Type} [DecidableEq κ]
def valV (kvs : List (κ × V)) (k : κ) : Option V := (kvs.find? fun kv => decide (kv.1 = k)).map (·.2)
/-- in its place, or at the end -/
def putK (kvs : List (κ × V)) (k : κ) (v : V) : List (κ × V) :=
  if (kvs.any fun kv => decide (kv.1 = k)) = true then kvs.map (fun kv => if kv.1 = k then (kv.1, v) else kv) else kvs ++ [(k, v)]
def dropK (kvs : List (κ × V)) (k : κ) : List (κ × V) := kvs.filter fun kv => decide (kv.1 ≠ k)

theorem valV_pos {p : κ × V} {r : List (κ × V)} {k : κ} (e : p.1 = k) : valV (p :: r) k = some p.2 := by simp [valV, List.find?_cons, e]
theorem valV_neg {p : κ × V} {r : List (κ × V)} {k : κ} (e : ¬ p.1 = k) : valV (p :: r) k = valV r k := by simp [valV, List.find?_cons, e]
theorem valV_any (k : κ) : ∀ kvs : List (κ × V), (kvs.any fun kv => decide (kv.1 = k)) = (valV kvs k).isSome
  | [] => rfl
  | p :: r => by
    rw [List.any_cons]
    by_cases e : p.1 = k
    · simp only [valV_pos e, decide_eq_true e, Bool.true_or, Option.isSome_some]
    · rw [valV_neg e, decide_eq_false e, Bool.false_or]; exact valV_any k r
theorem valV_map (k j : κ) (y : V) : ∀ kvs : List (κ × V), valV (kvs.map fun kv => if kv.1 = k then (kv.1, y) else kv) j = (valV kvs j).map fun x => if j = k then y else x
  | [] => rfl
  | p :: r => by
    have ih := valV_map k j y r
    rw [List.map_cons]
    by_cases h : p.1 = k
    · rw [if_pos h]
      by_cases e : p.1 = j
      · rw [valV_pos (p := (p.1, y)) e, valV_pos e, Option.map_some, if_pos (e.symm.trans h)]
      · rw [valV_neg (p := (p.1, y)) e, valV_neg e, ih]
    · rw [if_neg h]
      by_cases e : p.1 = j
      · rw [valV_pos (p := p) e, valV_pos e, Option.map_some, if_neg (fun z => h (e.trans z))]
      · rw [valV_neg (p := p) e, valV_neg e, ih]
theorem valV_snoc (k j : κ) (y : V) : ∀ kvs : List (κ × V), valV kvs k = none → valV (kvs ++ [(k, y)]) j = if j = k then some y else valV kvs j
  | [], _ => by
    by_cases e : k = j
    · rw [if_pos e.symm]; exact valV_pos (p := (k, y)) e
    · rw [if_neg (fun z => e z.symm)]; exact valV_neg (p := (k, y)) e
  | p :: r, hn => by
    rw [List.cons_append]
    have hk : ¬ p.1 = k := fun z => by rw [valV_pos z] at hn; cases hn
    rw [valV_neg hk] at hn
    have ih := valV_snoc k j y r hn
    by_cases e : p.1 = j
    · rw [valV_pos e, valV_pos e, if_neg (fun z => hk (e.trans z))]
    · rw [valV_neg e, valV_neg e, ih]
theorem valV_put (kvs : List (κ × V)) (k j : κ) (y : V) : valV (putK kvs k y) j = if j = k then some y else valV kvs j := by
  unfold putK
  by_cases a : (kvs.any fun kv => decide (kv.1 = k)) = true
  · rw [if_pos a, valV_map]
    rw [valV_any] at a
    by_cases e : j = k
    · obtain ⟨x, hx⟩ := Option.isSome_iff_exists.mp a
      rw [if_pos e, e, hx, Option.map_some, if_pos rfl]
    · rw [if_neg e]
      cases valV kvs j with
      | none => rfl
      | some x => rw [Option.map_some, if_neg e]
  · rw [if_neg a]
    refine valV_snoc k j y kvs ?_
    rw [valV_any] at a
    cases q : valV kvs k with
    | none => rfl
    | some x => rw [q] at a; exact (a rfl).elim
theorem length_putK (kvs : List (κ × V)) (k : κ) (v : V) : (putK kvs k v).length ≤ kvs.length + 1 := by
  unfold putK
  split
  · rw [List.length_map]; omega
  · rw [List.length_append, List.length_cons, List.length_nil]; omega
theorem putK_new {kvs : List (κ × V)} {k : κ} (v : V) (h : valV kvs k = none) : putK kvs k v = kvs ++ [(k, v)] := by
  unfold putK
  rw [valV_any, h]
  exact if_neg (by decide)

theorem RelO.isSome_eq {o : Option V} {u : Option Value} (r : RelO o u) : o.isSome = u.isSome := by
  cases o with
  | none => cases u with
    | none => rfl
    | some _ => exact (show False from r).elim
  | some _ => cases u with
    | none => exact (show False from r).elim
    | some _ => rfl
theorem RelO.getD {o : Option V} {u : Option Value} {d : V} {d' : Value} (r : RelO o u) (rd : RelV d d') : RelV (o.getD d) (u.getD d') := by
  cases o with
  | none => cases u with
    | none => exact rd
    | some _ => exact (show False from r).elim
  | some _ => cases u with
    | none => exact (show False from r).elim
    | some _ => exact r

/-- raw tables of the same keys -/
theorem KV.val {kvs : List (κ × V)} {vs : List (κ × Value)} (r : KV kvs vs) (k : κ) : RelO (valV kvs k) (valueAt vs k) := by
  unfold KV at r
  induction r with
  | nil => exact True.intro
  | @cons p q ps qs h t ih =>
    obtain ⟨h1, h2⟩ := h
    by_cases e : p.1 = k
    · have e' : q.1 = k := h1.symm.trans e
      have b : valueAt (q :: qs) k = some q.2 := by simp [valueAt, List.find?_cons, e']
      rw [valV_pos e, b]; exact h2
    · have e' : ¬ q.1 = k := fun z => e (h1.trans z)
      have b : valueAt (q :: qs) k = valueAt qs k := by simp [valueAt, List.find?_cons, e']
      rw [valV_neg e, b]; exact ih
theorem KV.any {kvs : List (κ × V)} {vs : List (κ × Value)} (r : KV kvs vs) (k : κ) : (kvs.any fun kv => decide (kv.1 = k)) = vs.any fun kv => decide (kv.1 = k) := by
  unfold KV at r
  induction r with
  | nil => rfl
  | cons h t ih => rw [List.any_cons, List.any_cons, ih, h.1]
theorem KV.repl {kvs : List (κ × V)} {vs : List (κ × Value)} (r : KV kvs vs) (k : κ) {y : V} {u : Value} (ry : RelV y u) :
    KV (kvs.map fun kv => if kv.1 = k then (kv.1, y) else kv) (vs.map fun kv => if kv.1 = k then (kv.1, u) else kv) := by
  unfold KV at r ⊢
  induction r with
  | nil => exact .nil
  | @cons p q ps qs h t ih =>
    rw [List.map_cons, List.map_cons]
    refine .cons ?_ ih
    obtain ⟨h1, h2⟩ := h
    by_cases e : p.1 = k
    · rw [if_pos e, if_pos (h1.symm.trans e)]; exact ⟨h1, ry⟩
    · rw [if_neg e, if_neg (fun z => e (h1.trans z))]; exact ⟨h1, h2⟩
theorem KV.put {kvs : List (κ × V)} {vs : List (κ × Value)} (r : KV kvs vs) (k : κ) {y : V} {u : Value} (ry : RelV y u) : KV (putK kvs k y) (stored vs k u) := by
  unfold putK stored
  rw [r.any k]
  by_cases e : (vs.any fun kv => decide (kv.1 = k)) = true
  · rw [if_pos e, if_pos e]; exact r.repl k ry
  · rw [if_neg e, if_neg e]; exact Paired.snoc r ⟨rfl, ry⟩
theorem KV.drop {kvs : List (κ × V)} {vs : List (κ × Value)} (r : KV kvs vs) (k : κ) : KV (dropK kvs k) (without vs k) := by
  unfold KV at r ⊢
  unfold dropK without
  induction r with
  | nil => exact .nil
  | @cons p q ps qs h t ih =>
    obtain ⟨h1, h2⟩ := h
    rw [List.filter_cons, List.filter_cons]
    by_cases e : p.1 = k
    · have a : ¬ decide (p.1 ≠ k) = true := by simp [e]
      have b : ¬ decide (q.1 ≠ k) = true := by simp [h1.symm.trans e]
      rw [if_neg a, if_neg b]; exact ih
    · have e' : ¬ q.1 = k := fun z => e (h1.trans z)
      have a : decide (p.1 ≠ k) = true := by simp [e]
      have b : decide (q.1 ≠ k) = true := by simp [e']
      rw [if_pos a, if_pos b]; exact .cons ⟨h1, h2⟩ ih
theorem KV.keys {kvs : List (κ × V)} {vs : List (κ × Value)} (r : KV kvs vs) : kvs.map (·.1) = vs.map (·.1) := by
  unfold KV at r
  induction r with
  | nil => rfl
  | cons h t ih => rw [List.map_cons, List.map_cons, ih, h.1]
theorem KV.length {kvs : List (κ × V)} {vs : List (κ × Value)} (r : KV kvs vs) : kvs.length = vs.length := Paired.length r
end


/-! ### a tracked dict, its keys ints and texts or tuples of these -/
theorem kV_is {P : Program} {w : World} {k : Key} {u : Value} (r : RelV (kV k) u) : (mixKind P w).is k u = true := by
  cases k with
  | inl i => obtain ⟨t, e⟩ := (show ∃ t, u = Value.int i t from r); subst e; exact mixKind_int P w i t
  | inr x => obtain ⟨t, e⟩ := (show ∃ t, u = Value.str x t from r); subst e; exact mixKind_str P w x t
theorem items_are {P : Program} {w : World} : ∀ {ks : List Key} {us : List Value}, Vals (ks.map kV) us → ItemsAre (mixKind P w) ks us
  | [], _, r => by rw [List.map_nil] at r; cases r; exact .nil
  | k :: ks, _, r => by
    rw [List.map_cons] at r
    cases r with
    | cons h t => exact .cons (kV_is h) (items_are t)

/-- raw entries of a dict with tuple keys -/
abbrev KT (H : Hp) : List (List Key × V) → List (List Key × Addr × Value) → Prop := Paired fun p q => p.1 = q.1 ∧ H q.2.1 = some (.tup (p.1.map kV)) ∧ RelV p.2 q.2.2
theorem KT.val {H : Hp} {kvs : List (List Key × V)} {xs : List (List Key × Addr × Value)} (r : KT H kvs xs) (k : List Key) : RelO (valV kvs k) ((atKey xs k).map (·.2)) := by
  induction r with
  | nil => exact True.intro
  | @cons p q ps qs h t ih =>
    obtain ⟨h1, _, h2⟩ := h
    by_cases e : p.1 = k
    · have e' : q.1 = k := h1.symm.trans e
      have b : atKey (q :: qs) k = some q.2 := by simp [atKey, List.find?_cons, e']
      rw [valV_pos e, b]; exact h2
    · have e' : ¬ q.1 = k := fun z => e (h1.trans z)
      have b : atKey (q :: qs) k = atKey qs k := by simp [atKey, List.find?_cons, e']
      rw [valV_neg e, b]; exact ih
theorem KT.repl {H : Hp} {kvs : List (List Key × V)} {xs : List (List Key × Addr × Value)} (r : KT H kvs xs) (k : List Key) {y : V} {u : Value} (ry : RelV y u) :
    KT H (kvs.map fun kv => if kv.1 = k then (kv.1, y) else kv) (xs.map (putAt k u)) := by
  induction r with
  | nil => exact .nil
  | @cons p q ps qs h t ih =>
    rw [List.map_cons, List.map_cons]
    refine .cons ?_ ih
    obtain ⟨h1, h2, h3⟩ := h
    unfold putAt
    by_cases e : p.1 = k
    · rw [if_pos e, if_pos (h1.symm.trans e)]; exact ⟨h1, h2, ry⟩
    · rw [if_neg e, if_neg (fun z => e (h1.trans z))]; exact ⟨h1, h2, h3⟩
theorem KT.put {H : Hp} {kvs : List (List Key × V)} {xs : List (List Key × Addr × Value)} (r : KT H kvs xs) (k : List Key) {b : Addr} {y : V} {u : Value} (hb : H b = some (.tup (k.map kV))) (ry : RelV y u) :
    KT H (putK kvs k y) (storedH xs k b u) := by
  have e : (kvs.any fun kv => decide (kv.1 = k)) = (atKey xs k).isSome := by
    rw [valV_any, (r.val k).isSome_eq, Option.isSome_map]
  unfold putK storedH
  rw [e]
  by_cases q : (atKey xs k).isSome = true
  · rw [if_pos q, if_pos q]; exact r.repl k ry
  · rw [if_neg q, if_neg q]; exact Paired.snoc r ⟨rfl, hb, ry⟩
theorem KT.keeps {H H' : Hp} {kvs : List (List Key × V)} {xs : List (List Key × Addr × Value)} (r : KT H kvs xs) (ht : ∀ b ys, H b = some (.tup ys) → H' b = some (.tup ys)) : KT H' kvs xs :=
  Paired.mapP r fun _ _ z => ⟨z.1, ht _ _ z.2.1, z.2.2⟩

section
variable {P : Program} {w : World} {H : Hp} {h : Heap} {a : Addr}
theorem rd_of {u : HO} (ok : HOk P w H h) (e : Rd H a u) : ObjOk P w H h a u := e.ok ok
theorem dk_rd {kvs : List (Key × V)} (ok : HOk P w H h) (e : Rd H a (.dK kvs)) : kvs.length ≤ sizeLine ∧ (a == sysModules) = false ∧ ∃ vs, KV kvs vs ∧ h.DictOf (mixKind P w) a vs :=
  show ObjOk P w H h a (.dK kvs) from rd_of ok e
theorem dk_of {kvs : List (Key × V)} (ok : HOk P w H h) (e : H a = some (.dK kvs)) : kvs.length ≤ sizeLine ∧ (a == sysModules) = false ∧ ∃ vs, KV kvs vs ∧ h.DictOf (mixKind P w) a vs := dk_rd ok (.inl e)
/-- a tracked tuple of ints and texts is a key -/
theorem key_of {ks : List Key} (ok : HOk P w H h) (e : H a = some (.tup (ks.map kV))) : (tupleKind (mixKind P w)).is h ks a := by
  obtain ⟨_, its, r, ⟨o, h1, h2, n, h3⟩, _⟩ := (show ObjOk P w H h a (.tup (ks.map kV)) from ok a _ e)
  exact ⟨o, its.toArray, n, h1, h2, h3, by simpa using items_are r⟩
theorem dt_rd {kvs : List (List Key × V)} (ok : HOk P w H h) (e : Rd H a (.dT kvs)) : kvs.length ≤ sizeLine ∧ (a == sysModules) = false ∧
    ∃ xs, KT H kvs xs ∧ h.DictOfH (tupleKind (mixKind P w)) a xs := by
  obtain ⟨z, y, xs, r, o, es, ep, h1, h2, h3, h4, h5⟩ := (show ObjOk P w H h a (.dT kvs) from rd_of ok e)
  refine ⟨z, y, xs, r, o, es, ep, h1, h2, h3, h4, fun x hx => ?_, h5⟩
  have all : ∀ {l : List (List Key × V)} {m : List (List Key × Addr × Value)}, KT H l m → ∀ x ∈ m, (tupleKind (mixKind P w)).is h x.1 x.2.1 := by
    intro l m q
    induction q with
    | nil => intro x hx; exact nomatch hx
    | @cons p q ps qs hq t ih =>
      intro x hx
      rcases List.mem_cons.mp hx with e | hx
      · subst e
        exact key_of ok (by rw [← hq.1]; exact hq.2.1)
      · exact ih x hx
  exact all r x hx
theorem dt_of {kvs : List (List Key × V)} (ok : HOk P w H h) (e : H a = some (.dT kvs)) : kvs.length ≤ sizeLine ∧ (a == sysModules) = false ∧
    ∃ xs, KT H kvs xs ∧ h.DictOfH (tupleKind (mixKind P w)) a xs := dt_rd ok (.inl e)
end

/-- what the dict at a holds at the key y -/
def DGet (H : Hp) (a : Addr) (y : V) (r : Option V) : Prop :=
  (∃ kvs k, Rd H a (.dK kvs) ∧ y = kV k ∧ r = valV kvs k) ∨ ∃ kvs k b, Rd H a (.dT kvs) ∧ y = .ref b ∧ H b = some (.tup (k.map kV)) ∧ r = valV kvs k
/-- the heap behind a[y] = v -/
def DPut (H : Hp) (a : Addr) (y v : V) (H' : Hp) : Prop :=
  (∃ kvs k, H a = some (.dK kvs) ∧ y = kV k ∧ kvs.length < sizeLine ∧ H' = upd H a (.dK (putK kvs k v))) ∨
  ∃ kvs k b, H a = some (.dT kvs) ∧ y = .ref b ∧ H b = some (.tup (k.map kV)) ∧ kvs.length < sizeLine ∧ H' = upd H a (.dT (putK kvs k v))
theorem DGet.k {H : Hp} {a : Addr} {kvs : List (Key × V)} {k : Key} (e : H a = some (.dK kvs)) : DGet H a (kV k) (valV kvs k) := .inl ⟨kvs, k, .inl e, rfl, rfl⟩
theorem DGet.t {H : Hp} {a b : Addr} {kvs : List (List Key × V)} {k : List Key} (e : H a = some (.dT kvs)) (eb : H b = some (.tup (k.map kV))) : DGet H a (.ref b) (valV kvs k) := .inr ⟨kvs, k, b, .inl e, rfl, eb, rfl⟩
theorem DPut.k {H : Hp} {a : Addr} {kvs : List (Key × V)} {k : Key} {v : V} (e : H a = some (.dK kvs)) (hl : kvs.length < sizeLine) : DPut H a (kV k) v (upd H a (.dK (putK kvs k v))) := .inl ⟨kvs, k, e, rfl, hl, rfl⟩
theorem DPut.t {H : Hp} {a b : Addr} {kvs : List (List Key × V)} {k : List Key} {v : V} (e : H a = some (.dT kvs)) (eb : H b = some (.tup (k.map kV))) (hl : kvs.length < sizeLine) :
    DPut H a (.ref b) v (upd H a (.dT (putK kvs k v))) := .inr ⟨kvs, k, b, e, rfl, eb, hl, rfl⟩


section
variable {X : Cx} {pins : List (Addr × Obj)} {σ : St} {H : Hp} {s : Shared} {a : Addr} {y v : V} {u r : Value} {o : Option V} {A : Around} {E : Value → Shared → Prop}

theorem Inv.big (I : Inv X pins σ H s) : sysModules < s.heap.objs.size := by
  have h : mainGlobals < s.heap.objs.size := (I.mod.glob.keeps I.bk).lt
  exact Nat.lt_trans (by decide) h

/-- d[y], there -/
theorem d_getItem {Q : Value → Shared → Prop} (hu : A.units + 1 < cLine) (I : Inv X pins σ H s) (g : DGet H a y (some v)) (ry : RelV y u) (h : ∀ w' s', Inv X pins σ H s' → RelV v w' → Q w' s') :
    wpAny (model X.prog X.w) A (getItem (.ref a) u) Q E s := by
  rcases g with ⟨kvs, k, e, ey, l⟩ | ⟨kvs, k, b, e, ey, eb, l⟩
  · subst ey
    obtain ⟨z, hd, vs, rel, dd⟩ := dk_rd I.hok e
    obtain ⟨w', hw, rw'⟩ := RelO.some_of (v := v) (o := valueAt vs k) (by rw [l]; exact rel.val k)
    exact wpAny_getItem_of (kV_is ry) dd.mapOf hw (h w' _ (I.tok _) rw')
  · subst ey
    cases (show u = Value.ref b from ry)
    obtain ⟨z, hd, xs, rel, dd⟩ := dt_rd I.hok e
    obtain ⟨w', hw, rw'⟩ := RelO.some_of (v := v) (o := (atKey xs k).map (·.2)) (by rw [l]; exact rel.val k)
    obtain ⟨p, hp, hp2⟩ := Option.map_eq_some_iff.mp hw
    refine wpAny_getItem_heap (tupleKind_room_in1 hu) (key_of I.hok eb) dd hp ?_
    rw [hp2]
    exact h w' _ (I.tok _) rw'
theorem d_notIn {Q : Value → Shared → Prop} (hu : A.units + 1 < cLine) (I : Inv X pins σ H s) (g : DGet H a y o) (ry : RelV y u) (h : ∀ s', Inv X pins σ H s' → Q (.bool (!o.isSome)) s') :
    wpAny (model X.prog X.w) A (compareOp .NotIn u (.ref a)) Q E s := by
  rcases g with ⟨kvs, k, e, ey, l⟩ | ⟨kvs, k, b, e, ey, eb, l⟩
  · subst ey
    obtain ⟨z, hd, vs, rel, dd⟩ := dk_rd I.hok e
    refine wpAny_notIn_of (kV_is ry) hd dd.mapOf ?_
    rw [← (rel.val k).isSome_eq, ← l]
    exact h _ (I.tok _)
  · subst ey
    cases (show u = Value.ref b from ry)
    obtain ⟨z, hd, xs, rel, dd⟩ := dt_rd I.hok e
    refine wpAny_notIn_heap (tupleKind_room_in1 hu) (key_of I.hok eb) hd dd ?_
    have q := (rel.val k).isSome_eq
    rw [Option.isSome_map] at q
    rw [← q, ← l]
    exact h _ (I.tok _)
/-- a dict's object is replaced -/
theorem d_write {h' : Heap} {t' : Nat} {ob : HO} (I : Inv X pins σ H s) (mu : Mut (H a)) (hs : Heap.SameBut a s.heap h') (he : ∃ q, h'.get? a = some q) (new : ObjOk X.prog X.w (upd H a ob) h' a ob) :
    Inv X pins σ (upd H a ob) { s with heap := h', toks := t' } :=
  I.write (x := a) (e := a) mu (.inl rfl) (fun b q hb z => (hs.2 b hb).trans z) he new
theorem dk_new {P : Program} {w : World} {H' : Hp} {h' : Heap} {kvs : List (Key × V)} {vs : List (Key × Value)} (z : kvs.length ≤ sizeLine) (hd : (a == sysModules) = false) (rel : KV kvs vs) (dd : h'.DictOf (mixKind P w) a vs) :
    ObjOk P w H' h' a (.dK kvs) := ⟨z, hd, vs, rel, dd⟩
/-- d[y] = v -/
theorem d_setItem {H' : Hp} {Q : Unit → Shared → Prop} (hu : A.units + 1 < cLine) (I : Inv X pins σ H s) (g : DPut H a y v H') (ry : RelV y u) (rv : RelV v r) (h : ∀ s', Inv X pins σ H' s' → Q () s') :
    wpAny (model X.prog X.w) A (setItem (.ref a) u r) Q E s := by
  rcases g with ⟨kvs, k, e, ey, l, eH⟩ | ⟨kvs, k, b, e, ey, eb, l, eH⟩
  · subst ey eH
    obtain ⟨z, hd, vs, rel, dd⟩ := dk_of I.hok e
    have hz : vs.length ≤ sizeLine := by rw [← rel.length]; exact z
    have hl : (putK kvs k v).length ≤ sizeLine := by have := length_putK kvs k v; omega
    refine wpAny_setItem_pairs (hsz := hz) (kV_is ry) dd fun h' dd' hs => h _ ?_
    have he : ∃ q, h'.get? a = some q := let ⟨q, _, _, hq, _⟩ := dd'; ⟨q, hq⟩
    exact d_write I (by rw [e]; exact True.intro) hs he (dk_new hl hd (rel.put k rv) dd')
  · subst ey eH
    cases (show u = Value.ref b from ry)
    obtain ⟨z, hd, xs, rel, dd⟩ := dt_of I.hok e
    have hz : xs.length ≤ sizeLine := by rw [← Paired.length rel]; exact z
    have hl : (putK kvs k v).length ≤ sizeLine := by have := length_putK kvs k v; omega
    refine wpAny_setItem_heap (hsz := hz) (tupleKind_room_in1 hu) (key_of I.hok eb) dd fun h' dd' hs => h _ ?_
    obtain ⟨q, es, ep, hq, h2, h3, h4, _, h5⟩ := dd'
    refine d_write I (by rw [e]; exact True.intro) hs ⟨q, hq⟩ ⟨hl, hd, _, (rel.put k eb rv).keeps fun c ys ec => ?_, q, es, ep, hq, h2, h3, h4, h5⟩
    rw [upd_ne (ne_of ec e (fun z => nomatch z))]
    exact ec
end

section
variable {X : Cx} {pins : List (Addr × Obj)} {σ : St} {H : Hp} {s : Shared} {a : Addr} {kvs : List (Key × V)} {k : Key} {u : Value} {A : Around} {E : Value → Shared → Prop}
end


/-! ### readings and rules -/
/-- the element of a subscription, not a slice -/
def NoSl (i : Expr) : Prop := ∀ ov iv, subscripted i false ov iv = operate [ov, iv] (getItem ov iv)
theorem subD_of {prog : Program} {w : World} {A : Around} {E : Value → Shared → Prop} {s : Shared} {env : Env} {value slice : Expr} {pos : Pos} {T id : String} {Q : Value → Shared → Prop}
    (hl : typeLookup (.type T) "__getitem__" = pure (some (.builtin id))) (hs : NoSl slice)
    (h : wpAny (model prog w) A (eval value env) (fun o s₁ => wpAny (model prog w) A (eval slice env) (fun i s₂ => s₂.TypeIs o T ∧ wpAny (model prog w) A (getItem o i) Q E s₂) E s₁) E s) :
    wpAny (model prog w) A (eval (.Subscript value slice pos) env) Q E s := by
  refine Subscript_ (wpAny_mono h (fun o s₁ h₁ => wpAny_mono h₁ (fun i s₂ h₂ => ?_) fun _ _ x => x) fun _ _ x => x)
  obtain ⟨hT, h₂⟩ := h₂
  unfold subscriptTail
  refine wpAny_bind ?_
  rw [getitemInPython_of_ne hT.not_modules]
  refine wpAny_bind (wpAny_specialOf hT hl ?_)
  have fin : wpAny (model prog w) A (subscripted slice false o i) (fun r s₃ => wpAny (model prog w) A (letTemporaryGo value o r >>= fun _ => pure r) Q E s₃) E s₂ := by
    rw [hs o i]
    exact wpAny_operating (wpAny_mono h₂ (fun r s₃ h₃ => wpAny_bind (wpAny_letTemporaryGo (wpAny_pure h₃))) fun _ _ x => x)
  first
    | exact wpAny_pure (wpAny_bind fin)
    | exact wpAny_bind (wpAny_pure (wpAny_bind fin))
    | exact wpAny_bind fin

theorem dict_typeIs {X : Cx} {pins : List (Addr × Obj)} {σ : St} {H : Hp} {s : Shared} {a : Addr} {y : V} {o : Option V} (I : Inv X pins σ H s) (g : DGet H a y o) : s.TypeIs (.ref a) "dict" := by
  rcases g with ⟨kvs, k, e, _, _⟩ | ⟨kvs, k, b, e, _, _, _⟩
  · obtain ⟨_, _, vs, _, dd⟩ := dk_rd I.hok e
    exact dd.typeIs
  · obtain ⟨_, _, xs, _, dd⟩ := dt_rd I.hok e
    exact dd.typeIs
/-- d[y] -/
def tDGet (td ty : TE) : TE := fun σ H Q => td σ H fun x H1 => ty σ H1 fun y H2 => ∃ a v, x = .ref a ∧ DGet H2 a y (some v) ∧ Q v H2
def tDNotIn (ty td : TE) : TE := fun σ H Q => ty σ H fun y H1 => td σ H1 fun x H2 => ∃ a o, x = .ref a ∧ DGet H2 a y o ∧ Q (.bl (!o.isSome)) H2
/-- d[y] = v -/
def sDPut (td ty tv : TE) : TS := fun D σ H => tv σ H fun v H1 => td σ H1 fun x H2 => ty σ H2 fun y H3 => ∃ a H4, x = .ref a ∧ DPut H3 a y v H4 ∧ D.nx σ H4
section
variable {X : Cx} {o i e value : Expr} {pos pos' tpos : Pos} {td ty tv : TE}
theorem pe_dget (hu : X.A.units + 1 < cLine) (ho : PE X o td) (hi : PE X i ty) (hs : NoSl i) : PE X (.Subscript o i pos) (tDGet td ty) := by
  intro pins s σ H Q I h
  refine subD_of PySem.F.slot_dict_getitem.lookup hs (thn (ho pins s σ H _ I h) fun u s1 ⟨x, H1, I1, rx, q1⟩ => thn (hi pins s1 σ H1 _ I1 q1) fun iv s2 ⟨y, H2, I2, ry, a, v, ex, g, q2⟩ => ?_)
  subst ex
  obtain rfl : u = Value.ref a := rx
  exact ⟨dict_typeIs I2 g, d_getItem hu I2 g ry fun w' s3 I3 rw' => ⟨v, H2, I3, rw', q2⟩⟩
theorem pc_dnotin (hu : X.A.units + 1 < cLine) (hi : PE X i ty) (ho : PE X o td) : PC X .NotIn i o (tDNotIn ty td) := by
  intro pins s σ H Q I h
  refine thn (hi pins s σ H _ I h) fun iv s1 ⟨y, H1, I1, ry, q1⟩ => thn (ho pins s1 σ H1 _ I1 q1) fun u s2 ⟨x, H2, I2, rx, a, ov, ex, g, q2⟩ => ?_
  subst ex
  obtain rfl : u = Value.ref a := rx
  exact d_notIn hu I2 g ry fun s3 I3 => ⟨.bl (!ov.isSome), H2, I3, rfl, q2⟩
theorem ps_dput (hu : X.A.units + 1 < cLine) (ho : PE X o td) (hi : PE X i ty) (hv : PE X value tv) (hs : swapsWith value (some (.Subscript o i pos')) pos.line X.env = pure false) :
    PS X (.Assign [.Subscript o i pos'] value pos) (sDPut td ty tv) := by
  intro pins s σ H D I h
  refine wpAny_Assign_Subscript (thn (hv pins s σ H _ I h) fun r s1 ⟨v, H1, I1, rv, q1⟩ => thn (ho pins s1 σ H1 _ I1 q1) fun u s2 ⟨x, H2, I2, rx, q2⟩ => thn (hi pins s2 σ H2 _ I2 q2) fun iv s3 ⟨y, H3, I3, ry, a, H4, ex, g, q3⟩ => ?_) hs
  subst ex
  obtain rfl : u = Value.ref a := rx
  exact d_setItem hu I3 g ry rv fun s4 I4 => ⟨σ, H4, I4, q3⟩
end


/-! ### displays -/
theorem dt_empty {P : Program} {w : World} {H : Hp} (h : Heap) (hb : sysModules < h.objs.size) : ObjOk P w H (h.push { cls := .type "dict", data := .dict #[] }) h.objs.size (.dT []) :=
  ⟨Nat.zero_le _, beq_eq_false_iff_ne.mpr (Ne.symm (Nat.ne_of_lt hb)), [], .nil, _, #[], 0, Heap.get?_push_size _ rfl, ⟨rfl, rfl, rfl⟩, rfl, rfl, List.nodup_nil⟩
def tDNewT : TE := fun _ H Q => ∀ p, H p = none → Q (.ref p) (upd H p (.dT []))
section
variable {X : Cx} {pos : Pos}
theorem pe_dnewT : PE X (.Dict [] [] pos) tDNewT := fun pins s σ H Q I h =>
  wpAny_Dict_empty ⟨.ref s.heap.objs.size, _, I.laid (a := s.heap.objs.size) (o := .dT []) (t' := s.toks) (fun _ _ q => Heap.get?_push_of_some _ q) (Nat.le_refl _) (dt_empty s.heap I.big), rfl, h _ (I.hok.fresh (Nat.le_refl _))⟩
end

/-- the pairs of a display, from the left -/
def tPairs : List (TE × TE) → St → Hp → (List (V × V) → Hp → Prop) → Prop
  | [], _, H, Q => Q [] H
  | (tk, tv) :: r, σ, H, Q => tk σ H fun x H1 => tv σ H1 fun y H2 => tPairs r σ H2 fun ps H3 => Q ((x, y) :: ps) H3
abbrev VV : List (V × V) → List (Value × Value) → Prop := Paired fun p q => RelV p.1 q.1 ∧ RelV p.2 q.2
def PPs (X : Cx) (pos : Pos) (keys : List (Option Expr)) (values : List Expr) (trs : List (TE × TE)) : Prop :=
  ∀ (pins : List (Addr × Obj)) (s : Shared) (σ : St) (H : Hp) (Q : List (V × V) → Hp → Prop), Inv X pins σ H s → tPairs trs σ H Q →
    wpAny (model X.prog X.w) X.A (evalPairs (pairTrees keys values X.env pos)) (fun vs s' => ∃ ps H', Inv X pins σ H' s' ∧ VV ps vs ∧ Q ps H') X.xe s
theorem pps_nil {X : Cx} {pos : Pos} : PPs X pos [] [] [] := fun pins s σ H Q I h => pairTrees_nil_walk ⟨[], H, I, .nil, h⟩
theorem pps_cons {X : Cx} {pos : Pos} {k v : Expr} {ks : List (Option Expr)} {vs : List Expr} {tk tv : TE} {trs : List (TE × TE)} (hk : PE X k tk) (hv : PE X v tv) (hr : PPs X pos ks vs trs) :
    PPs X pos (some k :: ks) (v :: vs) ((tk, tv) :: trs) := fun pins s σ H Q I h =>
  pairTrees_cons_walk (thn (hk pins s σ H _ I h) fun u s1 ⟨x, H1, I1, rx, q1⟩ => thn (hv pins s1 σ H1 _ I1 q1) fun w2 s2 ⟨y, H2, I2, ry, q2⟩ =>
    thn (hr pins s2 σ H2 _ I2 q2) fun ws s3 ⟨ps, H3, I3, rel, q3⟩ => ⟨(x, y) :: ps, H3, I3, .cons ⟨rx, ry⟩ rel, q3⟩)

/-! ### methods -/
/-- a method call o.m(e) of a built-in, with one argument: what must be seen of the text -/
structure M1 (X : Cx) (o : Expr) (m : Str) (apos : Pos) (e : Expr) (cpos : Pos) : Prop where
  base : attributeBase o m X.env (eval o X.env) = eval o X.env
  few : ((backTo cpos (starEach [e] X.env)).all (fun x => !x.1) && (backToKw cpos (keywordEach [] X.env)).all (fun x => x.1.isSome)
    && decide (([e] : List Expr).length + ([] : List Keyword).length + (if ([] : List Keyword).isEmpty then 0 else 1) < 30)) = true
  line : (apos.endLine == cpos.line) = true
  trees : backTo cpos (starEach [e] X.env) = [(false, eval e X.env)]
structure M2 (X : Cx) (o : Expr) (m : Str) (apos : Pos) (e f : Expr) (cpos : Pos) : Prop where
  base : attributeBase o m X.env (eval o X.env) = eval o X.env
  few : ((backTo cpos (starEach [e, f] X.env)).all (fun x => !x.1) && (backToKw cpos (keywordEach [] X.env)).all (fun x => x.1.isSome)
    && decide (([e, f] : List Expr).length + ([] : List Keyword).length + (if ([] : List Keyword).isEmpty then 0 else 1) < 30)) = true
  line : (apos.endLine == cpos.line) = true
  trees : backTo cpos (starEach [e, f] X.env) = [(false, eval e X.env), (false, eval f X.env)]

section
variable {X : Cx} {pins : List (Addr × Obj)} {σ : St} {H : Hp} {s : Shared} {a : Addr} {y d : V} {u r : Value} {o : Option V} {A : Around} {E : Value → Shared → Prop}
end

section
variable {X : Cx} {o e f : Expr} {apos cpos : Pos} {td ty tx : TE}
end

/-! ### dict(d): a copy -/
section
variable {X : Cx} {pins : List (Addr × Obj)} {σ : St} {H : Hp} {s : Shared} {a : Addr} {kvs : List (Key × V)} {A : Around} {E : Value → Shared → Prop}
end


section
variable {X : Cx} {pins : List (Addr × Obj)} {σ : St} {H : Hp} {s : Shared} {a : Addr} {y : V} {u : Value} {A : Around} {E : Value → Shared → Prop}
end
end L2

namespace L2
open PySem PySem.Spec PyProof.Rows

section
variable {prog : Program} {w : World} {A : Around} {E : Value → Shared → Prop}
end

section
variable {X : Cx}
end
end L2

namespace L2
open PySem PySem.Spec PyProof.Rows

section
variable {X : Cx} {pins : List (Addr × Obj)} {σ : St} {H : Hp} {s : Shared} {h' : Heap}
/-- .. and one new object is laid -/
theorem Inv.turnedNew {t' : Nat} {ch : List Addr} {T : Addr} {ob : HO} (I : Inv X pins σ H s) (k : ∀ b o, b ∉ ch → s.heap.get? b = some o → h'.get? b = some o) (hf : ∀ b ∈ ch, FpOk X pins H b) (hT : s.heap.objs.size ≤ T)
    (new : ObjOk X.prog X.w (upd H T ob) h' T ob) : Inv X pins σ (upd H T ob) { s with heap := h', toks := t' } := by
  have hn : H T = none := I.hok.fresh hT
  have nit : ∀ b u, H b = some u → b ∉ ch := fun b u e z => by
    have q := (hf b z).1
    rw [q] at e; cases e
  refine I.step (g' := s.gens) (d' := s.drawn) (ch := ch) (fun b hb => ⟨(hf b hb).2.2.2.1, (hf b hb).2.1, (hf b hb).2.2.2.2.1, (hf b hb).2.2.2.2.2⟩) (fun b o _ _ hc e _ => k b o hc e) (fun b o _ _ hc e _ => ⟨o.slots, k b o hc e⟩)
    (fun b o _ e n => ?_) (fun b o hc e => ⟨o, k b o hc e⟩) (fun b xs e => ?_) (fun b o u e => ?_) (fun b ps e => ⟨#[], ?_⟩) (fun m hm => ?_) (fun b u e => ?_) I.bare
  · rw [upd_ne (Nat.ne_of_lt (Nat.lt_of_lt_of_le (Heap.lt_size e) hT))]; exact n
  · rw [upd_ne (ne_of_none e hn)]; exact e
  · rw [upd_ne (ne_of_none e hn)]; exact e
  · rw [upd_ne (ne_of_none e hn), e]; simp
  · obtain ⟨o, es, ep, ho, r⟩ := hm
    exact ⟨o, es, ep, k _ o (fun z => (hf _ z).2.1 rfl) ho, r⟩
  · by_cases hb : b = T
    · subst hb
      rw [upd_same] at e
      cases e
      exact new
    · rw [upd_ne hb] at e
      refine (I.hok b u e).stay (fun c v hc q => k c v ?_ q) (fun c q => by rw [upd_ne (ne_of_none q hn)]; exact q) fun c xs q => by rw [upd_ne (ne_of_none q hn)]; exact q
      rcases hc with z | z
      · rw [z]; exact nit b u e
      · exact nit c _ z

/-! ### locking a thing while a statement runs -/
end
section
variable {X : Cx}
/-! ### one iterator just laid -/
end

/-! ### range with a step -/
/-- range(i, j, c): small bounds, n items -/
def RgC (i j c : Int) (n : Nat) : Prop := c ≠ 0 ∧ c.natAbs < 1073741824 ∧ Builtin.Range.small i j c = true ∧ Builtin.Range.rangeSize i j c = n
theorem RgC.neg {i j : Int} (ha : -(2 ^ 62) ≤ i) (ha' : i < 2 ^ 62) (hb : -(2 ^ 62) ≤ j) (hb' : j < 2 ^ 62) : RgC i j (-1) (i - j).toNat :=
  ⟨by decide, by decide, PySem.W.small_down ha ha' hb hb', PySem.W.rangeSize_downNat i j⟩
section
variable {X : Cx} {tg : Expr}
end
/-! ### reversed(list) -/
section
variable {X : Cx} {tg : Expr}
end

/-! ### a str -/
/-! ### a dict's keys: any dict's entries -/
section
variable {prog : Program} {w : World} {A : Around} {E : Value → Shared → Prop} {s : Shared}
theorem iter_keys {d : Addr} {o : Obj} {es : Array DictEntry} {ep : Nat} {Q : Value → Shared → Prop} (hd : (d == sysModules) = false) (ho : s.heap.get? d = some o) (hc : o.ExactDict) (hdat : o.data = .dict es ep)
    (hQ : Q (.ref s.heap.objs.size) { s with heap := s.heap.push { cls := .type "dict_keyiterator", data := .fields #[.ref d, .int 0 0, .int es.size 0, .int ep 0] } }) :
    wpAny (model prog w) A (pyIter (.ref d)) Q E s := by
  have hT : s.TypeIs (.ref d) "dict" := ⟨o, ho, hc.1⟩
  refine wpAny_pyIter_slot hT F.slot_dict_iter (wpAny_call_entry F.slot_dict_iter hT F.entry_dict_iter ?_ (F.args_dict_iter_1 _))
  unfold Builtin.«dict.__iter__»
  refine wpAny_bind ?_
  unfold Builtin.Dict.dictSlotNone
  refine wpAny_bind (wpAny_notOrdered_dict hT ?_)
  show wpAny _ _ (pure (Value.ref d)) _ _ s
  refine wpAny_pure ?_
  show wpAny _ _ (Builtin.Dict.showsAll d >>= _) _ _ s
  unfold Builtin.Dict.showsAll
  rw [if_neg (by rw [hd]; exact Bool.false_ne_true)]
  refine wpAny_bind (wpAny_pure ?_)
  refine wpAny_bind (wpAny_dictEntries ho hdat ?_)
  refine wpAny_bind (wpAny_dictEpoch ho hdat ?_)
  refine wpAny_bind (wpAny_newObj_type (wpAny_pure ⟨_, rfl, "dict_keyiterator", _, ⟨_, Heap.get?_push_size _ rfl, rfl⟩, F.slot_dict_keyiterator_next.lookup, ?_⟩))
  simpa [rawInt] using hQ
theorem next_key_item {it d : Addr} {i n ep : Nat} {od : Obj} {es : Array DictEntry} {en : DictEntry} {Q : Option Value → Shared → Prop} (hit : s.heap.IsKeyIter it d i n ep) (hod : s.heap.get? d = some od) (hdd : od.data = .dict es ep)
    (hsz : es.size = n) (hx : es[i]? = some en) (hQ : ∀ h', h'.IsKeyIter it d (i + 1) n ep → Heap.SameBut it s.heap h' → Q (some en.key) { s with heap := h' }) : wpAny (model prog w) A (pyNext (.ref it)) Q E s := by
  obtain ⟨o, ho, hc, hd⟩ := id hit
  unfold pyNext
  refine wpAny_bind (wpAny_attempt (wpAny_callSpecial?_slot (name := Str.ofString "__next__") hit.typeIs F.slot_dict_keyiterator_next
    (wpAny_call_entry F.slot_dict_keyiterator_next hit.typeIs F.entry_dict_keyiterator_next ?_ (F.args_dict_keyiterator_next_1 _))))
  refine wpAny_bind (wpAny_pure ?_)
  refine wpAny_bind ?_
  refine wpAny_bind ?_
  first | refine wpAny_bind (wpAny_typeNameOfWhole_keyiter hit.typeIs (wpAny_pure ?_)) | refine wpAny_bind (wpAny_typeNameOf_keyiter hit.typeIs (wpAny_pure ?_))
  refine wpAny_bind (wpAny_fieldsOf ho hd ?_)
  have hown : Builtin.Dict_items.ownsTuple "dict_keyiterator" = false := by decide
  simp only [hown, Bool.false_eq_true, if_false]
  show wpAny _ _ (if (Value.ref d == Value.none) = true then _ else _) _ _ s
  rw [if_neg (show ¬ ((Value.ref d == Value.none) = true) from Bool.false_ne_true)]
  refine wpAny_bind (wpAny_pure ?_)
  refine wpAny_bind (wpAny_dictEntries hod hdd ?_)
  rw [if_neg (by rw [hsz]; simp)]
  refine wpAny_bind (wpAny_pure ?_)
  refine wpAny_bind (wpAny_dictEpoch hod hdd ?_)
  rw [if_neg (by simp)]
  refine wpAny_pure ?_
  obtain ⟨hlt', hen⟩ := Array.getElem?_eq_some_iff.mp hx
  simp only [show ¬ ((i : Int) < 0) from by omega, if_false, Int.toNat_natCast, Array.getElem?_eq_getElem hlt']
  refine wpAny_bind ?_
  first | refine wpAny_bind (wpAny_typeNameOfWhole_keyiter hit.typeIs (wpAny_pure ?_)) | refine wpAny_bind (wpAny_typeNameOf_keyiter hit.typeIs (wpAny_pure ?_))
  refine wpAny_bind (wpAny_isOneOf_keyiter hit.typeIs ?_)
  show wpAny _ _ (setField (.ref it) 1 (rawInt ((i : Int) + 1)) >>= _) _ _ s
  refine wpAny_bind (wpAny_setField ho hd (by simp) ?_)
  have hit' : (s.heap.update it (Obj.mapFields (·.setIfInBounds 1 (rawInt ((i : Int) + 1))))).IsKeyIter it d (i + 1) n ep :=
    ⟨_, Heap.get?_update_self _ ho (Obj.isFreed_of_fields (Obj.data_mapFields hd _)), (Obj.cls_mapFields ..).trans hc, by rw [Obj.data_mapFields hd]; simp [rawInt]⟩
  refine wpAny_bind (wpAny_holding ?_)
  refine wpAny_bind (wpAny_isOneOf_keyiter (s := { s with heap := s.heap.update it (Obj.mapFields (·.setIfInBounds 1 (rawInt ((i : Int) + 1)))) }) hit'.typeIs ?_)
  show wpAny _ _ (pure es[i].key) _ _ _
  rw [hen]
  exact wpAny_pure (wpAny_pure ⟨_, rfl, wpAny_pure (hQ _ hit' (Heap.SameBut.update ..))⟩)
theorem next_key_end {it d : Addr} {i n ep : Nat} {od : Obj} {es : Array DictEntry} {Q : Option Value → Shared → Prop} (hh : A.handled = none) (hit : s.heap.IsKeyIter it d i n ep) (hod : s.heap.get? d = some od) (hdd : od.data = .dict es ep)
    (hsz : es.size = n) (hge : n ≤ i) (hQ : ∀ h', Heap.ExtBut it s.heap h' → Q none { s with heap := h' }) : wpAny (model prog w) A (pyNext (.ref it)) Q E s := by
  obtain ⟨o, ho, hc, hd⟩ := id hit
  unfold pyNext
  refine wpAny_bind (wpAny_attempt (wpAny_callSpecial?_slot (name := Str.ofString "__next__") hit.typeIs F.slot_dict_keyiterator_next
    (wpAny_call_entry F.slot_dict_keyiterator_next hit.typeIs F.entry_dict_keyiterator_next ?_ (F.args_dict_keyiterator_next_1 _))))
  refine wpAny_bind (wpAny_pure ?_)
  refine wpAny_bind ?_
  refine wpAny_bind ?_
  first | refine wpAny_bind (wpAny_typeNameOfWhole_keyiter hit.typeIs (wpAny_pure ?_)) | refine wpAny_bind (wpAny_typeNameOf_keyiter hit.typeIs (wpAny_pure ?_))
  refine wpAny_bind (wpAny_fieldsOf ho hd ?_)
  have hown : Builtin.Dict_items.ownsTuple "dict_keyiterator" = false := by decide
  simp only [hown, Bool.false_eq_true, if_false]
  show wpAny _ _ (if (Value.ref d == Value.none) = true then _ else _) _ _ s
  rw [if_neg (show ¬ ((Value.ref d == Value.none) = true) from Bool.false_ne_true)]
  refine wpAny_bind (wpAny_pure ?_)
  refine wpAny_bind (wpAny_dictEntries hod hdd ?_)
  rw [if_neg (by rw [hsz]; simp)]
  refine wpAny_bind (wpAny_pure ?_)
  refine wpAny_bind (wpAny_dictEpoch hod hdd ?_)
  rw [if_neg (by simp)]
  refine wpAny_pure ?_
  have hge' : es.size ≤ i := by rw [hsz]; exact hge
  simp only [show ¬ ((i : Int) < 0) from by omega, if_false, Int.toNat_natCast, Array.getElem?_eq_none hge']
  refine wpAny_bind ?_
  first | refine wpAny_bind (wpAny_typeNameOfWhole_keyiter hit.typeIs (wpAny_pure ?_)) | refine wpAny_bind (wpAny_typeNameOf_keyiter hit.typeIs (wpAny_pure ?_))
  show wpAny _ _ (setField (.ref it) 0 .none >>= _) _ _ s
  refine wpAny_bind (wpAny_setField ho hd (by simp) ?_)
  show wpAny _ _ (newExc (.type "StopIteration") [] >>= _) _ _ _
  refine wpAny_bind ?_
  simp only [newExc, newTuple]
  refine wpAny_bind (wpAny_newObj_type ?_ (by size_fits))
  refine wpAny_bind (m := firstArgMember _ _) (wpAny_of_eq (a := Value.none) (by first | rfl | (simp only [firstArgMember]; rfl)) ?_)
  refine wpAny_newObj_type ?_ (by size_fits)
  simp only [raiseNew]
  refine wpAny_bind (wpAny_handled ?_)
  rw [show A.in1.handled = none from hh]
  refine wpAny_bind (wpAny_pure (wpAny_throw ?_))
  refine wpAny_bind (wpAny_isInstance (T := "StopIteration") (b := true) ⟨_, Heap.get?_push_size _ rfl, rfl⟩ isSubtype_stop ?_)
  exact wpAny_pure (hQ _ (((Heap.SameBut.update ..).extBut.push _).push _))
end

/-! ### a locked dict -/
section
variable {X : Cx} {pins : List (Addr × Obj)} {σ : St} {H : Hp} {s : Shared} {d : Addr} {o : Obj}
end

section
variable {P : Program} {w : World} {K : PySem.W.Frag} {tg : Expr} {d : Addr} {o : Obj} {es : Array DictEntry} {ep : Nat}
end

/-! ### for k in d, d.keys(), d.values(), d.items() -/
section
variable {X : Cx} {tg e : Expr} {td : TE} {apos cpos : Pos}
end

/-! ### enumerate(list) -/
/-- the list at a as it stands at each turn, each item in a new pair -/
def Ite (K : PySem.W.Frag) (a : Addr) : It :=
  ⟨fun i H => ∃ (xs : List V) (x : V), SqL K H a xs ∧ xs[i]? = some x, fun i H v H' => ∃ T x, v = .ref T ∧ H T = none ∧ H' = upd H T (.tup [.int (i : Nat), x]) ∧ ∀ xs, SqL K H a xs → xs[i]? = some x, fun i H => ∃ xs : List V, SqL K H a xs ∧ xs.length ≤ i⟩
theorem turn_enum {P : Program} {w : World} {K : PySem.W.Frag} {elts : List Expr} {kk : Nat} {tpos : Pos} (a e it : Addr) :
    Turn P w K (.Tuple elts kk tpos) (Ite K a) [e, it] e (fun i h => (∃ old, IsEnum h e it ((i : Nat) : Int) old) ∧ h.IsListIter it a i ∧ e ≠ it) where
  mem := by simp
  obj := fun i h st b hb => by
    obtain ⟨⟨old, he⟩, ⟨o, ho, hc, hd⟩, _⟩ := st
    have e' : b = e ∨ b = it := by simpa using hb
    rcases e' with z | z
    · rw [z]; exact ⟨_, he, fun v q => nomatch q⟩
    · rw [z]; exact ⟨o, ho, fun v q => by rw [hd] at q; cases q⟩
  keep := fun i h h' st k => let ⟨⟨old, he⟩, hi, hne⟩ := st; ⟨⟨old, k e (by simp) _ he⟩, hi.at fun o q => k it (by simp) o q, hne⟩
  item := by
    intro X hP hw hK hc i pins s σ H E I hf st hg
    subst hP hw hK
    obtain ⟨⟨old, he⟩, hit, hne⟩ := st
    obtain ⟨xs, x, hq, hx⟩ := hg
    obtain ⟨its, rv, p, hz⟩ := I.list hq
    obtain ⟨u, hu, ru⟩ := rv.get hx
    have hel : e < s.heap.objs.size := Heap.lt_size he
    have hil : it < s.heap.objs.size := by obtain ⟨_, q, _⟩ := hit; exact Heap.lt_size q
    refine wpAny_pyNext_enum_item he hit p.isList (x := u) (by simpa using hu) hne fun h' ho hit' hT hsz hk => ?_
    refine ⟨_, rfl, wpAny_letOwnedTupleGo_enum (s := { s with heap := h', toks := s.toks + 1 }) ho fun h'' he' sb => ?_⟩
    have hT2 : h''.get? s.heap.objs.size = some { cls := .type "tuple", data := .seq #[.int i s.toks, u] } := (sb.2 _ (Nat.ne_of_gt hel)).trans hT
    have new : ObjOk X.prog X.w (upd H s.heap.objs.size (.tup [.int (i : Nat), x])) h'' s.heap.objs.size (.tup [.int (i : Nat), x]) :=
      ⟨by show 2 ≤ sizeLine; decide, [.int i s.toks, u], .cons ⟨_, rfl⟩ (.cons ru .nil), ⟨_, hT2, rfl, _, rfl⟩, ⟨_, hT2, rfl⟩⟩
    have I1 : Inv X pins σ (upd H s.heap.objs.size (.tup [.int (i : Nat), x])) { s with heap := h'', toks := s.toks + 1 } :=
      I.turnedNew (ch := [e, it]) (fun b ob hb q => (sb.2 b (fun z => hb (by simp [z]))).trans (hk b ob (fun z => hb (by simp [z])) (fun z => hb (by simp [z])) q)) hf (Nat.le_refl _) new
    refine ⟨.ref s.heap.objs.size, _, I1, rfl, ⟨_, x, rfl, I.hok.fresh (Nat.le_refl _), rfl, fun ys hy => by rw [I.list_inj hy hq]; exact hx⟩, ⟨⟨u, ?_⟩, hit'.at fun o q => (sb.2 it (Ne.symm hne)).trans q, hne⟩, fun b hb => ?_⟩
    · have e1 : ((i + 1 : Nat) : Int) = (i : Int) + 1 := by omega
      rw [e1]; exact he'
    · have hb' : b < s.heap.objs.size := by
        have e' : b = e ∨ b = it := by simpa using hb
        rcases e' with z | z
        · rw [z]; exact hel
        · rw [z]; exact hil
      rw [upd_ne (Nat.ne_of_lt hb')]
      exact (hf b hb).1
  done := by
    intro X hP hw hK hc i pins s σ H E I hf st hg
    subst hP hw hK
    obtain ⟨⟨old, he⟩, hit, hne⟩ := st
    obtain ⟨xs, hq, hx⟩ := hg
    obtain ⟨its, rv, p, hz⟩ := I.list hq
    obtain ⟨f0, f1, f2, f3, f4, f5⟩ := hf it (by simp)
    have hl := rv.length
    exact wpAny_pyNext_enum_end (I.ok.hd hc) he hit p.isList (by simp; omega) fun h' eb => ⟨rfl, I.turned (t' := s.toks) (fun b o hb q => eb b o hb q) f0 f1 f3 f4 f5⟩
  self := fun A i s Q E st h => let ⟨⟨_, he⟩, _⟩ := st; wpAny_pyIter_enum he h
def iEnum (K : PySem.W.Frag) (ta : TA) : TI := fun σ H R => ta σ H fun vs H1 => ∃ a xs, vs = [.ref a] ∧ SqL K H1 a xs ∧ R (Ite K a) H1
theorem pi_enum {X : Cx} {e : Expr} {ta : TA} {p pos tpos : Pos} {elts : List Expr} {kk : Nat} (hg : Gl X "enumerate") (hm : X.mg "enumerate" = none) (ha : PA X [e] ta) (hs : starEach [e] X.env = [(false, eval e X.env)] := by rfl) :
    PI X (.Tuple elts kk tpos) (.Call (.Name "enumerate" p) [e] [] pos) (iEnum X.K ta) := by
  intro pins s σ H R I h
  refine Call_ (ld_blt I hg hm boot_enumerate (PyProof.Rows.callWith_type1 (thn (ha pos pins s σ H _ I h) fun us s1 ⟨vs, H1, I1, r1, q1⟩ => ?_) hs rfl))
  obtain ⟨a, xs, ex, hq, q⟩ := q1
  subst ex
  cases r1 with
  | cons r rr =>
    cases rr
    cases r
    obtain ⟨its, rv, p', hz⟩ := I1.list hq
    refine call_enumerate_list p'.isList fun h' he hit hsz hk => wpAny_pyIter_enum he ?_
    have I2 : Inv X pins σ H1 { s1 with heap := h' } := I1.kept (t' := s1.toks) hk
    refine ⟨s1.heap.objs.size + 1, [s1.heap.objs.size + 1, s1.heap.objs.size], _, _, H1, rfl, I2, turn_enum a (s1.heap.objs.size + 1) s1.heap.objs.size, ⟨⟨.none, he⟩, hit, Nat.succ_ne_self _⟩, fun b hb => ?_, q⟩
    have e' : b = s1.heap.objs.size + 1 ∨ b = s1.heap.objs.size := by simpa using hb
    have hle : s1.heap.objs.size ≤ b := by
      rcases e' with z | z
      · rw [z]; exact Nat.le_add_right _ _
      · rw [z]; exact Nat.le_refl _
    exact I1.fpOk hle (I1.hok.fresh hle)
/-! ### zip(list, list) -/
end L2

section 
namespace Bits
open PySem PyProof.Rows

end Bits
end 

section 
namespace TL
open PySem PySem.Builtin PySem.Builtin.Str PySem.StrLaws

abbrev tl (x : Str) : List Nat := x.cps.toList
theorem len_tl (x : Str) : x.length = (tl x).length := by simp [tl, Str.length]
/-! ### the list functions -/
/-- S stands at the head of l -/
def pre (S l : List Nat) : Bool := l.take S.length == S
/-- l cut at each S from the left; k signs are still to be passed over -/
def spl (S : List Nat) : Nat → List Nat → List Nat → List (List Nat)
  | _, acc, [] => [acc]
  | 0, acc, c :: r => if pre S (c :: r) = true then acc :: spl S (S.length - 1) [] r else spl S 0 (acc ++ [c]) r
  | k + 1, acc, _ :: r => spl S k acc r
/-- what stands before the first S, and behind it -/
def par (S : List Nat) : List Nat → List Nat → Option (List Nat × List Nat)
  | _, [] => none
  | acc, c :: r => if pre S (c :: r) = true then some (acc, (c :: r).drop S.length) else par S (acc ++ [c]) r

/-! ### the model's split and partition are these -/
theorem len1 {y : Str} (hy : tl y ≠ []) : 1 ≤ y.length := by
  have e2 : 0 < (tl y).length := List.length_pos_iff.mpr hy
  rw [len_tl y]
  exact e2
/-! ### computing spl and par -/
/-- joined lists -/
def joinL (S : List Nat) : List (List Nat) → List Nat
  | [] => []
  | [p] => p
  | p :: q :: r => p ++ (S ++ joinL S (q :: r))
/-! ### digits -/
/-! ### words: x.split() -/
end TL
end 

namespace L2
open PySem PySem.Spec PyProof.Rows

section
variable {X : Cx} {pins : List (Addr × Obj)} {σ : St} {H : Hp} {s : Shared} {Q : VK}
end

section
variable {X : Cx}

/-! ### of a text alone -/
/-! ### of a text and a text -/
end

section
variable {X : Cx} {o e : Expr} {to te : TE}
end
end L2

namespace L2
open PySem PySem.Spec PyProof.Rows

section
variable {X : Cx}
end

/-! ### slices of a text -/
theorem IsPart.raw {v : Value} {o : Option Int} (p : IsPart v o) : ∃ l : Option (Int × Tok), v = partValue l ∧ l.map (·.1) = o := by
  cases p with
  | none => exact ⟨none, rfl, rfl⟩
  | int i t => exact ⟨some (i, t), rfl, rfl⟩

end L2

namespace Att
open PySem PySem.W PySem.Calls PyProof.Rows

/-! ### the script -/
theorem ints_of_wellAll {P : Params} {h : Heap} : ∀ (ns : List Int) (vs : List Value), WellAll P h vs (ns.map WData.int) → IntsAre vs ns := by
  intro ns
  induction ns with
  | nil =>
    intro vs w
    rw [List.map_nil] at w
    cases w
    exact .nil
  | cons n ns ih =>
    intro vs w
    rw [List.map_cons] at w
    cases w with
    | cons a b =>
      cases a
      exact .cons _ _ (ih _ b)

theorem script_of {l : OpenLaw} {n : Nat} (hn : l.most = some n) {P : Params} {h : Heap} {args : List WData} {vals : List Value}
    (hpre : l.row.toRowW.claim.pre args = true) (hwl : WellAll P h vals args) :
    ∃ a vs ns, vals = [Value.ref a] ∧ args = [WData.list (ns.map WData.int)] ∧ h.get? a = some { cls := .type "list", data := .seq vs.toArray } ∧ IntsAre vs ns ∧ ns.length ≤ n := by
  have hsh : WShape.hasAll [] args [.list .int] = true := (pre_splitW hpre).1
  have hc : l.pre.holds [] { args := args } = true := (pre_splitW hpre).2
  obtain ⟨d, r, rfl, h1, h2⟩ := hasAllW_cons hsh
  obtain rfl := hasAllW_nil h2
  obtain ⟨xs, rfl, h3⟩ := hasW_list h1
  obtain ⟨ns, rfl⟩ := items_int h3
  have hlen : ns.length ≤ n := by
    unfold OpenLaw.pre at hc
    have h4 : (WTm.not (.lt (.lit (.int (n : Int))) (.len (.arg 0)))).holds [] { args := [.list (ns.map .int)] } = true := by
      have h4 := (holds_andW hc).1
      rw [hn] at h4
      exact h4
    have h5 := condW_of h4 (w_not (w_lt w_lit (w_len_list (w_arg rfl))))
    rw [List.length_map] at h5
    refine Nat.le_of_not_lt fun q => ?_
    have q' : (n : Int) < ((ns.length : Nat) : Int) := by omega
    first
      | (rw [decide_eq_true q'] at h5; exact absurd h5 (by decide))
      | (simp at h5; omega)
  cases hwl with
  | cons w1 w2 =>
    cases w2
    cases w1 with
    | list ho hall => exact ⟨_, _, ns, rfl, rfl, ho, ints_of_wellAll ns _ hall, hlen⟩

theorem post_true (l : OpenLaw) (args : List WData) : l.row.toRowW.claim.post args (.bool true) args = true :=
  postW_of (r := l.row.toRowW) (X := (true == true))
    (show WShape.has [] (.bool true) .bool = true by first | rfl | decide | simp [WShape.has, WShape.arms, WShape.armsAll])
    (show (WTm.eq .res (.lit (.bool true))).value [] { args := args, res := some (.bool true), after := args } = some (.bool (true == true)) from w_eq_bool (w_res rfl) w_lit) rfl

/-! ### the attachment: holds_open's last premise (the goal 'hc' behind k_head) from a wpAny of the law's body -/
/-- the same from a codeAny of the CALL (for a layer whose function contracts speak of calls) -/
theorem attach_call {l : OpenLaw} {n : Nat} {q : Program} {loose : List Str} {XP : (Str → Option Value) → Heap → Prop} {YP : World → Heap → Prop} {d : DefRec}
    (hn : l.most = some n) (hdf : d.params.defaults = [])
    (call : ∀ (w : World) (s₀ s₁ : Shared) (mg mb : Str → Option Value) (fa : Addr) (o : Obj) (pm cd doc : Value) (a : Addr) (vs : List Value) (ns : List Int),
      Ground q loose [] XP w s₀ mg mb s₁.heap → YP w s₁.heap →
      s₁.heap.get? fa = some o → o.data = .func (docDef d.name d.params d.body d.scope pm cd doc) → s₁.heap.CodeRec cd d.name → mg d.name = some (.ref fa) →
      s₁.heap.get? a = some { cls := .type "list", data := .seq vs.toArray } → IntsAre vs ns → ns.length ≤ n → s₁.gens = #[] →
      codeAny (model l.prog w) callerA (.call (.ref fa) ⟨[.ref a], []⟩) (fun r s' => r = .ok (.ret (.bool true)) ∧ OldK s₁.heap s'.heap ∧ s'.os = s₁.os ∧ AllBare s'.gens) s₁) :
    WalkO q loose XP YP l.row.toRowW d [] (fun f vs => PySem.call f vs) := by
  intro w s₀ s₁ mg mb G Y fa o pm cd doc dV kV ho hd hcd hD hmg hg args vals as hpre hlay hrd hwl hlo
  obtain rfl : dV = .none := Dflts.none hD hdf
  obtain rfl : kV = .none := Dflts.noKw hD
  obtain ⟨a, vs, ns, rfl, rfl, hobj, hints, hlen⟩ := script_of hn hpre hwl
  refine enter_call (codeAny_mono (call w s₀ s₁ mg mb fa o pm cd doc a vs ns G Y ho (fd_plain hd) hcd hmg hobj hints hlen hg) fun r s' hq => ?_)
  obtain ⟨rfl, h2, h3, h4⟩ := hq
  exact ⟨.inl ⟨.bool true, .bool true, [], rfl, fun _ => rfl, .bool true, post_true l _, fun _ => ⟨List.Pairwise.nil, fun _ hm => (nomatch hm)⟩⟩, h2, h3, h4⟩

/-! ### rules over ANY heap (no ledger) from facts about the written part K: the library's own take a ledger (News) for what they write -/
section
variable {prog : Program} {w : World} {A : Around} {E : Value → Shared → Prop} {s : Shared} {K : Frag}

/-! the whole heap as the ledger: makes every rule that writes through a ledger a rule over any heap -/
def ledger (h : Heap) (L d : Addr) : List (Addr × Obj) := (List.range h.objs.size).filterMap fun a => if a = L ∨ a = d then none else (h.get? a).map fun o => (a, o)
end
end Att

namespace L2
open PySem PySem.Spec PyProof.Rows

theorem vals_ints : ∀ {vs : List Value} {ns : List Int}, IntsAre vs ns → Vals (ns.map V.int) vs
  | _, _, .nil => .nil
  | _, _, .cons n t h => .cons ⟨t, rfl⟩ (vals_ints h)

end L2

namespace L2
open PySem PySem.Spec PyProof.Rows

abbrev KOf {K : PySem.W.Frag} {h : Heap} (_ : K.In h) : PySem.W.Frag := K

end L2

/- THE LAST THEOREM (shape; LID, My.* are yours):
   My.Adr: a structure of the addresses that your layer names (classes, functions); My.Txt K t: a structure (Prop) of the equations over K;
   My.txt_mk : {K} {implicit addresses ..} (e1 : nsIn K mainGlobals "law" = some (some (.ref f))) (e2 : K.lookup f = some ⟨oc, od, .func (fnOf "law" "law" params body scope dV kV doc pm an cdv ct), sl⟩) (e3 : codeIn K cdv "law" = true) .. : ∃ t, My.Txt K t

set_option maxRecDepth 100000 in
set_option maxHeartbeats 0 in
theorem PySem.Challenge.cw_LID_holds : PySem.Challenge.rw_LID.Holds := by
  w_on; o_law; k_head; (case hw => w_witness2)
  k_fill
  refine L2.walk_of (l := PySem.Challenge.rw_LID) (n := 63) (k := 40) (x := "script") (CX := fun w => ..) (sp := fun _ => My.sp_law) rfl (by decide) rfl ⟨rfl, by decide, by decide⟩ (fun w h Y => PySem.W.kIn_of Y) ?F ?S ?C
  case F =>
    intro w mg fa h KX G hmg
    have T : ∃ t, My.Txt (L2.KOf KX) t := by
      dsimp only [L2.KOf]                          -- K must stand as «<heap const> w.params» for k_is
      refine' My.txt_mk ?e1 ?e2 ?e3 ..
      (case e1 => PySem.W.k_is)                    -- in the order: a name -> its address -> its object -> its parts
      (case e2 => PySem.W.k_is)
      ..
    obtain ⟨t, T⟩ := T
    have e0 := hmg.symm.trans (PySem.W.mg_of KX G T.law)
    cases e0                                       -- fa is the law's own address
    exact ⟨_, fun s u => .of_eq rfl, fun base kb nb => My.law_fn T kb nb⟩     -- if «.of_eq rfl» comes too early: refine' ⟨_, ?b, fun base kb nb => My.law_fn T kb nb⟩; exact fun s u => .of_eq rfl
  case S => exact fun w H a ns hl hO hS => ..
  case C => exact ..
(the tactic k_is has no namespace: write k_is) -/

/-! SHORT WORDS over the layer: a def of the text, its body, what a loop and a test want. -/
namespace L2
open PySem PySem.Spec PyProof.Rows

/-! ### the text by places -/
def defArgs (s : Stmt) : Arguments := match s with
  | .FunctionDef _ a _ _ _ _ _ _ _ _ => a
  | _ => { posonlyargs := [], args := [], vararg := none, kwonlyargs := [], kw_defaults := [], kwarg := none, defaults := [] }
def defBody (s : Stmt) : List Stmt := match s with
  | .FunctionDef _ _ b _ _ _ _ _ _ _ => b
  | _ => []
def defScope (s : Stmt) : Scope := match s with
  | .FunctionDef _ _ _ _ _ _ sc _ _ _ => sc
  | _ => { kind := .function, names := [], isGenerator := false, isCoroutine := false }

/-! ### no exception leaves a def -/
abbrev CXq (gq : Array GenState → Drawn → Prop) : CXT := ⟨gq, False, fun _ _ _ _ _ _ => False⟩
abbrev CXr (gq : Array GenState → Drawn → Prop) : CXT := ⟨gq, True, fun _ _ _ _ _ _ => False⟩
abbrev Bare : Array GenState → Drawn → Prop := fun g _ => AllBare g
abbrev CX0 : CXT := CXq Bare
abbrev E0 : XK := fun _ _ _ => False
theorem pass0 {X : Cx} {gq : Array GenState → Drawn → Prop} (h : gq = X.gq := by rfl) : Passes (CXq gq) X E0 := ⟨h, False.elim, fun _ _ _ _ _ _ _ h => h.elim⟩
/-! ### a def (or method) of the text as it stands behind the top -/
structure Fun (K : PySem.W.Frag) (x qual : Str) (st : Stmt) (f : Addr) (fd : FuncData) : Prop where
  ex : ∃ (oc : Value) (od : Option Addr) (kV doc pm : Value) (an : Option Addr) (cdv ct : Value) (osl : Array (Option Value)),
    fd = PySem.W.fnOf x qual (defArgs st) (defBody st) (defScope st) .none kV doc pm an cdv ct ∧ K.lookup f = some ⟨oc, od, .func fd, osl⟩ ∧ PySem.W.codeIn K cdv qual = true
  kp : PySem.W.keepIn K (.ref f) = true
section
variable {P : Program} {w : World} {K : PySem.W.Frag} {mg : Str → Option Value} {base : Heap} {gq : Array GenState → Drawn → Prop}
/-- THE RULE for a def: its body as a term of rules, and the reading of that term -/
theorem Fun.ok {x qual : Str} {st : Stmt} {f : Addr} {fd : FuncData} {N ps : List Str} {k : Nat} {sp : Sp} (F : Fun K x qual st f fd) (S : FnScope N ps (defScope st)) (len : ∀ vs H Q E, sp vs H Q E → vs.length = ps.length)
    (hbody : ∀ (cdv : Value) (A : Around) (outer : List Env) (s : Shared) (H : Hp) (vs : List V) (Q : VK) (E : XK), Room k (A.deeper (envOfC qual (defScope st) s.heap.objs.size f cdv)) → sp vs H Q E →
      ∃ t, PSs (cxOf (CXq gq) P w K mg base N qual (defScope st) f cdv A outer s H E).nox (defBody st) t ∧ t { nx := fun _ H' => Q .non H', rt := Q } (start N vs) H) : FnOk P w K mg base (CXq gq) (k + 1) f fd ps sp := by
  obtain ⟨oc, od, kV, doc, pm, an, cdv, ct, osl, rfl, lk, hcd⟩ := F.ex
  refine fn_of lk hcd S len fun A outer s H vs Q E hr hsp => ?_
  obtain ⟨t, h, q⟩ := hbody cdv A outer s H vs Q E hr hsp
  exact ⟨t, h.nox, q⟩
/-- how its arguments bind (no defaults): h is «fun _ _ _ _ _ _ us hl => match us, hl with | [_, _], _ => rfl», one _ a parameter -/
theorem Fun.binds {x qual : Str} {st : Stmt} {f : Addr} {fd : FuncData} {ps : List Str} (F : Fun K x qual st f fd)
    (h : ∀ (kV doc pm : Value) (an : Option Addr) (cdv ct : Value) (us : List Value), us.length = ps.length → bindArgs (PySem.W.fnOf x qual (defArgs st) (defBody st) (defScope st) .none kV doc pm an cdv ct) ⟨us, []⟩ = pure (ps.zip us)) : Binds K fd ps [] := by
  obtain ⟨oc, od, kV, doc, pm, an, cdv, ct, osl, rfl, lk, hcd⟩ := F.ex
  exact .all (h kV doc pm an cdv ct)
theorem fun_mk {x qual : Str} {st : Stmt} {f : Addr} {oc : Value} {od an : Option Addr} {osl : Array (Option Value)} {kV doc pm cdv ct : Value} (l : K.lookup f = some ⟨oc, od, .func (PySem.W.fnOf x qual (defArgs st) (defBody st) (defScope st) .none kV doc pm an cdv ct), osl⟩)
    (c : PySem.W.codeIn K cdv qual = true) (k : PySem.W.keepIn K (.ref f) = true) : Fun K x qual st f (PySem.W.fnOf x qual (defArgs st) (defBody st) (defScope st) .none kV doc pm an cdv ct) := ⟨⟨oc, od, kV, doc, pm, an, cdv, ct, osl, rfl, l, c⟩, k⟩
end
theorem hu_of {A : Around} {k : Nat} (hr : Room k A) : A.units + 1 < cLine := Nat.lt_of_le_of_lt (Nat.add_le_add_left (by decide : 1 ≤ 64) _) hr.units
theorem small1000 {n : Nat} (h : n ≤ 1000) : n < sizeLine := Nat.lt_of_le_of_lt h (by decide)

/-! ### expressions in short: the name that stands in the i-th slot -/
section
variable {X : Cx}
theorem pv (i : Nat) {x : Str} {pos : Pos} (hN : X.N[i]? = some x := by rfl) (hv : Vis X.env.scope x := by first | exact Or.inl rfl | exact Or.inr (Or.inl rfl) | exact Or.inr (Or.inr rfl)) (hd : (x == ("__debug__" : Str)) = false := by decide)
    (hcd : (x == ("__classdict__" : Str)) = false := by decide) : PE X (.Name x pos) (tVar i) := pe_var hN hv hd hcd
end

/-! ### tests -/
theorem iteF {A B : Prop} (h : B) : if false = true then A else B := by
  rw [if_neg Bool.false_ne_true]
  exact h
theorem iteT {A B : Prop} (h : A) : if true = true then A else B := by
  rw [if_pos rfl]
  exact h
theorem ite2 {c A B : Prop} [Decidable c] (h1 : c → A) (h2 : ¬ c → B) : if c then A else B := by
  by_cases h : c
  · rw [if_pos h]
    exact h1 h
  · rw [if_neg h]
    exact h2 h
/-! ### heaps -/
/-- all that was tracked is as it was -/
def Same (H H' : Hp) : Prop := ∀ b o, H b = some o → H' b = some o
theorem Same.refl (H : Hp) : Same H H := fun _ _ h => h
theorem Same.trans {H H1 H2 : Hp} (a : Same H H1) (b : Same H1 H2) : Same H H2 := fun c o h => b c o (a c o h)
theorem Same.free {H H' : Hp} (e : Same H H') {l : Addr} (h : H' l = Option.none) : H l = Option.none := by
  cases q : H l with
  | none => rfl
  | some o =>
    rw [e l o q] at h
    cases h
theorem Same.seq {K : PySem.W.Frag} {H H' : Hp} {a : Addr} {xs : List V} (e : Same H H') (h : SqL K H a xs) : SqL K H' a xs := by
  rcases h with (h | ⟨o, h⟩) | h
  · exact .inl (.inl (e _ _ h))
  · exact .inl (.inr ⟨o, e _ _ h⟩)
  · exact .inr h

/-! ### a dict's pairs: keys that differ -/
section
variable {κ : Type} [DecidableEq κ]
end
/-! ### lists -/
theorem at_of {xs : List V} {z : Int} {j : Nat} {v : V} (e : z = (j : Int)) (h : xs[j]? = some v) : atI xs z = some v := by
  rw [e]
  exact atI_nat h
/-- a new instance and its __init__ leave all that was tracked as it was -/
theorem Same.made {H H1 : Hp} {x dx C : Addr} (nx : H x = Option.none) (nd : H dx = Option.none) (k : ∀ b o, (upd (upd H dx (.own x)) x (.ins C dx [])) b = some o → b ≠ x → H1 b = some o) : Same H H1 := fun b o e =>
  k b o (by rw [upd_ne (ne_of_none e nx), upd_ne (ne_of_none e nd)]; exact e) (ne_of_none e nx)
end L2

set_option Elab.async false
set_option linter.all false
set_option maxRecDepth 100000
namespace L2
open PySem PySem.Spec PyProof.Rows

/-! ### a def's table of codes, tracked without its rows -/
def TabP (P : Addr) : HO := .ext fun h => ∃ ps, h.get? P = some (PySem.W.tabObj ps) ∧ TriplesOk ps.toList
theorem TabP.ok {Pr : Program} {w : World} {H : Hp} {h : Heap} {P : Addr} {ps : Array Value} (e : h.get? P = some (PySem.W.tabObj ps)) (t : TriplesOk ps.toList) : ObjOk Pr w H h P (TabP P) :=
  ⟨⟨ps, e, t⟩, ⟨_, e⟩, fun h1 h2 ⟨ps, e, t⟩ k => ⟨ps, k _ e, t⟩⟩

/-! ### what an element of a generator may read: lists and tuples, frozen -/
def frz1 (h : Heap) (a : Addr) : HO → Option HO
  | .lst xs => (h.get? a).map fun o => .frz o (.lst xs)
  | .tup xs => (h.get? a).map fun o => .frz o (.tup xs)
  | .frz o (.lst xs) => some (.frz o (.lst xs))
  | .frz o (.tup xs) => some (.frz o (.tup xs))
  | _ => none
def frzH (h : Heap) (H : Hp) : Hp := fun a => (H a).bind (frz1 h a)
def FzS (u : HO) : Prop := ∃ o v, u = .frz o v ∧ ((∃ xs, v = .lst xs) ∨ ∃ xs, v = .tup xs)
section
variable {P : Program} {w : World} {H Hf H' : Hp} {h h' : Heap} {a : Addr}
theorem frzH_none (e : H a = none) : frzH h H a = none := by unfold frzH; rw [e]; rfl
theorem frzH_ext {φ : Heap → Prop} (e : H a = some (.ext φ)) : frzH h H a = none := by unfold frzH; rw [e]; rfl
theorem frzH_ok (ok : HOk P w H h) : HOk P w (frzH h H) h ∧ ∀ b u, frzH h H b = some u → FzS u := by
  have key : ∀ b u, frzH h H b = some u → ObjOk P w (frzH h H) h b u ∧ FzS u := by
    intro b u e
    unfold frzH at e
    cases q : H b with
    | none => rw [q] at e; cases e
    | some o =>
      rw [q] at e
      have e : frz1 h b o = some u := e
      have x := ok b o q
      cases o with
      | lst xs =>
        have e : ((h.get? b).map fun o => HO.frz o (.lst xs)) = some u := e
        cases g : h.get? b with
        | none => rw [g] at e; cases e
        | some ob => rw [g] at e; cases e; exact ⟨⟨g, x⟩, _, _, rfl, .inl ⟨xs, rfl⟩⟩
      | tup xs =>
        have e : ((h.get? b).map fun o => HO.frz o (.tup xs)) = some u := e
        cases g : h.get? b with
        | none => rw [g] at e; cases e
        | some ob => rw [g] at e; cases e; exact ⟨⟨g, x⟩, _, _, rfl, .inr ⟨xs, rfl⟩⟩
      | frz ob v =>
        cases v with
        | lst xs => cases e; exact ⟨x, _, _, rfl, .inl ⟨xs, rfl⟩⟩
        | tup xs => cases e; exact ⟨x, _, _, rfl, .inr ⟨xs, rfl⟩⟩
        | _ => cases e
      | _ => cases e
  exact ⟨fun b u e => (key b u e).1, fun b u e => (key b u e).2⟩
theorem frzH_move (ok : HOk P w Hf h) (fz : ∀ b u, Hf b = some u → FzS u) (k : ∀ b o, Hf b ≠ none → h.get? b = some o → h'.get? b = some o) : HOk P w Hf h' := by
  intro b u e
  obtain ⟨o, v, rfl, hv⟩ := fz b u e
  obtain ⟨e1, e2⟩ := ok b _ e
  have kb := k b o (by rw [e]; simp) e1
  refine ⟨kb, ?_⟩
  rcases hv with ⟨xs, rfl⟩ | ⟨xs, rfl⟩
  · obtain ⟨z, its, n, r, g⟩ := e2
    rw [e1] at g
    exact ⟨z, its, n, r, kb.trans g⟩
  · obtain ⟨z, its, r, ⟨ob, g, c⟩, od, g', c'⟩ := e2
    rw [e1] at g g'
    exact ⟨z, its, r, ⟨ob, kb.trans g, c⟩, od, kb.trans g', c'⟩
theorem frzH_keeps (fz : ∀ b u, Hf b = some u → FzS u) (ok : HOk P w Hf h) (un : Un [] [] Hf H' h h') (ok' : HOk P w H' h') : ∀ b o, h.get? b = some o → h'.get? b = some o := by
  intro b o e
  cases q : Hf b with
  | none => exact un.keep b o e q (by simp) (by simp)
  | some u =>
    obtain ⟨ob, v, rfl, _⟩ := fz b u q
    have e1 := (ok b _ q).1
    have e2 := (ok' b _ (un.frzs b _ _ q)).1
    rw [e] at e1; cases e1
    exact e2
/-- the same lists and tuples may be read -/
def LikeF (K : PySem.W.Frag) (H Hf : Hp) : Prop := (∀ a xs, SqL K H a xs → SqL K Hf a xs) ∧ ∀ a xs, SqT K H a xs → SqT K Hf a xs
theorem frzH_like {K : PySem.W.Frag} (ok : HOk P w H h) : LikeF K H (frzH h H) := by
  refine ⟨fun a xs q => ?_, fun a xs q => ?_⟩
  · rcases q with (q | ⟨o, q⟩) | q
    · obtain ⟨z, its, n, r, g⟩ := ok a _ q
      exact .inl (.inr ⟨_, by unfold frzH; rw [q]; show ((h.get? a).map fun o => HO.frz o (.lst xs)) = _; rw [g]; rfl⟩)
    · exact .inl (.inr ⟨o, by unfold frzH; rw [q]; rfl⟩)
    · exact .inr q
  · rcases q with (q | ⟨o, q⟩) | q
    · obtain ⟨z, its, r, ⟨ob, g, c⟩, _⟩ := ok a _ q
      exact .inl (.inr ⟨ob, by unfold frzH; rw [q]; show ((h.get? a).map fun o => HO.frz o (.tup xs)) = _; rw [g]; rfl⟩)
    · exact .inl (.inr ⟨o, by unfold frzH; rw [q]; rfl⟩)
    · exact .inr q
theorem LikeF.refl {K : PySem.W.Frag} (H : Hp) : LikeF K H H := ⟨fun _ _ q => q, fun _ _ q => q⟩
end

/-! ### the state at an element -/
structure GS (X : Cx) (s : Shared) (C : Addr) (x : Str) (xv : Value) (Hf : Hp) (u : Shared) : Prop where
  ns : ∃ m, u.heap.Ns C m ∧ m x = some xv
  bs : ∀ b o, X.base.get? b = some o → u.heap.get? b = some o
  bc : X.base.objs.size ≤ C
  cel : ∀ y c, X.env.cells.lookup y = some c → ∀ v, s.heap.IsCell c v → u.heap.IsCell c v
  hok : HOk X.prog X.w Hf u.heap
theorem kr (s : Shared) : Keeps s s := ⟨s.heap, s.toks, rfl, fun _ _ e => e⟩
theorem kt {s s' s'' : Shared} (a : Keeps s s') (b : Keeps s' s'') : Keeps s s'' := by
  obtain ⟨h1, t1, rfl, k1⟩ := a
  obtain ⟨h2, t2, rfl, k2⟩ := b
  exact ⟨h2, t2, rfl, fun c o e => k2 c o (k1 c o e)⟩
theorem kk (s : Shared) (t : Nat) : Keeps s { s with toks := t } := ⟨s.heap, t, rfl, fun _ _ e => e⟩
theorem GS.keeps {X : Cx} {s : Shared} {C : Addr} {x : Str} {xv : Value} {Hf : Hp} {u u' : Shared} (g : GS X s C x xv Hf u) (k : Keeps u u') : GS X s C x xv Hf u' := by
  obtain ⟨h', t', rfl, k⟩ := k
  exact ⟨let ⟨m, hn, e⟩ := g.ns; ⟨m, hn.keeps k, e⟩, fun b o e => k b o (g.bs b o e), g.bc, fun y c e v z => let ⟨o, ho, hd⟩ := g.cel y c e v z; ⟨o, k _ _ ho, hd⟩, g.hok.kept k⟩
abbrev gEnv (X : Cx) (scope : Scope) (C : Addr) (code : Value) (bi : Addr) : Env := genEnv scope (cloFrom X.env.cells scope.names []) C code bi X.env
def GE (X : Cx) (scope : Scope) (x : Str) (e : Expr) (t : St → V → Option V) : Prop :=
  ∀ (pins : List (Addr × Obj)) (σ : St) (H : Hp) (s : Shared), Inv X pins σ H s → ∀ (C : Addr) (code : Value) (bi : Addr) (A' : Around) (E' : Value → Shared → Prop) (v : V) (xv : Value) (Hf : Hp) (u : Shared) (val : V) (Q : Value → Shared → Prop),
    RelV v xv → GS X s C x xv Hf u → t σ v = some val → (∀ r u', RelV val r → Keeps u u' → Q r u') → wpAny (model X.prog X.w) A' (eval e (gEnv X scope C code bi)) Q E' u
def GA (X : Cx) (scope : Scope) (x : Str) (es : List Expr) (t : St → V → Option (List V)) : Prop :=
  ∀ (pins : List (Addr × Obj)) (σ : St) (H : Hp) (s : Shared), Inv X pins σ H s → ∀ (C : Addr) (code : Value) (bi : Addr) (A' : Around) (E' : Value → Shared → Prop) (v : V) (xv : Value) (Hf : Hp) (u : Shared) (vals : List V) (pos : Pos) (Q : List Value → Shared → Prop),
    RelV v xv → GS X s C x xv Hf u → t σ v = some vals → (∀ rs u', Vals vals rs → Keeps u u' → Q rs u') → wpAny (model X.prog X.w) A' (spliced (backTo pos (starEach es (gEnv X scope C code bi)))) Q E' u
section
variable {X : Cx} {scope : Scope} {x : Str} {pos : Pos}
theorem ge_loc (hk : scope.kind = .function) (hx : scope.names.lookup x = some .local) (hd : (x == ("__debug__" : Str)) = false := by decide) : GE X scope x (.Name x pos) (fun _ v => some v) := by
  intro pins σ H s I C code bi A' E' v xv Hf u val Q r g e hQ
  cases e
  obtain ⟨m, hn, hm⟩ := g.ns
  exact wpAny_Name (wpAny_loadName_local hk hx hn hm (hQ xv u r (kr u))) hd
theorem ge_free {y : Str} (i : Nat) (hk : scope.kind = .function) (hy : scope.names.lookup y = some .free) (hN : X.N[i]? = some y) (hc : X.env.scope.names.lookup y = some .cell)
    (hd : (y == ("__debug__" : Str)) = false := by decide) (hcd : (y == ("__classdict__" : Str)) = false := by decide) : GE X scope x (.Name y pos) (fun σ _ => (σ[i]?).join) := by
  intro pins σ H s I C code bi A' E' v xv Hf u val Q r g e hQ
  have e1 : σ[i]? = some (some val) := by
    have e : (σ[i]?).join = some val := e
    cases q : σ[i]? with
    | none => rw [q] at e; cases e
    | some o => rw [q] at e; have e : o = some val := e; rw [e]
  obtain ⟨m, hn, hl⟩ := I.loc
  obtain ⟨uv, rv, l⟩ := hl i y val hN e1 (.inr (.inl hc))
  rcases l with ⟨hk', _⟩ | ⟨_, c, ec, hcell⟩
  · have hk' : X.env.scope.names.lookup y = some .local := hk'
    rw [hc] at hk'; cases hk'
  · have ec' : (cloFrom X.env.cells scope.names []).lookup y = some c := by
      obtain ⟨c', e'⟩ := mem_lookup (cloFrom_has (cells := X.env.cells) (acc := []) (PySem.mem_of_lookup hy))
      rcases cloFrom_mem (PySem.mem_of_lookup e') with z | ⟨_, z⟩
      · cases z
      · rw [ec] at z
        rw [e', z]; rfl
    exact wpAny_Name (wpAny_loadName_free hk hy ec' (g.cel y c ec _ hcell) (hQ uv u rv (kr u)) hcd) hd
theorem ge_int {n : Int} {j : Nat} : GE X scope x (.Constant (.int n) j pos) (fun _ _ => some (.int n)) := by
  intro pins σ H s I C code bi A' E' v xv Hf u val Q r g e hQ
  cases e
  exact wpAny_Constant_int (hQ _ _ ⟨_, rfl⟩ (kk u _))
def subO : Option V → Option V → Option V
  | some (.int i), some (.int j) => some (.int (i - j))
  | _, _ => none
theorem subO_some {a b : Option V} {v : V} (h : subO a b = some v) : ∃ i j, a = some (.int i) ∧ b = some (.int j) ∧ v = .int (i - j) := by
  unfold subO at h
  split at h
  · cases h; exact ⟨_, _, rfl, rfl, rfl⟩
  · cases h
theorem ge_sub {a b : Expr} {ta tb : St → V → Option V} (ha : GE X scope x a ta) (hb : GE X scope x b tb) : GE X scope x (.BinOp a .Sub b pos) (fun σ v => subO (ta σ v) (tb σ v)) := by
  intro pins σ H s I C code bi A' E' v xv Hf u val Q r g e hQ
  obtain ⟨i, j, ea, eb, rfl⟩ := subO_some e
  refine wpAny_BinOp (ha pins σ H s I C code bi A' E' v xv Hf u _ _ r g ea fun ra u1 r1 k1 => hb pins σ H s I C code bi A' E' v xv Hf u1 _ _ r (g.keeps k1) eb fun rb u2 r2 k2 => ?_)
  obtain ⟨t1, rfl⟩ := r1
  obtain ⟨t2, rfl⟩ := r2
  exact sub_int (hQ _ _ ⟨_, rfl⟩ (kt (kt k1 k2) (kk u2 _)))
theorem ga_nil : GA X scope x [] (fun _ _ => some []) := by
  intro pins σ H s I C code bi A' E' v xv Hf u vals pos Q r g e hQ
  cases e
  exact Calls.spliced_nil (hQ _ _ .nil (kr u))
def consO : Option V → Option (List V) → Option (List V)
  | some v, some vs => some (v :: vs)
  | _, _ => none
theorem consO_some {a : Option V} {b : Option (List V)} {v : List V} (h : consO a b = some v) : ∃ i j, a = some i ∧ b = some j ∧ v = i :: j := by
  unfold consO at h
  split at h
  · cases h; exact ⟨_, _, rfl, rfl, rfl⟩
  · cases h
theorem ga_cons {e : Expr} {es : List Expr} {te : St → V → Option V} {t : St → V → Option (List V)} (he : GE X scope x e te) (ha : GA X scope x es t) (hs : ∀ env, starEach (e :: es) env = (false, eval e env) :: starEach es env := by intro env; rfl) :
    GA X scope x (e :: es) (fun σ v => consO (te σ v) (t σ v)) := by
  intro pins σ H s I C code bi A' E' v xv Hf u vals pos Q r g e0 hQ
  obtain ⟨v1, vs, ea, eb, rfl⟩ := consO_some e0
  rw [hs]
  show wpAny _ _ (spliced ((false, eval e _) :: backTo pos (starEach es _))) _ _ u
  refine Calls.spliced_cons (he pins σ H s I C code bi A' E' v xv Hf u _ _ r g ea fun r1 u1 q1 k1 => ?_)
  exact ha pins σ H s I C code bi A' E' v xv Hf u1 _ pos _ r (g.keeps k1) eb fun rs u2 q2 k2 => hQ _ _ (.cons q1 q2) (kt k1 k2)
end

/-! ### an element that calls a quiet def -/
section
variable {X : Cx} {scope : Scope} {x fn : Str} {pos pf : Pos} {k : Nat} {f : Addr} {fd : FuncData} {ps : List Str} {sp : Sp} {e : Expr} {es : List Expr} {ga : St → V → Option (List V)}
theorem ge_call (F : ∀ gq, FnOk X.prog X.w X.K X.mg X.base (CXq gq) k f fd ps sp) (hm : X.mg fn = some (.ref f)) (kp : PySem.W.keepIn X.K (.ref f) = true) (hb : Binds X.K fd ps []) (hk : scope.kind = .function) (hg : scope.names.lookup fn = some .globalImplicit)
    (ha : GA X scope x (e :: es) ga) (hd : (fn == ("__debug__" : Str)) = false) (he : ∀ env, starEach (e :: es) env = (false, eval e env) :: starEach es env) (hpl : ∀ env, (backTo pos (starEach es env)).any (·.1) = false)
    {pins : List (Addr × Obj)} {σ : St} {H : Hp} {s : Shared} (I : Inv X pins σ H s) {C : Addr} {code : Value} {bi : Addr} {A' : Around} {E' : Value → Shared → Prop} {v : V} {xv : Value} {Hf : Hp} {u : Shared} {vals : List V} {b : Bool}
    (hr : Room k A') (r : RelV v xv) (g : GS X s C x xv Hf u) (fz : ∀ b u, Hf b = some u → FzS u) (hbs : ∀ b o, X.base.get? b = some o → Hf b = none) (hv : ga σ v = some vals) (hsp : sp vals Hf (fun r _ => r = .bl b) E0) :
    wpAny (model X.prog X.w) A' (eval (.Call (.Name fn pf) (e :: es) [] pos) (gEnv X scope C code bi)) (fun y s3 => y = .bool b ∧ Keeps u s3) E' u := by
  refine wpAny_Call_Name_kw (Calls.Name_function_global hk hg (Calls.loadGlobal_global (mg := X.mg) (by show u.heap.Ns X.env.globals _; rw [I.ok.glob]; exact I.mod.glob.keeps g.bs) hm ?_) hd)
  refine PySem.W.callWith_K (h₀ := X.base) I.ok.mod.kin kp (ha pins σ H s I C code bi A' E' v xv Hf u vals pos _ r g hv fun us u1 rv k1 => ⟨I.ok.mod.kin.keeps (g.keeps k1).bs, ?_⟩) (he _) (hpl _)
  have g1 := g.keeps k1
  have hl : us.length = ps.length := by rw [← rv.length]; exact (F fun _ _ => True).len _ _ _ _ hsp
  have e0 : Env0 X.prog X.w X.K X.mg X.base (fun g d => g = u1.gens ∧ d = u1.drawn) False A' [] u1 Hf :=
    ⟨False.elim, I.ok.mod, fun b o e => ⟨g1.bs b o e, hbs b o e⟩, by obtain ⟨m, hn, _⟩ := g1.ns; exact Nat.le_trans g1.bc (Nat.le_of_lt hn.lt), trivial, fun b z => absurd (show b ∈ ([] : List Addr) from z) (by simp), g1.hok, rfl, rfl⟩
  have hb1 := hb u1 us (I.ok.mod.kin.keeps g1.bs) (by rw [List.append_nil]; exact hl)
  rw [List.append_nil] at hb1
  refine wpAny_call (codeAny_mono ((F _).run A' [] u1 Hf ⟨us, []⟩ us vals _ _ hr e0 hb1 rv hsp) fun rr s' hq => ?_)
  cases rr with
  | error e => exact False.elim hq
  | ok fl =>
    cases fl with
    | next => exact False.elim hq
    | brk => exact False.elim hq
    | cont => exact False.elim hq
    | ret uv =>
      obtain ⟨v', H', os, ⟨hg1, hd1⟩, un, hok', rv', q⟩ := hq
      subst q
      obtain rfl : uv = Value.bool b := rv'
      refine ⟨rfl, kt k1 ?_⟩
      obtain ⟨h', gens', drawn', toks', os'⟩ := s'
      have hg1 : gens' = u1.gens := hg1
      have hd1 : drawn' = u1.drawn := hd1
      have os : os' = u1.os := os
      subst hg1 hd1 os
      exact ⟨h', toks', rfl, frzH_keeps fz g1.hok un hok'⟩
end
end L2

set_option Elab.async false
set_option linter.all false
set_option maxRecDepth 100000
namespace L2
open PySem PySem.Spec PyProof.Rows

theorem gencode {M : Model} {A : Around} {E : Value → Shared → Prop} {s : Shared} {env : Env} {c P : Addr} {ps : Array Value} {pos : Pos} {qn : Str} {scope : Scope} {Q : Value → Shared → Prop} (hc : env.code = .ref c) (hd : PySem.W.CodeHd s.heap c P)
    (hp : s.heap.get? P = some (PySem.W.tabObj ps)) (ht : TriplesOk ps.toList)
    (hQ : ∀ code h' tk ps', Heap.ExtBut P s.heap h' → h'.get? P = some (PySem.W.tabObj ps') → TriplesOk ps'.toList → Q code { s with heap := h', toks := tk }) : wpAny M A (genexprCode env pos qn scope) Q E s := by
  have hi := hd.code hp ht
  have htb := hd.tab hp
  cases q : codeAmong pos ps.toList with
  | some cv => exact wpAny_genexprCode_hit hc hi q (hQ cv s.heap s.toks ps (Heap.ExtBut.refl _ _) hp ht)
  | none =>
    refine wpAny_genexprCodeX hc hi htb q fun c' h' tk hx _ _ hi' _ ht' _ => hQ _ h' tk _ hx ht'.2 ?_
    obtain ⟨_, _, _, _, _, _, _, _, _, _, _, _, _, _, _, _, _, g, d, t, _⟩ := hi'
    rw [ht'.2] at g; cases g; cases d
    exact t

/-- an iterator over a list or a tuple -/
structure Src (P : Program) (w : World) (a : Addr) (its : Array Value) (s : Shared) : Prop where
  go : ∀ (A : Around) (E : Value → Shared → Prop) (Q : Value → Shared → Prop), (∀ (o : Obj) (St : Nat → Heap → Prop), o.isFreed = false → (∀ A' : Around, A'.handled = none → Walks P w A' s.heap.objs.size [s.heap.objs.size, a] [s.heap.objs.size] its.size (fun i v => its[i]? = some v) St) →
      (∀ h', (∀ b, b = s.heap.objs.size ∨ b = a → ∀ ob, (s.heap.push o).get? b = some ob → h'.get? b = some ob) → St 0 h') → Q (.ref s.heap.objs.size) { s with heap := s.heap.push o }) → wpAny (model P w) A (pyIter (.ref a)) Q E s
  lt : a < s.heap.objs.size
  ne : ∀ ps, s.heap.get? a ≠ some (PySem.W.tabObj ps)
theorem src_l {P : Program} {w : World} {a : Addr} {its : Array Value} {s : Shared} (h : s.heap.IsList a its) : Src P w a its s := by
  have hlt : a < s.heap.objs.size := by obtain ⟨_, e, _⟩ := h; exact Heap.lt_size e
  refine ⟨fun A E Q k => wpAny_pyIter_list h (k _ _ rfl (fun A' hA => Walks.list hA _ _ (Nat.ne_of_lt hlt) its) fun h' hk => ⟨⟨_, hk _ (.inl rfl) _ (Heap.get?_push_size _ rfl), rfl, rfl⟩, ?_⟩), hlt, fun ps z => ?_⟩
  · obtain ⟨o, e, r⟩ := h
    exact ⟨o, hk _ (.inr rfl) _ (Heap.get?_push_of_some _ e), r⟩
  · obtain ⟨o, e, r, _⟩ := h
    rw [z] at e; cases e; cases r
theorem src_t {P : Program} {w : World} {a : Addr} {its : Array Value} {s : Shared} (h : s.heap.IsTuple a its) : Src P w a its s := by
  have hlt : a < s.heap.objs.size := by obtain ⟨_, e, _⟩ := h; exact Heap.lt_size e
  refine ⟨fun A E Q k => wpAny_pyIter_tuple h (k _ _ rfl (fun A' hA => Walks.tuple hA _ _ (Nat.ne_of_lt hlt) its) fun h' hk => ⟨⟨_, hk _ (.inl rfl) _ (Heap.get?_push_size _ rfl), rfl, rfl⟩, ?_⟩), hlt, fun ps z => ?_⟩
  · obtain ⟨o, e, r⟩ := h
    exact ⟨o, hk _ (.inr rfl) _ (Heap.get?_push_of_some _ e), r⟩
  · obtain ⟨o, e, r, _⟩ := h
    rw [z] at e; cases e; cases r

theorem passing_all (n : Nat) : passing (fun _ => true) n 0 = List.range n := by
  unfold passing
  simp

def pick (xs : List V) (q : V → Bool) (j : Nat) : Bool := (xs[j]?.map q).getD true
theorem all_pick (xs : List V) (q : V → Bool) : (List.range xs.length).all (pick xs q) = xs.all q := by
  rw [Bool.eq_iff_iff, List.all_eq_true, List.all_eq_true]
  constructor
  · intro h b hb
    obtain ⟨j, hj, rfl⟩ := List.getElem_of_mem hb
    have := h j (List.mem_range.mpr hj)
    unfold pick at this
    rw [List.getElem?_eq_getElem hj] at this
    exact this
  · intro h j hj
    have hj' := List.mem_range.mp hj
    unfold pick
    rw [List.getElem?_eq_getElem hj']
    exact h _ (List.getElem_mem hj')

def tAllG (K : PySem.W.Frag) (Pt : Addr) (ti : TE) (ga : St → V → Option (List V)) (sp : Sp) : TE := fun σ H Q =>
  ti σ H fun v H1 => ∃ a xs, v = .ref a ∧ (SqL K H1 a xs ∨ SqT K H1 a xs) ∧ H1 Pt = some (TabP Pt) ∧
    ∃ q : V → Bool, (∀ y ∈ xs, ∃ vals, ga σ y = some vals ∧ ∀ Hf, LikeF K H1 Hf → sp vals Hf (fun r _ => r = .bl (q y)) E0) ∧ Q (.bl (xs.all q)) H1

/-- what the law's text tells of the module __builtins__ -/
structure BMd (X : Cx) : Prop where
  md : ∃ bm ob, X.mg "__builtins__" = some (.ref bm) ∧ bm ≠ builtinsNs ∧ X.base.get? bm = some ob ∧ ob.cls = .type "module" ∧ ob.dict = some builtinsNs ∧ ob.data = .plain

section
variable {X : Cx} {scope : Scope} {x fn xall : Str} {pos pf pc px p gpos : Pos} {k : Nat} {f c Pt : Addr} {fd : FuncData} {ps : List Str} {sp : Sp} {e iter : Expr} {es : List Expr} {ga : St → V → Option (List V)} {ti : TE}
theorem pe_allgen (hgq : X.gq = Bare) (hcalm : X.calm = true) (hr : Room (k + 1) X.A) (hc : X.env.code = .ref c) (hcd : PySem.W.CodeHd X.base c Pt) (bm : BMd X)
    (hco : scope.isCoroutine = false) (hcell : ∀ y ∈ scope.names, y.2 ≠ .cell) (hfree : ∀ y ∈ scope.names, y.2 = .free → X.env.scope.names.lookup y.1 = some .cell) (h0 : scope.names.lookup (".0" : Str) = some NameKind.local)
    (hx : scope.names.lookup x = some .local) (hkind : scope.kind = .function)
    (hall : Gl X xall) (hmall : X.mg xall = none) (hvall : bootBuiltins xall = some (.builtin "all"))
    (hit : PE X iter ti) (hfold : ∀ v, genFold iter X.env v = pure v)
    (F : ∀ gq, FnOk X.prog X.w X.K X.mg X.base (CXq gq) k f fd ps sp) (hm : X.mg fn = some (.ref f)) (kp : PySem.W.keepIn X.K (.ref f) = true) (hb : Binds X.K fd ps []) (hg : scope.names.lookup fn = some .globalImplicit)
    (ha : GA X scope x (e :: es) ga) (hd : (fn == ("__debug__" : Str)) = false := by decide) (he : ∀ env, starEach (e :: es) env = (false, eval e env) :: starEach es env := by intro env; rfl) (hpl : ∀ env, (backTo pc (starEach es env)).any (·.1) = false := by intro env; rfl)
    (hn : xall ≠ "__name__" := by decide) (hdb : (xall == ("__debug__" : Str)) = false := by decide) :
    PE X (.Call (.Name xall p) [.GeneratorExp (.Call (.Name fn pf) (e :: es) [] pc) [⟨.Name x px, iter, [], 0⟩] scope gpos] [] pos) (tAllG X.K Pt ti ga sp) := by
  intro pins s σ H Q I h
  refine wpAny_Call_Name_kw (ld_blt I hall hmall hvall ?_ hn hdb)
  refine PyProof.Rows.callWith_builtin1 ?_ rfl rfl
  show wpAny _ _ (spliced ((false, eval _ X.env) :: backTo pos (starEach [] X.env))) _ _ s
  refine Calls.spliced_cons ?_
  have hh : X.A.handled = none := I.ok.hd hcalm
  have hclos : closureFor scope X.env = pure (cloFrom X.env.cells scope.names []) := closure_ok fun y hy hf => I.ok.has y.1 (.inl (hfree y hy hf))
  refine wpAny_GeneratorExp_walksQD hh hco hclos hcell h0 hx hkind (by have := hr.dp; omega) ?_ hfold
  refine thn (hit pins s σ H _ I h) fun xv s1 ⟨v, H1, I1, r1, a, xs, ev, hsq, hT, q, hq, hQ⟩ => ?_
  subst ev
  obtain rfl : xv = Value.ref a := r1
  -- the source
  obtain ⟨its, rv, src⟩ : ∃ its : List Value, Vals xs its ∧ Src X.prog X.w a its.toArray s1 := by
    rcases hsq with hs | hs
    · obtain ⟨its, rv, pl, _⟩ := I1.list hs
      exact ⟨its, rv, src_l pl.isList⟩
    · obtain ⟨its, rv, pl, _⟩ := I1.tuple hs
      exact ⟨its, rv, src_t pl⟩
  refine src.go _ _ _ fun oI St hoI W st0 => ⟨I1.nolimit.push _, ?_⟩
  obtain ⟨⟨ps0, eP, tP⟩, _, _⟩ := I1.hok Pt _ hT
  have nP : Pt < s1.heap.objs.size := Heap.lt_size eP
  have naP : a ≠ Pt := fun z => src.ne ps0 (by rw [z]; exact eP)
  have b1 : ∀ b o, X.base.get? b = some o → s1.heap.get? b = some o := I1.bk
  have nbP : ∀ b o, X.base.get? b = some o → b ≠ Pt := fun b o e z => by
    have := (I1.bs b o e).2
    rw [z, hT] at this; cases this
  refine gencode (s := { s1 with heap := s1.heap.push oI }) hc (hcd.keeps fun b o e => Heap.get?_push_of_some _ (b1 b o e)) (Heap.get?_push_of_some _ eP) tP fun code h3 tk3 ps3 x3 eP3 tP3 => ?_
  -- all but the table is kept
  have k3 : ∀ b o, b ≠ Pt → s1.heap.get? b = some o → h3.get? b = some o := fun b o hb e => x3 b o hb (Heap.get?_push_of_some _ e)
  have eI3 : h3.get? s1.heap.objs.size = some oI := x3 _ _ (Nat.ne_of_gt nP) (Heap.get?_push_size _ hoI)
  obtain ⟨bmA, ob, hb1, hb2, hb3, hb4, hb5, hb6⟩ := bm.md
  refine wpAny_builtinsFor (m := X.mg) (bm := bmA) (o := ob) ?_ hb1 hb2 (k3 _ _ (nbP _ _ hb3) (b1 _ _ hb3)) hb4 hb5 hb6 ?_
  · show h3.Ns X.env.globals X.mg
    rw [I.ok.glob]
    exact I.mod.glob.keeps fun b o e => k3 b o (nbP b o e) (b1 b o e)
  have hnl : h3.NoLimit := I.mod.nolimit.keeps fun b o e => k3 b o (nbP b o e) (b1 b o e)
  have hst : s1.heap.objs.size < h3.objs.size := Heap.lt_size eI3
  have hlen : its.length = xs.length := rv.length.symm
  refine ⟨s1.heap.objs.size, [s1.heap.objs.size, a], [s1.heap.objs.size], its.toArray.size, _, St, fun _ => true, fun i y => ∃ z, xs[i]? = some z ∧ y = .bool (q z), rfl, W, st0 h3 ?_, ?_, hnl, ?_, ?_, ?_⟩
  · rintro b (rfl | rfl) ob2 e2
    · exact x3 _ _ (Nat.ne_of_gt nP) e2
    · exact x3 _ _ naP e2
  · intro b hb
    rcases List.mem_cons.mp hb with rfl | hb
    · exact hst
    · rcases List.mem_cons.mp hb with rfl | hb
      · exact Nat.lt_trans src.lt hst
      · cases hb
  · intro z
    rcases List.mem_cons.mp z with z | z
    · obtain ⟨_, hn1, _⟩ := I1.nolimit
      exact absurd (z ▸ hn1.lt) (Nat.lt_irrefl _)
    · cases z
  · -- an element
    intro href hk
    refine ⟨fun A' E' i v u m2 hA hD hU hP hns hmx hkp => ?_, fun A' E' i v u m2 hA hD hU hP _ hns hmx hkp => ?_⟩
    · exact wpAny_pure ⟨rfl, kr u⟩
    · have hP : its.toArray[i]? = some v := hP
      have hP : its[i]? = some v := by simpa using hP
      have hi : i < xs.length := by rw [← hlen]; exact (List.getElem?_eq_some_iff.mp hP).1
      obtain ⟨z, hz⟩ : ∃ z, xs[i]? = some z := ⟨xs[i], List.getElem?_eq_getElem hi⟩
      obtain ⟨v', hv', rz⟩ := rv.get hz
      rw [hP] at hv'; cases hv'
      obtain ⟨vals, hga, hsp⟩ := hq z (List.mem_of_getElem? hz)
      obtain ⟨okf, fz⟩ := frzH_ok I1.hok
      have ku : ∀ b o, b ≠ Pt → s1.heap.get? b = some o → u.heap.get? b = some o := fun b o hb e => by
        have e3 := k3 b o hb e
        refine hkp b (List.mem_range.mpr (Heap.lt_size e3)) (fun z => ?_) o (hk b o e3)
        rcases List.mem_cons.mp z with z | z
        · exact absurd (z ▸ Heap.lt_size e) (Nat.lt_irrefl _)
        · cases z
      have g : GS X s1 h3.objs.size x v (frzH s1.heap H1) u := by
        refine ⟨⟨m2, hns, hmx⟩, fun b o e => ku b o (nbP b o e) (b1 b o e), Nat.le_trans (Nat.le_trans I1.ok.bsz I1.sz) (Nat.le_of_lt hst), fun y cc ec v ⟨o, ho, hdd⟩ => ⟨o, ku cc o (fun z => ?_) ho, hdd⟩, frzH_move okf fz fun b o hb e => ku b o (fun z => hb ?_) e⟩
        · have := I1.freeC y cc ec
          rw [z, hT] at this; cases this
        · rw [z]; exact frzH_ext hT
      have hr' : Room k A' := ⟨hA, by have := hr.dp; omega, by have := hr.un; omega⟩
      refine wpAny_mono (ge_call F hm kp hb hkind hg ha hd he hpl I1 hr' rz g fz (fun b o e => frzH_none (I1.bs b o e).2) hga (hsp _ (frzH_like I1.hok))) (fun y s3 ⟨ey, ks⟩ => ⟨⟨z, hz, ey⟩, ks⟩) fun _ _ e => e
  · -- all of it
    intro a5 h5 tk5 gs hbare hlt5 hsz5 hk5 W5 G5
    rw [passing_all] at W5
    refine Calls.spliced_nil ?_
    refine call_all_walkS ((W5.in4_1).self 0 _ _ _ G5 ⟨a5, _, _, _, _, _, _, pick xs q, rfl, W5.in4_1, G5, ?_, fun s' mv => ?_⟩)
    · intro j v s6 Q6 E6 hv hQ6
      obtain ⟨i, hi, z, hz, rfl⟩ := hv
      have hij : i = j := by
        obtain ⟨h1, h2⟩ := List.getElem?_eq_some_iff.mp hi
        rw [List.getElem_range] at h2; exact h2.symm
      subst hij
      have hQ6 : Q6 (pick xs q i) s6 := hQ6
      unfold pick at hQ6
      rw [hz] at hQ6
      exact wpAny_truthy_bool hQ6
    · have en : (List.range (List.range its.toArray.size).length) = List.range xs.length := by rw [List.length_range, List.size_toArray, hlen]
      rw [en, all_pick]
      have k6 : ∀ b o, b ≠ Pt → s1.heap.get? b = some o → s'.heap.get? b = some o := fun b o hb e => by
        refine mv.heap b o (fun z => ?_) (hk5 b o (k3 b o hb e))
        have hlt := Heap.lt_size e
        rcases List.mem_cons.mp z with z | z
        · exact absurd (Nat.lt_trans hlt hst) (by rw [z]; exact Nat.lt_irrefl _)
        · rcases List.mem_cons.mp z with z | z
          · exact absurd (z ▸ hlt) (Nat.lt_irrefl _)
          · cases z
      have eP6 : s'.heap.get? Pt = some (PySem.W.tabObj ps3) := by
        refine mv.heap Pt _ (fun z => ?_) (hk5 Pt _ eP3)
        rcases List.mem_cons.mp z with z | z
        · exact absurd (Nat.lt_trans nP hst) (by rw [z]; exact Nat.lt_irrefl _)
        · rcases List.mem_cons.mp z with z | z
          · exact absurd (z ▸ nP) (Nat.lt_irrefl _)
          · cases z
      have eH : upd H1 Pt (TabP Pt) = H1 := by
        funext b
        by_cases hb : b = Pt
        · rw [hb, upd_same, hT]
        · rw [upd_ne hb]
      have mu : Mut (H1 Pt) := by rw [hT]; trivial
      have kk6 : ∀ b o, b ≠ Pt → s1.heap.get? b = some o → s'.heap.get? b = some o := k6
      have un : Un (frs X.stack) [] H1 H1 s1.heap s'.heap := by
        have := Un.write (fs := frs X.stack) (ex := []) (o := TabP Pt) (e := Pt) mu (.inl rfl) kk6 ⟨_, eP6⟩
        rwa [eH] at this
      have ok6 : HOk X.prog X.w H1 s'.heap := by
        have := I1.hok.write (o' := TabP Pt) (e := Pt) mu (.inl rfl) kk6 ⟨_, eP6⟩ (TabP.ok eP6 tP3)
        rwa [eH] at this
      have bg : X.gq s'.gens s'.drawn := by
        have b0 := I1.bare
        rw [hgq] at b0 ⊢
        exact GenOnlyQ.bare mv.gens (AllBare.push b0 hbare)
      refine ⟨.bl (xs.all q), H1, I1.call' (ch := []) (mv.os.trans rfl) un ok6 bg fun b z => absurd z (by simp), rfl, hQ⟩
end
end L2

set_option Elab.async false
set_option linter.all false
set_option maxRecDepth 100000
namespace L2
open PySem PySem.Spec PyProof.Rows PySem.SeqAt PySem.MeetsSeq PySem.MeetsSeq2 PySem.MeetsSeq3

section
variable {X : Cx}
/-! ### products and quotients of great numbers -/
theorem op_mulB : OpR X (binaryOp .Mult) (rI (fun i j => IntMulOk i j) fun i j => .int (i * j)) := opI fun _ _ _ _ _ _ _ hc q => mul_int q hc
theorem op_fdivB : OpR X (binaryOp .FloorDiv) (rI (fun _ j => 0 < j ∧ j.natAbs.log2 < 9000) fun i j => .int (i / j)) := opI fun i j _ _ _ _ _ hc q => by
  have h1 : (0 : Int) < j := hc.1
  exact floordiv_int (by omega) (by rw [Int.fdiv_eq_ediv_of_nonneg i (by omega)]; exact q) (.inl (PyProof.noPylong_of_log2 hc.2))

/-! ### tuples: any two joined, any part -/
theorem same_new {H : Hp} {p : Addr} {o : HO} (h : H p = none) : Same H (upd H p o) := fun b u e => by rw [upd_ne (ne_of_none e h)]; exact e
theorem cutV_all {xs : List V} {lo hi : Option Int} (h1 : HT.sIx xs.length 0 lo = 0) (h2 : HT.sIx xs.length xs.length hi = xs.length) : cutV xs lo hi = xs := by
  unfold cutV
  rw [h1, h2, Nat.sub_zero, List.drop_zero, List.take_length]
theorem get_tup_all {prog : Program} {w : World} {A : Around} {E : Value → Shared → Prop} {s : Shared} {t sl : Addr} {items : Array Value} {vl vu : Value} {lo hi : Option Int} {Q : Value → Shared → Prop} (ht : IsTup s.heap t items) (hs : s.heap.IsSliceOf sl vl vu .none) (pl : IsPart vl lo) (pu : IsPart vu hi)
    (hw : HT.sIx items.size 0 lo = 0 ∧ HT.sIx items.size items.size hi = items.size) (h : Q (.ref t) s) : wpAny (model prog w) A (getItem (.ref t) (.ref sl)) Q E s := by
  obtain ⟨os, hos, hcs, hds⟩ := id hs
  have hT : s.TypeIs (.ref sl) "slice" := ⟨os, hos, hcs⟩
  unfold getItem
  try with_reducible refine wpAny_holding ?_
  first | refine wpAny_bind (wpAny_pure ?_) | skip
  refine wpAny_bind (wpAny_sequenceKey ht.typeIs (by decide) ?_)
  refine wpAny_bind (wpAny_callSpecial?_slot (name := Str.ofString "__getitem__") ht.typeIs PyProof.Rows.slot_tuple_getitem (wpAny_call_entry PyProof.Rows.slot_tuple_getitem ht.typeIs entry_tuple_getitem ?_ (args_tuple_getitem _ _)))
  show wpAny _ _ (Builtin.Tuple.tupleItemsOf (.ref t) >>= _) _ _ s
  refine wpAny_bind (PyProof.Rows.tupleItemsOf_ ht ?_)
  refine wpAny_bind (wpAny_typeOf hT ?_)
  rw [if_pos (by decide)]
  refine wpAny_bind (HT.sliceApplied_gen hs pl pu ?_)
  show wpAny _ _ (if (((HT.sIx items.size 0 lo : Nat) : Int) == 0 && (1 : Int) == 1 && (HT.sIx items.size items.size hi - HT.sIx items.size 0 lo) == items.size) = true then _ else _) _ _ s
  rw [if_pos (by rw [hw.1, hw.2]; simp)]
  refine wpAny_bind (m := Builtin.Tuple.tupleIsExact _) (wpAny_bind (wpAny_typeOf ht.typeIs (wpAny_pure ?_)))
  rw [if_pos (by decide)]
  refine wpAny_bind (wpAny_rule ?_)
  exact wpAny_pure ⟨_, rfl, wpAny_pure h⟩
/-! ### range objects, their lists and tuples -/
theorem call_range1 : CallR X (.type "range") (fun xs H Q => ∃ j : Int, xs = [.int j] ∧ ∀ p, H p = none → Q (.ref p) (upd H p (.rng 0 j))) := by
  intro pins s σ H xs us Q I r h
  obtain ⟨j, rfl, q⟩ := h
  obtain ⟨u, rfl, ru⟩ := vals1 r
  obtain ⟨t, rfl⟩ := ru
  refine call_range_1 ⟨.ref s.heap.objs.size, _, I.laid (t' := s.toks + 1 + 1) (o := .rng 0 j) (fun b ob e => Heap.get?_push_of_some _ e) (Nat.le_refl _) ⟨_, _, _, Heap.get?_push_size _ rfl⟩, rfl, q _ (I.hok.fresh (Nat.le_refl _))⟩
def rngV (lo hi : Int) : List V := (List.range (hi - lo).toNat).map fun (i : Nat) => V.int (lo + i)
theorem rngV_len {lo hi : Int} : (rngV lo hi).length = (hi - lo).toNat := by unfold rngV; simp
theorem vals_rng {lo hi : Int} {acc : Array Value} (h : ItemsOf (fun i v => ∃ t, v = Value.int (lo + i * 1) t) acc (hi - lo).toNat) : Vals (rngV lo hi) acc.toList := by
  obtain ⟨hz, hv⟩ := h
  have key : ∀ (n : Nat) (f : Nat → V) (us : List Value), us.length = n → (∀ j v, us[j]? = some v → RelV (f j) v) → Vals ((List.range n).map f) us := by
    intro n
    induction n with
    | zero => intro f us hl _; cases us with | nil => exact .nil | cons _ _ => cases hl
    | succ n ih =>
      intro f us hl hr
      cases us with
      | nil => cases hl
      | cons u us =>
        rw [List.range_succ_eq_map, List.map_cons, List.map_map]
        exact .cons (hr 0 u rfl) (ih (f ∘ Nat.succ) us (by simpa using hl) fun j v e => hr (j + 1) v (by simpa using e))
  refine key _ _ _ (by simpa using hz) fun j v e => ?_
  obtain ⟨t, rfl⟩ := hv j v (by simpa using e)
  exact ⟨t, by rw [Int.mul_one]⟩
theorem call_listR (hh : X.calm = true) : CallR X (.type "list") (fun xs H Q => ∃ p lo hi, xs = [.ref p] ∧ H p = some (.rng lo hi) ∧ (-(2 ^ 62) ≤ lo ∧ lo < 2 ^ 62 ∧ -(2 ^ 62) ≤ hi ∧ hi < 2 ^ 62) ∧ (hi - lo).toNat ≤ 2 ^ 20 ∧
    ∀ l, H l = none → Q (.ref l) (upd H l (.lst (rngV lo hi)))) := by
  intro pins s σ H xs us Q I r h
  obtain ⟨p, lo, hi, rfl, hp, ⟨b1, b2, b3, b4⟩, hz, q⟩ := h
  obtain ⟨u, rfl, ru⟩ := vals1 r
  cases ru
  obtain ⟨t, u, v, g⟩ := I.hok p _ hp
  refine call_list_range (I.ok.hd hh) (show PySem.IsRange s.heap p lo hi 1 t u v from g) (small_one b1 b2 b3 b4) (rangeSize_nat lo hi) (Nat.le_trans hz (by decide)) fun h' tk acc c' kp e it => ?_
  have e' : acc.toList.toArray = acc := by simp
  refine ⟨.ref s.heap.objs.size, _, I.laid (t' := tk) kp (Nat.le_refl _) (show ObjOk X.prog X.w _ h' _ (.lst (rngV lo hi)) from ⟨by rw [rngV_len]; exact Nat.le_trans hz (by decide), acc.toList, c', vals_rng it, by rw [e']; exact e⟩), rfl, q _ (I.hok.fresh (Nat.le_refl _))⟩

section
variable {prog : Program} {w : World} {A : Around} {E : Value → Shared → Prop} {s : Shared}
theorem collect_rng {Q : List Value → Shared → Prop} {r : Addr} {a b c : Int} {t u v : Tok} {n : Nat} (hh : A.handled = none) (hr : PySem.IsRange s.heap r a b c t u v) (hs : Builtin.Range.small a b c = true) (hn : Builtin.Range.rangeSize a b c = n) (hl : n ≤ 2 ^ 24)
    (hQ : ∀ h' tk acc, (∀ b o, s.heap.get? b = some o → h'.get? b = some o) → ItemsOf (fun i v => ∃ t, v = .int (a + i * c) t) acc n → Q acc.toList { s with heap := h', toks := tk }) : wpAny (model prog w) A (collect (.ref r)) Q E s := by
  unfold collect
  refine wpAny_bind (wpAny_runValue (codeAny_builtin F.entry_proto_collect ?_))
  rw [Around.under_plainId F.plain_proto_collect _]
  show wpAny _ A.in1 (newList [] >>= fun l => again (.builtin "list.__iadd__" ⟨[l, .ref r], []⟩)) _ _ s
  refine wpAny_bind (wpAny_newObj_type ?_)
  refine wpAny_pure ⟨plainId_quiet F.plain_list_iadd _, codeAny_builtin F.entry_list_iadd ?_⟩
  rw [Around.under_plainId F.plain_list_iadd _]
  show wpAny _ A.in1 (Builtin.List.listExtendWith (.ref s.heap.objs.size) (.ref r) (.ref s.heap.objs.size)) _ _ _
  have e0 : (s.heap.push { cls := .type "list", data := .seq ([] : List Value).toArray }).get? s.heap.objs.size = some { cls := .type "list", data := .seq #[] 0 } := Heap.get?_push_size _ rfl
  have fin : ∀ h' tk acc c', (∀ b o, b ≠ s.heap.objs.size → (s.heap.push { cls := .type "list", data := .seq ([] : List Value).toArray }).get? b = some o → h'.get? b = some o) →
      h'.get? s.heap.objs.size = some { cls := .type "list", dict := none, data := .seq acc c', slots := #[] } → ItemsOf (fun i v => ∃ t, v = .int (a + i * c) t) acc n →
      wpAny (model prog w) A (match Value.ref s.heap.objs.size with
        | Value.ref a => do
          match (← load a).data with
            | Data.seq xs _ => pure xs.toList
            | _ => unsupported "internal:collect"
        | _ => unsupported "internal:collect") Q E { s with heap := h', toks := tk } := fun h' tk acc c' k e it => by
    show wpAny _ A (load s.heap.objs.size >>= _) _ _ _
    refine wpAny_bind (wpAny_load e (wpAny_pure ?_))
    exact hQ h' tk acc (fun b o eb => k b o (Nat.ne_of_lt (Heap.lt_size eb)) (Heap.get?_push_of_some _ eb)) it
  refine wpAny_mono (wpAny_extend_range (A := A) (R := fun r s' => ∃ h' tk acc c', r = .ok (.ret (.ref s.heap.objs.size)) ∧ s' = { s with heap := h', toks := tk } ∧ (∀ b o, b ≠ s.heap.objs.size → (s.heap.push { cls := .type "list", data := .seq ([] : List Value).toArray }).get? b = some o → h'.get? b = some o) ∧
      h'.get? s.heap.objs.size = some { cls := .type "list", dict := none, data := .seq acc c', slots := #[] } ∧ ItemsOf (fun i v => ∃ t, v = .int (a + i * c) t) acc n)
    (s := { s with heap := s.heap.push { cls := .type "list", data := .seq ([] : List Value).toArray } }) hh (Heap.get?_push_of_some _ hr) hs hn hl _ _ 0 e0 fun h' tk acc c' k e it => ⟨h', tk, acc, c', rfl, rfl, k, e, it⟩) (fun fn s' h => ?_) (fun e s' h => ?_)
  · cases fn with
    | done f =>
      obtain ⟨h', tk, acc, c', e, rfl, k, e2, it⟩ := h
      cases e
      exact fin h' tk acc c' k e2 it
    | again c' => exact ⟨h.1, codeAny_mono h.2 fun r s'' hr => by obtain ⟨h', tk, acc, c', rfl, rfl, k, e2, it⟩ := hr; exact fin h' tk acc c' k e2 it⟩
  · obtain ⟨_, _, _, _, e, _⟩ := h
    cases e
theorem tuple_new_rng (r : Addr) (a b c : Int) (t u v : Tok) (n : Nat) (hs : Builtin.Range.small a b c = true) (hn : Builtin.Range.rangeSize a b c = n) (hl : n ≤ 2 ^ 20) :
    Meets (Builtin.«tuple.__new__» ⟨[.type "tuple", .ref r], []⟩)
      (fun A R s => A.handled = none ∧ PySem.IsRange s.heap r a b c t u v ∧ ∀ (h' : Heap) tk acc, (∀ b o', s.heap.get? b = some o' → h'.get? b = some o') → ItemsOf (fun i v => ∃ t, v = .int (a + i * c) t) acc n →
        R (.ok (.ret (.ref h'.objs.size))) { s with heap := h'.push { cls := .type "tuple", data := .seq acc }, toks := tk }) :=
  .of_wp fun prog w A R s h => by
    obtain ⟨hp, g, d, tk, os⟩ := s
    obtain ⟨hh, ht, h⟩ := h
    have hsub := sub_tuple_self
    have hinit := init_tuple_lookup
    have hmh := madeHere_tuple
    have hT : Shared.TypeIs ⟨hp, g, d, tk, os⟩ (.ref r) "range" := ⟨_, ht, rfl⟩
    wp_walk using AutoSeq1.wpAny_loadPart' ht, wpAny_typeOf hT, collect_rng (A := A.in1) (s := ⟨hp, g, d, tk, os⟩) hh ht hs hn (Nat.le_trans hl (by decide))
    intro h' tk' acc hk it
    show wpAny _ _ (Builtin.Tuple.tupleExact acc.toList.toArray >>= fun v => ret v) _ _ _
    unfold Builtin.Tuple.tupleExact
    have ea : acc.toList.toArray = acc := by simp
    have hz : acc.size ≤ sizeLine := by rw [it.1]; exact Nat.le_trans hl (by decide)
    refine wpAny_bind (wpAny_newObj_type ?_ (by show acc.toList.toArray.size ≤ sizeLine; rw [ea]; exact hz))
    refine wpAny_pure ⟨_, rfl, ?_⟩
    rw [ea]
    exact h h' tk' acc hk it
theorem call_tup_rng {Q : Value → Shared → Prop} {r : Addr} {a b c : Int} {t u v : Tok} {n : Nat} (hh : A.handled = none) (hr : PySem.IsRange s.heap r a b c t u v) (hs : Builtin.Range.small a b c = true) (hn : Builtin.Range.rangeSize a b c = n) (hl : n ≤ 2 ^ 20)
    (hQ : ∀ (h' : Heap) tk acc, (∀ b o', s.heap.get? b = some o' → h'.get? b = some o') → ItemsOf (fun i v => ∃ t, v = .int (a + i * c) t) acc n → Q (.ref h'.objs.size) { s with heap := h'.push { cls := .type "tuple", data := .seq acc }, toks := tk }) :
    wpAny (model prog w) A (call (.type "tuple") [.ref r]) Q E s :=
  callType_new F.called_tuple (by decide) (F.typeCall_tuple_1 _) (F.newCall_tuple_1 _) (fun obj => F.args_object_init_2 obj _) F.entry_tuple_new
    (tuple_new_rng r a b c t u v n hs hn hl) ⟨hh, hr, fun h' tk acc hk it => ⟨⟨_, Heap.get?_push_size _ rfl, rfl⟩, hQ h' tk acc hk it⟩⟩
end
theorem call_tupR (hh : X.calm = true) : CallR X (.type "tuple") (fun xs H Q => ∃ p lo hi, xs = [.ref p] ∧ H p = some (.rng lo hi) ∧ (-(2 ^ 62) ≤ lo ∧ lo < 2 ^ 62 ∧ -(2 ^ 62) ≤ hi ∧ hi < 2 ^ 62) ∧ (hi - lo).toNat ≤ 2 ^ 20 ∧
    ∀ l, H l = none → Q (.ref l) (upd H l (.tup (rngV lo hi)))) := by
  intro pins s σ H xs us Q I r h
  obtain ⟨p, lo, hi, rfl, hp, ⟨b1, b2, b3, b4⟩, hz, q⟩ := h
  obtain ⟨u, rfl, ru⟩ := vals1 r
  cases ru
  obtain ⟨t, u, v, g⟩ := I.hok p _ hp
  refine call_tup_rng (I.ok.hd hh) (show PySem.IsRange s.heap p lo hi 1 t u v from g) (small_one b1 b2 b3 b4) (rangeSize_nat lo hi) hz fun h' tk acc kp it => ?_
  have e' : acc.toList.toArray = acc := by simp
  have I1 : Inv X pins σ H { s with heap := h', toks := tk } := I.kept (t' := tk) kp
  have I2 : Inv X pins σ (upd H h'.objs.size (.tup (rngV lo hi))) { s with heap := h'.push { cls := .type "tuple", data := .seq acc }, toks := tk } :=
    I1.laid (t' := tk) (fun b o e => Heap.get?_push_of_some _ e) (Nat.le_refl _) (show ObjOk X.prog X.w _ _ _ (.tup (rngV lo hi)) from ⟨by rw [rngV_len]; exact Nat.le_trans hz (by decide), acc.toList, vals_rng it, by rw [e']; exact ⟨IsTup.new _ _, _, Heap.get?_push_size _ rfl, rfl⟩⟩)
  exact ⟨.ref h'.objs.size, _, I2, rfl, q _ (I1.hok.fresh (Nat.le_refl _))⟩

/-! ### isinstance of a kind that is known -/
def Kd (K : PySem.W.Frag) (H : Hp) : V → String → Prop
  | .int _, k => k = "int"
  | .bl _, k => k = "bool"
  | .str _, k => k = "str"
  | .non, k => k = "NoneType"
  | .ref a, k => (k = "list" ∧ ∃ xs, SqL K H a xs) ∨ (k = "tuple" ∧ ∃ xs, SqT K H a xs)
  | _, _ => False
def isi (k T : String) : Bool := k == T || (k == "bool" && T == "int")
def rIsi (K : PySem.W.Frag) : List V → Hp → VK → Prop := fun xs H Q => ∃ v k T, xs = [v, .ty T] ∧ Kd K H v k ∧ (T = "int" ∨ T = "bool" ∨ T = "list" ∨ T = "tuple") ∧ Q (.bl (isi k T)) H
theorem call_isi : CallR X (.builtin "isinstance") (rIsi X.K) := by
  intro pins s σ H xs us Q I r h
  obtain ⟨v, k, T, rfl, hk, hT, q⟩ := h
  obtain ⟨u, w, rfl, ru, rw'⟩ : ∃ u w, us = [u, w] ∧ RelV v u ∧ RelV (.ty T) w := by
    cases r with
    | cons a b =>
      cases b with
      | cons c d =>
        cases d
        exact ⟨_, _, rfl, a, c⟩
  obtain rfl : w = Value.type T := rw'
  have yes : isi k T = true → EP X pins σ Q (.bool true) s := fun e => by rw [e] at q; exact ⟨.bl true, H, I, rfl, q⟩
  have no : isi k T = false → EP X pins σ Q (.bool false) { s with toks := s.toks + 1 } := fun e => by rw [e] at q; exact ⟨.bl false, H, I.tok _, rfl, q⟩
  cases v with
  | int i =>
    obtain rfl : k = "int" := hk
    obtain ⟨t, rfl⟩ := ru
    rcases hT with rfl | rfl | rfl | rfl
    · exact IsiPair.int_int (yes (by decide))
    · exact IsiPair.int_bool (no (by decide))
    · exact IsiPair.int_list (no (by decide))
    · exact IsiPair.int_tuple (no (by decide))
  | bl i =>
    obtain rfl : k = "bool" := hk
    cases ru
    rcases hT with rfl | rfl | rfl | rfl
    · exact IsiPair.bool_int (yes (by decide))
    · exact IsiPair.bool_bool (yes (by decide))
    · exact IsiPair.bool_list (no (by decide))
    · exact IsiPair.bool_tuple (no (by decide))
  | str i =>
    obtain rfl : k = "str" := hk
    obtain ⟨t, rfl⟩ := ru
    rcases hT with rfl | rfl | rfl | rfl
    · exact IsiPair.str_int (no (by decide))
    · exact IsiPair.str_bool (no (by decide))
    · exact IsiPair.str_list (no (by decide))
    · exact IsiPair.str_tuple (no (by decide))
  | non =>
    obtain rfl : k = "NoneType" := hk
    cases ru
    rcases hT with rfl | rfl | rfl | rfl
    · exact IsiPair.NoneType_int (no (by decide))
    · exact IsiPair.NoneType_bool (no (by decide))
    · exact IsiPair.NoneType_list (no (by decide))
    · exact IsiPair.NoneType_tuple (no (by decide))
  | ref a =>
    cases ru
    rcases hk with ⟨rfl, xs, hx⟩ | ⟨rfl, xs, hx⟩
    · obtain ⟨its, _, pl, _⟩ := I.list hx
      obtain ⟨o, e, c, _⟩ := pl.isList
      rcases hT with rfl | rfl | rfl | rfl
      · exact IsiPair.list_int e c (no (by decide))
      · exact IsiPair.list_bool e c (no (by decide))
      · exact IsiPair.list_list e c (yes (by decide))
      · exact IsiPair.list_tuple e c (no (by decide))
    · obtain ⟨its, _, pl, _⟩ := I.tuple hx
      obtain ⟨o, e, c, _⟩ := pl
      rcases hT with rfl | rfl | rfl | rfl
      · exact IsiPair.tuple_int e c (no (by decide))
      · exact IsiPair.tuple_bool e c (no (by decide))
      · exact IsiPair.tuple_list e c (no (by decide))
      · exact IsiPair.tuple_tuple e c (yes (by decide))
  | _ => exact False.elim hk
end
end L2

set_option Elab.async false
set_option linter.all false
set_option maxRecDepth 100000
namespace L2
open PySem PySem.Spec PyProof.Rows

/-- at the law's call: the script, known to the object (or one of the module's), and the defs' tables -/
def OnlyT (tabs : List (Addr × Addr)) (H : Hp) : Prop := (∀ q ∈ tabs, H q.2 = some (TabP q.2)) ∧ ∀ b, H b = none ∨ (∃ o xs, H b = some (.frz o (.lst xs))) ∨ ∃ q ∈ tabs, b = q.2
theorem classed_no {K : PySem.W.Frag} {h : Heap} {P : Addr} {ps : Array Value} {mg : Str → Option Value} {mc : Str → Option Value} (hK : PySem.W.kb_classed K = true) (X : K.In h) (G : h.Ns mainGlobals mg) (C : h.Ns cStatics mc) (e : h.get? P = some (PySem.W.tabObj ps)) : K.lookup P = none := by
  cases q : K.lookup P with
  | none => rfl
  | some o =>
    have eo := X P o q
    rw [e] at eo; cases eo
    have z := List.all_eq_true.mp hK (P, _) (PySem.W.kb_mem q)
    simp only [Bool.or_eq_true, decide_eq_true_eq, beq_iff_eq] at z
    rcases z with (z | z) | z
    · exact absurd rfl z
    · obtain ⟨o', es, ep, e1, e2, _⟩ := C
      rw [← z, e] at e1; cases e1; cases e2
    · obtain ⟨o', es, ep, e1, e2, _⟩ := G
      rw [← z, e] at e1; cases e1; cases e2
theorem triples_nil : TriplesOk (#[] : Array Value).toList := by
  first | trivial | (unfold TriplesOk; simp) | simp [TriplesOk]

theorem law_callT {P : Program} {w : World} {K : PySem.W.Frag} {mg mb : Str → Option Value} {k : Nat} {fa a : Addr} {fd : FuncData} {x : Str} {sp : Sp} {s₁ : Shared} {vs : List Value} {ns : List Int} {tabs : List (Addr × Addr)}
    (KX : K.In s₁.heap) (hns : s₁.heap.Ns mainGlobals mg) (hb : s₁.heap.Ns builtinsNs mb) (hbb : ∀ x : Str, x ≠ "__name__" → mb x = bootBuiltins x) (hlim : s₁.heap.NoLimit) (hg : s₁.gens = #[]) (hK : PySem.W.kb_classed K = true)
    (hT : PySem.W.TabsAt tabs s₁.heap) (ha : s₁.heap.get? a = some { cls := .type "list", data := .seq vs.toArray }) (hi : IntsAre vs ns) (hl : ns.length ≤ sizeLine) (hr : Room k callerA)
    (F : ∀ base : Heap, K.In base → base.Ns mainGlobals mg → (∀ q ∈ tabs, PySem.W.CodeHd base q.1 q.2) → (∀ b o, s₁.heap.get? b = some o → o.cls = .type "module" → base.get? b = some o) → FnOk P w K mg base (CXr Bare) k fa fd [x] sp) (hbind : ∀ (s : Shared) (u : Value), BindsTo s fd ⟨[u], []⟩ [(x, u)])
    (hsp : ∀ H : Hp, OnlyT tabs H → SqL K H a (ns.map V.int) → sp [.ref a] H (fun v H' => v = .bl true ∧ ∀ q ∈ tabs, H' q.2 = some (TabP q.2)) E0) :
    codeAny (model P w) callerA (.call (.ref fa) ⟨[.ref a], []⟩) (fun r s' => r = .ok (.ret (.bool true)) ∧ OldK s₁.heap s'.heap ∧ s'.os = s₁.os ∧ AllBare s'.gens) s₁ := by
  have rv := vals_ints hi
  have lenV := hi.length
  obtain ⟨mc, hc1, hc2⟩ := id hlim
  have nat : ∀ q ∈ tabs, q.2 ≠ a := fun q hq z => by
    have e := (hT q hq).2
    rw [z, ha] at e; cases e
  have notab : ∀ b o, s₁.heap.get? b = some o → o.cls ≠ .none → ∀ q ∈ tabs, q.2 ≠ b := fun b o e hc q hq z => by
    have e' := (hT q hq).2
    rw [z, e] at e'; cases e'
    exact hc rfl
  have core : ∀ H : Hp, OnlyT tabs H → SqL K H a (ns.map V.int) → HOk P w H s₁.heap → (∀ b, H b ≠ none → b = a ∨ ∃ q ∈ tabs, b = q.2) → (H a ≠ none → K.lookup a = none) →
      codeAny (model P w) callerA (.call (.ref fa) ⟨[.ref a], []⟩) (fun r s' => r = .ok (.ret (.bool true)) ∧ OldK s₁.heap s'.heap ∧ s'.os = s₁.os ∧ AllBare s'.gens) s₁ := by
    intro H hO hS hok hA hKa
    have bof : ∀ {b : Addr} {o : Obj}, s₁.heap.get? b = some o → H b = none → (hidT s₁.heap H).get? b = some o := fun e n => hidT_get e n
    have untr : ∀ {b : Addr} {o : Obj}, s₁.heap.get? b = some o → o.data ≠ .seq vs.toArray 0 → (∀ ps, o ≠ PySem.W.tabObj ps) → H b = none := fun {b o} e d1 d2 => by
      cases q : H b with
      | none => rfl
      | some u =>
        rcases hA b (by rw [q]; simp) with z | ⟨r, hr, z⟩
        · rw [z, ha] at e; cases e
          exact absurd rfl d1
        · have e' := (hT r hr).2
          rw [← z, e] at e'; cases e'
          exact absurd rfl (d2 _)
    have nsK : ∀ {b : Addr} {m : Str → Option Value}, s₁.heap.Ns b m → (hidT s₁.heap H).Ns b m := fun {b m} ⟨o, es, ep, e, d, r⟩ => ⟨o, es, ep, bof e (untr e (by rw [d]; intro z; cases z) (fun ps z => by rw [z] at d; cases d)), d, r⟩
    have hKb : K.In (hidT s₁.heap H) := fun b o e => bof (KX b o e) (by
      cases q : H b with
      | none => rfl
      | some u =>
        rcases hA b (by rw [q]; simp) with z | ⟨r, hr, z⟩
        · subst z
          rw [hKa (by rw [q]; simp)] at e; cases e
        · have := classed_no hK KX hns hc1 (hT r hr).2
          rw [← z, e] at this; cases this)
    have hM : Mod K mg (hidT s₁.heap H) := ⟨hKb, nsK hns, ⟨mb, nsK hb, hbb⟩, ⟨mc, nsK hc1, hc2⟩⟩
    have e0 : Env0 P w K mg (hidT s₁.heap H) Bare True callerA [] s₁ H := ⟨fun _ => ⟨rfl, rfl⟩, hM, fun b o e => of_hidT e, Nat.le_of_eq (hidT_size _ _), trivial, fun b hb => absurd (show b ∈ ([] : List Addr) from hb) (by simp), hok, .of_eq hg⟩
    have hcd : ∀ q ∈ tabs, PySem.W.CodeHd (hidT s₁.heap H) q.1 q.2 := fun q hq => by
      obtain ⟨o, vs', file, tf, fl, tg, inF, tx, tt, e1, e2, e3, rr⟩ := (hT q hq).1
      exact ⟨o, vs', file, tf, fl, tg, inF, tx, tt, bof e1 (untr e1 (by rw [e3]; intro z; cases z) fun ps z => by rw [z] at e2; cases e2), e2, e3, rr⟩
    have hmd : ∀ b o, s₁.heap.get? b = some o → o.cls = .type "module" → (hidT s₁.heap H).get? b = some o := fun b o e c => by
      refine bof e ?_
      cases q : H b with
      | none => rfl
      | some u =>
        rcases hA b (by rw [q]; simp) with z | ⟨r, hr, z⟩
        · rw [z, ha] at e; cases e
          injection c with c
          exact absurd c (by decide)
        · have e' := (hT r hr).2
          rw [← z, e] at e'; cases e'; cases c
    refine codeAny_mono ((F _ hKb (nsK hns) hcd hmd).run callerA [] s₁ H ⟨[.ref a], []⟩ [.ref a] [.ref a] _ _ hr e0 (hbind s₁ (.ref a)) (.cons rfl .nil) (hsp H hO hS)) fun r s' h => ?_
    cases r with
    | error e => exact False.elim h
    | ok fl =>
      cases fl with
      | next => exact False.elim h
      | brk => exact False.elim h
      | cont => exact False.elim h
      | ret u =>
        obtain ⟨v, H', os, bare, un, hok', r', q⟩ := h
        obtain ⟨q', qt⟩ := q
        subst q'
        obtain rfl : u = Value.bool true := r'
        have kept : ∀ b o, s₁.heap.get? b = some o → asItWas s₁.heap s'.heap b o ∧ ∃ o', s'.heap.get? b = some o' := fun b o e => by
          cases q : H b with
          | none =>
            have z := un.keep b o e q (by intro z; exact absurd (show b ∈ ([] : List Addr) from z) (by simp)) (by simp)
            exact ⟨.inl z, _, z⟩
          | some u =>
            rcases hO.2 b with z | ⟨ob, xs, z⟩ | ⟨r, hr, z⟩
            · rw [q] at z; cases z
            · have z2 := un.frzs b ob _ z
              obtain ⟨e1, _⟩ := hok b _ z
              obtain ⟨e2, _⟩ := hok' b _ z2
              rw [e] at e1; cases e1
              exact ⟨.inl e2, _, e2⟩
            · have e1 := (hT r hr).2
              obtain ⟨⟨ps, e2, _⟩, _⟩ := hok' r.2 _ (qt r hr)
              rw [← z] at e1 e2
              rw [e] at e1; cases e1
              have tb := (hT r hr).1.tab (hT r hr).2
              rw [← z] at tb
              refine ⟨.inr (.inl ⟨tb.isCodeTable, rfl, #[], ps, rfl, ?_⟩), _, e2⟩
              rw [e2]
              simp
        exact ⟨rfl, ⟨fun b o e => (kept b o e).1, fun b o e => (kept b o e).2⟩, os, bare⟩
  have mem : ∀ b, b ∈ tabs.map (·.2) ↔ ∃ q ∈ tabs, b = q.2 := fun b => by
    rw [List.mem_map]
    exact ⟨fun ⟨q, h1, h2⟩ => ⟨q, h1, h2.symm⟩, fun ⟨q, h1, h2⟩ => ⟨q, h1, h2.symm⟩⟩
  have tabok : ∀ (H : Hp) (b : Addr), b ∈ tabs.map (·.2) → ObjOk P w H s₁.heap b (TabP b) := fun H b hb => by
    obtain ⟨q, h1, rfl⟩ := (mem b).mp hb
    exact TabP.ok (hT q h1).2 triples_nil
  cases hk : K.lookup a with
  | some o =>
    have e := KX a o hk
    rw [ha] at e
    cases e
    refine core (fun b => if b ∈ tabs.map (·.2) then some (TabP b) else none) ⟨fun q hq => if_pos ((mem _).mpr ⟨q, hq, rfl⟩), fun b => ?_⟩ (.inr ⟨_, vs.toArray, _, hk, rfl, rfl, rfl, by rw [List.size_toArray, lenV]; exact hl, by simpa using rv⟩) (fun b u z => ?_) (fun b z => ?_) fun z => ?_
    · by_cases hb : b ∈ tabs.map (·.2)
      · exact .inr (.inr ((mem b).mp hb))
      · exact .inl (if_neg hb)
    · by_cases hb : b ∈ tabs.map (·.2)
      · have z' := (if_pos hb).symm.trans z
        cases z'
        exact tabok _ b hb
      · have z' := (if_neg hb).symm.trans z
        cases z'
    · by_cases hb : b ∈ tabs.map (·.2)
      · exact .inr ((mem b).mp hb)
      · exact absurd (if_neg hb) z
    · refine absurd (if_neg fun hm => ?_) z
      obtain ⟨q, hq, e⟩ := (mem a).mp hm
      exact nat q hq e.symm
  | none =>
    refine core (fun b => if b = a then some (.frz { cls := .type "list", data := .seq vs.toArray } (.lst (ns.map V.int))) else if b ∈ tabs.map (·.2) then some (TabP b) else none) ⟨fun q hq => ?_, fun b => ?_⟩ (.inl (.inr ⟨{ cls := .type "list", data := .seq vs.toArray }, if_pos rfl⟩)) (fun b u z => ?_) (fun b z => ?_) fun _ => hk
    · exact (if_neg (nat q hq)).trans (if_pos ((mem _).mpr ⟨q, hq, rfl⟩))
    · by_cases hb : b = a
      · exact .inr (.inl ⟨_, _, if_pos hb⟩)
      · by_cases hm : b ∈ tabs.map (·.2)
        · exact .inr (.inr ((mem b).mp hm))
        · exact .inl ((if_neg hb).trans (if_neg hm))
    · by_cases hb : b = a
      · have z' := (if_pos hb).symm.trans z
        cases z'
        subst hb
        exact ⟨ha, by rw [List.length_map]; exact hl, vs, _, rv, ha⟩
      · by_cases hm : b ∈ tabs.map (·.2)
        · have z' := ((if_neg hb).trans (if_pos hm)).symm.trans z
          cases z'
          exact tabok _ b hm
        · have z' := ((if_neg hb).trans (if_neg hm)).symm.trans z
          cases z'
    · by_cases hb : b = a
      · exact .inl hb
      · by_cases hm : b ∈ tabs.map (·.2)
        · exact .inr ((mem b).mp hm)
        · exact absurd ((if_neg hb).trans (if_neg hm)) z

/-- the goal that k_head leaves, from the law's promise; names: the defs whose tables may grow -/
theorem walk_T {l : PySem.W.OpenLaw} {n k : Nat} {q : Program} {loose : List Str} {XP : (Str → Option Value) → Heap → Prop} {YP : World → Heap → Prop} {d : DefRec} {K : Params → PySem.W.Frag} {sp : World → List (Addr × Addr) → Sp} {x : Str} {names : List Str}
    (hn : l.most = some n) (hn2 : n ≤ sizeLine) (hdf : d.params.defaults = []) (hr : Room k callerA)
    (hY : ∀ (w : World) (h : Heap), YP w h → (K w.params).In h) (hK : ∀ w : World, PySem.W.kb_classed (K w.params) = true) (hrec : (names.all fun y => (recsOf q).any fun d => d.name == y) = true)
    (F : ∀ (w : World) (mg : Str → Option Value) (fa : Addr) (h : Heap) (tabs : List (Addr × Addr)), (K w.params).In h → h.Ns mainGlobals mg → mg d.name = some (.ref fa) →
      tabs.length = names.length → (∀ (i : Nat) (y : Str), names[i]? = some y → ∃ (a : Addr) (o : Obj) (fd : FuncData) (q : Addr × Addr), tabs[i]? = some q ∧ mg y = some (.ref a) ∧ h.get? a = some o ∧ o.data = .func fd ∧ fd.code = .ref q.1) → (∃ bm ob, mg "__builtins__" = some (.ref bm) ∧ bm ≠ builtinsNs ∧ h.get? bm = some ob ∧ ob.cls = .type "module" ∧ ob.dict = some builtinsNs ∧ ob.data = .plain) →
      ∃ fd : FuncData, (∀ (s : Shared) (u : Value), BindsTo s fd ⟨[u], []⟩ [(x, u)]) ∧
        ∀ base : Heap, (K w.params).In base → base.Ns mainGlobals mg → (∀ q ∈ tabs, PySem.W.CodeHd base q.1 q.2) → (∀ b o, h.get? b = some o → o.cls = .type "module" → base.get? b = some o) → FnOk l.prog w (K w.params) mg base (CXr Bare) k fa fd [x] (sp w tabs))
    (hsp : ∀ (w : World) (H : Hp) (a : Addr) (ns : List Int) (tabs : List (Addr × Addr)), ns.length ≤ n → OnlyT tabs H → SqL (K w.params) H a (ns.map V.int) → sp w tabs [.ref a] H (fun v H' => v = .bl true ∧ ∀ q ∈ tabs, H' q.2 = some (TabP q.2)) E0) :
    PySem.W.WalkO q loose XP YP l.row.toRowW d [] (fun f vs => PySem.call f vs) := by
  refine Att.attach_call hn hdf fun w s₀ s₁ mg mb fa o pm cd doc a vs ns G Y ho hd hcd hmg hobj hints hlen hg => ?_
  have KX := hY w _ Y
  have key : ∀ l : List Str, (∀ y ∈ l, ∃ d' ∈ recsOf q, d'.name = y) → ∃ tabs : List (Addr × Addr), tabs.length = l.length ∧ PySem.W.TabsAt tabs s₁.heap ∧ ∀ (i : Nat) (y : Str), l[i]? = some y → ∃ (a : Addr) (o : Obj) (fd : FuncData) (q : Addr × Addr), tabs[i]? = some q ∧ mg y = some (.ref a) ∧ s₁.heap.get? a = some o ∧ o.data = .func fd ∧ fd.code = .ref q.1 := by
    intro l
    induction l with
    | nil => intro _; exact ⟨[], rfl, fun q hq => (nomatch hq), fun i y e => by simp at e⟩
    | cons y l ih =>
      intro h
      obtain ⟨tabs, h1, h2, h3⟩ := ih fun z hz => h z (List.mem_cons_of_mem _ hz)
      obtain ⟨d', hd', hn'⟩ := h y List.mem_cons_self
      obtain ⟨fa', o', fd', c, P, m1, m2, m3, m4, m5, m6⟩ := G.T.tab d' hd'
      refine ⟨(c, P) :: tabs, by simp [h1], fun q hq => ?_, fun i z e => ?_⟩
      · rcases List.mem_cons.mp hq with rfl | hq
        · exact ⟨.of m5 m6, m6.2⟩
        · exact h2 q hq
      · cases i with
        | zero =>
          have e : y = z := by simpa using e
          subst e
          exact ⟨fa', o', fd', (c, P), rfl, by rw [← hn']; exact m1, m2, m3, m4⟩
        | succ i => exact h3 i z (by simpa using e)
  have hrec' : ∀ y ∈ names, ∃ d' ∈ recsOf q, d'.name = y := fun y hy => by
    obtain ⟨d', h1, h2⟩ := List.any_eq_true.mp (List.all_eq_true.mp hrec y hy)
    exact ⟨d', h1, by simpa using h2⟩
  obtain ⟨tabs, t1, t2, t3⟩ := key names hrec'
  obtain ⟨fd, hb, hF⟩ := F w mg fa _ tabs KX G.T.g hmg t1 t3 G.T.bmain
  exact law_callT KX G.T.g G.T.b G.T.builtins G.T.nolimit hg (hK w) t2 hobj hints (Nat.le_trans hlen hn2) hr hF hb fun H hO hS => hsp w H a ns tabs hlen hO hS
/-- the same where the promise hangs on the written part alone -/
theorem walk_TK {l : PySem.W.OpenLaw} {n k : Nat} {q : Program} {loose : List Str} {XP : (Str → Option Value) → Heap → Prop} {YP : World → Heap → Prop} {d : DefRec} {K : Params → PySem.W.Frag} {sp : PySem.W.Frag → List (Addr × Addr) → Sp} {x : Str} {names : List Str}
    (hn : l.most = some n) (hn2 : n ≤ sizeLine) (hdf : d.params.defaults = []) (hr : Room k callerA)
    (hY : ∀ (w : World) (h : Heap), YP w h → (K w.params).In h) (hK : ∀ w : World, PySem.W.kb_classed (K w.params) = true) (hrec : (names.all fun y => (recsOf q).any fun d => d.name == y) = true)
    (F : ∀ (w : World) (mg : Str → Option Value) (fa : Addr) (h : Heap) (tabs : List (Addr × Addr)), (K w.params).In h → h.Ns mainGlobals mg → mg d.name = some (.ref fa) →
      tabs.length = names.length → (∀ (i : Nat) (y : Str), names[i]? = some y → ∃ (a : Addr) (o : Obj) (fd : FuncData) (q : Addr × Addr), tabs[i]? = some q ∧ mg y = some (.ref a) ∧ h.get? a = some o ∧ o.data = .func fd ∧ fd.code = .ref q.1) → (∃ bm ob, mg "__builtins__" = some (.ref bm) ∧ bm ≠ builtinsNs ∧ h.get? bm = some ob ∧ ob.cls = .type "module" ∧ ob.dict = some builtinsNs ∧ ob.data = .plain) →
      ∃ fd : FuncData, (∀ (s : Shared) (u : Value), BindsTo s fd ⟨[u], []⟩ [(x, u)]) ∧
        ∀ base : Heap, (K w.params).In base → base.Ns mainGlobals mg → (∀ q ∈ tabs, PySem.W.CodeHd base q.1 q.2) → (∀ b o, h.get? b = some o → o.cls = .type "module" → base.get? b = some o) → FnOk l.prog w (K w.params) mg base (CXr Bare) k fa fd [x] (sp (K w.params) tabs))
    (hsp : ∀ (K : PySem.W.Frag) (H : Hp) (a : Addr) (ns : List Int) (tabs : List (Addr × Addr)), ns.length ≤ n → OnlyT tabs H → SqL K H a (ns.map V.int) → sp K tabs [.ref a] H (fun v H' => v = .bl true ∧ ∀ q ∈ tabs, H' q.2 = some (TabP q.2)) E0) :
    PySem.W.WalkO q loose XP YP l.row.toRowW d [] (fun f vs => PySem.call f vs) :=
  walk_T (K := K) (sp := fun w tabs => sp (K w.params) tabs) hn hn2 hdf hr hY hK hrec F fun w H a ns tabs h1 h2 h3 => hsp (K w.params) H a ns tabs h1 h2 h3
theorem FnOk.toR {P : Program} {w : World} {K : PySem.W.Frag} {mg : Str → Option Value} {base : Heap} {gq : Array GenState → Drawn → Prop} {k : Nat} {f : Addr} {fd : FuncData} {ps : List Str} {sp : Sp} (h : FnOk P w K mg base (CXq gq) k f fd ps sp) : FnOk P w K mg base (CXr gq) k f fd ps sp :=
  ⟨h.len, fun A outer s H args us vs Q E hr e0 hb r hsp => h.run A outer s H args us vs Q E hr (e0.weak False.elim) hb r hsp⟩
end L2

set_option Elab.async false
set_option linter.all false
set_option maxRecDepth 100000
set_option maxHeartbeats 4000000
namespace L2
open PySem PySem.Spec PyProof.Rows
/-- a def's body where its code is known -/
theorem Fun.okc {P : Program} {w : World} {K : PySem.W.Frag} {mg : Str → Option Value} {base : Heap} {CX : CXT} {x qual : Str} {st : Stmt} {f : Addr} {fd : FuncData} {N ps : List Str} {k : Nat} {sp : Sp} (F : Fun K x qual st f fd) (S : FnScope N ps (defScope st)) (len : ∀ vs H Q E, sp vs H Q E → vs.length = ps.length)
    (hbody : ∀ (A : Around) (outer : List Env) (s : Shared) (H : Hp) (vs : List V) (Q : VK) (E : XK), Room k (A.deeper (envOfC qual (defScope st) s.heap.objs.size f fd.code)) → sp vs H Q E →
      ∃ t, PSs (cxOf CX P w K mg base N qual (defScope st) f fd.code A outer s H E).nox (defBody st) t ∧ t { nx := fun _ H' => Q .non H', rt := Q } (start N vs) H) : FnOk P w K mg base CX (k + 1) f fd ps sp := by
  obtain ⟨oc, od, kV, doc, pm, an, cdv, ct, osl, rfl, lk, hcd⟩ := F.ex
  refine fn_of lk hcd S len fun A outer s H vs Q E hr hsp => ?_
  obtain ⟨t, h, q⟩ := hbody A outer s H vs Q E hr hsp
  exact ⟨t, h.nox, q⟩

theorem Same.seqT {K : PySem.W.Frag} {H H' : Hp} {a : Addr} {xs : List V} (e : Same H H') (h : SqT K H a xs) : SqT K H' a xs := by
  rcases h with (h | ⟨o, h⟩) | h
  · exact .inl (.inl (e _ _ h))
  · exact .inl (.inr ⟨o, e _ _ h⟩)
  · exact .inr h
theorem Same.kd {K : PySem.W.Frag} {H H' : Hp} {v : V} {k : String} (e : Same H H') (h : Kd K H v k) : Kd K H' v k := by
  cases v with
  | ref a =>
    rcases h with ⟨h1, xs, h2⟩ | ⟨h1, xs, h2⟩
    · exact .inl ⟨h1, xs, e.seq h2⟩
    · exact .inr ⟨h1, xs, e.seqT h2⟩
  | _ => exact h
theorem LikeF.kd {K : PySem.W.Frag} {H H' : Hp} {v : V} {k : String} (e : LikeF K H H') (h : Kd K H v k) : Kd K H' v k := by
  cases v with
  | ref a =>
    rcases h with ⟨h1, xs, h2⟩ | ⟨h1, xs, h2⟩
    · exact .inl ⟨h1, xs, e.1 _ _ h2⟩
    · exact .inr ⟨h1, xs, e.2 _ _ h2⟩
  | _ => exact h

theorem pe_ty {X : Cx} {x : Str} {pos : Pos} (n : String) (hg : Gl X x) (hm : X.mg x = none) (hv : bootBuiltins x = some (.type n)) (hn : x ≠ "__name__" := by decide) (hd : (x == ("__debug__" : Str)) = false := by decide) : PE X (.Name x pos) (tC (.ty n)) :=
  pe_bltn (u := .type n) hg hm hv rfl hn hd
theorem pe_gint {X : Cx} {x : Str} {pos : Pos} {i : Int} {t : Tok} (hg : Gl X x) (hm : X.mg x = some (.int i t)) (hd : (x == ("__debug__" : Str)) = false := by decide) : PE X (.Name x pos) (tC (.int i)) := pe_glob hg hm ⟨t, rfl⟩ hd
/-! ### mirrors of the small defs -/
def wholeK (k : String) : Bool := isi k "int" && !isi k "bool"
def isIntV : V → Bool
  | .int _ => true
  | _ => false
theorem wholeK_eq {K : PySem.W.Frag} {H : Hp} {v : V} {k : String} (h : Kd K H v k) : wholeK k = isIntV v := by
  cases v with
  | int i => obtain rfl : k = "int" := h; exact (by decide : wholeK "int" = true)
  | bl i => obtain rfl : k = "bool" := h; exact (by decide : wholeK "bool" = false)
  | str i => obtain rfl : k = "str" := h; exact (by decide : wholeK "str" = false)
  | non => obtain rfl : k = "NoneType" := h; exact (by decide : wholeK "NoneType" = false)
  | ref a =>
    rcases h with ⟨rfl, _⟩ | ⟨rfl, _⟩
    · exact (by decide : wholeK "list" = false)
    · exact (by decide : wholeK "tuple" = false)
  | _ => exact False.elim h
def withinV : V → Int → Int → Bool
  | .int i, lo, hi => decide (lo ≤ i) && decide (i ≤ hi)
  | _, _, _ => false
def sp_whole (K : PySem.W.Frag) : Sp := fun vs H Q _ => ∃ v k, vs = [v] ∧ Kd K H v k ∧ Q (.bl (wholeK k)) H
def sp_within (K : PySem.W.Frag) : Sp := fun vs H Q _ => ∃ v k lo hi, vs = [v, .int lo, .int hi] ∧ Kd K H v k ∧ Q (.bl (withinV v lo hi)) H
end L2

set_option Elab.async false
set_option linter.all false
set_option maxRecDepth 100000
set_option maxHeartbeats 4000000
namespace L2
open PySem PySem.Spec PyProof.Rows
theorem sIx_nat {n d k : Nat} (h : k ≤ n) : HT.sIx n d (some (k : Int)) = k := by
  unfold HT.sIx
  simp only
  split <;> omega
theorem cut_to {xs : List V} {k : Nat} (h : k ≤ xs.length) : cutV xs none (some (k : Int)) = xs.take k := by
  unfold cutV
  rw [sIx_nat h]
  show (xs.drop 0).take (k - 0) = _
  rw [List.drop_zero, Nat.sub_zero]
theorem cut_from {xs : List V} {k : Nat} (h : k ≤ xs.length) : cutV xs (some (k : Int)) none = xs.drop k := by
  unfold cutV
  rw [sIx_nat h]
  show (xs.drop k).take (xs.length - k) = _
  rw [List.take_of_length_le (by rw [List.length_drop]; exact Nat.le_refl _)]
/-- two neighbours exchanged -/
def swapAt {α : Type} : List α → Nat → List α
  | x :: y :: r, 0 => y :: x :: r
  | x :: r, k + 1 => x :: swapAt r k
  | l, _ => l
theorem swapAt_succ {α : Type} (a : α) (r : List α) (k : Nat) : swapAt (a :: r) (k + 1) = a :: swapAt r k := by cases r <;> rfl
theorem swapAt_len {α : Type} : ∀ (xs : List α) (k : Nat), (swapAt xs k).length = xs.length
  | [], 0 => rfl
  | [], _ + 1 => rfl
  | [_], 0 => rfl
  | _ :: _ :: _, 0 => rfl
  | _ :: r, k + 1 => by rw [swapAt_succ, List.length_cons, List.length_cons, swapAt_len r k]
theorem swapAt_cut {α : Type} : ∀ (xs : List α) (k : Nat) (x y : α), xs[k]? = some x → xs[k + 1]? = some y → xs.take k ++ [y, x] ++ xs.drop (k + 2) = swapAt xs k
  | [], _, _, _, h, _ => by simp at h
  | [_], 0, _, _, _, h => by simp at h
  | a :: b :: r, 0, x, y, h1, h2 => by
    simp at h1 h2
    subst h1 h2
    rfl
  | a :: r, k + 1, x, y, h1, h2 => by
    have := swapAt_cut r k x y (by simpa using h1) (by simpa using h2)
    rw [swapAt_succ]
    show a :: (r.take k) ++ [y, x] ++ r.drop (k + 2) = a :: swapAt r k
    rw [← this]
    rfl
theorem swapAt_map {α β : Type} (f : α → β) : ∀ (xs : List α) (k : Nat), swapAt (xs.map f) k = (swapAt xs k).map f
  | [], 0 => rfl
  | [], _ + 1 => rfl
  | [_], 0 => rfl
  | _ :: _ :: _, 0 => rfl
  | a :: r, k + 1 => by
    rw [swapAt_succ, List.map_cons, List.map_cons, swapAt_succ]
    rw [swapAt_map f r k]
theorem get_some {α : Type} {xs : List α} {k : Nat} (h : k < xs.length) : ∃ x, xs[k]? = some x := ⟨xs[k], List.getElem?_eq_getElem h⟩
def intsV (ns : List Int) : List V := ns.map V.int
theorem intsV_len (ns : List Int) : (intsV ns).length = ns.length := by unfold intsV; simp
/-- the order of a word -/
def wordOrd (m : Nat) (ks : List Nat) : List Int := ks.foldl swapAt ((List.range m).map fun (i : Nat) => (i : Int))
theorem foldl_swap_len {α : Type} (ks : List Nat) : ∀ xs : List α, (ks.foldl swapAt xs).length = xs.length := by
  induction ks with
  | nil => intro xs; rfl
  | cons k ks ih => intro xs; rw [List.foldl_cons, ih, swapAt_len]
theorem wordOrd_len (m : Nat) (ks : List Nat) : (wordOrd m ks).length = m := by unfold wordOrd; rw [foldl_swap_len]; simp
theorem rng_ints (m : Nat) : rngV 0 (m : Int) = intsV ((List.range m).map fun (i : Nat) => (i : Int)) := by
  unfold rngV intsV
  rw [List.map_map]
  have : ((m : Int) - 0).toNat = m := by omega
  rw [this]
  apply List.map_congr_left
  intro i _
  show V.int (0 + (i : Int)) = V.int i
  rw [Int.zero_add]
def natsV (ks : List Nat) : List V := ks.map fun (k : Nat) => V.int (k : Int)
end L2
namespace L2
open PySem PySem.Spec PyProof.Rows
theorem natsV_get {ks : List Nat} {i : Nat} {x : V} (h : (natsV ks)[i]? = some x) : ∃ k, ks[i]? = some k ∧ x = .int (k : Int) := by
  unfold natsV at h
  rw [List.getElem?_map] at h
  cases e : ks[i]? with
  | none => rw [e] at h; cases h
  | some k => rw [e] at h; exact ⟨k, rfl, (Option.some.inj h).symm⟩
theorem natsV_len (ks : List Nat) : (natsV ks).length = ks.length := by unfold natsV; simp
theorem take_step {α : Type} {ks : List α} {i : Nat} {k : α} (h : ks[i]? = some k) : ks.take (i + 1) = ks.take i ++ [k] := by
  rw [List.take_succ, h]; rfl
theorem wordOrd_step {m : Nat} {ks : List Nat} {i k : Nat} (h : ks[i]? = some k) : wordOrd m (ks.take (i + 1)) = swapAt (wordOrd m (ks.take i)) k := by
  unfold wordOrd
  rw [take_step h, List.foldl_append]; rfl
theorem wordOrd_nil (m : Nat) : wordOrd m [] = (List.range m).map fun (i : Nat) => (i : Int) := rfl
theorem intsV_swap (xs : List Int) (k : Nat) : swapAt (intsV xs) k = intsV (swapAt xs k) := swapAt_map _ _ _
theorem le_size {n : Nat} (h : n ≤ 1000) : n ≤ sizeLine := Nat.le_trans h (by decide)
end L2

set_option Elab.async false
set_option linter.all false
set_option maxRecDepth 100000
set_option maxHeartbeats 4000000
namespace L2
open PySem PySem.Spec PyProof.Rows
theorem lay_ints : ∀ ns : List Int, PyData.canLayAll0 (ns.map PyData.int) = true
  | [] => rfl
  | n :: r => by simp only [List.map_cons, PyData.canLayAll0, PyData.canLay0, lay_ints r, Bool.and_self]
theorem dep_ints : ∀ ns : List Int, PyData.depthAll (ns.map PyData.int) = 0
  | [] => by simp [PyData.depthAll]
  | n :: r => by simp [PyData.depthAll, PyData.depth, dep_ints r]
theorem shaped_l (ns : List Int) : SeqAt.shaped (.list (ns.map PyData.int)) = true := by
  unfold SeqAt.shaped
  simp [PyData.canLay0, PyData.depth, lay_ints, dep_ints]
theorem shaped_t (ns : List Int) : SeqAt.shaped (.tuple (ns.map PyData.int)) = true := by
  unfold SeqAt.shaped
  simp [PyData.canLay0, PyData.depth, lay_ints, dep_ints]
theorem eqv_self {d : PyData} (h : SeqAt.shaped d = true) : PyData.eqv d d = true := SeqAt.eqv_refl d (SeqAt.canLay_of_shaped h)
theorem dp_ints (K : PySem.W.Frag) (H : Hp) : ∀ ns : List Int, DpAll K H (intsV ns) (ns.map PyData.int)
  | [] => .nil
  | n :: r => .cons (.int n) (dp_ints K H r)
theorem nats_ints (ks : List Nat) : natsV ks = intsV (ks.map fun (k : Nat) => (k : Int)) := by unfold natsV intsV; rw [List.map_map]; rfl
theorem same_upd {H H' : Hp} {l : Addr} {o : HO} (s : Same H H') (h : H l = none) : Same H (upd H' l o) := fun b u e => by rw [upd_ne (ne_of_none e h)]; exact s b u e
theorem get_intsV {ns : List Int} {i : Nat} {n : Int} (h : ns[i]? = some n) : (intsV ns)[i]? = some (.int n) := by
  unfold intsV
  rw [List.getElem?_map, h]; rfl
theorem yes_of {σ : St} {H : Hp} {A B : Hp → Prop} (h : A H) : tYes σ H fun b H3 => if b = true then A H3 else B H3 := by
  unfold tYes
  exact iteT h
theorem powOk {i j : Int} (h1 : 0 ≤ j) (h2 : j ≤ 1000000) (h3 : i.natAbs < 2 ^ 64) : CPow i j := ⟨h1, h2, h3⟩
theorem bits_ok {a b : Int} (h1 : Builtin.Int.intBits a ≤ 2 ^ 20) (h2 : Builtin.Int.intBits b ≤ 2 ^ 20) : IntMulOk a b := IntMulOk.of_bits h1 h2
end L2

set_option Elab.async false
set_option linter.all false
set_option maxRecDepth 100000
namespace L2
open PySem PySem.Spec PyProof.Rows
section
variable {prog : Program} {w : World} {A : Around} {E : Value → Shared → Prop} {s : Shared}
end
end L2

set_option Elab.async false
set_option linter.all false
set_option maxRecDepth 100000
set_option maxHeartbeats 4000000
namespace L2
open PySem PySem.Spec PyProof.Rows
/-- how many unlike ones -/
def nuq (zs : List Int) : Nat := (zs.foldl step_dedup []).length
section
variable {X : Cx}
end
/-! ### orders: the mirror of is_order -/
def intsOf : List V → Option (List Int)
  | [] => some []
  | .int i :: r => (intsOf r).map (i :: ·)
  | _ :: _ => none
theorem intsOf_intsV : ∀ zs : List Int, intsOf (intsV zs) = some zs
  | [] => rfl
  | z :: r => by show (intsOf (intsV r)).map (z :: ·) = _; rw [intsOf_intsV r]; rfl
def rowV (xs : List V) : Bool := decide (1 ≤ xs.length) && decide (xs.length ≤ 5)
def ordV (xs : List V) : Bool := rowV xs && ((xs.all fun x => withinV x 0 ((xs.length : Int) - 1)) && (match intsOf xs with | some zs => decide ((nuq zs : Int) = (zs.length : Int)) | none => false))
/-- a thing that is_order may be asked about -/
def Known (K : PySem.W.Frag) (H : Hp) (xs : List V) : Prop := ∀ x ∈ xs, ∃ k, Kd K H x k
end L2

set_option Elab.async false
set_option linter.all false
set_option maxRecDepth 100000
namespace L2
open PySem PySem.Spec PyProof.Rows

/-! ### steps that leave every object's dict as it is -/
def DK (h h' : PySem.Heap) : Prop := ∀ (a : Addr) (o : Obj), h.objs[a]? = some o → ∃ o' : Obj, h'.objs[a]? = some o' ∧ o'.dict = o.dict
theorem DK.refl {h : PySem.Heap} : DK h h := fun _ o e => ⟨o, e, rfl⟩
theorem DK.trans {h h1 h2 : PySem.Heap} (a : DK h h1) (b : DK h1 h2) : DK h h2 := fun x o e => by
  obtain ⟨o1, e1, d1⟩ := a x o e
  obtain ⟨o2, e2, d2⟩ := b x o1 e1
  exact ⟨o2, e2, d2.trans d1⟩
theorem DK.push {h : PySem.Heap} {n : Obj} : DK h (h.push n) := fun a o e => by
  obtain ⟨objs, l⟩ := h
  have hl : a < objs.size := (Array.getElem?_eq_some_iff.mp e).1
  refine ⟨o, ?_, rfl⟩
  show (objs.push n)[a]? = some o
  rw [Array.getElem?_push, if_neg (Nat.ne_of_lt hl)]
  exact e
theorem DK.update {h : PySem.Heap} {b : Addr} {f : Obj → Obj} (hf : ∀ o, (f o).dict = o.dict) : DK h (h.update b f) := fun a o e => by
  obtain ⟨objs, l⟩ := h
  have e' : objs[a]? = some o := e
  show ∃ o', (objs.modify b f)[a]? = some o' ∧ o'.dict = o.dict
  rw [Array.getElem?_modify, e']
  by_cases hb : b = a
  · exact ⟨f o, by simp [hb], hf o⟩
  · exact ⟨o, by simp [hb], rfl⟩
theorem objs_of_get {h : PySem.Heap} {a : Addr} {o : Obj} (e : h.get? a = some o) : h.objs[a]? = some o := by
  unfold Heap.get? at e
  split at e
  · cases e
  · exact e
theorem DK.dict {h h' : PySem.Heap} {a : Addr} {o o' : Obj} (k : DK h h') (e : h.get? a = some o) (e' : h'.get? a = some o') : o'.dict = o.dict := by
  obtain ⟨o1, e1, d1⟩ := k a o (objs_of_get e)
  rw [objs_of_get e'] at e1
  cases e1
  exact d1

/-! ### what is mild -/
section
variable {M : Model} {A : Around} {E : Value → Shared → Prop} {s : Shared}
end
/-- the exception at e has its own dict (if any) at dd -/
def DictAt (h : PySem.Heap) (e : Addr) (dd : Option Addr) : Prop := ∃ o : Obj, h.get? e = some o ∧ o.dict = dd
theorem DictAt.on {h h' : PySem.Heap} {e : Addr} {dd : Option Addr} (x : DictAt h e dd) (k : DK h h') (t : ∃ o, h'.get? e = some o) : DictAt h' e dd := by
  obtain ⟨o, e1, d1⟩ := x
  obtain ⟨o', e2⟩ := t
  exact ⟨o', e2, (k.dict e1 e2).trans d1⟩
end L2

set_option Elab.async false
set_option linter.all false
set_option maxRecDepth 100000
namespace L2
open PySem PySem.Spec PyProof.Rows

/-! ### how an exception lies behind a call -/
/-- B: the heap at the raise without the frames that ran: it stays as it is while the exception flies -/
structure FlyB (P : Program) (w : World) (outer : List Env) (H : Hp) (s s' : Shared) (ea : Addr) (cls : Value) (H' : Hp) (B : Heap) : Prop where
  os : s'.os = s.os
  fly : ∃ a0, Heap.FlyingW B outer ea cls a0 s'.heap
  hok : HOk P w H' B
  keep : ∀ b o, s.heap.get? b = some o → H b = none → b ∉ frs outer → B.get? b = some o
  slot : ∀ b o, s.heap.get? b = some o → H b = none → b ∈ frs outer → ∃ sl, s'.heap.get? b = some { o with slots := sl }
  free : ∀ b o, s.heap.get? b = some o → H b = none → H' b = none
  there : ∀ b o, s.heap.get? b = some o → b ∉ frs outer → ∃ o', B.get? b = some o'
  tups : ∀ b xs, H b = some (.tup xs) → H' b = some (.tup xs)
  frzs : ∀ b o u, H b = some (.frz o u) → H' b = some (.frz o u)
  tbls : ∀ b ps, H b = some (.tbl ps) → ∃ more, H' b = some (.tbl (ps ++ more))
section
variable {P : Program} {w : World} {outer : List Env} {H H' : Hp} {s s' : Shared} {ea : Addr} {cls : Value} {B h2 : Heap}
/-- the exception itself is not tracked -/
theorem FlyB.new (F : FlyB P w outer H s s' ea cls H' B) : H' ea = none := by
  obtain ⟨a0, f⟩ := F.fly
  cases q : H' ea with
  | none => rfl
  | some u =>
    exfalso
    have e := f.2.1
    have hB := F.hok ea u q
    have : ∃ o, B.get? ea = some o := by
      cases u with
      | lst xs => obtain ⟨_, _, _, _, e⟩ := hB; exact ⟨_, e⟩
      | tup xs => obtain ⟨_, _, _, ⟨o, e, _⟩, _⟩ := hB; exact ⟨_, e⟩
      | dK kvs => obtain ⟨_, _, _, _, o, _, _, e, _⟩ := hB; exact ⟨_, e⟩
      | dT kvs => obtain ⟨_, _, _, _, o, _, _, e, _⟩ := hB; exact ⟨_, e⟩
      | set S n => obtain ⟨o, _, _, _, e, _⟩ := hB; exact ⟨_, e⟩
      | ins C dx fs => obtain ⟨_, _, _, e, _⟩ := hB; exact ⟨_, e⟩
      | own y => exact hB
      | xd fs => obtain ⟨_, ⟨_, _, _, e, _⟩, _⟩ := hB; exact ⟨_, e⟩
      | rng lo hi => obtain ⟨_, _, _, e⟩ := hB; exact ⟨_, e⟩
      | frz ob u => obtain ⟨e, _⟩ := hB; exact ⟨_, e⟩
      | tbl ps => exact ⟨_, (show B.get? ea = some _ from hB)⟩
      | met f y => exact ⟨_, (show B.get? ea = some _ from hB)⟩
      | ext φ => obtain ⟨_, ⟨_, e⟩, _⟩ := hB; exact ⟨_, e⟩
    obtain ⟨o, e'⟩ := this
    rw [e] at e'; cases e'
/-- at any heap that the exception has reached over these frames -/
theorem FlyB.un (F : FlyB P w outer H s s' ea cls H' B) (hB : B.StaysIn h2) (hf : h2.FunFrames B outer) (hs : s'.heap.UpToSlots h2) : Un (frs outer) [] H H' s.heap h2 where
  keep := fun b o q n hb _ => hB b o (F.keep b o q n hb)
  slot := fun b o q n hb _ => by
    obtain ⟨sl, e⟩ := F.slot b o q n hb
    obtain ⟨a0, f⟩ := F.fly
    obtain ⟨_, o2, ho2, hd⟩ := f.2.2.1.mem hb
    rw [ho2] at e; cases e
    obtain ⟨sl', e'⟩ := hs b _ ho2 hd
    exact ⟨sl', e'⟩
  free := fun b o q n _ => F.free b o q n
  there := fun b o q _ => by
    by_cases hb : b ∈ frs outer
    · obtain ⟨_, o2, ho2, _⟩ := hf.mem hb
      exact ⟨o2, ho2⟩
    · obtain ⟨o', e⟩ := F.there b o q hb
      exact ⟨o', hB b o' e⟩
  tups := F.tups
  frzs := F.frzs
  tbls := F.tbls
theorem FlyB.ok (F : FlyB P w outer H s s' ea cls H' B) (hB : B.StaysIn h2) : HOk P w H' h2 := F.hok.kept fun b u e => hB b u e
end

/-! ### own classes of exceptions -/
structure OwnX (K : PySem.W.Frag) (mg : Str → Option Value) (x : Str) (C : Addr) (bmB : List Value) (newId : String) : Prop where
  bound : mg x = some (.ref C)
  ok : PySem.W.excIn K C bmB newId = true
theorem OwnX.obj {K : PySem.W.Frag} {mg : Str → Option Value} {x : Str} {C : Addr} {bmB : List Value} {newId : String} (O : OwnX K mg x C bmB newId) {h : Heap} (hk : K.In h) :
    ∃ bm N nm q bs hdct sn sub ab col dd k0 k1 k2 k3 k5 mN, h.get? C = some (excClassObj nm q C N bs bm hdct sn sub ab col dd k0 k1 k2 k3 k5 newId) ∧ h.Ns N mN ∧ mN "__init__" = none ∧ OwnTail h bmB bm := by
  have q := O.ok
  unfold PySem.W.excIn at q
  split at q
  · rename_i dd cd sl ho
    split at q
    · rename_i C' bm k0 k1 k2 k3 n k5 hm hs
      simp only [Bool.and_eq_true, beq_iff_eq, Bool.not_eq_true'] at q
      obtain ⟨⟨⟨⟨⟨rfl, rfl⟩, hdel⟩, ht⟩, hok⟩, hni⟩ := q
      obtain ⟨nm, bs, mro, ns, qn, hd, sn, sub, ab, col, del⟩ := cd
      dsimp only at hm hdel hok hni
      subst hm hdel
      have hsl : sl = #[k0, k1, k2, k3, some (.builtin n), k5] := by
        obtain ⟨l⟩ := sl
        simp only at hs
        rw [hs]
      subst hsl
      exact ⟨bm, ns, nm, qn, bs, hd, sn, sub, ab, col, dd, k0, k1, k2, k3, k5, _, hk _ _ ho, .of_isNs (PySem.W.isNs_of_in hk hok), PySem.W.nsMap_none_of_in hk hok hni, PySem.W.tail_of_in hk ht⟩
    · cases q
  · cases q

section
variable {P : Program} {w : World} {gq : Array GenState → Drawn → Prop} {K : PySem.W.Frag} {mg : Str → Option Value} {base : Heap} {N : List Str} {qual : Str} {scope : Scope} {f : Addr} {cd : Value} {A : Around} {outer : List Env} {s₀ : Shared} {H₀ : Hp} {E : XK}
end
end L2

set_option Elab.async false
set_option linter.all false
set_option maxRecDepth 100000
namespace L2
open PySem PySem.Spec PyProof.Rows PySem.W

/-! ### isinstance of an exception of one's own class -/
structure ExcK (K : Frag) (C : Addr) : Prop where
  ga : findIn K (.ref C) "__getattribute__" = some (some (.builtin "BaseException.__getattribute__"))
  gt : findIn K (.ref C) "__getattr__" = some none
  cl : findIn K (.ref C) "__class__" = some (some (.builtin "object.__class__"))
  ob : subIn K (.ref C) (.type "object") = some true
  bx : subIn K (.ref C) (.type "BaseException") = some true
  is : (clsIn K C).isSome = true
section
variable {prog : Program} {w : World} {A : Around} {E : Value → Shared → Prop} {h : Heap} {g : Array GenState} {d : Drawn} {t : Nat} {os : OsState} {a C : Addr} {o : Obj} {K : Frag}

end

/-- the exception at ea, of the class cls; dd, if told: its own dict -/
def ExcO (ea : Addr) (cls : Value) (dd : Option (Option Addr) := none) : HO := .ext fun h => ∃ o vs, h.get? ea = some o ∧ o.cls = cls ∧ o.data = .fields vs ∧ ∀ d, dd = some d → o.dict = d
theorem ExcO.ok {P : Program} {w : World} {H : Hp} {h : Heap} {ea : Addr} {cls : Value} {o : Obj} {vs : Array Value} {dd : Option (Option Addr)} (e : h.get? ea = some o) (c : o.cls = cls) (d : o.data = .fields vs) (hd : ∀ d, dd = some d → o.dict = d) : ObjOk P w H h ea (ExcO ea cls dd) :=
  ⟨⟨o, vs, e, c, d, hd⟩, ⟨_, e⟩, fun h1 h2 ⟨o, vs, e, c, d⟩ k => ⟨o, vs, k _ e, c, d⟩⟩
theorem ExcO.at {P : Program} {w : World} {H : Hp} {h : Heap} {ea : Addr} {cls : Value} {dd : Option (Option Addr)} (ok : HOk P w H h) (e : H ea = some (ExcO ea cls dd)) : ∃ o vs, h.get? ea = some o ∧ o.cls = cls ∧ o.data = .fields vs ∧ ∀ d, dd = some d → o.dict = d := by
  obtain ⟨p, _, _⟩ := ok ea _ e
  exact p
section
variable {X : Cx}
end
end L2

set_option Elab.async false
set_option linter.all false
set_option maxRecDepth 100000
namespace L2
open PySem PySem.Spec PyProof.Rows PySem.W

/-! ### a class's ancestors -/
/-! ### what may raise, within a try -/
section
variable {X : Cx} {k : Nat} {f : Addr} {fd : FuncData} {ps : List Str} {sp : Sp} {dvs : List V} {ds : List Value} {x : Str} {p pos : Pos} {e : Expr} {es : List Expr} {t : TA}
end

/-! ### the except suite -/
section
variable {X : Cx} {pins : List (Addr × Obj)} {σ : St} {H : Hp} {s : Shared} {ea : Addr}
end

/-! ### try: .. except C0 as n: .. -/
end L2

set_option Elab.async false
set_option linter.all false
set_option maxRecDepth 100000
namespace L2
open PySem PySem.Spec PyProof.Rows
theorem PS.nox {X : Cx} {st : Stmt} {t : TS} (h : PS X.nox st t) : PS X st t := fun pins s σ H D I hw =>
  wpAny_mono (h pins s σ H D (I.wish _) hw) (fun _ _ q => q.unwish) fun _ _ z => False.elim z
end L2

set_option Elab.async false
set_option linter.all false
set_option maxRecDepth 100000
set_option maxHeartbeats 4000000
namespace SimL
open PySem PySem.SeqAt PyProof.Rows
open PySem.AutoSeq1 (wpAny_loadPart')
open PySem.MeetsSeq PySem.MeetsSeq2 PySem.MeetsSeq3
/-- two things, asked whether they are equal and, if not, whether the first is less -/
def C1 (A : Around) (s : Shared) (x y : Value) (e l : Bool) : Prop := EqAt A s x y e ∧ (e = false → ∀ (prog : Program) (w : World) (E : Value → Shared → Prop) (Q : Value → Shared → Prop), Q (.bool l) s → wpAny (model prog w) A (richCompare .Lt x y) Q E s)
/-- two rows, thing by thing -/
inductive Lex (A : Around) (s : Shared) : List Value → List Value → Bool → Prop
  | nn : Lex A s [] [] false
  | nc {y : Value} {ys : List Value} : Lex A s [] (y :: ys) true
  | cn {x : Value} {xs : List Value} : Lex A s (x :: xs) [] false
  | ne {x y : Value} {xs ys : List Value} {l : Bool} : C1 A s x y false l → Lex A s (x :: xs) (y :: ys) l
  | eq {x y : Value} {xs ys : List Value} {l b : Bool} : C1 A s x y true l → Lex A s xs ys b → Lex A s (x :: xs) (y :: ys) b
abbrev lo (items : Array Value) (n : Nat) (dd : Option Addr) (sl : Array (Option Value)) : Obj := { cls := .type "list", dict := dd, data := .seq items n, slots := sl }
theorem list_lt_loop (l b : Addr) (items items2 : Array Value) (n n2 : Nat) (dd dd2 : Option Addr) (sl sl2 : Array (Option Value)) (k : Nat) :
    ∀ i : Nat, items.size - i = k → Meets (Builtin.«list.__eq__.loop» ⟨[.ref l, .ref b, rawInt i, rawInt 0], []⟩)
      (fun A R s => s.heap.get? l = some (lo items n dd sl) ∧ s.heap.get? b = some (lo items2 n2 dd2 sl2) ∧
        i ≤ items.size ∧ i ≤ items2.size ∧ ∃ v, Lex A.in1 s (items.toList.drop i) (items2.toList.drop i) v ∧ R (.ok (.ret (.bool v))) s) := by
  induction k using Nat.strongRecOn with
  | ind k ih =>
    intro i hk prog w A R s h
    obtain ⟨hp, g, d, tk, os⟩ := s; obtain ⟨hl, hb, i1, i2, v, hx, hR⟩ := h
    have g1 : items[((i : Nat) : Int).toNat]? = (items.toList.drop i).head? := by simp
    have g2 : items2[((i : Nat) : Int).toNat]? = (items2.toList.drop i).head? := by simp
    wp_walk using wpAny_loadPart' hl, wpAny_loadPart' hb
    have l1 : (items.toList.drop i).length = items.size - i := by simp
    have l2 : (items2.toList.drop i).length = items2.size - i := by simp
    rw [g1, g2]
    generalize ea : items.toList.drop i = as at hx l1 g1 ⊢
    generalize eb : items2.toList.drop i = bs at hx l2 g2 ⊢
    cases hx with
    | nn =>
      simp only [List.length_nil] at l1 l2
      wp_walk using wpAny_loadPart' hl, wpAny_loadPart' hb
      show R (.ok (.ret (.bool (decide (items.size < items2.size))))) _
      rw [decide_eq_false (by omega)]
      exact hR
    | nc =>
      simp only [List.length_nil, List.length_cons] at l1 l2
      wp_walk using wpAny_loadPart' hl, wpAny_loadPart' hb
      show R (.ok (.ret (.bool (decide (items.size < items2.size))))) _
      rw [decide_eq_true (by omega)]
      exact hR
    | cn =>
      simp only [List.length_nil, List.length_cons] at l1 l2
      wp_walk using wpAny_loadPart' hl, wpAny_loadPart' hb
      show R (.ok (.ret (.bool (decide (items.size < items2.size))))) _
      rw [decide_eq_false (by omega)]
      exact hR
    | ne hc =>
      refine wpAny_bind (hc.1 prog w _ _ ?_)
      wp_walk using wpAny_loadPart' hl, wpAny_loadPart' hb
      rw [g1, g2]
      refine wpAny_bind (hc.2 rfl prog w _ _ ?_)
      wp_walk
      exact hR
    | @eq x y xs ys l' b' hc ht =>
      simp only [List.length_cons] at l1 l2
      have hcc : ((i : Int) + 1) = ((i + 1 : Nat) : Int) := by push_cast; rfl
      refine wpAny_bind (hc.1 prog w _ _ ?_)
      wp_walk
      rw [hcc]
      have d1 : items.toList.drop (i + 1) = xs := by rw [← List.drop_drop, ea]; rfl
      have d2 : items2.toList.drop (i + 1) = ys := by rw [← List.drop_drop, eb]; rfl
      exact ⟨plainId_quiet plain_eq_loop _, codeAny_builtin entry_eq_loop (by rw [Around.under_plainId plain_eq_loop _]; exact ih (items.size - (i + 1)) (by omega) (i + 1) rfl prog w A R _ ⟨hl, hb, by omega, by omega, v, by rw [d1, d2]; exact ht, hR⟩)⟩
theorem list_lt_at (l b : Addr) (items items2 : Array Value) (n n2 : Nat) (dd dd2 : Option Addr) (sl sl2 : Array (Option Value)) :
    Meets (Builtin.«list.__lt__» ⟨[.ref l, .ref b], []⟩)
      (fun A R s => s.heap.get? l = some (lo items n dd sl) ∧ s.heap.get? b = some (lo items2 n2 dd2 sl2) ∧
        ∃ v, Lex A.in1 s items.toList items2.toList v ∧ R (.ok (.ret (.bool v))) s) := by
  intro prog w A R s h
  obtain ⟨hp, g, d, tk, os⟩ := s; obtain ⟨hl, hb, v, hx, hR⟩ := h
  have f2 := AutoSeq1.sub_list_list
  wp_walk using wpAny_loadPart' hl, wpAny_loadPart' hb
  exact ⟨plainId_quiet plain_eq_loop _, codeAny_builtin entry_eq_loop (by rw [Around.under_plainId plain_eq_loop _]; exact list_lt_loop l b items items2 n n2 dd dd2 sl sl2 _ 0 rfl prog w A R _ ⟨hl, hb, Nat.zero_le _, Nat.zero_le _, v, hx, hR⟩)⟩
section
variable {prog : Program} {w : World} {A : Around} {E : Value → Shared → Prop} {s : Shared}
/-- xs < ys of two lists -/
theorem lt_lists {l b : Addr} {items items2 : Array Value} {v : Bool} {Q : Value → Shared → Prop} (hl : s.heap.IsList l items) (hb : s.heap.IsList b items2) (hx : Lex A.in1 s items.toList items2.toList v) (hu : A.units < cLine) (h : Q (.bool v) s) :
    wpAny (model prog w) A (richCompare .Lt (.ref l) (.ref b)) Q E s := by
  obtain ⟨⟨cls, dd, data, sl⟩, ho, hc, n, hd⟩ := id hl
  obtain ⟨⟨cls2, dd2, data2, sl2⟩, ho2, hc2, n2, hd2⟩ := id hb
  simp only at hc hd hc2 hd2
  subst hc hd hc2 hd2
  exact richCompare_meets_room (op := .Lt) ⟨_, ho, rfl⟩ ⟨_, ho2, rfl⟩ PySem.F.slot_list_lt PySem.F.entry_list_lt (PySem.F.args_list_lt_2 _ _) (list_lt_at l b items items2 n n2 dd dd2 sl sl2)
    ⟨ho, ho2, v, hx, show Value.bool v ≠ Value.notImplemented ∧ Q (.bool v) s from ⟨(fun x => nomatch x), h⟩⟩ hu
end
abbrev to_ (items : Array Value) (n : Nat) (dd : Option Addr) (sl : Array (Option Value)) : Obj := { cls := .type "tuple", dict := dd, data := .seq items n, slots := sl }
theorem tuple_lt_at (l b : Addr) (items items2 : Array Value) (n n2 : Nat) (dd dd2 : Option Addr) (sl sl2 : Array (Option Value)) :
    Meets (Builtin.«tuple.__lt__» ⟨[.ref l, .ref b], []⟩) (fun A R s => s.heap.get? l = some (to_ items n dd sl) ∧ s.heap.get? b = some (to_ items2 n2 dd2 sl2) ∧ ∃ v, Lex A.in1 s items.toList items2.toList v ∧ R (.ok (.ret (.bool v))) s) :=
  .of_wp fun prog w A R s h => by
    obtain ⟨hp, g, d, tk, os⟩ := s; obtain ⟨hl, hb, v, hx, h⟩ := h
    have f2 := AutoSeq1.sub_tuple_tuple
    wp_walk using wpAny_loadPart' hl, wpAny_loadPart' hb, wpAny_forIn_list _ (fun rest b s' => b.1 = none ∧ s' = ⟨hp, g, d, tk, os⟩ ∧ ∃ (vs ws : List Value), rest = vs.zip ws ∧ Lex A.in1 ⟨hp, g, d, tk, os⟩ vs ws v ∧ vs.length + items2.size = ws.length + items.size) _
    case turn =>
      rintro ⟨y, x⟩ rest b s' ⟨hb', rfl, vs, ws, hz, hx, hlen⟩
      cases hx with
      | nn => cases hz
      | nc => cases hz
      | cn => cases hz
      | ne hc =>
        rw [List.zip_cons_cons] at hz
        injection hz with hyx hrest
        injection hyx with hy hx
        subst hy hx
        refine wpAny_bind (hc.1 prog w _ _ ?_)
        have hri := hc.2 rfl prog w
        wp_walk using hri
        exact ⟨_, rfl, by simpa using h⟩
      | eq hc ht =>
        rw [List.zip_cons_cons] at hz
        injection hz with hyx hrest
        injection hyx with hy hx
        subst hy hx
        simp only [List.length_cons] at hlen
        refine wpAny_bind (hc.1 prog w _ _ ?_)
        wp_walk
        exact ⟨rfl, rfl, _, _, hrest, ht, by omega⟩
    case fin =>
      rintro ⟨b1, b2⟩ s' ⟨hb', rfl, vs, ws, hz, hx, hlen⟩
      simp only at hb'
      subst hb'
      have hv : v = decide (items.size < items2.size) := by
        cases hx with
        | nn => simp only [List.length_nil] at hlen; exact (decide_eq_false (by omega)).symm
        | nc => simp only [List.length_nil, List.length_cons] at hlen; exact (decide_eq_true (by omega)).symm
        | cn => simp only [List.length_nil, List.length_cons] at hlen; exact (decide_eq_false (by omega)).symm
        | ne hc => rw [List.zip_cons_cons] at hz; cases hz
        | eq hc ht => rw [List.zip_cons_cons] at hz; cases hz
      subst hv
      wp_walk
      exact ⟨_, rfl, by simpa [Builtin.Tuple.tupleCompareSizes] using h⟩
    case h => exact ⟨rfl, rfl, items.toList, items2.toList, rfl, hx, by simp; omega⟩
section
variable {prog : Program} {w : World} {A : Around} {E : Value → Shared → Prop} {s : Shared}
theorem lt_tuples {l b : Addr} {items items2 : Array Value} {v : Bool} {Q : Value → Shared → Prop} (hl : s.heap.IsTuple l items) (hb : s.heap.IsTuple b items2) (hx : Lex A.in1 s items.toList items2.toList v) (hu : A.units < cLine) (h : Q (.bool v) s) :
    wpAny (model prog w) A (richCompare .Lt (.ref l) (.ref b)) Q E s := by
  obtain ⟨⟨cls, dd, data, sl⟩, ho, hc, n, hd⟩ := id hl
  obtain ⟨⟨cls2, dd2, data2, sl2⟩, ho2, hc2, n2, hd2⟩ := id hb
  simp only at hc hd hc2 hd2
  subst hc hd hc2 hd2
  exact richCompare_meets_room (op := .Lt) ⟨_, ho, rfl⟩ ⟨_, ho2, rfl⟩ PySem.F.slot_tuple_lt PySem.F.entry_tuple_lt (PySem.F.args_tuple_lt_2 _ _) (tuple_lt_at l b items items2 n n2 dd dd2 sl sl2)
    ⟨ho, ho2, v, hx, show Value.bool v ≠ Value.notImplemented ∧ Q (.bool v) s from ⟨(fun x => nomatch x), h⟩⟩ hu
end
/-! the order of data -/
mutual
def ltD : PyData → PyData → Bool
  | .int i, .int j => decide (i < j)
  | .tuple xs, .tuple ys => ltA xs ys
  | .list xs, .list ys => ltA xs ys
  | _, _ => false
def ltA : List PyData → List PyData → Bool
  | [], [] => false
  | [], _ :: _ => true
  | _ :: _, [] => false
  | x :: xs, y :: ys => if PyData.eqv x y then ltA xs ys else ltD x y
end
mutual
def cmD : PyData → PyData → Bool
  | .int _, .int _ => true
  | .tuple xs, .tuple ys => cmA xs ys
  | .list xs, .list ys => cmA xs ys
  | _, _ => false
def cmA : List PyData → List PyData → Bool
  | x :: xs, y :: ys => cmD x y && cmA xs ys
  | _, _ => true
end
def RcLt (A : Around) (s : Shared) (x y : Value) (l : Bool) : Prop := ∀ (prog : Program) (w : World) (E : Value → Shared → Prop) (Q : Value → Shared → Prop), Q (.bool l) s → wpAny (model prog w) A (richCompare .Lt x y) Q E s
mutual
theorem rcLt_reads : ∀ (d e : PyData) (A : Around) (s : Shared) (x y : Value) (as bs : List Addr), Reads s.heap x d as → Reads s.heap y e bs → d.canLay0 = true → e.canLay0 = true → cmD d e = true → A.units + max d.depth e.depth < cLine → RcLt A s x y (ltD d e)
  | .int i, .int j, A, s, _, _, _, _, rx, ry, _, _, _, hu => by
    cases rx; cases ry
    exact fun prog w E Q h => HT.rcLt_int A s _ _ _ _ prog w E Q (by simpa [ltD] using h)
  | .tuple xs, .tuple ys, A, s, _, _, _, _, rx, ry, hx, hy, hc, hu => by
    cases rx with
    | tuple o1 c1 d1 r1 =>
      cases ry with
      | tuple o2 c2 d2 r2 =>
        simp only [PyData.depth] at hu
        exact fun prog w E Q h => lt_tuples ⟨_, o1, c1, _, d1⟩ ⟨_, o2, c2, _, d2⟩ (lex_reads xs ys A.in1 s _ _ _ _ r1 r2 (by simpa [PyData.canLay0] using hx) (by simpa [PyData.canLay0] using hy) (by simpa [cmD] using hc) (by show A.units + 1 + _ < _; omega)) (by omega) (by simpa [ltD] using h)
  | .list xs, .list ys, A, s, _, _, _, _, rx, ry, hx, hy, hc, hu => by
    cases rx with
    | list o1 c1 d1 r1 =>
      cases ry with
      | list o2 c2 d2 r2 =>
        simp only [PyData.depth] at hu
        exact fun prog w E Q h => lt_lists ⟨_, o1, c1, _, d1⟩ ⟨_, o2, c2, _, d2⟩ (lex_reads xs ys A.in1 s _ _ _ _ r1 r2 (by simpa [PyData.canLay0] using hx) (by simpa [PyData.canLay0] using hy) (by simpa [cmD] using hc) (by show A.units + 1 + _ < _; omega)) (by omega) (by simpa [ltD] using h)
  | .none, .none, _, _, _, _, _, _, _, _, _, _, hc, _ => by simp [cmD] at hc
  | .none, .bool _, _, _, _, _, _, _, _, _, _, _, hc, _ => by simp [cmD] at hc
  | .none, .int _, _, _, _, _, _, _, _, _, _, _, hc, _ => by simp [cmD] at hc
  | .none, .str _, _, _, _, _, _, _, _, _, _, _, hc, _ => by simp [cmD] at hc
  | .none, .list _, _, _, _, _, _, _, _, _, _, _, hc, _ => by simp [cmD] at hc
  | .none, .tuple _, _, _, _, _, _, _, _, _, _, _, hc, _ => by simp [cmD] at hc
  | .none, .dict _, _, _, _, _, _, _, _, _, _, _, hc, _ => by simp [cmD] at hc
  | .bool _, .none, _, _, _, _, _, _, _, _, _, _, hc, _ => by simp [cmD] at hc
  | .bool _, .bool _, _, _, _, _, _, _, _, _, _, _, hc, _ => by simp [cmD] at hc
  | .bool _, .int _, _, _, _, _, _, _, _, _, _, _, hc, _ => by simp [cmD] at hc
  | .bool _, .str _, _, _, _, _, _, _, _, _, _, _, hc, _ => by simp [cmD] at hc
  | .bool _, .list _, _, _, _, _, _, _, _, _, _, _, hc, _ => by simp [cmD] at hc
  | .bool _, .tuple _, _, _, _, _, _, _, _, _, _, _, hc, _ => by simp [cmD] at hc
  | .bool _, .dict _, _, _, _, _, _, _, _, _, _, _, hc, _ => by simp [cmD] at hc
  | .int _, .none, _, _, _, _, _, _, _, _, _, _, hc, _ => by simp [cmD] at hc
  | .int _, .bool _, _, _, _, _, _, _, _, _, _, _, hc, _ => by simp [cmD] at hc
  | .int _, .str _, _, _, _, _, _, _, _, _, _, _, hc, _ => by simp [cmD] at hc
  | .int _, .list _, _, _, _, _, _, _, _, _, _, _, hc, _ => by simp [cmD] at hc
  | .int _, .tuple _, _, _, _, _, _, _, _, _, _, _, hc, _ => by simp [cmD] at hc
  | .int _, .dict _, _, _, _, _, _, _, _, _, _, _, hc, _ => by simp [cmD] at hc
  | .str _, .none, _, _, _, _, _, _, _, _, _, _, hc, _ => by simp [cmD] at hc
  | .str _, .bool _, _, _, _, _, _, _, _, _, _, _, hc, _ => by simp [cmD] at hc
  | .str _, .int _, _, _, _, _, _, _, _, _, _, _, hc, _ => by simp [cmD] at hc
  | .str _, .str _, _, _, _, _, _, _, _, _, _, _, hc, _ => by simp [cmD] at hc
  | .str _, .list _, _, _, _, _, _, _, _, _, _, _, hc, _ => by simp [cmD] at hc
  | .str _, .tuple _, _, _, _, _, _, _, _, _, _, _, hc, _ => by simp [cmD] at hc
  | .str _, .dict _, _, _, _, _, _, _, _, _, _, _, hc, _ => by simp [cmD] at hc
  | .list _, .none, _, _, _, _, _, _, _, _, _, _, hc, _ => by simp [cmD] at hc
  | .list _, .bool _, _, _, _, _, _, _, _, _, _, _, hc, _ => by simp [cmD] at hc
  | .list _, .int _, _, _, _, _, _, _, _, _, _, _, hc, _ => by simp [cmD] at hc
  | .list _, .str _, _, _, _, _, _, _, _, _, _, _, hc, _ => by simp [cmD] at hc
  | .list _, .tuple _, _, _, _, _, _, _, _, _, _, _, hc, _ => by simp [cmD] at hc
  | .list _, .dict _, _, _, _, _, _, _, _, _, _, _, hc, _ => by simp [cmD] at hc
  | .tuple _, .none, _, _, _, _, _, _, _, _, _, _, hc, _ => by simp [cmD] at hc
  | .tuple _, .bool _, _, _, _, _, _, _, _, _, _, _, hc, _ => by simp [cmD] at hc
  | .tuple _, .int _, _, _, _, _, _, _, _, _, _, _, hc, _ => by simp [cmD] at hc
  | .tuple _, .str _, _, _, _, _, _, _, _, _, _, _, hc, _ => by simp [cmD] at hc
  | .tuple _, .list _, _, _, _, _, _, _, _, _, _, _, hc, _ => by simp [cmD] at hc
  | .tuple _, .dict _, _, _, _, _, _, _, _, _, _, _, hc, _ => by simp [cmD] at hc
  | .dict _, .none, _, _, _, _, _, _, _, _, _, _, hc, _ => by simp [cmD] at hc
  | .dict _, .bool _, _, _, _, _, _, _, _, _, _, _, hc, _ => by simp [cmD] at hc
  | .dict _, .int _, _, _, _, _, _, _, _, _, _, _, hc, _ => by simp [cmD] at hc
  | .dict _, .str _, _, _, _, _, _, _, _, _, _, _, hc, _ => by simp [cmD] at hc
  | .dict _, .list _, _, _, _, _, _, _, _, _, _, _, hc, _ => by simp [cmD] at hc
  | .dict _, .tuple _, _, _, _, _, _, _, _, _, _, _, hc, _ => by simp [cmD] at hc
  | .dict _, .dict _, _, _, _, _, _, _, _, _, _, _, hc, _ => by simp [cmD] at hc
theorem lex_reads : ∀ (xs ys : List PyData) (A : Around) (s : Shared) (vs ws : List Value) (as bs : List Addr), ReadsAll s.heap vs xs as → ReadsAll s.heap ws ys bs → PyData.canLayAll0 xs = true → PyData.canLayAll0 ys = true → cmA xs ys = true → A.units + max (PyData.depthAll xs) (PyData.depthAll ys) < cLine → Lex A s vs ws (ltA xs ys)
  | [], [], _, _, _, _, _, _, r1, r2, _, _, _, _ => by cases r1; cases r2; simpa [ltA] using Lex.nn
  | [], _ :: _, _, _, _, _, _, _, r1, r2, _, _, _, _ => by cases r1; cases r2; simpa [ltA] using Lex.nc
  | _ :: _, [], _, _, _, _, _, _, r1, r2, _, _, _, _ => by cases r1; cases r2; simpa [ltA] using Lex.cn
  | x :: xs, y :: ys, A, s, _, _, _, _, r1, r2, h1, h2, hc, hu => by
    cases r1 with
    | cons a1 b1 =>
      cases r2 with
      | cons a2 b2 =>
        have h1 : x.canLay0 = true ∧ PyData.canLayAll0 xs = true := by simpa [PyData.canLayAll0] using h1
        have h2 : y.canLay0 = true ∧ PyData.canLayAll0 ys = true := by simpa [PyData.canLayAll0] using h2
        have hc : cmD x y = true ∧ cmA xs ys = true := by simpa [cmA] using hc
        simp only [PyData.depthAll] at hu
        have he := eqAt_reads x y A s _ _ _ _ a1 a2 h1.1 h2.1 (by omega)
        have hl := rcLt_reads x y A s _ _ _ _ a1 a2 h1.1 h2.1 hc.1 (by omega)
        have ht := lex_reads xs ys A s _ _ _ _ b1 b2 h1.2 h2.2 hc.2 (by omega)
        simp only [ltA]
        cases e : PyData.eqv x y with
        | true => rw [e] at he; rw [if_pos rfl]; exact .eq (l := false) ⟨he, fun z => by cases z⟩ ht
        | false => rw [e] at he; rw [if_neg (by simp)]; exact .ne ⟨he, fun _ => hl⟩
end
end SimL

set_option Elab.async false
set_option linter.all false
set_option maxHeartbeats 4000000
namespace PySem
/-- a run has one end -/
theorem Runs.det {M : Model} {Γ : Ctx} {p : Pos} {t : Sem Fin} {fs : List Frame} {s : Shared} {e₁ : End} {s₁ : Shared} (h : Runs M Γ p t fs s e₁ s₁) :
    ∀ {e₂ : End} {s₂ : Shared}, Runs M Γ p t fs s e₂ s₂ → e₁ = e₂ ∧ s₁ = s₂ := by
  induction h with
  | done => intro e₂ s₂ h; cases h; exact ⟨rfl, rfl⟩
  | raise => intro e₂ s₂ h; cases h; exact ⟨rfl, rfl⟩
  | again _ _ ih => intro e₂ s₂ h; cases h; exact ih (by assumption)
  | rule _ ih => intro e₂ s₂ h; cases h; exact ih (by assumption)
  | «at» _ ih => intro e₂ s₂ h; cases h; exact ih (by assumption)
  | load h1 _ ih => intro e₂ s₂ h; cases h with | load h2 h3 => rw [h1] at h2; cases h2; exact ih h3
  | update _ _ ih => intro e₂ s₂ h; cases h; exact ih (by assumption)
  | loadIfAlive _ ih => intro e₂ s₂ h; cases h; exact ih (by assumption)
  | point _ ih => intro e₂ s₂ h; cases h; exact ih (by assumption)
  | alloc _ ih => intro e₂ s₂ h; cases h; exact ih (by assumption)
  | fresh _ ih => intro e₂ s₂ h; cases h; exact ih (by assumption)
  | ask _ ih => intro e₂ s₂ h; cases h; exact ih (by assumption)
  | choose _ _ ih => intro e₂ s₂ h; cases h; exact ih (by assumption)
  | os _ ih => intro e₂ s₂ h; cases h; exact ih (by assumption)
  | handled _ ih => intro e₂ s₂ h; cases h; exact ih (by assumption)
  | genState h1 _ ih => intro e₂ s₂ h; cases h with | genState h2 h3 => rw [h1] at h2; cases h2; exact ih h3
  | stack _ ih => intro e₂ s₂ h; cases h; exact ih (by assumption)
  | thread _ ih => intro e₂ s₂ h; cases h; exact ih (by assumption)
  | newGen _ ih => intro e₂ s₂ h; cases h; exact ih (by assumption)
  | call _ _ ih1 ih2 =>
    intro e₂ s₂ h
    cases h with
    | call h1 h2 => obtain ⟨a, b⟩ := ih1 h1; cases a; subst b; exact ih2 h2
    | callSusp h1 => obtain ⟨a, b⟩ := ih1 h1; cases a
  | callSusp _ ih1 =>
    intro e₂ s₂ h
    cases h with
    | call h1 h2 => obtain ⟨a, b⟩ := ih1 h1; cases a
    | callSusp h1 => obtain ⟨a, b⟩ := ih1 h1; cases a; subst b; exact ⟨rfl, rfl⟩
  | yield => intro e₂ s₂ h; cases h; exact ⟨rfl, rfl⟩
  | resumeFresh h1 _ _ _ ih1 ih2 =>
    intro e₂ s₂ h
    cases h with
    | resumeFresh k1 k2 _ k3 => rw [h1] at k1; cases k1; obtain ⟨a, b⟩ := ih1 k2; subst a b; exact ih2 k3
    | resumeSuspended k1 => rw [h1] at k1; cases k1
    | resumeJustStarted _ k2 => exact absurd rfl k2
    | resumeRunning k1 => rw [h1] at k1; cases k1
    | resumeFinished k1 => rw [h1] at k1; cases k1
  | resumeSuspended h1 _ _ _ ih1 ih2 =>
    intro e₂ s₂ h
    cases h with
    | resumeFresh k1 => rw [h1] at k1; cases k1
    | resumeSuspended k1 k2 _ k3 => rw [h1] at k1; cases k1; obtain ⟨a, b⟩ := ih1 k2; subst a b; exact ih2 k3
    | resumeJustStarted k1 => rw [h1] at k1; cases k1
    | resumeThrowFresh k1 => rw [h1] at k1; cases k1
    | resumeRunning k1 => rw [h1] at k1; cases k1
    | resumeFinished k1 => rw [h1] at k1; cases k1
  | resumeJustStarted h1 h2 _ ih =>
    intro e₂ s₂ h
    cases h with
    | resumeFresh k1 => exact absurd rfl h2
    | resumeSuspended k1 => rw [h1] at k1; cases k1
    | resumeJustStarted _ _ k => exact ih k
    | resumeRunning k1 => rw [h1] at k1; cases k1
    | resumeFinished k1 => rw [h1] at k1; cases k1
  | resumeThrowFresh h1 _ ih =>
    intro e₂ s₂ h
    cases h with
    | resumeSuspended k1 => rw [h1] at k1; cases k1
    | resumeThrowFresh _ k => exact ih k
    | resumeRunning k1 => rw [h1] at k1; cases k1
    | resumeFinished k1 => rw [h1] at k1; cases k1
  | resumeRunning h1 _ ih =>
    intro e₂ s₂ h
    cases h with
    | resumeFresh k1 => rw [h1] at k1; cases k1
    | resumeSuspended k1 => rw [h1] at k1; cases k1
    | resumeJustStarted k1 => rw [h1] at k1; cases k1
    | resumeThrowFresh k1 => rw [h1] at k1; cases k1
    | resumeRunning _ k => exact ih k
    | resumeFinished k1 => rw [h1] at k1; cases k1
  | resumeFinished h1 _ ih =>
    intro e₂ s₂ h
    cases h with
    | resumeFresh k1 => rw [h1] at k1; cases k1
    | resumeSuspended k1 => rw [h1] at k1; cases k1
    | resumeJustStarted k1 => rw [h1] at k1; cases k1
    | resumeThrowFresh k1 => rw [h1] at k1; cases k1
    | resumeRunning k1 => rw [h1] at k1; cases k1
    | resumeFinished _ k => exact ih k
  | segRet _ _ ih1 ih2 =>
    intro e₂ s₂ h
    cases h with
    | segRet h1 h2 => obtain ⟨a, b⟩ := ih1 h1; cases a; subst b; exact ih2 h2
    | segSuspOut _ h1 => obtain ⟨a, b⟩ := ih1 h1; cases a
    | segSuspGen _ h1 => obtain ⟨a, b⟩ := ih1 h1; cases a
  | segGen _ _ ih1 ih2 =>
    intro e₂ s₂ h
    cases h with
    | segGen h1 h2 => obtain ⟨a, b⟩ := ih1 h1; cases a; subst b; exact ih2 h2
    | segSuspOut _ h1 => obtain ⟨a, b⟩ := ih1 h1; cases a
    | segSuspGen _ h1 => obtain ⟨a, b⟩ := ih1 h1; cases a
  | segSuspOut hn _ ih1 =>
    intro e₂ s₂ h
    cases h with
    | segRet h1 _ => obtain ⟨a, b⟩ := ih1 h1; cases a
    | segGen h1 _ => obtain ⟨a, b⟩ := ih1 h1; cases a
    | segSuspOut _ h1 => obtain ⟨a, b⟩ := ih1 h1; cases a; subst b; exact ⟨rfl, rfl⟩
    | segSuspGen k1 h1 => rw [hn] at k1; cases k1
  | segSuspGen hn _ _ _ ih1 ih2 =>
    intro e₂ s₂ h
    cases h with
    | segRet h1 _ => obtain ⟨a, b⟩ := ih1 h1; cases a
    | segGen h1 _ => obtain ⟨a, b⟩ := ih1 h1; cases a
    | segSuspOut k1 h1 => rw [hn] at k1; cases k1
    | segSuspGen k1 h1 _ h2 => rw [hn] at k1; cases k1; obtain ⟨a, b⟩ := ih1 h1; cases a; subst b; exact ih2 h2
/-- what a tree is shown to end in, in two ways, it ends in both -/
theorem wp_det {α : Type} {M : Model} {Γ : Ctx} : ∀ (t : Sem α) {Q Q' : α → Pos → Shared → Prop} {E E' : Value → Pos → Shared → Prop} (p : Pos) (s : Shared),
    Sem.wp M Γ t Q E p s → Sem.wp M Γ t Q' E' p s → Sem.wp M Γ t (fun a p s => Q a p s ∧ Q' a p s) (fun e p s => E e p s ∧ E' e p s) p s := by
  intro t
  induction t with
  | pure a => exact fun p s h h' => ⟨h, h'⟩
  | raise e => exact fun p s h h' => ⟨h, h'⟩
  | unsupported | finish | yield | fork | await | register => exact fun p s h _ => h.elim
  | rule _ k ih | «at» _ k ih | alloc _ k ih | loadIfAlive _ k ih | point _ k ih | fresh k ih | ask k ih | os _ _ k ih | handled _ k ih | newGen _ k ih | stack k ih | thread k ih => exact fun p s h h' => ih _ _ _ h h'
  | load a _ k ih | genState a k ih => exact fun p s ⟨o, ho, h⟩ ⟨o', ho', h'⟩ => ⟨o, ho, by rw [ho] at ho'; cases ho'; exact ih _ _ _ h h'⟩
  | update a _ f k ih | choose _ _ k ih => exact fun p s ⟨ha, h⟩ ⟨_, h'⟩ => ⟨ha, ih _ _ _ h h'⟩
  | call c h g l k ih =>
    intro Q Q' E E' p s h h'
    obtain ⟨r, s1, h1, h2⟩ := h
    obtain ⟨r', s1', h1', h2'⟩ := h'
    obtain ⟨a, b⟩ := Runs.det h1 h1'
    cases a
    subst b
    exact ⟨r, s1, h1, ih _ _ _ h2 h2'⟩
  | resume g r l k ih =>
    intro Q Q' E E' p s h h'
    obtain ⟨r1, s1, h1, h2⟩ := h
    obtain ⟨r2, s2, h1', h2'⟩ := h'
    have : r1 = r2 ∧ s1 = s2 := by
      unfold Wakes at h1 h1'
      cases hg : s.gens[g]? with
      | none => rw [hg] at h1; exact h1.elim
      | some x =>
        rw [hg] at h1 h1'
        cases x with
        | fresh c =>
          cases r with
          | send v =>
            cases v with
            | none =>
              obtain ⟨e1, t1, a1, _, b1, c1⟩ := h1
              obtain ⟨e2, t2, a2, _, b2, c2⟩ := h1'
              obtain ⟨a, b⟩ := Runs.det a1 a2
              subst a b b1 b2 c1 c2
              exact ⟨rfl, rfl⟩
            | _ => exact ⟨h1.1.trans h1'.1.symm, h1.2.trans h1'.2.symm⟩
          | throw y => exact ⟨h1.1.trans h1'.1.symm, h1.2.trans h1'.2.symm⟩
        | suspended k0 l0 c0 p0 fs cl =>
          obtain ⟨e1, t1, a1, _, b1, c1⟩ := h1
          obtain ⟨e2, t2, a2, _, b2, c2⟩ := h1'
          obtain ⟨a, b⟩ := Runs.det a1 a2
          subst a b b1 b2 c1 c2
          exact ⟨rfl, rfl⟩
        | running => exact ⟨h1.1.trans h1'.1.symm, h1.2.trans h1'.2.symm⟩
        | finished => exact ⟨h1.1.trans h1'.1.symm, h1.2.trans h1'.2.symm⟩
    obtain ⟨rfl, rfl⟩ := this
    exact ⟨r1, s1, h1, ih _ _ _ h2 h2'⟩
/-- no tree is shown to end in nothing -/
theorem wp_some {α : Type} {M : Model} {Γ : Ctx} {C : Prop} : ∀ (t : Sem α) {Q : α → Pos → Shared → Prop} {E : Value → Pos → Shared → Prop} (p : Pos) (s : Shared),
    (∀ a p s, Q a p s → C) → (∀ e p s, E e p s → C) → Sem.wp M Γ t Q E p s → C := by
  intro t
  induction t with
  | pure a => exact fun p s h _ x => h _ _ _ x
  | raise e => exact fun p s _ h x => h _ _ _ x
  | unsupported | finish | yield | fork | await | register => exact fun p s _ _ h => h.elim
  | rule _ k ih | «at» _ k ih | alloc _ k ih | loadIfAlive _ k ih | point _ k ih | fresh k ih | ask k ih | os _ _ k ih | handled _ k ih | newGen _ k ih | stack k ih | thread k ih => exact fun p s a b h => ih _ _ _ a b h
  | load a _ k ih | genState a k ih => exact fun p s a b ⟨o, ho, h⟩ => ih _ _ _ a b h
  | update a _ f k ih | choose _ _ k ih => exact fun p s a b ⟨ha, h⟩ => ih _ _ _ a b h
  | call c h g l k ih => exact fun p s a b ⟨r, s1, h1, h2⟩ => ih _ _ _ a b h2
  | resume g r l k ih => exact fun p s a b ⟨r1, s1, h1, h2⟩ => ih _ _ _ a b h2
end PySem

set_option Elab.async false
set_option linter.all false
set_option maxRecDepth 100000
set_option maxHeartbeats 4000000
namespace SimS
open PySem PyProof.Rows
/-- two runs of the sort, step by step alike: one over the things themselves, one over numbers in their place -/
structure Two (n : Nat) where
  M : Model
  A : Around
  E : Value → Shared → Prop
  s : Shared
  kd : SortKind
  f : Fin n → Keyed
  g : Fin n → Keyed
  B : Fin n → Fin n → Bool
  hf : ∀ i j (Q : Bool → Shared → Prop) (E' : Value → Shared → Prop), Q (B i j) s → wpAny M A (keyLt' kd (f i).1 (f j).1) Q E' s
  hg : ∀ i j (Q : Bool → Shared → Prop) (E' : Value → Shared → Prop), Q (B i j) s → wpAny M A (keyLt' oneType' (g i).1 (g j).1) Q E' s
variable {n : Nat} (T : Two n)
structure RelS (st st' : SortSt) : Prop where
  k : kindOf st = T.kd
  k' : kindOf st' = oneType'
  I : ∃ I : Array (Fin n), arrOf st = I.map T.f ∧ arrOf st' = I.map T.g
  pend : pendingOf st' = pendingOf st
  gal : gallopOf st' = gallopOf st
  fl : failedOf st = none
  fl' : failedOf st' = none
class Rl (T : Two n) (α : Type) where
  r : α → α → Prop
instance : Rl T Nat := ⟨Eq⟩
instance : Rl T Bool := ⟨Eq⟩
instance : Rl T Unit := ⟨Eq⟩
instance : Rl T PUnit := ⟨Eq⟩
instance : Rl T (Option Nat) := ⟨Eq⟩
instance : Rl T (Option Bool) := ⟨Eq⟩
instance : Rl T (Option Unit) := ⟨Eq⟩
instance : Rl T SortSt := ⟨RelS T⟩
instance : Rl T Keyed := ⟨fun p q => ∃ i, p = T.f i ∧ q = T.g i⟩
instance : Rl T (Array Keyed) := ⟨fun a b => ∃ I : Array (Fin n), a = I.map T.f ∧ b = I.map T.g⟩
instance {α β : Type} [Rl T α] [Rl T β] : Rl T (α × β) := ⟨fun a b => Rl.r T a.1 b.1 ∧ Rl.r T a.2 b.2⟩
instance : Rl T (Option (Array Keyed)) := ⟨fun a b => match a, b with | none, none => True | some x, some y => ∃ I : Array (Fin n), x = I.map T.f ∧ y = I.map T.g | _, _ => False⟩
instance {α : Type} [Rl T α] : Rl T (ForInStep α) := ⟨fun a b => match a, b with | .done x, .done y => Rl.r T x y | .yield x, .yield y => Rl.r T x y | _, _ => False⟩
def Sim {α : Type} [Rl T α] (m m' : StateT SortSt Sem α) : Prop := ∀ st st', RelS T st st' → ∀ Γ, Γ.In T.A → ∀ (p p' : Pos) (Q' : α → SortSt → Shared → Prop),
  Sem.wp T.M Γ (m'.run st') (fun x _ s1 => Q' x.1 x.2 s1) (fun _ _ _ => False) p' T.s →
  Sem.wp T.M Γ (m.run st) (fun x _ s1 => s1 = T.s ∧ ∃ b st1', Rl.r T x.1 b ∧ RelS T x.2 st1' ∧ Q' b st1' T.s) (fun e _ s' => T.E e s') p T.s
variable {T}
theorem sim_pure {α : Type} [Rl T α] {a b : α} (h : Rl.r T a b) : Sim T (pure a) (pure b) := by
  intro st st' hr Γ hΓ p p' Q' w
  rw [StateT.run_pure] at w ⊢
  exact ⟨rfl, b, st', h, hr, w⟩
theorem sim_bind {α β : Type} [Rl T α] [Rl T β] {m m' : StateT SortSt Sem α} {k k' : α → StateT SortSt Sem β} (h : Sim T m m') (hk : ∀ a b, Rl.r T a b → Sim T (k a) (k' b)) : Sim T (m >>= k) (m' >>= k') := by
  intro st st' hr Γ hΓ p p' Q' w
  rw [StateT.run_bind] at w ⊢
  rw [Sem.wp_bind'] at w ⊢
  have w1 := h st st' hr Γ hΓ p p' (fun b st1' s1 => ∃ p1, Sem.wp T.M Γ ((k' b).run st1') (fun x _ s1 => Q' x.1 x.2 s1) (fun _ _ _ => False) p1 s1) (Sem.wp_mono _ _ _ (fun x p1 s1 h => ⟨p1, h⟩) (fun _ _ _ h => h) _ _ w)
  refine Sem.wp_mono _ _ _ ?_ (fun _ _ _ h => h) _ _ w1
  rintro ⟨a, st1⟩ p1 s1 ⟨e, b, st1', hab, hr1, p2, w2⟩
  subst e
  exact hk a b hab st1 st1' hr1 Γ hΓ p1 p2 Q' w2
theorem sim_get : Sim T (get : StateT SortSt Sem SortSt) get := by
  intro st st' hr Γ hΓ p p' Q' w
  rw [StateT.run_get] at w ⊢
  exact ⟨rfl, st', st', hr, hr, w⟩
theorem sim_modify {u u' : SortSt → SortSt} (h : ∀ st st', RelS T st st' → RelS T (u st) (u' st')) : Sim T (modify u : StateT SortSt Sem PUnit) (modify u') := by
  intro st st' hr Γ hΓ p p' Q' w
  rw [StateT.run_modify] at w ⊢
  exact ⟨rfl, ⟨⟩, _, rfl, h _ _ hr, w⟩
theorem sim_set {a b : SortSt} (h : RelS T a b) : Sim T (set a : StateT SortSt Sem PUnit) (set b) := by
  intro st st' hr Γ hΓ p p' Q' w
  rw [StateT.run_set] at w ⊢
  exact ⟨rfl, ⟨⟩, _, rfl, h, w⟩
theorem sim_rule {t : String} : Sim T (liftM (rule t) : StateT SortSt Sem Unit) (liftM (rule t)) := by
  intro st st' hr Γ hΓ p p' Q' w
  exact ⟨rfl, (), _, rfl, hr, w⟩
theorem sim_none {α : Type} [Rl T α] {m : StateT SortSt Sem α} {t : String} : Sim T m (liftM (unsupported t : Sem α)) := by
  intro st st' hr Γ hΓ p p' Q' w
  exact w.elim
theorem sim_none' {α : Type} [Rl T α] {m : StateT SortSt Sem α} {t : String} : Sim T m (unsupported t) := by
  intro st st' hr Γ hΓ p p' Q' w
  exact w.elim
theorem sim_ite {α : Type} [Rl T α] {c : Prop} [Decidable c] {a b a' b' : StateT SortSt Sem α} (h1 : c → Sim T a a') (h2 : ¬ c → Sim T b b') : Sim T (if c then a else b) (if c then a' else b') := by
  by_cases h : c
  · rw [if_pos h, if_pos h]; exact h1 h
  · rw [if_neg h, if_neg h]; exact h2 h
theorem sim_list {β : Type} [Rl T β] {f f' : Nat → β → StateT SortSt Sem (ForInStep β)} (h : ∀ i c c', Rl.r T c c' → Sim T (f i c) (f' i c')) : ∀ (l : List Nat) {c c' : β}, Rl.r T c c' → Sim T (forIn l c f) (forIn l c' f')
  | [], c, c', hc => by rw [List.forIn_nil, List.forIn_nil]; exact sim_pure hc
  | x :: r, c, c', hc => by
    rw [List.forIn_cons, List.forIn_cons]
    refine sim_bind (h x c c' hc) fun a b hab => ?_
    cases a with
    | done a' =>
      cases b with
      | done b' => exact sim_pure hab
      | yield b' => exact hab.elim
    | yield a' =>
      cases b with
      | done b' => exact hab.elim
      | yield b' => exact sim_list h r hab
theorem sim_for {β : Type} [Rl T β] {x y : Nat} {f f' : Nat → β → StateT SortSt Sem (ForInStep β)} {c c' : β} (hc : Rl.r T c c') (h : ∀ i c c', Rl.r T c c' → Sim T (f i c) (f' i c')) : Sim T (forIn [x:y] c f) (forIn [x:y] c' f') := by
  rw [Std.Legacy.Range.forIn_eq_forIn_range', Std.Legacy.Range.forIn_eq_forIn_range']
  exact sim_list h _ hc
theorem sim_elem {a b : Array Keyed} (h : Rl.r T a b) (i : Nat) : Sim T (elem' a i) (elem' b i) := by
  obtain ⟨I, rfl, rfl⟩ := h
  rw [elem'_eq, elem'_eq, Array.getElem?_map, Array.getElem?_map]
  cases e : I[i]? with
  | none => exact sim_none'
  | some j => exact sim_pure ⟨j, rfl, rfl⟩
theorem lift_run {α : Type} (m : Sem α) (st : SortSt) : (liftM m : StateT SortSt Sem α).run st = m >>= fun a => pure (a, st) := rfl
theorem sim_lt {x y x' y' : Keyed} (hx : Rl.r T x x') (hy : Rl.r T y y') : Sim T (lt' x y) (lt' x' y') := by
  obtain ⟨i, rfl, rfl⟩ := hx
  obtain ⟨j, rfl, rfl⟩ := hy
  rw [lt'_eq, lt'_eq]
  refine sim_bind sim_get fun a b hab => ?_
  have hab : RelS T a b := hab
  rw [hab.k, hab.k']
  intro st st' hr Γ hΓ p p' Q' w
  rw [StateT.run_bind, lift_run] at w ⊢
  rw [Sem.wp_bind', Sem.wp_bind', Sem.wp_attempt] at w ⊢
  have w2 := T.hg i j (fun b s1 => b = T.B i j ∧ s1 = T.s) (fun _ _ => False) ⟨rfl, rfl⟩ Γ p' hΓ
  have w3 := wp_det _ _ _ w w2
  have q : Q' (some (T.B i j)) st' T.s := by
    refine wp_some _ _ _ ?_ ?_ w3
    · rintro b p1 s1 ⟨h1, rfl, rfl⟩
      exact h1
    · rintro e p1 s1 ⟨_, h⟩
      exact h.elim
  refine Sem.wp_mono _ _ _ ?_ ?_ _ _ (T.hf i j (fun b s1 => b = T.B i j ∧ s1 = T.s) (fun _ _ => False) ⟨rfl, rfl⟩ Γ p hΓ)
  · rintro b p1 s1 ⟨rfl, rfl⟩
    exact ⟨rfl, _, st', rfl, hr, q⟩
  · rintro e p1 s1 h
    exact h.elim
theorem sim_ltAt (i j : Nat) : Sim T (ltAt' i j) (ltAt' i j) := by
  rw [ltAt'_eq]
  refine sim_bind sim_get fun a b hab => ?_
  have hab : RelS T a b := hab
  exact sim_bind (sim_elem hab.I i) fun x x' hx => sim_bind (sim_elem hab.I j) fun y y' hy => sim_lt hx hy

instance : Rl T (Option (Option Nat)) := ⟨Eq⟩
instance : Rl T (Option (Option Nat) × Nat) := ⟨Eq⟩
instance : Rl T (Option (Option Nat) × Nat × Nat) := ⟨Eq⟩
instance : Rl T (Option Bool × Nat × Nat) := ⟨Eq⟩
instance : Rl T (Option Bool × Unit) := ⟨Eq⟩
instance : Rl T (Option Unit × Unit) := ⟨Eq⟩
instance : Rl T (Option Unit × Nat) := ⟨Eq⟩
instance : Rl T (Nat × Nat) := ⟨Eq⟩
instance : Rl T (Nat × Nat × Nat) := ⟨Eq⟩
theorem eq_of {α : Type} (T : Two n) [i : Rl T α] (h : i = ⟨Eq⟩ := by rfl) {a b : α} (x : Rl.r T a b) : a = b := by subst h; exact x
theorem map_swap {β γ : Type} (I : Array γ) (u : γ → β) (i j : Nat) : (I.map u).swapIfInBounds i j = (I.swapIfInBounds i j).map u := by
  unfold Array.swapIfInBounds
  simp only [Array.size_map]
  split
  · split
    · apply Array.ext
      · simp
      · intro k h1 h2
        simp only [Array.getElem_map, Array.getElem_swap]
        split
        · rfl
        · split <;> rfl
    · rfl
  · rfl
theorem map_mirror {β γ : Type} (I : Array γ) (u : γ → β) (i j : Nat) : ∀ d, mirror (I.map u) i j d = (mirror I i j d).map u
  | 0 => rfl
  | d + 1 => by rw [mirror_succ, mirror_succ, map_mirror I u i j d, map_swap]
theorem map_bubble {β γ : Type} (I : Array γ) (u : γ → β) (i : Nat) : ∀ d, bubble (I.map u) i d = (bubble I i d).map u
  | 0 => rfl
  | d + 1 => by rw [bubble_succ, bubble_succ, map_bubble I u i d, map_swap]
theorem RelS.setA {st st' : SortSt} (h : RelS T st st') {a b : Array Keyed} (hi : ∃ I : Array (Fin n), a = I.map T.f ∧ b = I.map T.g) : RelS T (setArr st a) (setArr st' b) := ⟨h.k, h.k', hi, h.pend, h.gal, h.fl, h.fl'⟩
theorem sim_rev (i j : Nat) : Sim T (reverseSlice' i j) (reverseSlice' i j) := by
  rw [reverseSlice'_eq]
  refine sim_modify fun st st' h => h.setA ?_
  obtain ⟨I, e1, e2⟩ := h.I
  exact ⟨mirror I i j ((j - i) / 2), by rw [e1, map_mirror], by rw [e2, map_mirror]⟩
theorem sim_down (i j : Nat) : Sim T (moveDown' i j) (moveDown' i j) := by
  rw [moveDown'_eq]
  refine sim_modify fun st st' h => h.setA ?_
  obtain ⟨I, e1, e2⟩ := h.I
  exact ⟨bubble I i (i - j), by rw [e1, map_bubble], by rw [e2, map_bubble]⟩
theorem sim_bindE {α β : Type} [i : Rl T α] [Rl T β] {m m' : StateT SortSt Sem α} {k k' : α → StateT SortSt Sem β} (hi : i = ⟨Eq⟩) (h : Sim T m m') (hk : ∀ a, Sim T (k a) (k' a)) : Sim T (m >>= k) (m' >>= k') :=
  sim_bind h fun a b hab => by have := eq_of T hi hab; subst this; exact hk a
theorem sim_bindO {α β : Type} [i : Rl T (Option α)] [Rl T β] {m m' : StateT SortSt Sem (Option α)} {k k' : Option α → StateT SortSt Sem β} (hi : i = ⟨Eq⟩) (h : Sim T m m') (h0 : Sim T (k none) (k' none)) (hk : ∀ a, Sim T (k (some a)) (k' (some a))) : Sim T (m >>= k) (m' >>= k') :=
  sim_bindE hi h fun a => by cases a; exact h0; exact hk _
theorem sim_forE {β : Type} [i : Rl T β] {x y : Nat} {f f' : Nat → β → StateT SortSt Sem (ForInStep β)} {c : β} (hi : i = ⟨Eq⟩) (h : ∀ i c, Sim T (f i c) (f' i c)) : Sim T (forIn [x:y] c f) (forIn [x:y] c f') :=
  sim_for (by subst hi; rfl) fun i c c' hc => by have := eq_of T hi hc; subst this; exact h i c
theorem sim_countRun (lo nrem : Nat) : Sim T (countRun' lo nrem) (countRun' lo nrem) := by
  rw [countRun'_eq]
  repeat' first
    | exact sim_pure rfl
    | exact sim_ltAt _ _
    | exact sim_rule
    | exact sim_rev _ _
    | exact sim_down _ _
    | refine sim_forE rfl fun i c => ?_
    | refine sim_bindO rfl ?_ ?_ fun a => ?_
    | refine sim_bindE rfl ?_ fun a => ?_
    | refine sim_ite (fun _ => ?_) (fun _ => ?_)
    | dsimp only
    | split
theorem sim_binarySort (lo k ok : Nat) : Sim T (binarySort' lo k ok) (binarySort' lo k ok) := by
  rw [binarySort'_eq]
  repeat' first
    | exact sim_pure rfl
    | exact sim_ltAt _ _
    | exact sim_rule
    | exact sim_rev _ _
    | exact sim_down _ _
    | refine sim_forE rfl fun i c => ?_
    | refine sim_bindO rfl ?_ ?_ fun a => ?_
    | refine sim_bindE rfl ?_ fun a => ?_
    | refine sim_ite (fun _ => ?_) (fun _ => ?_)
    | dsimp only
    | split
theorem sim_beyond {left : Bool} {key key' : Keyed} {arr arr' : Array Keyed} (hk : Rl.r T key key') (ha : Rl.r T arr arr') (base i : Nat) : Sim T (beyond' left key arr base i) (beyond' left key' arr' base i) := by
  unfold beyond'
  refine sim_bind (sim_elem ha _) fun x x' hx => ?_
  refine sim_ite (fun _ => sim_lt hx hk) (fun _ => ?_)
  refine sim_bindE rfl (sim_lt hk hx) fun a => sim_pure rfl
theorem sim_gallop {left : Bool} {key key' : Keyed} {arr arr' : Array Keyed} (hk : Rl.r T key key') (ha : Rl.r T arr arr') (base k hint : Nat) : Sim T (gallop' left key arr base k hint) (gallop' left key' arr' base k hint) := by
  rw [gallop'_eq, gallop'_eq]
  repeat' first
    | exact sim_pure rfl
    | exact sim_ltAt _ _
    | exact sim_rule
    | exact sim_beyond hk ha _ _
    | exact sim_rev _ _
    | exact sim_down _ _
    | refine sim_forE rfl fun i c => ?_
    | refine sim_bindO rfl ?_ ?_ fun a => ?_
    | refine sim_bindE rfl ?_ fun a => ?_
    | refine sim_ite (fun _ => ?_) (fun _ => ?_)
    | dsimp only
    | split
end SimS

set_option Elab.async false
set_option linter.all false
set_option maxRecDepth 100000
set_option maxHeartbeats 4000000
namespace SimS
open PySem PyProof.Rows
variable {n : Nat} {T : Two n}
abbrev RA (T : Two n) (a b : Array Keyed) : Prop := ∃ I : Array (Fin n), a = I.map T.f ∧ b = I.map T.g
abbrev RK (T : Two n) (p q : Keyed) : Prop := ∃ i, p = T.f i ∧ q = T.g i
theorem rA_push {a b : Array Keyed} {x y : Keyed} (h : RA T a b) (k : RK T x y) : RA T (a.push x) (b.push y) := by
  obtain ⟨I, rfl, rfl⟩ := h
  obtain ⟨i, rfl, rfl⟩ := k
  exact ⟨I.push i, by simp, by simp⟩
theorem rA_one {x y : Keyed} (k : RK T x y) : RA T #[x] #[y] := by
  obtain ⟨i, rfl, rfl⟩ := k
  exact ⟨#[i], by simp, by simp⟩
theorem rA_app {a b c d : Array Keyed} (h : RA T a b) (k : RA T c d) : RA T (a ++ c) (b ++ d) := by
  obtain ⟨I, rfl, rfl⟩ := h
  obtain ⟨J, rfl, rfl⟩ := k
  exact ⟨I ++ J, by simp, by simp⟩
theorem rA_ext {a b : Array Keyed} {i j : Nat} (h : RA T a b) : RA T (a.extract i j) (b.extract i j) := by
  obtain ⟨I, rfl, rfl⟩ := h
  exact ⟨I.extract i j, by simp, by simp⟩
theorem rA_rev {a b : Array Keyed} (h : RA T a b) : RA T a.reverse b.reverse := by
  obtain ⟨I, rfl, rfl⟩ := h
  exact ⟨I.reverse, by simp, by simp⟩
theorem rA_size {a b : Array Keyed} (h : RA T a b) : b.size = a.size := by
  obtain ⟨I, rfl, rfl⟩ := h
  simp
theorem sim_setG (k : Nat) : Sim T (setMinGallop' k) (setMinGallop' k) := by
  rw [setMinGallop'_eq]
  exact sim_modify fun st st' h => ⟨h.k, h.k', h.I, h.pend, rfl, h.fl, h.fl'⟩
instance {β : Type} : Rl T (Option (Array Keyed) × Array Keyed × β) := ⟨fun c c' => Rl.r T c.1 c'.1 ∧ RA T c.2.1 c'.2.1 ∧ c.2.2 = c'.2.2⟩
theorem sim_forA {β : Type} {x y : Nat} {f f' : Nat → (Option (Array Keyed) × Array Keyed × β) → StateT SortSt Sem (ForInStep (Option (Array Keyed) × Array Keyed × β))} {out out' : Array Keyed} {e : β} (h : RA T out out')
    (hs : ∀ i o o' out out' e, RA T out out' → Sim T (f i (o, out, e)) (f' i (o', out', e))) : Sim T (forIn [x:y] (none, out, e) f) (forIn [x:y] (none, out', e) f') := by
  refine sim_for ⟨trivial, h, rfl⟩ fun i c c' hc => ?_
  obtain ⟨o, u, v⟩ := c
  obtain ⟨o', u', v'⟩ := c'
  obtain ⟨_, h2, h3⟩ := hc
  have h3 : v = v' := h3
  subst h3
  exact hs i o o' u u' v h2
theorem sim_bindA {β γ : Type} [Rl T γ] {m m' : StateT SortSt Sem (Option (Array Keyed) × Array Keyed × β)} {k k' : (Option (Array Keyed) × Array Keyed × β) → StateT SortSt Sem γ} (h : Sim T m m')
    (h0 : ∀ out out' e, RA T out out' → Sim T (k (none, out, e)) (k' (none, out', e))) (h1 : ∀ r r' out out' e, RA T r r' → RA T out out' → Sim T (k (some r, out, e)) (k' (some r', out', e))) : Sim T (m >>= k) (m' >>= k') := by
  refine sim_bind h fun c c' hc => ?_
  obtain ⟨o, u, v⟩ := c
  obtain ⟨o', u', v'⟩ := c'
  obtain ⟨h0', h2, h3⟩ := hc
  have h3 : v = v' := h3
  subst h3
  cases o with
  | none =>
    cases o' with
    | none => exact h0 _ _ _ h2
    | some r' => exact h0'.elim
  | some r =>
    cases o' with
    | none => exact h0'.elim
    | some r' => exact h1 _ _ _ _ _ h0' h2
theorem sim_bindK {γ : Type} [Rl T γ] {m m' : StateT SortSt Sem Keyed} {k k' : Keyed → StateT SortSt Sem γ} (h : Sim T m m') (hk : ∀ x x', RK T x x' → Sim T (k x) (k' x')) : Sim T (m >>= k) (m' >>= k') := sim_bind h hk
theorem sim_doneS {β : Type} {r r' out out' : Array Keyed} {e : β} (h : RA T r r') (h2 : RA T out out') : Sim T (pure (ForInStep.done (some r, out, e))) (pure (ForInStep.done (some r', out', e))) := sim_pure (show _ ∧ _ ∧ _ from ⟨h, h2, rfl⟩)
theorem sim_doneN {β : Type} {out out' : Array Keyed} {e : β} (h2 : RA T out out') : Sim T (pure (ForInStep.done ((none : Option (Array Keyed)), out, e))) (pure (ForInStep.done (none, out', e))) := sim_pure (show _ ∧ _ ∧ _ from ⟨trivial, h2, rfl⟩)
theorem sim_yieldN {β : Type} {out out' : Array Keyed} {e : β} (h2 : RA T out out') : Sim T (pure (ForInStep.yield ((none : Option (Array Keyed)), out, e))) (pure (ForInStep.yield (none, out', e))) := sim_pure (show _ ∧ _ ∧ _ from ⟨trivial, h2, rfl⟩)
theorem sim_pureA {r r' : Array Keyed} (h : RA T r r') : Sim T (pure r) (pure r') := sim_pure h
theorem sim_mergeLo {a b a' b' : Array Keyed} (ha : RA T a a') (hb : RA T b b') : Sim T (mergeLo' a b) (mergeLo' a' b') := by
  rw [mergeLo'_eq, mergeLo'_eq]
  rw [rA_size ha, rA_size hb]
  dsimp only
  refine sim_bindE rfl sim_rule fun _ => ?_
  refine sim_bindK (sim_elem hb 0) fun x x' hx => ?_
  have h1 := rA_one hx
  refine sim_ite (fun _ => sim_pure (rA_app (rA_app h1 (rA_ext ha)) (rA_ext hb))) fun _ => ?_
  refine sim_ite (fun _ => sim_pure (rA_app (rA_app h1 (rA_ext hb)) (rA_ext ha))) fun _ => ?_
  refine sim_bind sim_get fun st st' hst => ?_
  have hst : RelS T st st' := hst
  rw [hst.gal]
  repeat' first
    | exact sim_rule
    | exact sim_none'
    | exact sim_setG _
    | exact sim_lt (by assumption) (by assumption)
    | exact sim_elem (by assumption) _
    | exact sim_gallop (by assumption) (by assumption) _ _ _
    | (refine sim_doneS ?_ ?_ <;> (repeat' first | with_reducible assumption | with_reducible apply rA_app | with_reducible apply rA_push | with_reducible apply rA_ext | with_reducible apply rA_rev))
    | (refine sim_doneN ?_ <;> (repeat' first | with_reducible assumption | with_reducible apply rA_app | with_reducible apply rA_push | with_reducible apply rA_ext | with_reducible apply rA_rev))
    | (refine sim_yieldN ?_ <;> (repeat' first | with_reducible assumption | with_reducible apply rA_app | with_reducible apply rA_push | with_reducible apply rA_ext | with_reducible apply rA_rev))
    | (refine sim_pureA ?_ <;> (repeat' first | with_reducible assumption | with_reducible apply rA_app | with_reducible apply rA_push | with_reducible apply rA_ext | with_reducible apply rA_rev))
    | refine sim_forA (by repeat' first | with_reducible assumption | with_reducible apply rA_app | with_reducible apply rA_push | with_reducible apply rA_ext | with_reducible apply rA_rev) fun i o o' out out' e hA => ?_
    | refine sim_bindA ?_ (fun out out' e hA => ?_) (fun r r' out out' e hR hA => ?_)
    | refine sim_bindO rfl ?_ ?_ fun a => ?_
    | refine sim_bindE rfl ?_ fun a => ?_
    | refine sim_bindK ?_ fun x x' hx => ?_
    | refine sim_ite (fun _ => ?_) (fun _ => ?_)
    | dsimp only
    | split
end SimS

set_option Elab.async false
set_option linter.all false
set_option maxRecDepth 100000
set_option maxHeartbeats 4000000
namespace SimS
open PySem PyProof.Rows
variable {n : Nat} {T : Two n}
instance {β : Type} : Rl T (Option (Array Keyed) × Nat × Nat × Array Keyed × β) := ⟨fun c c' => Rl.r T c.1 c'.1 ∧ c.2.1 = c'.2.1 ∧ c.2.2.1 = c'.2.2.1 ∧ RA T c.2.2.2.1 c'.2.2.2.1 ∧ c.2.2.2.2 = c'.2.2.2.2⟩
theorem sim_forH {β : Type} {x y : Nat} {f f' : Nat → (Option (Array Keyed) × Nat × Nat × Array Keyed × β) → StateT SortSt Sem (ForInStep (Option (Array Keyed) × Nat × Nat × Array Keyed × β))} {out out' : Array Keyed} {u v : Nat} {e : β} (h : RA T out out')
    (hs : ∀ i o o' u v out out' e, RA T out out' → Sim T (f i (o, u, v, out, e)) (f' i (o', u, v, out', e))) : Sim T (forIn [x:y] (none, u, v, out, e) f) (forIn [x:y] (none, u, v, out', e) f') := by
  refine sim_for ⟨trivial, rfl, rfl, h, rfl⟩ fun i c c' hc => ?_
  obtain ⟨o, a1, a2, u, v⟩ := c
  obtain ⟨o', b1, b2, u', v'⟩ := c'
  obtain ⟨_, g1, g2, h2, h3⟩ := hc
  have h3 : v = v' := h3
  have g1 : a1 = b1 := g1
  have g2 : a2 = b2 := g2
  subst h3 g1 g2
  exact hs i o o' _ _ u u' v h2
theorem sim_bindH {β γ : Type} [Rl T γ] {m m' : StateT SortSt Sem (Option (Array Keyed) × Nat × Nat × Array Keyed × β)} {k k' : (Option (Array Keyed) × Nat × Nat × Array Keyed × β) → StateT SortSt Sem γ} (h : Sim T m m')
    (h0 : ∀ u v out out' e, RA T out out' → Sim T (k (none, u, v, out, e)) (k' (none, u, v, out', e))) (h1 : ∀ r r' u v out out' e, RA T r r' → RA T out out' → Sim T (k (some r, u, v, out, e)) (k' (some r', u, v, out', e))) : Sim T (m >>= k) (m' >>= k') := by
  refine sim_bind h fun c c' hc => ?_
  obtain ⟨o, a1, a2, u, v⟩ := c
  obtain ⟨o', b1, b2, u', v'⟩ := c'
  obtain ⟨h0', g1, g2, h2, h3⟩ := hc
  have h3 : v = v' := h3
  have g1 : a1 = b1 := g1
  have g2 : a2 = b2 := g2
  subst h3 g1 g2
  cases o with
  | none =>
    cases o' with
    | none => exact h0 _ _ _ _ _ h2
    | some r' => exact h0'.elim
  | some r =>
    cases o' with
    | none => exact h0'.elim
    | some r' => exact h1 _ _ _ _ _ _ _ h0' h2
theorem sim_doneSH {β : Type} {r r' out out' : Array Keyed} {u v : Nat} {e : β} (h : RA T r r') (h2 : RA T out out') : Sim T (pure (ForInStep.done (some r, u, v, out, e))) (pure (ForInStep.done (some r', u, v, out', e))) := sim_pure (show _ ∧ _ ∧ _ ∧ _ ∧ _ from ⟨h, rfl, rfl, h2, rfl⟩)
theorem sim_doneNH {β : Type} {out out' : Array Keyed} {u v : Nat} {e : β} (h2 : RA T out out') : Sim T (pure (ForInStep.done ((none : Option (Array Keyed)), u, v, out, e))) (pure (ForInStep.done (none, u, v, out', e))) := sim_pure (show _ ∧ _ ∧ _ ∧ _ ∧ _ from ⟨trivial, rfl, rfl, h2, rfl⟩)
theorem sim_yieldNH {β : Type} {out out' : Array Keyed} {u v : Nat} {e : β} (h2 : RA T out out') : Sim T (pure (ForInStep.yield ((none : Option (Array Keyed)), u, v, out, e))) (pure (ForInStep.yield (none, u, v, out', e))) := sim_pure (show _ ∧ _ ∧ _ ∧ _ ∧ _ from ⟨trivial, rfl, rfl, h2, rfl⟩)
theorem sim_mergeHi {a b a' b' : Array Keyed} (ha : RA T a a') (hb : RA T b b') : Sim T (mergeHi' a b) (mergeHi' a' b') := by
  rw [mergeHi'_eq, mergeHi'_eq]
  rw [rA_size ha, rA_size hb]
  dsimp only
  refine sim_bindE rfl sim_rule fun _ => ?_
  refine sim_bindK (sim_elem ha _) fun x x' hx => ?_
  have h1 := rA_one hx
  refine sim_ite (fun _ => sim_pure (rA_app (rA_app (rA_ext ha) (rA_ext hb)) (rA_rev h1))) fun _ => ?_
  refine sim_ite (fun _ => sim_pure (rA_app (rA_app (rA_ext hb) (rA_ext ha)) (rA_rev h1))) fun _ => ?_
  refine sim_bind sim_get fun st st' hst => ?_
  have hst : RelS T st st' := hst
  rw [hst.gal]
  repeat' first
    | exact sim_rule
    | exact sim_none'
    | exact sim_setG _
    | exact sim_lt (by assumption) (by assumption)
    | exact sim_elem (by assumption) _
    | exact sim_gallop (by assumption) (by assumption) _ _ _
    | (refine sim_doneSH ?_ ?_ <;> (repeat' first | with_reducible assumption | with_reducible apply rA_app | with_reducible apply rA_push | with_reducible apply rA_ext | with_reducible apply rA_rev))
    | (refine sim_doneNH ?_ <;> (repeat' first | with_reducible assumption | with_reducible apply rA_app | with_reducible apply rA_push | with_reducible apply rA_ext | with_reducible apply rA_rev))
    | (refine sim_yieldNH ?_ <;> (repeat' first | with_reducible assumption | with_reducible apply rA_app | with_reducible apply rA_push | with_reducible apply rA_ext | with_reducible apply rA_rev))
    | (refine sim_pureA ?_ <;> (repeat' first | with_reducible assumption | with_reducible apply rA_app | with_reducible apply rA_push | with_reducible apply rA_ext | with_reducible apply rA_rev))
    | refine sim_forH (by repeat' first | with_reducible assumption | with_reducible apply rA_app | with_reducible apply rA_push | with_reducible apply rA_ext | with_reducible apply rA_rev) fun i o o' u v out out' e hA => ?_
    | refine sim_bindH ?_ (fun u v out out' e hA => ?_) (fun r r' u v out out' e hR hA => ?_)
    | refine sim_bindO rfl ?_ ?_ fun a => ?_
    | refine sim_bindE rfl ?_ fun a => ?_
    | refine sim_bindK ?_ fun x x' hx => ?_
    | refine sim_ite (fun _ => ?_) (fun _ => ?_)
    | dsimp only
    | split
theorem rA_set {a b : Array Keyed} {x y : Keyed} {i : Nat} (h : RA T a b) (k : RK T x y) : RA T (a.setIfInBounds i x) (b.setIfInBounds i y) := by
  obtain ⟨I, rfl, rfl⟩ := h
  obtain ⟨j, rfl, rfl⟩ := k
  refine ⟨I.setIfInBounds i j, ?_, ?_⟩ <;>
  · apply Array.ext_getElem?
    intro m
    simp only [Array.getElem?_map, Array.getElem?_setIfInBounds, Array.size_map]
    split
    · split <;> rfl
    · rfl
theorem rA_fold (sa : Nat) : ∀ (l : List (Fin n)) (k : Nat) {a b : Array Keyed}, RA T a b →
    RA T (((l.map T.f).zipIdx k).foldl (fun a (q : Keyed × Nat) => a.setIfInBounds (sa + q.2) q.1) a) (((l.map T.g).zipIdx k).foldl (fun a (q : Keyed × Nat) => a.setIfInBounds (sa + q.2) q.1) b)
  | [], _, _, _, h => h
  | i :: r, k, a, b, h => by
    rw [List.map_cons, List.map_cons, List.zipIdx_cons, List.zipIdx_cons, List.foldl_cons, List.foldl_cons]
    exact rA_fold sa r (k + 1) (rA_set h ⟨i, rfl, rfl⟩)
theorem sim_mergeAt (i : Nat) : Sim T (mergeAt' i) (mergeAt' i) := by
  rw [mergeAt'_eq]
  refine sim_bind sim_get fun st st' hst => ?_
  have hst : RelS T st st' := hst
  rw [hst.pend]
  have hI : RA T (arrOf st) (arrOf st') := hst.I
  dsimp only
  split
  · rename_i sa na power sb nb x
    refine sim_bindE rfl (sim_set ⟨hst.k, hst.k', hst.I, rfl, hst.gal, hst.fl, hst.fl'⟩) fun _ => ?_
    refine sim_bindK (sim_elem hI _) fun x x' hx => ?_
    refine sim_bindO rfl (sim_gallop hx hI _ _ _) (sim_pure rfl) fun k => ?_
    dsimp only
    refine sim_ite (fun _ => sim_pure rfl) fun _ => ?_
    refine sim_bindK (sim_elem hI _) fun y y' hy => ?_
    refine sim_bindO rfl (sim_gallop hy hI _ _ _) (sim_pure rfl) fun k2 => ?_
    dsimp only
    refine sim_ite (fun _ => sim_pure rfl) fun _ => ?_
    have key : ∀ (c : Nat) (m m' : Array Keyed), RA T m m' → Sim T (do modify fun s => setArr s (m.toList.zipIdx.foldl (fun a (p : Keyed × Nat) => a.setIfInBounds (c + p.2) p.1) (arrOf s)); return (failedOf (← get)).isNone : StateT SortSt Sem Bool) (do modify fun s => setArr s (m'.toList.zipIdx.foldl (fun a (p : Keyed × Nat) => a.setIfInBounds (c + p.2) p.1) (arrOf s)); return (failedOf (← get)).isNone) := by
      intro c m m' hm
      refine sim_bindE rfl (sim_modify fun st st' h => h.setA ?_) fun _ => ?_
      · obtain ⟨J, rfl, rfl⟩ := hm
        have := rA_fold (T := T) c J.toList 0 h.I
        simpa using this
      · refine sim_bind sim_get fun st st' hst => ?_
        have hst : RelS T st st' := hst
        rw [hst.fl, hst.fl']
        exact sim_pure rfl
    refine sim_ite (fun _ => ?_) fun _ => ?_
    · exact sim_bind (sim_mergeLo (rA_ext hI) (rA_ext hI)) fun m m' hm => key _ m m' hm
    · exact sim_bind (sim_mergeHi (rA_ext hI) (rA_ext hI)) fun m m' hm => key _ m m' hm
  · exact sim_none'
theorem RelS.setP {st st' : SortSt} (h : RelS T st st') {p p' : Array (Nat × Nat × Nat)} (e : p' = p) : RelS T (setPending st p) (setPending st' p') := ⟨h.k, h.k', h.I, e, h.gal, h.fl, h.fl'⟩
theorem sim_sortRuns : Sim T sortRuns' sortRuns' := by
  rw [sortRuns'_eq]
  refine sim_bind sim_get fun st st' hst => ?_
  have hst : RelS T st st' := hst
  have hI : RA T (arrOf st) (arrOf st') := hst.I
  rw [rA_size hI]
  dsimp only
  repeat' first
    | exact sim_pure rfl
    | exact sim_countRun _ _
    | exact sim_binarySort _ _ _
    | exact sim_mergeAt _
    | exact sim_rule
    | exact sim_modify fun st st' h => h.setP (by rw [h.pend])
    | refine sim_forE rfl fun i c => ?_
    | (refine sim_bind sim_get fun st st' hst => ?_; have hst : RelS T st st' := hst; rw [hst.pend])
    | refine sim_bindO rfl ?_ ?_ fun a => ?_
    | refine sim_bindE rfl ?_ fun a => ?_
    | refine sim_ite (fun _ => ?_) (fun _ => ?_)
    | dsimp only
    | split
end SimS

set_option Elab.async false
set_option linter.all false
set_option maxRecDepth 100000
set_option maxHeartbeats 4000000
namespace SimS
open PySem PyProof.Rows
/-- by how many of a list a thing is preceded -/
def rkOf {n : Nat} (B : Fin n → Fin n → Bool) (i : Fin n) : Int := (((List.finRange n).filter fun j => B j i).length : Int)
/-- an order that may have equals -/
structure Weak {n : Nat} (B : Fin n → Fin n → Bool) : Prop where
  irr : ∀ i, B i i = false
  tr : ∀ i j k, B i j = true → B j k = true → B i k = true
  neg : ∀ i j k, B i k = true → B i j = true ∨ B j k = true
theorem filter_lt {α : Type} {p q : α → Bool} : ∀ {l : List α}, (∀ x ∈ l, p x = true → q x = true) → (∃ x ∈ l, q x = true ∧ p x = false) → (l.filter p).length < (l.filter q).length
  | [], _, ⟨x, hx, _⟩ => by cases hx
  | y :: r, h, ⟨x, hx, hq, hp⟩ => by
    have hr : ∀ z ∈ r, p z = true → q z = true := fun z hz => h z (by simp [hz])
    have hle : (r.filter p).length ≤ (r.filter q).length := by
      clear hx hq hp
      induction r with
      | nil => exact Nat.le_refl _
      | cons z t ih =>
        have := ih (fun w hw => h w (by simp at hw ⊢; rcases hw with rfl | hw; exact .inl rfl; exact .inr (.inr hw))) (fun w hw => hr w (by simp [hw]))
        rw [List.filter_cons, List.filter_cons]
        by_cases hz : p z = true
        · rw [if_pos hz, if_pos (hr z (by simp) hz)]; simpa using this
        · rw [if_neg hz]
          split
          · simp; omega
          · exact this
    rw [List.filter_cons, List.filter_cons]
    rcases List.mem_cons.mp hx with rfl | hx
    · rw [if_neg (by simp [hp]), if_pos hq]
      simp; omega
    · have ih := filter_lt hr ⟨x, hx, hq, hp⟩
      by_cases hy : p y = true
      · rw [if_pos hy, if_pos (h y (by simp) hy)]; simpa using ih
      · rw [if_neg hy]
        split
        · simp; omega
        · exact ih
theorem filter_le {α : Type} {p q : α → Bool} : ∀ {l : List α}, (∀ x ∈ l, p x = true → q x = true) → (l.filter p).length ≤ (l.filter q).length
  | [], _ => Nat.le_refl _
  | y :: r, h => by
    have ih := filter_le (l := r) fun z hz => h z (by simp [hz])
    rw [List.filter_cons, List.filter_cons]
    by_cases hy : p y = true
    · rw [if_pos hy, if_pos (h y (by simp) hy)]; simpa using ih
    · rw [if_neg hy]
      split
      · simp; omega
      · exact ih
theorem Weak.rk {n : Nat} {B : Fin n → Fin n → Bool} (w : Weak B) (i j : Fin n) : B i j = decide (rkOf B i < rkOf B j) := by
  unfold rkOf
  cases h : B i j with
  | true =>
    refine (decide_eq_true ?_).symm
    have := filter_lt (l := List.finRange n) (p := fun k => B k i) (q := fun k => B k j) (fun k _ hk => w.tr k i j hk h) ⟨i, List.mem_finRange i, h, w.irr i⟩
    omega
  | false =>
    refine (decide_eq_false ?_).symm
    have := filter_le (l := List.finRange n) (p := fun k => B k j) (q := fun k => B k i) fun k _ hk => (w.neg k i j hk).resolve_right (by rw [h]; simp)
    omega
section
variable {prog : Program} {w : World} {A : Around} {E : Value → Shared → Prop} {s : Shared} {n : Nat}
def gOf (B : Fin n → Fin n → Bool) (i : Fin n) : Keyed := (.int (rkOf B i) 0, .int (i.val : Nat) 0)
def gInv (h : 0 < n) (p : Keyed) : Fin n := match p.2 with | .int i _ => ⟨i.toNat % n, Nat.mod_lt _ h⟩ | _ => ⟨0, h⟩
theorem gInv_g (h : 0 < n) (B : Fin n → Fin n → Bool) (i : Fin n) : gInv h (gOf B i) = i := by
  unfold gInv gOf
  apply Fin.ext
  show (((i.val : Nat) : Int).toNat) % n = i.val
  rw [Int.toNat_natCast, Nat.mod_eq_of_lt i.isLt]
/-- the runs of the sort over things that are asked at this place -/
theorem runs_two {kd : SortKind} {f : Fin n → Keyed} {B : Fin n → Fin n → Bool} (wk : Weak B) (h2 : 2 ≤ n)
    (hf : ∀ i j (Q : Bool → Shared → Prop) (E' : Value → Shared → Prop), Q (B i j) s → wpAny (model prog w) A (keyLt' kd (f i).1 (f j).1) Q E' s) :
    wpAny (model prog w) A (sortRuns'.run (SortSt.mk' kd ((List.finRange n).toArray.map f) #[] 7 none)) (fun r s' => s' = s ∧ failedOf r.2 = none ∧ ∃ I : List (Fin n), arrOf r.2 = (I.map f).toArray ∧ I.Perm (List.finRange n) ∧ I.Pairwise fun i j => B j i = false) E s := by
  let T : Two n := ⟨model prog w, A, E, s, kd, f, gOf B, B, hf, fun i j Q E' q => by
    rw [keyLt'_oneType]
    exact oneLt_int (by rw [← wk.rk i j]; exact q)⟩
  intro Γ p hΓ
  have g : wpS (model prog w) A (fun _ _ => False) s sortRuns' (fun _ st' => (arrOf st').Perm ((List.finRange n).toArray.map (gOf B)) ∧ failedOf st' = none ∧ SortedToK intKind (arrOf st') ((List.finRange n).toArray.map (gOf B)).size) (SortSt.mk' oneType' ((List.finRange n).toArray.map (gOf B)) #[] 7 none) := by
    refine wpS_sortRunsAny (κ := intKind) intKind_oneLt ?_ ⟨Array.Perm.refl _, rfl, rfl⟩ rfl (by show 2 ≤ ((List.finRange n).toArray.map (gOf B)).size; rw [Array.size_map]; simpa using h2) fun st' h1 h2 h3 => ⟨h1, h2, h3⟩
    intro q hq
    rw [Array.toList_map] at hq
    obtain ⟨i, _, rfl⟩ := List.mem_map.mp hq
    exact ⟨rkOf B i, rfl⟩
  have g' := g Γ p hΓ
  have r := sim_sortRuns (T := T) (SortSt.mk' kd ((List.finRange n).toArray.map f) #[] 7 none) (SortSt.mk' oneType' ((List.finRange n).toArray.map (gOf B)) #[] 7 none) ⟨rfl, rfl, ⟨_, rfl, rfl⟩, rfl, rfl, rfl, rfl⟩ Γ hΓ p p
    (fun _ st' _ => (arrOf st').Perm ((List.finRange n).toArray.map (gOf B)) ∧ failedOf st' = none ∧ SortedToK intKind (arrOf st') ((List.finRange n).toArray.map (gOf B)).size) (Sem.wp_mono _ _ _ (fun _ _ _ h => h.2) (fun _ _ _ h => h) _ _ g')
  refine Sem.wp_mono _ _ _ ?_ (fun _ _ _ h => h) _ _ r
  rintro ⟨u, st⟩ p1 s1 ⟨e, b, st', _, hr, h1, h2', h3⟩
  obtain ⟨I, e1, e2⟩ := hr.I
  have h0 : 0 < n := by omega
  have pm : I.toList.Perm (List.finRange n) := by
    have := Array.perm_iff_toList_perm.mp h1
    rw [e2, Array.toList_map, Array.toList_map] at this
    have := this.map (gInv h0)
    rw [List.map_map, List.map_map] at this
    have ei : (gInv h0 ∘ (gOf B)) = id := funext fun i => gInv_g h0 B i
    show _
    change (List.map (gInv h0 ∘ gOf B) I.toList).Perm _ at this
    rw [ei, List.map_id, List.map_id] at this
    simpa using this
  refine ⟨e, hr.fl, I.toList, ?_, pm, ?_⟩
  · refine e1.trans ?_
    show I.map f = _
    apply Array.ext'
    simp
  · rw [List.pairwise_iff_getElem]
    intro i j hi hj hij
    have hz : I.toList.length = n := by rw [pm.length_eq]; simp
    have hs := h3 i j (by omega) (by simpa [hz] using (show j < n by omega))
    rw [e2] at hs
    have kk : ∀ (m : Nat) (hm : m < I.toList.length), KK intKind (I.map T.g) m = rkOf B (I.toList[m]) := by
      intro m hm
      unfold KK
      rw [Array.getElem?_map, Array.getElem?_eq_getElem (by simpa using hm)]
      show ((intKind.keyOf (gOf B _).1).getD _) = _
      simp [PyProof.Rows.intKind, gOf]
    rw [kk i hi, kk j hj] at hs
    rw [wk.rk]
    exact hs
end
end SimS

set_option Elab.async false
set_option linter.all false
set_option maxRecDepth 100000
set_option maxHeartbeats 4000000
namespace SimS
open PySem PyProof.Rows
def KeepA (h h' : Heap) : Prop := ∀ b o, h.get? b = some o → h'.get? b = some o
/-- how the things of a list are asked and answered, wherever all of the heap is kept -/
structure Asks (prog : Program) (w : World) (h : Heap) (u : Nat) (vs : List Value) (kd : SortKind) (lt : Value → Value → Bool) : Prop where
  irr : ∀ x ∈ vs, lt x x = false
  tr : ∀ x ∈ vs, ∀ y ∈ vs, ∀ z ∈ vs, lt x y = true → lt y z = true → lt x z = true
  neg : ∀ x ∈ vs, ∀ y ∈ vs, ∀ z ∈ vs, lt x z = true → lt x y = true ∨ lt y z = true
  ask : ∀ (A : Around) (E : Value → Shared → Prop) (s : Shared) (Q : Bool → Shared → Prop), A.units ≤ u → KeepA h s.heap → ∀ x ∈ vs, ∀ y ∈ vs, Q (lt x y) s → wpAny (model prog w) A (keyLt' kd x y) Q E s
  kind : 2 ≤ vs.length → ∀ (A : Around) (E : Value → Shared → Prop) (s : Shared) (Q : SortKind → Shared → Prop), A.units ≤ u → KeepA h s.heap → Q kd s → wpAny (model prog w) A (keyKind' vs.toArray) Q E s
section
variable {prog : Program} {w : World} {A : Around} {E : Value → Shared → Prop} {s : Shared}
def ordB (b : Bool) (lt : Value → Value → Bool) (x y : Value) : Prop := if b then lt x y = false else lt y x = false
/-- the runs over a list of things, from behind where b is so -/
theorem runs_list {h : Heap} {u : Nat} {vs : List Value} {kd : SortKind} {lt : Value → Value → Bool} (a : Asks prog w h u vs kd lt) (hu : A.units ≤ u) (hk : KeepA h s.heap) (h2 : 2 ≤ vs.length) (b : Bool) :
    wpAny (model prog w) A (sortRuns'.run (SortSt.mk' kd (if b then (vs.toArray.zip vs.toArray).reverse else vs.toArray.zip vs.toArray) #[] 7 none)) (fun r s' => s' = s ∧ failedOf r.2 = none ∧ ∃ out : List Value, (if b then ((arrOf r.2).map (·.2)).reverse else (arrOf r.2).map (·.2)) = out.toArray ∧ out.Perm vs ∧ out.Pairwise (ordB b lt)) E s := by
  obtain ⟨us, eu, lu, pu⟩ : ∃ us : List Value, us = (if b then vs.reverse else vs) ∧ us.length = vs.length ∧ us.Perm vs := ⟨_, rfl, by cases b <;> simp, by cases b; exact .refl _; exact List.reverse_perm _⟩
  have mem : ∀ i : Fin us.length, us[i] ∈ vs := fun i => pu.mem_iff.mp (List.getElem_mem _)
  have e0 : (if b then (vs.toArray.zip vs.toArray).reverse else vs.toArray.zip vs.toArray) = (List.finRange us.length).toArray.map fun i : Fin us.length => ((us[i], us[i]) : Keyed) := by
    have e1 : (List.finRange us.length).toArray.map (fun i : Fin us.length => ((us[i], us[i]) : Keyed)) = (us.map fun x => ((x, x) : Keyed)).toArray := by
      apply Array.ext'
      rw [Array.toList_map]
      show (List.finRange us.length).map _ = us.map _
      apply List.ext_getElem
      · simp
      · intro i h1 h2; simp
    have e2 : ∀ l : List Value, l.zip l = l.map fun x => (x, x) := fun l => by
      induction l with
      | nil => rfl
      | cons x r ih => rw [List.zip_cons_cons, ih]; rfl
    rw [e1, eu]
    cases b with
    | false =>
      apply Array.ext'
      simp [e2]
    | true =>
      apply Array.ext'
      simp [e2]
  rw [e0]
  refine wpAny_mono (runs_two (B := fun i j => lt us[i] us[j]) ⟨fun i => a.irr _ (mem i), fun i j k => a.tr _ (mem i) _ (mem j) _ (mem k), fun i j k => a.neg _ (mem i) _ (mem j) _ (mem k)⟩ (by omega) (fun i j Q E' q => a.ask A E' s Q hu hk _ (mem i) _ (mem j) q)) ?_ fun _ _ e => e
  rintro ⟨x, st⟩ s' ⟨rfl, hfl, I, eI, pI, sI⟩
  have eI : arrOf st = (I.map fun i : Fin us.length => ((us[i], us[i]) : Keyed)).toArray := eI
  have em : (arrOf st).map (·.2) = (I.map fun i => us[i]).toArray := by
    rw [eI]; apply Array.ext'; simp
  have pm : (I.map fun i : Fin us.length => us[i]).Perm us := by
    refine (pI.map _).trans (.of_eq ?_)
    apply List.ext_getElem
    · simp
    · intro i h1 h2; simp
  have ps : (I.map fun i : Fin us.length => us[i]).Pairwise fun x y => lt y x = false := by
    rw [List.pairwise_map]; exact sI
  refine ⟨rfl, hfl, ?_⟩
  rw [em]
  cases b with
  | false => exact ⟨_, rfl, pm.trans pu, ps⟩
  | true =>
    refine ⟨(I.map fun i : Fin us.length => us[i]).reverse, by simp, (List.reverse_perm _).trans (pm.trans pu), ?_⟩
    rw [List.pairwise_reverse]
    exact ps
end
end SimS

set_option Elab.async false
set_option linter.all false
set_option maxRecDepth 100000
set_option maxHeartbeats 4000000
namespace SimS
open PySem PyProof.Rows
section
variable {prog : Program} {w : World} {A : Around} {E : Value → Shared → Prop} {s : Shared}
abbrev hp6 (h : Heap) (a : Addr) (vs : List Value) : Heap := ((h.update a (Obj.mapSeq fun _ => #[])).push (seqObj "tuple" vs.toArray 0)).push (seqObj "list" #[] 0)
theorem hp6_old {h : Heap} {a b : Addr} {vs : List Value} {o : Obj} (hn : b ≠ a) (e : h.get? b = some o) : (hp6 h a vs).get? b = some o :=
  Heap.get?_push_of_some _ (Heap.get?_push_of_some _ (by rw [Heap.get?_update_ne _ _ _ _ hn]; exact e))
theorem hp6_me {h : Heap} {a : Addr} {vs xs : List Value} {n : Nat} (ho : h.get? a = some (seqObj "list" xs.toArray n)) : ∃ e, (h.update a (Obj.mapSeq fun _ => #[])).get? a = some (seqObj "list" #[] e) ∧ (hp6 h a vs).get? a = some (seqObj "list" #[] e) :=
  ⟨_, get?_update_seq ho (fun _ => #[]), Heap.get?_push_of_some _ (Heap.get?_push_of_some _ (get?_update_seq ho (fun _ => #[])))⟩
theorem few_sorted {vs : List Value} (h : vs.length < 2) {lt : Value → Value → Bool} {b : Bool} : vs.Pairwise (ordB b lt) := by
  match vs, h with
  | [], _ => exact .nil
  | [_], _ => exact List.pairwise_singleton _ _
  | _ :: _ :: _, h => simp only [List.length_cons] at h; omega
theorem few_zip {vs : List Value} (h : vs.length < 2) (b : Bool) : (if b = true then ((if b = true then (vs.toArray.zip vs.toArray).reverse else vs.toArray.zip vs.toArray).map (·.2)).reverse else (if b = true then (vs.toArray.zip vs.toArray).reverse else vs.toArray.zip vs.toArray).map (·.2)) = vs.toArray := by
  have : vs.toArray.zip vs.toArray = (vs.map fun x => (x, x)).toArray := by
    apply Array.ext'
    rw [Array.toList_zip]
    induction vs with
    | nil => rfl
    | cons x r ih => simp only [List.zip_cons_cons, List.map_cons]; rw [ih (by simp only [List.length_cons] at h; omega)]
  rw [this]
  cases b <;> (apply Array.ext'; simp [Function.comp_def])
theorem size_le {vs out : List Value} (p : out.Perm vs) (h : vs.length ≤ sizeLine) : out.toArray.size ≤ sizeLine + 1 := by
  rw [List.size_toArray, p.length_eq]; omega
/-- the sort of a list at its place, from behind or not -/
theorem sort_rev {a : Addr} {vs : List Value} {n u : Nat} {b : Bool} {h : Heap} {kd : SortKind} {lt : Value → Value → Bool} {P : PySem.Fin → Shared → Prop} (ho : s.heap.get? a = some (seqObj "list" vs.toArray n))
    (as : Asks prog w h u vs kd lt) (hu : A.units ≤ u) (hk : ∀ c o, h.get? c = some o → c ≠ a ∧ s.heap.get? c = some o) (hL : vs.length ≤ sizeLine)
    (fin : ∀ out : List Value, out.Perm vs → out.Pairwise (ordB b lt) → P (.done (.ret .none)) { s with heap := sortedHeap s.heap a vs out.toArray }) :
    wpAny (model prog w) A (Builtin.«list.sort» ⟨[.ref a], [(Str.ofString "reverse", .bool b)]⟩) P E s := by
  rw [list_sort_rev]
  obtain ⟨e, m1, m6⟩ := hp6_me (vs := vs) ho
  have k6 : KeepA h (hp6 s.heap a vs) := fun c o hc => hp6_old (hk c o hc).1 (hk c o hc).2
  refine wpAny_bind (listItems_at ho rfl (wpAny_bind (listUpdate_at ho rfl (wpAny_bind (seqEpoch_at m1 rfl (wpAny_bind (wpAny_newTuple (wpAny_bind (wpAny_newList (wpAny_holding ?_))))))))))
  show wpAny (model prog w) A _ P E { s with heap := hp6 s.heap a vs }
  have st : ∀ t : Sem PySem.Fin, wpAny (model prog w) A t P E { s with heap := hp6 s.heap a vs } → wpAny (model prog w) A (if b = true then (do let _ ← rule "list.sort.reverse"; t) else t) P E { s with heap := hp6 s.heap a vs } := fun t ht => by
    by_cases hb : b = true
    · rw [if_pos hb]; exact wpAny_bind (wpAny_rule ht)
    · rw [if_neg hb]; exact ht
  refine st _ ?_
  by_cases h2 : vs.toArray.size < 2
  · rw [if_pos h2, if_pos h2]
    have h2' : vs.length < 2 := by simpa using h2
    refine wpAny_bind (wpAny_pure (wpAny_bind (wpAny_pure (wpAny_bind (seqEpoch_at m6 rfl (wpAny_bind (listUpdate_at m6 rfl ?_ (hsz2 := ?_))))))))
    · have fz := few_zip h2' b
      simp only [bne_self_eq_false, Bool.false_eq_true, if_false]
      refine wpAny_pure ?_
      have := fin vs (.refl _) (few_sorted h2')
      rw [← fz] at this
      exact this
    · show (if b = true then _ else _ : Array Value).size ≤ _
      rw [few_zip h2' b]
      exact size_le (.refl _) hL
  · rw [if_neg h2, if_neg h2]
    have h2' : 2 ≤ vs.length := by simp at h2; omega
    refine wpAny_bind (as.kind h2' _ _ _ _ hu k6 (wpAny_bind (wpAny_mono (runs_list (E := E) as hu k6 h2' b) ?_ fun _ _ e => e)))
    rintro ⟨⟨⟩, st'⟩ s' ⟨rfl, hf, out, eo, po, so⟩
    refine wpAny_bind (seqEpoch_at m6 rfl (wpAny_bind (listUpdate_at m6 rfl ?_ (hsz2 := ?_))))
    · have hf : failedOf st' = none := hf
      dsimp only
      rw [hf]
      simp only [bne_self_eq_false, Bool.false_eq_true, if_false]
      refine wpAny_pure ?_
      have := fin out po so
      rw [← eo] at this
      exact this
    · show (if b = true then _ else _ : Array Value).size ≤ _
      rw [eo]; exact size_le po hL
theorem sort_plain {a : Addr} {vs : List Value} {n u : Nat} {h : Heap} {kd : SortKind} {lt : Value → Value → Bool} {P : PySem.Fin → Shared → Prop} (ho : s.heap.get? a = some (seqObj "list" vs.toArray n))
    (as : Asks prog w h u vs kd lt) (hu : A.units ≤ u) (hk : ∀ c o, h.get? c = some o → c ≠ a ∧ s.heap.get? c = some o) (hL : vs.length ≤ sizeLine)
    (fin : ∀ out : List Value, out.Perm vs → out.Pairwise (ordB false lt) → P (.done (.ret .none)) { s with heap := sortedHeap s.heap a vs out.toArray }) :
    wpAny (model prog w) A (Builtin.«list.sort» ⟨[.ref a], []⟩) P E s := by
  rw [list_sort_plain]
  obtain ⟨e, m1, m6⟩ := hp6_me (vs := vs) ho
  have k6 : KeepA h (hp6 s.heap a vs) := fun c o hc => hp6_old (hk c o hc).1 (hk c o hc).2
  refine wpAny_bind (listItems_at ho rfl (wpAny_bind (listUpdate_at ho rfl (wpAny_bind (seqEpoch_at m1 rfl (wpAny_bind (wpAny_newTuple (wpAny_bind (wpAny_newList (wpAny_holding ?_))))))))))
  show wpAny (model prog w) A _ P E { s with heap := hp6 s.heap a vs }
  by_cases h2 : vs.toArray.size < 2
  · rw [if_pos h2, if_pos h2]
    have h2' : vs.length < 2 := by simpa using h2
    have fz : (vs.toArray.zip vs.toArray).map (·.2) = vs.toArray := few_zip h2' false
    refine wpAny_bind (wpAny_pure (wpAny_bind (wpAny_pure (wpAny_bind (seqEpoch_at m6 rfl (wpAny_bind (listUpdate_at m6 rfl ?_ (hsz2 := ?_))))))))
    · simp only [bne_self_eq_false, Bool.false_eq_true, if_false]
      refine wpAny_pure ?_
      have := fin vs (.refl _) (few_sorted h2')
      rw [← fz] at this
      exact this
    · refine Nat.le_trans (Nat.le_of_eq (congrArg Array.size fz)) (size_le (.refl _) hL)
  · rw [if_neg h2, if_neg h2]
    have h2' : 2 ≤ vs.length := by simp at h2; omega
    refine wpAny_bind (as.kind h2' _ _ _ _ hu k6 (wpAny_bind (wpAny_mono (runs_list (E := E) as hu k6 h2' false) ?_ fun _ _ e => e)))
    rintro ⟨⟨⟩, st'⟩ s' ⟨rfl, hf, out, eo, po, so⟩
    have eo : (arrOf st').map (·.2) = out.toArray := eo
    refine wpAny_bind (seqEpoch_at m6 rfl (wpAny_bind (listUpdate_at m6 rfl ?_ (hsz2 := ?_))))
    · have hf : failedOf st' = none := hf
      dsimp only
      rw [hf]
      simp only [bne_self_eq_false, Bool.false_eq_true, if_false]
      refine wpAny_pure ?_
      have := fin out po so
      rw [← eo] at this
      exact this
    · refine Nat.le_trans (Nat.le_of_eq (congrArg Array.size eo)) (size_le po hL)
end
end SimS

set_option Elab.async false
set_option linter.all false
namespace L2
theorem swapAt_perm {α : Type} : ∀ (xs : List α) (k : Nat), (swapAt xs k).Perm xs
  | [], 0 => .refl _
  | [], _ + 1 => .refl _
  | [_], 0 => .refl _
  | x :: y :: r, 0 => .swap x y r
  | a :: r, k + 1 => by rw [swapAt_succ]; exact (swapAt_perm r k).cons a
def lessN (x : Int) (r : List Int) : Nat := (r.filter fun y => decide (y < x)).length
def inv : List Int → Nat
  | [] => 0
  | x :: r => lessN x r + inv r
theorem lessN_perm (a : Int) {r s : List Int} (h : r.Perm s) : lessN a r = lessN a s := (h.filter _).length_eq
theorem lessN_cons (a x : Int) (r : List Int) : lessN a (x :: r) = (if x < a then 1 else 0) + lessN a r := by
  unfold lessN
  rw [List.filter_cons]
  by_cases h : x < a
  · rw [if_pos (by simpa using h), if_pos h, List.length_cons]; omega
  · rw [if_neg (by simpa using h), if_neg h]; omega
theorem inv_up : ∀ (xs : List Int) (k : Nat) (x y : Int), xs[k]? = some x → xs[k + 1]? = some y → x < y → inv (swapAt xs k) = inv xs + 1
  | [], _, _, _, h, _, _ => by simp at h
  | [_], 0, _, _, _, h, _ => by simp at h
  | a :: b :: r, 0, x, y, h1, h2, h => by
    simp at h1 h2
    subst h1 h2
    show lessN b (a :: r) + (lessN a r + inv r) = lessN a (b :: r) + (lessN b r + inv r) + 1
    rw [lessN_cons, lessN_cons, if_pos h, if_neg (by omega)]; omega
  | a :: r, k + 1, x, y, h1, h2, h => by
    rw [swapAt_succ]
    show lessN a (swapAt r k) + inv (swapAt r k) = lessN a r + inv r + 1
    rw [lessN_perm a (swapAt_perm r k), inv_up r k x y (by simpa using h1) (by simpa using h2) h]; omega
theorem inv_down : ∀ (xs : List Int) (k : Nat) (x y : Int), xs[k]? = some x → xs[k + 1]? = some y → y < x → inv (swapAt xs k) + 1 = inv xs
  | [], _, _, _, h, _, _ => by simp at h
  | [_], 0, _, _, _, h, _ => by simp at h
  | a :: b :: r, 0, x, y, h1, h2, h => by
    simp at h1 h2
    subst h1 h2
    show lessN b (a :: r) + (lessN a r + inv r) + 1 = lessN a (b :: r) + (lessN b r + inv r)
    rw [lessN_cons, lessN_cons, if_neg (by omega), if_pos h]; omega
  | a :: r, k + 1, x, y, h1, h2, h => by
    rw [swapAt_succ]
    show lessN a (swapAt r k) + inv (swapAt r k) + 1 = lessN a r + inv r
    rw [lessN_perm a (swapAt_perm r k), ← inv_down r k x y (by simpa using h1) (by simpa using h2) h]; omega
theorem lessN_le (a : Int) (r : List Int) : lessN a r ≤ r.length := List.length_filter_le _ _
theorem fold_nodup {xs : List Int} (nd : xs.Nodup) : ∀ ks : List Nat, (ks.foldl swapAt xs).Nodup := by
  intro ks
  induction ks generalizing xs with
  | nil => exact nd
  | cons k ks ih => rw [List.foldl_cons]; exact ih ((swapAt_perm xs k).nodup_iff.mpr nd)
/-- a stands ahead of b -/
def Bef (xs : List Int) (a b : Int) : Prop := ∃ p q : Nat, p < q ∧ xs[p]? = some a ∧ xs[q]? = some b
theorem bef_cons {x a b : Int} {r : List Int} : Bef (x :: r) a b ↔ (x = a ∧ b ∈ r) ∨ Bef r a b := by
  constructor
  · rintro ⟨p, q, hpq, h1, h2⟩
    cases p with
    | zero =>
      cases q with
      | zero => omega
      | succ q => exact .inl ⟨by simpa using h1, List.mem_of_getElem? (by simpa using h2)⟩
    | succ p =>
      cases q with
      | zero => omega
      | succ q => exact .inr ⟨p, q, by omega, by simpa using h1, by simpa using h2⟩
  · rintro (⟨rfl, hb⟩ | ⟨p, q, hpq, h1, h2⟩)
    · obtain ⟨q, hq, e⟩ := List.getElem_of_mem hb
      exact ⟨0, q + 1, by omega, rfl, by simp [hq, e]⟩
    · exact ⟨p + 1, q + 1, by omega, by simpa using h1, by simpa using h2⟩
theorem bef_swap : ∀ (xs : List Int) (k : Nat) (x y a b : Int), xs[k]? = some x → xs[k + 1]? = some y → Bef (swapAt xs k) a b → Bef xs a b ∨ (a = y ∧ b = x)
  | [], _, _, _, _, _, h, _, _ => by simp at h
  | [_], 0, _, _, _, _, _, h, _ => by simp at h
  | c :: d :: r, 0, x, y, a, b, h1, h2, h => by
    simp at h1 h2
    subst h1 h2
    have h : Bef (d :: c :: r) a b := h
    rcases bef_cons.mp h with ⟨rfl, hb⟩ | h
    · rcases List.mem_cons.mp hb with rfl | hb
      · exact .inr ⟨rfl, rfl⟩
      · exact .inl (bef_cons.mpr (.inr (bef_cons.mpr (.inl ⟨rfl, hb⟩))))
    · rcases bef_cons.mp h with ⟨rfl, hb⟩ | h
      · exact .inl (bef_cons.mpr (.inl ⟨rfl, List.mem_cons_of_mem _ hb⟩))
      · exact .inl (bef_cons.mpr (.inr (bef_cons.mpr (.inr h))))
  | c :: r, k + 1, x, y, a, b, h1, h2, h => by
    rw [swapAt_succ] at h
    have h1 : r[k]? = some x := by simpa using h1
    have h2 : r[k + 1]? = some y := by simpa using h2
    rcases bef_cons.mp h with ⟨rfl, hb⟩ | h
    · exact .inl (bef_cons.mpr (.inl ⟨rfl, (swapAt_perm r k).mem_iff.mp hb⟩))
    · rcases bef_swap r k x y a b h1 h2 h with h | h
      · exact .inl (bef_cons.mpr (.inr h))
      · exact .inr h
theorem plain_nodup (m : Nat) : ((List.range m).map fun (i : Nat) => (i : Int)).Nodup := by
  unfold List.Nodup
  rw [List.pairwise_map]
  exact List.Pairwise.imp (fun h e => h (Int.ofNat_inj.mp e)) (List.nodup_range (n := m))
theorem plain_get {m i : Nat} {z : Int} (h : ((List.range m).map fun (i : Nat) => (i : Int))[i]? = some z) : z = (i : Int) := by
  rw [List.getElem?_map] at h
  cases e : (List.range m)[i]? with
  | none => rw [e] at h; cases h
  | some j =>
    rw [e] at h
    obtain ⟨h1, h2⟩ := List.getElem?_eq_some_iff.mp e
    rw [List.getElem_range] at h2
    subst h2
    exact (Option.some.inj h).symm
theorem plain_bef {m : Nat} {a b : Int} (h : Bef ((List.range m).map fun (i : Nat) => (i : Int)) a b) : a < b := by
  obtain ⟨p, q, hpq, h1, h2⟩ := h
  rw [plain_get h1, plain_get h2]
  omega
theorem plain_inv (m : Nat) : inv ((List.range m).map fun (i : Nat) => (i : Int)) = 0 := by
  have key : ∀ xs : List Int, (∀ a b, Bef xs a b → a < b) → inv xs = 0 := by
    intro xs
    induction xs with
    | nil => intro _; rfl
    | cons x r ih =>
      intro h
      show lessN x r + inv r = 0
      rw [ih fun a b hb => h a b (bef_cons.mpr (.inr hb))]
      have : r.filter (fun y => decide (y < x)) = [] := by
        rw [List.filter_eq_nil_iff]
        intro y hy
        have := h x y (bef_cons.mpr (.inl ⟨rfl, hy⟩))
        simp; omega
      unfold lessN
      rw [this]; rfl
  exact key _ fun a b h => plain_bef h
theorem inv_le1 (xs : List Int) (nd : xs.Nodup) (k : Nat) : inv (swapAt xs k) ≤ inv xs + 1 := by
  cases e1 : xs[k]? with
  | none =>
    have : swapAt xs k = xs := by
      have hk : xs.length ≤ k := List.getElem?_eq_none_iff.mp e1
      have key : ∀ (xs : List Int) (k : Nat), xs.length ≤ k + 1 → swapAt xs k = xs := by
        intro xs
        induction xs with
        | nil => intro k _; cases k <;> rfl
        | cons a r ih =>
          intro k hk
          cases k with
          | zero => cases r with | nil => rfl | cons _ _ => simp at hk
          | succ k => rw [swapAt_succ, ih k (by simpa using hk)]
      exact key xs k (by omega)
    rw [this]; omega
  | some x =>
    cases e2 : xs[k + 1]? with
    | none =>
      have : swapAt xs k = xs := by
        have hk : xs.length ≤ k + 1 := List.getElem?_eq_none_iff.mp e2
        have key : ∀ (xs : List Int) (k : Nat), xs.length ≤ k + 1 → swapAt xs k = xs := by
          intro xs
          induction xs with
          | nil => intro k _; cases k <;> rfl
          | cons a r ih =>
            intro k hk
            cases k with
            | zero => cases r with | nil => rfl | cons _ _ => simp at hk
            | succ k => rw [swapAt_succ, ih k (by simpa using hk)]
        exact key xs k hk
      rw [this]; omega
    | some y =>
      rcases Int.lt_trichotomy x y with h | h | h
      · rw [inv_up xs k x y e1 e2 h]; omega
      · subst h
        exact absurd ((List.getElem?_inj (List.getElem?_eq_some_iff.mp e1).1 nd).mp (e1.trans e2.symm) : k = k + 1) (by omega)
      · have := inv_down xs k x y e1 e2 h; omega
theorem inv_fold_le : ∀ (ks : List Nat) (xs : List Int), xs.Nodup → inv (ks.foldl swapAt xs) ≤ inv xs + ks.length
  | [], _, _ => by simp
  | k :: ks, xs, nd => by
    rw [List.foldl_cons, List.length_cons]
    have h1 := inv_fold_le ks (swapAt xs k) ((swapAt_perm xs k).nodup_iff.mpr nd)
    have h2 := inv_le1 xs nd k
    omega
end L2

set_option Elab.async false
set_option linter.all false
set_option maxRecDepth 100000
set_option maxHeartbeats 4000000
namespace L2
open PySem PySem.Spec PyProof.Rows
section
variable {X : Cx}
/-! ### tuples that are tracked: joined, cut -/
def rCatK : R2 := fun x y H Q => ∃ a b xs ys, x = .ref a ∧ y = .ref b ∧ H a = some (.tup xs) ∧ H b = some (.tup ys) ∧ xs.length + ys.length ≤ sizeLine ∧ ∀ p H', Same H H' → H' p = some (.tup (xs ++ ys)) → Q (.ref p) H'
theorem op_catK : OpR X (binaryOp .Add) rCatK := by
  intro pins s σ H x y v u Q I rx ry h
  obtain ⟨a, b, xs, ys, rfl, rfl, ha, hb, hz, q⟩ := h
  by_cases hx : xs = []
  · subst hx
    cases rx
    cases ry
    obtain ⟨its, r1, p1, _⟩ := I.tuple (SqT.of ha)
    obtain ⟨its2, r2, p2, _⟩ := I.tuple (SqT.of hb)
    obtain ⟨⟨cl1, d1, da1, s1⟩, o1, c1, n1, e1⟩ := id p1
    obtain ⟨⟨cl2, d2, da2, s2⟩, o2, c2, n2, e2⟩ := id p2
    simp only at c1 e1 c2 e2
    subst c1 e1 c2 e2
    have hn : its = [] := r1.nil_iff.mpr rfl
    subst hn
    exact concat_meets ⟨_, o1, rfl⟩ ⟨_, o2, rfl⟩ noFill_tuple_add seq_tuple_add PySem.F.slot_tuple_add PySem.F.entry_tuple_add (PySem.F.args_tuple_add_2 _ _)
      (tuple_addW0 a b _ its2.toArray n1 n2 d1 d2 s1 s2 rfl) ⟨o1, o2, ⟨.ref b, H, I, rfl, q b H (.refl H) hb⟩⟩
  · refine op_catT pins s σ H _ _ v u Q I rx ry ⟨a, b, xs, ys, rfl, rfl, SqT.of ha, SqT.of hb, hx, hz, fun hy => ?_, fun hy p hp => q p _ (same_new hp) upd_same⟩
    subst hy
    exact q a H (.refl H) (by rw [List.append_nil]; exact ha)
def rSlK : V → Option Int → Option Int → Hp → VK → Prop := fun x lo hi H Q => ∃ a xs, x = .ref a ∧ H a = some (.tup xs) ∧ ∀ p H', Same H H' → H' p = some (.tup (cutV xs lo hi)) → Q (.ref p) H'
theorem sl_tupK : SlR X rSlK := by
  intro pins s σ H x v vl vu lo hi sl Q I rx hs pl pu h
  obtain ⟨a, xs, rfl, hx, q⟩ := h
  by_cases hw : HT.sIx xs.length 0 lo = 0 ∧ HT.sIx xs.length xs.length hi = xs.length
  · cases rx
    obtain ⟨its, r, ht, hz⟩ := I.tuple (SqT.of hx)
    have hlen : its.toArray.size = xs.length := by rw [List.size_toArray]; exact r.length.symm
    refine ⟨"tuple", _, PyProof.Rows.slot_tuple_getitem.lookup, ht.typeIs, ?_⟩
    exact get_tup_all ht hs pl pu (by rw [hlen]; exact hw) ⟨.ref a, H, I, rfl, q a H (.refl H) (by rw [cutV_all hw.1 hw.2]; exact hx)⟩
  · exact sl_tup pins s σ H _ v vl vu lo hi sl Q I rx hs pl pu ⟨a, xs, rfl, SqT.of hx, hw, fun p hp => q p _ (same_new hp) upd_same⟩
end
/-- a loop over enumerate of a list that stands still -/
theorem for_enum {K : PySem.W.Frag} {a : Addr} {xs : List V} {g : TG} {tb : TS} {D : Ends} {σ : St} {H : Hp} (Pv : Nat → St → Hp → Prop) (h0 : Pv 0 σ H) (hl : ∀ i σ H, i ≤ xs.length → Pv i σ H → SqL K H a xs)
    (hs : ∀ i x σ H T, xs[i]? = some x → Pv i σ H → H T = none → g (.ref T) σ (upd H T (.tup [.int (i : Nat), x])) fun σ2 H2 => tb { D with nx := Pv (i + 1), ct := Pv (i + 1), bk := D.nx } σ2 H2) (hd : ∀ σ H, Pv xs.length σ H → D.nx σ H) :
    ∃ W : Nat → Nat → St → Hp → Prop, (∃ m, W 0 m σ H) ∧ ∀ i m σ H, W i m σ H →
      ((Ite K a).stop i H ∧ D.nx σ H) ∨ ((Ite K a).go i H ∧ ∃ N : St → Hp → Prop, (∀ σ' H', N σ' H' → ∃ m', m' < m ∧ W (i + 1) m' σ' H') ∧ ∀ x H', (Ite K a).yld i H x H' → g x σ H' fun σ2 H2 => tb { D with nx := N, ct := N, bk := D.nx } σ2 H2) := by
  refine ⟨fun i m σ H => m = xs.length - i ∧ i ≤ xs.length ∧ Pv i σ H, ⟨xs.length, by simp, Nat.zero_le _, h0⟩, ?_⟩
  rintro i m σ H ⟨rfl, hi, p⟩
  have q := hl i σ H hi p
  by_cases hlt : i < xs.length
  · refine .inr ⟨⟨xs, xs[i], q, by simp [hlt]⟩, Pv (i + 1), fun σ' H' p' => ⟨xs.length - (i + 1), by omega, rfl, hlt, p'⟩, fun x H' y => ?_⟩
    obtain ⟨T, z, rfl, hT, rfl, hz⟩ := y
    exact hs i z σ H T (hz xs q) p hT
  · have e : i = xs.length := by omega
    subst e
    exact .inl ⟨⟨xs, q, Nat.le_refl _⟩, hd σ H p⟩
def sp_swapK : Sp := fun vs H Q _ => ∃ a xs, ∃ k : Nat, vs = [.ref a, .int k] ∧ H a = some (.tup xs) ∧ k + 1 < xs.length ∧ xs.length ≤ 1000 ∧ ∀ p H', Same H H' → H' p = some (.tup (swapAt xs k)) → Q (.ref p) H'
end L2

set_option Elab.async false
set_option linter.all false
set_option maxRecDepth 100000
set_option maxHeartbeats 4000000
namespace L2
open PySem PySem.Spec PyProof.Rows
theorem erase_perm {α : Type} : ∀ (ls : List α) (k : Nat) (y : α), ls[k]? = some y → (y :: ls.eraseIdx k).Perm ls
  | [], _, _, h => by simp at h
  | a :: r, 0, y, h => by
    have h : a = y := by simpa using h
    subst h; exact .refl _
  | a :: r, k + 1, y, h => by
    have h : r[k]? = some y := by simpa using h
    show (y :: a :: r.eraseIdx k).Perm (a :: r)
    exact (List.Perm.swap a y _).trans ((erase_perm r k y h).cons a)
theorem map_erase {α β : Type} (f : α → β) : ∀ (ls : List α) (k : Nat), (ls.map f).eraseIdx k = (ls.eraseIdx k).map f
  | [], _ => rfl
  | a :: r, 0 => rfl
  | a :: r, k + 1 => by
    show f a :: (r.map f).eraseIdx k = f a :: (r.eraseIdx k).map f
    rw [map_erase f r k]
theorem erase_len {α : Type} {ls : List α} {k : Nat} (h : k < ls.length) : (ls.eraseIdx k).length + 1 = ls.length := by
  rw [List.length_eraseIdx, if_pos h]; omega
theorem seqIx {d : Int} {n : Nat} (h0 : 0 ≤ d) (h1 : d < n) : seqIndex? d n = some d.toNat := by
  have hn : ¬ d < 0 := by omega
  have hd : (decide (0 ≤ d) && decide (d < (n : Int))) = true := by simp [h0, h1]
  simp only [seqIndex?, hn, if_false, hd, if_true]
/-- a list of tuples of two ints -/
inductive PrA (H : Hp) : List V → List (Int × Int) → Prop
  | nil : PrA H [] []
  | cons {q : Addr} {x y : Int} {rs : List V} {ps : List (Int × Int)} : H q = some (.tup [.int x, .int y]) → PrA H rs ps → PrA H (.ref q :: rs) ((x, y) :: ps)
theorem PrA.same {H H' : Hp} (s : Same H H') : ∀ {rs : List V} {ps : List (Int × Int)}, PrA H rs ps → PrA H' rs ps
  | _, _, .nil => .nil
  | _, _, .cons h t => .cons (s _ _ h) (t.same s)
theorem PrA.snoc {H : Hp} {q : Addr} {x y : Int} (hq : H q = some (.tup [.int x, .int y])) : ∀ {rs : List V} {ps : List (Int × Int)}, PrA H rs ps → PrA H (rs ++ [.ref q]) (ps ++ [(x, y)])
  | _, _, .nil => .cons hq .nil
  | _, _, .cons h t => .cons h (t.snoc hq)
theorem PrA.app {H : Hp} {rs' : List V} {ps' : List (Int × Int)} : ∀ {rs : List V} {ps : List (Int × Int)}, PrA H rs ps → PrA H rs' ps' → PrA H (rs ++ rs') (ps ++ ps')
  | _, _, .nil, h' => h'
  | _, _, .cons h t, h' => .cons h (t.app h')
theorem PrA.length {H : Hp} : ∀ {rs : List V} {ps : List (Int × Int)}, PrA H rs ps → rs.length = ps.length
  | _, _, .nil => rfl
  | _, _, .cons _ t => by rw [List.length_cons, List.length_cons, t.length]
def pdata (ps : List (Int × Int)) : List PyData := ps.map fun p => PyData.tuple [.int p.1, .int p.2]
theorem PrA.dp {K : PySem.W.Frag} {H : Hp} : ∀ {rs : List V} {ps : List (Int × Int)}, PrA H rs ps → DpAll K H rs (pdata ps)
  | _, _, .nil => .nil
  | _, _, .cons h t => .cons (.tup (SqT.of h) (.cons (.int _) (.cons (.int _) .nil))) t.dp
theorem lay_pdata : ∀ ps : List (Int × Int), PyData.canLayAll0 (pdata ps) = true
  | [] => rfl
  | p :: r => by
    have := lay_pdata r
    unfold pdata at this ⊢
    simp only [List.map_cons, PyData.canLayAll0, PyData.canLay0, this, Bool.and_self]
theorem dep_pdata : ∀ ps : List (Int × Int), PyData.depthAll (pdata ps) ≤ 1
  | [] => by simp [pdata, PyData.depthAll]
  | p :: r => by
    have := dep_pdata r
    unfold pdata at this ⊢
    simp only [List.map_cons, PyData.depthAll, PyData.depth]
    omega
theorem shaped_p (ps : List (Int × Int)) : SeqAt.shaped (.list (pdata ps)) = true := by
  unfold SeqAt.shaped
  have := dep_pdata ps
  simp only [PyData.canLay0, PyData.depth, lay_pdata, Bool.true_and, decide_eq_true_eq]
  exact decide_eq_true (by omega)
theorem eqv_nil (ds : List PyData) : PyData.eqv (.list ds) (.list []) = ds.isEmpty := by
  cases ds <;> simp [PyData.eqv, PyData.eqvAll]
/-- where things are out of order there is a fall -/
theorem has_fall : ∀ xs : List Int, 0 < inv xs → ∃ k x y, xs[k]? = some x ∧ xs[k + 1]? = some y ∧ y < x
  | [], h => by simp [inv] at h
  | [x], h => by simp [inv, lessN] at h
  | x :: y :: r, h => by
    by_cases hxy : y < x
    · exact ⟨0, x, y, rfl, rfl, hxy⟩
    · by_cases h2 : 0 < inv (y :: r)
      · obtain ⟨k, a, b, e1, e2, e3⟩ := has_fall (y :: r) h2
        exact ⟨k + 1, a, b, by simpa using e1, by simpa using e2, e3⟩
      · have h : 0 < lessN x (y :: r) + inv (y :: r) := h
        have h3 : inv (y :: r) = 0 := by omega
        have h4 : lessN y r + inv r = 0 := h3
        rw [lessN_cons, if_neg hxy] at h
        have h5 : lessN x r ≤ lessN y r := by
          unfold lessN
          have key : ∀ r : List Int, (r.filter fun z => decide (z < x)).length ≤ (r.filter fun z => decide (z < y)).length := by
            intro r
            induction r with
            | nil => exact Nat.le_refl _
            | cons z r ih =>
              rw [List.filter_cons, List.filter_cons]
              by_cases hz : z < x
              · rw [if_pos (by simpa using hz), if_pos (by simp; omega), List.length_cons, List.length_cons]; omega
              · rw [if_neg (by simpa using hz)]
                split
                · rw [List.length_cons]; omega
                · exact ih
          exact key r
        omega
theorem inv_drop {xs : List Int} {i : Nat} {x : Int} (h : xs[i]? = some x) : inv (xs.drop i) = lessN x (xs.drop (i + 1)) + inv (xs.drop (i + 1)) := by
  obtain ⟨hi, e⟩ := List.getElem?_eq_some_iff.mp h
  rw [List.drop_eq_getElem_cons hi, e]; rfl
theorem lessN_snoc (x z : Int) (r : List Int) : lessN x (r ++ [z]) = lessN x r + (if z < x then 1 else 0) := by
  unfold lessN
  rw [List.filter_append, List.length_append]
  congr 1
  by_cases h : z < x
  · rw [if_pos h]; simp [h]
  · rw [if_neg h]; simp [h]
end L2

set_option Elab.async false
set_option linter.all false
set_option maxRecDepth 100000
set_option maxHeartbeats 4000000
namespace HT
open PySem PySem.Spec PyProof.Rows
section
variable {prog : Program} {w : World} {A : Around} {E : Value → Shared → Prop} {s : Shared}
end
end HT

namespace L2
open PySem PySem.Spec PyProof.Rows
section
variable {X : Cx} {e st : Expr} {te ts : TE} {pos p2 : Pos}
end
end L2

set_option Elab.async false
set_option linter.all false
set_option maxRecDepth 100000
set_option maxHeartbeats 4000000
namespace PySem
open Sem (wp)
open AutoSeq1 (wpAny_loadPart')
section
variable {prog : Program} {w : World} {A : Around} {E : Value → Shared → Prop} {s : Shared}
theorem nextOf_tuple_item {it t : Addr} {i : Nat} {items} {x : Value} {Q : Value → Shared → Prop} (hit : s.heap.IsTupleIter it t i)
    (ht : s.heap.IsTuple t items) (hx : items[i]? = some x)
    (hQ : ∀ h', h'.IsTupleIter it t (i + 1) → Heap.SameBut it s.heap h' → Q x { s with heap := h' }) :
    wpAny (model prog w) A (Builtin.SmallTypes.nextOf (.ref it)) Q E s := by
  obtain ⟨o, ho, hc, hd⟩ := id hit
  obtain ⟨ol, hol, _, nl, hdl⟩ := ht
  unfold Builtin.SmallTypes.nextOf
  refine wpAny_bind (wpAny_callSpecial?_slot (name := Str.ofString "__next__") hit.typeIs F.slot_tuple_iterator_next
    (wpAny_call_entry F.slot_tuple_iterator_next hit.typeIs F.entry_tuple_iterator_next ?_ (F.args_tuple_iterator_next_1 _)))
  show wpAny _ _ (field (.ref it) 0 >>= _) _ _ s
  refine wpAny_bind (wpAny_field ho hd (x := .ref t) rfl ?_)
  show wpAny _ _ (if (Value.ref t == Value.none) = true then _ else _) _ _ s
  rw [if_neg (show ¬ ((Value.ref t == Value.none) = true) from Bool.false_ne_true)]
  show wpAny _ _ (field (.ref it) 1 >>= _) _ _ s
  refine wpAny_bind (wpAny_field ho hd (x := .int i 0) rfl ?_)
  show wpAny _ _ (seqItems? (.ref t) >>= _) _ _ s
  refine wpAny_bind (wpAny_seqItems hol hdl ?_)
  simp only [Int.toNat_natCast, hx]
  refine wpAny_bind (wpAny_setField ho hd (by simp) (wpAny_pure ⟨x, rfl, wpAny_pure (hQ _ ?_ (Heap.SameBut.update ..))⟩))
  exact ⟨_, Heap.get?_update_self _ ho (Obj.isFreed_of_fields (Obj.data_mapFields hd _)), (Obj.cls_mapFields ..).trans hc, by
    rw [Obj.data_mapFields hd]; simp [rawInt]⟩
theorem nextOf_tuple_end {it t : Addr} {i : Nat} {items} {Q : Value → Shared → Prop} (hh : A.handled = none)
    (hit : s.heap.IsTupleIter it t i) (ht : s.heap.IsTuple t items) (hx : items[i]? = none)
    (hE : ∀ h' e, Heap.ExtBut it s.heap h' → (∃ o, h'.get? e = some o ∧ o.cls = .type "StopIteration") → E (.ref e) { s with heap := h' }) :
    wpAny (model prog w) A (Builtin.SmallTypes.nextOf (.ref it)) Q E s := by
  obtain ⟨o, ho, hc, hd⟩ := id hit
  obtain ⟨ol, hol, _, nl, hdl⟩ := ht
  unfold Builtin.SmallTypes.nextOf
  refine wpAny_bind (wpAny_callSpecial?_slot (name := Str.ofString "__next__") hit.typeIs F.slot_tuple_iterator_next
    (wpAny_call_entry F.slot_tuple_iterator_next hit.typeIs F.entry_tuple_iterator_next ?_ (F.args_tuple_iterator_next_1 _)))
  show wpAny _ _ (field (.ref it) 0 >>= _) _ _ s
  refine wpAny_bind (wpAny_field ho hd (x := .ref t) rfl ?_)
  show wpAny _ _ (if (Value.ref t == Value.none) = true then _ else _) _ _ s
  rw [if_neg (show ¬ ((Value.ref t == Value.none) = true) from Bool.false_ne_true)]
  show wpAny _ _ (field (.ref it) 1 >>= _) _ _ s
  refine wpAny_bind (wpAny_field ho hd (x := .int i 0) rfl ?_)
  show wpAny _ _ (seqItems? (.ref t) >>= _) _ _ s
  refine wpAny_bind (wpAny_seqItems hol hdl ?_)
  simp only [Int.toNat_natCast, hx]
  refine wpAny_bind (wpAny_rule (wpAny_bind (wpAny_setField ho hd (by simp) ?_)))
  show wpAny _ _ (newExc (.type "StopIteration") [] >>= _) _ _ _
  refine wpAny_bind ?_
  simp only [newExc, newTuple]
  refine wpAny_bind (wpAny_newObj_type ?_ (by size_fits))
  refine wpAny_bind (m := firstArgMember _ _) (wpAny_of_eq (a := Value.none) (by first | rfl | (simp only [firstArgMember]; rfl)) ?_)
  refine wpAny_newObj_type ?_ (by size_fits)
  simp only [raiseNew]
  refine wpAny_bind (wpAny_handled ?_)
  first | rw [show A.in1.handled = none from hh] | rw [hh]
  refine wpAny_bind (wpAny_pure (wpAny_throw ?_))
  exact hE _ _ (((Heap.SameBut.update ..).extBut.push _).push _) ⟨_, Heap.get?_push_size _ rfl, rfl⟩
end
theorem Draws.tuple {prog : Program} {w : World} {A : Around} (hh : A.handled = none) (it l : Addr) (hne : l ≠ it) (items : Array Value) :
    Draws prog w A it [it, l] items.size (fun i v => items[i]? = some v) (fun i h => h.IsTupleIter it l i ∧ h.IsTuple l items) where
  live := fun _ _ st => let ⟨o, ho, _⟩ := st.1; ⟨o, ho⟩
  frame := fun _ _ _ st hk => ⟨st.1.at fun o e => hk it (by simp) o e, st.2.at fun o e => hk l (by simp) o e⟩
  item := fun i s Q E hi st hQ => by
    refine nextOf_tuple_item st.1 st.2 (x := items[i]) (by simp [hi]) fun h' hit' hs' => ?_
    exact hQ _ h' s.toks (by simp [hi]) ⟨hit', st.2.extBut hs'.extBut hne⟩ hs'
  done := fun s Q E st hE => nextOf_tuple_end hh st.1 st.2 (by simp) hE
section
variable {prog : Program} {w : World} {A : Around} {E : Value → Shared → Prop} {s : Shared}
end
end PySem
namespace L2
open PySem PySem.Spec PyProof.Rows
structure GS2 (X : Cx) (s : Shared) (C : Addr) (xa xb : Str) (va vb : Value) (Hf : Hp) (u : Shared) : Prop where
  ns : ∃ m, u.heap.Ns C m ∧ m xa = some va ∧ m xb = some vb
  bs : ∀ b o, X.base.get? b = some o → u.heap.get? b = some o
  bc : X.base.objs.size ≤ C
  cel : ∀ y c, X.env.cells.lookup y = some c → ∀ v, s.heap.IsCell c v → u.heap.IsCell c v
  hok : HOk X.prog X.w Hf u.heap
theorem GS2.keeps {X : Cx} {s : Shared} {C : Addr} {xa xb : Str} {va vb : Value} {Hf : Hp} {u u' : Shared} (g : GS2 X s C xa xb va vb Hf u) (k : Keeps u u') : GS2 X s C xa xb va vb Hf u' := by
  obtain ⟨h', t', rfl, k⟩ := k
  exact ⟨let ⟨m, hn, e⟩ := g.ns; ⟨m, hn.keeps k, e⟩, fun b o e => k b o (g.bs b o e), g.bc, fun y c e v z => let ⟨o, ho, hd⟩ := g.cel y c e v z; ⟨o, k _ _ ho, hd⟩, g.hok.kept k⟩
section
variable {X : Cx} {scope : Scope} {xa xb : Str} {pos : Pos}
end

/-! ### an element that calls a quiet def -/
section
variable {X : Cx} {scope : Scope} {xa xb fn : Str} {pos pf : Pos} {k : Nat} {f : Addr} {fd : FuncData} {ps : List Str} {sp : Sp} {e : Expr} {es : List Expr} {ga : St → V → V → Option (List V)}
end
section
variable {X : Cx} {scope : Scope} {xa xb fn xall : Str} {pos pf pc pa pb pt pe p gpos pen : Pos} {kt : Nat} {k : Nat} {f c Pt : Addr} {fd : FuncData} {ps : List Str} {sp : Sp} {e e1 : Expr} {es : List Expr} {ga : St → V → V → Option (List V)} {ta : TA}
end
end L2

set_option Elab.async false
set_option linter.all false
set_option maxRecDepth 100000
set_option maxHeartbeats 4000000
namespace L2
open PySem PySem.Spec PyProof.Rows
/-! ### what is new, data in the heap -/
def new (H0 H : Hp) : Hp := fun a => match H0 a with | none => H a | some _ => none
theorem new_at {H0 H : Hp} {a : Addr} (h : H0 a = none) : new H0 H a = H a := by unfold new; rw [h]
theorem new_hid {H0 H : Hp} {a : Addr} (h : H0 a ≠ none) : new H0 H a = none := by
  unfold new
  cases e : H0 a with
  | none => exact absurd e h
  | some _ => rfl
theorem new_same (H0 H : Hp) : Same (new H0 H) H := fun b o e => by
  unfold new at e
  cases h : H0 b with
  | none => rw [h] at e; exact e
  | some _ => rw [h] at e; cases e
theorem new_mono {H0 H H' : Hp} (s : Same H H') : Same (new H0 H) (new H0 H') := fun b o e => by
  unfold new at e ⊢
  cases h : H0 b with
  | none => rw [h] at e; exact s b o e
  | some _ => rw [h] at e; cases e
theorem new_upd {H0 H : Hp} {D : Addr} {o : HO} (h : H0 D ≠ none) : new H0 (upd H D o) = new H0 H := by
  funext a
  by_cases e : a = D
  · subst e; rw [new_hid h, new_hid h]
  · unfold new
    cases H0 a with
    | none => exact upd_ne e
    | some _ => rfl
theorem Same.seqL {K : PySem.W.Frag} {H H' : Hp} {a : Addr} {xs : List V} (e : Same H H') (h : SqL K H a xs) : SqL K H' a xs := by
  rcases h with (h | ⟨o, h⟩) | h
  · exact .inl (.inl (e _ _ h))
  · exact .inl (.inr ⟨o, e _ _ h⟩)
  · exact .inr h
mutual
theorem Dp.same {K : PySem.W.Frag} {H H' : Hp} (s : Same H H') : ∀ {v : V} {d : PyData}, Dp K H v d → Dp K H' v d
  | _, _, .non => .non
  | _, _, .bl b => .bl b
  | _, _, .int i => .int i
  | _, _, .str x => .str x
  | _, _, .lst h t => .lst (s.seqL h) (t.same s)
  | _, _, .tup h t => .tup (s.seqT h) (t.same s)
theorem DpAll.same {K : PySem.W.Frag} {H H' : Hp} (s : Same H H') : ∀ {vs : List V} {ds : List PyData}, DpAll K H vs ds → DpAll K H' vs ds
  | _, _, .nil => .nil
  | _, _, .cons h t => .cons (h.same s) (t.same s)
end
theorem DpAll.snoc {K : PySem.W.Frag} {H : Hp} {y : V} {d : PyData} (h : Dp K H y d) : ∀ {vs : List V} {ds : List PyData}, DpAll K H vs ds → DpAll K H (vs ++ [y]) (ds ++ [d])
  | _, _, .nil => .cons h .nil
  | _, _, .cons h1 t => .cons h1 (t.snoc h)
theorem DpAll.app {K : PySem.W.Frag} {H : Hp} {vs' : List V} {ds' : List PyData} (h : DpAll K H vs' ds') : ∀ {vs : List V} {ds : List PyData}, DpAll K H vs ds → DpAll K H (vs ++ vs') (ds ++ ds')
  | _, _, .nil => h
  | _, _, .cons h1 t => .cons h1 (DpAll.app h t)
theorem DpAll.length {K : PySem.W.Frag} {H : Hp} : ∀ {vs : List V} {ds : List PyData}, DpAll K H vs ds → vs.length = ds.length
  | _, _, .nil => rfl
  | _, _, .cons _ t => by rw [List.length_cons, List.length_cons, t.length]
theorem DpAll.get {K : PySem.W.Frag} {H : Hp} : ∀ {vs : List V} {ds : List PyData} {i : Nat} {v : V}, DpAll K H vs ds → vs[i]? = some v → ∃ d, ds[i]? = some d ∧ Dp K H v d
  | _, _, i, v, .nil, h => by simp at h
  | _, _, 0, v, .cons h1 _, h => by
    rw [List.getElem?_cons_zero] at h
    exact ⟨_, rfl, (Option.some.inj h) ▸ h1⟩
  | _, _, i + 1, v, .cons _ t, h => by
    obtain ⟨d, hd, r⟩ := t.get (i := i) (v := v) (by simpa using h)
    exact ⟨d, by simpa using hd, r⟩
theorem DpAll.ints {K : PySem.W.Frag} {H : Hp} : ∀ {vs : List V} {ns : List Int}, DpAll K H vs (ns.map PyData.int) → vs = intsV ns
  | _, [], .nil => rfl
  | _, n :: r, .cons h t => by
    cases h
    rw [t.ints]; rfl
theorem dp_newT {K : PySem.W.Frag} {H0 H : Hp} {t : Addr} {xs : List V} {ds : List PyData} (h0 : H0 t = none) (ht : H t = some (.tup xs)) (h : DpAll K (new H0 H) xs ds) : Dp K (new H0 H) (.ref t) (.tuple ds) :=
  .tup (SqT.of (by rw [new_at h0]; exact ht)) h
theorem dp_newL {K : PySem.W.Frag} {H0 H : Hp} {t : Addr} {xs : List V} {ds : List PyData} (h0 : H0 t = none) (ht : H t = some (.lst xs)) (h : DpAll K (new H0 H) xs ds) : Dp K (new H0 H) (.ref t) (.list ds) :=
  .lst (SqL.of (by rw [new_at h0]; exact ht)) h
theorem filter_map_snoc {α : Type} (p : Nat → Bool) (f : Nat → α) (i : Nat) : (((List.range (i + 1)).filter p).map f) = ((List.range i).filter p).map f ++ (if p i = true then [f i] else []) := by
  rw [List.range_succ, List.filter_append, List.map_append]
  congr 1
  cases h : p i <;> simp [h]
section
variable {K : PySem.W.Frag} {g : TG} {tt : TT} {te : TE} {vs : List Nat} {σ : St} {H1 H0 : Hp} {D : Addr} {Qd : Hp → Prop}
/-- a comprehension over a list that stands still -/
theorem lc_listD {a : Addr} {zs : List V} (H0 : Hp) (hD0 : H0 D ≠ none) (p : Nat → Bool) (f : Nat → PyData) (hD : H1 D = none) (ha : SqL K H1 a zs) (hz : zs.length ≤ 1000)
    (hs : ∀ i z H (Kk : VK) (Nx : Hp → Prop), zs[i]? = some z → Same H1 H → H D ≠ none → (p i = true → ∀ y H', Same H H' → Dp K (new H0 H') y (f i) → Kk y H') → (p i = false → ∀ H', Same H H' → Nx H') →
      g z (wipe σ vs) H fun σ2 H2 => wipe σ2 vs = wipe σ vs ∧ tt σ2 H2 fun b H3 => if b = true then te σ2 H3 Kk else Nx H3)
    (hd : ∀ H xs, Same H1 H → H D = some (.lst xs) → DpAll K (new H0 H) xs (((List.range zs.length).filter p).map f) → Qd H) :
    ∃ W : Nat → Nat → Hp → Prop, (∃ m, W 0 m (upd H1 D (.lst []))) ∧ ∀ i m H, W i m H →
      ((Itl K a).stop i H ∧ Qd H) ∨ ((Itl K a).go i H ∧ ∃ Nx : Hp → Prop, (∀ H', Nx H' → ∃ m', m' < m ∧ W (i + 1) m' H') ∧ ∀ x H', (Itl K a).yld i H x H' → g x (wipe σ vs) H' fun σ2 H2 => wipe σ2 vs = wipe σ vs ∧ tt σ2 H2 fun b H3 =>
        if b = true then te σ2 H3 fun y H4 => ∃ acc, H4 D = some (.lst acc) ∧ acc.length < sizeLine ∧ Nx (upd H4 D (.lst (acc ++ [y]))) else Nx H3) := by
  refine lc_list (xs := zs) (fun i H => i ≤ zs.length ∧ Same H1 H ∧ ∃ xs, H D = some (.lst xs) ∧ xs.length ≤ i ∧ DpAll K (new H0 H) xs (((List.range i).filter p).map f)) ⟨Nat.zero_le _, same_new hD, [], upd_same, Nat.le_refl _, .nil⟩ (fun i H _ h => h.2.1.seqL ha) ?_ ?_
  · rintro i z H hi ⟨hin, s1, xs, hx, hl, dp⟩
    have hi' : i < zs.length := (List.getElem?_eq_some_iff.mp hi).1
    refine hs i z H _ _ hi s1 (by rw [hx]; simp) (fun hp y H' s' dy => ⟨xs, s' _ _ hx, small1000 (by omega), hi', same_upd (s1.trans s') hD, xs ++ [y], upd_same, by rw [List.length_append]; show xs.length + 1 ≤ i + 1; omega, ?_⟩) fun hp H' s' => ⟨hi', s1.trans s', xs, s' _ _ hx, by omega, ?_⟩
    · rw [new_upd hD0, filter_map_snoc, if_pos hp]
      exact (dp.same (new_mono s')).snoc dy
    · rw [filter_map_snoc, if_neg (by rw [hp]; decide), List.append_nil]
      exact dp.same (new_mono s')
  · rintro H ⟨_, s1, xs, hx, _, dp⟩
    exact hd H xs s1 hx dp
end
section
variable {K : PySem.W.Frag} {wi1 : TI} {tt1 : TT} {te : TE} {vs vs1 : List Nat} {σ : St} {H1 : Hp} {D : Addr} {Qd : Hp → Prop}
theorem flat_snoc {α : Type} (f : Nat → List α) (i : Nat) : (List.range (i + 1)).flatMap f = (List.range i).flatMap f ++ f i := by
  rw [List.range_succ, List.flatMap_append]; simp
end
/-! ### in a block: the fragment told -/
end L2

set_option Elab.async false
set_option linter.all false
set_option maxRecDepth 100000
set_option maxHeartbeats 4000000
namespace L2
open PySem PySem.Spec PyProof.Rows
/-! ### orders, by themselves -/
def plainI (m : Nat) : List Int := (List.range m).map fun (i : Nat) => (i : Int)
theorem plainI_len (m : Nat) : (plainI m).length = m := by unfold plainI; simp
theorem plainI_mem {m : Nat} {x : Int} : x ∈ plainI m ↔ 0 ≤ x ∧ x < m := by
  unfold plainI
  rw [List.mem_map]
  constructor
  · rintro ⟨i, hi, rfl⟩
    have := List.mem_range.mp hi
    omega
  · rintro ⟨h0, h1⟩
    exact ⟨x.toNat, List.mem_range.mpr (by omega), by omega⟩
theorem plainI_sorted (m : Nat) : (plainI m).Pairwise (· < ·) := by
  unfold plainI
  rw [List.pairwise_map]
  exact List.pairwise_lt_range.imp fun h => by omega
theorem plainI_nodup (m : Nat) : (plainI m).Nodup := (plainI_sorted m).imp fun h => by omega
/-- an order of one to five things -/
structure POr (ns : List Int) : Prop where
  one : 1 ≤ ns.length
  five : ns.length ≤ 5
  perm : ns.Perm (plainI ns.length)
theorem POr.of {ns : List Int} {m : Nat} (h : ns.Perm (plainI m)) (h1 : 1 ≤ m) (h5 : m ≤ 5) : POr ns := by
  have e : ns.length = m := by rw [h.length_eq, plainI_len]
  exact ⟨by omega, by omega, by rw [e]; exact h⟩
theorem POr.nodup {ns : List Int} (h : POr ns) : ns.Nodup := h.perm.nodup_iff.mpr (plainI_nodup _)
theorem POr.rng {ns : List Int} (h : POr ns) {x : Int} (hx : x ∈ ns) : 0 ≤ x ∧ x < ns.length := plainI_mem.mp (h.perm.mem_iff.mp hx)
theorem dedup_len : ∀ (zs σ : List Int), (σ ++ zs).Nodup → (zs.foldl step_dedup σ).length = σ.length + zs.length
  | [], σ, _ => rfl
  | z :: r, σ, h => by
    rw [List.foldl_cons]
    have hz : z ∉ σ := fun m => by
      have := (List.nodup_append.mp h).2.2 z m z (by simp)
      exact this rfl
    have e : step_dedup σ z = σ ++ [z] := by
      unfold step_dedup
      rw [if_neg]
      intro q
      obtain ⟨y, hy, e⟩ := List.any_eq_true.mp q
      exact hz ((beq_iff_eq.mp e) ▸ hy)
    rw [e, dedup_len r (σ ++ [z]) (by rw [List.append_assoc]; exact h), List.length_append, List.length_cons, List.length_cons, List.length_nil]
    omega
theorem nuq_nodup {zs : List Int} (h : zs.Nodup) : nuq zs = zs.length := by
  unfold nuq
  rw [dedup_len zs [] (by simpa using h)]; simp
theorem POr.ordV {ns : List Int} (h : POr ns) : ordV (intsV ns) = true := by
  unfold L2.ordV rowV
  rw [intsOf_intsV, intsV_len]
  simp only [nuq_nodup h.nodup, Bool.and_eq_true, decide_eq_true_eq, h.one, h.five, true_and, and_true]
  rw [List.all_eq_true]
  intro v hv
  obtain ⟨x, hx, rfl⟩ := List.mem_map.mp hv
  have := h.rng hx
  show withinV (.int x) _ _ = true
  unfold withinV
  simp only [Bool.and_eq_true, decide_eq_true_eq]
  omega
/-! ### codes -/
def codeN : List Int → List Nat
  | [] => []
  | x :: r => lessN x r :: codeN r
/-! ### pairs in the wrong order, falls -/
def wpP (ns : List Int) : List (Int × Int) := (List.range ns.length).flatMap fun i => ((List.range (ns.length - (i + 1))).filter fun j => decide (ns.getD (i + 1 + j) 0 < ns.getD i 0)).map fun j => ((i : Int), ((i + 1 + j : Nat) : Int))
def faN (ns : List Int) : List Nat := (List.range (ns.length - 1)).filter fun k => decide (ns.getD (k + 1) 0 < ns.getD k 0)
theorem DpAll.bls {K : PySem.W.Frag} {H : Hp} : ∀ {vs : List V} {bs : List Bool}, DpAll K H vs (bs.map PyData.bool) → vs = bs.map V.bl
  | _, [], .nil => rfl
  | _, b :: r, .cons h t => by
    cases h
    rw [t.bls]; rfl
theorem filter_true {α : Type} (l : List α) : l.filter (fun _ => true) = l := by simp
theorem map_const_true (n : Nat) : (List.range n).map (fun _ => PyData.bool true) = (List.replicate n true).map PyData.bool := by
  rw [List.map_replicate]
  apply List.ext_getElem?
  intro i
  rw [List.getElem?_map]
  by_cases h : i < n
  · rw [List.getElem?_range h, List.getElem?_replicate, if_pos h]; rfl
  · rw [List.getElem?_eq_none (by simpa using h), List.getElem?_replicate, if_neg h]; rfl
theorem all_rep (n : Nat) : (List.replicate n true).all id = true := by simp
/-- a tuple of ints as data -/
theorem Dp.tup_ints {K : PySem.W.Frag} {H : Hp} {v : V} {ns : List Int} (h : Dp K H v (.tuple (ns.map PyData.int))) : ∃ a, v = .ref a ∧ SqT K H a (intsV ns) := by
  cases h with
  | tup hs ha => exact ⟨_, rfl, ha.ints ▸ hs⟩
theorem getD_of {ns : List Int} {i : Nat} {x : Int} (h : ns[i]? = some x) : ns.getD i 0 = x := by rw [List.getD_eq_getElem?_getD, h]; rfl
end L2

set_option Elab.async false
set_option linter.all false
set_option maxRecDepth 100000
set_option maxHeartbeats 4000000
namespace PySem.SeqAt
open PySem PySem.Spec PyProof.Rows
end PySem.SeqAt
namespace L2
open PySem PySem.Spec PyProof.Rows
section
variable {X : Cx}
end
end L2

set_option Elab.async false
set_option linter.all false
set_option maxRecDepth 100000
set_option maxHeartbeats 4000000
namespace L2
open PySem PySem.Spec PyProof.Rows
section
variable {prog : Program} {w : World} {A : Around} {E : Value → Shared → Prop} {s : Shared}
/-! ### a list unpacked -/
/-! ### sum of a tuple -/
/-! ### a tuple repeated -/
end
section
variable {X : Cx}
end
end L2

set_option Elab.async false
set_option linter.all false
set_option maxRecDepth 100000
set_option maxHeartbeats 4000000
namespace L2
open PySem PySem.Spec PyProof.Rows
/-- tuples of ints, by the first that differs -/
def lexI : List Int → List Int → Bool
  | [], [] => false
  | [], _ :: _ => true
  | _ :: _, [] => false
  | x :: r, y :: t => decide (x < y) || (!decide (y < x) && lexI r t)
theorem lexI_lex : ∀ xs ys : List Int, PyProof.Rows.lexLt PyProof.Rows.itemOrd (xs.map Sum.inl) (ys.map Sum.inl) = lexI xs ys
  | [], [] => rfl
  | [], _ :: _ => rfl
  | _ :: _, [] => rfl
  | x :: r, y :: t => by
    show (decide (x < y) || (!decide (y < x) && _)) = (decide (x < y) || (!decide (y < x) && _))
    rw [lexI_lex r t]
def tupD (ns : List Int) : PyData := .tuple (ns.map PyData.int)
def toV : Value → V
  | .ref a => .ref a
  | _ => .non
section
variable {X : Cx} {pins : List (Addr × Obj)} {σ : St} {H : Hp} {s : Shared}
end
theorem vals_of_refs : ∀ {us : List Value}, (∀ u ∈ us, ∃ a, u = Value.ref a) → Vals (us.map toV) us
  | [], _ => .nil
  | u :: r, h => by
    obtain ⟨a, rfl⟩ := h u (by simp)
    exact .cons rfl (vals_of_refs fun x hx => h x (by simp [hx]))
section
variable {X : Cx}
end
end L2

set_option Elab.async false
set_option linter.all false
set_option maxRecDepth 100000
set_option maxHeartbeats 4000000
namespace L2
open PySem PySem.Spec PyProof.Rows SimL SimS
theorem lexI_same (m : Int) (ns ms : List Int) : lexI (m :: ns) (m :: ms) = lexI ns ms := by
  show (decide (m < m) || (!decide (m < m) && lexI ns ms)) = _
  simp
theorem lexI_other {m m' : Int} {ns ms : List Int} (e : m ≠ m') : lexI (m :: ns) (m' :: ms) = decide (m < m') := by
  show (decide (m < m') || (!decide (m' < m) && lexI ns ms)) = _
  by_cases h : m < m'
  · simp [h]
  · have : m' < m := by omega
    simp [h, this]
theorem lexI_irr (a : List Int) : lexI a a = false := by rw [← lexI_lex]; exact (listOrd itemOrd).irrefl _
theorem lexI_tr {a b c : List Int} (h : lexI a b = true) (k : lexI b c = true) : lexI a c = true := by
  rw [← lexI_lex] at h k ⊢; exact (listOrd itemOrd).trans _ _ _ h k
theorem lexI_neg {a c : List Int} (b : List Int) (h : lexI a c = true) : lexI a b = true ∨ lexI b c = true := by
  rw [← lexI_lex] at h; rw [← lexI_lex, ← lexI_lex]; exact (listOrd itemOrd).negTrans _ _ _ h
/-- what a value of the heap is as data -/
noncomputable def dOf (h : Heap) (v : Value) : PyData := open Classical in if x : ∃ d, d.canLay0 = true ∧ ∃ as, Reads h v d as then x.choose else .none
theorem dOf_eq {h : Heap} {v : Value} {d : PyData} {as : List Addr} (r : Reads h v d as) (c : d.canLay0 = true) : dOf h v = d := by
  unfold dOf
  have x : ∃ d, d.canLay0 = true ∧ ∃ as, Reads h v d as := ⟨d, c, as, r⟩
  rw [dif_pos x]
  obtain ⟨_, as', r'⟩ := x.choose_spec
  exact (SeqAt.Reads.unique _ _ _ _ _ c r r').symm
mutual
theorem reads_keep {h h' : Heap} (k : KeepA h h') : ∀ (d : PyData) {v : Value} {as : List Addr}, d.canLay0 = true → Reads h v d as → Reads h' v d as
  | .none, _, _, _, r => by cases r; exact .none
  | .bool _, _, _, _, r => by cases r; exact .bool _
  | .int _, _, _, _, r => by cases r; exact .int _ _
  | .str _, _, _, _, r => by cases r; exact .str _ _
  | .list xs, _, _, c, r => by cases r with | list a b e f => exact .list (k _ _ a) b e (readsAll_keep k xs (by simpa [PyData.canLay0] using c) f)
  | .tuple xs, _, _, c, r => by cases r with | tuple a b e f => exact .tuple (k _ _ a) b e (readsAll_keep k xs (by simpa [PyData.canLay0] using c) f)
  | .dict _, _, _, c, _ => by simp [PyData.canLay0] at c
theorem readsAll_keep {h h' : Heap} (k : KeepA h h') : ∀ (ds : List PyData) {vs : List Value} {as : List Addr}, PyData.canLayAll0 ds = true → ReadsAll h vs ds as → ReadsAll h' vs ds as
  | [], _, _, _, r => by cases r; exact .nil
  | d :: ds, _, _, c, r => by
    have c : d.canLay0 = true ∧ PyData.canLayAll0 ds = true := by simpa [PyData.canLayAll0] using c
    cases r with | cons a b => exact .cons (reads_keep k d c.1 a) (readsAll_keep k ds c.2 b)
end
section
variable {prog : Program} {w : World} {A : Around} {E : Value → Shared → Prop} {s : Shared}
theorem ask_list {x y : Value} {xs ys : List PyData} {as bs : List Addr} {Q : Bool → Shared → Prop} (rx : Reads s.heap x (.list xs) as) (ry : Reads s.heap y (.list ys) bs) (cx : PyData.canLayAll0 xs = true) (cy : PyData.canLayAll0 ys = true) (cm : cmA xs ys = true)
    (hu : A.units + 1 + max (PyData.depthAll xs) (PyData.depthAll ys) < cLine) (h : Q (ltA xs ys) s) : wpAny (model prog w) A (keyLt' oneType' x y) Q E s := by
  cases rx with
  | list o1 c1 d1 r1 =>
    cases ry with
    | list o2 c2 d2 r2 =>
      rename_i a o vs n as b o' ws m bs
      obtain ⟨cls, dd, data, sl⟩ := o
      obtain ⟨cls2, dd2, data2, sl2⟩ := o'
      simp only at c1 d1 c2 d2
      subst c1 d1 c2 d2
      rw [keyLt'_oneType, oneLt'_eq]
      simp only [if_true]
      refine wpAny_bind (wpAny_cRoomFor (by omega) ?_)
      refine wpAny_bind (wpAny_callSpecialIfBound?_slot (T := "list") ⟨_, o1, rfl⟩ PySem.F.slot_list_lt (call_meets PySem.F.slot_list_lt ⟨_, o1, rfl⟩ PySem.F.entry_list_lt (PySem.F.args_list_lt_2 _ _) (list_lt_at a b vs ws n m dd dd2 sl sl2) ⟨o1, o2, ltA xs ys, lex_reads xs ys A.in1 s _ _ _ _ r1 r2 cx cy cm hu, ?_⟩))
      exact wpAny_truthy_bool h
theorem kat_lex {b v : Bool} {Q : Bool → Shared → Prop} (hb : b = false) : ∀ {xs ys : List Value} (i : Nat) {fin : Bool}, Lex A s xs ys v → (xs.length = ys.length → fin = false) → (xs.length < ys.length → fin = true) → (ys.length < xs.length → fin = false) → Q v s → PySem.W.KatLex prog w A b fin Q (xs.zip ys) i s
  | [], [], i, fin, h, h1, _, _, q => by cases h; rw [List.zip_nil_left, h1 rfl]; exact q
  | [], _ :: _, i, fin, h, _, h2, _, q => by cases h; rw [List.zip_nil_left, h2 (by simp)]; exact q
  | _ :: _, [], i, fin, h, _, _, h3, q => by cases h; rw [List.zip_nil_right, h3 (by simp)]; exact q
  | x :: xs, y :: ys, i, fin, h, h1, h2, h3, q => by
    rw [List.zip_cons_cons]
    cases h with
    | ne hc =>
      refine PySem.W.kat_cons (hc.1 prog w _ _ (PySem.W.kat_no ?_))
      subst hb
      exact PySem.W.kat_one x y (hc.2 rfl prog w _ _ q)
    | eq hc ht =>
      refine PySem.W.kat_cons (hc.1 prog w _ _ (PySem.W.kat_yes ?_))
      simp only [List.length_cons] at h1 h2 h3
      exact kat_lex hb (i + 1) ht (fun e => h1 (by omega)) (fun e => h2 (by omega)) (fun e => h3 (by omega)) q
theorem ask_term {x y : Value} {xs ys : List PyData} {as bs : List Addr} {Q : Bool → Shared → Prop} (rx : Reads s.heap x (.tuple xs) as) (ry : Reads s.heap y (.tuple ys) bs) (cx : PyData.canLayAll0 xs = true) (cy : PyData.canLayAll0 ys = true) (cm : cmA xs ys = true)
    (hu : A.units + max (PyData.depthAll xs) (PyData.depthAll ys) < cLine) (h : Q (ltA xs ys) s) : wpAny (model prog w) A (keyLt' (tuples' false) x y) Q E s := by
  cases rx with
  | tuple o1 c1 d1 r1 =>
    cases ry with
    | tuple o2 c2 d2 r2 =>
      refine PySem.W.kat_lt o1 d1 o2 d2 (kat_lex rfl 0 (lex_reads xs ys A s _ _ _ _ r1 r2 cx cy cm hu) ?_ ?_ ?_ h)
      · intro e; simp at e; exact decide_eq_false (by omega)
      · intro e; simp at e; exact decide_eq_true (by omega)
      · intro e; simp at e; exact decide_eq_false (by omega)
theorem readsAll_mem {h : Heap} : ∀ {vs : List Value} {ds : List PyData} {as : List Addr}, ReadsAll h vs ds as → ∀ v ∈ vs, ∃ d ∈ ds, ∃ as, Reads h v d as
  | _, _, _, .nil, v, hv => by cases hv
  | _, _, _, .cons a b, v, hv => by
    rcases List.mem_cons.mp hv with rfl | hv
    · exact ⟨_, by simp, _, a⟩
    · obtain ⟨d, hd, x⟩ := readsAll_mem b v hv
      exact ⟨d, by simp [hd], x⟩
theorem kind_lists {vs : List Value} {Q : SortKind → Shared → Prop} (h2 : 2 ≤ vs.length) (hv : ∀ v ∈ vs, ∃ xs as, Reads s.heap v (.list xs) as) (h : Q oneType' s) : wpAny (model prog w) A (keyKind' vs.toArray) Q E s := by
  have ty : ∀ v ∈ vs, PySem.W.Looks (model prog w) s.heap (typeOf v) (.type "list") := fun v hm => by
    obtain ⟨xs, as, r⟩ := hv v hm
    cases r with
    | list o c d r =>
      rename_i ob _ _ _
      have := (show PySem.W.Looks (model prog w) s.heap (typeOf (.ref _)) ob.cls from (PySem.W.Looks.ld o).andThen .now)
      rw [c] at this
      exact this
  exact PySem.W.kas_kind (T := .type "list") h2 ty (by first | rfl | decide) rfl h
theorem tups_firsts {vs : List Value} (hv : ∀ v ∈ vs, ∃ ds xs as, Reads s.heap v (.tuple (.tuple ds :: xs)) as) : ∃ fs, PySem.W.KatTups s.heap vs fs ∧ fs.length = vs.length ∧ ∀ f ∈ fs, PySem.W.Looks (model prog w) s.heap (typeOf f) (.type "tuple") := by
  induction vs with
  | nil => exact ⟨[], .nil, rfl, fun f hf => by cases hf⟩
  | cons v r ih =>
    obtain ⟨fs, h1, h2, h3⟩ := ih fun x hx => hv x (by simp [hx])
    obtain ⟨ds, xs, as, rd⟩ := hv v (by simp)
    cases rd with
    | tuple o c d rr =>
      rename_i a ob ws n
      generalize e : ws.toList = wl at rr
      cases rr with
      | cons r1 r2 =>
        rename_i f fr _ _
        refine ⟨f :: fs, .cons o c d ?_ h1, by simp [h2], ?_⟩
        · rw [← Array.getElem?_toList, e]; rfl
        · intro g hg
          rcases List.mem_cons.mp hg with rfl | hg
          · cases r1 with
            | tuple o' c' d' r' =>
              rename_i _ ob' _ _
              have := (show PySem.W.Looks (model prog w) s.heap (typeOf (.ref _)) ob'.cls from (PySem.W.Looks.ld o').andThen .now)
              rw [c'] at this
              exact this
          · exact h3 g hg
theorem kind_terms {vs : List Value} {Q : SortKind → Shared → Prop} (h2 : 2 ≤ vs.length) (hv : ∀ v ∈ vs, ∃ ds xs as, Reads s.heap v (.tuple (.tuple ds :: xs)) as) (h : Q (tuples' false) s) : wpAny (model prog w) A (keyKind' vs.toArray) Q E s := by
  obtain ⟨fs, h1, h3, h4⟩ := tups_firsts (prog := prog) (w := w) hv
  exact PySem.W.kat_kind (T := .type "tuple") h1 (by omega) h4 rfl h
theorem kat_lexI {b : Bool} {Q : Bool → Shared → Prop} : ∀ {xs ys : List Value} {ns ms : List Int} (i : Nat) {fin : Bool}, IntsAre xs ns → IntsAre ys ms → (xs.length = ys.length → fin = false) → (xs.length < ys.length → fin = true) → (ys.length < xs.length → fin = false) → Q (lexI ns ms) s → PySem.W.KatLex prog w A b fin Q (xs.zip ys) i s
  | _, _, _, _, i, fin, .nil, .nil, h1, _, _, q => by rw [List.zip_nil_left, h1 rfl]; exact q
  | _, _, _, _, i, fin, .nil, .cons m t hm, _, h2, _, q => by rw [List.zip_nil_left, h2 (by simp)]; exact q
  | _, _, _, _, i, fin, .cons m t hm, .nil, _, _, h3, q => by rw [List.zip_nil_right, h3 (by simp)]; exact q
  | _, _, _, _, i, fin, .cons m t hm, .cons m' t' hm', h1, h2, h3, q => by
    rw [List.zip_cons_cons]
    simp only [List.length_cons] at h1 h2 h3
    refine PySem.W.kat_cons (SeqAt.EqAt.int_int m t m' t' prog w _ _ ?_)
    by_cases e : m = m'
    · subst e
      rw [show (m == m) = true by simp]
      refine PySem.W.kat_yes (kat_lexI (i + 1) hm hm' (fun e => h1 (by omega)) (fun e => h2 (by omega)) (fun e => h3 (by omega)) ?_)
      rw [lexI_same] at q; exact q
    · rw [show (m == m') = false by simp [e]]
      refine PySem.W.kat_no ?_
      have q' : Q (decide (m < m')) s := by rw [lexI_other e] at q; exact q
      cases hb : (b && i == 0) with
      | true => exact oneLt_int q'
      | false => exact PySem.W.kat_one _ _ (HT.rcLt_int A s m t m' t' prog w _ _ q')
theorem ints_reads {h : Heap} : ∀ {vs : List Value} {ns : List Int} {as : List Addr}, ReadsAll h vs (ns.map PyData.int) as → IntsAre vs ns
  | _, [], _, r => by cases r; exact .nil
  | _, n :: ns, _, r => by cases r with | cons a b => cases a; exact .cons _ _ (ints_reads b)
theorem ask_tup {x y : Value} {ns ms : List Int} {as bs : List Addr} {Q : Bool → Shared → Prop} (rx : Reads s.heap x (.tuple (ns.map PyData.int)) as) (ry : Reads s.heap y (.tuple (ms.map PyData.int)) bs) (h : Q (lexI ns ms) s) : wpAny (model prog w) A (keyLt' (tuples' true) x y) Q E s := by
  cases rx with
  | tuple o1 c1 d1 r1 =>
    cases ry with
    | tuple o2 c2 d2 r2 =>
      refine PySem.W.kat_lt o1 d1 o2 d2 (kat_lexI 0 (ints_reads r1) (ints_reads r2) ?_ ?_ ?_ h)
      · intro e; simp at e; exact decide_eq_false (by omega)
      · intro e; simp at e; exact decide_eq_true (by omega)
      · intro e; simp at e; exact decide_eq_false (by omega)
theorem tups_firstsI {vs : List Value} (hv : ∀ v ∈ vs, ∃ (i : Int) (ns : List Int) (as : List Addr), Reads s.heap v (.tuple ((i :: ns).map PyData.int)) as) : ∃ fs, PySem.W.KatTups s.heap vs fs ∧ fs.length = vs.length ∧ ∀ f ∈ fs, PySem.W.Looks (model prog w) s.heap (typeOf f) (.type "int") := by
  induction vs with
  | nil => exact ⟨[], .nil, rfl, fun f hf => by cases hf⟩
  | cons v r ih =>
    obtain ⟨fs, h1, h2, h3⟩ := ih fun x hx => hv x (by simp [hx])
    obtain ⟨i, ns, as, rd⟩ := hv v (by simp)
    cases rd with
    | tuple o c d rr =>
      rename_i a ob ws n
      generalize e : ws.toList = wl at rr
      have ii := ints_reads rr
      cases ii with
      | cons m t hm =>
        refine ⟨.int i t :: fs, .cons o c d ?_ h1, by simp [h2], ?_⟩
        · rw [← Array.getElem?_toList, e]; rfl
        · intro g hg
          rcases List.mem_cons.mp hg with rfl | hg
          · exact PySem.W.Looks.of_pure rfl
          · exact h3 g hg
theorem kind_tups {vs : List Value} {Q : SortKind → Shared → Prop} (h2 : 2 ≤ vs.length) (hv : ∀ v ∈ vs, ∃ (i : Int) (ns : List Int) (as : List Addr), Reads s.heap v (.tuple ((i :: ns).map PyData.int)) as) (h : Q (tuples' true) s) : wpAny (model prog w) A (keyKind' vs.toArray) Q E s := by
  obtain ⟨fs, h1, h3, h4⟩ := tups_firstsI (prog := prog) (w := w) hv
  exact PySem.W.kat_kind (T := .type "int") h1 (by omega) h4 rfl h
theorem eqv_int (i j : Int) : PyData.eqv (.int i) (.int j) = decide (i = j) := by simp [PyData.eqv]; rfl
theorem ltA_ints : ∀ ns ms : List Int, ltA (ns.map PyData.int) (ms.map PyData.int) = lexI ns ms
  | [], [] => by simp [ltA, lexI]
  | [], _ :: _ => by simp [ltA, lexI]
  | _ :: _, [] => by simp [ltA, lexI]
  | n :: ns, m :: ms => by
    simp only [List.map_cons, ltA, ltD, eqv_int]
    rw [ltA_ints ns ms]
    show _ = (decide (n < m) || (!decide (m < n) && lexI ns ms))
    by_cases e : n = m
    · subst e; simp
    · by_cases h : n < m
      · simp [e, h]
      · have : m < n := by omega
        simp [e, h, this]
/-- rows of data that can be sorted: lists, or tuples that begin with a tuple; by a key of numbers -/
structure Srt (ds : List PyData) (key : PyData → List Int) : Prop where
  lay : ∀ d ∈ ds, d.canLay0 = true ∧ d.depth ≤ 60
  cmp : ∀ d ∈ ds, ∀ e ∈ ds, cmD d e = true ∧ ltD d e = lexI (key d) (key e)
  form : (∀ d ∈ ds, ∃ xs, d = .list xs) ∨ (∀ d ∈ ds, ∃ a xs, d = .tuple (.tuple a :: xs)) ∨ ∀ d ∈ ds, ∃ (i : Int) (ns : List Int), d = .tuple ((i :: ns).map PyData.int)
noncomputable def ltOf (h : Heap) (key : PyData → List Int) (x y : Value) : Bool := lexI (key (dOf h x)) (key (dOf h y))
theorem Srt.asks {ds : List PyData} {key : PyData → List Int} (S : Srt ds key) {h : Heap} {vs : List Value} {as : List Addr} (r : ReadsAll h vs ds as) {u : Nat} (hu : u + 62 < cLine) : ∃ kd, Asks prog w h u vs kd (ltOf h key) := by
  have rd := readsAll_mem r
  rcases S.form with F | F | F
  · refine ⟨oneType', ⟨fun x _ => lexI_irr _, fun x _ y _ z _ => lexI_tr, fun x _ y _ z _ => lexI_neg _, ?_, ?_⟩⟩
    · intro A E s Q hA k x hx y hy q
      obtain ⟨d, hd, ax, rx⟩ := rd x hx
      obtain ⟨e, he, ay, ry⟩ := rd y hy
      have ld := S.lay d hd
      have le := S.lay e he
      have c := S.cmp d hd e he
      unfold ltOf at q
      rw [dOf_eq rx ld.1, dOf_eq ry le.1, ← c.2] at q
      obtain ⟨xs, rfl⟩ := F d hd
      obtain ⟨ys, rfl⟩ := F e he
      simp only [PyData.depth] at ld le
      refine ask_list (reads_keep k _ ld.1 rx) (reads_keep k _ le.1 ry) (by simpa [PyData.canLay0] using ld.1) (by simpa [PyData.canLay0] using le.1) (by simpa [cmD] using c.1) (by omega) (by simpa [ltD] using q)
    · intro h2 A E s Q hA k q
      refine kind_lists h2 (fun v hv => ?_) q
      obtain ⟨d, hd, ax, rx⟩ := rd v hv
      obtain ⟨xs, rfl⟩ := F d hd
      exact ⟨xs, ax, reads_keep k _ (S.lay _ hd).1 rx⟩
  · refine ⟨tuples' false, ⟨fun x _ => lexI_irr _, fun x _ y _ z _ => lexI_tr, fun x _ y _ z _ => lexI_neg _, ?_, ?_⟩⟩
    · intro A E s Q hA k x hx y hy q
      obtain ⟨d, hd, ax, rx⟩ := rd x hx
      obtain ⟨e, he, ay, ry⟩ := rd y hy
      have ld := S.lay d hd
      have le := S.lay e he
      have c := S.cmp d hd e he
      unfold ltOf at q
      rw [dOf_eq rx ld.1, dOf_eq ry le.1, ← c.2] at q
      obtain ⟨a, xs, rfl⟩ := F d hd
      obtain ⟨b, ys, rfl⟩ := F e he
      simp only [PyData.depth] at ld le
      refine ask_term (reads_keep k _ ld.1 rx) (reads_keep k _ le.1 ry) (by simpa [PyData.canLay0] using ld.1) (by simpa [PyData.canLay0] using le.1) (by simpa [cmD] using c.1) (by omega) (by simpa [ltD] using q)
    · intro h2 A E s Q hA k q
      refine kind_terms h2 (fun v hv => ?_) q
      obtain ⟨d, hd, ax, rx⟩ := rd v hv
      obtain ⟨a, xs, rfl⟩ := F d hd
      exact ⟨a, xs, ax, reads_keep k _ (S.lay _ hd).1 rx⟩
  · refine ⟨tuples' true, ⟨fun x _ => lexI_irr _, fun x _ y _ z _ => lexI_tr, fun x _ y _ z _ => lexI_neg _, ?_, ?_⟩⟩
    · intro A E s Q hA k x hx y hy q
      obtain ⟨d, hd, ax, rx⟩ := rd x hx
      obtain ⟨e, he, ay, ry⟩ := rd y hy
      have ld := S.lay d hd
      have le := S.lay e he
      have c := S.cmp d hd e he
      unfold ltOf at q
      rw [dOf_eq rx ld.1, dOf_eq ry le.1, ← c.2] at q
      obtain ⟨i, ns, rfl⟩ := F d hd
      obtain ⟨j, ms, rfl⟩ := F e he
      refine ask_tup (reads_keep k _ ld.1 rx) (reads_keep k _ le.1 ry) ?_
      rw [← ltA_ints]
      simpa only [ltD] using q
    · intro h2 A E s Q hA k q
      refine kind_tups h2 (fun v hv => ?_) q
      obtain ⟨d, hd, ax, rx⟩ := rd v hv
      obtain ⟨i, ns, rfl⟩ := F d hd
      exact ⟨i, ns, ax, reads_keep k _ (S.lay _ hd).1 rx⟩
end
section
variable {X : Cx} {pins : List (Addr × Obj)} {σ : St} {H : Hp} {s : Shared}
theorem rows_at (I : Inv X pins σ H s) : ∀ {rs : List V} {us : List Value} {ds : List PyData}, DpAll X.K H rs ds → Vals rs us → (∀ d ∈ ds, d.canLay0 = true ∧ ((∃ xs, d = .list xs) ∨ ∃ xs, d = .tuple xs)) →
    us.map toV = rs ∧ us.map (dOf s.heap) = ds ∧ ∀ u ∈ us, (∃ a, u = .ref a) ∧ Dp X.K H (toV u) (dOf s.heap u)
  | _, _, [], .nil, .nil, _ => ⟨rfl, rfl, fun u hu => by cases hu⟩
  | _, _, d :: ds, .cons h t, .cons r rt, hf => by
    obtain ⟨h1, h2, h3⟩ := rows_at I t rt fun x hx => hf x (by simp [hx])
    obtain ⟨c, f⟩ := hf d (by simp)
    obtain ⟨as, rd⟩ := Dp.reads I d _ _ h r
    have e := dOf_eq rd c
    have key : ∃ a, ‹Value› = .ref a ∧ ‹V› = V.ref a := by
      rcases f with ⟨xs, rfl⟩ | ⟨xs, rfl⟩
      · cases h; cases r; exact ⟨_, rfl, rfl⟩
      · cases h; cases r; exact ⟨_, rfl, rfl⟩
    obtain ⟨a, rfl, rfl⟩ := key
    refine ⟨by rw [List.map_cons, h1]; rfl, by rw [List.map_cons, h2, e], fun u hu => ?_⟩
    rcases List.mem_cons.mp hu with rfl | hu
    · exact ⟨⟨a, rfl⟩, by rw [e]; exact h⟩
    · exact h3 u hu
end
theorem dpAll_map {K : PySem.W.Frag} {H : Hp} (f : Value → PyData) : ∀ {us : List Value}, (∀ u ∈ us, Dp K H (toV u) (f u)) → DpAll K H (us.map toV) (us.map f)
  | [], _ => .nil
  | u :: r, h => .cons (h u (by simp)) (dpAll_map f fun x hx => h x (by simp [hx]))
section
variable {X : Cx} {pins : List (Addr × Obj)} {σ : St} {H : Hp} {s : Shared}
end
end L2

set_option Elab.async false
set_option linter.all false
set_option maxRecDepth 100000
set_option maxHeartbeats 4000000
namespace L2
open PySem PySem.Spec PyProof.Rows SimL SimS PySem.W
section
variable {prog : Program} {w : World} {A : Around} {E : Value → Shared → Prop} {s : Shared}
/-- the keys of a dict that stands still -/
theorem walks_keys {o : Obj} {es : Array DictEntry} {ep : Nat} (hdt : o.data = .dict es ep) (hh : A.handled = none) (I d : Addr) (hne : d ≠ I) :
    Walks prog w A I [I, d] [I] es.size (fun i v => ∃ en, es[i]? = some en ∧ v = en.key) (fun i h => h.IsKeyIter I d i es.size ep ∧ h.get? d = some o) where
  sub := fun b hb => by simp at hb; simp [hb]
  frame := fun _ _ _ st hk => ⟨st.1.at fun o e => hk I (by simp) o e, hk d (by simp) _ st.2⟩
  item := fun i s Q E hi st hQ => by
    obtain ⟨en, he⟩ : ∃ en, es[i]? = some en := ⟨es[i], by simp [hi]⟩
    refine next_key_item st.1 st.2 hdt rfl he fun h' st' sb => ?_
    exact hQ en.key h' s.toks ⟨en, he, rfl⟩ ⟨st', (sb.2 d hne).trans st.2⟩ fun b o' hb e => (sb.2 b fun z => hb (by simp [z])).trans e
  done := fun s Q E st hQ => next_key_end hh st.1 st.2 hdt rfl (Nat.le_refl _) fun h' eb => hQ h' s.toks fun b o' hb e => eb b o' (fun z => hb (by simp [z])) e
  self := fun _ _ _ _ st hQ => wpAny_pyIter_keyiter st.1 hQ
theorem src_keys {d : Addr} {o : Obj} {es : Array DictEntry} {ep : Nat} (lo : (d == sysModules) = false) (hx : o.ExactDict) (hdt : o.data = .dict es ep) :
    KdlSrc prog w "dict" d d es.size (fun i v => ∃ en, es[i]? = some en ∧ v = en.key) (fun h => h.get? d = some o) where
  type := fun _ hm => ⟨o, hm, hx.1⟩
  there := fun _ hm => ⟨Heap.lt_size hm, Heap.lt_size hm⟩
  keep := fun _ _ hm hk => hk d (.inl rfl) o hm
  notList := by decide
  notTuple := by decide
  hint := fun _ _ _ _ hm hq => kdl_hint_dict ⟨o, hm, hx.1⟩ hq
  iter := fun _ _ hh hm => ⟨_, _, (fun _ _ hq => iter_keys lo hm hx hdt hq), walks_keys hdt hh _ d (Nat.ne_of_lt (Heap.lt_size hm)), ⟨⟨_, Heap.get?_push_size _ rfl, rfl, rfl⟩, Heap.get?_push_of_some _ hm⟩⟩
theorem sh_old {h : Heap} {a b : Addr} {vs : List Value} {out : Array Value} {o : Obj} (hn : b ≠ a) (e : h.get? b = some o) : (sortedHeap h a vs out).get? b = some o := by
  show ((hp6 h a vs).update a (Obj.mapSeq fun _ => out)).get? b = some o
  rw [Heap.get?_update_ne _ _ _ _ hn]
  exact hp6_old hn e
theorem sh_me {h : Heap} {a : Addr} {vs xs : List Value} {n : Nat} {out : Array Value} (ho : h.get? a = some (seqObj "list" xs.toArray n)) : ∃ e, (sortedHeap h a vs out).get? a = some (seqObj "list" out e) := by
  obtain ⟨e, _, m6⟩ := hp6_me (vs := vs) ho
  exact ⟨_, get?_update_seq m6 (fun _ => out)⟩
def kwOf : Option Bool → List (Str × Value)
  | none => []
  | some b => [(Str.ofString "reverse", .bool b)]
/-- what is walked, gathered; the heap has grown -/
theorem gather {T : String} {r d : Addr} {n : Nat} {P : Nat → Value → Prop} {OK : Heap → Prop} {R : List Value → Shared → Prop} (K : KdlSrc prog w T r d n P OK) (hh : A.handled = none) (hok : OK s.heap) (hn : n ≤ sizeLine)
    (fin : ∀ (h' : Heap) (tk : Nat) (acc : Array Value), (∀ b o, s.heap.get? b = some o → h'.get? b = some o) → s.heap.objs.size < h'.objs.size → ItemsOf P acc n → R acc.toList { s with heap := h', toks := tk }) :
    wpAny (model prog w) A (collect (.ref r)) R E s := by
  have lt := K.there _ hok
  let S := s.heap.objs.size
  let h1 := s.heap.push { cls := .type "list", data := .seq ([] : List Value).toArray }
  have me : h1.get? S = some { cls := .type "list", data := .seq #[] } := Heap.get?_push_size _ rfl
  let G : Result → Shared → Prop := fun q s' => ∃ (h' : Heap) (tk : Nat) (acc : Array Value) (c : Nat), q = .ok (.ret (.ref S)) ∧ s' = { s with heap := h', toks := tk } ∧ (∀ b o, s.heap.get? b = some o → h'.get? b = some o) ∧ h'.get? S = some { cls := .type "list", dict := none, data := .seq acc c, slots := #[] } ∧ ItemsOf P acc n
  have gone : ∀ s', G (.ok (.ret (.ref S))) s' → wpAny (model prog w) A (load S >>= fun ob => match ob.data with | .seq ys _ => pure ys.toList | _ => unsupported "internal:collect") R E s' := by
    rintro s' ⟨h', tk, acc, c, _, rfl, hk, hS, ha⟩
    exact wpAny_bind (wpAny_load hS (wpAny_pure (fin h' tk acc hk (Heap.lt_size hS) ha)))
  have key := kdl_extend (A := A) (s := { s with heap := h1 }) (R := G) K hh (K.keep _ _ hok fun b _ o e => Heap.get?_push_of_some _ e) S (Nat.ne_of_gt lt.1) (Nat.ne_of_gt lt.2) (.ref S) 0 me
    (fun h' tk acc c hk hS ha => ⟨h', tk, acc, c, rfl, rfl, fun b o e => hk b o (Nat.ne_of_lt (Heap.lt_size e)) (Heap.get?_push_of_some _ e), hS, ha⟩) hn
  unfold collect
  refine wpAny_bind (wpAny_runValue (codeAny_builtin entry_proto_collect' ?_))
  rw [Around.under_plainId PySem.F.plain_proto_collect _]
  refine wpAny_bind (m := newList []) (wpAny_newObj_type (wpAny_pure ⟨plainId_quiet PySem.F.plain_list_iadd _, codeAny_builtin entry_list_iadd' ?_⟩))
  rw [Around.under_plainId PySem.F.plain_list_iadd _]
  refine wpAny_mono (show wpAny _ A.in1 (Builtin.List.listExtendWith (.ref S) (.ref r) (.ref S)) _ _ { s with heap := h1 } from key) (fun f s' x => ?_) fun e s' x => ?_
  · cases f with
    | done f =>
      obtain ⟨h', tk, acc, c, e, y⟩ := x
      cases e
      exact gone s' ⟨h', tk, acc, c, rfl, y⟩
    | again c1 =>
      refine ⟨x.1, codeAny_mono x.2 fun q s2 y => ?_⟩
      obtain ⟨h', tk, acc, c, e, y⟩ := y
      subst e
      exact gone s2 ⟨h', tk, acc, c, rfl, y⟩
  · obtain ⟨_, _, _, _, e', _⟩ := x
    cases e'
/-- sorted of something that is walked -/
theorem sorted_src {T : String} {r d : Addr} {n : Nat} {P : Nat → Value → Prop} {OK : Heap → Prop} {its : List Value} {kd : SortKind} {lt : Value → Value → Bool} {Q : Value → Shared → Prop} (K : KdlSrc prog w T r d n P OK) (hh : A.handled = none) (hok : OK s.heap) (hn : n ≤ sizeLine)
    (hits : ∀ acc : Array Value, ItemsOf P acc n → acc.toList = its) (hlen : its.length = n) (as : Asks prog w s.heap (A.units + 2) its kd lt) (rv : Option Bool)
    (fin : ∀ (h' : Heap) (tk : Nat) (D : Addr) (e : Nat) (out : List Value), (∀ b o, s.heap.get? b = some o → h'.get? b = some o) → s.heap.objs.size ≤ D → h'.get? D = some (seqObj "list" out.toArray e) → out.Perm its → out.Pairwise (ordB (rv.getD false) lt) → Q (.ref D) { s with heap := h', toks := tk }) :
    wpAny (model prog w) A (call (.builtin "sorted") [.ref r] (kwOf rv)) Q E s := by
  have aft : ∀ (h' : Heap) (tk : Nat) (out : List Value) (vs : List Value), (∀ b o, s.heap.get? b = some o → h'.get? b = some o) → s.heap.objs.size < h'.objs.size → out.Perm its → out.Pairwise (ordB (rv.getD false) lt) → Q (.ref h'.objs.size) { s with heap := sortedHeap (h'.push (seqObj "list" its.toArray 0)) h'.objs.size its out.toArray, toks := tk } := by
    intro h' tk out vs hk hs po so
    obtain ⟨e, he⟩ := sh_me (h := h'.push (seqObj "list" its.toArray 0)) (a := h'.objs.size) (vs := its) (out := out.toArray) (Heap.get?_push_size _ rfl)
    exact fin _ tk _ e out (fun b o hb => sh_old (Nat.ne_of_lt (Heap.lt_size (hk b o hb))) (Heap.get?_push_of_some _ (hk b o hb))) (Nat.le_of_lt hs) he po so
  have kp : ∀ (h' : Heap), (∀ b o, s.heap.get? b = some o → h'.get? b = some o) → ∀ c o, s.heap.get? c = some o → c ≠ h'.objs.size ∧ (h'.push (seqObj "list" its.toArray 0)).get? c = some o := fun h' hk c o hc => ⟨Nat.ne_of_lt (Heap.lt_size (hk c o hc)), Heap.get?_push_of_some _ (hk c o hc)⟩
  have hz : its.length ≤ sizeLine := by rw [hlen]; exact hn
  cases rv with
  | none =>
    refine Calls.call_function_entry kind_sorted plain_sorted entry_sorted (args_sorted1 _) ?_
    unfold Builtin.«sorted»
    refine wpAny_bind (m := checkCount "sorted" 1 1 _) (wpAny_pure (wpAny_bind (gather (A := A.in1) K hh hok hn fun h' tk acc hk hs ha => ?_)))
    rw [hits acc ha]
    refine wpAny_bind (wpAny_newList ?_ hz)
    have me : (h'.push (seqObj "list" its.toArray 0)).get? h'.objs.size = some (seqObj "list" its.toArray 0) := Heap.get?_push_size _ rfl
    exact wpAny_bind (wpAny_holding (wpAny_call_entry slot_list_sort ⟨_, me, rfl⟩ entry_list_sort (sort_plain me as (Nat.le_refl _) (kp h' hk) hz fun out a1 a2 => ⟨_, rfl, wpAny_pure ⟨_, rfl, aft h' tk out its hk hs a1 a2⟩⟩) (args_list_sort _)))
  | some b =>
    refine call_function_entry_kw kind_sorted plain_sorted entry_sorted (args_sorted_rev _ _) ?_
    unfold Builtin.«sorted»
    refine wpAny_bind (m := checkCount "sorted" 1 1 _) (wpAny_pure (wpAny_bind (gather (A := A.in1) K hh hok hn fun h' tk acc hk hs ha => ?_)))
    rw [hits acc ha]
    refine wpAny_bind (wpAny_newList ?_ hz)
    have me : (h'.push (seqObj "list" its.toArray 0)).get? h'.objs.size = some (seqObj "list" its.toArray 0) := Heap.get?_push_size _ rfl
    exact wpAny_bind (wpAny_holding (wpAny_call_entry_kw slot_list_sort ⟨_, me, rfl⟩ entry_list_sort (sort_rev me as (Nat.le_refl _) (kp h' hk) hz fun out a1 a2 => ⟨_, rfl, wpAny_pure ⟨_, rfl, aft h' tk out its hk hs a1 a2⟩⟩) (args_list_sort_rev _ _)))
end
end L2

set_option Elab.async false
set_option linter.all false
set_option maxRecDepth 100000
set_option maxHeartbeats 4000000
namespace L2
open PySem PySem.Spec PyProof.Rows SimL SimS
mutual
/-- all numbers of a thing, in their order -/
def fl : PyData → List Int
  | .int i => [i]
  | .tuple ds => flA ds
  | .list ds => flA ds
  | _ => []
def flA : List PyData → List Int
  | [] => []
  | d :: ds => fl d ++ flA ds
end
theorem flA_ints : ∀ ns : List Int, flA (ns.map PyData.int) = ns
  | [] => by simp [flA]
  | n :: r => by simp [flA, fl, flA_ints r]
theorem cmA_ints : ∀ ns ms : List Int, cmA (ns.map PyData.int) (ms.map PyData.int) = true
  | [], [] => by simp [cmA]
  | [], _ :: _ => by simp [cmA]
  | _ :: _, [] => by simp [cmA]
  | n :: ns, m :: ms => by simp [cmA, cmD, cmA_ints ns ms]
theorem fl_tup (ns : List Int) : fl (tupD ns) = ns := by unfold tupD; simp [fl, flA_ints]
def lstD (ns : List Int) : PyData := .list (ns.map PyData.int)
theorem fl_lst (ns : List Int) : fl (lstD ns) = ns := by unfold lstD; simp [fl, flA_ints]
def termD (t : List Int × Int) : PyData := .tuple [tupD t.1, .int t.2]
theorem fl_term (t : List Int × Int) : fl (termD t) = t.1 ++ [t.2] := by unfold termD; simp [fl, flA, fl_tup]
theorem lay_tupD (ns : List Int) : (tupD ns).canLay0 = true ∧ (tupD ns).depth ≤ 60 := by
  unfold tupD; simp [PyData.canLay0, PyData.depth, lay_ints, dep_ints]
theorem lay_lstD (ns : List Int) : (lstD ns).canLay0 = true ∧ (lstD ns).depth ≤ 60 := by
  unfold lstD; simp [PyData.canLay0, PyData.depth, lay_ints, dep_ints]
/-- tuples of numbers, none empty -/
theorem srt_tups {nss : List (List Int)} (h : ∀ ns ∈ nss, ns ≠ []) : Srt (nss.map tupD) fl where
  lay := fun d hd => by obtain ⟨ns, _, rfl⟩ := List.mem_map.mp hd; exact lay_tupD ns
  cmp := fun d hd e he => by
    obtain ⟨ns, _, rfl⟩ := List.mem_map.mp hd
    obtain ⟨ms, _, rfl⟩ := List.mem_map.mp he
    rw [fl_tup, fl_tup]
    unfold tupD
    exact ⟨by simp only [cmD]; exact cmA_ints ns ms, by simp only [ltD]; exact ltA_ints ns ms⟩
  form := .inr (.inr fun d hd => by
    obtain ⟨ns, hn, rfl⟩ := List.mem_map.mp hd
    cases ns with
    | nil => exact absurd rfl (h _ hn)
    | cons i r => exact ⟨i, r, rfl⟩)
theorem eqvA_ints : ∀ ns ms : List Int, PyData.eqvAll (ns.map PyData.int) (ms.map PyData.int) = decide (ns = ms)
  | [], [] => by simp [PyData.eqvAll]
  | [], _ :: _ => by simp [PyData.eqvAll]
  | _ :: _, [] => by simp [PyData.eqvAll]
  | n :: ns, m :: ms => by
    simp only [List.map_cons, PyData.eqvAll]
    rw [eqvA_ints ns ms, eqv_int]
    by_cases h1 : n = m <;> by_cases h2 : ns = ms <;> simp [h1, h2]
section
variable {X : Cx} {pins : List (Addr × Obj)} {σ : St} {H : Hp} {s : Shared}
/-- the numbers of the keys of a dict -/
def KeysI (kvs : List (List Key × V)) (nss : List (List Int)) : Prop := kvs.map (·.1) = nss.map fun ns => ns.map Sum.inl
theorem keys_rows {xs : List (List Key × Addr × Value)} : ∀ {kvs : List (List Key × V)} {nss : List (List Int)}, KeysI kvs nss → Paired (fun (p : List Key × V) (q : List Key × Addr × Value) => p.1 = q.1 ∧ H q.2.1 = some (.tup (p.1.map kV)) ∧ RelV p.2 q.2.2) kvs xs →
    DpAll X.K H (xs.map fun x => V.ref x.2.1) (nss.map tupD) := by
  intro kvs nss hk pr
  induction pr generalizing nss with
  | nil =>
    cases nss with
    | nil => exact .nil
    | cons a b => cases hk
  | cons a b ih =>
    cases nss with
    | nil => cases hk
    | cons ns r =>
      obtain ⟨e1, e2⟩ := List.cons.inj hk
      refine .cons (.tup (SqT.of (a.2.1.trans ?_)) (dp_ints X.K H ns)) (ih e2)
      rename_i p q _ _
      have e1' : p.1 = List.map Sum.inl ns := e1
      rw [e1', List.map_map]
      rfl
theorem refs_vals : ∀ xs : List (List Key × Addr × Value), Vals (xs.map fun x => V.ref x.2.1) (xs.map fun x => Value.ref x.2.1)
  | [] => .nil
  | a :: b => .cons rfl (refs_vals b)
theorem keys_mem {xs : List (List Key × Addr × Value)} : ∀ {kvs : List (List Key × V)} {nss : List (List Int)}, KeysI kvs nss → Paired (fun (p : List Key × V) (q : List Key × Addr × Value) => p.1 = q.1 ∧ H q.2.1 = some (.tup (p.1.map kV)) ∧ RelV p.2 q.2.2) kvs xs →
    ∀ x ∈ xs, ∃ ns, H x.2.1 = some (.tup (intsV ns)) := by
  intro kvs nss hk pr
  induction pr generalizing nss with
  | nil => intro x hx; cases hx
  | cons a b ih =>
    cases nss with
    | nil => cases hk
    | cons ns r =>
      obtain ⟨e1, e2⟩ := List.cons.inj hk
      intro x hx
      rcases List.mem_cons.mp hx with rfl | hx
      · rename_i p _ _
        have e1' : p.1 = List.map Sum.inl ns := e1
        refine ⟨ns, a.2.1.trans ?_⟩
        rw [e1', List.map_map]
        rfl
      · exact ih e2 x hx
def rSortK (K : PySem.W.Frag) (b : Bool) (d : Addr) (H : Hp) (Q : VK) : Prop := ∃ (kvs : List (List Key × V)) (nss : List (List Int)), H d = some (.dT kvs) ∧ KeysI kvs nss ∧ (∀ ns ∈ nss, ns ≠ []) ∧ nss.length ≤ 100000 ∧
  ∀ (p : Addr) (rs : List V) (nss' : List (List Int)), nss'.Perm nss → nss'.Pairwise (fun x y => (if b then lexI x y else lexI y x) = false) → H p = none → DpAll K H rs (nss'.map tupD) → (∀ r ∈ rs, ∃ q ns, r = .ref q ∧ H q = some (.tup (intsV ns))) → Q (.ref p) (upd H p (.lst rs))
theorem Dp.fl_tup {K : PySem.W.Frag} {ds : List PyData} {nss : List (List Int)} (h : ∀ d ∈ ds, ∃ ns ∈ nss, d = tupD ns) : ds = (ds.map fl).map tupD := by
  induction ds with
  | nil => rfl
  | cons d r ih =>
    obtain ⟨ns, _, rfl⟩ := h d (by simp)
    rw [List.map_cons, List.map_cons, L2.fl_tup, ← ih fun x hx => h x (by simp [hx])]
theorem sortedK_rule {d : Addr} {Q : VK} (rv : Option Bool) (hc : X.calm = true) (hu : X.A.units + 64 < cLine) (I : Inv X pins σ H s) (h : rSortK X.K (rv.getD false) d H Q) :
    wpAny (model X.prog X.w) X.A (call (.builtin "sorted") [.ref d] (kwOf rv)) (EP X pins σ Q) X.xe s := by
  obtain ⟨kvs, nss, hd, hk, hne, hz, q⟩ := h
  obtain ⟨z, y, xs, pr, o, es, ep, ho, hx, hdt, he, _⟩ := (show ObjOk X.prog X.w H s.heap d (.dT kvs) from I.hok d _ hd)
  have dp := keys_rows (X := X) hk pr
  have vl : Vals (xs.map fun x => V.ref x.2.1) (xs.map fun x => Value.ref x.2.1) := by
    exact refs_vals xs
  have S := srt_tups hne
  obtain ⟨as, ra⟩ := Dp.readsAll I _ _ _ dp vl
  obtain ⟨kd, ak⟩ := S.asks (prog := X.prog) (w := X.w) ra (u := X.A.units + 2) (by omega)
  have l1 : es.size = xs.length := size_of_entries he
  have l2 : xs.length = nss.length := by have := dp.length; simpa using this
  obtain ⟨m1, m2, m3⟩ := rows_at I dp vl fun d hd => by
    obtain ⟨ns, _, rfl⟩ := List.mem_map.mp hd
    exact ⟨(lay_tupD ns).1, .inr ⟨_, rfl⟩⟩
  refine sorted_src (src_keys y hx hdt) (I.ok.hd hc) ho (by rw [l1, l2, sizeLine_eq]; omega) (its := xs.map fun x => Value.ref x.2.1) (fun acc ha => ?_) (by rw [List.length_map, l1]) ak rv fun h' tk D e out hk' hD hme po so => ?_
  · apply List.ext_getElem?
    intro i
    rw [Array.getElem?_toList, List.getElem?_map]
    by_cases hi : i < acc.size
    · obtain ⟨en, e1, e2⟩ := ha.2 i acc[i] (by simp [hi])
      have q := entry_at he i
      rw [e1] at q
      cases ex : xs[i]? with
      | none => rw [ex] at q; cases q
      | some x =>
        rw [ex] at q
        have q := Option.some.inj q
        rw [Array.getElem?_eq_getElem hi, e2, q]
        rfl
    · have h1 : acc.size = es.size := ha.1
      rw [Array.getElem?_eq_none (by omega), List.getElem?_eq_none (by omega)]
      rfl
  · have hmem : ∀ u ∈ out, u ∈ xs.map fun x => Value.ref x.2.1 := fun u hu => po.mem_iff.mp hu
    have hvals : Vals (out.map toV) out.toArray.toList := vals_of_refs fun u hu => (m3 u (hmem u hu)).1
    have hsz : (out.map toV).length ≤ sizeLine := by rw [List.length_map, po.length_eq, List.length_map, l2, sizeLine_eq]; omega
    have dpo : DpAll X.K H (out.map toV) (out.map (dOf s.heap)) := dpAll_map _ fun u hu => (m3 u (hmem u hu)).2
    have pm : (out.map (dOf s.heap)).Perm (nss.map tupD) := by rw [← m2]; exact po.map _
    have ed : out.map (dOf s.heap) = ((out.map (dOf s.heap)).map fl).map tupD := Dp.fl_tup (K := X.K) (nss := nss) fun d hd => by
      obtain ⟨ns, hn, e⟩ := List.mem_map.mp (pm.mem_iff.mp hd)
      exact ⟨ns, hn, e.symm⟩
    refine ⟨.ref _, upd H D (.lst (out.map toV)), I.laid (t' := tk) hk' hD ⟨hsz, out.toArray.toList, e, hvals, hme⟩, rfl, q _ _ ((out.map (dOf s.heap)).map fl) ?_ ?_ (I.hok.fresh hD) (ed ▸ dpo) ?_⟩
    · have := pm.map fl
      rw [List.map_map (f := tupD)] at this
      have ef : (fl ∘ tupD) = id := funext fun ns => L2.fl_tup ns
      rw [ef, List.map_id] at this
      exact this
    · rw [List.pairwise_map, List.pairwise_map]
      refine so.imp fun {x y} h => ?_
      unfold ordB ltOf at h
      cases hb : rv.getD false with
      | true => rw [hb] at h; exact h
      | false => rw [hb] at h; exact h
    · intro r hr
      obtain ⟨u, hu, rfl⟩ := List.mem_map.mp hr
      obtain ⟨x, hx', rfl⟩ := List.mem_map.mp (hmem u hu)
      obtain ⟨ns, hn⟩ := keys_mem hk pr x hx'
      exact ⟨x.2.1, ns, rfl, hn⟩
/-- sorted(d) of a dict with tuple keys -/
theorem cr_sortedK (hc : X.calm = true) (hu : X.A.units + 64 < cLine) : CallR X (.builtin "sorted") (fun vs H Q => ∃ d, vs = [V.ref d] ∧ rSortK X.K false d H Q) := by
  intro pins s σ H vs us Q I r h
  obtain ⟨d, rfl, h⟩ := h
  rw [Vals.ref1 r]
  exact sortedK_rule none hc hu I h
variable {e be : Expr} {t tk : TA} {p pos kp : Pos}
end
end L2

set_option Elab.async false
set_option linter.all false
set_option maxRecDepth 100000
namespace L2
open PySem PySem.Spec PyProof.Rows
/-! ### all orders of up to five things -/
def insP (x : Int) : List Int → List (List Int)
  | [] => [[x]]
  | y :: t => (x :: y :: t) :: (insP x t).map (y :: ·)
def allP : List Int → List (List Int)
  | [] => [[]]
  | x :: t => (allP t).flatMap (insP x)
theorem insP_mem (x : Int) : ∀ u v : List Int, u ++ x :: v ∈ insP x (u ++ v)
  | [], [] => by simp [insP]
  | [], y :: v => by simp [insP]
  | y :: u, v => by
    show y :: (u ++ x :: v) ∈ (x :: y :: (u ++ v)) :: (insP x (u ++ v)).map (y :: ·)
    exact List.mem_cons_of_mem _ (List.mem_map.mpr ⟨_, insP_mem x u v, rfl⟩)
theorem allP_mem : ∀ (L l : List Int), l.Perm L → l ∈ allP L
  | [], l, h => by rw [h.eq_nil]; simp [allP]
  | x :: t, l, h => by
    obtain ⟨u, v, rfl⟩ := List.append_of_mem (h.mem_iff.mpr (List.mem_cons_self))
    have h2 : (u ++ v).Perm t := (List.perm_middle.symm.trans h).cons_inv
    exact List.mem_flatMap.mpr ⟨u ++ v, allP_mem t _ h2, insP_mem x u v⟩
theorem POr.all {F : List Int → Bool} (h : ((List.range 6).all fun n => (allP (plainI n)).all F) = true) {ns : List Int} (po : POr ns) : F ns = true := by
  rw [List.all_eq_true] at h
  have h1 := h ns.length (List.mem_range.mpr (by have := po.five; omega))
  rw [List.all_eq_true] at h1
  exact h1 ns (allP_mem _ _ po.perm)
/-! ### joined, back -/
def joinL (os ps : List Int) : List Int := ps.map fun p => os.getD p.toNat 0
def placeL (os : List Int) (t : Int) : Nat := os.findIdx (· == t)
def backL (os : List Int) : List Int := (List.range os.length).map fun (t : Nat) => (placeL os (t : Int) : Int)
def chkB (ns : List Int) : Bool := decide ((backL ns).Perm (plainI ns.length)) && (decide (joinL ns (backL ns) = plainI ns.length) && decide (joinL (backL ns) ns = plainI ns.length))
theorem chkB_all : ((List.range 6).all fun n => (allP (plainI n)).all chkB) = true := by decide +kernel
theorem POr.chkB {ns : List Int} (po : POr ns) : (backL ns).Perm (plainI ns.length) ∧ joinL ns (backL ns) = plainI ns.length ∧ joinL (backL ns) ns = plainI ns.length := by
  have h := po.all chkB_all
  unfold L2.chkB at h
  simp only [Bool.and_eq_true, decide_eq_true_eq] at h
  exact h
theorem POr.back {ns : List Int} (po : POr ns) : POr (backL ns) := POr.of (m := ns.length) po.chkB.1 po.one po.five
end L2

set_option Elab.async false
set_option linter.all false
set_option maxRecDepth 100000
namespace L2
open PySem PySem.Spec PyProof.Rows
/-! ### data that are shown -/
structure Sm (k m : Nat) (d : PyData) : Prop where
  dp : d.depth ≤ k
  wt : d.weight ≤ m
  sh : d.showable = true
  nd : d.hasDict = false
  lv : d.leavesShort 100 = true
theorem Sm.mono {k m k' m' : Nat} {d : PyData} (h : Sm k m d) (hk : k ≤ k') (hm : m ≤ m') : Sm k' m' d := ⟨Nat.le_trans h.dp hk, Nat.le_trans h.wt hm, h.sh, h.nd, h.lv⟩
theorem Sm.non : Sm 0 0 .none := ⟨Nat.le_refl _, Nat.le_refl _, rfl, rfl, rfl⟩
theorem Sm.bl {b : Bool} : Sm 0 0 (.bool b) := ⟨Nat.le_refl _, Nat.le_refl _, rfl, rfl, rfl⟩
theorem log_of_lt {n k : Nat} (h : n < 2 ^ k) (hk : 0 < k) : n.log2 < k := by
  by_cases h0 : n = 0
  · subst h0; exact hk
  · exact (Nat.log2_lt h0).mpr h
theorem Sm.int {i : Int} (h : i.natAbs < 10 ^ 60) : Sm 0 200 (.int i) := by
  have hl : i.natAbs.log2 < 200 := log_of_lt (Nat.lt_of_lt_of_le h (by decide)) (by decide)
  refine ⟨Nat.le_refl _, ?_, ?_, rfl, ?_⟩
  · show (if i == 0 then 0 else i.natAbs.log2 + 1) ≤ 200
    split <;> omega
  · show decide (i.natAbs.log2 < 1920) = true
    exact decide_eq_true (by omega)
  · show decide ((PyData.shown (.int i)).length ≤ 100) = true
    refine decide_eq_true ?_
    have := int_text_length_le10 (a := i) (k := 60) (by decide) h
    show (Str.ofString (toString i)).length ≤ 100
    rw [PySem.ofString_length]; omega
theorem Sm.str {x : Str} (h : x.cps.size ≤ 50) (hc : (x.cps.toList.all fun c => decide (c < 16 ^ 8)) = true) : Sm 0 50 (.str x) := ⟨Nat.le_refl _, h, rfl, rfl, hc⟩
section
variable {k m : Nat}
theorem Sm.all : ∀ {xs : List PyData}, (∀ x ∈ xs, Sm k m x) → PyData.depthAll xs ≤ k ∧ PyData.weightAll xs ≤ (m + 1) * xs.length ∧ PyData.showableAll xs = true ∧ PyData.hasDictAll xs = false ∧ PyData.leavesShortAll 100 xs = true
  | [], _ => ⟨Nat.zero_le _, Nat.zero_le _, rfl, rfl, rfl⟩
  | x :: xs, h => by
    have hx := h x List.mem_cons_self
    obtain ⟨a, b, c, d, e⟩ := Sm.all fun y hy => h y (List.mem_cons_of_mem _ hy)
    refine ⟨?_, ?_, ?_, ?_, ?_⟩
    · show max x.depth (PyData.depthAll xs) ≤ k
      exact Nat.max_le.mpr ⟨hx.dp, a⟩
    · show x.weight + 1 + PyData.weightAll xs ≤ (m + 1) * (xs.length + 1)
      rw [Nat.mul_succ]
      have := hx.wt
      omega
    · show (x.showable && PyData.showableAll xs) = true
      rw [hx.sh, c]; rfl
    · show (x.hasDict || PyData.hasDictAll xs) = false
      rw [hx.nd, d]; rfl
    · show (x.leavesShort 100 && PyData.leavesShortAll 100 xs) = true
      rw [hx.lv, e]; rfl
theorem Sm.tuple {xs : List PyData} {n : Nat} (h : ∀ x ∈ xs, Sm k m x) (hn : xs.length ≤ n) : Sm (k + 1) ((m + 1) * n) (.tuple xs) := by
  obtain ⟨a, b, c, d, e⟩ := Sm.all h
  exact ⟨Nat.succ_le_succ a, Nat.le_trans b (Nat.mul_le_mul_left _ hn), c, d, e⟩
theorem Sm.list {xs : List PyData} {n : Nat} (h : ∀ x ∈ xs, Sm k m x) (hn : xs.length ≤ n) : Sm (k + 1) ((m + 1) * n) (.list xs) := by
  obtain ⟨a, b, c, d, e⟩ := Sm.all h
  exact ⟨Nat.succ_le_succ a, Nat.le_trans b (Nat.mul_le_mul_left _ hn), c, d, e⟩
end
theorem Sm.fits {d : PyData} (h : Sm 40 100000 d) : d.shown.length ≤ sizeLine := by
  have := PyData.shown_le 100 (by decide) d h.lv
  have h2 := h.wt
  have h3 : sizeLine = 16777216 := by decide
  rw [h3]
  omega
section
variable {X : Cx}
end
end L2

set_option Elab.async false
set_option linter.all false
set_option maxRecDepth 100000
namespace L2
open PySem PySem.Spec PyProof.Rows
section
variable {prog : Program} {w : World} {A : Around} {E : Value → Shared → Prop} {s : Shared}
end
section
variable {X : Cx}
end
end L2

set_option Elab.async false
set_option linter.all false
set_option maxRecDepth 100000
namespace L2
open PySem PySem.Spec PyProof.Rows
/-! ### what is an order, told otherwise -/
theorem eqv_ints : ∀ a b : List Int, PyData.eqvAll (a.map .int) (b.map .int) = decide (a = b)
  | [], [] => rfl
  | [], _ :: _ => rfl
  | _ :: _, [] => rfl
  | x :: a, y :: b => by
    show (x == y && PyData.eqvAll (a.map .int) (b.map .int)) = _
    rw [eqv_ints a b]
    by_cases h : x = y
    · subst h
      by_cases h2 : a = b
      · subst h2; simp
      · simp [h2]
    · simp [h]
/-! ### data that are small -/
section
variable {K : PySem.W.Frag}
def IV (K : PySem.W.Frag) (H : Hp) (x : V) : Prop := ∃ d, Dp K H x d ∧ Sm 1 2000 d
def GV (K : PySem.W.Frag) (H : Hp) (x : V) : Prop := ∃ d, Dp K H x d ∧ Sm 2 30000 d
theorem IV.same {H H' : Hp} {x : V} (h : IV K H x) (s : Same H H') : IV K H' x := let ⟨d, a, b⟩ := h; ⟨d, a.same s, b⟩
theorem GV.same {H H' : Hp} {x : V} (h : GV K H x) (s : Same H H') : GV K H' x := let ⟨d, a, b⟩ := h; ⟨d, a.same s, b⟩
theorem IV.int {H : Hp} {i : Int} (h : i.natAbs < 10 ^ 60) : IV K H (.int i) := ⟨_, .int i, (Sm.int h).mono (by decide) (by decide)⟩
theorem IV.bl {H : Hp} {b : Bool} : IV K H (.bl b) := ⟨_, .bl b, Sm.bl.mono (by decide) (by decide)⟩
theorem IV.non {H : Hp} : IV K H .non := ⟨_, .non, Sm.non.mono (by decide) (by decide)⟩
theorem IV.str {H : Hp} {x : Str} (h : x.cps.size ≤ 50) (hc : (x.cps.toList.all fun c => decide (c < 16 ^ 8)) = true) : IV K H (.str x) := ⟨_, .str x, (Sm.str h hc).mono (by decide) (by decide)⟩
/-- its kind -/
theorem GV.kd {H : Hp} {x : V} (h : GV K H x) : ∃ k, Kd K H x k ∧ (k = "tuple" → ∃ a xs, x = .ref a ∧ SqT K H a xs ∧ Known K H xs) := by
  obtain ⟨d, hd, hs⟩ := h
  have kn : ∀ {xs : List V} {ds : List PyData}, DpAll K H xs ds → Known K H xs := by
    intro xs
    induction xs with
    | nil => intro ds _ x hx; cases hx
    | cons y r ih =>
      intro ds h x hx
      cases h with
      | cons h1 h2 =>
        rcases List.mem_cons.mp hx with rfl | hx
        · cases h1 with
          | non => exact ⟨"NoneType", rfl⟩
          | bl b => exact ⟨"bool", rfl⟩
          | int i => exact ⟨"int", rfl⟩
          | str s => exact ⟨"str", rfl⟩
          | lst a b => exact ⟨"list", .inl ⟨rfl, _, a⟩⟩
          | tup a b => exact ⟨"tuple", .inr ⟨rfl, _, a⟩⟩
        · exact ih h2 x hx
  cases hd with
  | non => exact ⟨"NoneType", rfl, fun h => absurd h (by decide)⟩
  | bl b => exact ⟨"bool", rfl, fun h => absurd h (by decide)⟩
  | int i => exact ⟨"int", rfl, fun h => absurd h (by decide)⟩
  | str s => exact ⟨"str", rfl, fun h => absurd h (by decide)⟩
  | lst a b => exact ⟨"list", .inl ⟨rfl, _, a⟩, fun h => absurd h (by decide)⟩
  | tup a b =>
    exact ⟨"tuple", .inr ⟨rfl, _, a⟩, fun _ => ⟨_, _, rfl, a, kn b⟩⟩
end
end L2

set_option Elab.async false
set_option linter.all false
set_option maxRecDepth 100000
set_option maxHeartbeats 4000000
namespace L2
open PySem PySem.Spec PyProof.Rows
section
variable {X : Cx}
/-- x in a list of data -/
def rInD (K : PySem.W.Frag) (neg : Bool) : R2 := fun x y H Q => ∃ (ds : List PyData) (d : PyData), Dp K H x d ∧ Dp K H y (.list ds) ∧ SeqAt.shaped (.list ds) = true ∧ SeqAt.shaped d = true ∧ Q (.bl (if neg then !(ds.any fun e => PyData.eqv e d) else ds.any fun e => PyData.eqv e d)) H
theorem op_inD (hu : X.A.units + 64 < cLine) : OpR X (compareOp .In) (rInD X.K false) := by
  intro pins s σ H x y v u Q I rx ry h
  obtain ⟨ds, d, hd, he, sd, se, q⟩ := h
  obtain ⟨as, r1⟩ := Dp.reads I d x v hd rx
  obtain ⟨bs, r2⟩ := Dp.reads I (.list ds) y u he ry
  have hl := SeqAt.canLay_of_shaped sd
  exact SeqAt.in_list_reads r2 r1 (by simpa [PyData.canLay0] using hl) (SeqAt.canLay_of_shaped se) (by have h := SeqAt.depth_of_shaped sd; simp only [PyData.depth] at h; omega) ⟨.bl _, H, I, rfl, q⟩
end
theorem eqv_tupD (a b : List Int) : PyData.eqv (tupD a) (tupD b) = decide (a = b) := by
  unfold tupD
  rw [← eqv_ints a b]
  rfl
end L2

set_option Elab.async false
set_option linter.all false
set_option maxRecDepth 100000
set_option maxHeartbeats 4000000
namespace L2
open PySem PySem.Spec PyProof.Rows
/-- how many of the first are as great -/
def cntN (ns : List Int) (p : Nat) (h : Int) : Nat := ((ns.take p).filter fun x => decide (h ≤ x)).length
/-- more are ahead in the one -/
def More (os ps : List Int) (p h : Nat) : Prop := cntN ps p h < cntN os p h
instance (os ps : List Int) (p h : Nat) : Decidable (More os ps p h) := by unfold More; infer_instance
/-- what above_at tells -/
def AbN (os ps : List Int) : Option (Nat × Nat) → Prop
  | none => ∀ p h, p ≤ os.length → h ≤ os.length → ¬ More os ps p h
  | some (p, h) => p ≤ os.length ∧ h ≤ os.length ∧ More os ps p h ∧ (∀ p' h', p' < p → h' ≤ os.length → ¬ More os ps p' h') ∧ ∀ h', h' < h → ¬ More os ps p h'
theorem AbN.uniq {os ps : List Int} {r r' : Option (Nat × Nat)} (a : AbN os ps r) (b : AbN os ps r') : r = r' := by
  match r, r', a, b with
  | none, none, _, _ => rfl
  | none, some (p, h), a, b => exact absurd b.2.2.1 (a p h b.1 b.2.1)
  | some (p, h), none, a, b => exact absurd a.2.2.1 (b p h a.1 a.2.1)
  | some (p, h), some (p', h'), a, b =>
    obtain ⟨a1, a2, a3, a4, a5⟩ := a
    obtain ⟨b1, b2, b3, b4, b5⟩ := b
    have ep : p = p' := by
      rcases Nat.lt_trichotomy p p' with h1 | h1 | h1
      · exact absurd a3 (b4 _ _ h1 a2)
      · exact h1
      · exact absurd b3 (a4 _ _ h1 b2)
    subst ep
    have eh : h = h' := by
      rcases Nat.lt_trichotomy h h' with h1 | h1 | h1
      · exact absurd a3 (b5 _ h1)
      · exact h1
      · exact absurd b3 (a5 _ h1)
    subst eh
    rfl
theorem AbN.self (os : List Int) : AbN os os none := fun p h _ _ hm => absurd hm (Nat.lt_irrefl _)
/-- two things exchanged -/
def tradeL (ns : List Int) (i j : Nat) : List Int := (ns.set i (ns.getD j 0)).set j (ns.getD i 0)
theorem tradeL_len (ns : List Int) (i j : Nat) : (tradeL ns i j).length = ns.length := by unfold tradeL; simp
def chkT (ns : List Int) : Bool := (List.range ns.length).all fun i => (List.range ns.length).all fun j => decide ((tradeL ns i j).Perm (plainI ns.length))
theorem chkT_all : ((List.range 6).all fun n => (allP (plainI n)).all chkT) = true := by decide +kernel
theorem POr.trade {ns : List Int} (po : POr ns) {i j : Nat} (hi : i < ns.length) (hj : j < ns.length) : POr (tradeL ns i j) := by
  have h := po.all chkT_all
  unfold chkT at h
  rw [List.all_eq_true] at h
  have h2 := h i (List.mem_range.mpr hi)
  rw [List.all_eq_true] at h2
  exact POr.of (m := ns.length) (of_decide_eq_true (h2 j (List.mem_range.mpr hj))) po.one po.five
end L2

set_option Elab.async false
set_option linter.all false
set_option maxRecDepth 100000
namespace L2
open PySem PySem.Spec PyProof.Rows
/-! ### orders reckoned -/
/-! ### wrong pairs, counted -/
def invN (ns : List Int) : Nat := (codeN ns).sum
/-! ### one order's facts -/
def turnL (n : Nat) : List Int := (plainI n).reverse
def wideL (ns : List Int) (m : Nat) : List Int := ns ++ (List.range (m - ns.length)).map fun (i : Nat) => ((ns.length + i : Nat) : Int)
def lexb : List (Int × Int) → Bool
  | [] => true
  | [_] => true
  | p :: q :: t => (decide (p.1 < q.1) || (decide (p.1 = q.1) && decide (p.2 < q.2))) && lexb (q :: t)
def fallC (ns : List Int) : List Nat := (List.range ((codeN ns).length - 1)).filter fun k => decide (((codeN ns).getD (k + 1) 0 : Int) < ((codeN ns).getD k 0 : Int))
structure ChkO (c : List Int) : Prop where
  bb : backL (backL c) = c
  wl : (wpP c).length = invN c
  bi : invN (backL c) = invN c
  t1 : invN c + invN (joinL c (turnL c.length)) = c.length * (c.length - 1) / 2
  t2 : invN c + invN (joinL (turnL c.length) c) = c.length * (c.length - 1) / 2
  ws : lexb (wpP (backL c)) = true
  wp : (wpP (backL c)).Perm ((wpP c).map fun p => (c.getD p.2.toNat 0, c.getD p.1.toNat 0))
  fa : faN c = fallC c
  wi : ∀ m, m < 6 → c.length ≤ m → wpP (wideL c m) = wpP c ∧ codeN (wideL c m) = codeN c ++ List.replicate (m - c.length) 0 ∧ backL (wideL c m) = wideL (backL c) m ∧ (wideL c m).Perm (plainI m)
end L2

set_option Elab.async false
set_option linter.all false
set_option maxRecDepth 100000
namespace L2
open PySem PySem.Spec PyProof.Rows
end L2

set_option Elab.async false
set_option linter.all false
set_option maxRecDepth 100000
set_option maxHeartbeats 4000000
namespace L2
open PySem PySem.Spec PyProof.Rows
/-- steps up: all trades that have one wrong pair more -/
def tradesL (ns : List Int) : List (List Int) := (List.range ns.length).flatMap fun i => (List.range (ns.length - (i + 1))).map fun j => tradeL ns i (i + 1 + j)
def upB (ns os : List Int) : Bool := decide ((wpP os).length = (wpP ns).length + 1)
def upsL (ns : List Int) : List (List Int) := (tradesL ns).filter (upB ns)
theorem tradesL_mem {ns os : List Int} (po : POr ns) (h : os ∈ tradesL ns) : POr os ∧ os.length = ns.length := by
  unfold tradesL at h
  obtain ⟨i, hi, h⟩ := List.mem_flatMap.mp h
  obtain ⟨j, hj, rfl⟩ := List.mem_map.mp h
  have h1 := List.mem_range.mp hi
  have h2 := List.mem_range.mp hj
  exact ⟨po.trade (by omega) (by omega), tradeL_len _ _ _⟩
theorem upsL_por {ns os : List Int} (po : POr ns) (h : os ∈ upsL ns) : POr os ∧ os.length = ns.length := tradesL_mem po (List.mem_filter.mp h).1
theorem range_get {α : Type} (l : List α) (d : α) : (List.range l.length).map (fun k => l.getD k d) = l := by
  apply List.ext_getElem?
  intro i
  rw [List.getElem?_map]
  by_cases h : i < l.length
  · rw [List.getElem?_range h, List.getElem?_eq_getElem h]
    show some (l.getD i d) = _
    rw [List.getD_eq_getElem?_getD, List.getElem?_eq_getElem h]; rfl
  · rw [List.getElem?_eq_none (by simp; omega), List.getElem?_eq_none (by omega)]; rfl
/-- all but the one list -/
def oneH (E : Addr) : Hp := fun a => if a = E then some (.lst []) else none
theorem oneH_at (E : Addr) : oneH E E ≠ none := by unfold oneH; rw [if_pos rfl]; simp
theorem getD_some {α : Type} {l : List α} {i : Nat} {x d : α} (h : l[i]? = some x) : l.getD i d = x := by rw [List.getD_eq_getElem?_getD, h]; rfl
theorem DpAll.tups {K : PySem.W.Frag} {H : Hp} {xs : List V} {nss : List (List Int)} {i : Nat} {x : V} (h : DpAll K H xs (nss.map tupD)) (e : xs[i]? = some x) : ∃ ns a, nss[i]? = some ns ∧ x = .ref a ∧ SqT K H a (intsV ns) := by
  obtain ⟨d, ed, hd⟩ := h.get e
  rw [List.getElem?_map] at ed
  cases ep : nss[i]? with
  | none => rw [ep] at ed; cases ed
  | some ns =>
    rw [ep] at ed
    have ed : tupD ns = d := Option.some.inj ed
    subst ed
    obtain ⟨a, rfl, ha⟩ := Dp.tup_ints (ns := ns) hd
    exact ⟨ns, a, rfl, rfl, ha⟩
end L2

set_option Elab.async false
set_option linter.all false
set_option maxRecDepth 100000
set_option maxHeartbeats 4000000
namespace L2
open PySem PySem.Spec PyProof.Rows
/-- below, place by place -/
def cells (n : Nat) : List (Nat × Nat) := (List.range (n + 1)).flatMap fun p => (List.range (n + 1)).map fun h => (p, h)
def cntsL (os : List Int) : List Nat := (cells os.length).map fun c => cntN os c.1 (c.2 : Nat)
def leL : List Nat → List Nat → Bool
  | a :: s, b :: t => decide (a ≤ b) && leL s t
  | _, _ => true
theorem leL_map {α : Type} (f g : α → Nat) : ∀ l : List α, leL (l.map f) (l.map g) = true ↔ ∀ c ∈ l, f c ≤ g c
  | [] => by simp [leL]
  | a :: t => by
    have ih := leL_map f g t
    simp only [List.map_cons, leL, Bool.and_eq_true, decide_eq_true_eq, List.mem_cons, forall_eq_or_imp, ih]
theorem mem_cells {n p h : Nat} : (p, h) ∈ cells n ↔ p ≤ n ∧ h ≤ n := by
  unfold cells
  simp only [List.mem_flatMap, List.mem_range, List.mem_map, Prod.mk.injEq]
  constructor
  · rintro ⟨a, ha, b, hb, rfl, rfl⟩; omega
  · rintro ⟨h1, h2⟩; exact ⟨p, by omega, h, by omega, rfl, rfl⟩
theorem below_le {os ps : List Int} (el : os.length = ps.length) : AbN os ps none ↔ leL (cntsL os) (cntsL ps) = true := by
  unfold cntsL
  rw [← el, leL_map]
  constructor
  · intro h c hc
    obtain ⟨p, k⟩ := c
    obtain ⟨h1, h2⟩ := mem_cells.mp hc
    have := h p k h1 h2
    unfold More at this
    show cntN os p k ≤ cntN ps p k
    omega
  · intro h p k h1 h2 hm
    have := h (p, k) (mem_cells.mpr ⟨h1, h2⟩)
    unfold More at hm
    have this : cntN os p k ≤ cntN ps p k := this
    omega
/-- below, as a truth -/
def belB (os ps : List Int) : Bool := leL (cntsL os) (cntsL ps)
theorem belB_iff {os ps : List Int} (el : os.length = ps.length) : belB os ps = true ↔ AbN os ps none := (below_le el).symm
theorem chunk_all {α : Type} (F : α → Bool) (l : List α) (c m : Nat) (hl : l.length ≤ c * m) (h : ∀ i, i < m → ((l.drop (c * i)).take c).all F = true) : l.all F = true := by
  rw [List.all_eq_true]
  intro x hx
  obtain ⟨k, hk⟩ := List.getElem?_of_mem hx
  have hkl : k < l.length := (List.getElem?_eq_some_iff.mp hk).1
  have hc : 0 < c := by
    rcases Nat.eq_zero_or_pos c with e | e
    · subst e; omega
    · exact e
  have hi : k / c < m := (Nat.div_lt_iff_lt_mul hc).mpr (by rw [Nat.mul_comm]; omega)
  have hh := h (k / c) hi
  rw [List.all_eq_true] at hh
  refine hh x (List.mem_of_getElem? (i := k % c) ?_)
  rw [List.getElem?_take, if_pos (Nat.mod_lt _ hc), List.getElem?_drop, Nat.div_add_mod]
  exact hk
theorem six_all {F : List Int → Bool} (h : ((List.range 5).all fun n => (allP (plainI n)).all F) = true) (h5 : (allP (plainI 5)).all F = true) : ((List.range 6).all fun n => (allP (plainI n)).all F) = true := by
  rw [show List.range 6 = List.range 5 ++ [5] from List.range_succ, List.all_append, h, Bool.true_and]
  simp only [List.all_cons, List.all_nil, Bool.and_true]
  exact h5
theorem len5 : (allP (plainI 5)).length ≤ 12 * 10 := by decide +kernel
def chkEnd (os : List Int) : Bool := belB (plainI os.length) os && (belB os (plainI os.length).reverse && (decide ((wpP os).length ≤ 10)))
theorem chkEnd_all_lt : ((List.range 5).all fun n => (allP (plainI n)).all chkEnd) = true := by decide +kernel
theorem chkEnd_all_0 : (((allP (plainI 5)).drop (12 * 0)).take 12).all chkEnd = true := by decide +kernel
theorem chkEnd_all_1 : (((allP (plainI 5)).drop (12 * 1)).take 12).all chkEnd = true := by decide +kernel
theorem chkEnd_all_2 : (((allP (plainI 5)).drop (12 * 2)).take 12).all chkEnd = true := by decide +kernel
theorem chkEnd_all_3 : (((allP (plainI 5)).drop (12 * 3)).take 12).all chkEnd = true := by decide +kernel
theorem chkEnd_all_4 : (((allP (plainI 5)).drop (12 * 4)).take 12).all chkEnd = true := by decide +kernel
theorem chkEnd_all_5 : (((allP (plainI 5)).drop (12 * 5)).take 12).all chkEnd = true := by decide +kernel
theorem chkEnd_all_6 : (((allP (plainI 5)).drop (12 * 6)).take 12).all chkEnd = true := by decide +kernel
theorem chkEnd_all_7 : (((allP (plainI 5)).drop (12 * 7)).take 12).all chkEnd = true := by decide +kernel
theorem chkEnd_all_8 : (((allP (plainI 5)).drop (12 * 8)).take 12).all chkEnd = true := by decide +kernel
theorem chkEnd_all_9 : (((allP (plainI 5)).drop (12 * 9)).take 12).all chkEnd = true := by decide +kernel
theorem chkEnd_all : ((List.range 6).all fun n => (allP (plainI n)).all chkEnd) = true := six_all chkEnd_all_lt (chunk_all _ _ 12 10 len5 fun i hi => match i, hi with
  | 0, _ => chkEnd_all_0
  | 1, _ => chkEnd_all_1
  | 2, _ => chkEnd_all_2
  | 3, _ => chkEnd_all_3
  | 4, _ => chkEnd_all_4
  | 5, _ => chkEnd_all_5
  | 6, _ => chkEnd_all_6
  | 7, _ => chkEnd_all_7
  | 8, _ => chkEnd_all_8
  | 9, _ => chkEnd_all_9
  | n + 10, h => absurd h (by omega))
end L2

set_option Elab.async false
set_option linter.all false
set_option maxRecDepth 100000
set_option maxHeartbeats 4000000
namespace L2
open PySem PySem.Spec PyProof.Rows
theorem bel_iff {os ps : List Int} : AbN os ps none ↔ ∀ p h : Nat, p ≤ os.length → h ≤ os.length → cntN os p h ≤ cntN ps p h :=
  ⟨fun a p h hp hh => by have := a p h hp hh; unfold More at this; omega, fun a p h hp hh hm => by have := a p h hp hh; unfold More at hm; omega⟩
theorem AbN.trans {a b c : List Int} (el : a.length = b.length) (h1 : AbN a b none) (h2 : AbN b c none) : AbN a c none :=
  bel_iff.mpr fun p h hp hh => Nat.le_trans (bel_iff.mp h1 p h hp hh) (bel_iff.mp h2 p h (el ▸ hp) (el ▸ hh))
theorem up_len {a u : List Int} (h : u ∈ upsL a) : (wpP u).length = (wpP a).length + 1 := of_decide_eq_true (List.mem_filter.mp h).2
theorem por_end {os : List Int} (po : POr os) : AbN (plainI os.length) os none ∧ AbN os (plainI os.length).reverse none ∧ (wpP os).length ≤ 10 := by
  have h3 := po.all chkEnd_all
  unfold chkEnd at h3
  rw [Bool.and_eq_true, Bool.and_eq_true] at h3
  exact ⟨(belB_iff (plainI_len _)).mp h3.1, (belB_iff (by rw [List.length_reverse, plainI_len])).mp h3.2.1, of_decide_eq_true h3.2.2⟩
/-! ### falls lifted -/
def b1 (h x : Int) : Nat := if h ≤ x then 1 else 0
theorem b1_le (h x : Int) : b1 h x ≤ 1 := by unfold b1; split <;> omega
theorem cnt_zero (ns : List Int) (h : Int) : cntN ns 0 h = 0 := rfl
theorem cnt_cons (a : Int) (r : List Int) (p : Nat) (h : Int) : cntN (a :: r) (p + 1) h = b1 h a + cntN r p h := by
  unfold cntN b1
  rw [List.take_succ_cons, List.filter_cons]
  by_cases hc : h ≤ a
  · rw [if_pos (decide_eq_true hc), if_pos hc, List.length_cons]; omega
  · rw [if_neg (by rw [decide_eq_false hc]; decide), if_neg hc]; omega
theorem cnt_step : ∀ {ns : List Int} {p : Nat} {x : Int} (h : Int), ns[p]? = some x → cntN ns (p + 1) h = cntN ns p h + b1 h x
  | [], p, x, h, e => by simp at e
  | a :: r, 0, x, h, e => by
    have e : some a = some x := e
    cases e
    rw [cnt_cons, cnt_zero, cnt_zero]; omega
  | a :: r, p + 1, x, h, e => by
    have ih := cnt_step h (show r[p]? = some x from e)
    rw [cnt_cons, cnt_cons, ih]; omega
theorem cnt_swap : ∀ {ns : List Int} {k : Nat} {x y : Int} (p : Nat) (h : Int), ns[k]? = some x → ns[k + 1]? = some y → cntN (swapAt ns k) p h = if p = k + 1 then cntN ns k h + b1 h y else cntN ns p h
  | [], k, x, y, p, h, e1, e2 => by simp at e1
  | [a], 0, x, y, p, h, e1, e2 => by simp at e2
  | a :: b :: r, 0, x, y, p, h, e1, e2 => by
    have e1 : some a = some x := e1
    have e2 : some b = some y := e2
    cases e1; cases e2
    show cntN (b :: a :: r) p h = _
    match p with
    | 0 => rfl
    | 1 => rw [if_pos rfl, cnt_cons, cnt_zero, cnt_zero]; omega
    | p + 2 => rw [if_neg (by omega), cnt_cons, cnt_cons, cnt_cons, cnt_cons]; omega
  | a :: r, k + 1, x, y, p, h, e1, e2 => by
    rw [swapAt_succ]
    match p with
    | 0 => rfl
    | p + 1 =>
      rw [cnt_cons, cnt_swap p h (show r[k]? = some x from e1) (show r[k + 1]? = some y from e2), cnt_cons, cnt_cons]
      by_cases hp : p = k + 1
      · rw [if_pos hp, if_pos (by omega)]; omega
      · rw [if_neg hp, if_neg (by omega)]
section
variable {l w : List Int} {k : Nat} {x y u v : Int}
theorem lift_down (el : l.length = w.length) (e1 : l[k]? = some x) (e2 : l[k + 1]? = some y) (f1 : w[k]? = some u) (f2 : w[k + 1]? = some v) (hw : v < u) (hl : x < y) :
    AbN l w none ↔ AbN l (swapAt w k) none := by
  have hk : k + 1 < l.length := (List.getElem?_eq_some_iff.mp e2).1
  rw [bel_iff, bel_iff]
  constructor
  · intro H p h hp hh
    rw [cnt_swap p h f1 f2]
    by_cases c : p = k + 1
    · rw [if_pos c, c, cnt_step h e1]
      have a0 := H k h (by omega) hh
      have a2 := H (k + 2) h (by omega) hh
      rw [cnt_step h e2, cnt_step h e1, cnt_step h f2, cnt_step h f1] at a2
      have : b1 h x ≤ b1 h y := by unfold b1; split <;> split <;> omega
      have := b1_le h x; have := b1_le h y; have := b1_le h u; have := b1_le h v
      have : b1 h v ≤ b1 h u := by unfold b1; split <;> split <;> omega
      omega
    · rw [if_neg c]; exact H p h hp hh
  · intro H p h hp hh
    have := H p h hp hh
    rw [cnt_swap p h f1 f2] at this
    by_cases c : p = k + 1
    · rw [if_pos c] at this
      rw [c] at this
      have : b1 h v ≤ b1 h u := by unfold b1; split <;> split <;> omega
      rw [c, cnt_step h f1]
      omega
    · rw [if_neg c] at this; exact this
theorem lift_both (el : l.length = w.length) (e1 : l[k]? = some x) (e2 : l[k + 1]? = some y) (f1 : w[k]? = some u) (f2 : w[k + 1]? = some v) (hw : v < u) (hl : y < x) :
    AbN l w none ↔ AbN (swapAt l k) (swapAt w k) none := by
  have hk : k + 1 < l.length := (List.getElem?_eq_some_iff.mp e2).1
  rw [bel_iff, bel_iff, swapAt_len]
  constructor
  · intro H p h hp hh
    rw [cnt_swap p h e1 e2, cnt_swap p h f1 f2]
    by_cases c : p = k + 1
    · rw [if_pos c, if_pos c]
      have a0 := H k h (by omega) hh
      have a2 := H (k + 2) h (by omega) hh
      rw [cnt_step h e2, cnt_step h e1, cnt_step h f2, cnt_step h f1] at a2
      have : b1 h y ≤ b1 h x := by unfold b1; split <;> split <;> omega
      have := b1_le h x; have := b1_le h y; have := b1_le h u; have := b1_le h v
      have : b1 h v ≤ b1 h u := by unfold b1; split <;> split <;> omega
      omega
    · rw [if_neg c, if_neg c]; exact H p h hp hh
  · intro H p h hp hh
    have a1 := H p h hp hh
    rw [cnt_swap p h e1 e2, cnt_swap p h f1 f2] at a1
    by_cases c : p = k + 1
    · rw [if_pos c, if_pos c] at a1
      have a0 := H k h (by omega) hh
      have a2 := H (k + 2) h (by omega) hh
      rw [cnt_swap k h e1 e2, cnt_swap k h f1 f2, if_neg (by omega), if_neg (by omega)] at a0
      rw [cnt_swap (k + 2) h e1 e2, cnt_swap (k + 2) h f1 f2, if_neg (by omega), if_neg (by omega)] at a2
      rw [cnt_step h e2, cnt_step h e1, cnt_step h f2, cnt_step h f1] at a2
      have : b1 h y ≤ b1 h x := by unfold b1; split <;> split <;> omega
      have := b1_le h x; have := b1_le h y; have := b1_le h u; have := b1_le h v
      have : b1 h v ≤ b1 h u := by unfold b1; split <;> split <;> omega
      rw [c, cnt_step h e1, cnt_step h f1]
      omega
    · rw [if_neg c, if_neg c] at a1; exact a1
end
theorem por_swap {ns : List Int} (po : POr ns) (k : Nat) : POr (swapAt ns k) := ⟨by rw [swapAt_len]; exact po.one, by rw [swapAt_len]; exact po.five, by rw [swapAt_len]; exact (swapAt_perm ns k).trans po.perm⟩
end L2

set_option Elab.async false
set_option linter.all false
set_option maxRecDepth 100000
set_option maxHeartbeats 4000000
namespace L2
open PySem PySem.Spec PyProof.Rows
section
variable {K : PySem.W.Frag}
/-- a tuple is no list -/
theorem SqT.ne {H : Hp} {c : Addr} {xs : List V} {H' : Hp} (h : SqT K H c xs) (k : ∀ b o, (∀ ys, o ≠ .lst ys) → H b = some o → H' b = some o) : SqT K H' c xs := by
  rcases h with (h | ⟨o, h⟩) | h
  · exact .inl (.inl (k _ _ (fun ys z => by cases z) h))
  · exact .inl (.inr ⟨o, k _ _ (fun ys z => by cases z) h⟩)
  · exact .inr h
theorem SqT.but {H H' : Hp} {c p : Addr} {xs rs : List V} (h : SqT K H c xs) (hp : H p = some (.lst rs)) (sb : ∀ b o, b ≠ p → H b = some o → H' b = some o) : SqT K H' c xs := h.ne fun b o ho e => by
  have nb : b ≠ p := fun z => by rw [z, hp] at e; cases e; exact ho _ rfl
  exact sb b o nb e
end
/-- a climb -/
structure Climb (os ps : List Int) (nss : List (List Int)) : Prop where
  ne : ∃ t, nss = os :: t
  last : ∃ t, nss = t ++ [ps]
  up : ∀ i x y, nss[i]? = some x → nss[i + 1]? = some y → y ∈ upsL x
  por : ∀ x ∈ nss, POr x ∧ x.length = os.length
  len : nss.length + (wpP os).length = (wpP ps).length + 1
theorem Climb.start {os : List Int} (po : POr os) : Climb os os [os] := ⟨⟨[], rfl⟩, ⟨[], rfl⟩, fun i x y h1 h2 => by simp at h2, fun x hx => by rw [List.mem_singleton] at hx; subst hx; exact ⟨po, rfl⟩, by simp; omega⟩
theorem Climb.few {os ps : List Int} {nss : List (List Int)} (h : Climb os ps nss) (pp : POr ps) : nss.length ≤ 11 := by
  have := h.len
  have := (por_end pp).2.2
  omega
theorem Climb.step {os c s : List Int} {nss : List (List Int)} (h : Climb os c nss) (hs : s ∈ upsL c) (pc : POr c) (lc : c.length = os.length) : Climb os s (nss ++ [s]) := by
  obtain ⟨t, et⟩ := h.ne
  obtain ⟨t', et'⟩ := h.last
  refine ⟨⟨t ++ [s], by rw [et]; rfl⟩, ⟨nss, rfl⟩, fun i x y h1 h2 => ?_, fun x hx => ?_, ?_⟩
  · by_cases hi : i + 1 < nss.length
    · rw [List.getElem?_append_left (by omega)] at h1
      rw [List.getElem?_append_left hi] at h2
      exact h.up i x y h1 h2
    · have hi2 : i + 1 < (nss ++ [s]).length := (List.getElem?_eq_some_iff.mp h2).1
      rw [List.length_append] at hi2
      have ei : i + 1 = nss.length := by simp at hi2; omega
      rw [List.getElem?_append_right (by omega), ei, Nat.sub_self] at h2
      have h2 : some s = some y := h2
      cases h2
      rw [List.getElem?_append_left (by omega)] at h1
      have el : nss.length = t'.length + 1 := by rw [et']; simp
      rw [et', List.getElem?_append_right (by omega), show i - t'.length = 0 by omega] at h1
      have h1 : some c = some x := h1
      cases h1
      exact hs
  · rcases List.mem_append.mp hx with hx | hx
    · exact h.por x hx
    · rw [List.mem_singleton] at hx
      subst hx
      have := upsL_por pc hs
      exact ⟨this.1, by omega⟩
  · have := h.len
    have := up_len hs
    rw [List.length_append]
    simp
    omega
end L2

set_option Elab.async false
set_option linter.all false
set_option maxRecDepth 100000
set_option maxHeartbeats 4000000
namespace L2
open PySem PySem.Spec PyProof.Rows
def Up (m : Nat) (ks : List Nat) (t : Nat) : Prop := ∀ k, ks[t]? = some k → ∃ x y : Int, (wordOrd m (ks.take t))[k]? = some x ∧ (wordOrd m (ks.take t))[k + 1]? = some y ∧ x < y
structure Back (m : Nat) (ks : List Nat) (i j : Nat) : Prop where
  ij : i < j
  up : ∀ t, t < j → Up m ks t
  at_ : ∃ (k k' : Nat) (a b : Int), ks[i]? = some k ∧ ks[j]? = some k' ∧ b < a ∧ (wordOrd m (ks.take i))[k]? = some b ∧ (wordOrd m (ks.take i))[k + 1]? = some a ∧ (wordOrd m (ks.take j))[k']? = some a ∧ (wordOrd m (ks.take j))[k' + 1]? = some b
theorem up_inv {m : Nat} {ks : List Nat} : ∀ i, i ≤ ks.length → (∀ t, t < i → Up m ks t) → inv (wordOrd m (ks.take i)) = i
  | 0, _, _ => by rw [List.take_zero, wordOrd_nil]; exact plain_inv m
  | i + 1, hi, h => by
    obtain ⟨k, ek⟩ := get_some (show i < ks.length by omega)
    obtain ⟨x, y, e1, e2, e3⟩ := h i (by omega) k ek
    rw [wordOrd_step ek, inv_up _ k x y e1 e2 e3, up_inv i (by omega) fun t ht => h t (by omega)]
theorem ord_nodup (m : Nat) (ks : List Nat) : (wordOrd m ks).Nodup := fold_nodup (plain_nodup m) ks
theorem Back.lt {m : Nat} {ks : List Nat} {i j : Nat} (b : Back m ks i j) : j < ks.length := by
  obtain ⟨k, k', x, y, _, e, _⟩ := b.at_
  exact (List.getElem?_eq_some_iff.mp e).1
theorem back_inv {m : Nat} {ks : List Nat} {i j : Nat} (b : Back m ks i j) : inv (wordOrd m ks) + 2 ≤ ks.length := by
  have hj := b.lt
  obtain ⟨k, k', x, y, _, ej, hlt, _, _, e3, e4⟩ := b.at_
  have h1 := up_inv j (by omega) b.up
  have h2 := inv_down _ k' x y e3 e4 hlt
  rw [← wordOrd_step ej] at h2
  have h3 : wordOrd m ks = (ks.drop (j + 1)).foldl swapAt (wordOrd m (ks.take (j + 1))) := by
    unfold wordOrd
    rw [← List.foldl_append, List.take_append_drop]
  have h4 := inv_fold_le (ks.drop (j + 1)) (wordOrd m (ks.take (j + 1))) (ord_nodup m _)
  rw [← h3, List.length_drop] at h4
  omega
theorem ord_snoc (m : Nat) (ks : List Nat) (k : Nat) : wordOrd m (ks ++ [k]) = swapAt (wordOrd m ks) k := by
  unfold wordOrd
  rw [List.foldl_append]; rfl
theorem ord_por {m : Nat} (h1 : 1 ≤ m) (h5 : m ≤ 5) (ks : List Nat) : POr (wordOrd m ks) := by
  have : ∀ (ks : List Nat) (xs : List Int), (ks.foldl swapAt xs).Perm xs := by
    intro ks
    induction ks with
    | nil => intro xs; exact .refl _
    | cons k t ih => intro xs; exact (ih _).trans (swapAt_perm xs k)
  exact POr.of (m := m) (this ks (plainI m)) h1 h5
theorem nodup_next {xs : List Int} {k : Nat} {x y : Int} (nd : xs.Nodup) (ex : xs[k]? = some x) (ey : xs[k + 1]? = some y) : x ≠ y := by
  obtain ⟨h1, e1⟩ := List.getElem?_eq_some_iff.mp ex
  obtain ⟨h2, e2⟩ := List.getElem?_eq_some_iff.mp ey
  have := List.pairwise_iff_getElem.mp nd k (k + 1) h1 h2 (by omega)
  rw [e1, e2] at this
  exact this
theorem wp_inv_all : ((List.range 6).all fun n => (allP (plainI n)).all fun os => decide ((wpP os).length = inv os) && (decide (inv os = 0) == decide (os = plainI n))) = true := by decide +kernel
theorem wp_inv {os : List Int} (po : POr os) : (wpP os).length = inv os ∧ (inv os = 0 ↔ os = plainI os.length) := by
  have h := wp_inv_all
  rw [List.all_eq_true] at h
  have h2 := h os.length (List.mem_range.mpr (by have := po.five; omega))
  rw [List.all_eq_true] at h2
  have h3 := h2 os (allP_mem _ _ po.perm)
  rw [Bool.and_eq_true] at h3
  refine ⟨of_decide_eq_true h3.1, ?_⟩
  have h4 := eq_of_beq h3.2
  exact decide_eq_decide.mp h4
theorem swap_twice : ∀ (ns : List Int) (k : Nat), swapAt (swapAt ns k) k = ns
  | [], 0 => rfl
  | [], k + 1 => rfl
  | [a], 0 => rfl
  | a :: b :: r, 0 => rfl
  | a :: r, k + 1 => by rw [swapAt_succ, swapAt_succ, swap_twice r k]
theorem swap_back {ns : List Int} {k : Nat} : swapAt (swapAt ns k) k = ns := swap_twice ns k
theorem swap_get : ∀ {ns : List Int} {k : Nat} {x y : Int}, ns[k]? = some x → ns[k + 1]? = some y → (swapAt ns k)[k]? = some y ∧ (swapAt ns k)[k + 1]? = some x
  | [], k, x, y, e1, e2 => by simp at e1
  | [a], 0, x, y, e1, e2 => by simp at e2
  | a :: b :: r, 0, x, y, e1, e2 => ⟨e2, e1⟩
  | a :: r, k + 1, x, y, e1, e2 => by
    rw [swapAt_succ]
    exact swap_get (show r[k]? = some x from e1) (show r[k + 1]? = some y from e2)
/-- what is kept from the end on -/
structure Kp (m : Nat) (ks : List Nat) (l : List Int) (j : Nat) (ps : List Nat) (left : List Int) : Prop where
  por : POr left
  len : left.length = m
  ris : ps.Pairwise (· < ·)
  rng : ∀ p ∈ ps, ks.length ≤ p + j ∧ p < ks.length
  inv : ps.length + inv left = inv l
  fold : (ps.map fun p => ks.getD p 0).foldl swapAt left = l
  bel : AbN l (wordOrd m ks) none ↔ AbN left (wordOrd m (ks.take (ks.length - j))) none
theorem Kp.start {m : Nat} {ks : List Nat} {l : List Int} (po : POr l) (el : l.length = m) : Kp m ks l 0 [] l := ⟨po, el, .nil, fun p h => (by cases h), by simp, rfl, by simp⟩
section
variable {m : Nat} {ks : List Nat} {l left : List Int} {j k : Nat} {ps : List Nat} {x y : Int}
theorem Kp.fall (h : Kp m ks l j ps left) (up : ∀ t, t < ks.length → Up m ks t) (hj : j < ks.length) (ek : ks[ks.length - 1 - j]? = some k) (ex : left[k]? = some x) (ey : left[k + 1]? = some y) (hf : y < x) :
    Kp m ks l (j + 1) ((ks.length - 1 - j) :: ps) (swapAt left k) := by
  obtain ⟨u, v, e1, e2, huv⟩ := up _ (by omega) k ek
  have es : ks.length - j = (ks.length - 1 - j) + 1 := by omega
  have hw := wordOrd_step (m := m) ek
  rw [← es] at hw
  refine ⟨por_swap h.por k, by rw [swapAt_len]; exact h.len, ?_, fun p hp => ?_, ?_, ?_, ?_⟩
  · refine List.pairwise_cons.mpr ⟨fun p hp => ?_, h.ris⟩
    have := h.rng p hp
    omega
  · rcases List.mem_cons.mp hp with rfl | hp
    · omega
    · have := h.rng p hp
      omega
  · have := h.inv
    have := inv_down left k x y ex ey hf
    rw [List.length_cons]; omega
  · rw [List.map_cons, List.foldl_cons, List.getD_eq_getElem?_getD, ek]
    show List.foldl swapAt (swapAt (swapAt left k) k) _ = l
    rw [swap_back]; exact h.fold
  · rw [h.bel, show ks.length - (j + 1) = ks.length - 1 - j by omega, hw]
    have el : left.length = (swapAt (wordOrd m (ks.take (ks.length - 1 - j))) k).length := by rw [swapAt_len, wordOrd_len]; exact h.len
    have f1 : (swapAt (wordOrd m (ks.take (ks.length - 1 - j))) k)[k]? = some v ∧ (swapAt (wordOrd m (ks.take (ks.length - 1 - j))) k)[k + 1]? = some u := swap_get e1 e2
    have := lift_both el ex ey f1.1 f1.2 huv hf
    rw [swap_back] at this
    exact this
theorem Kp.rise (h : Kp m ks l j ps left) (up : ∀ t, t < ks.length → Up m ks t) (hj : j < ks.length) (ek : ks[ks.length - 1 - j]? = some k) (ex : left[k]? = some x) (ey : left[k + 1]? = some y) (hf : ¬ y < x) :
    Kp m ks l (j + 1) ps left := by
  obtain ⟨u, v, e1, e2, huv⟩ := up _ (by omega) k ek
  have es : ks.length - j = (ks.length - 1 - j) + 1 := by omega
  have hw := wordOrd_step (m := m) ek
  rw [← es] at hw
  have hne : x ≠ y := nodup_next h.por.nodup ex ey
  refine ⟨h.por, h.len, h.ris, fun p hp => ?_, h.inv, h.fold, ?_⟩
  · have := h.rng p hp
    omega
  · rw [h.bel, show ks.length - (j + 1) = ks.length - 1 - j by omega, hw]
    have el : left.length = (swapAt (wordOrd m (ks.take (ks.length - 1 - j))) k).length := by rw [swapAt_len, wordOrd_len]; exact h.len
    have f1 : (swapAt (wordOrd m (ks.take (ks.length - 1 - j))) k)[k]? = some v ∧ (swapAt (wordOrd m (ks.take (ks.length - 1 - j))) k)[k + 1]? = some u := swap_get e1 e2
    have := lift_down el ex ey f1.1 f1.2 huv (by omega)
    rw [swap_back] at this
    exact this
end
end L2

set_option Elab.async false
set_option linter.all false
set_option maxRecDepth 100000
set_option maxHeartbeats 4000000
namespace L2
open PySem PySem.Spec PyProof.Rows
def farB (a b : Nat) : Bool := decide (2 ≤ (if (a : Int) - b < 0 then -((a : Int) - b) else (a : Int) - b))
def nearB (a b : Nat) : Bool := decide ((if (a : Int) - b < 0 then -((a : Int) - b) else (a : Int) - b) = 1)
theorem far_ne {a b : Nat} (h : farB a b = true) : a ≠ b := by unfold farB at h; rw [decide_eq_true_eq] at h; split at h <;> omega
theorem near_ne {a b : Nat} (h : nearB a b = true) : a ≠ b := by unfold nearB at h; rw [decide_eq_true_eq] at h; split at h <;> omega
theorem far_near {a b : Nat} (h : farB a b = true) : nearB a b = false := by
  unfold farB at h; unfold nearB; rw [decide_eq_true_eq] at h; exact decide_eq_false (by split at h <;> omega)
/-- the words that come by a move at a place -/
def mvA (ks : List Nat) (i : Nat) : List (List Nat) := if farB (ks.getD i 0) (ks.getD (i + 1) 0) = true then [ks.take i ++ [ks.getD (i + 1) 0, ks.getD i 0] ++ ks.drop (i + 2)] else []
def mvB (ks : List Nat) (i : Nat) : List (List Nat) := if (nearB (ks.getD i 0) (ks.getD (i + 1) 0) && decide (ks[i + 2]? = some (ks.getD i 0))) = true then [ks.take i ++ [ks.getD (i + 1) 0, ks.getD i 0, ks.getD (i + 1) 0] ++ ks.drop (i + 3)] else []
def mv1 (ks : List Nat) (i : Nat) : List (List Nat) := mvA ks i ++ mvB ks i
def mvN (ks : List Nat) (n : Nat) : List (List Nat) := (List.range n).flatMap (mv1 ks)
def mvL (ks : List Nat) : List (List Nat) := mvN ks (ks.length - 1)
theorem mvN_succ (ks : List Nat) (n : Nat) : mvN ks (n + 1) = mvN ks n ++ mv1 ks n := flat_snoc _ _
/-- a moved word differs first at its place -/
theorem mv1_diff {ks w : List Nat} {i : Nat} (hi : i + 1 < ks.length) (h : w ∈ mv1 ks i) : w.take i = ks.take i ∧ w[i]? ≠ ks[i]? := by
  have e0 : ks[i]? = some (ks.getD i 0) := by rw [List.getD_eq_getElem?_getD, List.getElem?_eq_getElem (by omega)]; rfl
  have lt : (ks.take i).length = i := by rw [List.length_take]; omega
  unfold mv1 at h
  rcases List.mem_append.mp h with h | h
  · unfold mvA at h
    split at h
    · rename_i hf
      rw [List.mem_singleton] at h
      subst h
      refine ⟨?_, ?_⟩
      · rw [List.append_assoc, List.take_append_of_le_length (by omega), List.take_of_length_le (by omega)]
      · rw [List.append_assoc, List.getElem?_append_right (by omega), lt, Nat.sub_self, e0]
        intro z
        exact far_ne hf (Option.some.inj z).symm
    · cases h
  · unfold mvB at h
    split at h
    · rename_i hf
      rw [Bool.and_eq_true] at hf
      rw [List.mem_singleton] at h
      subst h
      refine ⟨?_, ?_⟩
      · rw [List.append_assoc, List.take_append_of_le_length (by omega), List.take_of_length_le (by omega)]
      · rw [List.append_assoc, List.getElem?_append_right (by omega), lt, Nat.sub_self, e0]
        intro z
        exact near_ne hf.1 (Option.some.inj z).symm
    · cases h
theorem mvA_B {ks : List Nat} {i : Nat} : mvA ks i = [] ∨ mvB ks i = [] := by
  unfold mvA mvB
  by_cases h : farB (ks.getD i 0) (ks.getD (i + 1) 0) = true
  · right; rw [far_near h]; simp
  · left; rw [if_neg h]
theorem mv1_one (ks : List Nat) (i : Nat) : (mv1 ks i).length ≤ 1 := by
  unfold mv1
  have a : (mvA ks i).length ≤ 1 := by unfold mvA; split <;> simp
  have b : (mvB ks i).length ≤ 1 := by unfold mvB; split <;> simp
  rcases mvA_B (ks := ks) (i := i) with h | h
  · rw [h]; simpa using b
  · rw [h]; simpa using a
theorem mv1_nodup (ks : List Nat) (i : Nat) : (mv1 ks i).Nodup := by
  have := mv1_one ks i
  match e : mv1 ks i, this with
  | [], _ => exact List.nodup_nil
  | [x], _ => simp
  | _ :: _ :: _, h => simp only [List.length_cons] at h; omega
theorem mvN_nodup (ks : List Nat) : ∀ n, n ≤ ks.length - 1 → (mvN ks n).Nodup ∧ ∀ w ∈ mvN ks n, ∃ i, i < n ∧ w.take i = ks.take i ∧ w[i]? ≠ ks[i]?
  | 0, _ => ⟨List.nodup_nil, fun w h => by cases h⟩
  | n + 1, h => by
    obtain ⟨h1, h2⟩ := mvN_nodup ks n (by omega)
    rw [mvN_succ]
    refine ⟨List.nodup_append.mpr ⟨h1, mv1_nodup ks n, fun a ha b hb e => ?_⟩, fun w hw => ?_⟩
    · subst e
      obtain ⟨i, hi, _, e2⟩ := h2 a ha
      obtain ⟨d1, _⟩ := mv1_diff (by omega) hb
      apply e2
      have : (a.take n)[i]? = (ks.take n)[i]? := by rw [d1]
      rw [List.getElem?_take_of_lt hi, List.getElem?_take_of_lt hi] at this
      exact this
    · rcases List.mem_append.mp hw with hw | hw
      · obtain ⟨i, hi, x⟩ := h2 w hw; exact ⟨i, by omega, x⟩
      · obtain ⟨d1, d2⟩ := mv1_diff (by omega) hw
        exact ⟨n, by omega, d1, d2⟩
theorem mvN_len (ks : List Nat) : ∀ n, (mvN ks n).length ≤ n
  | 0 => Nat.le_refl _
  | n + 1 => by rw [mvN_succ, List.length_append]; have := mvN_len ks n; have := mv1_one ks n; omega
theorem mvA_mem {ks w : List Nat} {i : Nat} (hi : i + 1 < ks.length) (h : w ∈ mvA ks i) : w.length = ks.length ∧ ∀ k ∈ w, k ∈ ks := by
  have g1 : ks.getD i 0 ∈ ks := by rw [List.getD_eq_getElem?_getD, List.getElem?_eq_getElem (by omega)]; exact List.getElem_mem _
  have g2 : ks.getD (i + 1) 0 ∈ ks := by rw [List.getD_eq_getElem?_getD, List.getElem?_eq_getElem (by omega)]; exact List.getElem_mem _
  unfold mvA at h
  split at h
  · rw [List.mem_singleton] at h
    subst h
    refine ⟨by simp [List.length_append, List.length_take, List.length_drop]; omega, fun k hk => ?_⟩
    rcases List.mem_append.mp hk with hk | hk
    · rcases List.mem_append.mp hk with hk | hk
      · exact List.mem_of_mem_take hk
      · simp at hk; rcases hk with rfl | rfl <;> assumption
    · exact List.mem_of_mem_drop hk
  · cases h
theorem mvB_mem {ks w : List Nat} {i : Nat} (hi : i + 1 < ks.length) (h : w ∈ mvB ks i) : w.length = ks.length ∧ ∀ k ∈ w, k ∈ ks := by
  have g1 : ks.getD i 0 ∈ ks := by rw [List.getD_eq_getElem?_getD, List.getElem?_eq_getElem (by omega)]; exact List.getElem_mem _
  have g2 : ks.getD (i + 1) 0 ∈ ks := by rw [List.getD_eq_getElem?_getD, List.getElem?_eq_getElem (by omega)]; exact List.getElem_mem _
  unfold mvB at h
  split at h
  · rename_i hf
    rw [Bool.and_eq_true, decide_eq_true_eq] at hf
    have hl : i + 2 < ks.length := (List.getElem?_eq_some_iff.mp hf.2).1
    rw [List.mem_singleton] at h
    subst h
    refine ⟨by simp [List.length_append, List.length_take, List.length_drop]; omega, fun k hk => ?_⟩
    rcases List.mem_append.mp hk with hk | hk
    · rcases List.mem_append.mp hk with hk | hk
      · exact List.mem_of_mem_take hk
      · simp at hk; rcases hk with rfl | rfl | rfl <;> assumption
    · exact List.mem_of_mem_drop hk
  · cases h
theorem mvN_mem {ks w : List Nat} {n : Nat} (hn : n ≤ ks.length - 1) (h : w ∈ mvN ks n) : w.length = ks.length ∧ ∀ k ∈ w, k ∈ ks := by
  unfold mvN at h
  obtain ⟨i, hi, hw⟩ := List.mem_flatMap.mp h
  rw [List.mem_range] at hi
  rcases List.mem_append.mp hw with hw | hw
  · exact mvA_mem (by omega) hw
  · exact mvB_mem (by omega) hw
/-- a word as data -/
def toI (ks : List Nat) : List Int := ks.map fun (k : Nat) => (k : Int)
def wdD (ks : List Nat) : PyData := lstD (toI ks)
theorem toI_inj {a b : List Nat} (h : toI a = toI b) : a = b := by
  have : (toI a).map Int.toNat = (toI b).map Int.toNat := by rw [h]
  unfold toI at this
  rw [List.map_map, List.map_map] at this
  have e : (Int.toNat ∘ fun (k : Nat) => (k : Int)) = id := funext fun k => by simp
  rw [e, List.map_id, List.map_id] at this
  exact this
theorem natsV_toI (ks : List Nat) : natsV ks = intsV (toI ks) := nats_ints ks
theorem dp_wd {K : PySem.W.Frag} {H : Hp} {a : Addr} {ks : List Nat} (h : SqL K H a (natsV ks)) : Dp K H (.ref a) (wdD ks) := .lst (by rw [← natsV_toI]; exact h) (dp_ints K H _)
theorem shaped_lstD (ns : List Int) : SeqAt.shaped (lstD ns) = true := shaped_l ns
end L2
namespace L2
open PySem PySem.Spec PyProof.Rows
theorem natsV_takeW (a : List Nat) (k : Nat) : (natsV a).take k = natsV (a.take k) := by unfold natsV; rw [List.map_take]
theorem natsV_dropW (a : List Nat) (k : Nat) : (natsV a).drop k = natsV (a.drop k) := by unfold natsV; rw [List.map_drop]
theorem cut_one {xs : List V} {z y : Int} (k : Nat) (hz : z = (k : Int)) (hy : y = (k : Int) + 1) : cutV xs (some z) (some y) = (xs.drop k).take 1 := by
  subst hz hy
  unfold cutV HT.sIx
  dsimp only
  rw [if_neg (by omega), if_neg (by omega)]
  have e1 : ((k : Int) + 1).toNat = k + 1 := by omega
  have e2 : ((k : Int)).toNat = k := by omega
  rw [e1, e2]
  by_cases h : k < xs.length
  · rw [Nat.min_eq_left (by omega), Nat.min_eq_left (by omega)]
    congr 1; omega
  · rw [Nat.min_eq_right (by omega), Nat.min_eq_right (by omega), Nat.sub_self, List.take_zero]
    rw [List.drop_of_length_le (by omega)]; rfl
theorem cut_toZ {xs : List V} {z : Int} (k : Nat) (hz : z = (k : Int)) (h : k ≤ xs.length) : cutV xs none (some z) = xs.take k := by subst hz; exact cut_to h
theorem cut_fromZ {xs : List V} {z : Int} (k : Nat) (hz : z = (k : Int)) (h : k ≤ xs.length) : cutV xs (some z) none = xs.drop k := by subst hz; exact cut_from h
theorem eqv_lst (ns ms : List Int) : PyData.eqv (lstD ns) (lstD ms) = decide (ns = ms) := by unfold lstD; simp only [PyData.eqv]; exact eqvA_ints ns ms
theorem one_at (ks : List Nat) (j a : Nat) : decide (toI ((ks.drop j).take 1) = [(a : Int)]) = decide (ks[j]? = some a) := by
  by_cases h : j < ks.length
  · rw [List.drop_eq_getElem_cons h, List.getElem?_eq_getElem h]
    show decide ([((ks[j] : Nat) : Int)] = [(a : Int)]) = _
    by_cases e : ks[j] = a
    · rw [decide_eq_true (by rw [e]), decide_eq_true (by rw [e])]
    · rw [decide_eq_false (by simp; omega), decide_eq_false (by simp; omega)]
  · rw [List.drop_of_length_le (by omega), List.getElem?_eq_none (by omega)]
    rfl
/-- new lists of words, one for each -/
structure Wds (H H2 : Hp) (f : Addr) (ps : List Addr) (ws : List (List Nat)) : Prop where
  len : ps.length = ws.length
  nd : ps.Nodup
  at' : ∀ (j : Nat) (p : Addr) (w : List Nat), ps[j]? = some p → ws[j]? = some w → H p = none ∧ p ≠ f ∧ H2 p = some (.lst (natsV w))
theorem Wds.nil {H H2 : Hp} {f : Addr} : Wds H H2 f [] [] := ⟨rfl, List.nodup_nil, fun j p w h => by cases h⟩
theorem Wds.mono {H H2 H3 : Hp} {f : Addr} {ps : List Addr} {ws : List (List Nat)} (h : Wds H H2 f ps ws) (k : ∀ p o, p ≠ f → H2 p = some o → H3 p = some o) : Wds H H3 f ps ws :=
  ⟨h.len, h.nd, fun j p w a b => let ⟨x, y, z⟩ := h.at' j p w a b; ⟨x, y, k _ _ y z⟩⟩
theorem Wds.alive {H H2 : Hp} {f : Addr} {ps : List Addr} {ws : List (List Nat)} (h : Wds H H2 f ps ws) {p : Addr} (hp : p ∈ ps) : H p = none ∧ p ≠ f ∧ ∃ w ∈ ws, H2 p = some (.lst (natsV w)) := by
  obtain ⟨j, hj⟩ := List.mem_iff_getElem?.mp hp
  have hl : j < ws.length := by rw [← h.len]; exact (List.getElem?_eq_some_iff.mp hj).1
  obtain ⟨x, y, z⟩ := h.at' j p _ hj (List.getElem?_eq_getElem hl)
  exact ⟨x, y, _, List.getElem_mem hl, z⟩
theorem Wds.snoc {H H2 H3 : Hp} {f p : Addr} {ps : List Addr} {ws : List (List Nat)} {w : List Nat} (h : Wds H H2 f ps ws) (k : ∀ q o, q ≠ f → H2 q = some o → H3 q = some o) (h0 : H p = none) (h2 : H2 p = none) (hf : p ≠ f) (h3 : H3 p = some (.lst (natsV w))) : Wds H H3 f (ps ++ [p]) (ws ++ [w]) := by
  refine ⟨by simp [h.len], List.nodup_append.mpr ⟨h.nd, by simp, fun a ha b hb e => ?_⟩, fun j q v a b => ?_⟩
  · rw [List.mem_singleton] at hb
    subst hb e
    obtain ⟨_, _, w, _, z⟩ := h.alive ha
    rw [h2] at z; cases z
  · by_cases hj : j < ps.length
    · rw [List.getElem?_append_left hj] at a
      rw [List.getElem?_append_left (by rw [← h.len]; exact hj)] at b
      obtain ⟨x, y, z⟩ := h.at' j q v a b
      exact ⟨x, y, k _ _ y z⟩
    · have hl : j = ps.length := by
        have := (List.getElem?_eq_some_iff.mp a).1
        rw [List.length_append] at this; simp at this; omega
      subst hl
      rw [List.getElem?_append_right (Nat.le_refl _), Nat.sub_self] at a
      rw [List.getElem?_append_right (by rw [h.len]; exact Nat.le_refl _), h.len, Nat.sub_self] at b
      cases a; cases b
      exact ⟨h0, hf, h3⟩
theorem Wds.dp {K : PySem.W.Frag} {H H2 : Hp} {f : Addr} : ∀ {ps : List Addr} {ws : List (List Nat)}, Wds H H2 f ps ws → DpAll K H2 (ps.map V.ref) (ws.map wdD)
  | [], [], _ => .nil
  | [], _ :: _, h => by have := h.len; simp at this
  | _ :: _, [], h => by have := h.len; simp at this
  | p :: ps, w :: ws, h => by
    refine .cons (dp_wd (SqL.of (h.at' 0 p w rfl rfl).2.2)) (Wds.dp ⟨by have := h.len; simpa using this, (List.nodup_cons.mp h.nd).2, fun j q v a b => h.at' (j + 1) q v a b⟩)
end L2

set_option Elab.async false
set_option linter.all false
set_option maxRecDepth 100000
set_option maxHeartbeats 4000000
namespace L2
open PySem PySem.Spec PyProof.Rows
def unV : V → Addr
  | .ref a => a
  | _ => 0
def unW (d : PyData) : List Nat := (fl d).map Int.toNat
theorem unW_wd (w : List Nat) : unW (wdD w) = w := by
  unfold unW wdD
  rw [fl_lst]
  unfold toI
  rw [List.map_map]
  have e : (Int.toNat ∘ fun (k : Nat) => (k : Int)) = id := funext fun k => by simp
  rw [e, List.map_id]
theorem zip_map2 {α β γ δ : Type} (f : α → γ) (g : β → δ) : ∀ (l : List α) (m : List β), (l.map f).zip (m.map g) = (l.zip m).map fun x => (f x.1, g x.2)
  | [], _ => by simp
  | _ :: _, [] => by simp
  | x :: l, y :: m => by rw [List.map_cons, List.map_cons, List.zip_cons_cons, List.zip_cons_cons, zip_map2 f g l m]; rfl
theorem Wds.sorted {H H1 : Hp} {f : Addr} {ps : List Addr} {ws : List (List Nat)} {rs : List V} {ds : List PyData} (wd : Wds H H1 f ps ws) (pm : (rs.zip ds).Perm ((ps.map V.ref).zip (ws.map wdD))) (hl : rs.length = ds.length) :
    ∃ (ps' : List Addr) (ws' : List (List Nat)), rs = ps'.map V.ref ∧ ds = ws'.map wdD ∧ ws'.Perm ws ∧ Wds H H1 f ps' ws' := by
  rw [zip_map2] at pm
  let g : V × PyData → Addr × List Nat := fun x => (unV x.1, unW x.2)
  let zs := (rs.zip ds).map g
  have pz : zs.Perm (ps.zip ws) := by
    have := pm.map g
    rw [List.map_map] at this
    have e : (g ∘ fun x : Addr × List Nat => (V.ref x.1, wdD x.2)) = id := funext fun x => by show (unV (.ref x.1), unW (wdD x.2)) = x; rw [unW_wd]; rfl
    rw [e, List.map_id] at this
    exact this
  have back : rs.zip ds = zs.map fun x => (V.ref x.1, wdD x.2) := by
    show _ = ((rs.zip ds).map g).map _
    rw [List.map_map]
    have : ∀ y ∈ rs.zip ds, ((fun x : Addr × List Nat => (V.ref x.1, wdD x.2)) ∘ g) y = y := fun y hy => by
      obtain ⟨x, _, rfl⟩ := List.mem_map.mp (pm.mem_iff.mp hy)
      show (V.ref (unV (.ref x.1)), wdD (unW (wdD x.2))) = _
      rw [unW_wd]; rfl
    exact ((List.map_congr_left this).trans (List.map_id _)).symm
  have hr : rs = (zs.map (·.1)).map V.ref := by
    have := congrArg (List.map Prod.fst) back
    rw [List.map_fst_zip (by omega), List.map_map] at this
    rw [List.map_map]; exact this
  have hd : ds = (zs.map (·.2)).map wdD := by
    have := congrArg (List.map Prod.snd) back
    rw [List.map_snd_zip (by omega), List.map_map] at this
    rw [List.map_map]; exact this
  have p1 : (zs.map (·.1)).Perm ps := by have := pz.map (·.1); rwa [List.map_fst_zip (by rw [wd.len]; exact Nat.le_refl _)] at this
  have p2 : (zs.map (·.2)).Perm ws := by have := pz.map (·.2); rwa [List.map_snd_zip (by rw [wd.len]; exact Nat.le_refl _)] at this
  refine ⟨_, _, hr, hd, p2, by simp, p1.nodup_iff.mpr wd.nd, fun j p w a b => ?_⟩
  rw [List.getElem?_map] at a b
  cases ez : zs[j]? with
  | none => rw [ez] at a; cases a
  | some z =>
    rw [ez] at a b
    cases a; cases b
    have hm : z ∈ ps.zip ws := pz.mem_iff.mp (List.mem_of_getElem? ez)
    obtain ⟨i, hi⟩ := List.mem_iff_getElem?.mp hm
    rw [List.getElem?_zip_eq_some] at hi
    exact wd.at' i z.1 z.2 hi.1 hi.2
end L2
namespace L2
open PySem PySem.Spec PyProof.Rows
theorem unI_toI (w : List Nat) : (toI w).map Int.toNat = w := by
  unfold toI
  rw [List.map_map]
  have e : (Int.toNat ∘ fun (k : Nat) => (k : Int)) = id := funext fun k => by simp
  rw [e, List.map_id]
theorem perm_toI {nss : List (List Int)} {ws : List (List Nat)} (h : nss.Perm (ws.map toI)) : ∃ ws' : List (List Nat), nss = ws'.map toI ∧ ws'.Perm ws := by
  refine ⟨nss.map fun ns => ns.map Int.toNat, ?_, ?_⟩
  · rw [List.map_map]
    refine ((List.map_congr_left fun ns hn => ?_).trans (List.map_id nss)).symm
    obtain ⟨w, _, rfl⟩ := List.mem_map.mp (h.mem_iff.mp hn)
    show toI ((toI w).map Int.toNat) = _
    rw [unI_toI]; rfl
  · have := h.map fun ns : List Int => ns.map Int.toNat
    rw [List.map_map (f := toI)] at this
    have e : ((fun ns : List Int => ns.map Int.toNat) ∘ toI) = id := funext fun w => unI_toI w
    rw [e, List.map_id] at this
    exact this
def keyW (w : List Nat) : List Key := (toI w).map Sum.inl
theorem keyW_V (w : List Nat) : natsV w = (keyW w).map kV := by
  unfold keyW toI natsV
  rw [List.map_map, List.map_map]; rfl
theorem keyW_inj {a b : List Nat} (h : keyW a = keyW b) : a = b := by
  apply toI_inj
  unfold keyW at h
  exact (List.map_inj_right (fun x y e => Sum.inl.inj e)).mp h
theorem val_none {kvs : List (List Key × V)} {ws : List (List Nat)} (hk : KeysI kvs (ws.map toI)) {w : List Nat} (hw : w ∉ ws) : valV kvs (keyW w) = none := by
  have h := valV_any (keyW w) kvs
  cases e : valV kvs (keyW w) with
  | none => rfl
  | some v =>
    rw [e] at h
    have h : (kvs.any fun kv => decide (kv.1 = keyW w)) = true := h
    rw [List.any_eq_true] at h
    obtain ⟨kv, hm, he⟩ := h
    rw [decide_eq_true_eq] at he
    have : kv.1 ∈ kvs.map (·.1) := List.mem_map.mpr ⟨kv, hm, rfl⟩
    rw [hk, List.map_map] at this
    obtain ⟨u, hu, eu⟩ := List.mem_map.mp this
    have eu : keyW u = kv.1 := eu
    rw [he] at eu
    rw [keyW_inj eu] at hu
    exact absurd hu hw
theorem keys_put {kvs : List (List Key × V)} {ws : List (List Nat)} (hk : KeysI kvs (ws.map toI)) {w : List Nat} (hw : w ∉ ws) (v : V) : KeysI (putK kvs (keyW w) v) ((ws ++ [w]).map toI) ∧ (putK kvs (keyW w) v).length = kvs.length + 1 := by
  rw [putK_new v (val_none hk hw)]
  refine ⟨?_, by simp⟩
  unfold KeysI at hk ⊢
  rw [List.map_append, hk, List.map_append, List.map_append]; rfl
theorem keys_len {kvs : List (List Key × V)} {nss : List (List Int)} (hk : KeysI kvs nss) : kvs.length = nss.length := by
  have := congrArg List.length hk
  simpa using this
theorem far_gt (x y : Nat) : decide ((1 : Int) < if (x : Int) - (y : Int) < 0 then -((x : Int) - (y : Int)) else (x : Int) - (y : Int)) = farB x y := by
  unfold farB
  exact decide_eq_decide.mpr (by omega)
end L2
namespace L2
open PySem PySem.Spec PyProof.Rows
def rListOf (K : PySem.W.Frag) : List V → Hp → VK → Prop := fun xs H Q => ∃ p ys, xs = [V.ref p] ∧ (SqL K H p ys ∨ SqT K H p ys) ∧ ∀ (l : Addr), H l = none → Q (V.ref l) (upd H l (.lst ys))
def rTupOf (K : PySem.W.Frag) : List V → Hp → VK → Prop := fun xs H Q => ∃ p ys, xs = [V.ref p] ∧ ((SqL K H p ys ∧ ∀ l, H l = none → Q (.ref l) (upd H l (.tup ys))) ∨ (SqT K H p ys ∧ Q (.ref p) H))
theorem call_listB {X : Cx} (K : PySem.W.Frag) (hK : X.K = K := by rfl) : CallR X (.type "list") (rListOf K) := hK ▸ call_list_of
theorem call_tupleB {X : Cx} (K : PySem.W.Frag) (hK : X.K = K := by rfl) : CallR X (.type "tuple") (rTupOf K) := hK ▸ call_tuple_of
end L2

set_option Elab.async false
set_option linter.all false
set_option maxRecDepth 100000
set_option maxHeartbeats 4000000
namespace L2
open PySem PySem.Spec PyProof.Rows
/-! polynomials: lists of powers and numbers -/
abbrev Pol := List (List Nat × Int)
/-- the number of a power in a list of terms -/
def cf : Pol → List Nat → Int
  | [], _ => 0
  | t :: r, ns => (if t.1 = ns then t.2 else 0) + cf r ns
theorem cf_app (a b : Pol) (ns : List Nat) : cf (a ++ b) ns = cf a ns + cf b ns := by
  induction a with
  | nil => simp [cf]
  | cons t r ih => simp only [List.cons_append, cf, ih]; omega
theorem cf_none {d : Pol} {ns : List Nat} (h : ns ∉ d.map (·.1)) : cf d ns = 0 := by
  induction d with
  | nil => rfl
  | cons t r ih =>
    simp only [List.map_cons, List.mem_cons, not_or] at h
    simp only [cf, ih h.2]
    rw [if_neg fun e => h.1 e.symm]; rfl
theorem cf_mem {d : Pol} (nd : (d.map (·.1)).Nodup) {t : List Nat × Int} (h : t ∈ d) : cf d t.1 = t.2 := by
  induction d with
  | nil => cases h
  | cons u r ih =>
    rw [List.map_cons, List.nodup_cons] at nd
    simp only [cf]
    rcases List.mem_cons.mp h with rfl | h
    · rw [if_pos rfl, cf_none nd.1]; omega
    · have : u.1 ≠ t.1 := fun e => nd.1 (e ▸ List.mem_map.mpr ⟨t, h, rfl⟩)
      rw [if_neg this, ih nd.2 h]; omega
def putN (d : Pol) (ns : List Nat) (c : Int) : Pol := if ns ∈ d.map (·.1) then d.map (fun t => if t.1 = ns then (t.1, c) else t) else d ++ [(ns, c)]
theorem putN_keys (d : Pol) (ns : List Nat) (c : Int) : (putN d ns c).map (·.1) = if ns ∈ d.map (·.1) then d.map (·.1) else d.map (·.1) ++ [ns] := by
  unfold putN
  split
  · rw [List.map_map]
    refine List.map_congr_left fun t _ => ?_
    show (if t.1 = ns then (t.1, c) else t).1 = t.1
    split <;> rfl
  · rw [List.map_append]; rfl
theorem putN_nodup {d : Pol} (nd : (d.map (·.1)).Nodup) (ns : List Nat) (c : Int) : ((putN d ns c).map (·.1)).Nodup := by
  rw [putN_keys]
  split
  · exact nd
  · rename_i h
    exact List.nodup_append.mpr ⟨nd, by simp, fun a ha b hb e => h (by rw [List.mem_singleton] at hb; rw [← hb, ← e]; exact ha)⟩
theorem cf_map_ne (c : Int) (ns ms : List Nat) (h : ms ≠ ns) (d : Pol) : cf (d.map fun t => if t.1 = ns then (t.1, c) else t) ms = cf d ms := by
  induction d with
  | nil => rfl
  | cons t r ih =>
    simp only [List.map_cons, cf, ih]
    by_cases e : t.1 = ns
    · rw [if_pos e]
      have : ¬ t.1 = ms := fun z => h (z.symm.trans e)
      simp only [this, if_false]
    · rw [if_neg e]
theorem cf_put {d : Pol} (nd : (d.map (·.1)).Nodup) (ns : List Nat) (c : Int) (ms : List Nat) : cf (putN d ns c) ms = if ms = ns then c else cf d ms := by
  unfold putN
  by_cases h : ns ∈ d.map (·.1)
  · rw [if_pos h]
    by_cases e : ms = ns
    · subst e
      rw [if_pos rfl]
      obtain ⟨t, ht, et⟩ := List.mem_map.mp h
      have nd' : ((d.map fun t => if t.1 = ms then (t.1, c) else t).map (·.1)).Nodup := by
        have := putN_nodup nd ms c
        unfold putN at this
        rwa [if_pos h] at this
      have hm : (ms, c) ∈ d.map fun t => if t.1 = ms then (t.1, c) else t := List.mem_map.mpr ⟨t, ht, by rw [if_pos et, et]⟩
      exact cf_mem nd' hm
    · rw [if_neg e]; exact cf_map_ne c ns ms e d
  · rw [if_neg h, cf_app]
    simp only [cf]
    by_cases e : ms = ns
    · subst e; rw [if_pos rfl, if_pos rfl, cf_none h]; omega
    · rw [if_neg e, if_neg fun z => e z.symm]; omega
/-- a polynomial as it is told: each powers once, no noughts, greater powers first -/
structure Can (m : Nat) (cs : Pol) : Prop where
  ok : ∀ t ∈ cs, t.1.length = m ∧ t.2 ≠ 0
  nd : (cs.map (·.1)).Nodup
  fall : cs.Pairwise fun a b => lexI (toI a.1) (toI b.1) = false
theorem can_key {m : Nat} {cs : Pol} (h : Can m cs) (ns : List Nat) : ns ∈ cs.map (·.1) ↔ cf cs ns ≠ 0 := by
  constructor
  · intro hn
    obtain ⟨t, ht, rfl⟩ := List.mem_map.mp hn
    rw [cf_mem h.nd ht]; exact (h.ok t ht).2
  · intro hc
    by_cases hn : ns ∈ cs.map (·.1)
    · exact hn
    · exact absurd (cf_none hn) hc
/-! terms in the heap -/
def termN (t : List Nat × Int) : PyData := termD (toI t.1, t.2)
def TmAt (H : Hp) (v : V) (t : List Nat × Int) : Prop := ∃ p b, v = .ref p ∧ H p = some (.tup [.ref b, .int t.2]) ∧ H b = some (.tup (natsV t.1))
def Tms (H : Hp) : List V → Pol → Prop
  | [], [] => True
  | v :: vs, t :: ts => TmAt H v t ∧ Tms H vs ts
  | _, _ => False
theorem TmAt.same {H H' : Hp} {v : V} {t : List Nat × Int} (h : TmAt H v t) (s : Same H H') : TmAt H' v t := by
  obtain ⟨p, b, e, h1, h2⟩ := h
  exact ⟨p, b, e, s _ _ h1, s _ _ h2⟩
theorem Tms.same {H H' : Hp} (s : Same H H') : ∀ {vs : List V} {ts : Pol}, Tms H vs ts → Tms H' vs ts
  | [], [], _ => trivial
  | [], _ :: _, h => h.elim
  | _ :: _, [], h => h.elim
  | _ :: _, _ :: _, h => ⟨h.1.same s, Tms.same s h.2⟩
theorem Tms.length {H : Hp} : ∀ {vs : List V} {ts : Pol}, Tms H vs ts → vs.length = ts.length
  | [], [], _ => rfl
  | [], _ :: _, h => h.elim
  | _ :: _, [], h => h.elim
  | _ :: _, _ :: _, h => by rw [List.length_cons, List.length_cons, Tms.length h.2]
theorem Tms.get {H : Hp} : ∀ {vs : List V} {ts : Pol} {i : Nat} {v : V}, Tms H vs ts → vs[i]? = some v → ∃ t, ts[i]? = some t ∧ TmAt H v t
  | [], [], i, v, _, e => by cases e
  | [], _ :: _, _, _, h, _ => h.elim
  | _ :: _, [], _, _, h, _ => h.elim
  | _ :: _, t :: _, 0, v, h, e => by cases e; exact ⟨t, rfl, h.1⟩
  | _ :: _, _ :: _, i + 1, v, h, e => Tms.get (i := i) h.2 e
theorem Tms.snoc {H : Hp} {v : V} {t : List Nat × Int} (h : TmAt H v t) : ∀ {vs : List V} {ts : Pol}, Tms H vs ts → Tms H (vs ++ [v]) (ts ++ [t])
  | [], [], _ => ⟨h, trivial⟩
  | [], _ :: _, x => x.elim
  | _ :: _, [], x => x.elim
  | _ :: _, _ :: _, x => ⟨x.1, Tms.snoc h x.2⟩
theorem Tms.app {H : Hp} {vs' : List V} {ts' : Pol} (h : Tms H vs' ts') : ∀ {vs : List V} {ts : Pol}, Tms H vs ts → Tms H (vs ++ vs') (ts ++ ts')
  | [], [], _ => h
  | [], _ :: _, x => x.elim
  | _ :: _, [], x => x.elim
  | _ :: _, _ :: _, x => ⟨x.1, Tms.app h x.2⟩
theorem TmAt.dp {K : PySem.W.Frag} {H : Hp} {v : V} {t : List Nat × Int} (h : TmAt H v t) : Dp K H v (termN t) := by
  obtain ⟨p, b, rfl, h1, h2⟩ := h
  exact .tup (SqT.of h1) (.cons (.tup (SqT.of (h2.trans (by rw [natsV_toI]))) (dp_ints K H _)) (.cons (.int _) .nil))
theorem Tms.dp {K : PySem.W.Frag} {H : Hp} : ∀ {vs : List V} {ts : Pol}, Tms H vs ts → DpAll K H vs (ts.map termN)
  | [], [], _ => .nil
  | [], _ :: _, x => x.elim
  | _ :: _, [], x => x.elim
  | _ :: _, _ :: _, x => .cons x.1.dp (Tms.dp x.2)
theorem fl_termN (t : List Nat × Int) : fl (termN t) = toI t.1 ++ [t.2] := fl_term _
theorem Tms.mem {H : Hp} : ∀ {vs : List V} {ts : Pol} {x : V × PyData}, Tms H vs ts → x ∈ vs.zip (ts.map termN) → ∃ t ∈ ts, x.2 = termN t ∧ TmAt H x.1 t
  | [], [], x, _, h => by cases h
  | [], _ :: _, _, h, _ => h.elim
  | _ :: _, [], _, h, _ => h.elim
  | _ :: _, t :: _, x, h, hm => by
    rw [List.map_cons, List.zip_cons_cons] at hm
    rcases List.mem_cons.mp hm with rfl | hm
    · exact ⟨t, by simp, rfl, h.1⟩
    · obtain ⟨u, hu, a, b⟩ := Tms.mem h.2 hm
      exact ⟨u, by simp [hu], a, b⟩
/-- the terms behind a sort -/
theorem Tms.sorted {H : Hp} {vs rs : List V} {ts : Pol} {ds : List PyData} (h : Tms H vs ts) (pm : (rs.zip ds).Perm (vs.zip (ts.map termN))) (hl : rs.length = ds.length) : ∃ us : Pol, ds = us.map termN ∧ us.Perm ts ∧ Tms H rs us := by
  have key : ∀ {rs : List V} {ds : List PyData}, rs.length = ds.length → (∀ x ∈ rs.zip ds, ∃ t ∈ ts, x.2 = termN t ∧ TmAt H x.1 t) → ∃ us : Pol, ds = us.map termN ∧ Tms H rs us := by
    intro rs
    induction rs with
    | nil =>
      intro ds hl _
      cases ds with
      | nil => exact ⟨[], rfl, trivial⟩
      | cons _ _ => simp at hl
    | cons r rs ih =>
      intro ds hl hx
      cases ds with
      | nil => simp at hl
      | cons d ds =>
        obtain ⟨us, e, tm⟩ := ih (by simpa using hl) fun x hm => hx x (by rw [List.zip_cons_cons]; simp [hm])
        obtain ⟨t, _, et, ht⟩ := hx (r, d) (by rw [List.zip_cons_cons]; simp)
        have et : d = termN t := et
        exact ⟨t :: us, by rw [List.map_cons, ← e, et], ht, tm⟩
  obtain ⟨us, e, tm⟩ := key hl fun x hx => h.mem (pm.mem_iff.mp hx)
  refine ⟨us, e, ?_, tm⟩
  have p2 : ds.Perm (ts.map termN) := by
    have := pm.map Prod.snd
    rwa [List.map_snd_zip (by omega), List.map_snd_zip (by rw [List.length_map, h.length]; exact Nat.le_refl _)] at this
  rw [e] at p2
  have un : ∀ l : Pol, (l.map termN).map (fun d => ((((fl d).dropLast).map Int.toNat, (fl d).getLastD 0) : List Nat × Int)) = l := fun l => by
    rw [List.map_map]
    refine (List.map_congr_left fun t _ => ?_).trans (List.map_id _)
    show ((((fl (termN t)).dropLast).map Int.toNat, (fl (termN t)).getLastD 0) : List Nat × Int) = t
    rw [fl_termN, List.dropLast_concat, unI_toI]
    simp
  have := p2.map fun d => ((((fl d).dropLast).map Int.toNat, (fl d).getLastD 0) : List Nat × Int)
  rwa [un, un] at this
theorem putN_len (d : Pol) (ns : List Nat) (c : Int) : (putN d ns c).length ≤ d.length + 1 := by
  unfold putN
  split
  · rw [List.length_map]; omega
  · rw [List.length_append]; exact Nat.le_refl _
end L2

set_option Elab.async false
set_option linter.all false
set_option maxRecDepth 100000
set_option maxHeartbeats 4000000
namespace L2
open PySem PySem.Spec PyProof.Rows
/-- tuples stay -/
def KeepT (H H' : Hp) : Prop := ∀ p xs, H p = some (.tup xs) → H' p = some (.tup xs)
theorem KeepT.refl (H : Hp) : KeepT H H := fun _ _ e => e
theorem KeepT.trans {H H' H2 : Hp} (a : KeepT H H') (b : KeepT H' H2) : KeepT H H2 := fun p xs e => b p xs (a p xs e)
theorem Same.kt {H H' : Hp} (s : Same H H') : KeepT H H' := fun p xs e => s p _ e
theorem TmAt.keep {H H' : Hp} {v : V} {t : List Nat × Int} (h : TmAt H v t) (s : KeepT H H') : TmAt H' v t := by
  obtain ⟨p, b, e, h1, h2⟩ := h
  exact ⟨p, b, e, s _ _ h1, s _ _ h2⟩
theorem Tms.keep {H H' : Hp} (s : KeepT H H') : ∀ {vs : List V} {ts : Pol}, Tms H vs ts → Tms H' vs ts
  | [], [], _ => trivial
  | [], _ :: _, h => h.elim
  | _ :: _, [], h => h.elim
  | _ :: _, _ :: _, h => ⟨h.1.keep s, Tms.keep s h.2⟩
/-- all but p stays -/
def SameB (p : Addr) (H H' : Hp) : Prop := ∀ b o, b ≠ p → H b = some o → H' b = some o
theorem SameB.refl (p : Addr) (H : Hp) : SameB p H H := fun _ _ _ e => e
theorem SameB.trans {p : Addr} {H H' H2 : Hp} (a : SameB p H H') (b : SameB p H' H2) : SameB p H H2 := fun c o n e => b c o n (a c o n e)
theorem SameB.same {p : Addr} {H H' H2 : Hp} (a : SameB p H H') (b : Same H' H2) : SameB p H H2 := fun c o n e => b c o (a c o n e)
theorem SameB.new {p f : Addr} {H H' : Hp} {o : HO} (a : SameB p H H') (h : H f = none) : SameB p H (upd H' f o) := fun b o' n e => by
  rw [upd_ne (fun z => by rw [z, h] at e; cases e)]; exact a b o' n e
theorem SameB.free {p f : Addr} {H H' : Hp} {o : HO} (a : SameB p H H') (hp : H' p = some o) (h : H' f = none) : H f = none := by
  cases e : H f with
  | none => rfl
  | some u =>
    have : f ≠ p := fun z => by rw [z, hp] at h; cases h
    rw [a f u this e] at h; cases h
theorem SameB.kt {p : Addr} {H H' : Hp} {ys : List V} (a : SameB p H H') (hp : H p = some (.lst ys)) : KeepT H H' := fun b xs e => a b _ (fun z => by rw [z, hp] at e; cases e) e
section
variable {K : PySem.W.Frag} {g : TG} {tt : TT} {te : TE} {vs : List Nat} {σ : St} {H1 : Hp} {D : Addr} {Qd : Hp → Prop}
end
/-- adding up: the terms put into a dict, one behind another -/
def addUp : Pol → Pol → Pol
  | d, [] => d
  | d, t :: r => addUp (putN d t.1 (cf d t.1 + t.2)) r
theorem addUp_nodup : ∀ (l d : Pol), (d.map (·.1)).Nodup → ((addUp d l).map (·.1)).Nodup
  | [], d, h => h
  | u :: r, d, h => addUp_nodup r _ (putN_nodup h _ _)
theorem addUp_len : ∀ (l d : Pol), (addUp d l).length ≤ d.length + l.length
  | [], d => Nat.le_refl _
  | u :: r, d => by
    have h1 := addUp_len r (putN d u.1 (cf d u.1 + u.2))
    have h2 := putN_len d u.1 (cf d u.1 + u.2)
    show (addUp (putN d u.1 (cf d u.1 + u.2)) r).length ≤ d.length + (r.length + 1)
    omega
theorem addUp_cf (ns : List Nat) : ∀ (l d : Pol), (d.map (·.1)).Nodup → cf (addUp d l) ns = cf d ns + cf l ns
  | [], d, _ => by simp [addUp, cf]
  | u :: r, d, h => by
    show cf (addUp (putN d u.1 (cf d u.1 + u.2)) r) ns = _
    rw [addUp_cf ns r _ (putN_nodup h _ _), cf_put h]
    simp only [cf]
    by_cases e : ns = u.1
    · subst e; rw [if_pos rfl, if_pos rfl]; omega
    · rw [if_neg e, if_neg fun z => e z.symm]; omega
theorem addUp_keys {m : Nat} : ∀ (l d : Pol), (∀ t ∈ l, t.1.length = m) → (∀ ns ∈ d.map (·.1), ns.length = m) → ∀ ns ∈ (addUp d l).map (·.1), ns.length = m
  | [], d, _, h => h
  | u :: r, d, hl, h => addUp_keys r _ (fun t ht => hl t (by simp [ht])) fun ns hn => by
    rw [putN_keys] at hn
    split at hn
    · exact h ns hn
    · rcases List.mem_append.mp hn with z | z
      · exact h ns z
      · rw [List.mem_singleton] at z; rw [z]; exact hl u (by simp)
/-- weights and numbers bounded -/
def Small (z B : Nat) (ts : Pol) : Prop := ∀ t ∈ ts, t.1.sum ≤ z ∧ t.2.natAbs ≤ B
theorem Small.snoc {z B : Nat} {ts : Pol} {t : List Nat × Int} (h : Small z B ts) (h1 : t.1.sum ≤ z) (h2 : t.2.natAbs ≤ B) : Small z B (ts ++ [t]) := fun u hu => by
  rcases List.mem_append.mp hu with hu | hu
  · exact h u hu
  · rw [List.mem_singleton] at hu; subst hu; exact ⟨h1, h2⟩
theorem Small.app {z B : Nat} {ts us : Pol} (h : Small z B ts) (h' : Small z B us) : Small z B (ts ++ us) := fun u hu => by
  rcases List.mem_append.mp hu with hu | hu
  · exact h u hu
  · exact h' u hu
theorem Small.mono {z z' B B' : Nat} {ts : Pol} (h : Small z B ts) (hz : z ≤ z') (hB : B ≤ B') : Small z' B' ts := fun t ht => ⟨Nat.le_trans (h t ht).1 hz, Nat.le_trans (h t ht).2 hB⟩
theorem cf_le {z B : Nat} : ∀ {ts : Pol}, Small z B ts → ∀ ns, (cf ts ns).natAbs ≤ ts.length * B
  | [], _, ns => by simp [cf]
  | t :: r, h, ns => by
    have ih := cf_le (ts := r) (fun u hu => h u (by simp [hu])) ns
    have ht := (h t (by simp)).2
    have e : (t :: r).length * B = r.length * B + B := by rw [List.length_cons, Nat.succ_mul]
    rw [e]
    simp only [cf]
    split <;> omega
theorem nodup_le {α : Type} [DecidableEq α] : ∀ {a b : List α}, a.Nodup → (∀ x ∈ a, x ∈ b) → a.length ≤ b.length
  | [], b, _, _ => Nat.zero_le _
  | x :: r, b, h, hs => by
    rw [List.nodup_cons] at h
    have hx : x ∈ b := hs x (by simp)
    have := nodup_le (a := r) (b := b.erase x) h.2 fun y hy => (List.mem_erase_of_ne (fun e : y = x => h.1 (by rw [← e]; exact hy))).mpr (hs y (by simp [hy]))
    rw [List.length_erase_of_mem hx] at this
    have : 0 < b.length := List.length_pos_of_mem hx
    rw [List.length_cons]; omega
theorem cf_keys {ts : Pol} {ns : List Nat} (h : cf ts ns ≠ 0) : ns ∈ ts.map (·.1) := by
  by_cases e : ns ∈ ts.map (·.1)
  · exact e
  · exact absurd (cf_none e) h
theorem Can.sub {m : Nat} {us ts : Pol} (h : Can m us) (hc : ∀ ns, cf us ns = cf ts ns) : ∀ ns ∈ us.map (·.1), ns ∈ ts.map (·.1) := fun ns hn => cf_keys (by rw [← hc]; exact (can_key h ns).mp hn)
theorem Can.len {m : Nat} {us ts : Pol} (h : Can m us) (hc : ∀ ns, cf us ns = cf ts ns) : us.length ≤ ts.length := by
  have := nodup_le h.nd (h.sub hc)
  rwa [List.length_map, List.length_map] at this
theorem Can.small {m z B : Nat} {us ts : Pol} (h : Can m us) (hc : ∀ ns, cf us ns = cf ts ns) (hs : Small z B ts) : Small z (ts.length * B) us := fun t ht => by
  obtain ⟨u, hu, e⟩ := List.mem_map.mp (h.sub hc t.1 (List.mem_map.mpr ⟨t, ht, rfl⟩))
  refine ⟨by rw [← e]; exact (hs u hu).1, ?_⟩
  rw [← cf_mem h.nd ht, hc]
  exact cf_le hs _
/-! two neighbouring unknowns exchanged -/
theorem swap_twiceG {α : Type} : ∀ (ns : List α) (k : Nat), swapAt (swapAt ns k) k = ns
  | [], 0 => rfl
  | [], k + 1 => rfl
  | [a], 0 => rfl
  | a :: b :: r, 0 => rfl
  | a :: r, k + 1 => by rw [swapAt_succ, swapAt_succ, swap_twiceG r k]
end L2

set_option Elab.async false
set_option linter.all false
set_option maxRecDepth 100000
set_option maxHeartbeats 4000000
namespace L2
open PySem PySem.Spec PyProof.Rows
/-! max(xs, default=d) of a list of ints -/
section
variable {prog : Program} {w : World} {A : Around} {R : Result → Shared → Prop} {I : Addr} {fp wr : List Addr} {n : Nat} {P : Nat → Value → Prop} {St : Nat → Heap → Prop}
end
section
variable {prog : Program} {w : World} {A : Around} {E : Value → Shared → Prop} {s : Shared} {l : Addr} {its : List Value} {ns : List Int} {Q : Value → Shared → Prop}
end
section
variable {X : Cx} {e be : Expr} {t tk : TA} {p pos kp : Pos}
end
end L2

set_option Elab.async false
set_option linter.all false
set_option maxRecDepth 100000
set_option maxHeartbeats 4000000
namespace L2
open PySem PySem.Spec PyProof.Rows
/-! {k: v for target in iter if ..}, keys that are tuples -/
section
variable {X : Cx} {pins : List (Addr × Obj)} {σ : St} {H : Hp} {s : Shared} {a : Addr} {y v : V} {u r : Value} {A : Around} {E : Value → Shared → Prop}
end
section
variable {X : Cx}
end
end L2

set_option Elab.async false
set_option linter.all false
set_option maxRecDepth 100000
set_option maxHeartbeats 4000000
namespace L2
open PySem PySem.Spec PyProof.Rows
/-! for k, v in d.items(), the keys tuples: the dict's entries, whatever its keys -/
section
variable {prog : Program} {w : World} {A : Around} {E : Value → Shared → Prop} {s : Shared} {d : Addr} {o : Obj} {es : Array DictEntry} {ep n : Nat}
end
section
variable {X : Cx} {pins : List (Addr × Obj)} {σ : St} {H : Hp} {s : Shared} {d : Addr} {o : Obj}
end
end L2

set_option Elab.async false
set_option linter.all false
set_option maxRecDepth 100000
set_option maxHeartbeats 4000000
namespace L2
open PySem PySem.Spec PyProof.Rows
/-! a polynomial's number at a point -/
def pp : List Nat → List Int → Int
  | n :: ns, x :: xs => x ^ n * pp ns xs
  | _, _ => 1
def SF (F : List Nat → Int) : Pol → Int
  | [] => 0
  | t :: r => t.2 * F t.1 + SF F r
/-- the last unknown replaced by a number -/
def wlT (w : Int) (t : List Nat × Int) : List Nat × Int := (t.1.dropLast, t.2 * w ^ (t.1.getLastD 0))
def wl (w : Int) (D : Pol) : Pol := addUp [] (D.map (wlT w))
theorem last_cut {ns : List Nat} (h : ns ≠ []) : ns = ns.dropLast ++ [ns.getLastD 0] := by
  rw [List.getLastD_eq_getLast?, List.getLast?_eq_some_getLast h]
  exact (List.dropLast_concat_getLast h).symm
theorem sum_dropLast (ns : List Nat) : ns.dropLast.sum ≤ ns.sum ∧ ns.getLastD 0 ≤ ns.sum := by
  by_cases h : ns = []
  · subst h; simp
  · have e := congrArg List.sum (last_cut h)
    rw [List.sum_append] at e
    simp only [List.sum_cons, List.sum_nil] at e
    omega
theorem pow_le2 {w : Int} {c : Nat} (h : w.natAbs ≤ 2 ^ c) (n : Nat) : (w ^ n).natAbs ≤ 2 ^ (c * n) := by
  rw [Int.natAbs_pow, Nat.pow_mul]
  exact Nat.pow_le_pow_left h n
theorem two_mono {a b : Nat} (h : a ≤ b) : 2 ^ a ≤ 2 ^ b := Nat.pow_le_pow_right (by decide) h
theorem mul_le2 {x y : Int} {a b : Nat} (hx : x.natAbs ≤ 2 ^ a) (hy : y.natAbs ≤ 2 ^ b) : (x * y).natAbs ≤ 2 ^ (a + b) := by
  rw [Int.natAbs_mul, Nat.pow_add]
  exact Nat.mul_le_mul hx hy
theorem wlT_small {w : Int} {b : Nat} {D : Pol} (hw : w.natAbs ≤ 2 ^ 130) (h : Small 20 (2 ^ b) D) : Small 20 (2 ^ (b + 2600)) (D.map (wlT w)) := fun t ht => by
  obtain ⟨u, hu, rfl⟩ := List.mem_map.mp ht
  obtain ⟨h1, h2⟩ := h u hu
  obtain ⟨s1, s2⟩ := sum_dropLast u.1
  refine ⟨Nat.le_trans s1 h1, mul_le2 h2 (Nat.le_trans (pow_le2 hw _) (two_mono ?_))⟩
  have : u.1.getLastD 0 ≤ 20 := Nat.le_trans s2 h1
  omega
theorem addUp_sub : ∀ (l d : Pol), ∀ ns ∈ (addUp d l).map (·.1), ns ∈ d.map (·.1) ∨ ns ∈ l.map (·.1)
  | [], d, ns, h => .inl h
  | u :: r, d, ns, h => by
    rcases addUp_sub r (putN d u.1 (cf d u.1 + u.2)) ns h with z | z
    · rw [putN_keys] at z
      split at z
      · exact .inl z
      · rcases List.mem_append.mp z with z | z
        · exact .inl z
        · rw [List.mem_singleton] at z; subst z; exact .inr (by simp)
    · exact .inr (by rw [List.map_cons]; exact List.mem_cons_of_mem _ z)
theorem addUp_small {z B : Nat} {l : Pol} (h : Small z B l) : Small z (l.length * B) (addUp [] l) := fun t ht => by
  have nd := addUp_nodup l [] List.nodup_nil
  have hk : t.1 ∈ l.map (·.1) := by
    rcases addUp_sub l [] t.1 (List.mem_map.mpr ⟨t, ht, rfl⟩) with z | z
    · cases z
    · exact z
  obtain ⟨u, hu, e⟩ := List.mem_map.mp hk
  refine ⟨by rw [← e]; exact (h u hu).1, ?_⟩
  rw [← cf_mem nd ht, addUp_cf _ _ [] List.nodup_nil]
  have := cf_le h t.1
  show (0 + cf l t.1).natAbs ≤ _
  rw [Int.zero_add]; exact this
structure Tbl (k b : Nat) (D : Pol) : Prop where
  nd : (D.map (·.1)).Nodup
  len : ∀ t ∈ D, t.1.length = k
  few : D.length ≤ 128
  sm : Small 20 (2 ^ b) D
theorem Tbl.wl {k b : Nat} {D : Pol} {w : Int} (h : Tbl (k + 1) b D) (hw : w.natAbs ≤ 2 ^ 130) : Tbl k (b + 2607) (wl w D) where
  nd := addUp_nodup _ [] List.nodup_nil
  len := fun t ht => by
    refine addUp_keys (m := k) (D.map (wlT w)) [] (fun u hu => ?_) (fun _ z => nomatch z) t.1 (List.mem_map.mpr ⟨t, ht, rfl⟩)
    obtain ⟨v, hv, rfl⟩ := List.mem_map.mp hu
    show v.1.dropLast.length = k
    rw [List.length_dropLast, h.len v hv]; rfl
  few := by
    have := addUp_len (D.map (wlT w)) []
    rw [List.length_map] at this
    have e : ([] : Pol).length = 0 := rfl
    have := h.few
    unfold L2.wl
    omega
  sm := by
    refine (addUp_small (wlT_small hw h.sm)).mono (Nat.le_refl _) ?_
    rw [List.length_map]
    refine Nat.le_trans (Nat.mul_le_mul_right _ (show D.length ≤ 2 ^ 7 from h.few)) ?_
    rw [← Nat.pow_add]
    exact two_mono (by omega)
end L2

set_option Elab.async false
set_option linter.all false
set_option maxRecDepth 100000
set_option maxHeartbeats 4000000
namespace L2
open PySem PySem.Spec PyProof.Rows
/-! ### dict(l) of a list of pairs whose keys are tuples -/
section
variable {prog : Program} {w : World} {A : Around} {E : Value → Shared → Prop}
end
section
variable {X : Cx}
end
end L2

set_option Elab.async false
set_option linter.all false
set_option maxRecDepth 100000
set_option maxHeartbeats 4000000
namespace HT
open PySem PyProof.Rows
section
open PySem.SeqAt
open PySem.AutoSeq1 (wpAny_loadPart')
open PySem.MeetsSeq PySem.MeetsSeq2 PySem.MeetsSeq3
end
section
variable {prog : Program} {w : World} {A : Around} {E : Value → Shared → Prop} {s : Shared}
end
end HT
namespace L2
open PySem PySem.Spec PyProof.Rows
section
variable {X : Cx}
end
end L2

set_option Elab.async false
set_option linter.all false
set_option maxRecDepth 100000
set_option maxHeartbeats 4000000
namespace L2
open PySem PySem.Spec PyProof.Rows
/-! zip(tuple, list) -/
section
variable {prog : Program} {w : World} {A : Around} {E : Value → Shared → Prop} {s : Shared}
end
section
variable {prog : Program} {w : World} {A : Around} {E : Value → Shared → Prop} {s : Shared}
end
end L2

set_option Elab.async false
set_option linter.all false
set_option maxRecDepth 100000
set_option maxHeartbeats 4000000
namespace L2
open PySem PySem.Spec PyProof.Rows SimS
/-! sorted(d, reverse=b) of a dict with tuple keys, each key's tuple told -/
section
variable {X : Cx} {pins : List (Addr × Obj)} {σ : St} {H : Hp} {s : Shared}
end
section
variable {X : Cx} {e be : Expr} {t tk : TA} {p pos kp : Pos}
end
end L2

set_option Elab.async false
set_option linter.all false
set_option maxRecDepth 100000
set_option maxHeartbeats 4000000
namespace L2
open PySem PySem.Spec PyProof.Rows
/-! ### the items of a dict that was just made, and is left alone from then on -/
section
variable {K : PySem.W.Frag} {g : TG} {tt : TT} {te : TE} {vs : List Nat} {σ : St} {H1 : Hp} {D : Addr} {Qd : Hp → Prop}
end
end L2

set_option Elab.async false
set_option linter.all false
set_option maxRecDepth 100000
set_option maxHeartbeats 4000000
namespace L2
open PySem PySem.Spec PyProof.Rows
theorem mem_faN {ns : List Int} {k : Nat} : k ∈ faN ns ↔ k + 1 < ns.length ∧ ns.getD (k + 1) 0 < ns.getD k 0 := by
  unfold faN
  rw [List.mem_filter, List.mem_range, decide_eq_true_eq]
  constructor
  · rintro ⟨h1, h2⟩; exact ⟨by omega, h2⟩
  · rintro ⟨h1, h2⟩; exact ⟨by omega, h2⟩
section
variable {a b : List Int}
end
end L2

set_option Elab.async false
set_option linter.all false
set_option maxRecDepth 100000
set_option maxHeartbeats 4000000
namespace PySem
open PySem PySem.Spec PyProof.Rows
section
variable {prog : Program} {w : World} {A : Around} {E : Value → Shared → Prop} {s : Shared}
end
end PySem
namespace L2
open PySem PySem.Spec PyProof.Rows
section
variable {X : Cx} {tg : Expr}
end
end L2

set_option Elab.async false
set_option linter.all false
set_option maxRecDepth 100000
set_option maxHeartbeats 4000000
namespace L2
open PySem PySem.Spec PyProof.Rows
section
variable {X : Cx} {e st : Expr} {te ts : TE} {pos p2 : Pos}
end
end L2

set_option Elab.async false
set_option linter.all false
set_option maxRecDepth 100000
set_option maxHeartbeats 4000000
namespace L2
open PySem PySem.Spec PyProof.Rows
/-- no tuple of the fragment has a dict -/
def tupO (o : Obj) : Bool := match o.dict with | none => true | some _ => (match o.cls with | .type t => !(t == "tuple") | _ => true)
def tupK (K : PySem.W.Frag) : Bool := K.all fun q => tupO q.2
theorem join_st {R G : St → Hp → Prop} {A : Prop} (hA : (∀ σ Hx, G σ Hx → R σ Hx) → A) (tail : ∀ σ Hx, G σ Hx → R σ Hx) : A := hA tail
end L2

set_option Elab.async false
set_option linter.all false
set_option maxRecDepth 100000
set_option maxHeartbeats 4000000
namespace L2
open PySem PySem.Spec PyProof.Rows
section
variable {X : Cx}
end
end L2

set_option Elab.async false
set_option linter.all false
set_option maxRecDepth 100000
set_option maxHeartbeats 4000000
namespace L2
open PySem PySem.Spec PyProof.Rows
/-! ### xs += ys of lists -/
section
variable {prog : Program} {w : World} {A : Around} {E : Value → Shared → Prop} {s : Shared}
end
section
variable {X : Cx}
end
end L2

set_option Elab.async false
set_option linter.all false
set_option maxRecDepth 100000
set_option maxHeartbeats 4000000
namespace L2
open PySem PySem.Spec PyProof.Rows
/-! zip(tuple, tuple) -/
section
variable {prog : Program} {w : World} {A : Around} {E : Value → Shared → Prop} {s : Shared}
end
section
variable {prog : Program} {w : World} {A : Around} {E : Value → Shared → Prop} {s : Shared}
end
section
variable {K : PySem.W.Frag} {g : TG} {tt : TT} {te : TE} {vs : List Nat} {σ : St} {H1 : Hp} {D : Addr} {Qd : Hp → Prop}
end
end L2

set_option Elab.async false
set_option linter.all false
set_option maxRecDepth 100000
set_option maxHeartbeats 4000000
namespace L2
open PySem PySem.Spec PyProof.Rows
/-! products of polynomials, and how they are found by packed rows -/
/-! keys -/
/-! sums over terms -/
/-! rows -/
/-! the numbers of a row -/
/-! how great the numbers of a product are -/
/-! the terms -/
end L2

set_option Elab.async false
set_option linter.all false
set_option maxRecDepth 100000
set_option maxHeartbeats 4000000
namespace L2
open PySem PySem.Spec PyProof.Rows
/-! dicts of numbers by numbers -/
/-! comprehensions over reversed(range(n)), numbers -/
section
variable {K : PySem.W.Frag} {g : TG} {tt : TT} {te : TE} {vs : List Nat} {σ : St} {H1 : Hp} {D : Addr} {Qd : Hp → Prop}
end
end L2

set_option Elab.async false
set_option linter.all false
set_option maxRecDepth 100000
set_option maxHeartbeats 4000000
namespace L2
open PySem PySem.Spec PyProof.Rows
/-! how polynomials are reckoned with -/
theorem swap_braid {α : Type} : ∀ (ns : List α) (k : Nat), k + 2 < ns.length → swapAt (swapAt (swapAt ns k) (k + 1)) k = swapAt (swapAt (swapAt ns (k + 1)) k) (k + 1)
  | x :: y :: z :: r, 0, _ => rfl
  | x :: r, k + 1, h => by
    simp only [swapAt_succ]
    rw [swap_braid r k (by have : (x :: r).length = r.length + 1 := rfl; omega)]
  | [], _, h => by simp at h
  | [_], 0, h => by simp at h
  | [_, _], 0, h => by simp at h
/-! bounds -/
structure Bd (m z j k : Nat) (ts : Pol) : Prop where
  cn : Can m ts
  few : ts.length ≤ 2 ^ j
  sm : Small z (2 ^ k) ts
theorem Bd.of {m z j k : Nat} {ts us : Pol} (hc : Can m us) (e : ∀ ns, cf us ns = cf ts ns) (hl : ts.length ≤ 2 ^ j) (hs : Small z (2 ^ k) ts) : Bd m z j (k + j) us := by
  refine ⟨hc, Nat.le_trans (hc.len e) hl, (hc.small e hs).mono (Nat.le_refl _) ?_⟩
  rw [Nat.pow_add, Nat.mul_comm]
  exact Nat.mul_le_mul_left _ hl
theorem two_le {a b : Nat} (h : a ≤ b) : 2 ^ a ≤ 2 ^ b := Nat.pow_le_pow_right (by decide) h
theorem Bd.mono {m z z' j j' k k' : Nat} {ts : Pol} (h : Bd m z j k ts) (hz : z ≤ z') (hj : j ≤ j') (hk : k ≤ k') : Bd m z' j' k' ts :=
  ⟨h.cn, Nat.le_trans h.few (two_le hj), h.sm.mono hz (two_le hk)⟩
theorem Bd.len {m z j k : Nat} {ts : Pol} (h : Bd m z j k ts) : ∀ t ∈ ts, t.1.length = m := fun t ht => (h.cn.ok t ht).1
theorem Bd.sum {m z j k : Nat} {ts : Pol} (h : Bd m z j k ts) : ∀ t ∈ ts, t.1.sum ≤ z := fun t ht => (h.sm t ht).1
end L2

set_option Elab.async false
set_option linter.all false
set_option maxRecDepth 100000
namespace L2
open PySem PySem.Spec PyProof.Rows
section
variable {P : Program} {w : World} {K : PySem.W.Frag} {mg : Str → Option Value} {base : Heap} {gq : Array GenState → Drawn → Prop} {k : Nat} {f : Addr} {fd : FuncData} {ps : List Str} {sp sp' : Sp}
/-- two promises of one def -/
theorem FnOk.or {CX : CXT} (F : FnOk P w K mg base CX k f fd ps sp) (G : FnOk P w K mg base CX k f fd ps sp') : FnOk P w K mg base CX k f fd ps (fun vs H Q E => sp vs H Q E ∨ sp' vs H Q E) :=
  ⟨fun vs H Q E h => h.elim (F.len vs H Q E) (G.len vs H Q E), fun A outer s H args us vs Q E hr he hb hv hs => hs.elim (F.run A outer s H args us vs Q E hr he hb hv) (G.run A outer s H args us vs Q E hr he hb hv)⟩
end
/-- whether a thing is an order, as is_order tells -/
def OrdIs (K : PySem.W.Frag) (H : Hp) (v : V) (b : Bool) : Prop := (∃ k, Kd K H v k ∧ k ≠ "tuple" ∧ b = false) ∨ ∃ a xs, v = .ref a ∧ SqT K H a xs ∧ Known K H xs ∧ b = ordV xs
theorem OrdIs.same {K : PySem.W.Frag} {H H' : Hp} {v : V} {b : Bool} (h : OrdIs K H v b) (s : Same H H') : OrdIs K H' v b := by
  rcases h with ⟨k, a, c, d⟩ | ⟨a, xs, rfl, c, d, e⟩
  · exact .inl ⟨k, s.kd a, c, d⟩
  · exact .inr ⟨a, xs, rfl, s.seqT c, fun x hx => let ⟨k, h⟩ := d x hx; ⟨k, s.kd h⟩, e⟩
end L2

set_option Elab.async false
set_option linter.all false
set_option maxRecDepth 100000
set_option maxHeartbeats 4000000
namespace L2
open PySem PySem.Spec PyProof.Rows
/-- whether a thing is a word of so many things -/
def wordV (m : Int) (xs : List V) : Bool := decide (xs.length ≤ 30) && xs.all fun x => withinV x 0 (m - 2)
def WordIs (K : PySem.W.Frag) (H : Hp) (m : Int) (v : V) (b : Bool) : Prop := (∃ k, Kd K H v k ∧ k ≠ "list" ∧ b = false) ∨ ∃ a xs, v = .ref a ∧ SqL K H a xs ∧ Known K H xs ∧ b = wordV m xs
theorem WordIs.same {K : PySem.W.Frag} {H H' : Hp} {m : Int} {v : V} {b : Bool} (h : WordIs K H m v b) (s : Same H H') : WordIs K H' m v b := by
  rcases h with ⟨k, a, c, d⟩ | ⟨a, xs, rfl, c, d, e⟩
  · exact .inl ⟨k, s.kd a, c, d⟩
  · exact .inr ⟨a, xs, rfl, s.seqL c, fun x hx => let ⟨k, h⟩ := d x hx; ⟨k, s.kd h⟩, e⟩
theorem wordV_true {m : Int} {xs : List V} (h : xs.length ≤ 30) (hi : ∀ x ∈ xs, ∃ i : Int, x = .int i ∧ 0 ≤ i ∧ i ≤ m - 2) : wordV m xs = true := by
  unfold wordV
  rw [decide_eq_true h, Bool.true_and, List.all_eq_true]
  intro x hx
  obtain ⟨i, rfl, h0, h1⟩ := hi x hx
  simp [withinV, h0, h1]
theorem word_known {K : PySem.W.Frag} {H : Hp} {m : Int} {xs : List V} (hi : ∀ x ∈ xs, ∃ i : Int, x = .int i ∧ 0 ≤ i ∧ i ≤ m - 2) : Known K H xs := fun x hx => by
  obtain ⟨i, rfl, _⟩ := hi x hx
  exact ⟨"int", rfl⟩
end L2

set_option Elab.async false
set_option linter.all false
set_option maxRecDepth 100000
set_option maxHeartbeats 4000000
namespace L2
open PySem PySem.Spec PyProof.Rows
section
variable {X : Cx}
end
end L2

set_option Elab.async false
set_option linter.all false
set_option maxRecDepth 100000
set_option maxHeartbeats 4000000
namespace L2
open PySem PySem.Spec PyProof.Rows
section
variable {K : PySem.W.Frag} {g : TG} {tt : TT} {te : TE} {vs : List Nat} {σ : St} {H1 H0 : Hp} {D : Addr} {Qd : Hp → Prop}
end
end L2

set_option Elab.async false
set_option linter.all false
set_option maxRecDepth 100000
set_option maxHeartbeats 4000000
namespace L2
open PySem PySem.Spec PyProof.Rows
section
variable {X : Cx} {CX : CXT} {k : Nat} {f : Addr} {fd : FuncData} {ps : List Str} {ds : List Value} {sp : Sp} {dvs : List V} {E : XK} {t : TA} {x : Str} {p pos : Pos} {e : Expr} {es : List Expr}
/-- x(..), where x is a local name that stands for a def -/
def tCallV (i : Nat) (f : Addr) (sp : Sp) (dvs : List V) (E : XK) (t : TA) : TE := fun σ H Q => σ[i]? = some (some (.ref f)) ∧ tCall sp dvs E t σ H Q
theorem pe_callV {i : Nat} (F : FnOk X.prog X.w X.K X.mg X.base CX k f fd ps sp) (hr : Room k X.A) (hk : PySem.W.keepIn X.K (.ref f) = true) (hb : Binds X.K fd ps ds) (hd : Vals dvs ds) (hx : Passes CX X E)
    (ha : PA X (e :: es) t) (hN : X.N[i]? = some x := by rfl) (hv : Vis X.env.scope x := by first | exact Or.inl rfl | exact Or.inr (Or.inl rfl) | exact Or.inr (Or.inr rfl))
    (hdb : (x == ("__debug__" : Str)) = false := by decide) (hcd : (x == ("__classdict__" : Str)) = false := by decide)
    (he : starEach (e :: es) X.env = (false, eval e X.env) :: starEach es X.env := by rfl) (hpl : (backTo pos (starEach es X.env)).any (·.1) = false := by rfl) :
    PE X (.Call (.Name x p) (e :: es) [] pos) (tCallV i f sp dvs E t) := by
  intro pins s σ H Q I h
  obtain ⟨hi, h⟩ := h
  refine wpAny_Call_Name_kw (thn (pe_var hN hv hdb hcd pins s σ H (fun y H1 => y = .ref f ∧ H1 = H) I ⟨_, hi, rfl, rfl⟩) fun u s1 ⟨y, H1, I1, r, e1, e2⟩ => ?_)
  subst e1 e2
  obtain rfl : u = Value.ref f := r
  refine PySem.W.callWith_K (h₀ := X.base) I1.ok.mod.kin hk (thn (ha pos pins s1 σ H1 _ I1 h) fun us s2 ⟨vs, H2, I2, r2, q⟩ => ⟨I2.kIn, ?_⟩) he hpl
  exact run_fn F hr hb hd hx I2 r2 q
/-- {k: v}, k a tracked tuple of ints and texts -/
def tDisT (tk tv : TE) : TE := fun σ H Q => ∀ p, H p = none → tk σ (upd H p (.dT [])) fun x H1 => tv σ H1 fun y H2 => H2 p = some (.dT []) ∧ ∃ b ks, x = .ref b ∧ H2 b = some (.tup (ks.map kV)) ∧ Q (.ref p) (upd H2 p (.dT [(ks, y)]))
theorem pe_disT {ek ev : Expr} {tk tv : TE} (hu : X.A.units + 1 < cLine) (hk : PE X ek tk) (hv : PE X ev tv) : PE X (.Dict [some ek] [ev] pos) (tDisT tk tv) := by
  intro pins s σ H Q I q
  have hn := I.hok.fresh (Nat.le_refl s.heap.objs.size)
  have I1 := I.laid (a := s.heap.objs.size) (o := .dT []) (h' := s.heap.push { cls := .type "dict", data := .dict #[] }) (t' := s.toks) (fun _ _ q => Heap.get?_push_of_some _ q) (Nat.le_refl _) (dt_empty s.heap I.big)
  refine wpAny_Dict_any rfl rfl (by simp) (by show 1 ≤ 15; decide) ?_
  refine thn (pps_cons hk hv pps_nil pins _ σ _ (fun ps H2 => match ps with
    | [(x, y)] => H2 s.heap.objs.size = some (.dT []) ∧ ∃ b ks, x = .ref b ∧ H2 b = some (.tup (ks.map kV)) ∧ Q (.ref s.heap.objs.size) (upd H2 s.heap.objs.size (.dT [(ks, y)]))
    | _ => False) I1 (q _ hn)) fun ws s2 ⟨ps, H2, I2, rel, qq⟩ => ?_
  match ps, rel, qq with
  | [(x, y)], rel, ⟨e, b, ks, ex, eb, q2⟩ =>
    cases rel with
    | @cons _ w _ ws' h t =>
      cases t
      obtain ⟨u, r⟩ := w
      obtain ⟨ru, rv⟩ := h
      subst ex
      obtain rfl : u = Value.ref b := ru
      obtain ⟨z, hd, xs, rel0, dd⟩ := dt_of I2.hok e
      have e0 : xs = [] := by have := Paired.length rel0; exact List.eq_nil_of_length_eq_zero this.symm
      subst e0
      unfold PySem.storeAll
      simp only [List.forIn_cons, List.forIn_nil, bind_assoc, pure_bind]
      refine wpAny_bind (wpAny_dictSet_heap (by show X.A.units < cLine; omega) (key_of I2.hok eb) dd (fun h' dd' hs => ?_) (Nat.zero_le _))
      obtain ⟨qo, es, ep, hq, h2, h3, h4, _, h5⟩ := dd'
      refine wpAny_pure ⟨.ref s.heap.objs.size, _, d_write (ob := .dT [(ks, y)]) I2 (by rw [e]; exact True.intro) hs ⟨qo, hq⟩ ⟨?_, hd, _, (rel0.put ks eb rv).keeps fun c ys ec => ?_, qo, es, ep, hq, h2, h3, h4, h5⟩, rfl, q2⟩
      · rw [sizeLine_eq]; show 1 ≤ _; decide
      · rw [upd_ne (ne_of ec e (fun z => nomatch z))]
        exact ec
end
end L2

set_option Elab.async false
set_option linter.all false
namespace L2
open PySem PySem.SetTable
def itr {α : Type} (f : α → α) : Nat → α → α
  | 0, x => x
  | n + 1, x => itr f n (f x)
theorem itr_add {α : Type} (f : α → α) : ∀ (m n : Nat) (x : α), itr f (m + n) x = itr f n (itr f m x)
  | 0, n, x => by rw [Nat.zero_add]; rfl
  | m + 1, n, x => by rw [show m + 1 + n = (m + n) + 1 by omega]; exact itr_add f m n (f x)
def Fq (x : Nat) : Nat := 5 * x + 1
def Bk : Nat → Nat
  | 0 => 1
  | k + 1 => (4 * Bk k + 2) * Bk k
theorem itr_F : ∀ (k x : Nat), itr Fq (2 ^ k) x = (4 * Bk k + 1) * x + Bk k
  | 0, x => by show 5 * x + 1 = _; simp [Bk]
  | k + 1, x => by
    rw [show 2 ^ (k + 1) = 2 ^ k + 2 ^ k by rw [Nat.pow_succ]; omega, itr_add, itr_F k, itr_F k]
    show _ = (4 * ((4 * Bk k + 2) * Bk k) + 1) * x + (4 * Bk k + 2) * Bk k
    generalize Bk k = B
    grind
theorem Bk_odd : ∀ k : Nat, ∃ q, Bk k = 2 ^ k * (2 * q + 1)
  | 0 => ⟨0, rfl⟩
  | k + 1 => by
    obtain ⟨q, e⟩ := Bk_odd k
    refine ⟨2 * Bk k * q + Bk k + q, ?_⟩
    show (4 * Bk k + 2) * Bk k = _
    rw [Nat.pow_succ]
    have : (4 * Bk k + 2) * Bk k = (4 * Bk k + 2) * (2 ^ k * (2 * q + 1)) := by rw [← e]
    rw [this]
    generalize Bk k = B
    generalize 2 ^ k = P
    grind
theorem reach_F : ∀ (k x e : Nat), e < 2 ^ k → ∃ n, n < 2 ^ k ∧ itr Fq n x % 2 ^ k = e
  | 0, x, e, h => ⟨0, by decide, by have : e = 0 := by simpa using h
                                    subst this; exact Nat.mod_one _⟩
  | k + 1, x, e, h => by
    have h0 : 0 < 2 ^ k := Nat.pow_pos (by decide)
    have e2 : 2 ^ (k + 1) = 2 ^ k + 2 ^ k := by rw [Nat.pow_succ]; omega
    obtain ⟨n, hn, hx⟩ := reach_F k x (e % 2 ^ k) (Nat.mod_lt _ h0)
    by_cases c : itr Fq n x % 2 ^ (k + 1) = e
    · exact ⟨n, by omega, c⟩
    · refine ⟨n + 2 ^ k, by omega, ?_⟩
      rw [itr_add, itr_F]
      obtain ⟨q, hq⟩ := Bk_odd k
      generalize itr Fq n x = y at *
      have key : (4 * Bk k + 1) * y + Bk k = (y + 2 ^ k) + 2 ^ (k + 1) * (2 * (2 * q + 1) * y + q) := by
        rw [hq, e2]
        generalize 2 ^ k = P
        grind
      rw [key, Nat.add_mul_mod_self_left, e2]
      rw [e2] at c h
      generalize 2 ^ k = P at *
      have m1 : y % (P + P) % P = y % P := Nat.mod_mod_of_dvd y ⟨2, by omega⟩
      have m2 : y % (P + P) < P + P := Nat.mod_lt _ (by omega)
      rw [Nat.add_mod, Nat.mod_eq_of_lt (show P < P + P by omega)]
      generalize y % (P + P) = z at *
      rw [← m1] at hx
      rcases Nat.lt_or_ge z P with a | a <;> rcases Nat.lt_or_ge e P with b | b
      · rw [Nat.mod_eq_of_lt a, Nat.mod_eq_of_lt b] at hx; exact absurd hx c
      · rw [Nat.mod_eq_of_lt a, Nat.mod_eq_sub_mod b, Nat.mod_eq_of_lt (by omega)] at hx
        rw [Nat.mod_eq_of_lt (by omega)]; omega
      · rw [Nat.mod_eq_sub_mod a, Nat.mod_eq_of_lt (by omega), Nat.mod_eq_of_lt b] at hx
        rw [Nat.mod_eq_sub_mod (by omega), Nat.mod_eq_of_lt (by omega)]; omega
      · rw [Nat.mod_eq_sub_mod a, Nat.mod_eq_of_lt (by omega), Nat.mod_eq_sub_mod b, Nat.mod_eq_of_lt (by omega)] at hx; omega
/-- one leap -/
def Tq (m : Nat) (q : Nat × Nat) : Nat × Nat := leap m q.1 q.2
theorem Tq_lt (m : Nat) (q : Nat × Nat) : (Tq m q).1 < m + 1 := Nat.mod_lt _ (by omega)
theorem itr_T2 (m : Nat) : ∀ (n : Nat) (q : Nat × Nat), (itr (Tq m) n q).2 = q.2 / 32 ^ n
  | 0, q => by simp [itr]
  | n + 1, q => by
    show (itr (Tq m) n (Tq m q)).2 = _
    rw [itr_T2 m n]
    show q.2 / 32 / 32 ^ n = _
    rw [Nat.div_div_eq_div_mul, Nat.pow_succ, Nat.mul_comm 32]
theorem itr_T0 (m : Nat) : ∀ (n i : Nat), (itr (Tq m) n (i, 0)).1 % (m + 1) = itr Fq n i % (m + 1)
  | 0, i => rfl
  | n + 1, i => by
    show (itr (Tq m) n (Tq m (i, 0))).1 % (m + 1) = itr Fq n (Fq i) % (m + 1)
    have : Tq m (i, 0) = ((i * 5 + 1) % (m + 1), 0) := by simp [Tq, leap]
    rw [this, itr_T0 m n]
    have key : ∀ (n a b : Nat), a % (m + 1) = b % (m + 1) → itr Fq n a % (m + 1) = itr Fq n b % (m + 1) := by
      intro n
      induction n with
      | zero => intro a b h; exact h
      | succ n ih =>
        intro a b h
        refine ih _ _ ?_
        show (5 * a + 1) % (m + 1) = (5 * b + 1) % (m + 1)
        rw [Nat.add_mod, Nat.mul_mod, h, ← Nat.mul_mod, ← Nat.add_mod]
    refine key n _ _ ?_
    rw [Nat.mod_mod]
    show (i * 5 + 1) % _ = (5 * i + 1) % _
    rw [Nat.mul_comm]
theorem itr_T_lt (m : Nat) : ∀ (n : Nat) (q : Nat × Nat), q.1 < m + 1 → (itr (Tq m) n q).1 < m + 1
  | 0, q, h => h
  | n + 1, q, h => itr_T_lt m n _ (Tq_lt m q)
theorem reach_T {m k : Nat} (hm : m + 1 = 2 ^ k) {i pt e : Nat} (hp : pt < 2 ^ 64) (hi : i < m + 1) (he : e < m + 1) : ∃ n, n < m + 14 ∧ (itr (Tq m) n (i, pt)).1 = e := by
  have z : (itr (Tq m) 13 (i, pt)).2 = 0 := by rw [itr_T2]; exact Nat.div_eq_of_lt (Nat.lt_of_lt_of_le hp (by decide))
  have l : (itr (Tq m) 13 (i, pt)).1 < m + 1 := itr_T_lt m 13 _ hi
  generalize hq : itr (Tq m) 13 (i, pt) = q at z l
  obtain ⟨a, b⟩ := q
  simp only at z l
  subst z
  obtain ⟨n, hn, hr⟩ := reach_F k a e (hm ▸ he)
  refine ⟨13 + n, by omega, ?_⟩
  rw [itr_add, hq]
  rw [← hm, ← itr_T0, Nat.mod_eq_of_lt (itr_T_lt m n _ l)] at hr
  exact hr
/-! ### the probe -/
structure PInv (t : SetTable) (p : Probe) : Prop where
  more : p.more ≤ 9
  i : p.i < t.mask + 1
  pt : p.perturb < 2 ^ 64
  dum : p.dummy = none
theorem runEnd_le (m i : Nat) : runEnd m i - i ≤ 9 := by unfold runEnd; split <;> omega
theorem runEnd_ge (m i : Nat) : i ≤ runEnd m i := by unfold runEnd; split <;> omega
theorem PInv.start (t : SetTable) (h : Int) : PInv t (t.probeStart h) where
  more := runEnd_le _ _
  i := Nat.mod_lt _ (by omega)
  pt := by
    show bits h < 2 ^ 64
    unfold bits
    have := Int.emod_lt_of_pos h (show (0 : Int) < 2 ^ 64 by decide)
    have := Int.emod_nonneg h (show (2 ^ 64 : Int) ≠ 0 by decide)
    omega
  dum := rfl
theorem adv_more {t : SetTable} {p : Probe} (h : 0 < p.more) : t.advance p = { p with j := p.j + 1, more := p.more - 1 } := by unfold advance; rw [if_pos h]
theorem adv_leap {t : SetTable} {p : Probe} (h : p.more = 0) : t.advance p = { p with j := (Tq t.mask (p.i, p.perturb)).1, more := runEnd t.mask (Tq t.mask (p.i, p.perturb)).1 - (Tq t.mask (p.i, p.perturb)).1, i := (Tq t.mask (p.i, p.perturb)).1, perturb := (Tq t.mask (p.i, p.perturb)).2 } := by
  unfold advance; rw [if_neg (by omega)]; rfl
theorem PInv.adv {t : SetTable} {p : Probe} (h : PInv t p) : PInv t (t.advance p) := by
  rcases Nat.eq_zero_or_pos p.more with c | c
  · rw [adv_leap c]
    exact ⟨runEnd_le _ _, Tq_lt _ _, Nat.lt_of_le_of_lt (Nat.div_le_self _ _) h.pt, h.dum⟩
  · rw [adv_more c]
    exact ⟨Nat.le_trans (Nat.sub_le _ _) h.more, h.i, h.pt, h.dum⟩
theorem itr_more (t : SetTable) : ∀ (n : Nat) (p : Probe), p.more = n → (itr t.advance (n + 1) p).j = (Tq t.mask (p.i, p.perturb)).1 ∧ (itr t.advance (n + 1) p).i = (Tq t.mask (p.i, p.perturb)).1 ∧ (itr t.advance (n + 1) p).perturb = (Tq t.mask (p.i, p.perturb)).2
  | 0, p, h => by show (t.advance p).j = _ ∧ _; rw [show itr t.advance (0 + 1) p = t.advance p from rfl, adv_leap h]; exact ⟨rfl, rfl, rfl⟩
  | n + 1, p, h => by
    rw [show itr t.advance (n + 1 + 1) p = itr t.advance (n + 1) (t.advance p) from rfl, adv_more (by omega)]
    exact itr_more t n _ (by show p.more - 1 = n; omega)
theorem PInv.itr {t : SetTable} : ∀ (n : Nat) {p : Probe}, PInv t p → PInv t (itr t.advance n p)
  | 0, p, h => h
  | n + 1, p, h => PInv.itr n h.adv
theorem turns_at (t : SetTable) : ∀ (n : Nat) (p : Probe), PInv t p → ∃ N, N ≤ 10 * (n + 1) ∧ (L2.itr t.advance N p).j = (L2.itr (Tq t.mask) (n + 1) (p.i, p.perturb)).1
  | 0, p, h => ⟨p.more + 1, by have := h.more; omega, (itr_more t _ p rfl).1⟩
  | n + 1, p, h => by
    obtain ⟨a, b, c⟩ := itr_more t _ p rfl
    obtain ⟨N, hN, e⟩ := turns_at t n _ (PInv.itr (p.more + 1) h)
    refine ⟨p.more + 1 + N, by have := h.more; omega, ?_⟩
    rw [itr_add, e, b, c]
    rfl
theorem reach_slot {t : SetTable} {k : Nat} (hm : t.mask + 1 = 2 ^ k) {p : Probe} (h : PInv t p) {e : Nat} (he : e < t.mask + 1) : ∃ N, N < 10 * turns t.mask ∧ (itr t.advance N p).j = e := by
  obtain ⟨n, hn, hr⟩ := reach_T hm (i := (Tq t.mask (p.i, p.perturb)).1) (pt := (Tq t.mask (p.i, p.perturb)).2) (Nat.lt_of_le_of_lt (Nat.div_le_self _ _) h.pt) (Tq_lt _ _) he
  obtain ⟨N, hN, e2⟩ := turns_at t n p h
  refine ⟨N, by unfold turns; omega, ?_⟩
  rw [e2]
  exact hr
theorem slot_live {t : SetTable} {j i : Nat} (h : t.slot j = .live i) : t.place[i]? = some j := by
  unfold slot at h
  dsimp only at h
  split at h
  · rename_i c; injection h with h; subst h; exact eq_of_beq c
  · split at h <;> cases h
theorem slot_three {t : SetTable} (hd : t.dummies = #[]) (j : Nat) : t.slot j = .empty ∨ ∃ i, t.slot j = .live i := by
  unfold slot
  dsimp only
  split
  · exact .inr ⟨_, rfl⟩
  · have : has t.dummies j = false := by rw [hd]; rfl
    rw [this]; exact .inl rfl
theorem some_empty {t : SetTable} (hd : t.dummies = #[]) (hs : t.place.size ≤ t.mask) : ∃ e, e < t.mask + 1 ∧ t.slot e = .empty := by
  false_or_by_contra
  rename_i c
  have all : ∀ j ∈ List.range (t.mask + 1), j ∈ t.place.toList := by
    intro j hj
    rw [List.mem_range] at hj
    rcases slot_three hd j with e | ⟨i, e⟩
    · exact absurd ⟨j, hj, e⟩ c
    · have := slot_live e
      exact List.mem_of_getElem? (i := i) (by rw [Array.getElem?_toList]; exact this)
  have := (List.nodup_range (n := t.mask + 1)).length_le_of_subset all
  rw [List.length_range, Array.length_toList] at this
  omega
/-- the first empty slot on the way from `p` -/
theorem first_empty {t : SetTable} {k : Nat} (hm : t.mask + 1 = 2 ^ k) (hd : t.dummies = #[]) (hs : t.place.size ≤ t.mask) {p : Probe} (h : PInv t p) :
    ∃ N, N < 10 * turns t.mask ∧ t.slot (itr t.advance N p).j = .empty ∧ ∀ n, n < N → ∃ i, t.slot (itr t.advance n p).j = .live i := by
  obtain ⟨e, he, hE⟩ := some_empty hd hs
  obtain ⟨N, hN, hj⟩ := reach_slot hm h he
  have : ∀ N, t.slot (itr t.advance N p).j = .empty → ∃ N', N' ≤ N ∧ t.slot (itr t.advance N' p).j = .empty ∧ ∀ n, n < N' → ∃ i, t.slot (itr t.advance n p).j = .live i := by
    intro N
    induction N using Nat.strongRecOn with
    | ind N ih =>
      intro hN
      by_cases c : ∃ n, n < N ∧ t.slot (itr t.advance n p).j = .empty
      · obtain ⟨n, a, b⟩ := c
        obtain ⟨N', a', b'⟩ := ih n a b
        exact ⟨N', by omega, b'⟩
      · refine ⟨N, Nat.le_refl _, hN, fun n hn => ?_⟩
        rcases slot_three hd (itr t.advance n p).j with e | e
        · exact absurd ⟨n, hn, e⟩ c
        · exact e
  obtain ⟨N', a, b⟩ := this N (by rw [hj]; exact hE)
  exact ⟨N', by omega, b⟩
theorem probe_go {t : SetTable} {hashAt : Nat → Int} {h : Int} : ∀ (fuel N : Nat) (p : Probe), N < fuel → p.dummy = none → t.slot (itr t.advance N p).j = .empty → (∀ n, n < N → ∃ i, t.slot (itr t.advance n p).j = .live i) →
    probe.go t hashAt h fuel p = some (.empty (itr t.advance N p).j none) ∨ ∃ n i, n < N ∧ t.slot (itr t.advance n p).j = .live i ∧ hashAt i = h ∧ probe.go t hashAt h fuel p = some (.candidate (itr t.advance n p).j i (itr t.advance (n + 1) p)) := by
  intro fuel
  induction fuel with
  | zero => intro N p h; omega
  | succ fuel ih =>
    intro N p hN hdm hE hL
    cases N with
    | zero => left; unfold probe.go; rw [show t.slot p.j = .empty from hE, hdm]; rfl
    | succ N =>
      obtain ⟨i, hi⟩ := hL 0 (by omega)
      have hi : t.slot p.j = .live i := hi
      unfold probe.go
      rw [hi]
      dsimp only
      by_cases c : (hashAt i == h) = true
      · rw [if_pos c]
        exact .inr ⟨0, i, by omega, hi, eq_of_beq c, rfl⟩
      · rw [if_neg c]
        have hdm2 : (t.advance p).dummy = none := by
          rcases Nat.eq_zero_or_pos p.more with c | c
          · rw [adv_leap c]; exact hdm
          · rw [adv_more c]; exact hdm
        rcases ih N (t.advance p) (by omega) hdm2 hE (fun n hn => hL (n + 1) (by omega)) with e | ⟨n, i, a, b⟩
        · exact .inl e
        · exact .inr ⟨n + 1, i, by omega, b⟩
/-! ### the table laid anew -/
theorem free_ok {m : Nat} {owner : Array (Option Nat)} : ∀ (n i pt fuel : Nat), owner.getD (itr (Tq m) n (i, pt)).1 (some 0) = none → n < fuel →
    ∃ j, layClean.free m owner fuel i pt = some j ∧ owner.getD j (some 0) = none := by
  intro n
  induction n with
  | zero =>
    intro i pt fuel h hf
    obtain ⟨fuel, rfl⟩ := Nat.exists_eq_succ_of_ne_zero (show fuel ≠ 0 by omega)
    unfold layClean.free
    split
    · rename_i k hk
      have := List.find?_some hk
      exact ⟨_, rfl, by simpa using this⟩
    · rename_i hk
      rw [List.find?_eq_none] at hk
      have := hk 0 (by rw [List.mem_range]; have := runEnd_ge m i; omega)
      rw [show owner.getD (i + 0) (some 0) = none from h] at this
      exact absurd rfl this
  | succ n ih =>
    intro i pt fuel h hf
    obtain ⟨fuel, rfl⟩ := Nat.exists_eq_succ_of_ne_zero (show fuel ≠ 0 by omega)
    unfold layClean.free
    split
    · rename_i k hk
      have := List.find?_some hk
      exact ⟨_, rfl, by simpa using this⟩
    · exact ih (Tq m (i, pt)).1 (Tq m (i, pt)).2 fuel h (by omega)
theorem set_perm {x : Nat} : ∀ (l : List (Option Nat)) (j : Nat), l[j]? = some none → ((l.set j (some x)).filterMap id).Perm (x :: l.filterMap id)
  | [], j, h => by simp at h
  | a :: r, 0, h => by
    simp only [List.getElem?_cons_zero, Option.some.injEq] at h
    subst h
    exact .rfl
  | a :: r, j + 1, h => by
    simp only [List.getElem?_cons_succ] at h
    have ih := set_perm (x := x) r j h
    rw [List.set_cons_succ]
    cases a with
    | none => exact ih
    | some b => exact (ih.cons b).trans (.swap ..)
structure LInv (M : Nat) (owner : Array (Option Nat)) (k : Nat) : Prop where
  size : owner.size = M
  perm : (owner.toList.filterMap id).Perm (List.range k)
theorem all_some_len : ∀ (l : List (Option Nat)), (∀ x ∈ l, x ≠ none) → (l.filterMap id).length = l.length
  | [], _ => rfl
  | none :: r, h => absurd rfl (h none (List.mem_cons_self ..))
  | some a :: r, h => by
    show ((a :: r.filterMap id)).length = _
    rw [List.length_cons, List.length_cons, all_some_len r fun x hx => h x (List.mem_cons_of_mem _ hx)]
theorem lay_step {m k : Nat} (hm : m + 1 = 2 ^ k) {owner : Array (Option Nat)} {n : Nat} (I : LInv (m + 1) owner n) (hn : n ≤ m) (h : Int) :
    ∃ j, layClean.free m owner (turns m) (bits h % (m + 1)) (bits h) = some j ∧ LInv (m + 1) (owner.setIfInBounds j (some n)) (n + 1) := by
  have hp : bits h < 2 ^ 64 := (PInv.start (t := ⟨m, #[], #[], 0, true, 0, true⟩) h).pt
  have ex : ∃ e : Nat, owner.toList[e]? = some none := by
    false_or_by_contra
    rename_i c
    have := all_some_len owner.toList (fun x hx e => by subst e; obtain ⟨i, hi⟩ := List.mem_iff_getElem?.mp hx; exact c ⟨i, hi⟩)
    rw [I.perm.length_eq, List.length_range, Array.length_toList, I.size] at this
    omega
  obtain ⟨e, he⟩ := ex
  rw [Array.getElem?_toList] at he
  have hlt : e < owner.size := by
    rcases Nat.lt_or_ge e owner.size with a | a
    · exact a
    · rw [Array.getElem?_eq_none a] at he; cases he
  obtain ⟨q, hq, hr⟩ := reach_T hm (i := bits h % (m + 1)) (pt := bits h) hp (Nat.mod_lt _ (by omega)) (e := e) (by rw [I.size] at hlt; exact hlt)
  obtain ⟨j, hj, ho⟩ := free_ok (m := m) (owner := owner) q (bits h % (m + 1)) (bits h) (turns m) (by rw [hr, Array.getD_eq_getD_getElem?, he]; rfl) (by unfold turns; omega)
  refine ⟨j, hj, by rw [Array.size_setIfInBounds, I.size], ?_⟩
  rw [Array.getD_eq_getD_getElem?] at ho
  have ho2 : owner[j]? = some none := by
    cases x : owner[j]? with
    | none => rw [x] at ho; cases ho
    | some y => rw [x] at ho; cases y with
      | none => rfl
      | some z => cases ho
  rw [Array.toList_setIfInBounds]
  refine (set_perm owner.toList j (by rw [Array.getElem?_toList]; exact ho2)).trans ?_
  refine (I.perm.cons n).trans ?_
  rw [List.range_succ]
  exact (List.perm_append_singleton ..).symm
theorem lay_fold {m k : Nat} (hm : m + 1 = 2 ^ k) : ∀ (hs : List Int) (owner : Array (Option Nat)) (n : Nat), LInv (m + 1) owner n → n + hs.length ≤ m →
    ∃ owner', hs.foldl (init := some (owner, n)) (fun acc h => do
      let (owner, k) ← acc
      let j ← layClean.free m owner (turns m) (bits h % (m + 1)) (bits h)
      pure (owner.setIfInBounds j (some k), k + 1)) = some (owner', n + hs.length) ∧ LInv (m + 1) owner' (n + hs.length)
  | [], owner, n, I, h => ⟨owner, rfl, I⟩
  | x :: r, owner, n, I, h => by
    rw [List.length_cons] at h
    obtain ⟨j, hj, I2⟩ := lay_step hm I (by omega) x
    obtain ⟨o2, e2, I3⟩ := lay_fold hm r _ _ I2 (by omega)
    refine ⟨o2, ?_, by rw [List.length_cons, show n + (r.length + 1) = n + 1 + r.length by omega]; exact I3⟩
    rw [List.foldl_cons, List.length_cons, show n + (r.length + 1) = n + 1 + r.length by omega]
    rw [← e2]
    congr 1
    show (layClean.free m owner (turns m) (bits x % (m + 1)) (bits x)).bind _ = _
    rw [hj]
    rfl
theorem range_filtO (owner : Array (Option Nat)) : (List.range owner.size).filterMap (fun j => owner.getD j none) = owner.toList.filterMap id := by
  have : (List.range owner.size).map (fun j => owner.getD j none) = owner.toList := by
    apply List.ext_getElem?
    intro i
    rw [List.getElem?_map]
    rcases Nat.lt_or_ge i owner.size with a | a
    · rw [List.getElem?_range a]
      simp [a]
    · rw [List.getElem?_eq_none (l := List.range owner.size) (by rw [List.length_range]; exact a), List.getElem?_eq_none (l := owner.toList) (by rw [Array.length_toList]; exact a)]
      rfl
  rw [← this, List.filterMap_map]
  rfl
theorem laid_ok {m k : Nat} (hm : m + 1 = 2 ^ k) (finger moves : Nat) (led plain : Bool) (hs : Array Int) (hn : hs.size ≤ m) :
    ∃ place order, laid m finger moves led plain hs = some ({ mask := m, place, dummies := #[], finger, led, moves, plain }, order) ∧ place.size = hs.size ∧ order.toList.Perm (List.range hs.size) := by
  obtain ⟨owner, e, I⟩ := lay_fold hm hs.toList (Array.replicate (m + 1) none) 0 ⟨Array.size_replicate, by rw [Array.toList_replicate]; rw [List.filterMap_replicate_of_none (by rfl)]; exact .rfl⟩ (by rw [Array.length_toList]; omega)
  have hl : layClean m hs = some owner := by
    unfold layClean
    rw [← Array.foldl_toList, e]
    rfl
  rw [Array.length_toList, Nat.zero_add] at I
  have e1 : ((List.range (m + 1)).filterMap fun j => (owner.getD j none).map (j, ·)).map (·.2) = owner.toList.filterMap id := by
    rw [← range_filtO, I.size, List.map_filterMap]
    congr 1
    funext j
    cases owner.getD j none <;> rfl
  refine ⟨(((List.range (m + 1)).filterMap fun j => (owner.getD j none).map (j, ·)).map (·.1)).toArray, (((List.range (m + 1)).filterMap fun j => (owner.getD j none).map (j, ·)).map (·.2)).toArray, ?_, ?_, ?_⟩
  · unfold laid
    rw [hl]
    rfl
  · rw [List.size_toArray, List.length_map]
    have := congrArg List.length e1
    rw [List.length_map, I.perm.length_eq, List.length_range] at this
    exact this
  · rw [e1]
    exact I.perm
theorem sizeAbove_go (n : Nat) : ∀ (fuel a : Nat), n < 2 ^ a * 2 ^ fuel → ∃ b, sizeAbove.go n fuel (2 ^ a) = 2 ^ b ∧ n < 2 ^ b ∧ a ≤ b ∧ (b = a ∨ 2 ^ b ≤ 2 * n)
  | 0, a, h => ⟨a, rfl, by simpa using h, Nat.le_refl _, .inl rfl⟩
  | fuel + 1, a, h => by
    unfold sizeAbove.go
    split
    · rename_i c
      obtain ⟨b, e, l1, l2, l3⟩ := sizeAbove_go n fuel (a + 1) (by rw [Nat.pow_succ, Nat.mul_assoc, ← Nat.pow_succ']; exact h)
      refine ⟨b, by rw [← Nat.pow_succ]; exact e, l1, by omega, .inr ?_⟩
      rcases l3 with rfl | l3
      · rw [Nat.pow_succ]; omega
      · exact l3
    · exact ⟨a, rfl, by omega, Nat.le_refl _, .inl rfl⟩
theorem sizeAbove_ok {n : Nat} (h : n < 2 ^ 30) (h8 : 8 ≤ n) : ∃ b, sizeAbove n = 2 ^ b ∧ n < 2 ^ b ∧ 3 ≤ b ∧ 2 ^ b ≤ 2 * n := by
  obtain ⟨b, e, l1, l2, l3⟩ := sizeAbove_go n 64 3 (Nat.lt_of_lt_of_le h (by decide))
  refine ⟨b, e, l1, l2, ?_⟩
  rcases l3 with rfl | l3
  · show 8 ≤ _; omega
  · exact l3
theorem order_perm {es : Array (Int × Value)} {order : Array Nat} (hp : order.toList.Perm (List.range es.size)) : (order.filterMap (es[·]?)).toList.Perm es.toList := by
  rw [Array.toList_filterMap]
  exact (hp.filterMap _).trans (by rw [filterMap_getElem?_range])
/-! ### a table that is whole -/
structure TabOk (t : SetTable) (n : Nat) : Prop where
  pw : ∃ k, 3 ≤ k ∧ t.mask + 1 = 2 ^ k
  small : t.mask ≤ 8191
  size : t.place.size = n
  dum : t.dummies = #[]
  room : n * 5 < t.mask * 3
theorem TabOk.fill {t : SetTable} {n : Nat} (h : TabOk t n) : t.fill = n := by unfold SetTable.fill; rw [h.size, h.dum]; rfl
theorem TabOk.fits {t : SetTable} {n : Nat} (h : TabOk t n) : t.fits n = true := by
  unfold SetTable.fits
  rw [h.fill, h.size]
  have := h.room
  simp; omega
theorem TabOk.kept {t : SetTable} {n : Nat} (h : TabOk t n) : t.gaveWay = false := by
  obtain ⟨k, hk, e⟩ := h.pw
  unfold SetTable.gaveWay
  obtain ⟨k, rfl⟩ : ∃ q, k = q + 1 := ⟨k - 1, by omega⟩
  rw [Nat.pow_succ] at e
  rw [beq_eq_false_iff_ne]; omega
theorem TabOk.fresh (led : Bool) : TabOk (.fresh 0 0 led) 0 := ⟨⟨3, by decide, rfl⟩, (show 7 ≤ 8191 by decide), rfl, rfl, (show 0 * 5 < 7 * 3 by decide)⟩
theorem TabOk.le {t : SetTable} {n : Nat} (h : TabOk t n) : t.place.size ≤ t.mask := by rw [h.size]; have := h.room; omega
theorem insertAt_size {α : Type} (xs : Array α) (p : Nat) (x : α) : (insertAt xs p x).size = xs.size + 1 := by
  rw [← Array.length_toList, (insertAt_perm xs p x).length_eq, Array.length_toList, Array.size_push]
/-- put and, where the room is left, whole again -/
theorem TabOk.put {t : SetTable} {n : Nat} (h : TabOk t n) (j : Nat) : (t.put j).1.mask = t.mask ∧ (t.put j).1.place.size = n + 1 ∧ (t.put j).1.dummies = #[] ∧ (t.put j).1.plain = t.plain := by
  unfold SetTable.put
  have : has t.dummies j = false := by rw [h.dum]; rfl
  dsimp only
  rw [this, insertAt_size, h.size]
  exact ⟨rfl, rfl, h.dum, rfl⟩
theorem relaid_ok {t : SetTable} (hs : Array Int) (h2 : 2 ≤ hs.size) (h1 : hs.size ≤ 2000) : ∃ t' order, t.relaid hs (grown hs.size) = some (t', order) ∧ TabOk t' hs.size ∧ order.toList.Perm (List.range hs.size) := by
  unfold SetTable.relaid
  have g : grown hs.size = hs.size * 4 := by unfold grown; rw [if_neg (by omega)]
  obtain ⟨b, e, l1, l2, l3⟩ := sizeAbove_ok (n := hs.size * 4) (by omega) (by omega)
  rw [g, e]
  obtain ⟨place, order, a, p, q⟩ := laid_ok (m := 2 ^ b - 1) (k := b) (by omega) t.finger (t.movedTo (2 ^ b - 1)) t.led t.plain hs (by omega)
  have l4 : 2 ^ b ≤ 8192 := by
    have : b < 14 := (Nat.pow_lt_pow_iff_right (show 1 < 2 by decide)).mp (show 2 ^ b < 2 ^ 14 by omega)
    exact Nat.pow_le_pow_right (show 0 < 2 by decide) (show b ≤ 13 by omega)
  exact ⟨_, order, a, ⟨⟨b, l2, by show 2 ^ b - 1 + 1 = _; omega⟩, by show 2 ^ b - 1 ≤ _; omega, p, rfl, by show _ < (2 ^ b - 1) * 3; omega⟩, q⟩
end L2

set_option Elab.async false
set_option linter.all false
set_option maxRecDepth 100000
set_option maxHeartbeats 4000000
namespace L2
open PySem PySem.Spec PyProof.Rows
section
variable {prog : Program} {w : World} {A : Around} {E : Value → Shared → Prop} {s : Shared}
abbrev IsTK (prog : Program) (w : World) (h : Heap) (ks : List Int) (a : Addr) : Prop := IsTupleKey (intKind prog w) h ks a
theorem hbv_int (n : Nat) (k : Int) (t : Tok) : hashByValue n (.int k t) = pure true := by cases n <;> rfl
theorem of_byValue (n : Nat) {v : Value} (h : carriedByValue v = true) : ofAClassStatement n v = pure false := by
  cases v with
  | ref a => simp [carriedByValue] at h
  | _ => cases n <;> rfl
theorem hashByValue_tup {ks : List Int} {a : Addr} {Q : Bool → Shared → Prop} (hk : IsTK prog w s.heap ks a) (h : Q true s) : wpAny (model prog w) A (hashByValue 8 (.ref a)) Q E s := by
  have hT := hk.typeIs
  obtain ⟨o, items, n, ho, _, hd, hi⟩ := hk
  unfold hashByValue
  refine wpAny_bind (wpAny_specialOf hT F.slot_tuple_hash.lookup ?_)
  dsimp only
  refine wpAny_bind (wpAny_seqItems ho hd ?_)
  refine wpAny_bind ?_
  show wpAny _ _ (forIn items _ _) _ _ s
  rw [← Array.forIn_toList]
  refine wpAny_forIn_list _ (fun rest r s' => r.1 = none ∧ s' = s ∧ ∀ v ∈ rest, ∃ k t, v = .int k t) _ ?_ ?_ _ _ ⟨rfl, rfl, ?_⟩
  · rintro v rest r s' ⟨hr, rfl, hall⟩
    obtain ⟨k, t, rfl⟩ := hall v List.mem_cons_self
    rw [hbv_int]
    refine wpAny_bind (wpAny_pure ?_)
    simp only [Bool.not_true, Bool.false_eq_true, if_false]
    exact wpAny_pure ⟨rfl, rfl, fun u hu' => hall u (List.mem_cons_of_mem _ hu')⟩
  · rintro ⟨r1, r2⟩ s' ⟨hr, rfl, _⟩
    simp only at hr
    subst hr
    exact wpAny_pure h
  · intro v hv
    clear ho hd h
    generalize items.toList = vs at hi hv
    induction hi with
    | nil => simp at hv
    | @cons k v' ks vs h1 _ ih =>
      rcases List.mem_cons.mp hv with rfl | hv
      · obtain ⟨t, rfl⟩ := Value.isInt_shape h1
        exact ⟨_, _, rfl⟩
      · exact ih hv
theorem ofClass_tup {ks : List Int} {a : Addr} {Q : Bool → Shared → Prop} (hk : IsTK prog w s.heap ks a) (h : Q false s) : wpAny (model prog w) A (ofAClassStatement 8 (.ref a)) Q E s := by
  have hT := hk.typeIs
  obtain ⟨o, items, n, ho, _, hd, hi⟩ := hk
  unfold ofAClassStatement
  refine wpAny_bind (wpAny_typeOf hT ?_)
  dsimp only
  rw [if_pos (by decide)]
  refine wpAny_bind (wpAny_pure ?_)
  simp only [Bool.not_true, Bool.false_eq_true, if_false]
  refine wpAny_bind (wpAny_seqItems ho hd ?_)
  dsimp only
  refine wpAny_bind ?_
  show wpAny _ _ (forIn items _ _) _ _ s
  rw [← Array.forIn_toList]
  refine wpAny_forIn_list _ (fun rest r s' => r.1 = none ∧ s' = s ∧ ∀ v ∈ rest, carriedByValue v = true) _ ?_ ?_ _ _ ⟨rfl, rfl, hi.byValue⟩
  · rintro v rest r s' ⟨hr, rfl, hall⟩
    rw [of_byValue _ (hall v List.mem_cons_self)]
    refine wpAny_bind (wpAny_pure ?_)
    simp only [Bool.false_eq_true, if_false]
    exact wpAny_pure ⟨rfl, rfl, fun u hu' => hall u (List.mem_cons_of_mem _ hu')⟩
  · rintro ⟨r1, r2⟩ s' ⟨hr, rfl, _⟩
    simp only at hr
    subst hr
    exact wpAny_pure h
theorem unseen_tups {x : Addr} {kx : List Int} {stored : List Value} {Q : Bool → Shared → Prop} (hx : IsTK prog w s.heap kx x) (hs : ∀ y ∈ stored, ∃ k b, y = .ref b ∧ IsTK prog w s.heap k b) (h : Q false s) :
    wpAny (model prog w) A (searchCouldBeSeen (.ref x) stored) Q E s := by
  unfold searchCouldBeSeen
  refine wpAny_bind ?_
  refine wpAny_forIn_list _ (fun rest r s' => r.1 = none ∧ s' = s ∧ ∀ y ∈ rest, ∃ k b, y = .ref b ∧ IsTK prog w s.heap k b) _ ?_ ?_ _ _ ⟨rfl, rfl, hs⟩
  · rintro v rest r s' ⟨hr, rfl, hall⟩
    obtain ⟨k, b, rfl, hb⟩ := hall v List.mem_cons_self
    dsimp only
    split
    · exact wpAny_pure ⟨rfl, rfl, fun u hu' => hall u (List.mem_cons_of_mem _ hu')⟩
    · refine wpAny_bind (wpAny_eqIsQuiet_tuple hx ?_)
      simp only [Bool.not_true, Bool.false_eq_true, if_false]
      refine wpAny_bind (wpAny_eqIsQuiet_tuple hb ?_)
      simp only [Bool.not_true, Bool.false_eq_true, if_false]
      refine wpAny_bind (ofClass_tup hx ?_)
      simp only [Bool.false_eq_true, if_false]
      refine wpAny_bind (ofClass_tup hb ?_)
      simp only [Bool.false_eq_true, if_false]
      exact wpAny_pure ⟨rfl, rfl, fun u hu' => hall u (List.mem_cons_of_mem _ hu')⟩
  · rintro ⟨r1, r2⟩ s' ⟨hr, rfl, _⟩
    simp only at hr
    subst hr
    exact wpAny_pure h
/-- the search for what isn't there ends at an empty slot -/
theorem search_absent {a x : Addr} {o : Obj} {es : Array (Int × Value)} {ep : Nat} {t : SetTable} {key : List Int} {hh : Int} {adding : Bool} {Q : SetFound → Shared → Prop}
    (hu : A.units < cLine) (ho : s.heap.get? a = some o) (hd : o.data = .set es ep t) (ok : TabOk t es.size) (hx : IsTK prog w s.heap key x)
    (hel : ∀ e ∈ es.toList, ∃ k b, e.2 = .ref b ∧ IsTK prog w s.heap k b ∧ k ≠ key) (h : ∀ j, Q (.free j false) s) :
    ∀ (N fuel : Nat) (stand : Option SetTable.Probe), N < fuel → N < 10 * SetTable.turns t.mask → PInv t (stand.getD (t.probeStart hh)) →
      t.slot (itr t.advance N (stand.getD (t.probeStart hh))).j = .empty → (∀ n, n < N → ∃ i, t.slot (itr t.advance n (stand.getD (t.probeStart hh))).j = .live i) →
      wpAny (model prog w) A (setSearchFrom a (.ref x) hh adding fuel stand) Q E s := by
  intro N
  induction N using Nat.strongRecOn with
  | ind N ih =>
    intro fuel stand hf hN hI hE hL
    obtain ⟨fuel, rfl⟩ := Nat.exists_eq_succ_of_ne_zero (show fuel ≠ 0 by omega)
    unfold setSearchFrom
    refine wpAny_bind (wpAny_setState_of ho hd ok.fits ?_)
    dsimp only
    rw [ok.kept]
    simp only [Bool.false_eq_true, if_false]
    rcases probe_go (hashAt := fun i => (es[i]?.map (·.1)).getD 0) (h := hh) _ N _ hN hI.dum hE hL with e | ⟨n, i, hn, hs, hhi, e⟩
    · have e' : t.probe (fun i => (es[i]?.map (·.1)).getD 0) hh (stand.getD (t.probeStart hh)) = some (.empty (itr t.advance N (stand.getD (t.probeStart hh))).j none) := e
      generalize hpr : t.probe _ hh (stand.getD (t.probeStart hh)) = pr
      have : pr = _ := hpr.symm.trans e'
      subst this
      dsimp only
      exact wpAny_pure (h _)
    · have e' : t.probe (fun i => (es[i]?.map (·.1)).getD 0) hh (stand.getD (t.probeStart hh)) = some (.candidate (itr t.advance n (stand.getD (t.probeStart hh))).j i (itr t.advance (n + 1) (stand.getD (t.probeStart hh)))) := e
      generalize hpr : t.probe _ hh (stand.getD (t.probeStart hh)) = pr
      have : pr = _ := hpr.symm.trans e'
      subst this
      dsimp only
      have hpl := slot_live hs
      have hlt : i < es.size := by
        rcases Nat.lt_or_ge i t.place.size with c | c
        · rw [ok.size] at c; exact c
        · rw [Array.getElem?_eq_none c] at hpl; cases hpl
      obtain ⟨⟨h', y⟩, hy⟩ : ∃ e, es[i]? = some e := ⟨_, Array.getElem?_eq_getElem hlt⟩
      obtain ⟨k, b, hyb, hb, hne⟩ := hel _ (List.mem_of_getElem? (i := i) (by rw [Array.getElem?_toList]; exact hy))
      simp only at hyb
      subst hyb
      have tail : wpAny (model prog w) A (do
          let some (_, y) := es[i]? | unsupported "internal:set-entry"
          let equal ← holding [y] (eqBool y (.ref x))
          let (es', _, t') ← setState a
          if adding && equal then return SetFound.there none
          let some same := t'.sameMemory t.moves t.mask | unsupported "set.changed-during-lookup:is-the-new-block-at-the-old-address"
          let still ← match (if same then t'.slot (itr t.advance n (stand.getD (t.probeStart hh))).j else .empty) with
            | .live i' => match es'[i']? with
              | some (_, y') => do pure (if ← isSame y' y then some i' else none)
              | none => pure none
            | _ => pure none
          match still with
          | none => rule "set.search.anew"; setSearchFrom a (.ref x) hh adding fuel none
          | some i' => if equal then return .there (some i') else setSearchFrom a (.ref x) hh adding fuel (some (itr t.advance (n + 1) (stand.getD (t.probeStart hh))))) Q E s := by
        rw [hy]
        dsimp only
        refine wpAny_bind (wpAny_holding (wpAny_eqBool_tuple hu hb hx ?_))
        rw [decide_eq_false hne]
        refine wpAny_bind (wpAny_setState_of ho hd ok.fits ?_)
        dsimp only
        rw [Bool.and_false]
        simp only [Bool.false_eq_true, if_false]
        have hsm : t.sameMemory t.moves t.mask = some true := by unfold SetTable.sameMemory; rw [if_pos (beq_self_eq_true _)]
        rw [hsm]
        dsimp only
        rw [if_pos rfl, hs]
        dsimp only
        rw [hy]
        dsimp only
        refine wpAny_bind (wpAny_isSame_ref_self (wpAny_bind (wpAny_pure ?_)))
        rw [if_pos rfl]
        dsimp only
        refine ih (N - (n + 1)) (by omega) fuel (some _) (by omega) (by omega) (PInv.itr _ hI) ?_ ?_
        · show t.slot (itr t.advance (N - (n + 1)) (itr t.advance (n + 1) _)).j = .empty
          rw [← itr_add, show n + 1 + (N - (n + 1)) = N by omega]; exact hE
        · intro q hq
          show ∃ i, t.slot (itr t.advance q (itr t.advance (n + 1) _)).j = .live i
          rw [← itr_add]; exact hL _ (by omega)
      split
      · refine wpAny_bind (unseen_tups hx ?_ ?_)
        · intro y hy
          obtain ⟨e, he, rfl⟩ := List.mem_map.mp hy
          obtain ⟨k, b, r1, r2, _⟩ := hel e (by
            have := he
            rw [Array.toList_filter] at this
            exact (List.mem_filter.mp this).1)
          exact ⟨k, b, r1, r2⟩
        · simp only [Bool.false_eq_true, if_false]
          exact tail
      · exact tail
/-- what the set `S` holds: the tuples `ps`, told with their addresses -/
def SetHas (prog : Program) (w : World) (h : Heap) (S : Addr) (ps : List (List Int × Addr)) : Prop :=
  ∃ o es ep t, h.get? S = some o ∧ o.ExactSet ∧ o.data = .set es ep t ∧ TabOk t es.size ∧ es.toList.Perm (ps.map fun p => (tupleKeyHash (intKind prog w) p.1, .ref p.2))
theorem SetHas.len {h : Heap} {S : Addr} {ps : List (List Int × Addr)} {o : Obj} {es : Array (Int × Value)} (hp : es.toList.Perm (ps.map fun p => (tupleKeyHash (intKind prog w) p.1, Value.ref p.2))) : es.size = ps.length := by
  rw [← Array.length_toList, hp.length_eq, List.length_map]
theorem set_store {h : Heap} {a : Addr} {o : Obj} {es : Array (Int × Value)} {ep : Nat} {t : SetTable} (ho : h.get? a = some o) (hd : o.data = .set es ep t) (es' : Array (Int × Value)) (t' : SetTable) :
    (h.update a (Obj.putSet es' t')).get? a = some { o with data := .set es' (ep + 1) t' } := by
  have := Heap.get?_update_self (Obj.putSet es' t') ho (by rw [putSet_of es' t' hd]; rfl)
  rw [putSet_of es' t' hd] at this; exact this
theorem relay_tail {a : Addr} {o : Obj} {es : Array (Int × Value)} {ep : Nat} {t : SetTable} {n : Nat} {Q : Unit → Shared → Prop}
    (ho : s.heap.get? a = some o) (hex : o.ExactSet) (hd : o.data = .set es ep t) (hf : t.fits es.size = true) (hn : es.size = n) (h2 : 2 ≤ n) (h1 : n ≤ 2000)
    (h : ∀ h', Heap.SameBut a s.heap h' → (∃ o' es' ep' t', h'.get? a = some o' ∧ o'.ExactSet ∧ o'.data = .set es' ep' t' ∧ TabOk t' es'.size ∧ es'.toList.Perm es.toList) → Q () { s with heap := h' }) :
    wpAny (model prog w) A (setRelay a (SetTable.grown n)) Q E s := by
  subst hn
  unfold setRelay
  refine wpAny_bind (wpAny_setState_of ho hd hf ?_)
  dsimp only
  obtain ⟨t', order, e, ok, pm⟩ := relaid_ok (t := t) (es.map (·.1)) (by rw [Array.size_map]; exact h2) (by rw [Array.size_map]; exact h1)
  rw [Array.size_map] at e ok pm
  have sz : SetTable.sizeAbove (SetTable.grown es.size) ≤ sizeLine := by
    have g : SetTable.grown es.size = es.size * 4 := by unfold SetTable.grown; rw [if_neg (by omega)]
    obtain ⟨b, e, _, _, l⟩ := sizeAbove_ok (n := es.size * 4) (by omega) (by omega)
    rw [g, e, sizeLine_eq]; omega
  rw [if_neg (by omega)]
  rw [e]
  have pe := order_perm pm
  have hsz : (order.filterMap (es[·]?)).size = es.size := by rw [← Array.length_toList, pe.length_eq, Array.length_toList]
  show wpAny _ A ((if ((order.filterMap (es[·]?)).size != es.size) = true then (unsupported "internal:set-table-lost-an-element" >>= fun _ => pure (order.filterMap (es[·]?), t')) else pure (order.filterMap (es[·]?), t')) >>= fun (z : Array (Int × Value) × SetTable) => storeSet a z.1 z.2) Q E s
  rw [if_neg (by rw [hsz]; simp)]
  refine wpAny_bind (wpAny_pure ?_)
  refine wpAny_storeSet_of ho hd ?_ (by rw [hsz, sizeLine_eq]; omega)
  exact h _ (Heap.SameBut.update s.heap a _) ⟨_, _, _, _, set_store ho hd _ _, hex, rfl, by rw [hsz]; exact ok, pe⟩
theorem add_new {S x : Addr} {ps : List (List Int × Addr)} {key : List Int} {Q : Bool → Shared → Prop} (hu : A.units < cLine) (hS : SetHas prog w s.heap S ps) (hps : ∀ p ∈ ps, IsTK prog w s.heap p.1 p.2 ∧ p.1 ≠ key)
    (hx : IsTK prog w s.heap key x) (hn : ps.length < 2000) (h : ∀ h', Heap.SameBut S s.heap h' → SetHas prog w h' S (ps ++ [(key, x)]) → Q true { s with heap := h' }) :
    wpAny (model prog w) A (setAddHashed S (.ref x) (tupleKeyHash (intKind prog w) key)) Q E s := by
  obtain ⟨o, es, ep, t, ho, hex, hd, ok, pm⟩ := hS
  have hlen : es.size = ps.length := SetHas.len pm (h := s.heap) (S := S) (o := o)
  unfold setAddHashed setAddHashedIn
  refine wpAny_holding (wpAny_bind (wpAny_setState_of ho hd ok.fits ?_))
  dsimp only
  have hbs : byScan (.ref x) es = false := rfl
  rw [hbs]
  simp only [Bool.false_eq_true, if_false]
  unfold setSearch
  obtain ⟨k, _, hm⟩ := ok.pw
  obtain ⟨N, hN, hE, hL⟩ := first_empty hm ok.dum ok.le (PInv.start t (tupleKeyHash (intKind prog w) key))
  have hT : SetTable.turns t.mask ≤ 8206 := by unfold SetTable.turns; have := ok.small; omega
  refine wpAny_bind (search_absent hu ho hd ok hx ?_ ?_ N 100000 none (by omega) hN (PInv.start t _) hE hL)
  · intro e he
    obtain ⟨p, hp, rfl⟩ := List.mem_map.mp (pm.mem_iff.mp he)
    exact ⟨p.1, p.2, rfl, hps p hp⟩
  · intro j
    dsimp only
    refine wpAny_bind (wpAny_setState_of ho hd ok.fits ?_)
    dsimp only
    obtain ⟨p1, p2, p3, p4⟩ := ok.put j
    generalize hpt : t.put j = pt at p1 p2 p3 p4
    obtain ⟨t', p⟩ := pt
    dsimp only at p1 p2 p3 p4 ⊢
    have hsz : (SetTable.insertAt es p (tupleKeyHash (intKind prog w) key, Value.ref x)).size = es.size + 1 := insertAt_size ..
    have pm' : (SetTable.insertAt es p (tupleKeyHash (intKind prog w) key, Value.ref x)).toList.Perm ((ps ++ [(key, x)]).map fun p => (tupleKeyHash (intKind prog w) p.1, Value.ref p.2)) := by
      refine (SetTable.insertAt_perm ..).trans ?_
      rw [Array.toList_push, List.map_append]
      exact pm.append_right _
    have tail : ∀ t'' : SetTable, t''.mask = t.mask → t''.place.size = es.size + 1 → t''.dummies = #[] → wpAny (model prog w) A (do
        storeSet S (SetTable.insertAt es p (tupleKeyHash (intKind prog w) key, Value.ref x)) t''
        if (!false && t''.tooFull) = true then setRelay S (SetTable.grown (es.size + 1))
        return true) Q E s := by
      intro t'' q1 q2 q3
      have fl : t''.fill = es.size + 1 := by unfold SetTable.fill; rw [q2, q3]; rfl
      have rm := ok.room
      have fts : t''.fits (es.size + 1) = true := by
        unfold SetTable.fits
        rw [fl, q2, q1]
        have := ok.small
        obtain ⟨k, hk, e⟩ := ok.pw
        have : 7 ≤ t.mask := by have : 2 ^ 3 ≤ 2 ^ k := Nat.pow_le_pow_right (by decide) hk
                                omega
        simp; omega
      refine wpAny_bind (wpAny_storeSet_of ho hd ?_ (by rw [hsz, sizeLine_eq]; omega))
      have g := set_store ho hd (SetTable.insertAt es p (tupleKeyHash (intKind prog w) key, Value.ref x)) t''
      have sb := Heap.SameBut.update s.heap S (Obj.putSet (SetTable.insertAt es p (tupleKeyHash (intKind prog w) key, Value.ref x)) t'')
      have full : t''.tooFull = decide ((es.size + 1) * 5 ≥ t.mask * 3) := by unfold SetTable.tooFull; rw [fl, q1]
      by_cases c : (es.size + 1) * 5 ≥ t.mask * 3
      · rw [full, decide_eq_true c]
        simp only [Bool.not_false, Bool.and_self, if_true]
        have h3 : 2 ≤ es.size + 1 := by
          obtain ⟨k, hk, e⟩ := ok.pw
          have : 2 ^ 3 ≤ 2 ^ k := Nat.pow_le_pow_right (by decide) hk
          omega
        refine wpAny_bind (relay_tail (s := { s with heap := _ }) g hex rfl (by rw [hsz]; exact fts) hsz h3 (by omega) fun h' sb2 hS2 => ?_)
        obtain ⟨o2, es2, ep2, t2, r1, r2, r3, r4, r5⟩ := hS2
        exact wpAny_pure (h _ (sb.trans sb2) ⟨o2, es2, ep2, t2, r1, r2, r3, r4, r5.trans pm'⟩)
      · rw [full, decide_eq_false c]
        simp only [Bool.not_false, Bool.and_false, Bool.false_eq_true, if_false]
        refine wpAny_bind (wpAny_pure ?_)
        refine wpAny_pure (h _ sb ⟨_, _, _, _, g, hex, rfl, ?_, pm'⟩)
        rw [hsz]
        exact ⟨by rw [q1]; exact ok.pw, by rw [q1]; exact ok.small, q2, q3, by rw [q1]; omega⟩
    split
    · refine wpAny_bind (hashByValue_tup hx ?_)
      simp only [if_true]
      exact tail _ p1 (by rw [p2]) p3
    · refine wpAny_bind (wpAny_pure ?_)
      simp only [if_true]
      exact tail _ p1 (by rw [p2]) p3
theorem IsTK.kept {h h' : Heap} {ks : List Int} {a : Addr} (x : IsTK prog w h ks a) (k : ∀ o, h.get? a = some o → h'.get? a = some o) : IsTK prog w h' ks a := by
  obtain ⟨o, items, n, ho, r⟩ := x
  exact ⟨o, items, n, k o ho, r⟩
theorem SetHas.kept {h h' : Heap} {S : Addr} {ps : List (List Int × Addr)} (x : SetHas prog w h S ps) (k : ∀ o, h.get? S = some o → h'.get? S = some o) : SetHas prog w h' S ps := by
  obtain ⟨o, es, ep, t, ho, r⟩ := x
  exact ⟨o, es, ep, t, k o ho, r⟩
theorem SetHas.unlike {h : Heap} {S : Addr} {ps : List (List Int × Addr)} (x : SetHas prog w h S ps) {a : Addr} {ks : List Int} (y : IsTK prog w h ks a) : a ≠ S := by
  rintro rfl
  obtain ⟨o, es, ep, t, ho, _, hd, _⟩ := x
  obtain ⟨o', items, n, ho', _, hd', _⟩ := y
  obtain rfl : o = o' := Option.some.inj (ho.symm.trans ho')
  rw [hd] at hd'; cases hd'
end
section
variable {prog : Program} {w : World} {A : Around} {R : Result → Shared → Prop} {I : Addr} {fp wr : List Addr} {G : Array GenState → Array GenState → Prop} {P : Nat → Value → Prop} {St : Nat → Shared → Prop}
theorem loop_tups {n : Nat} (W : WalksS prog w A.in1 I fp wr G n P St) (S : Addr) (hSf : S ∉ fp) (hu : A.in1.units < cLine)
    (ps : List (List Int × Addr)) (hn : ps.length = n) (hb : n ≤ 2000) (nd : (ps.map (·.1)).Nodup) (hval : ∀ i v, P i v → ∀ p, ps[i]? = some p → v = .ref p.2) (hnw : ∀ p ∈ ps, p.2 ∉ wr) :
    ∀ (k i : Nat) (s : Shared), n - i = k → i ≤ n → St i s → (∀ p ∈ ps, IsTK prog w s.heap p.1 p.2) →
      SetHas prog w s.heap S (ps.take i) →
      (∀ s', Moved (S :: wr) G s s' → SetHas prog w s'.heap S ps → R (.ok (.ret .none)) s') →
      codeAny (model prog w) A (.builtin "set.update.loop" ⟨[.ref S, .ref I], []⟩) R s := by
  have hSw : S ∉ wr := fun h => hSf (W.sub _ h)
  have hsub : ∀ b ∈ wr, b ∈ S :: wr := fun b hb => List.mem_cons_of_mem _ hb
  intro k
  induction k with
  | zero =>
    intro i s hk hi hst hT hS hR
    have hin : i = n := by omega
    subst hin
    refine codeAny_builtin F.entry_set_update_loop ?_
    rw [Around.under_plainId F.plain_set_update_loop _]
    show wpAny _ A.in1 (pyNext (.ref I) >>= _) _ _ s
    refine wpAny_bind (W.done s _ _ hst fun s' hm => ?_)
    show wpAny _ A.in1 (ret Value.none) _ _ s'
    refine wpAny_pure (hR s' (hm.mono hsub) ?_)
    rw [List.take_of_length_le (by omega)] at hS
    exact hS.kept fun o ho => hm.heap S _ hSw ho
  | succ k ih =>
    intro i s hk hi hst hT hS hR
    have hlt : i < n := by omega
    refine codeAny_builtin F.entry_set_update_loop ?_
    rw [Around.under_plainId F.plain_set_update_loop _]
    show wpAny _ A.in1 (pyNext (.ref I) >>= _) _ _ s
    refine wpAny_bind (W.item i s _ _ hlt hst fun v s' hP hst' hm => ?_)
    have hpi : ps[i]? = some ps[i] := List.getElem?_eq_getElem (by omega)
    generalize hq : ps[i] = p at hpi
    have hpm : p ∈ ps := List.mem_of_getElem? hpi
    obtain rfl := hval i v hP p hpi
    have hT' : ∀ p ∈ ps, IsTK prog w s'.heap p.1 p.2 := fun p hp => (hT p hp).kept fun o ho => hm.heap _ _ (hnw p hp) ho
    have hS' : SetHas prog w s'.heap S (ps.take i) := hS.kept fun o ho => hm.heap S _ hSw ho
    have htk : ps.take (i + 1) = ps.take i ++ [(p.1, p.2)] := by rw [List.take_succ, hpi]; rfl
    have fresh : ∀ q ∈ ps.take i, q.1 ≠ p.1 := by
      intro q hq e
      obtain ⟨j, hj⟩ := List.mem_iff_getElem?.mp hq
      rw [List.getElem?_take] at hj
      split at hj
      · rename_i c
        have a1 : (ps.map (·.1))[j]? = some q.1 := by rw [List.getElem?_map, hj]; rfl
        have a2 : (ps.map (·.1))[i]? = some p.1 := by rw [List.getElem?_map, hpi]; rfl
        have := (List.getElem?_inj (by rw [List.length_map]; omega) nd).mp (a1.trans (by rw [a2, e]))
        omega
      · cases hj
    show wpAny _ A.in1 (holding [Value.ref p.2] (setAdd S (.ref p.2)) >>= _) _ _ s'
    refine wpAny_bind (wpAny_holding ?_)
    unfold setAdd
    refine wpAny_holding ?_
    refine wpAny_bind (wpAny_pyHash_tuple hu (hT' p hpm) ?_)
    refine add_new (s := { s' with toks := _ }) hu hS' (fun q hq => ⟨hT' q (List.mem_of_mem_take hq), fresh q hq⟩) (hT' p hpm) (by rw [List.length_take]; omega) fun h' hsb hS2 => ?_
    rw [← htk] at hS2
    have nS : ∀ b ∈ fp, b ≠ S := fun b hb e => hSf (e ▸ hb)
    refine wpAny_pure ⟨plainId_quiet F.plain_set_update_loop _, ih (i + 1) _ (by omega) hlt (W.frame _ s' _ _ hst' (Nat.le_add_right _ _) fun b hb o e => ?_) (fun q hq => (hT' q hq).kept fun o ho => ?_) hS2 fun s'' hm'' hS'' => ?_⟩
    · rw [hsb.2 b (nS b hb)]; exact e
    · show h'.get? q.2 = some o
      rw [hsb.2 _ (hS'.unlike (hT' q hq))]; exact ho
    · refine hR s'' (Moved.trans W.gtrans ((hm.mono hsub).then_heap (Nat.le_add_right _ _) fun b o hb e => ?_) hm'') hS''
      rw [hsb.2 b (fun h : b = S => hb (by rw [h]; exact List.mem_cons_self))]; exact e
end
section
variable {prog : Program} {w : World} {A : Around} {E : Value → Shared → Prop} {s : Shared}
set_option maxHeartbeats 3200000 in
theorem call_set_tups {l : Addr} {items : Array Value} {ps : List (List Int × Addr)} {Q : Value → Shared → Prop}
    (hh : A.handled = none) (hu : A.units + 64 < cLine) (hl : s.heap.IsList l items) (hi : items.toList = ps.map fun p => Value.ref p.2) (hT : ∀ p ∈ ps, IsTK prog w s.heap p.1 p.2) (hb : ps.length ≤ 2000) (nd : (ps.map (·.1)).Nodup)
    (h : ∀ (h' : Heap) (tk : Nat), SetHas prog w h' s.heap.objs.size ps →
      (∀ b o, b < s.heap.objs.size → s.heap.get? b = some o → h'.get? b = some o) → Q (.ref s.heap.objs.size) { s with heap := h', toks := tk }) :
    wpAny (model prog w) A (call (.type "set") [.ref l]) Q E s := by
  obtain ⟨c, tl, hmro⟩ := F.called_set.mro
  have hmade := F.called_set.made
  have hsub := F.called_set.sub
  have hisz : items.size = ps.length := by rw [← Array.length_toList, hi, List.length_map]
  refine wpAny_call (codeAny_of_tree ?_)
  show wpAny _ _ (callAny (.type "set") _) _ _ _
  refine wpAny_pure ⟨Code.quiet_builtin _ (by decide +kernel), codeAny_builtin F.entry_type_call ?_⟩
  rw [Around.under_plain (weight_type_call_type "set" [.ref l] []) rfl]
  have h1 := F.called_set.notType
  have h2 := F.called_set.canCreate
  have hct := F.typeCall_set_1 (.ref l)
  repeat (any_goals (first | assumption | wp_step))
  refine codeAny_mono (code_set_new_1 (.ref l) (E := E) (Q₁ := fun obj s₁ => ∃ led : Bool, obj = .ref s.heap.objs.size ∧ s₁ = { s with heap := s.heap.push { cls := .type "set", dict := none, data := .set #[] 0 (.fresh 0 0 led) } }) fun led => ⟨led, rfl, rfl⟩) fun r s₁ hr => ?_
  cases r with
  | error e => exact hr
  | ok fl =>
    cases fl with
    | ret obj =>
      obtain ⟨led, rfl, rfl⟩ := hr
      have hS : (s.heap.push { cls := .type "set", dict := none, data := .set #[] 0 (.fresh 0 0 led) }).get? s.heap.objs.size = some { cls := .type "set", dict := none, data := .set #[] 0 (.fresh 0 0 led) } := Heap.get?_push_size _ rfl
      have hTy : Shared.TypeIs { s with heap := s.heap.push { cls := .type "set", dict := none, data := .set #[] 0 (.fresh 0 0 led) } } (.ref s.heap.objs.size) "set" := ⟨_, hS, rfl⟩
      have hli := F.called_set.init.lookup
      have hbi := F.called_set.init.bind (.ref s.heap.objs.size)
      repeat (any_goals (first | assumption | wp_step))
      refine codeAny_mono (codeAny_call_builtin (R := wants (fun r s₂ => r = .none ∧ ∃ h' tk, s₂ = { s with heap := h', toks := tk } ∧
          SetHas prog w h' s.heap.objs.size ps ∧
          (∀ b o, b < s.heap.objs.size → s.heap.get? b = some o → h'.get? b = some o)) E) F.called_set.init.plain F.entry_set_init (check_set_init_1 hTy ?_)) fun r₂ s₂ hr₂ => ?_
      · obtain ⟨ol, hol, hcl, nl, hdl⟩ := hl
        obtain ⟨ocls, odict, odata, oslots⟩ := ol
        simp only at hcl hdl
        subst hcl; subst hdl
        have hol' : (s.heap.push { cls := .type "set", dict := none, data := .set #[] 0 (.fresh 0 0 led) }).get? l = some { cls := .type "list", dict := odict, data := .seq items nl, slots := oslots } := Heap.get?_push_of_some _ hol
        have hsls := F.sub_list_set
        have hslf := F.sub_list_frozenset
        have hne : (Value.type "list" == Value.type "dict") = false := by decide
        have hl1 : (s.heap.push { cls := .type "set", dict := none, data := .set #[] 0 (.fresh 0 0 led) }).IsList l items := ⟨_, hol', rfl, nl, rfl⟩
        have hunits := hu
        unfold Builtin.«set.__init__» noKeywords Builtin.Frozenset.updateFrom
        generalize hPI : pyIter = PI
        wp_walk
        subst hPI
        refine wpAny_pyIter_list hl1 ?_
        refine wpAny_bind (wpAny_runValue ?_)
        have hlS : l < s.heap.objs.size := Heap.lt_size hol
        have hh3 : A.in1.in1.in1.handled = none := by simp [hh]
        have hneI : l ≠ (s.heap.push { cls := .type "set", dict := none, data := .set #[] 0 (.fresh 0 0 led) }).objs.size := by
          rw [Heap.size_push]; exact Nat.ne_of_lt (Nat.lt_succ_of_lt hlS)
        have hSf : s.heap.objs.size ∉ [(s.heap.push { cls := .type "set", dict := none, data := .set #[] 0 (.fresh 0 0 led) }).objs.size, l] := by
          rw [Heap.size_push]; simp only [List.mem_cons, List.mem_singleton, List.not_mem_nil, or_false, not_or]
          exact ⟨Nat.ne_of_lt (Nat.lt_succ_self _), Nat.ne_of_gt hlS⟩
        have hval : ∀ (i : Nat) (v : Value), items[i]? = some v → ∀ p, ps[i]? = some p → v = .ref p.2 := fun i v hv p hp => by
          have : items.toList[i]? = some v := by rw [Array.getElem?_toList]; exact hv
          rw [hi, List.getElem?_map, hp] at this
          exact (Option.some.inj this).symm
        have hlt : ∀ p ∈ ps, p.2 < s.heap.objs.size := fun p hp => by obtain ⟨_, _, _, ho, _⟩ := hT p hp; exact Heap.lt_size ho
        refine loop_tups ((Walks.list hh3 _ l hneI items).toS) s.heap.objs.size hSf ?hU ps hisz.symm (by rw [hisz]; exact hb) nd hval ?hW (items.size - 0) 0 _ (by omega) (Nat.zero_le _)
          ⟨⟨_, Heap.get?_push_size _ rfl, rfl, rfl⟩, (hl1.push _)⟩ ?hT0 ?hS0 ?hR
        case hU => simp only [Around.in1_units]; omega
        case hW =>
          intro p hp
          rw [Heap.size_push]
          simp only [List.mem_cons, List.mem_singleton, List.not_mem_nil, or_false]
          exact Nat.ne_of_lt (Nat.lt_succ_of_lt (hlt p hp))
        case hT0 =>
          intro p hp
          exact (hT p hp).kept fun o ho => Heap.get?_push_of_some _ (Heap.get?_push_of_some _ ho)
        case hS0 =>
          have hget : ((s.heap.push { cls := .type "set", dict := none, data := .set #[] 0 (.fresh 0 0 led) }).push { cls := .type "list_iterator", data := .fields #[.ref l, .int 0 0] }).get? s.heap.objs.size
              = some { cls := .type "set", dict := none, data := .set #[] 0 (.fresh 0 0 led) } := Heap.get?_push_of_some _ hS
          exact ⟨_, _, _, _, hget, ⟨rfl, rfl, rfl⟩, rfl, TabOk.fresh led, .rfl⟩
        case hR =>
          intro s' hm hS'
          obtain ⟨h', g', d', tk', os'⟩ := s'
          have eg : g' = s.gens := hm.gens
          have ed : d' = s.drawn := hm.drawn
          have eo : os' = s.os := hm.os
          subst eg; subst ed; subst eo
          show wpAny _ _ _ _ _ _
          refine wpAny_pure ?_
          show wpAny _ _ (ret Value.none) _ _ _
          refine wpAny_pure ⟨rfl, h', tk', rfl, hS', fun b o hb e => ?_⟩
          have hb1 : b ≠ s.heap.objs.size := Nat.ne_of_lt hb
          have hb2 : b ≠ (s.heap.push { cls := .type "set", dict := none, data := .set #[] 0 (.fresh 0 0 led) }).objs.size := by
            rw [Heap.size_push]; exact Nat.ne_of_lt (Nat.lt_succ_of_lt hb)
          exact hm.heap b o (by simp only [List.mem_cons, List.mem_singleton, List.not_mem_nil, or_false, not_or]; exact ⟨hb1, hb2⟩) (Heap.get?_push_of_some _ (Heap.get?_push_of_some _ e))
      · cases r₂ with
        | error e => exact hr₂
        | ok fl₂ =>
          cases fl₂ with
          | ret r =>
            obtain ⟨rfl, h', tk, rfl, hS', hk'⟩ := hr₂
            repeat (any_goals (first | assumption | wp_step))
            exact h _ _ hS' hk'
          | _ => exact hr₂.elim
    | _ => exact hr.elim
end
end L2

set_option Elab.async false
set_option linter.all false
set_option maxRecDepth 100000
set_option maxHeartbeats 4000000
namespace L2
open PySem PySem.Spec PyProof.Rows
/-- a set of tuples of whole numbers -/
def SetG (X : Cx) (a : Addr) (ps : List (List Int × Addr)) : HO := .ext fun h => SetHas X.prog X.w h a ps
section
variable {X : Cx} {pins : List (Addr × Obj)} {σ : St} {H : Hp} {s : Shared}
theorem items_ints {prog : Program} {w : World} : ∀ {us : List Value} {ns : List Int}, IntsAre us ns → ItemsAre (PySem.intKind prog w) ns us
  | _, _, .nil => .nil
  | _, _, .cons n t r => .cons (show Value.isInt n (.int n t) = true by simp [Value.isInt]) (items_ints r)
theorem Inv.isTK (I : Inv X pins σ H s) {a : Addr} {ns : List Int} (h : SqT X.K H a (intsV ns)) : IsTK X.prog X.w s.heap ns a := by
  obtain ⟨its, rv, ⟨o, ho, hc, n, hd⟩, _⟩ := I.tuple h
  exact ⟨o, _, n, ho, hc, hd, items_ints (intsAre_of rv)⟩
theorem tups_at (I : Inv X pins σ H s) : ∀ {rs : List V} {nss : List (List Int)}, DpAll X.K H rs (nss.map tupD) → ∃ ps : List (List Int × Addr), ps.map (·.1) = nss ∧ rs = ps.map (fun p => V.ref p.2) ∧ ∀ p ∈ ps, IsTK X.prog X.w s.heap p.1 p.2 ∧ SqT X.K H p.2 (intsV p.1)
  | _, [], .nil => ⟨[], rfl, rfl, fun p hp => by simp at hp⟩
  | _, ns :: nss, .cons h t => by
    obtain ⟨a, rfl, ha⟩ := Dp.tup_ints h
    obtain ⟨ps, e1, rfl, k⟩ := tups_at I t
    refine ⟨(ns, a) :: ps, by rw [List.map_cons, e1], rfl, fun p hp => ?_⟩
    rcases List.mem_cons.mp hp with rfl | hp
    · exact ⟨I.isTK ha, ha⟩
    · exact k p hp
theorem vals_refs : ∀ {ps : List (List Int × Addr)} {us : List Value}, Vals (ps.map fun p => V.ref p.2) us → us = ps.map fun p => Value.ref p.2
  | [], _, .nil => rfl
  | p :: ps, _, .cons r t => by cases r; rw [vals_refs t]; rfl
theorem call_setTT (hh : X.calm = true) (hu : X.A.units + 64 < cLine) : CallR X (.type "set") (fun xs H Q => ∃ p rs nss, xs = [.ref p] ∧ SqL X.K H p rs ∧ DpAll X.K H rs (nss.map tupD) ∧ nss.Nodup ∧ nss.length ≤ 2000 ∧
    ∀ l ps, ps.map (·.1) = nss → rs = ps.map (fun p => V.ref p.2) → H l = none → Q (.ref l) (upd H l (SetG X l ps))) := by
  intro pins s σ H xs us Q I r h
  obtain ⟨p, rs, nss, rfl, hp, hd, nd, hz, q⟩ := h
  obtain ⟨u, rfl, ru⟩ := vals1 r
  cases ru
  obtain ⟨its, rv, pl, _⟩ := I.list hp
  obtain ⟨ps, e1, e2, hk⟩ := tups_at I hd
  subst e2
  have hv := vals_refs rv
  refine call_set_tups (I.ok.hd hh) hu (pl.isList) (ps := ps) (by rw [List.toList_toArray]; exact hv) (fun p hp => (hk p hp).1) (by have := congrArg List.length e1; rw [List.length_map] at this; omega) (by rw [e1]; exact nd) fun h' tk hS kp => ?_
  refine ⟨.ref s.heap.objs.size, _, I.laid (t' := tk) (fun b o e => kp b o (Heap.lt_size e) e) (Nat.le_refl _) (show ObjOk X.prog X.w _ h' _ (SetG X _ ps) from ?_), rfl, q _ ps e1 rfl (I.hok.fresh (Nat.le_refl _))⟩
  exact ⟨hS, let ⟨o, _, _, _, e, _⟩ := hS; ⟨o, e⟩, fun h1 h2 x k => x.kept k⟩
theorem call_lenTT : CallR X (.builtin "len") (fun xs H Q => ∃ a ps, xs = [V.ref a] ∧ H a = some (SetG X a ps) ∧ ps.length ≤ 2000 ∧ Q (.int ps.length) H) := by
  intro pins s σ H xs us Q I r h
  obtain ⟨a, ps, rfl, ha, hz, q⟩ := h
  obtain ⟨u, rfl, ru⟩ := vals1 r
  cases ru
  obtain ⟨⟨o, es, ep, t, g, ex, hd, ok, pm⟩, _⟩ := (show ObjOk X.prog X.w H s.heap a (SetG X a ps) from I.hok a _ ha)
  have hl : es.size = ps.length := by rw [← Array.length_toList, pm.length_eq, List.length_map]
  refine call_len_set g ex hd ok.fits (by omega) ⟨.int ps.length, H, I.tok _, ⟨_, by rw [hl]⟩, q⟩
end
end L2

set_option Elab.async false
set_option linter.all false
set_option maxRecDepth 100000
set_option maxHeartbeats 4000000
namespace K18
open PySem L2
def top (i : Nat) : Stmt := PySem.Challenge.pw_crossbends_k18_words_led.main.body.getD i (.Pass ⟨0, 0, 0, 0⟩)
abbrev s_is_whole : Stmt := top 8
abbrev N_is_whole : List Str := ["thing"]
abbrev P_is_whole : List Str := ["thing"]
theorem sc_is_whole : FnScope N_is_whole P_is_whole (defScope s_is_whole) := ⟨rfl, rfl, rfl, by decide +kernel, rfl, by decide +kernel, by decide +kernel⟩
abbrev s_is_within : Stmt := top 9
abbrev N_is_within : List Str := ["thing", "least", "most"]
abbrev P_is_within : List Str := ["thing", "least", "most"]
theorem sc_is_within : FnScope N_is_within P_is_within (defScope s_is_within) := ⟨rfl, rfl, rfl, by decide +kernel, rfl, by decide +kernel, by decide +kernel⟩
abbrev s_check_count : Stmt := top 10
abbrev N_check_count : List Str := ["many"]
abbrev P_check_count : List Str := ["many"]
theorem sc_check_count : FnScope N_check_count P_check_count (defScope s_check_count) := ⟨rfl, rfl, rfl, by decide +kernel, rfl, by decide +kernel, by decide +kernel⟩
abbrev s_swapped : Stmt := top 11
abbrev N_swapped : List Str := ["row", "k"]
abbrev P_swapped : List Str := ["row", "k"]
theorem sc_swapped : FnScope N_swapped P_swapped (defScope s_swapped) := ⟨rfl, rfl, rfl, by decide +kernel, rfl, by decide +kernel, by decide +kernel⟩
abbrev s_ways_from : Stmt := top 12
abbrev N_ways_from : List Str := ["start", "steps", "came_from", "reached", "done", "now", "following"]
abbrev P_ways_from : List Str := ["start", "steps"]
theorem sc_ways_from : FnScope N_ways_from P_ways_from (defScope s_ways_from) := ⟨rfl, rfl, rfl, by decide +kernel, rfl, by decide +kernel, by decide +kernel⟩
abbrev s_way_back : Stmt := top 13
abbrev N_way_back : List Str := ["came_from", "goal", "way", "now"]
abbrev P_way_back : List Str := ["came_from", "goal"]
theorem sc_way_back : FnScope N_way_back P_way_back (defScope s_way_back) := ⟨rfl, rfl, rfl, by decide +kernel, rfl, by decide +kernel, by decide +kernel⟩
abbrev s_is_word : Stmt := top 16
abbrev N_is_word : List Str := ["many", "thing"]
abbrev P_is_word : List Str := ["many", "thing"]
theorem sc_is_word : FnScope N_is_word P_is_word (defScope s_is_word) := ⟨rfl, rfl, rfl, by decide +kernel, rfl, by decide +kernel, by decide +kernel⟩
abbrev s_check_word : Stmt := top 17
abbrev N_check_word : List Str := ["many", "word"]
abbrev P_check_word : List Str := ["many", "word"]
theorem sc_check_word : FnScope N_check_word P_check_word (defScope s_check_word) := ⟨rfl, rfl, rfl, by decide +kernel, rfl, by decide +kernel, by decide +kernel⟩
abbrev s_word_order : Stmt := top 18
abbrev N_word_order : List Str := ["many", "word", "order", "k"]
abbrev P_word_order : List Str := ["many", "word"]
theorem sc_word_order : FnScope N_word_order P_word_order (defScope s_word_order) := ⟨rfl, rfl, rfl, by decide +kernel, rfl, by decide +kernel, by decide +kernel⟩
abbrev s_spare : Stmt := top 19
abbrev N_spare : List Str := ["many", "word", "order", "place_of_pair", "place", "k", "pair"]
abbrev P_spare : List Str := ["many", "word"]
theorem sc_spare : FnScope N_spare P_spare (defScope s_spare) := ⟨rfl, rfl, rfl, by decide +kernel, rfl, by decide +kernel, by decide +kernel⟩
abbrev s_moved : Stmt := top 20
abbrev N_moved : List Str := ["word", "found", "i", "a", "b"]
abbrev P_moved : List Str := ["word"]
theorem sc_moved : FnScope N_moved P_moved (defScope s_moved) := ⟨rfl, rfl, rfl, by decide +kernel, rfl, by decide +kernel, by decide +kernel⟩
abbrev s_led : Stmt := top 21
abbrev N_led : List Str := ["many", "one", "other", "place", "word"]
abbrev P_led : List Str := ["many", "one", "other"]
theorem sc_led : FnScope N_led P_led (defScope s_led) := ⟨rfl, rfl, rfl, by decide +kernel, rfl, by decide +kernel, by decide +kernel⟩
abbrev s_mixed : Stmt := top 23
abbrev N_mixed : List Str := ["_law_cell_here", "_law_k", "_law_number"]
abbrev P_mixed : List Str := ["_law_cell_here", "_law_k"]
theorem sc_mixed : FnScope N_mixed P_mixed (defScope s_mixed) := ⟨rfl, rfl, rfl, by decide +kernel, rfl, by decide +kernel, by decide +kernel⟩
abbrev s_cell : Stmt := top 24
abbrev N_cell : List Str := ["_law_script", "_law_k", "_law_cell_here", "_law_found", "_law_j"]
abbrev P_cell : List Str := ["_law_script", "_law_k"]
theorem sc_cell : FnScope N_cell P_cell (defScope s_cell) := ⟨rfl, rfl, rfl, by decide +kernel, rfl, by decide +kernel, by decide +kernel⟩
abbrev s_take : Stmt := top 25
abbrev N_take : List Str := ["_law_pile", "_law_size", "_law_digit"]
abbrev P_take : List Str := ["_law_pile", "_law_size"]
theorem sc_take : FnScope N_take P_take (defScope s_take) := ⟨rfl, rfl, rfl, by decide +kernel, rfl, by decide +kernel, by decide +kernel⟩
abbrev s_whole : Stmt := top 26
abbrev N_whole : List Str := ["_law_found"]
abbrev P_whole : List Str := ["_law_found"]
theorem sc_whole : FnScope N_whole P_whole (defScope s_whole) := ⟨rfl, rfl, rfl, by decide +kernel, rfl, by decide +kernel, by decide +kernel⟩
abbrev s_order : Stmt := top 27
abbrev N_order : List Str := ["_law_pile", "_law_many", "_law_left", "_law_found", "_law_place"]
abbrev P_order : List Str := ["_law_pile", "_law_many"]
theorem sc_order : FnScope N_order P_order (defScope s_order) := ⟨rfl, rfl, rfl, by decide +kernel, rfl, by decide +kernel, by decide +kernel⟩
abbrev s_wrong : Stmt := top 28
abbrev N_wrong : List Str := ["_law_order_here", "_law_found", "_law_i", "_law_j"]
abbrev P_wrong : List Str := ["_law_order_here"]
theorem sc_wrong : FnScope N_wrong P_wrong (defScope s_wrong) := ⟨rfl, rfl, rfl, by decide +kernel, rfl, by decide +kernel, by decide +kernel⟩
abbrev s_short_word : Stmt := top 29
abbrev N_short_word : List Str := ["_law_pile", "_law_order_here", "_law_found", "_law_some", "_law_k"]
abbrev P_short_word : List Str := ["_law_pile", "_law_order_here"]
theorem sc_short_word : FnScope N_short_word P_short_word (defScope s_short_word) := ⟨rfl, rfl, rfl, by decide +kernel, rfl, by decide +kernel, by decide +kernel⟩
abbrev s_moves : Stmt := top 30
abbrev N_moves : List Str := ["_law_word", "_law_found", "_law_k", "_law_some"]
abbrev P_moves : List Str := ["_law_word"]
theorem sc_moves : FnScope N_moves P_moves (defScope s_moves) := ⟨rfl, rfl, rfl, by decide +kernel, rfl, by decide +kernel, by decide +kernel⟩
abbrev s_leads : Stmt := top 31
abbrev N_leads : List Str := ["_law_found", "_law_one", "_law_other", "_law_word", "_law_k"]
abbrev P_leads : List Str := ["_law_found", "_law_one", "_law_other"]
theorem sc_leads : FnScope N_leads P_leads (defScope s_leads) := ⟨rfl, rfl, rfl, by decide +kernel, rfl, by decide +kernel, by decide +kernel⟩
abbrev s_good : Stmt := top 32
abbrev N_good : List Str := ["_law_many", "_law_one", "_law_other", "_law_handed", "_law_found", "_law_kept", "_law_word", "_law_k"]
abbrev P_good : List Str := ["_law_many", "_law_one", "_law_other"]
theorem sc_good : FnScope N_good P_good (defScope s_good) := ⟨rfl, rfl, rfl, by decide +kernel, rfl, by decide +kernel, by decide +kernel⟩
abbrev s_law : Stmt := top 33
abbrev N_law : List Str := ["_law_script", "_law_k", "_law_pile", "_law_many", "_law_order_here", "_law_one", "_law_other"]
abbrev P_law : List Str := ["_law_script"]
theorem sc_law : FnScope N_law P_law (defScope s_law) := ⟨rfl, rfl, rfl, by decide +kernel, rfl, by decide +kernel, by decide +kernel⟩
structure Adr where
  is_whole : Addr
  fd_is_whole : FuncData
  is_within : Addr
  fd_is_within : FuncData
  check_count : Addr
  fd_check_count : FuncData
  swapped : Addr
  fd_swapped : FuncData
  ways_from : Addr
  fd_ways_from : FuncData
  way_back : Addr
  fd_way_back : FuncData
  is_word : Addr
  fd_is_word : FuncData
  check_word : Addr
  fd_check_word : FuncData
  word_order : Addr
  fd_word_order : FuncData
  spare : Addr
  fd_spare : FuncData
  moved : Addr
  fd_moved : FuncData
  led : Addr
  fd_led : FuncData
  mixed : Addr
  fd_mixed : FuncData
  cell : Addr
  fd_cell : FuncData
  take : Addr
  fd_take : FuncData
  whole : Addr
  fd_whole : FuncData
  order : Addr
  fd_order : FuncData
  wrong : Addr
  fd_wrong : FuncData
  short_word : Addr
  fd_short_word : FuncData
  moves : Addr
  fd_moves : FuncData
  leads : Addr
  fd_leads : FuncData
  good : Addr
  fd_good : FuncData
  law : Addr
  fd_law : FuncData
  t_MOST_THINGS : Tok
  t_MOST_ENTRIES : Tok
  c_is_word : Addr
  p_is_word : Addr
structure Txt (K : PySem.W.Frag) (mg : Str → Option Value) (A : Adr) : Prop where
  m_is_whole : mg "is_whole" = some (.ref A.is_whole)
  F_is_whole : Fun K "is_whole" "is_whole" s_is_whole A.is_whole A.fd_is_whole
  m_is_within : mg "is_within" = some (.ref A.is_within)
  F_is_within : Fun K "is_within" "is_within" s_is_within A.is_within A.fd_is_within
  m_check_count : mg "check_count" = some (.ref A.check_count)
  F_check_count : Fun K "check_count" "check_count" s_check_count A.check_count A.fd_check_count
  m_swapped : mg "swapped" = some (.ref A.swapped)
  F_swapped : Fun K "swapped" "swapped" s_swapped A.swapped A.fd_swapped
  m_ways_from : mg "ways_from" = some (.ref A.ways_from)
  F_ways_from : Fun K "ways_from" "ways_from" s_ways_from A.ways_from A.fd_ways_from
  m_way_back : mg "way_back" = some (.ref A.way_back)
  F_way_back : Fun K "way_back" "way_back" s_way_back A.way_back A.fd_way_back
  m_is_word : mg "is_word" = some (.ref A.is_word)
  F_is_word : Fun K "is_word" "is_word" s_is_word A.is_word A.fd_is_word
  m_check_word : mg "check_word" = some (.ref A.check_word)
  F_check_word : Fun K "check_word" "check_word" s_check_word A.check_word A.fd_check_word
  m_word_order : mg "word_order" = some (.ref A.word_order)
  F_word_order : Fun K "word_order" "word_order" s_word_order A.word_order A.fd_word_order
  m_spare : mg "spare" = some (.ref A.spare)
  F_spare : Fun K "spare" "spare" s_spare A.spare A.fd_spare
  m_moved : mg "moved" = some (.ref A.moved)
  F_moved : Fun K "moved" "moved" s_moved A.moved A.fd_moved
  m_led : mg "led" = some (.ref A.led)
  F_led : Fun K "led" "led" s_led A.led A.fd_led
  m_mixed : mg "_law_mixed" = some (.ref A.mixed)
  F_mixed : Fun K "_law_mixed" "_law_mixed" s_mixed A.mixed A.fd_mixed
  m_cell : mg "_law_cell" = some (.ref A.cell)
  F_cell : Fun K "_law_cell" "_law_cell" s_cell A.cell A.fd_cell
  m_take : mg "_law_take" = some (.ref A.take)
  F_take : Fun K "_law_take" "_law_take" s_take A.take A.fd_take
  m_whole : mg "_law_whole" = some (.ref A.whole)
  F_whole : Fun K "_law_whole" "_law_whole" s_whole A.whole A.fd_whole
  m_order : mg "_law_order" = some (.ref A.order)
  F_order : Fun K "_law_order" "_law_order" s_order A.order A.fd_order
  m_wrong : mg "_law_wrong" = some (.ref A.wrong)
  F_wrong : Fun K "_law_wrong" "_law_wrong" s_wrong A.wrong A.fd_wrong
  m_short_word : mg "_law_short_word" = some (.ref A.short_word)
  F_short_word : Fun K "_law_short_word" "_law_short_word" s_short_word A.short_word A.fd_short_word
  m_moves : mg "_law_moves" = some (.ref A.moves)
  F_moves : Fun K "_law_moves" "_law_moves" s_moves A.moves A.fd_moves
  m_leads : mg "_law_leads" = some (.ref A.leads)
  F_leads : Fun K "_law_leads" "_law_leads" s_leads A.leads A.fd_leads
  m_good : mg "_law_good" = some (.ref A.good)
  F_good : Fun K "_law_good" "_law_good" s_good A.good A.fd_good
  m_law : mg "law" = some (.ref A.law)
  F_law : Fun K "law" "law" s_law A.law A.fd_law
  g_MOST_THINGS : mg "MOST_THINGS" = some (.int 5 A.t_MOST_THINGS)
  g_MOST_ENTRIES : mg "MOST_ENTRIES" = some (.int 30 A.t_MOST_ENTRIES)
  z_abs : mg "abs" = none
  z_all : mg "all" = none
  z_bool : mg "bool" = none
  z_enumerate : mg "enumerate" = none
  z_int : mg "int" = none
  z_isinstance : mg "isinstance" = none
  z_len : mg "len" = none
  z_list : mg "list" = none
  z_range : mg "range" = none
  z_set : mg "set" = none
  z_sorted : mg "sorted" = none
  z_tuple : mg "tuple" = none
  c_is_word : A.fd_is_word.code = .ref A.c_is_word
  tk : tupK K = true
/-- of the heap that every state bears: the codes of the defs with a generator, the module of the builtins -/
structure Bas (mg : Str → Option Value) (base : Heap) (A : Adr) : Prop where
  bm : ∃ bm ob, mg "__builtins__" = some (.ref bm) ∧ bm ≠ builtinsNs ∧ base.get? bm = some ob ∧ ob.cls = .type "module" ∧ ob.dict = some builtinsNs ∧ ob.data = .plain
  d_is_word : PySem.W.CodeHd base A.c_is_word A.p_is_word
/-- the tables that may grow -/
def Tab (A : Adr) (H : Hp) : Prop := H A.p_is_word = some (TabP A.p_is_word)
section
variable {K : PySem.W.Frag} {mg : Str → Option Value} {A : Adr}
theorem b_is_whole (T : Txt K mg A) : Binds K A.fd_is_whole P_is_whole [] := T.F_is_whole.binds fun _ _ _ _ _ _ us hl => match us, hl with | [_], _ => rfl
theorem b_is_within (T : Txt K mg A) : Binds K A.fd_is_within P_is_within [] := T.F_is_within.binds fun _ _ _ _ _ _ us hl => match us, hl with | [_, _, _], _ => rfl
theorem b_check_count (T : Txt K mg A) : Binds K A.fd_check_count P_check_count [] := T.F_check_count.binds fun _ _ _ _ _ _ us hl => match us, hl with | [_], _ => rfl
theorem b_swapped (T : Txt K mg A) : Binds K A.fd_swapped P_swapped [] := T.F_swapped.binds fun _ _ _ _ _ _ us hl => match us, hl with | [_, _], _ => rfl
theorem b_ways_from (T : Txt K mg A) : Binds K A.fd_ways_from P_ways_from [] := T.F_ways_from.binds fun _ _ _ _ _ _ us hl => match us, hl with | [_, _], _ => rfl
theorem b_way_back (T : Txt K mg A) : Binds K A.fd_way_back P_way_back [] := T.F_way_back.binds fun _ _ _ _ _ _ us hl => match us, hl with | [_, _], _ => rfl
theorem b_is_word (T : Txt K mg A) : Binds K A.fd_is_word P_is_word [] := T.F_is_word.binds fun _ _ _ _ _ _ us hl => match us, hl with | [_, _], _ => rfl
theorem b_check_word (T : Txt K mg A) : Binds K A.fd_check_word P_check_word [] := T.F_check_word.binds fun _ _ _ _ _ _ us hl => match us, hl with | [_, _], _ => rfl
theorem b_word_order (T : Txt K mg A) : Binds K A.fd_word_order P_word_order [] := T.F_word_order.binds fun _ _ _ _ _ _ us hl => match us, hl with | [_, _], _ => rfl
theorem b_spare (T : Txt K mg A) : Binds K A.fd_spare P_spare [] := T.F_spare.binds fun _ _ _ _ _ _ us hl => match us, hl with | [_, _], _ => rfl
theorem b_moved (T : Txt K mg A) : Binds K A.fd_moved P_moved [] := T.F_moved.binds fun _ _ _ _ _ _ us hl => match us, hl with | [_], _ => rfl
theorem b_led (T : Txt K mg A) : Binds K A.fd_led P_led [] := T.F_led.binds fun _ _ _ _ _ _ us hl => match us, hl with | [_, _, _], _ => rfl
theorem b_mixed (T : Txt K mg A) : Binds K A.fd_mixed P_mixed [] := T.F_mixed.binds fun _ _ _ _ _ _ us hl => match us, hl with | [_, _], _ => rfl
theorem b_cell (T : Txt K mg A) : Binds K A.fd_cell P_cell [] := T.F_cell.binds fun _ _ _ _ _ _ us hl => match us, hl with | [_, _], _ => rfl
theorem b_take (T : Txt K mg A) : Binds K A.fd_take P_take [] := T.F_take.binds fun _ _ _ _ _ _ us hl => match us, hl with | [_, _], _ => rfl
theorem b_whole (T : Txt K mg A) : Binds K A.fd_whole P_whole [] := T.F_whole.binds fun _ _ _ _ _ _ us hl => match us, hl with | [_], _ => rfl
theorem b_order (T : Txt K mg A) : Binds K A.fd_order P_order [] := T.F_order.binds fun _ _ _ _ _ _ us hl => match us, hl with | [_, _], _ => rfl
theorem b_wrong (T : Txt K mg A) : Binds K A.fd_wrong P_wrong [] := T.F_wrong.binds fun _ _ _ _ _ _ us hl => match us, hl with | [_], _ => rfl
theorem b_short_word (T : Txt K mg A) : Binds K A.fd_short_word P_short_word [] := T.F_short_word.binds fun _ _ _ _ _ _ us hl => match us, hl with | [_, _], _ => rfl
theorem b_moves (T : Txt K mg A) : Binds K A.fd_moves P_moves [] := T.F_moves.binds fun _ _ _ _ _ _ us hl => match us, hl with | [_], _ => rfl
theorem b_leads (T : Txt K mg A) : Binds K A.fd_leads P_leads [] := T.F_leads.binds fun _ _ _ _ _ _ us hl => match us, hl with | [_, _, _], _ => rfl
theorem b_good (T : Txt K mg A) : Binds K A.fd_good P_good [] := T.F_good.binds fun _ _ _ _ _ _ us hl => match us, hl with | [_, _, _], _ => rfl
end
section
variable {P : Program} {w : World} {K : PySem.W.Frag} {mg : Str → Option Value} {base : Heap} {A : Adr} {gq : Array GenState → Drawn → Prop}
theorem ok_is_whole (T : Txt K mg A) : FnOk P w K mg base (CXq gq) 1 A.is_whole A.fd_is_whole P_is_whole (sp_whole K) := by
  have nd := sc_is_whole.nd
  refine T.F_is_whole.okc sc_is_whole (fun vs H Q E h => ?_) (fun A' outer s H vs Q E hr h => ?_)
  · obtain ⟨v, k, rfl, _⟩ := h; rfl
  obtain ⟨v, k, rfl, hk, q⟩ := h
  refine ⟨_, (pss_one (ps_ret (pe_and (pe_callB call_isi (by rfl) T.z_isinstance (by decide +kernel) (pa_cons (pv 0) (pa_cons (pe_ty "int" (by rfl) T.z_int (by decide +kernel)) pa_nil))) (pe_one (pe_not (pe_callB call_isi (by rfl) T.z_isinstance (by decide +kernel) (pa_cons (pv 0) (pa_cons (pe_ty "bool" (by rfl) T.z_bool (by decide +kernel)) pa_nil)))))))), ?_⟩
  refine ⟨v, rfl, v, k, "int", rfl, hk, .inl rfl, _, rfl, ?_⟩
  unfold wholeK at q
  cases e : isi k "int" with
  | false =>
    rw [e] at q
    exact iteF q
  | true =>
    rw [e] at q
    refine iteT ⟨v, rfl, v, k, "bool", rfl, hk, .inr (.inl rfl), _, rfl, q⟩
theorem ok_is_within (T : Txt K mg A) : FnOk P w K mg base (CXq gq) 2 A.is_within A.fd_is_within P_is_within (sp_within K) := by
  have nd := sc_is_within.nd
  have G_is_whole : FnOk P w K mg base (CXq gq) 1 A.is_whole A.fd_is_whole P_is_whole (sp_whole K) := ok_is_whole T
  have b_is_whole := b_is_whole T
  refine T.F_is_within.okc sc_is_within (fun vs H Q E h => ?_) (fun A' outer s H vs Q E hr h => ?_)
  · obtain ⟨v, k, lo, hi, rfl, _⟩ := h; rfl
  obtain ⟨v, k, lo, hi, rfl, hk, q⟩ := h
  refine ⟨_, (pss_one (ps_ret (pe_and (pe_call (G_is_whole.mono (by decide)) hr rfl T.m_is_whole T.F_is_whole.kp b_is_whole .nil pass0 (pa_cons (pv 0) pa_nil)) (pe_one (pe_chain op_le op_le (pv 1) (pv 0) (pv 2)))))), ?_⟩
  refine ⟨v, rfl, v, k, rfl, hk, _, rfl, ?_⟩
  rw [wholeK_eq hk]
  cases v with
  | int i =>
    refine iteT ⟨_, rfl, _, rfl, _, _, rfl, rfl, _, rfl, ?_⟩
    have q : Q (.bl (decide (lo ≤ i) && decide (i ≤ hi))) H := q
    cases e : decide (lo ≤ i) with
    | true =>
      rw [e, Bool.true_and] at q
      exact iteT ⟨_, rfl, _, _, rfl, rfl, q⟩
    | false =>
      rw [e, Bool.false_and] at q
      exact iteF q
  | _ => exact iteF q
def sp_mixed : Sp := fun vs H Q _ => ∃ a k : Int, vs = [.int a, .int k] ∧ ∀ r : Int, 0 ≤ r → r < 2147483579 → Q (.int r) H
theorem mul31 {a b : Int} (h1 : 0 ≤ a) (h2 : a < 2147483648) : IntMulOk a b := IntMulOk.of_left (PySem.intBits_le_64 (by omega) (by omega))
theorem mul31r {a b : Int} (h1 : 0 ≤ b) (h2 : b < 2147483648) : IntMulOk a b := IntMulOk.of_right (PySem.intBits_le_64 (by omega) (by omega))
theorem ok_mixed (T : Txt K mg A) : FnOk P w K mg base (CXq gq) 1 A.mixed A.fd_mixed P_mixed sp_mixed := by
  have nd := sc_mixed.nd
  refine T.F_mixed.okc sc_mixed (fun vs H Q E h => ?_) (fun A' outer s H vs Q E hr h => ?_)
  · obtain ⟨a, k, rfl, _⟩ := h; rfl
  obtain ⟨a, k, rfl, q⟩ := h
  refine ⟨_, (pss_cons (ps_set (i := 2) nd rfl (Or.inl rfl) (pe_op op_mod (pe_op op_add (pe_op op_add (pe_op op_mulB (pe_op op_mod (pv 0) pe_int) pe_int) (pe_op op_mulB (pv 1) pe_int)) pe_int) pe_int))
      (pss_cons (ps_set (i := 2) nd rfl (Or.inl rfl) (pe_op op_mod (pe_op op_mulB (pv 2) (pv 2)) pe_int))
      (pss_one (ps_ret (pe_op op_mod (pe_op op_mulB (pv 2) (pe_op op_add (pv 2) pe_int)) pe_int))))), ?_⟩
  refine ⟨_, rfl, _, _, rfl, rfl, (by show (0 : Int) < 2147483647; decide), _, _, rfl, rfl, mul31r (by decide) (by decide), _, rfl, _, _, rfl, rfl, mul31r (by decide) (by decide), _, _, rfl, rfl, _, _, rfl, rfl, _, _, rfl, rfl, (by show (0 : Int) < 2147483629; decide), ?_⟩
  have em : ∀ x z : Int, 0 < z → z < 2147483648 → 0 ≤ x % z ∧ x % z < 2147483648 := fun x z h1 h2 => ⟨Int.emod_nonneg _ (by omega), Int.lt_trans (Int.emod_lt_of_pos _ h1) h2⟩
  refine ⟨_, rfl, _, rfl, _, _, rfl, rfl, mul31 (em _ _ (by decide) (by decide)).1 (em _ _ (by decide) (by decide)).2, _, _, rfl, rfl, (by show (0 : Int) < 2147483587; decide), ?_⟩
  refine ⟨_, rfl, _, rfl, _, _, rfl, rfl, _, _, rfl, rfl, mul31 (em _ _ (by decide) (by decide)).1 (em _ _ (by decide) (by decide)).2, _, _, rfl, rfl, (by show (0 : Int) < 2147483579; decide), ?_⟩
  exact q _ (Int.emod_nonneg _ (by decide)) (Int.emod_lt_of_pos _ (by decide))
def sp_take : Sp := fun vs H Q _ => ∃ (p : Addr) (n z : Int), vs = [.ref p, .int z] ∧ H p = some (.lst [.int n]) ∧ 0 < z ∧ z.natAbs.log2 < 9000 ∧ ∀ d n' : Int, 0 ≤ d → d < z → Q (.int d) (upd H p (.lst [.int n']))
theorem ok_take (T : Txt K mg A) : FnOk P w K mg base (CXq gq) 1 A.take A.fd_take P_take sp_take := by
  have nd := sc_take.nd
  refine T.F_take.okc sc_take (fun vs H Q E h => ?_) (fun A' outer s H vs Q E hr h => ?_)
  · obtain ⟨p, n, z, rfl, _⟩ := h; rfl
  obtain ⟨p, n, z, rfl, hp, h0, h9, q⟩ := h
  refine ⟨_, (pss_cons (ps_set (i := 2) nd rfl (Or.inl rfl) (pe_op op_mod (pe_ix ix_list (pv 0) pe_int (fun _ _ => rfl)) (pv 1)))
      (pss_cons (ps_asg (pe_op op_fdivB (pe_ix ix_list (pv 0) pe_int (fun _ _ => rfl)) (pv 1)) (pg_sub (pv 0) pe_int set_list))
      (pss_one (ps_ret (pv 2))))), ?_⟩
  refine ⟨_, rfl, p, _, _, .int n, rfl, rfl, SqL.of hp, atI_nat (j := 0) rfl, _, rfl, _, _, rfl, rfl, h0, ?_⟩
  refine ⟨_, rfl, p, _, _, .int n, rfl, rfl, SqL.of hp, atI_nat (j := 0) rfl, _, rfl, _, _, rfl, rfl, ⟨h0, h9⟩, ?_⟩
  refine ⟨_, rfl, p, _, _, 0, rfl, rfl, hp, rfl, ?_⟩
  exact ⟨_, rfl, q _ _ (Int.emod_nonneg _ (by omega)) (Int.emod_lt_of_pos _ h0)⟩
def sp_cell (K : PySem.W.Frag) : Sp := fun vs H Q _ => ∃ (a : Addr) (ns : List Int) (k : Nat), vs = [.ref a, .int k] ∧ SqL K H a (intsV ns) ∧ k ≤ 100 ∧ ∀ n : Int, Q (.int n) H
theorem ok_cell (T : Txt K mg A) : FnOk P w K mg base (CXq gq) 2 A.cell A.fd_cell P_cell (sp_cell K) := by
  have nd := sc_cell.nd
  have G_mixed : FnOk P w K mg base (CXq gq) 1 A.mixed A.fd_mixed P_mixed sp_mixed := ok_mixed T
  have b_mixed := b_mixed T
  refine T.F_cell.okc sc_cell (fun vs H Q E h => ?_) (fun A' outer s H vs Q E hr h => ?_)
  · obtain ⟨a, ns, k, rfl, _⟩ := h; rfl
  obtain ⟨a, ns, k, rfl, ha, hk, q⟩ := h
  refine ⟨_, (pss_cons (ps_set (i := 2) nd rfl (Or.inl rfl) pe_int)
      (pss_cons (ps_if (pt_cmpR op_lt (pv 1) (pe_callB call_len (by rfl) T.z_len PySem.boot_len (pa_cons (pv 0) pa_nil)) (nomark _)) (pss_one (ps_set (i := 2) nd rfl (Or.inl rfl) (pe_ix ix_list (pv 0) (pv 1) (fun _ _ => rfl)))) pss_nil)
      (pss_cons (ps_if (pt_cmpR op_ge (pv 2) (pe_op op_pow pe_int pe_int) (nomark _)) (pss_one (ps_ret (pe_op op_mod (pe_op op_sub (pv 2) (pe_op op_pow pe_int pe_int)) (pe_op op_mulB (pe_op op_mulB (pe_op op_mulB (pe_op op_pow pe_int pe_int) (pe_op op_pow pe_int pe_int)) (pe_op op_pow pe_int pe_int)) (pe_op op_pow pe_int pe_int))))) pss_nil)
      (pss_cons (ps_set (i := 3) nd rfl (Or.inl rfl) pe_int)
      (pss_cons (ps_for PassesOwn.never rfl (pi_range1 (by rfl) T.z_range (pa_cons pe_int pa_nil)) (pg_name (i := 4) nd rfl (Or.inl rfl)) (pss_one (ps_set (i := 3) nd rfl (Or.inl rfl) (pe_op op_add (pe_op op_mulB (pv 3) pe_int) (pe_call (G_mixed.mono (by decide)) hr rfl T.m_mixed T.F_mixed.kp b_mixed .nil pass0 (pa_cons (pv 2) (pa_cons (pe_op op_add (pe_op op_add (pe_op op_mulB pe_int (pv 1)) (pe_op op_mulB pe_int (pv 4))) (pe_op op_mulB (pv 4) (pv 4))) pa_nil)))))))
      (pss_one (ps_ret (pv 3)))))))), ?_⟩
  refine ⟨_, rfl, _, rfl, .ref a, ns.length, rfl, .inl ⟨_, ha, (intsV_len ns).symm⟩, _, _, rfl, rfl, _, rfl, ?_⟩
  refine ite2 (fun h => ?a) (fun h => ?b)
  case' a =>
    obtain ⟨n, en⟩ := get_some (show k < ns.length by simpa using h)
    refine ⟨_, rfl, _, rfl, a, _, _, .int n, rfl, rfl, ha, atI_nat (get_intsV en), ?_⟩
  all_goals
    refine ⟨_, rfl, _, _, rfl, rfl, powOk (by decide) (by decide) (by decide), _, _, rfl, rfl, _, rfl, ?_⟩
    refine ite2 (fun _ => ?_) (fun _ => ?_)
    · refine ⟨_, rfl, _, _, rfl, rfl, powOk (by decide) (by decide) (by decide), _, _, rfl, rfl, _, _, rfl, rfl, powOk (by decide) (by decide) (by decide), _, _, rfl, rfl, powOk (by decide) (by decide) (by decide), _, _, rfl, rfl, bits_ok (by decide) (by decide),
        _, _, rfl, rfl, powOk (by decide) (by decide) (by decide), _, _, rfl, rfl, bits_ok (by decide) (by decide), _, _, rfl, rfl, powOk (by decide) (by decide) (by decide), _, _, rfl, rfl, bits_ok (by decide) (by decide), _, _, rfl, rfl, ?_, q _⟩
      show (0 : Int) < 10 ^ Int.toNat 60 * 10 ^ Int.toNat 60 * 10 ^ Int.toNat 60 * 10 ^ Int.toNat 60
      decide
    · refine ⟨24, rfl, by decide, by decide, for_range (lo := 0) (n := 24) (fun i σ H2 => ∃ (c f : Int) (v : Option V), σ = [some (.ref a), some (.int k), some (.int c), some (.int f), v] ∧ H2 = H) ⟨_, _, _, rfl, rfl⟩ ?_ ?_⟩
      · rintro i σ H2 hi ⟨c, f, v, rfl, rfl⟩
        refine ⟨_, rfl, _, _, rfl, rfl, mul31r (by decide) (by decide), _, rfl, _, rfl, _, _, rfl, rfl, mul31 (by decide) (by decide), _, rfl, _, _, rfl, rfl, mul31 (by decide) (by decide), _, _, rfl, rfl, _, rfl, _, rfl, _, _, rfl, rfl, mul31 (by omega) (by omega), _, _, rfl, rfl, _, _, rfl, fun r _ _ => ?_⟩
        exact ⟨_, _, rfl, rfl, _, _, _, rfl, rfl⟩
      · rintro σ H2 ⟨c, f, v, rfl, rfl⟩
        exact ⟨_, rfl, q _⟩
end
end K18

set_option Elab.async false
set_option linter.all false
set_option maxRecDepth 100000
set_option maxHeartbeats 4000000
namespace L2
open PySem PySem.Spec PyProof.Rows
/-- the terms of a term's difference -/
def divT (k : Nat) (t : List Nat × Int) : Pol := (List.range (max (t.1.getD k 0) (t.1.getD (k + 1) 0) - min (t.1.getD k 0) (t.1.getD (k + 1) 0))).map fun s => (t.1.take k ++ (max (t.1.getD k 0) (t.1.getD (k + 1) 0) - 1 - s) :: (min (t.1.getD k 0) (t.1.getD (k + 1) 0) + s) :: t.1.drop (k + 2), if t.1.getD k 0 < t.1.getD (k + 1) 0 then -t.2 else t.2)
def divP (k : Nat) (ts : Pol) : Pol := ts.flatMap (divT k)
/-- a polynomial in its one form, reckoned -/
def insN (t : List Nat × Int) : Pol → Pol
  | [] => if t.2 = 0 then [] else [t]
  | u :: us => if t.1 = u.1 then (if t.2 + u.2 = 0 then us else (u.1, t.2 + u.2) :: us) else if lexI (toI t.1) (toI u.1) then u :: insN t us else if t.2 = 0 then u :: us else t :: u :: us
def nfP (p : Pol) : Pol := p.foldr insN []
def nfW (ks : List Nat) (ts : Pol) : Pol := ks.foldr (fun k p => nfP (divP k p)) ts
def stairN (n : Nat) : List Nat := (List.range n).map fun i => n - 1 - i
/-- the least short word, fall by fall -/
def leW : Nat → List Int → List Nat
  | 0, _ => []
  | n + 1, ns => match faN ns with
    | [] => []
    | k :: _ => k :: leW n (swapAt ns k)
def downW (os : List Int) : List Nat := leW 10 (backL (joinL (backL os) (turnL os.length)))
/-- the polynomial of an order, reckoned -/
def oF (os : List Int) : Pol := nfW (downW os) [(stairN os.length, 1)]
structure OSum (os : List Int) : Prop where
  can : Can os.length (oF os)
  len : (oF os).length ≤ 30
  pos : ∀ t ∈ oF os, 1 ≤ t.2 ∧ t.2 ≤ 100 ∧ t.1.sum = (wpP os).length
end L2

set_option Elab.async false
set_option linter.all false
set_option maxRecDepth 100000
set_option maxHeartbeats 4000000
namespace K18
open PySem L2
section
variable {P : Program} {w : World} {K : PySem.W.Frag} {mg : Str → Option Value} {base : Heap} {A : Adr} {gq : Array GenState → Drawn → Prop}
theorem Tab.same {A : Adr} {H H' : Hp} (t : Tab A H) (s : Same H H') : Tab A H' := by
  first
  | exact s _ _ t
  | exact ⟨s _ _ t.1, s _ _ t.2⟩
  | exact ⟨s _ _ t.1, s _ _ t.2.1, s _ _ t.2.2⟩
  | exact ⟨s _ _ t.1, s _ _ t.2.1, s _ _ t.2.2.1, s _ _ t.2.2.2⟩
  | exact ⟨s _ _ t.1, s _ _ t.2.1, s _ _ t.2.2.1, s _ _ t.2.2.2.1, s _ _ t.2.2.2.2⟩
  | exact ⟨s _ _ t.1, s _ _ t.2.1, s _ _ t.2.2.1, s _ _ t.2.2.2.1, s _ _ t.2.2.2.2.1, s _ _ t.2.2.2.2.2⟩
def sp_count : Sp := fun vs H Q _ => ∃ m : Int, vs = [.int m] ∧ 1 ≤ m ∧ m ≤ 5 ∧ Q .non H
theorem ok_check_count (T : Txt K mg A) : FnOk P w K mg base (CXq gq) 3 A.check_count A.fd_check_count P_check_count sp_count := by
  have nd := sc_check_count.nd
  have G_is_within : FnOk P w K mg base (CXq gq) 2 A.is_within A.fd_is_within P_is_within (sp_within K) := ok_is_within T
  have b_is_within := b_is_within T
  refine T.F_check_count.okc sc_check_count (fun vs H Q E h => ?_) (fun A' outer s H vs Q E hr h => ?_)
  · obtain ⟨m, rfl, _⟩ := h; rfl
  obtain ⟨m, rfl, h1, h2, q⟩ := h
  refine ⟨_, (pss_one (ps_if (pt_not (pt_val (pe_call (G_is_within.mono (by decide)) hr rfl T.m_is_within T.F_is_within.kp b_is_within .nil pass0 (pa_cons (pv 0) (pa_cons pe_int (pa_cons (pe_gint rfl T.g_MOST_THINGS) pa_nil)))))) (pss_one ps_never) pss_nil)), ?_⟩
  refine ⟨_, rfl, .int m, "int", 1, 5, rfl, rfl, _, rfl, ?_⟩
  have e : withinV (.int m) 1 5 = true := by simp [withinV, h1, h2]
  rw [e]
  exact iteF q
theorem tabW {A : Adr} {H : Hp} (ht : Tab A H) : H A.p_is_word = some (TabP A.p_is_word) := by first | exact ht | exact ht.1 | exact ht.2 | exact ht.2.1 | exact ht.2.2 | exact ht.2.2.1 | exact ht.2.2.2 | exact ht.2.2.2.1 | exact ht.2.2.2.2
def sp_is_word (K : PySem.W.Frag) (A : Adr) : Sp := fun vs H Q _ => ∃ (m : Int) (v : V) (b : Bool), vs = [.int m, v] ∧ WordIs K H m v b ∧ Tab A H ∧ Q (.bl b) H
theorem ok_is_word (T : Txt K mg A) (B : Bas mg base A) : FnOk P w K mg base CX0 4 A.is_word A.fd_is_word P_is_word (sp_is_word K A) := by
  have nd := sc_is_word.nd
  have G_is_within : ∀ gq, FnOk P w K mg base (CXq gq) 2 A.is_within A.fd_is_within P_is_within (sp_within K) := fun _ => ok_is_within T
  have b_is_within := b_is_within T
  refine T.F_is_word.okc sc_is_word (fun vs H Q E h => ?_) (fun A' outer s H vs Q E hr h => ?_)
  · obtain ⟨m, v, b, rfl, _⟩ := h; rfl
  obtain ⟨m, v, b, rfl, hv, ht, q⟩ := h
  refine ⟨_, (pss_cons (ps_if (PW.pt (pw_or (pt_not (pt_val (pe_callB call_isi (by rfl) T.z_isinstance (by decide +kernel) (pa_cons (pv 1) (pa_cons (pe_ty "list" (by rfl) T.z_list (by decide +kernel)) pa_nil))))) (pw_or1 (pt_cmpR op_gt (pe_callB call_len (by rfl) T.z_len PySem.boot_len (pa_cons (pv 1) pa_nil)) (pe_gint rfl T.g_MOST_ENTRIES) (nomark _))))) (pss_one (ps_ret pe_bl)) pss_nil)
      (pss_one (ps_ret (pe_allgen (k := 2) (x := "k") rfl rfl hr T.c_is_word B.d_is_word ⟨B.bm⟩ rfl (by decide +kernel) (by show ∀ y : Str × NameKind, y ∈ _ → y.2 = NameKind.free → (defScope s_is_word).names.lookup y.1 = some NameKind.cell; decide +kernel) (by decide +kernel) (by decide +kernel) rfl rfl T.z_all (by decide +kernel) (pv 1) (fun _ => rfl) G_is_within T.m_is_within T.F_is_within.kp b_is_within (by decide +kernel) (ga_cons (ge_loc rfl (by decide +kernel)) (ga_cons ge_int (ga_cons (ge_sub (ge_free 0 rfl (by decide +kernel) rfl (by show (defScope s_is_word).names.lookup _ = _; decide +kernel)) ge_int) ga_nil))))))), ?_⟩
  rcases hv with ⟨k, hk, nk, rfl⟩ | ⟨a, xs, rfl, hs, kn, rfl⟩
  · refine ⟨_, rfl, v, k, "list", rfl, hk, .inr (.inr (.inl rfl)), _, rfl, ?_⟩
    have ei : isi k "list" = false := by
      unfold isi
      rw [show (k == "list") = false by simpa using nk]
      cases (k == "bool") <;> rfl
    rw [ei]
    exact iteT (iteT q)
  · refine ⟨_, rfl, .ref a, "list", "list", rfl, .inl ⟨rfl, xs, hs⟩, .inr (.inr (.inl rfl)), _, rfl, iteF ?_⟩
    refine ⟨_, rfl, .ref a, xs.length, rfl, .inl ⟨xs, hs, rfl⟩, _, _, rfl, rfl, _, rfl, ?_⟩
    unfold wordV at q
    by_cases h30 : xs.length ≤ 30
    · rw [decide_eq_false (show ¬ (30 : Int) < (xs.length : Int) by omega)]
      refine iteF ?_
      rw [decide_eq_true h30, Bool.true_and] at q
      refine ⟨_, rfl, a, xs, rfl, .inl hs, tabW ht, fun x => withinV x 0 (m - 2), fun y hy => ?_, q⟩
      obtain ⟨k', hk'⟩ := kn y hy
      exact ⟨_, rfl, fun Hf lf => ⟨y, k', 0, m - 2, rfl, lf.kd hk', rfl⟩⟩
    · rw [decide_eq_true (show (30 : Int) < (xs.length : Int) by omega)]
      rw [decide_eq_false h30, Bool.false_and] at q
      exact iteT q
def sp_checkw (K : PySem.W.Frag) (A : Adr) : Sp := fun vs H Q _ => ∃ (m : Int) (a : Addr) (xs : List V), vs = [.int m, .ref a] ∧ SqL K H a xs ∧ xs.length ≤ 30 ∧ (∀ x ∈ xs, ∃ i : Int, x = .int i ∧ 0 ≤ i ∧ i ≤ m - 2) ∧ Tab A H ∧ Q .non H
theorem ok_check_word (T : Txt K mg A) (B : Bas mg base A) : FnOk P w K mg base CX0 5 A.check_word A.fd_check_word P_check_word (sp_checkw K A) := by
  have nd := sc_check_word.nd
  have G_is_word : FnOk P w K mg base CX0 4 A.is_word A.fd_is_word P_is_word (sp_is_word K A) := ok_is_word T B
  have b_is_word := b_is_word T
  refine T.F_check_word.okc sc_check_word (fun vs H Q E h => ?_) (fun A' outer s H vs Q E hr h => ?_)
  · obtain ⟨m, a, xs, rfl, _⟩ := h; rfl
  obtain ⟨m, a, xs, rfl, hx, hz, hi, ht, q⟩ := h
  refine ⟨_, (pss_one (ps_if (pt_not (pt_val (pe_call (G_is_word.mono (by decide)) hr rfl T.m_is_word T.F_is_word.kp b_is_word .nil pass0 (pa_cons (pv 0) (pa_cons (pv 1) pa_nil))))) (pss_one ps_never) pss_nil)), ?_⟩
  refine ⟨_, rfl, _, rfl, m, .ref a, true, rfl, .inr ⟨a, xs, rfl, hx, word_known hi, (wordV_true hz hi).symm⟩, ht, _, rfl, iteF q⟩
theorem ok_swapped (T : Txt K mg A) : FnOk P w K mg base (CXq gq) 1 A.swapped A.fd_swapped P_swapped sp_swapK := by
  have nd := sc_swapped.nd
  refine T.F_swapped.okc sc_swapped (fun vs H Q E h => ?_) (fun A' outer s H vs Q E hr h => ?_)
  · obtain ⟨a, xs, k, rfl, _⟩ := h; rfl
  obtain ⟨a, xs, k, rfl, hx, hk, hz, q⟩ := h
  obtain ⟨x, ex⟩ := get_some (show k < xs.length by omega)
  obtain ⟨y, ey⟩ := get_some hk
  refine ⟨_, (pss_one (ps_ret (pe_op op_catK (pe_op op_catK (pe_slice sl_tupK (pv 0) po_none (po_some (pv 1))) (pe_tup (pa_cons (pe_ix ix_tup (pv 0) (pe_op op_add (pv 1) pe_int) (fun _ _ => rfl)) (pa_cons (pe_ix ix_tup (pv 0) (pv 1) (fun _ _ => rfl)) pa_nil)))) (pe_slice sl_tupK (pv 0) (po_some (pe_op op_add (pv 1) pe_int)) po_none)))), ?_⟩
  refine ⟨_, rfl, _, rfl, _, rfl, a, xs, rfl, hx, fun p1 H1 s1 h1 => ?_⟩
  rw [cut_to (show k ≤ xs.length by omega)] at h1
  refine ⟨_, rfl, _, rfl, _, _, rfl, rfl, a, xs, _, y, rfl, rfl, SqT.of (s1 _ _ hx), at_of (j := k + 1) (by omega) ey, _, rfl, _, rfl, a, xs, _, x, rfl, rfl, SqT.of (s1 _ _ hx), atI_nat ex, (by show 2 ≤ sizeLine; decide), fun p2 hp2 => ?_⟩
  have s2 := same_new (o := .tup [y, x]) hp2
  refine ⟨p1, p2, _, _, rfl, rfl, s2 _ _ h1, upd_same, ?_, fun p3 H3 s3 h3 => ?_⟩
  · rw [List.length_take]; exact Nat.le_trans (show min k xs.length + 2 ≤ 1002 by omega) (by decide)
  refine ⟨_, rfl, _, rfl, _, _, rfl, rfl, _, rfl, a, xs, rfl, s3 _ _ (s2 _ _ (s1 _ _ hx)), fun p4 H4 s4 h4 => ?_⟩
  have e2 : ((k : Int) + 2) = ((k + 2 : Nat) : Int) := by omega
  rw [e2, cut_from (show k + 2 ≤ xs.length by omega)] at h4
  refine ⟨p3, p4, _, _, rfl, rfl, s4 _ _ h3, h4, ?_, fun p5 H5 s5 h5 => ?_⟩
  · rw [List.length_append, List.length_take, List.length_drop]; exact Nat.le_trans (show min k xs.length + 2 + (xs.length - (k + 2)) ≤ 2002 by omega) (by decide)
  rw [swapAt_cut xs k x y ex ey] at h5
  exact q p5 H5 ((((s1.trans s2).trans s3).trans s4).trans s5) h5
def Up (m : Nat) (ks : List Nat) (t : Nat) : Prop := ∀ k, ks[t]? = some k → ∃ x y : Int, (wordOrd m (ks.take t))[k]? = some x ∧ (wordOrd m (ks.take t))[k + 1]? = some y ∧ x < y
structure Back (m : Nat) (ks : List Nat) (i j : Nat) : Prop where
  ij : i < j
  up : ∀ t, t < j → Up m ks t
  at_ : ∃ (k k' : Nat) (a b : Int), ks[i]? = some k ∧ ks[j]? = some k' ∧ b < a ∧ (wordOrd m (ks.take i))[k]? = some b ∧ (wordOrd m (ks.take i))[k + 1]? = some a ∧ (wordOrd m (ks.take j))[k']? = some a ∧ (wordOrd m (ks.take j))[k' + 1]? = some b
def sp_spare (K : PySem.W.Frag) (A : Adr) : Sp := fun vs H Q _ => ∃ (m : Nat) (a : Addr) (ks : List Nat), vs = [.int m, .ref a] ∧ 1 ≤ m ∧ m ≤ 5 ∧ SqL K H a (natsV ks) ∧ ks.length ≤ 30 ∧ (∀ k ∈ ks, k + 2 ≤ m) ∧ Tab A H ∧
  (∀ H', Same H H' → (∀ t, t < ks.length → Up m ks t) → Q .non H') ∧ (∀ p H' i j, Same H H' → Back m ks i j → H' p = some (.tup [.int (i : Nat), .int (j : Nat)]) → Q (.ref p) H')
def key2 (b a : Int) : List Key := [Sum.inl b, Sum.inl a]
def DInv (m : Nat) (ks : List Nat) (i : Nat) (kvs : List (List Key × V)) : Prop :=
  ∀ a b : Int, Bef (wordOrd m (ks.take i)) a b → b < a → ∃ t k : Nat, valV kvs (key2 b a) = some (.int (t : Int)) ∧ t < i ∧ ks[t]? = some k ∧ (wordOrd m (ks.take t))[k]? = some b ∧ (wordOrd m (ks.take t))[k + 1]? = some a
theorem putK_le (kvs : List (List Key × V)) (k : List Key) (v : V) : (putK kvs k v).length ≤ kvs.length + 1 := by
  unfold putK
  split
  · rw [List.length_map]; omega
  · rw [List.length_append]; simp
theorem ok_spare (T : Txt K mg A) (B : Bas mg base A) : FnOk P w K mg base CX0 6 A.spare A.fd_spare P_spare (sp_spare K A) := by
  have nd := sc_spare.nd
  have G_check_count : FnOk P w K mg base CX0 3 A.check_count A.fd_check_count P_check_count sp_count := ok_check_count T
  have G_check_word : FnOk P w K mg base CX0 5 A.check_word A.fd_check_word P_check_word (sp_checkw K A) := ok_check_word T B
  have G_swapped : FnOk P w K mg base CX0 1 A.swapped A.fd_swapped P_swapped sp_swapK := ok_swapped T
  have b_check_count := b_check_count T
  have b_check_word := b_check_word T
  have b_swapped := b_swapped T
  refine T.F_spare.okc sc_spare (fun vs H Q E h => ?_) (fun A' outer s H vs Q E hr h => ?_)
  · obtain ⟨m, a, ks, rfl, _⟩ := h; rfl
  have hu := hu_of hr
  obtain ⟨m, a, ks, rfl, m1, m2, hx, hz, hk, ht, q1, q2⟩ := h
  refine ⟨_, (pss_cons (ps_expr (pe_call (G_check_count.mono (by decide)) hr rfl T.m_check_count T.F_check_count.kp b_check_count .nil pass0 (pa_cons (pv 0) pa_nil)))
      (pss_cons (ps_expr (pe_call (G_check_word.mono (by decide)) hr rfl T.m_check_word T.F_check_word.kp b_check_word .nil pass0 (pa_cons (pv 0) (pa_cons (pv 1) pa_nil))))
      (pss_cons (ps_set (i := 2) nd rfl (Or.inl rfl) (pe_callTy (call_tupR rfl) (by rfl) T.z_tuple (by decide +kernel) (pa_cons (pe_callTy call_range1 (by rfl) T.z_range (by decide +kernel) (pa_cons (pv 0) pa_nil)) pa_nil)))
      (pss_cons (ps_set (i := 3) nd rfl (Or.inl rfl) pe_dnewT)
      (pss_cons (ps_for PassesOwn.never rfl (pi_enum (by rfl) T.z_enumerate (pa_cons (pv 1) pa_nil)) (pg_tup (by rfl) (pgs_cons (pg_name (i := 4) nd rfl (Or.inl rfl)) (pgs_cons (pg_name (i := 5) nd rfl (Or.inl rfl)) pgs_nil))) (pss_cons (ps_set (i := 6) nd rfl (Or.inl rfl) (pe_tup (pa_cons (pe_ix ix_tup (pv 2) (pv 5) (fun _ _ => rfl)) (pa_cons (pe_ix ix_tup (pv 2) (pe_op op_add (pv 5) pe_int) (fun _ _ => rfl)) pa_nil))))
        (pss_cons (ps_if (pt_cmpR op_gt (pe_ix ix_tup (pv 6) pe_int (fun _ _ => rfl)) (pe_ix ix_tup (pv 6) pe_int (fun _ _ => rfl)) (nomark _)) (pss_one (ps_ret (pe_tup (pa_cons (pe_dget hu (pv 3) (pe_call (G_swapped.mono (by decide)) hr rfl T.m_swapped T.F_swapped.kp b_swapped .nil pass0 (pa_cons (pv 6) (pa_cons pe_int pa_nil))) (fun _ _ => rfl)) (pa_cons (pv 4) pa_nil))))) pss_nil)
        (pss_cons (ps_dput hu (pv 3) (pv 6) (pv 4) rfl)
        (pss_one (ps_set (i := 2) nd rfl (Or.inl rfl) (pe_call (G_swapped.mono (by decide)) hr rfl T.m_swapped T.F_swapped.kp b_swapped .nil pass0 (pa_cons (pv 2) (pa_cons (pv 5) pa_nil)))))))))
      (pss_one (ps_ret pe_non))))))), ?_⟩
  refine ⟨_, rfl, (m : Int), rfl, by omega, by omega, ?_⟩
  refine ⟨_, rfl, _, rfl, (m : Int), a, natsV ks, rfl, hx, by rw [natsV_len]; exact hz, fun x hx' => ?_, ht, ?_⟩
  · obtain ⟨k, hk', rfl⟩ := List.mem_map.mp hx'
    exact ⟨k, rfl, by omega, by have := hk k hk'; omega⟩
  refine ⟨_, rfl, (m : Int), rfl, fun p1 hp1 => ?_⟩
  have s1 := same_new (o := .rng 0 (m : Int)) hp1
  refine ⟨p1, 0, (m : Int), rfl, upd_same, ⟨by omega, by omega, by omega, by omega⟩, by omega, fun p2 hp2 => ?_⟩
  have s2 := s1.trans (same_new (o := .tup (rngV 0 (m : Int))) hp2)
  intro d hd
  have hd0 : H d = none := s2.free hd
  have s3 := s2.trans (same_new (o := .dT []) hd)
  have npd : p2 ≠ d := ne_of_none upd_same hd
  refine ⟨_, rfl, a, _, rfl, s3.seq hx, for_enum (K := K) (a := a) (xs := natsV ks) (fun i σ H2 => ∃ (p : Addr) (u v z : Option V) (kvs : List (List Key × V)), σ = [some (.int m), some (.ref a), some (.ref p), some (.ref d), u, v, z] ∧ Same H H2 ∧ H2 p = some (.tup (intsV (wordOrd m (ks.take i)))) ∧ H2 d = some (.dT kvs) ∧ kvs.length ≤ i ∧ i ≤ ks.length ∧ DInv m ks i kvs ∧ ∀ t, t < i → Up m ks t)
    ⟨p2, none, none, none, [], rfl, s3, ?_, upd_same, Nat.le_refl _, Nat.zero_le _, ?_, fun t h => absurd h (by omega)⟩ (fun i σ H2 _ ⟨_, _, _, _, _, _, s4, _⟩ => s4.seq hx) ?_ ?_⟩
  · rw [upd_ne npd, upd_same, List.take_zero, wordOrd_nil, ← rng_ints]
  · intro x y hb hlt
    rw [List.take_zero, wordOrd_nil] at hb
    have := plain_bef hb
    omega
  · rintro i x σ H2 Tt hi ⟨p, u, v, z, kvs, rfl, s4, hp, hdd, hkl, hil, dinv, hup⟩ hT
    obtain ⟨k, ek, rfl⟩ := natsV_get hi
    have hkm := hk k (List.mem_of_getElem? ek)
    have hlen : (wordOrd m (ks.take i)).length = m := wordOrd_len _ _
    obtain ⟨b, eb⟩ := get_some (show k < (wordOrd m (ks.take i)).length by omega)
    obtain ⟨c, ec⟩ := get_some (show k + 1 < (wordOrd m (ks.take i)).length by omega)
    have s5 := s4.trans (same_new (o := .tup [.int (i : Nat), .int (k : Nat)]) hT)
    have hp5 := same_new (o := .tup [.int (i : Nat), .int (k : Nat)]) hT _ _ hp
    have hd5 := same_new (o := .tup [.int (i : Nat), .int (k : Nat)]) hT _ _ hdd
    refine ⟨Tt, _, rfl, SqT.of upd_same, rfl, _, _, rfl, _, _, rfl, rfl, ?_⟩
    refine ⟨_, rfl, _, rfl, p, _, _, .int b, rfl, rfl, SqT.of hp5, atI_nat (get_intsV eb), _, rfl, _, rfl, _, _, rfl, rfl, p, _, _, .int c, rfl, rfl, SqT.of hp5, at_of (j := k + 1) (by omega) (get_intsV ec), (by show 2 ≤ sizeLine; decide), fun pr hpr => ?_⟩
    have s6 := s5.trans (same_new (o := .tup [.int b, .int c]) hpr)
    have hp6 := same_new (o := .tup [.int b, .int c]) hpr _ _ hp5
    have hd6 := same_new (o := .tup [.int b, .int c]) hpr _ _ hd5
    refine ⟨_, rfl, pr, _, _, .int b, rfl, rfl, SqT.of upd_same, atI_nat (j := 0) rfl, _, rfl, pr, _, _, .int c, rfl, rfl, SqT.of upd_same, atI_nat (j := 1) rfl, _, _, rfl, rfl, _, rfl, ?_⟩
    refine ite2 (fun hgt => ?_) (fun hle => ?_)
    · have hgt : c < b := by simpa using hgt
      obtain ⟨t, k0, e1, e2, e3, e4, e5⟩ := dinv b c ⟨k, k + 1, by omega, eb, ec⟩ hgt
      refine ⟨_, rfl, _, rfl, pr, _, 0, rfl, upd_same, by show 0 + 1 < 2; decide, by show 2 ≤ 1000; decide, fun p7 H7 s7 h7 => ?_⟩
      have h7 : H7 p7 = some (.tup ((key2 c b).map kV)) := h7
      refine ⟨d, .int (t : Int), rfl, ?_, _, rfl, (by show 2 ≤ sizeLine; decide), fun p8 hp8 => ?_⟩
      · have := DGet.t (s7 _ _ hd6) h7
        rw [e1] at this
        exact this
      · exact q2 p8 _ t i ((s6.trans s7).trans (same_new hp8)) ⟨e2, hup, k0, k, b, c, e3, ek, hgt, e4, e5, eb, ec⟩ upd_same
    · have hne : b ≠ c := fun e => by
        have nd2 : (wordOrd m (ks.take i)).Nodup := fold_nodup (plain_nodup m) _
        subst e
        have := (List.getElem?_inj (List.getElem?_eq_some_iff.mp eb).1 nd2).mp (eb.trans ec.symm)
        omega
      have hlt : b < c := by
        have : ¬ c < b := by simpa using hle
        omega
      refine ⟨_, rfl, _, rfl, _, rfl, d, _, rfl, DPut.t (k := key2 b c) hd6 upd_same (by exact small1000 (by omega)), ?_⟩
      have ndp : p ≠ d := ne_of hp6 hd6 (by intro z; cases z)
      refine ⟨_, rfl, _, rfl, p, _, k, rfl, by rw [upd_ne ndp]; exact hp6, by rw [intsV_len]; omega, by rw [intsV_len]; omega, fun p9 H9 s9 h9 => ?_⟩
      refine ⟨p9, _, _, _, putK kvs (key2 b c) (.int (i : Nat)), rfl, (same_upd s6 hd0).trans s9, ?_, s9 _ _ upd_same, ?_, ?_, ?_, ?_⟩
      · rw [wordOrd_step ek, ← intsV_swap]; exact h9
      · exact Nat.le_trans (putK_le _ _ _) (by omega)
      · have := (List.getElem?_eq_some_iff.mp ek).1; omega
      · intro a' b' hb hlt'
        rw [wordOrd_step ek] at hb
        rw [L2.valV_put]
        rcases bef_swap _ k b c a' b' eb ec hb with h | ⟨rfl, rfl⟩
        · obtain ⟨t, k0, e1, e2, e3, e4, e5⟩ := dinv a' b' h hlt'
          by_cases e : key2 b' a' = key2 b c
          · rw [if_pos e]
            injection e with g1 g2
            injection g1 with g1
            injection g2 with g2 _
            injection g2 with g2
            subst g1 g2
            exact ⟨i, k, rfl, by omega, ek, eb, ec⟩
          · rw [if_neg e]
            exact ⟨t, k0, e1, by omega, e3, e4, e5⟩
        · rw [if_pos rfl]
          exact ⟨i, k, rfl, by omega, ek, eb, ec⟩
      · intro t htl
        rcases Nat.lt_or_ge t i with h | h
        · exact hup t h
        · have : t = i := by omega
          subst this
          intro k1 ek1
          rw [ek] at ek1; cases ek1
          exact ⟨b, c, eb, ec, hlt⟩
  · rintro σ H2 ⟨p, u, v, z, kvs, rfl, s4, hp, hdd, hkl, hil, dinv, hup⟩
    rw [natsV_len] at hup
    exact q1 H2 s4 hup
theorem wordOk {ks : List Nat} {m : Nat} (hk : ∀ k ∈ ks, k + 2 ≤ m) : ∀ x ∈ natsV ks, ∃ i : Int, x = .int i ∧ 0 ≤ i ∧ i ≤ (m : Int) - 2 := fun x hx => by
  unfold natsV at hx
  obtain ⟨k, hk1, rfl⟩ := List.mem_map.mp hx
  have := hk k hk1
  exact ⟨(k : Int), rfl, by omega, by omega⟩
def sp_word_order (K : PySem.W.Frag) (A : Adr) : Sp := fun vs H Q _ => ∃ (m : Nat) (a : Addr) (ks : List Nat), vs = [.int (m : Nat), .ref a] ∧ 1 ≤ m ∧ m ≤ 5 ∧ SqL K H a (natsV ks) ∧ ks.length ≤ 30 ∧ (∀ k ∈ ks, k + 2 ≤ m) ∧ Tab A H ∧ ∀ p H', Same H H' → H' p = some (.tup (intsV (wordOrd m ks))) → Q (.ref p) H'
theorem ok_word_order (T : Txt K mg A) (B : Bas mg base A) : FnOk P w K mg base CX0 6 A.word_order A.fd_word_order P_word_order (sp_word_order K A) := by
  have nd := sc_word_order.nd
  have G_check_count : FnOk P w K mg base (CXq Bare) 3 A.check_count A.fd_check_count P_check_count sp_count := ok_check_count T
  have G_check_word : FnOk P w K mg base CX0 5 A.check_word A.fd_check_word P_check_word (sp_checkw K A) := ok_check_word T B
  have G_swapped : FnOk P w K mg base (CXq Bare) 1 A.swapped A.fd_swapped P_swapped sp_swapK := ok_swapped T
  have b_check_count := b_check_count T
  have b_check_word := b_check_word T
  have b_swapped := b_swapped T
  refine T.F_word_order.okc sc_word_order (fun vs H Q E h => ?_) (fun A' outer s H vs Q E hr h => ?_)
  · obtain ⟨m, a, ks, rfl, _⟩ := h; rfl
  obtain ⟨m, a, ks, rfl, m1, m2, ha, hz, hk, ht, q⟩ := h
  refine ⟨_, (pss_cons (ps_expr (pe_call (G_check_count.mono (by decide)) hr rfl T.m_check_count T.F_check_count.kp b_check_count .nil pass0 (pa_cons (pv 0) pa_nil)))
      (pss_cons (ps_expr (pe_call (G_check_word.mono (by decide)) hr rfl T.m_check_word T.F_check_word.kp b_check_word .nil pass0 (pa_cons (pv 0) (pa_cons (pv 1) pa_nil))))
      (pss_cons (ps_set (i := 2) nd rfl (Or.inl rfl) (pe_callTy (call_tupR rfl) (by rfl) T.z_tuple (by decide +kernel) (pa_cons (pe_callTy call_range1 (by rfl) T.z_range (by decide +kernel) (pa_cons (pv 0) pa_nil)) pa_nil)))
      (pss_cons (ps_for PassesOwn.never rfl (pi_list (pv 1)) (pg_name (i := 3) nd rfl (Or.inl rfl)) (pss_one (ps_set (i := 2) nd rfl (Or.inl rfl) (pe_call (G_swapped.mono (by decide)) hr rfl T.m_swapped T.F_swapped.kp b_swapped .nil pass0 (pa_cons (pv 2) (pa_cons (pv 3) pa_nil))))))
      (pss_one (ps_ret (pv 2))))))), ?_⟩
  refine ⟨_, rfl, (m : Int), rfl, by omega, by omega, ?_⟩
  refine ⟨_, rfl, _, rfl, (m : Int), a, natsV ks, rfl, ha, by rw [natsV_len]; exact hz, wordOk hk, ht, ?_⟩
  refine ⟨_, rfl, (m : Int), rfl, fun p1 hp1 => ?_⟩
  have s1 := same_new (o := .rng 0 (m : Int)) hp1
  refine ⟨p1, 0, (m : Int), rfl, upd_same, ⟨by omega, by omega, by omega, by omega⟩, by omega, fun p2 hp2 => ?_⟩
  have s12 := s1.trans (same_new (o := .tup (rngV 0 (m : Int))) hp2)
  refine ⟨_, rfl, a, rfl, ⟨_, s12.seqL ha⟩, for_list (K := K) (a := a) (xs := natsV ks) (fun i σ H2 => ∃ (p : Addr) (v : Option V), σ = [some (.int m), some (.ref a), some (.ref p), v] ∧ Same H H2 ∧ H2 p = some (.tup (intsV (wordOrd m (ks.take i)))))
    ⟨p2, none, rfl, s12, by rw [List.take_zero, wordOrd_nil, ← rng_ints]; exact upd_same⟩ (fun i σ H2 _ ⟨_, _, _, s3, _⟩ => s3.seqL ha) ?_ ?_⟩
  · rintro i x σ H2 hi ⟨p, v, rfl, s3, hp⟩
    obtain ⟨k, ek, rfl⟩ := natsV_get hi
    have hkm := hk k (List.mem_of_getElem? ek)
    refine ⟨_, rfl, _, rfl, p, _, k, rfl, hp, by rw [intsV_len, wordOrd_len]; omega, by rw [intsV_len, wordOrd_len]; omega, fun p3 H3 s4 hp4 => ?_⟩
    exact ⟨p3, _, rfl, s3.trans s4, by rw [hp4, wordOrd_step ek, intsV_swap]⟩
  · rintro σ H2 ⟨p, v, rfl, s3, hp⟩
    rw [natsV_len, List.take_length] at hp
    exact ⟨_, rfl, q p H2 s3 hp⟩
def SameB (p : Addr) (H H' : Hp) : Prop := ∀ b o, b ≠ p → H b = some o → H' b = some o
abbrev plain (m : Nat) : List Int := (List.range m).map fun (i : Nat) => (i : Int)
theorem log_small {z : Int} (h0 : 0 < z) (h1 : z < 1000) : z.natAbs.log2 < 9000 := by
  have : z.natAbs.log2 < 10 := (Nat.log2_lt (by omega)).mpr (by omega)
  omega
def sp_order : Sp := fun vs H Q _ => ∃ (p : Addr) (n : Int) (m : Nat), vs = [.ref p, .int m] ∧ H p = some (.lst [.int n]) ∧ 1 ≤ m ∧ m ≤ 5 ∧
  ∀ (ns : List Int) (q : Addr) (n' : Int) (H' : Hp), ns.Perm (plain m) → H' q = some (.tup (intsV ns)) → H' p = some (.lst [.int n']) → SameB p H H' → Q (.ref q) H'
theorem ok_order (T : Txt K mg A) : FnOk P w K mg base (CXq gq) 2 A.order A.fd_order P_order sp_order := by
  have nd := sc_order.nd
  have G_take : FnOk P w K mg base (CXq gq) 1 A.take A.fd_take P_take sp_take := ok_take T
  have b_take := b_take T
  refine T.F_order.okc sc_order (fun vs H Q E h => ?_) (fun A' outer s H vs Q E hr h => ?_)
  · obtain ⟨p, n, m, rfl, _⟩ := h; rfl
  obtain ⟨p, n, m, rfl, hp, m1, m2, q⟩ := h
  refine ⟨_, (pss_cons (ps_set (i := 2) nd rfl (Or.inl rfl) (pe_callTy (call_listR rfl) (by rfl) T.z_list (by decide +kernel) (pa_cons (pe_callTy call_range1 (by rfl) T.z_range (by decide +kernel) (pa_cons (pv 1) pa_nil)) pa_nil)))
      (pss_cons (ps_set (i := 3) nd rfl (Or.inl rfl) (pe_lst pa_nil))
      (pss_cons (ps_for PassesOwn.never rfl (pi_range1 (by rfl) T.z_range (pa_cons (pv 1) pa_nil)) (pg_name (i := 4) nd rfl (Or.inl rfl)) (pss_one (ps_expr (pe_bm PySem.F.plainAttrs_list PySem.F.slot_list_append PySem.F.type_list_append mt_append (pv 3) (pa_cons (pe_bm PySem.F.plainAttrs_list PySem.F.slot_list_pop PySem.F.type_list_pop mt_popAt (pv 2) (pa_cons (pe_call (G_take.mono (by decide)) hr rfl T.m_take T.F_take.kp b_take .nil pass0 (pa_cons (pv 0) (pa_cons (pe_op op_sub (pv 1) (pv 4)) pa_nil))) pa_nil)) pa_nil)))))
      (pss_one (ps_ret (pe_callTy call_tuple_of (by rfl) T.z_tuple (by decide +kernel) (pa_cons (pv 3) pa_nil))))))), ?_⟩
  refine ⟨_, rfl, (m : Int), rfl, fun p1 hp1 => ?_⟩
  have s1 := same_new (o := .rng 0 (m : Int)) hp1
  refine ⟨p1, 0, (m : Int), rfl, upd_same, ⟨by omega, by omega, by omega, by omega⟩, by omega, fun l hl => ?_⟩
  have hl0 : H l = none := s1.free hl
  have s2 := s1.trans (same_new (o := .lst (rngV 0 (m : Int))) hl)
  refine ⟨(by show 0 ≤ sizeLine; decide), fun f hf => ?_⟩
  have hf0 : H f = none := s2.free hf
  have s3 := s2.trans (same_new (o := .lst []) hf)
  have nlf : l ≠ f := ne_of_none upd_same hf
  have npl : p ≠ l := ne_of_none hp hl0
  have npf : p ≠ f := ne_of_none hp hf0
  refine ⟨_, rfl, (m : Int), rfl, by omega, by omega, ?_⟩
  have en : ((m : Int)).toNat = m := by omega
  rw [en]
  refine for_range (lo := 0) (n := m) (fun i σ H2 => ∃ (ls fs : List Int) (v : Option V) (n' : Int), σ = [some (.ref p), some (.int m), some (.ref l), some (.ref f), v] ∧ i ≤ m ∧ H2 p = some (.lst [.int n']) ∧ H2 l = some (.lst (intsV ls)) ∧ H2 f = some (.lst (intsV fs)) ∧ ls.length + i = m ∧ fs.length = i ∧ (fs ++ ls).Perm (plain m) ∧ SameB p H H2)
    ⟨plain m, [], none, n, rfl, Nat.zero_le _, s3 _ _ hp, ?_, upd_same, by simp, rfl, .refl _, fun b o _ e => s3 b o e⟩ ?_ ?_
  · rw [upd_ne nlf, upd_same, rng_ints]
  · rintro i σ H2 hi ⟨ls, fs, v, n', rfl, him, hp2, hl2, hf2, e1, e2, pm, sb⟩
    have ez : (m : Int) - (0 + (i : Int)) = ((m - i : Nat) : Int) := by omega
    refine ⟨_, rfl, .inl ⟨rfl, _, SqL.of hf2⟩, _, rfl, .inl ⟨rfl, _, SqL.of hl2⟩, _, rfl, _, rfl, _, rfl, _, _, rfl, rfl, p, n', (m : Int) - (0 + (i : Int)), rfl, hp2, by omega, log_small (by omega) (by omega), fun d n2 d0 d1 => ?_⟩
    obtain ⟨y, ey⟩ := get_some (show d.toNat < ls.length by omega)
    refine ⟨l, intsV ls, d, d.toNat, .int y, rfl, rfl, by rw [upd_ne npl.symm]; exact hl2, by omega, by omega, seqIx d0 (by rw [intsV_len]; omega), get_intsV ey, ?_⟩
    refine ⟨f, intsV fs, .int y, rfl, rfl, by rw [upd_ne nlf.symm, upd_ne npf.symm]; exact hf2, by rw [intsV_len]; exact small1000 (by omega), ?_⟩
    refine ⟨ls.eraseIdx d.toNat, fs ++ [y], _, n2, rfl, by omega, ?_, ?_, ?_, ?_, by simp [e2], ?_, ?_⟩
    · rw [upd_ne npf, upd_ne npl, upd_same]
    · rw [upd_ne nlf, upd_same]
      unfold intsV
      rw [map_erase]
    · rw [upd_same]
      unfold intsV
      rw [List.map_append]; rfl
    · have := erase_len (ls := ls) (k := d.toNat) (by omega); omega
    · refine List.Perm.trans ?_ pm
      rw [List.append_assoc]
      exact (erase_perm ls d.toNat y ey).append_left fs
    · intro b o hb e
      rw [upd_ne (ne_of_none e hf0), upd_ne (ne_of_none e hl0), upd_ne hb]
      exact sb b o hb e
  · rintro σ H2 ⟨ls, fs, v, n', rfl, him, hp2, hl2, hf2, e1, e2, pm, sb⟩
    have hls : ls = [] := List.length_eq_zero_iff.mp (by omega)
    subst hls
    rw [List.append_nil] at pm
    refine ⟨_, rfl, f, _, rfl, .inl ⟨SqL.of hf2, fun q' hq' => ?_⟩⟩
    have s9 := same_new (o := .tup (intsV fs)) hq'
    exact q fs q' n' _ pm upd_same (s9 _ _ hp2) fun b o hb e => s9 b o (sb b o hb e)
end
end K18

set_option Elab.async false
set_option linter.all false
set_option maxRecDepth 100000
set_option maxHeartbeats 4000000
namespace K18
open PySem L2
section
variable {P : Program} {w : World} {K : PySem.W.Frag} {mg : Str → Option Value} {base : Heap} {A : Adr} {gq : Array GenState → Drawn → Prop}
theorem get_natsV {ks : List Nat} {i k : Nat} (h : ks[i]? = some k) : (natsV ks)[i]? = some (.int (k : Int)) := by
  unfold natsV
  rw [List.getElem?_map, h]; rfl
theorem nat_get {ks : List Nat} {i : Nat} (h : i < ks.length) : ∃ k, ks[i]? = some k ∧ ks.getD i 0 = k := ⟨ks[i], List.getElem?_eq_getElem h, by rw [List.getD_eq_getElem?_getD, List.getElem?_eq_getElem h]; rfl⟩
theorem cat_nats (a b : List Nat) : natsV a ++ natsV b = natsV (a ++ b) := by unfold natsV; rw [List.map_append]
def sp_moved (K : PySem.W.Frag) : Sp := fun vs H Q _ => ∃ (a : Addr) (ks : List Nat), vs = [.ref a] ∧ SqL K H a (natsV ks) ∧ ks.length ≤ 30 ∧ ∀ (f : Addr) (ps : List Addr) (H' : Hp), Same H H' → H f = none → H' f = some (.lst (ps.map V.ref)) → Wds H H' f ps (mvL ks) → Q (.ref f) H'
theorem ok_moved (T : Txt K mg A) : FnOk P w K mg base (CXq gq) 1 A.moved A.fd_moved P_moved (sp_moved K) := by
  have nd := sc_moved.nd
  refine T.F_moved.okc sc_moved (fun vs H Q E h => ?_) (fun A' outer s H vs Q E hr h => ?_)
  · obtain ⟨a, ks, rfl, _⟩ := h; rfl
  obtain ⟨a, ks, rfl, ha, hz, q⟩ := h
  refine ⟨_, (pss_cons (ps_set (i := 1) nd rfl (Or.inl rfl) (pe_lst pa_nil))
      (pss_cons (ps_for PassesOwn.never rfl (pi_range1 (by rfl) T.z_range (pa_cons (pe_op op_sub (pe_callB call_len (by rfl) T.z_len PySem.boot_len (pa_cons (pv 0) pa_nil)) pe_int) pa_nil)) (pg_name (i := 2) nd rfl (Or.inl rfl)) (pss_cons (ps_par (i := 3) (j := 4) (by rfl) nd rfl rfl (by decide) rfl rfl (pa_cons (pe_ix ix_list (pv 0) (pv 2) (fun _ _ => rfl)) (pa_cons (pe_ix ix_list (pv 0) (pe_op op_add (pv 2) pe_int) (fun _ _ => rfl)) pa_nil)) (by rfl))
        (pss_cons (ps_if (pt_cmpR op_ge (pe_callB call_abs (by rfl) T.z_abs (by decide +kernel) (pa_cons (pe_op op_sub (pv 3) (pv 4)) pa_nil)) pe_int (nomark _)) (pss_one (ps_expr (pe_bm PySem.F.plainAttrs_list PySem.F.slot_list_append PySem.F.type_list_append mt_append (pv 1) (pa_cons (pe_op op_cat (pe_op op_cat (pe_slice sl_list (pv 0) po_none (po_some (pv 2))) (pe_lst (pa_cons (pv 4) (pa_cons (pv 3) pa_nil)))) (pe_slice sl_list (pv 0) (po_some (pe_op op_add (pv 2) pe_int)) po_none)) pa_nil)))) pss_nil)
        (pss_one (ps_if (PW.pt (pw_and (pt_cmpR op_eq (pe_callB call_abs (by rfl) T.z_abs (by decide +kernel) (pa_cons (pe_op op_sub (pv 3) (pv 4)) pa_nil)) pe_int (nomark _)) (pw_and1 (pt_cmpR (op_eqD hr.units) (pe_slice sl_list (pv 0) (po_some (pe_op op_add (pv 2) pe_int)) (po_some (pe_op op_add (pv 2) pe_int))) (pe_lst (pa_cons (pv 3) pa_nil)) (nomark _))))) (pss_one (ps_expr (pe_bm PySem.F.plainAttrs_list PySem.F.slot_list_append PySem.F.type_list_append mt_append (pv 1) (pa_cons (pe_op op_cat (pe_op op_cat (pe_slice sl_list (pv 0) po_none (po_some (pv 2))) (pe_lst (pa_cons (pv 4) (pa_cons (pv 3) (pa_cons (pv 4) pa_nil))))) (pe_slice sl_list (pv 0) (po_some (pe_op op_add (pv 2) pe_int)) po_none)) pa_nil)))) pss_nil)))))
      (pss_one (ps_ret (pv 1))))), ?_⟩
  refine ⟨(by show 0 ≤ sizeLine; decide), fun f hf => ?_⟩
  have hf0 : H f = none := hf
  have s1 := same_new (o := .lst []) hf
  refine ⟨_, rfl, .ref a, ks.length, rfl, .inl ⟨_, s1.seqL ha, (natsV_len ks).symm⟩, _, _, rfl, rfl, _, rfl, by omega, by omega, ?_⟩
  have en : ((ks.length : Nat) - 1 : Int).toNat = ks.length - 1 := by omega
  show ∃ W : Nat → Nat → L2.St → Hp → Prop, _
  rw [en]
  refine for_range (lo := 0) (n := ks.length - 1) (fun i σ H2 => ∃ (ps : List Addr) (u v w : Option V), σ = [some (.ref a), some (.ref f), u, v, w] ∧ Same H H2 ∧ H2 f = some (.lst (ps.map V.ref)) ∧ ps.length ≤ i ∧ Wds H H2 f ps (mvN ks i))
    ⟨[], none, none, none, rfl, s1, upd_same, Nat.le_refl _, .nil⟩ ?_ ?_
  · rintro i σ H2 hi ⟨ps, u, v, w, rfl, s2, hf2, lp, wd⟩
    obtain ⟨x, ex, gx⟩ := nat_get (show i < ks.length by omega)
    obtain ⟨y, ey, gy⟩ := nat_get (show i + 1 < ks.length by omega)
    have e0 : (0 : Int) + (i : Int) = (i : Int) := by omega
    refine ⟨_, rfl, _, rfl, a, _, _, .int (x : Int), rfl, rfl, s2.seqL ha, at_of (j := i) (by omega) (get_natsV ex), _, rfl, _, rfl, _, _, rfl, rfl, a, _, _, .int (y : Int), rfl, rfl, s2.seqL ha, at_of (j := i + 1) (by omega) (get_natsV ey), _, _, rfl, ?_⟩
    have hA : farB x y = decide ((2 : Int) ≤ if (x : Int) - (y : Int) < 0 then -((x : Int) - (y : Int)) else (x : Int) - (y : Int)) := rfl
    have hB : nearB x y = decide ((if (x : Int) - (y : Int) < 0 then -((x : Int) - (y : Int)) else (x : Int) - (y : Int)) = 1) := rfl
    refine ⟨_, rfl, _, rfl, _, _, rfl, rfl, _, rfl, _, _, rfl, rfl, _, rfl, ?_⟩
    apply join_st (G := fun σ Hx => ∃ (ps : List Addr), σ = [some (.ref a), some (.ref f), some (.int (0 + (i : Int))), some (.int (x : Int)), some (.int (y : Int))] ∧ Same H Hx ∧ Hx f = some (.lst (ps.map V.ref)) ∧ ps.length ≤ i + 1 ∧ ps.length ≤ (mvN ks i ++ mvA ks i).length ∧ Wds H Hx f ps (mvN ks i ++ mvA ks i))
    · intro tail
      refine ite2 (fun hgt => ?_) (fun hle => ?_)
      · have hgt : farB x y = true := hgt
        have eA : mvA ks i = [ks.take i ++ [y, x] ++ ks.drop (i + 2)] := by unfold mvA; rw [gx, gy, if_pos hgt]
        refine ⟨_, rfl, .inl ⟨rfl, _, SqL.of hf2⟩, _, rfl, _, rfl, _, rfl, a, _, rfl, s2.seqL ha, fun l1 hl1 => ?_⟩
        rw [cut_toZ i e0 (by rw [natsV_len]; omega), natsV_takeW]
        have t1 := same_new (o := .lst (natsV (ks.take i))) hl1
        have h1 : (upd H2 l1 (.lst (natsV (ks.take i)))) l1 = some (.lst (natsV (ks.take i))) := upd_same
        generalize upd H2 l1 (.lst (natsV (ks.take i))) = X1 at t1 h1 ⊢
        refine ⟨_, rfl, _, rfl, (by show 2 ≤ sizeLine; decide), fun l2 hl2 => ?_⟩
        have t2 := t1.trans (same_new (o := .lst [.int (y : Int), .int (x : Int)]) hl2)
        have h2 : (upd X1 l2 (.lst [.int (y : Int), .int (x : Int)])) l2 = some (.lst (natsV [y, x])) := upd_same
        have h1' := same_new (o := .lst [.int (y : Int), .int (x : Int)]) hl2 _ _ h1
        refine ⟨l1, l2, natsV (ks.take i), natsV [y, x], rfl, rfl, h1', h2, le_size (by rw [natsV_len, natsV_len, List.length_take]; show _ + 2 ≤ _; omega), fun l3 hl3 => ?_⟩
        rw [cat_nats]
        have t3 := t2.trans (same_new (o := .lst (natsV (ks.take i ++ [y, x]))) hl3)
        have h3 : (upd (upd X1 l2 (.lst [.int (y : Int), .int (x : Int)])) l3 (.lst (natsV (ks.take i ++ [y, x])))) l3 = some (.lst (natsV (ks.take i ++ [y, x]))) := upd_same
        generalize upd (upd X1 l2 (.lst [.int (y : Int), .int (x : Int)])) l3 (.lst (natsV (ks.take i ++ [y, x]))) = X3 at t3 h3 ⊢
        refine ⟨_, rfl, _, rfl, _, _, rfl, rfl, _, rfl, a, _, rfl, (s2.trans t3).seqL ha, fun l4 hl4 => ?_⟩
        rw [cut_fromZ (i + 2) (by omega) (by rw [natsV_len]; omega), natsV_dropW]
        have h3' := same_new (o := .lst (natsV (ks.drop (i + 2)))) hl4 _ _ h3
        have t4 := t3.trans (same_new (o := .lst (natsV (ks.drop (i + 2)))) hl4)
        have h4 : (upd X3 l4 (.lst (natsV (ks.drop (i + 2))))) l4 = some (.lst (natsV (ks.drop (i + 2)))) := upd_same
        refine ⟨l3, l4, _, _, rfl, rfl, h3', h4, le_size (by rw [natsV_len, natsV_len, List.length_append, List.length_take, List.length_drop]; show _ + 2 + _ ≤ _; omega), fun l5 hl5 => ?_⟩
        rw [cat_nats]
        have t5 := t4.trans (same_new (o := .lst (natsV (ks.take i ++ [y, x] ++ ks.drop (i + 2)))) hl5)
        have h5 : (upd (upd X3 l4 (.lst (natsV (ks.drop (i + 2))))) l5 (.lst (natsV (ks.take i ++ [y, x] ++ ks.drop (i + 2))))) l5 = some (.lst (natsV (ks.take i ++ [y, x] ++ ks.drop (i + 2)))) := upd_same
        have hX5 : H2 l5 = none := t4.free hl5
        generalize upd (upd X3 l4 (.lst (natsV (ks.drop (i + 2))))) l5 (.lst (natsV (ks.take i ++ [y, x] ++ ks.drop (i + 2)))) = X5 at t5 h5 ⊢
        have nf5 : l5 ≠ f := (ne_of_none hf2 hX5).symm
        refine ⟨f, _, _, rfl, rfl, t5 _ _ hf2, by rw [List.length_map]; exact small1000 (by omega), ?_⟩
        refine tail _ _ ⟨ps ++ [l5], rfl, same_upd (s2.trans t5) hf0, by rw [upd_same, List.map_append]; rfl, by rw [List.length_append]; show _ + 1 ≤ _; omega, by rw [eA, List.length_append, List.length_append, wd.len]; exact Nat.le_refl _, ?_⟩
        rw [eA]
        exact wd.snoc (fun q o nq e => by rw [upd_ne nq]; exact t5 _ _ e) (s2.free hX5) hX5 nf5 (by rw [upd_ne nf5]; exact h5)
      · have hle : farB x y = false := by
          cases h : farB x y
          · rfl
          · exact absurd h hle
        have eA : mvA ks i = [] := by unfold mvA; rw [gx, gy, hle]; rfl
        exact tail _ _ ⟨ps, rfl, s2, hf2, by omega, by rw [eA, List.append_nil, wd.len]; exact Nat.le_refl _, by rw [eA, List.append_nil]; exact wd⟩
    rintro σ HX ⟨ps, rfl, sX, hfX, lp, lpA, wd⟩
    have ll := mvN_len ks i
    have lA : (mvA ks i).length ≤ 1 := by unfold mvA; split <;> simp
    rw [List.length_append] at lpA
    refine ⟨_, rfl, _, rfl, _, _, rfl, rfl, _, rfl, rfl, _, rfl, ?_⟩
    refine ite2 (fun hgt => ?_) (fun hle => ?_)
    · have hgt : nearB x y = true := by
        rw [hB]
        have := of_decide_eq_true hgt
        injection this with this
        exact decide_eq_true this
      refine ⟨_, rfl, _, rfl, _, _, rfl, rfl, _, rfl, _, rfl, _, _, rfl, rfl, _, rfl, a, _, rfl, sX.seqL ha, fun c hc => ?_⟩
      rw [cut_one (i + 2) (by omega) (by omega), natsV_dropW, natsV_takeW]
      have tc := same_new (o := .lst (natsV ((ks.drop (i + 2)).take 1))) hc
      refine ⟨_, rfl, (by show 1 ≤ sizeLine; decide), fun d hd => ?_⟩
      have td := same_new (o := .lst [.int (x : Int)]) hd
      refine ⟨_, _, dp_wd (ks := (ks.drop (i + 2)).take 1) (SqL.of (td _ _ upd_same)), dp_wd (ks := [x]) (SqL.of upd_same), shaped_lstD _, shaped_lstD _, _, rfl, ?_⟩
      have ev : PyData.eqv (wdD ((ks.drop (i + 2)).take 1)) (wdD [x]) = decide (ks[i + 2]? = some x) := by
        unfold wdD; rw [eqv_lst]; exact one_at ks (i + 2) x
      rw [ev]
      have tcd := tc.trans td
      have hfY := tcd _ _ hfX
      have wdY := wd.mono fun p o _ e => tcd p o e
      have sY := sX.trans tcd
      generalize upd (upd HX c (.lst (natsV ((ks.drop (i + 2)).take 1)))) d (.lst [.int (x : Int)]) = HY at hfY wdY sY ⊢
      clear wd sX hfX tc td tcd hc hd
      refine ite2 (fun h2 => ?_) (fun h2 => ?_)
      · have h2' : ks[i + 2]? = some x := of_decide_eq_true h2
        have hl2 : i + 2 < ks.length := (List.getElem?_eq_some_iff.mp h2').1
        have eB : mvB ks i = [ks.take i ++ [y, x, y] ++ ks.drop (i + 3)] := by unfold mvB; rw [gx, gy, hgt, h2, Bool.true_and, if_pos rfl]
        have eA : mvA ks i = [] := by
          rcases mvA_B (ks := ks) (i := i) with h | h
          · exact h
          · rw [eB] at h; cases h
        rw [eA, List.append_nil] at wdY
        rw [eA] at lpA
        refine ⟨_, rfl, .inl ⟨rfl, _, SqL.of hfY⟩, _, rfl, _, rfl, _, rfl, a, _, rfl, sY.seqL ha, fun l1 hl1 => ?_⟩
        rw [cut_toZ i e0 (by rw [natsV_len]; omega), natsV_takeW]
        have t1 := same_new (o := .lst (natsV (ks.take i))) hl1
        have h1 : (upd HY l1 (.lst (natsV (ks.take i)))) l1 = some (.lst (natsV (ks.take i))) := upd_same
        generalize upd HY l1 (.lst (natsV (ks.take i))) = X1 at t1 h1 ⊢
        refine ⟨_, rfl, _, rfl, _, rfl, (by show 3 ≤ sizeLine; decide), fun l2 hl2 => ?_⟩
        have t2 := t1.trans (same_new (o := .lst [.int (y : Int), .int (x : Int), .int (y : Int)]) hl2)
        have h2 : (upd X1 l2 (.lst [.int (y : Int), .int (x : Int), .int (y : Int)])) l2 = some (.lst (natsV [y, x, y])) := upd_same
        have h1' := same_new (o := .lst [.int (y : Int), .int (x : Int), .int (y : Int)]) hl2 _ _ h1
        refine ⟨l1, l2, natsV (ks.take i), natsV [y, x, y], rfl, rfl, h1', h2, le_size (by rw [natsV_len, natsV_len, List.length_take]; show _ + 3 ≤ _; omega), fun l3 hl3 => ?_⟩
        rw [cat_nats]
        have t3 := t2.trans (same_new (o := .lst (natsV (ks.take i ++ [y, x, y]))) hl3)
        have h3 : (upd (upd X1 l2 (.lst [.int (y : Int), .int (x : Int), .int (y : Int)])) l3 (.lst (natsV (ks.take i ++ [y, x, y])))) l3 = some (.lst (natsV (ks.take i ++ [y, x, y]))) := upd_same
        generalize upd (upd X1 l2 (.lst [.int (y : Int), .int (x : Int), .int (y : Int)])) l3 (.lst (natsV (ks.take i ++ [y, x, y]))) = X3 at t3 h3 ⊢
        refine ⟨_, rfl, _, rfl, _, _, rfl, rfl, _, rfl, a, _, rfl, (sY.trans t3).seqL ha, fun l4 hl4 => ?_⟩
        rw [cut_fromZ (i + 3) (by omega) (by rw [natsV_len]; omega), natsV_dropW]
        have h3' := same_new (o := .lst (natsV (ks.drop (i + 3)))) hl4 _ _ h3
        have t4 := t3.trans (same_new (o := .lst (natsV (ks.drop (i + 3)))) hl4)
        have h4 : (upd X3 l4 (.lst (natsV (ks.drop (i + 3))))) l4 = some (.lst (natsV (ks.drop (i + 3)))) := upd_same
        refine ⟨l3, l4, _, _, rfl, rfl, h3', h4, le_size (by rw [natsV_len, natsV_len, List.length_append, List.length_take, List.length_drop]; show _ + 3 + _ ≤ _; omega), fun l5 hl5 => ?_⟩
        rw [cat_nats]
        have t5 := t4.trans (same_new (o := .lst (natsV (ks.take i ++ [y, x, y] ++ ks.drop (i + 3)))) hl5)
        have h5 : (upd (upd X3 l4 (.lst (natsV (ks.drop (i + 3))))) l5 (.lst (natsV (ks.take i ++ [y, x, y] ++ ks.drop (i + 3))))) l5 = some (.lst (natsV (ks.take i ++ [y, x, y] ++ ks.drop (i + 3)))) := upd_same
        have hX5 : HY l5 = none := t4.free hl5
        generalize upd (upd X3 l4 (.lst (natsV (ks.drop (i + 3))))) l5 (.lst (natsV (ks.take i ++ [y, x, y] ++ ks.drop (i + 3)))) = X5 at t5 h5 ⊢
        have nf5 : l5 ≠ f := (ne_of_none hfY hX5).symm
        refine ⟨f, _, _, rfl, rfl, t5 _ _ hfY, by rw [List.length_map]; exact small1000 (by omega), ?_⟩
        refine ⟨ps ++ [l5], _, _, _, rfl, same_upd (sY.trans t5) hf0, by rw [upd_same, List.map_append]; rfl, by rw [List.length_append]; show _ + 1 ≤ _; simp at lpA; omega, ?_⟩
        rw [mvN_succ]
        unfold mv1
        rw [eA, eB, List.nil_append]
        exact wdY.snoc (fun q o nq e => by rw [upd_ne nq]; exact t5 _ _ e) (sY.free hX5) hX5 nf5 (by rw [upd_ne nf5]; exact h5)
      · have h2' : decide (ks[i + 2]? = some x) = false := by simpa using h2
        have eB : mvB ks i = [] := by unfold mvB; rw [gx, gy, h2', Bool.and_false]; rfl
        refine ⟨ps, _, _, _, rfl, sY, hfY, by omega, ?_⟩
        rw [mvN_succ]
        unfold mv1
        rw [eB, List.append_nil]
        exact wdY
    · have hle : nearB x y = false := by
        rw [hB]
        refine decide_eq_false fun z => hle (decide_eq_true (congrArg V.int z))
      have eB : mvB ks i = [] := by unfold mvB; rw [gx, gy, hle]; rfl
      refine ⟨ps, _, _, _, rfl, sX, hfX, by omega, ?_⟩
      rw [mvN_succ]
      unfold mv1
      rw [eB, List.append_nil]
      exact wd
  · rintro σ H2 ⟨ps, u, v, w, rfl, s2, hf2, lp, wd⟩
    exact ⟨_, rfl, q f ps H2 s2 hf0 hf2 wd⟩
end
end K18

set_option Elab.async false
set_option linter.all false
set_option maxRecDepth 100000
set_option maxHeartbeats 4000000
namespace K18
open PySem L2
section
variable {P : Program} {w : World} {K : PySem.W.Frag} {mg : Str → Option Value} {base : Heap} {A : Adr} {gq : Array GenState → Drawn → Prop}
theorem ite2r {c : Prop} [Decidable c] {A B : Prop} (hB : ¬ c → B) (hA : c → A) : if c then A else B := ite2 hA hB
def sp_lmoves (K : PySem.W.Frag) : Sp := fun vs H Q _ => ∃ (a : Addr) (ks : List Nat), vs = [.ref a] ∧ SqL K H a (natsV ks) ∧ ks.length ≤ 30 ∧ ∀ (l : Addr) (rs : List V) (ws : List (List Nat)) (H' : Hp), Same H H' → H l = none → H' l = some (.lst rs) → ws.Perm (mvL ks) → ws.Pairwise (fun a b => lexI (toI b) (toI a) = false) → DpAll K H' rs (ws.map wdD) → Q (.ref l) H'
theorem ok_moves (T : Txt K mg A) : FnOk P w K mg base (CXq gq) 1 A.moves A.fd_moves P_moves (sp_lmoves K) := by
  have nd := sc_moves.nd
  refine T.F_moves.okc sc_moves (fun vs H Q E h => ?_) (fun A' outer s H vs Q E hr h => ?_)
  · obtain ⟨a, ks, rfl, _⟩ := h; rfl
  obtain ⟨a, ks, rfl, ha, hz, q⟩ := h
  have hu := hu_of hr
  refine ⟨_, (pss_cons (ps_set (i := 1) nd rfl (Or.inl rfl) pe_dnewT)
      (pss_cons (ps_for PassesOwn.never rfl (pi_range1 (by rfl) T.z_range (pa_cons (pe_op op_sub (pe_callB call_len (by rfl) T.z_len PySem.boot_len (pa_cons (pv 0) pa_nil)) pe_int) pa_nil)) (pg_name (i := 2) nd rfl (Or.inl rfl)) (pss_cons (ps_if (pt_cmpR op_gt (pe_callB call_abs (by rfl) T.z_abs (by decide +kernel) (pa_cons (pe_op op_sub (pe_ix ix_list (pv 0) (pv 2) (fun _ _ => rfl)) (pe_ix ix_list (pv 0) (pe_op op_add (pv 2) pe_int) (fun _ _ => rfl))) pa_nil)) pe_int (nomark _)) (pss_one (ps_dput hu (pv 1) (pe_callTy call_tuple_of (by rfl) T.z_tuple (by decide +kernel) (pa_cons (pe_op op_cat (pe_op op_cat (pe_slice sl_list (pv 0) po_none (po_some (pv 2))) (pe_lst (pa_cons (pe_ix ix_list (pv 0) (pe_op op_add (pv 2) pe_int) (fun _ _ => rfl)) (pa_cons (pe_ix ix_list (pv 0) (pv 2) (fun _ _ => rfl)) pa_nil)))) (pe_slice sl_list (pv 0) (po_some (pe_op op_add (pv 2) pe_int)) po_none)) pa_nil)) pe_bl rfl)) pss_nil)
        (pss_one (ps_if (PW.pt (pw_and (pt_cmpR op_lt (pe_op op_add (pv 2) pe_int) (pe_callB call_len (by rfl) T.z_len PySem.boot_len (pa_cons (pv 0) pa_nil)) (nomark _)) (pw_and (pt_cmpR op_eq (pe_ix ix_list (pv 0) (pv 2) (fun _ _ => rfl)) (pe_ix ix_list (pv 0) (pe_op op_add (pv 2) pe_int) (fun _ _ => rfl)) (nomark _)) (pw_and1 (pt_cmpR op_eq (pe_callB call_abs (by rfl) T.z_abs (by decide +kernel) (pa_cons (pe_op op_sub (pe_ix ix_list (pv 0) (pv 2) (fun _ _ => rfl)) (pe_ix ix_list (pv 0) (pe_op op_add (pv 2) pe_int) (fun _ _ => rfl))) pa_nil)) pe_int (nomark _)))))) (pss_one (ps_dput hu (pv 1) (pe_callTy call_tuple_of (by rfl) T.z_tuple (by decide +kernel) (pa_cons (pe_op op_cat (pe_op op_cat (pe_slice sl_list (pv 0) po_none (po_some (pv 2))) (pe_lst (pa_cons (pe_ix ix_list (pv 0) (pe_op op_add (pv 2) pe_int) (fun _ _ => rfl)) (pa_cons (pe_ix ix_list (pv 0) (pv 2) (fun _ _ => rfl)) (pa_cons (pe_ix ix_list (pv 0) (pe_op op_add (pv 2) pe_int) (fun _ _ => rfl)) pa_nil))))) (pe_slice sl_list (pv 0) (po_some (pe_op op_add (pv 2) pe_int)) po_none)) pa_nil)) pe_bl rfl)) pss_nil))))
      (pss_one (ps_ret (pe_lc (own := [("_law_some", 3)]) (g := gName 3) (by rfl) nd (pi_list (pe_callB (cr_sortedK rfl hr.units) (by rfl) T.z_sorted (by decide +kernel) (pa_cons (pv 1) pa_nil))) (blkOk_by (own := [("_law_some", 3)]) (N := N_moves) (sc := defScope s_moves) (by decide +kernel)) (fun _ _ _ _ _ => pg_name (i := 3) nd rfl (Or.inl rfl)) (fun _ _ _ _ _ => pts_nil) (fun _ _ _ _ _ => (pe_callTy (T := "list") (r := rListOf K) (call_listB K) (by rfl) T.z_list (by decide +kernel) (pa_cons (pv 3) pa_nil)))))))), ?_⟩
  intro d hd
  have hd0 : H d = none := hd
  have s1 := same_new (o := .dT []) hd
  refine ⟨_, rfl, .ref a, ks.length, rfl, .inl ⟨_, s1.seqL ha, (natsV_len ks).symm⟩, _, _, rfl, rfl, _, rfl, by omega, by omega, ?_⟩
  have en : ((ks.length : Nat) - 1 : Int).toNat = ks.length - 1 := by omega
  show ∃ W : Nat → Nat → L2.St → Hp → Prop, _
  rw [en]
  refine for_range (lo := 0) (n := ks.length - 1) (fun i σ H2 => ∃ (kvs : List (List Key × V)) (u v : Option V), σ = [some (.ref a), some (.ref d), u, v] ∧ Same H H2 ∧ H2 d = some (.dT kvs) ∧ KeysI kvs ((mvN ks i).map toI))
    ⟨[], none, none, rfl, s1, upd_same, rfl⟩ ?_ ?_
  · rintro i σ H2 hi ⟨kvs, u, v, rfl, s2, hd2, hk2⟩
    obtain ⟨x, ex, gx⟩ := nat_get (show i < ks.length by omega)
    obtain ⟨y, ey, gy⟩ := nat_get (show i + 1 < ks.length by omega)
    have e0 : (0 : Int) + (i : Int) = (i : Int) := by omega
    have lk := keys_len hk2
    rw [List.length_map] at lk
    have ll := mvN_len ks i
    have nd := (mvN_nodup ks (i + 1) (by omega)).1
    rw [mvN_succ] at nd
    unfold mv1 at nd
    have ha2 := s2.seqL ha
    refine ⟨_, rfl, _, rfl, a, _, _, .int (x : Int), rfl, rfl, ha2, at_of (j := i) (by omega) (get_natsV ex), _, rfl, _, rfl, _, _, rfl, rfl, a, _, _, .int (y : Int), rfl, rfl, ha2, at_of (j := i + 1) (by omega) (get_natsV ey), _, _, rfl, rfl, _, rfl, _, _, rfl, rfl, _, rfl, ?_⟩
    apply join_st (G := fun σ Hx => ∃ (kvs : List (List Key × V)) (v : Option V), σ = [some (.ref a), some (.ref d), some (.int (0 + (i : Int))), v] ∧ Same H Hx ∧ Hx d = some (.dT kvs) ∧ KeysI kvs ((mvN ks i ++ mvA ks i).map toI))
    · intro tail
      refine ite2r (fun hle => ?_) (fun hgt => ?_)
      · have hle : farB x y = false := by
          cases h : farB x y
          · rfl
          · exact absurd ((far_gt x y).trans h) hle
        have eA : mvA ks i = [] := by unfold mvA; rw [gx, gy, hle]; rfl
        exact tail _ _ ⟨kvs, _, rfl, s2, hd2, by rw [eA, List.append_nil]; exact hk2⟩
      · have hgt : farB x y = true := (far_gt x y).symm.trans hgt
        have eA : mvA ks i = [ks.take i ++ [y, x] ++ ks.drop (i + 2)] := by unfold mvA; rw [gx, gy, if_pos hgt]
        have nw : (ks.take i ++ [y, x] ++ ks.drop (i + 2)) ∉ mvN ks i := fun h => by
          rw [eA] at nd
          exact (List.nodup_append.mp nd).2.2 _ h _ (by simp) rfl
        refine ⟨_, rfl, _, rfl, _, rfl, _, rfl, a, _, rfl, s2.seqL ha, fun l1 hl1 => ?_⟩
        rw [cut_toZ i e0 (by rw [natsV_len]; omega), natsV_takeW]
        have t1 := same_new (o := .lst (natsV (ks.take i))) hl1
        have h1 : (upd H2 l1 (.lst (natsV (ks.take i)))) l1 = some (.lst (natsV (ks.take i))) := upd_same
        generalize upd H2 l1 (.lst (natsV (ks.take i))) = X1 at t1 h1 ⊢
        have haX := (s2.trans t1).seqL ha
        refine ⟨_, rfl, _, rfl, _, _, rfl, rfl, a, _, _, .int (y : Int), rfl, rfl, haX, at_of (j := i + 1) (by omega) (get_natsV ey), _, rfl, _, rfl, a, _, _, .int (x : Int), rfl, rfl, haX, at_of (j := i) (by omega) (get_natsV ex), (by show 2 ≤ sizeLine; decide), fun l2 hl2 => ?_⟩
        have t2 := t1.trans (same_new (o := .lst [.int (y : Int), .int (x : Int)]) hl2)
        have h2 : (upd X1 l2 (.lst [.int (y : Int), .int (x : Int)])) l2 = some (.lst (natsV [y, x])) := upd_same
        have h1' := same_new (o := .lst [.int (y : Int), .int (x : Int)]) hl2 _ _ h1
        refine ⟨l1, l2, natsV (ks.take i), natsV [y, x], rfl, rfl, h1', h2, le_size (by rw [natsV_len, natsV_len, List.length_take]; show _ + 2 ≤ _; omega), fun l3 hl3 => ?_⟩
        rw [cat_nats]
        have t3 := t2.trans (same_new (o := .lst (natsV (ks.take i ++ [y, x]))) hl3)
        have h3 : (upd (upd X1 l2 (.lst [.int (y : Int), .int (x : Int)])) l3 (.lst (natsV (ks.take i ++ [y, x])))) l3 = some (.lst (natsV (ks.take i ++ [y, x]))) := upd_same
        generalize upd (upd X1 l2 (.lst [.int (y : Int), .int (x : Int)])) l3 (.lst (natsV (ks.take i ++ [y, x]))) = X3 at t3 h3 ⊢
        refine ⟨_, rfl, _, rfl, _, _, rfl, rfl, _, rfl, a, _, rfl, (s2.trans t3).seqL ha, fun l4 hl4 => ?_⟩
        rw [cut_fromZ (i + 2) (by omega) (by rw [natsV_len]; omega), natsV_dropW]
        have h3' := same_new (o := .lst (natsV (ks.drop (i + 2)))) hl4 _ _ h3
        have t4 := t3.trans (same_new (o := .lst (natsV (ks.drop (i + 2)))) hl4)
        have h4 : (upd X3 l4 (.lst (natsV (ks.drop (i + 2))))) l4 = some (.lst (natsV (ks.drop (i + 2)))) := upd_same
        refine ⟨l3, l4, _, _, rfl, rfl, h3', h4, le_size (by rw [natsV_len, natsV_len, List.length_append, List.length_take, List.length_drop]; show _ + 2 + _ ≤ _; omega), fun l5 hl5 => ?_⟩
        rw [cat_nats]
        have t5 := t4.trans (same_new (o := .lst (natsV (ks.take i ++ [y, x] ++ ks.drop (i + 2)))) hl5)
        have h5 : (upd (upd X3 l4 (.lst (natsV (ks.drop (i + 2))))) l5 (.lst (natsV (ks.take i ++ [y, x] ++ ks.drop (i + 2))))) l5 = some (.lst (natsV (ks.take i ++ [y, x] ++ ks.drop (i + 2)))) := upd_same
        generalize upd (upd X3 l4 (.lst (natsV (ks.drop (i + 2))))) l5 (.lst (natsV (ks.take i ++ [y, x] ++ ks.drop (i + 2)))) = X5 at t5 h5 ⊢
        refine ⟨l5, _, rfl, .inl ⟨SqL.of h5, fun t ht => ?_⟩⟩
        have t6 := t5.trans (same_new (o := .tup (natsV (ks.take i ++ [y, x] ++ ks.drop (i + 2)))) ht)
        refine ⟨d, _, rfl, DPut.t (k := keyW (ks.take i ++ [y, x] ++ ks.drop (i + 2))) (t6 _ _ hd2) (upd_same.trans (by rw [← keyW_V])) (small1000 (by omega)), ?_⟩
        obtain ⟨kp, _⟩ := keys_put hk2 nw (.bl true)
        exact tail _ _ ⟨_, _, rfl, same_upd (s2.trans t6) hd0, upd_same, by rw [eA]; exact kp⟩
    rintro σ HX ⟨kvs, v, rfl, sX, hdX, hkX⟩
    have haX0 := sX.seqL ha
    have lk := keys_len hkX
    rw [List.length_map, List.length_append] at lk
    have lA : (mvA ks i).length ≤ 1 := by unfold mvA; split <;> simp
    have none_ : mvB ks i = [] → ∃ (kvs : List (List Key × V)) (u v' : Option V), [some (V.ref a), some (.ref d), some (.int (0 + (i : Int))), v] = [some (V.ref a), some (.ref d), u, v'] ∧ Same H HX ∧ HX d = some (.dT kvs) ∧ KeysI kvs ((mvN ks (i + 1)).map toI) := fun e => ⟨kvs, _, _, rfl, sX, hdX, by rw [mvN_succ]; unfold mv1; rw [e, List.append_nil]; exact hkX⟩
    refine ⟨_, rfl, _, _, rfl, rfl, _, rfl, .ref a, ks.length, rfl, .inl ⟨_, haX0, (natsV_len ks).symm⟩, _, _, rfl, rfl, _, rfl, ?_⟩
    by_cases hl : i + 2 < ks.length
    · rw [decide_eq_true (show (0 : Int) + (i : Int) + 2 < (ks.length : Int) by omega)]
      refine iteT ?_
      obtain ⟨z, ez, gz⟩ := nat_get hl
      refine ⟨_, rfl, _, rfl, a, _, _, .int (x : Int), rfl, rfl, haX0, at_of (j := i) (by omega) (get_natsV ex), _, rfl, _, rfl, _, _, rfl, rfl, a, _, _, .int (z : Int), rfl, rfl, haX0, at_of (j := i + 2) (by omega) (get_natsV ez), rfl, _, rfl, ?_⟩
      by_cases exz : x = z
      · subst exz
        rw [decide_eq_true (show V.int (x : Int) = V.int (x : Int) from rfl)]
        refine iteT ?_
        refine ⟨_, rfl, _, rfl, a, _, _, .int (x : Int), rfl, rfl, haX0, at_of (j := i) (by omega) (get_natsV ex), _, rfl, _, rfl, _, _, rfl, rfl, a, _, _, .int (y : Int), rfl, rfl, haX0, at_of (j := i + 1) (by omega) (get_natsV ey), _, _, rfl, rfl, _, rfl, rfl, _, rfl, ?_⟩
        refine ite2 (fun hgt => ?_) (fun hle => ?_)
        · have hgt : nearB x y = true := by
            have := of_decide_eq_true hgt
            injection this with this
            exact decide_eq_true this
          have eB : mvB ks i = [ks.take i ++ [y, x, y] ++ ks.drop (i + 3)] := by unfold mvB; rw [gx, gy, hgt, ez, decide_eq_true rfl]; rfl
          have eA : mvA ks i = [] := by
            rcases mvA_B (ks := ks) (i := i) with h | h
            · exact h
            · rw [eB] at h; cases h
          rw [eA, List.append_nil] at hkX
          have nw : (ks.take i ++ [y, x, y] ++ ks.drop (i + 3)) ∉ mvN ks i := fun h => by
            rw [eA, eB, List.nil_append] at nd
            exact (List.nodup_append.mp nd).2.2 _ h _ (by simp) rfl
          refine ⟨_, rfl, _, rfl, _, rfl, _, rfl, a, _, rfl, sX.seqL ha, fun l1 hl1 => ?_⟩
          rw [cut_toZ i e0 (by rw [natsV_len]; omega), natsV_takeW]
          have t1 := same_new (o := .lst (natsV (ks.take i))) hl1
          have h1 : (upd HX l1 (.lst (natsV (ks.take i)))) l1 = some (.lst (natsV (ks.take i))) := upd_same
          generalize upd HX l1 (.lst (natsV (ks.take i))) = X1 at t1 h1 ⊢
          have haX := (sX.trans t1).seqL ha
          refine ⟨_, rfl, _, rfl, _, _, rfl, rfl, a, _, _, .int (y : Int), rfl, rfl, haX, at_of (j := i + 1) (by omega) (get_natsV ey), _, rfl, _, rfl, a, _, _, .int (x : Int), rfl, rfl, haX, at_of (j := i) (by omega) (get_natsV ex), _, rfl, _, rfl, _, _, rfl, rfl, a, _, _, .int (y : Int), rfl, rfl, haX, at_of (j := i + 1) (by omega) (get_natsV ey), (by show 3 ≤ sizeLine; decide), fun l2 hl2 => ?_⟩
          have t2 := t1.trans (same_new (o := .lst [.int (y : Int), .int (x : Int), .int (y : Int)]) hl2)
          have h2 : (upd X1 l2 (.lst [.int (y : Int), .int (x : Int), .int (y : Int)])) l2 = some (.lst (natsV [y, x, y])) := upd_same
          have h1' := same_new (o := .lst [.int (y : Int), .int (x : Int), .int (y : Int)]) hl2 _ _ h1
          refine ⟨l1, l2, natsV (ks.take i), natsV [y, x, y], rfl, rfl, h1', h2, le_size (by rw [natsV_len, natsV_len, List.length_take]; show _ + 3 ≤ _; omega), fun l3 hl3 => ?_⟩
          rw [cat_nats]
          have t3 := t2.trans (same_new (o := .lst (natsV (ks.take i ++ [y, x, y]))) hl3)
          have h3 : (upd (upd X1 l2 (.lst [.int (y : Int), .int (x : Int), .int (y : Int)])) l3 (.lst (natsV (ks.take i ++ [y, x, y])))) l3 = some (.lst (natsV (ks.take i ++ [y, x, y]))) := upd_same
          generalize upd (upd X1 l2 (.lst [.int (y : Int), .int (x : Int), .int (y : Int)])) l3 (.lst (natsV (ks.take i ++ [y, x, y]))) = X3 at t3 h3 ⊢
          refine ⟨_, rfl, _, rfl, _, _, rfl, rfl, _, rfl, a, _, rfl, (sX.trans t3).seqL ha, fun l4 hl4 => ?_⟩
          rw [cut_fromZ (i + 3) (by omega) (by rw [natsV_len]; omega), natsV_dropW]
          have h3' := same_new (o := .lst (natsV (ks.drop (i + 3)))) hl4 _ _ h3
          have t4 := t3.trans (same_new (o := .lst (natsV (ks.drop (i + 3)))) hl4)
          have h4 : (upd X3 l4 (.lst (natsV (ks.drop (i + 3))))) l4 = some (.lst (natsV (ks.drop (i + 3)))) := upd_same
          refine ⟨l3, l4, _, _, rfl, rfl, h3', h4, le_size (by rw [natsV_len, natsV_len, List.length_append, List.length_take, List.length_drop]; show _ + 3 + _ ≤ _; omega), fun l5 hl5 => ?_⟩
          rw [cat_nats]
          have t5 := t4.trans (same_new (o := .lst (natsV (ks.take i ++ [y, x, y] ++ ks.drop (i + 3)))) hl5)
          have h5 : (upd (upd X3 l4 (.lst (natsV (ks.drop (i + 3))))) l5 (.lst (natsV (ks.take i ++ [y, x, y] ++ ks.drop (i + 3))))) l5 = some (.lst (natsV (ks.take i ++ [y, x, y] ++ ks.drop (i + 3)))) := upd_same
          generalize upd (upd X3 l4 (.lst (natsV (ks.drop (i + 3))))) l5 (.lst (natsV (ks.take i ++ [y, x, y] ++ ks.drop (i + 3)))) = X5 at t5 h5 ⊢
          refine ⟨l5, _, rfl, .inl ⟨SqL.of h5, fun t ht => ?_⟩⟩
          have t6 := t5.trans (same_new (o := .tup (natsV (ks.take i ++ [y, x, y] ++ ks.drop (i + 3)))) ht)
          refine ⟨d, _, rfl, DPut.t (k := keyW (ks.take i ++ [y, x, y] ++ ks.drop (i + 3))) (t6 _ _ hdX) (upd_same.trans (by rw [← keyW_V])) (small1000 (by omega)), ?_⟩
          obtain ⟨kp, _⟩ := keys_put hkX nw (.bl true)
          refine ⟨_, _, _, rfl, same_upd (sX.trans t6) hd0, upd_same, ?_⟩
          rw [mvN_succ]
          unfold mv1
          rw [eA, eB, List.nil_append]
          exact kp
        · have hle : nearB x y = false := decide_eq_false fun z => hle (decide_eq_true (congrArg V.int z))
          exact none_ (by unfold mvB; rw [gx, gy, hle]; rfl)
      · rw [decide_eq_false (show ¬ V.int (x : Int) = V.int (z : Int) by intro h; injection h with h; omega)]
        refine iteF (iteF (none_ ?_))
        unfold mvB
        rw [gx, gy, ez, decide_eq_false (by intro h; injection h with h; omega), Bool.and_false]; rfl
    · rw [decide_eq_false (show ¬ (0 : Int) + (i : Int) + 2 < (ks.length : Int) by omega)]
      refine iteF (iteF (none_ ?_))
      unfold mvB
      rw [List.getElem?_eq_none (by omega), decide_eq_false (by simp), Bool.and_false]; rfl
  · rintro σ H2 ⟨kvs, u, v, rfl, s2, hd2, hk2⟩
    have hlen : (mvL ks).length ≤ ks.length - 1 := mvN_len ks _
    refine ⟨_, rfl, d, rfl, kvs, (mvL ks).map toI, hd2, hk2, fun ns hn => ?_, by rw [List.length_map]; omega, fun p rs nss pm pw hp dp tr => ?_⟩
    · obtain ⟨w, hw, rfl⟩ := List.mem_map.mp hn
      have := (mvN_mem (Nat.le_refl _) hw).1
      intro e
      have : (toI w).length = 0 := by rw [e]; rfl
      unfold toI at this
      rw [List.length_map] at this
      have : (mvL ks).length ≤ 0 := by omega
      rw [List.length_eq_zero_iff.mp (by omega : (mvL ks).length = 0)] at hw
      cases hw
    · obtain ⟨ws, rfl, pmw⟩ := perm_toI pm
      have s3 := s2.trans (same_new (o := .lst rs) hp)
      have dp3 := dp.same (same_new (o := .lst rs) hp)
      have hp3 : (upd H2 p (.lst rs)) p = some (.lst rs) := upd_same
      generalize upd H2 p (.lst rs) = H3 at s3 dp3 hp3 ⊢
      have lr : rs.length = ws.length := by have := dp3.length; simpa using this
      have lw : ws.length ≤ ks.length - 1 := by rw [pmw.length_eq]; exact hlen
      refine ⟨p, rfl, ⟨_, SqL.of hp3⟩, fun D hD => ?_⟩
      have hD : H3 D = none := hD
      refine lc_listD (K := K) (a := p) (zs := rs) (oneH D) (oneH_at D) (fun _ => true) (fun k => wdD (ws.getD k [])) hD (SqL.of hp3) (by omega) ?_ ?_
      · intro k z H4 Kk Nx hz' s4 hD4 hK hN
        obtain ⟨os, c, eo, rfl, hc⟩ := (dp3.same s4).tups hz'
        rw [List.getElem?_map] at eo
        cases ew : ws[k]? with
        | none => rw [ew] at eo; cases eo
        | some w =>
          rw [ew] at eo
          have eo := Option.some.inj eo
          subst eo
          refine ⟨rfl, yes_of ⟨_, rfl, c, _, rfl, .inr hc, fun l hl => ?_⟩⟩
          have nlD : l ≠ D := fun e => hD4 (e ▸ hl)
          refine hK rfl _ _ (same_new hl) ?_
          rw [getD_some ew]
          refine .lst (SqL.of ?_) (dp_ints K _ _)
          rw [new_at (by unfold oneH; rw [if_neg nlD])]
          exact upd_same
      · intro H4 xs s4 hx dp4
        rw [filter_true, lr, show (fun k => wdD (ws.getD k [])) = wdD ∘ (fun k => ws.getD k []) from rfl, ← List.map_map, range_get] at dp4
        refine q D xs ws H4 (s3.trans s4) (s3.free hD) hx pmw ?_ (dp4.same (new_same _ _))
        rw [List.pairwise_map] at pw
        exact pw
end
end K18

set_option Elab.async false
set_option linter.all false
set_option maxRecDepth 100000
set_option maxHeartbeats 4000000
namespace L2
open PySem PySem.Spec PyProof.Rows
/-! polynomials with equal numbers at all points are equal -/
/-- the number at a point -/
def ev (v : List Int) (ts : Pol) : Int := SF (fun ns => pp ns v) ts
/-- a falling row of numbers above 0 -/
def Dsc : List Int → Prop
  | [] => True
  | x :: r => 0 < x ∧ (∀ y ∈ r, y < x) ∧ Dsc r
/-- the terms without the first unknown; the others, divided by it -/
def hd0 : Pol → Pol
  | [] => []
  | (0 :: ns, c) :: r => (ns, c) :: hd0 r
  | _ :: r => hd0 r
end L2

set_option Elab.async false
set_option linter.all false
set_option maxRecDepth 100000
set_option maxHeartbeats 4000000
namespace L2
open PySem PySem.Spec PyProof.Rows
/-! numbers at points -/
section
variable {k m : Nat} {p q : List Int} (hp : p.length = k)
include hp
end
theorem Dsc.nodup : ∀ {v : List Int}, Dsc v → v.Nodup
  | [], _ => .nil
  | x :: r, h => List.nodup_cons.mpr ⟨fun z => by have := h.2.1 x z; omega, h.2.2.nodup⟩
end L2

set_option Elab.async false
set_option linter.all false
set_option maxRecDepth 100000
set_option maxHeartbeats 4000000
namespace L2
open PySem PySem.Spec PyProof.Rows
/-! places far from one another -/
end L2

set_option Elab.async false
set_option linter.all false
set_option maxRecDepth 100000
set_option maxHeartbeats 4000000
namespace L2
open PySem PySem.Spec PyProof.Rows
/-- the first place where an order falls -/
def fstD (o : List Nat) : Option Nat := (List.range (o.length - 1)).find? fun k => decide (o.getD (k + 1) 0 < o.getD k 0)
/-- a short word of an order -/
def lwF : Nat → List Nat → List Nat
  | 0, _ => []
  | n + 1, o => match fstD o with
    | none => []
    | some d => lwF n (swapAt o d) ++ [d]
def lw (o : List Nat) : List Nat := lwF 10 o
/-- the word without its idle entries -/
def idleF : List Nat → List Nat → List Nat
  | _, [] => []
  | o, k :: ks => if o.getD k 0 < o.getD (k + 1) 0 then k :: idleF (swapAt o k) ks else idleF o ks
def fal (o : List Nat) (k : Nat) : Bool := decide (o.getD (k + 1) 0 < o.getD k 0)
def chkD (m : Nat) (o : List Nat) (k : Nat) : Bool := !fal o k || match fstD o with
  | none => false
  | some d => decide (d + 2 ≤ m) && decide (lw o = lw (swapAt o d) ++ [d]) && decide ((lw (swapAt o k)).length + 1 = (lw o).length) && fal o d &&
    (decide (k = d) || (if k + 2 ≤ d ∨ d + 2 ≤ k then fal (swapAt o d) k && fal (swapAt o k) d && decide (swapAt (swapAt o d) k = swapAt (swapAt o k) d)
      else fal (swapAt o d) k && fal (swapAt (swapAt o d) k) d && fal (swapAt o k) d && fal (swapAt (swapAt o k) d) k && decide (swapAt (swapAt (swapAt o d) k) d = swapAt (swapAt (swapAt o k) d) k)))
def natL (l : List Int) : List Nat := l.map Int.toNat
def chkDs (m : Nat) (o : List Nat) : Bool := (List.range (m - 1)).all fun k => chkD m o k && (fal o k || decide (o.getD k 0 < o.getD (k + 1) 0)) && (fal o k || fal (swapAt o k) k)
theorem chkD_all : ((List.range 6).all fun m => (allP (plainI m)).all fun o => chkDs m (natL o)) = true := by decide +kernel
theorem natL_toI (l : List Nat) : natL (toI l) = l := by
  unfold natL toI
  rw [List.map_map]
  exact (List.map_congr_left fun x _ => Int.toNat_natCast x).trans (List.map_id _)
theorem toI_range (m : Nat) : toI (List.range m) = plainI m := rfl
/-- orders as numbers from 0 on -/
def PmN (m : Nat) (o : List Nat) : Prop := o.Perm (List.range m)
theorem PmN.chk {m : Nat} {o : List Nat} (h : PmN m o) (m5 : m ≤ 5) {k : Nat} (hk : k + 2 ≤ m) : chkD m o k = true ∧ (fal o k = true ∨ o.getD k 0 < o.getD (k + 1) 0) ∧ (fal o k = true ∨ fal (swapAt o k) k = true) := by
  have c := List.all_eq_true.mp chkD_all m (List.mem_range.mpr (by omega))
  have hp : (toI o).Perm (plainI m) := by rw [← toI_range]; exact List.Perm.map _ h
  have c := List.all_eq_true.mp c (toI o) (allP_mem _ _ hp)
  rw [natL_toI] at c
  have c := List.all_eq_true.mp c k (List.mem_range.mpr (by omega))
  simp only [Bool.and_eq_true, Bool.or_eq_true, decide_eq_true_eq] at c
  exact ⟨c.1.1, c.1.2, c.2⟩
theorem PmN.swap {m : Nat} {o : List Nat} (h : PmN m o) (k : Nat) : PmN m (swapAt o k) := (swapAt_perm o k).trans h
/-- deeds by place on polynomials -/
structure Hop (m : Nat) (op : Nat → Pol → Pol) : Prop where
  congr : ∀ {k : Nat} {a b : Pol}, (∀ ns, cf a ns = cf b ns) → ∀ ns, cf (op k a) ns = cf (op k b) ns
  len : ∀ {k : Nat} {a : Pol}, k + 2 ≤ m → (∀ t ∈ a, t.1.length = m) → ∀ t ∈ op k a, t.1.length = m
  far : ∀ {i j : Nat} {a : Pol}, i + 2 ≤ j → j + 2 ≤ m → (∀ t ∈ a, t.1.length = m) → ∀ ns, cf (op i (op j a)) ns = cf (op j (op i a)) ns
  braid : ∀ {k : Nat} {a : Pol}, k + 3 ≤ m → (∀ t ∈ a, t.1.length = m) → ∀ ns, cf (op k (op (k + 1) (op k a))) ns = cf (op (k + 1) (op k (op (k + 1) a))) ns
section
variable {m : Nat} {op : Nat → Pol → Pol} (O : Hop m op)
include O
theorem Hop.wcongr {a b : Pol} (h : ∀ ns, cf a ns = cf b ns) : ∀ (ks : List Nat) (ns : List Nat), cf (ks.foldr op a) ns = cf (ks.foldr op b) ns
  | [], ns => h ns
  | k :: ks, ns => O.congr (Hop.wcongr h ks) ns
theorem Hop.wlen {a : Pol} (h : ∀ t ∈ a, t.1.length = m) : ∀ {ks : List Nat}, (∀ k ∈ ks, k + 2 ≤ m) → ∀ t ∈ ks.foldr op a, t.1.length = m
  | [], _ => h
  | k :: ks, hk => O.len (hk k List.mem_cons_self) (Hop.wlen h fun j hj => hk j (List.mem_cons_of_mem _ hj))
/-- an order's word may end with any place where the order falls -/
theorem Hop.ends (m5 : m ≤ 5) : ∀ (n : Nat) (o : List Nat) (k : Nat) (a : Pol), (lw o).length = n → PmN m o → k + 2 ≤ m → fal o k = true → (∀ t ∈ a, t.1.length = m) → ∀ ns, cf ((lw o).foldr op a) ns = cf ((lw (swapAt o k)).foldr op (op k a)) ns := by
  intro n
  induction n using Nat.strongRecOn with
  | ind n ih =>
    intro o k a hn po hk hf ha ns
    have c := (po.chk m5 hk).1
    unfold chkD at c
    rw [hf, Bool.not_true, Bool.false_or] at c
    split at c
    · cases c
    rename_i d ed
    simp only [Bool.and_eq_true, Bool.or_eq_true, decide_eq_true_eq] at c
    obtain ⟨⟨⟨⟨hd, e1⟩, e2⟩, e3⟩, c⟩ := c
    have l1 : (lw (swapAt o d)).length + 1 = (lw o).length := by rw [e1]; simp
    rw [e1, List.foldr_append]
    show cf ((lw (swapAt o d)).foldr op (op d a)) ns = _
    rcases c with rfl | c
    · rfl
    split at c
    · rename_i hfar
      simp only [Bool.and_eq_true, decide_eq_true_eq] at c
      obtain ⟨⟨f1, f2⟩, e⟩ := c
      rw [ih _ (by omega) (swapAt o d) k (op d a) rfl (po.swap d) hk f1 (O.len hd ha), ih (lw (swapAt o k)).length (by omega) (swapAt o k) d (op k a) rfl (po.swap k) hd f2 (O.len hk ha), e]
      refine O.wcongr (fun ns => ?_) _ ns
      rcases hfar with h | h
      · exact O.far h hd ha ns
      · exact (O.far h hk ha ns).symm
    · rename_i hnear
      by_cases hkd : k = d
      · subst hkd; rfl
      simp only [Bool.and_eq_true, decide_eq_true_eq] at c
      obtain ⟨⟨⟨⟨f1, f2⟩, f3⟩, f4⟩, e⟩ := c
      have q1 := (((po.swap d).chk m5 hk).1)
      have q2 := (((po.swap k).chk m5 hd).1)
      have ll : ∀ {o : List Nat} {k : Nat}, PmN m o → k + 2 ≤ m → fal o k = true → (lw (swapAt o k)).length + 1 = (lw o).length := fun {o k} po hk hf => by
        have c := (po.chk m5 hk).1
        unfold chkD at c
        rw [hf, Bool.not_true, Bool.false_or] at c
        split at c
        · cases c
        simp only [Bool.and_eq_true, Bool.or_eq_true, decide_eq_true_eq] at c
        exact c.1.1.2
      have l2 := ll (po.swap d) hk f1
      have l3 := ll (po.swap k) hd f3
      rw [ih _ (by omega) (swapAt o d) k (op d a) rfl (po.swap d) hk f1 (O.len hd ha), ih (lw (swapAt (swapAt o d) k)).length (by omega) (swapAt (swapAt o d) k) d _ rfl ((po.swap d).swap k) hd f2 (O.len hk (O.len hd ha)),
        ih (lw (swapAt o k)).length (by omega) (swapAt o k) d (op k a) rfl (po.swap k) hd f3 (O.len hk ha), ih (lw (swapAt (swapAt o k) d)).length (by omega) (swapAt (swapAt o k) d) k _ rfl ((po.swap k).swap d) hk f4 (O.len hd (O.len hk ha)), e]
      refine O.wcongr (fun ns => ?_) _ ns
      rcases (show k = d + 1 ∨ d = k + 1 by omega) with h | h
      · subst h; exact O.braid (by omega) ha ns
      · subst h; exact (O.braid (by omega) ha ns).symm
/-- a step up at the word's end -/
theorem Hop.rise (m5 : m ≤ 5) {o : List Nat} {k : Nat} {a : Pol} (po : PmN m o) (hk : k + 2 ≤ m) (hr : o.getD k 0 < o.getD (k + 1) 0) (ha : ∀ t ∈ a, t.1.length = m) (ns : List Nat) : cf ((lw o).foldr op (op k a)) ns = cf ((lw (swapAt o k)).foldr op a) ns := by
  have hf : fal (swapAt o k) k = true := by
    rcases (po.chk m5 hk).2.2 with h | h
    · unfold fal at h
      have := of_decide_eq_true h; omega
    · exact h
  have := O.ends m5 _ (swapAt o k) k a rfl (po.swap k) hk hf ha ns
  rw [swap_twiceG] at this
  exact this.symm
/-- a word without idle entries is a short word of its order -/
theorem Hop.short (m5 : m ≤ 5) {a : Pol} (ha : ∀ t ∈ a, t.1.length = m) : ∀ (ks : List Nat) (o : List Nat), PmN m o → (∀ k ∈ ks, k + 2 ≤ m) → idleF o ks = ks → ∀ ns, cf ((lw o).foldr op (ks.foldr op a)) ns = cf ((lw (ks.foldl swapAt o)).foldr op a) ns
  | [], o, _, _, _, ns => rfl
  | k :: ks, o, po, hk, h, ns => by
    have hk' : ∀ j ∈ ks, j + 2 ≤ m := fun j hj => hk j (List.mem_cons_of_mem _ hj)
    have hkm := hk k List.mem_cons_self
    have e : idleF o (k :: ks) = if o.getD k 0 < o.getD (k + 1) 0 then k :: idleF (swapAt o k) ks else idleF o ks := rfl
    rw [e] at h
    split at h
    · rename_i hr
      injection h with _ h
      show cf ((lw o).foldr op (op k (ks.foldr op a))) ns = cf ((lw (ks.foldl swapAt (swapAt o k))).foldr op a) ns
      rw [O.rise m5 po hkm hr (O.wlen ha hk')]
      exact Hop.short m5 ha ks _ (po.swap k) hk' h ns
    · exfalso
      have : ∀ (ks o : List Nat), (idleF o ks).length ≤ ks.length := fun ks => by
        induction ks with
        | nil => intro o; exact Nat.le_refl _
        | cons j r ih =>
          intro o
          show (if o.getD j 0 < o.getD (j + 1) 0 then j :: idleF (swapAt o j) r else idleF o r).length ≤ _
          split
          · have := ih (swapAt o j); simp; omega
          · have := ih o; simp; omega
      have := this ks o
      rw [h] at this
      simp at this
      omega
end
theorem lw_plain : ∀ m, m < 6 → lw (List.range m) = [] := by decide +kernel
theorem PmN.plain (m : Nat) : PmN m (List.range m) := List.Perm.refl _
end L2

set_option Elab.async false
set_option linter.all false
set_option maxRecDepth 100000
set_option maxHeartbeats 4000000
namespace L2
open PySem PySem.Spec PyProof.Rows
/-- deeds by place with the relations of exchanges -/
structure HopE (m : Nat) {α : Type} (op : Nat → α → α) : Prop where
  far : ∀ {i j : Nat} {a : α}, i + 2 ≤ j → j + 2 ≤ m → op i (op j a) = op j (op i a)
  braid : ∀ {k : Nat} {a : α}, k + 3 ≤ m → op k (op (k + 1) (op k a)) = op (k + 1) (op k (op (k + 1) a))
section
variable {m : Nat} {α : Type} {op : Nat → α → α} (O : HopE m op)
include O
/-- an order's word may end with any place where the order falls -/
theorem HopE.ends (m5 : m ≤ 5) : ∀ (n : Nat) (o : List Nat) (k : Nat) (a : α), (lw o).length = n → PmN m o → k + 2 ≤ m → fal o k = true → (lw o).foldr op a = (lw (swapAt o k)).foldr op (op k a) := by
  intro n
  induction n using Nat.strongRecOn with
  | ind n ih =>
    intro o k a hn po hk hf
    have c := (po.chk m5 hk).1
    unfold chkD at c
    rw [hf, Bool.not_true, Bool.false_or] at c
    split at c
    · cases c
    rename_i d ed
    simp only [Bool.and_eq_true, Bool.or_eq_true, decide_eq_true_eq] at c
    obtain ⟨⟨⟨⟨hd, e1⟩, e2⟩, e3⟩, c⟩ := c
    have l1 : (lw (swapAt o d)).length + 1 = (lw o).length := by rw [e1]; simp
    rw [e1, List.foldr_append]
    show (lw (swapAt o d)).foldr op (op d a) = _
    rcases c with rfl | c
    · rfl
    split at c
    · rename_i hfar
      simp only [Bool.and_eq_true, decide_eq_true_eq] at c
      obtain ⟨⟨f1, f2⟩, e⟩ := c
      rw [ih _ (by omega) (swapAt o d) k (op d a) rfl (po.swap d) hk f1, ih (lw (swapAt o k)).length (by omega) (swapAt o k) d (op k a) rfl (po.swap k) hd f2, e]
      congr 1
      rcases hfar with h | h
      · exact O.far h hd
      · exact (O.far h hk).symm
    · rename_i hnear
      by_cases hkd : k = d
      · subst hkd; rfl
      simp only [Bool.and_eq_true, decide_eq_true_eq] at c
      obtain ⟨⟨⟨⟨f1, f2⟩, f3⟩, f4⟩, e⟩ := c
      have q1 := (((po.swap d).chk m5 hk).1)
      have q2 := (((po.swap k).chk m5 hd).1)
      have ll : ∀ {o : List Nat} {k : Nat}, PmN m o → k + 2 ≤ m → fal o k = true → (lw (swapAt o k)).length + 1 = (lw o).length := fun {o k} po hk hf => by
        have c := (po.chk m5 hk).1
        unfold chkD at c
        rw [hf, Bool.not_true, Bool.false_or] at c
        split at c
        · cases c
        simp only [Bool.and_eq_true, Bool.or_eq_true, decide_eq_true_eq] at c
        exact c.1.1.2
      have l2 := ll (po.swap d) hk f1
      have l3 := ll (po.swap k) hd f3
      rw [ih _ (by omega) (swapAt o d) k (op d a) rfl (po.swap d) hk f1, ih (lw (swapAt (swapAt o d) k)).length (by omega) (swapAt (swapAt o d) k) d _ rfl ((po.swap d).swap k) hd f2,
        ih (lw (swapAt o k)).length (by omega) (swapAt o k) d (op k a) rfl (po.swap k) hd f3, ih (lw (swapAt (swapAt o k) d)).length (by omega) (swapAt (swapAt o k) d) k _ rfl ((po.swap k).swap d) hk f4, e]
      congr 1
      rcases (show k = d + 1 ∨ d = k + 1 by omega) with h | h
      · subst h; exact O.braid (by omega)
      · subst h; exact (O.braid (by omega)).symm
/-- a step up at the word's end -/
theorem HopE.rise (m5 : m ≤ 5) {o : List Nat} {k : Nat} {a : α} (po : PmN m o) (hk : k + 2 ≤ m) (hr : o.getD k 0 < o.getD (k + 1) 0) : (lw o).foldr op (op k a) = (lw (swapAt o k)).foldr op a := by
  have hf : fal (swapAt o k) k = true := by
    rcases (po.chk m5 hk).2.2 with h | h
    · unfold fal at h
      have := of_decide_eq_true h; omega
    · exact h
  have := O.ends m5 _ (swapAt o k) k a rfl (po.swap k) hk hf
  rw [swap_twiceG] at this
  exact this.symm
/-- a word without idle entries is a short word of its order -/
theorem HopE.short (m5 : m ≤ 5) {a : α} : ∀ (ks : List Nat) (o : List Nat), PmN m o → (∀ k ∈ ks, k + 2 ≤ m) → idleF o ks = ks → (lw o).foldr op (ks.foldr op a) = (lw (ks.foldl swapAt o)).foldr op a
  | [], o, _, _, _ => rfl
  | k :: ks, o, po, hk, h => by
    have hk' : ∀ j ∈ ks, j + 2 ≤ m := fun j hj => hk j (List.mem_cons_of_mem _ hj)
    have hkm := hk k List.mem_cons_self
    have e : idleF o (k :: ks) = if o.getD k 0 < o.getD (k + 1) 0 then k :: idleF (swapAt o k) ks else idleF o ks := rfl
    rw [e] at h
    split at h
    · rename_i hr
      injection h with _ h
      show (lw o).foldr op (op k (ks.foldr op a)) = (lw (ks.foldl swapAt (swapAt o k))).foldr op a
      rw [O.rise m5 po hkm hr]
      exact HopE.short m5 ks _ (po.swap k) hk' h
    · exfalso
      have : ∀ (ks o : List Nat), (idleF o ks).length ≤ ks.length := fun ks => by
        induction ks with
        | nil => intro o; exact Nat.le_refl _
        | cons j r ih =>
          intro o
          show (if o.getD j 0 < o.getD (j + 1) 0 then j :: idleF (swapAt o j) r else idleF o r).length ≤ _
          split
          · have := ih (swapAt o j); simp; omega
          · have := ih o; simp; omega
      have := this ks o
      rw [h] at this
      simp at this
      omega
end
/-- one move: two neighbours unlike by 2 or more exchanged, or a, b, a turned into b, a, b -/
def Mv (a b : List Nat) : Prop := ∃ p q i j, ((i + 2 ≤ j ∨ j + 2 ≤ i) ∧ a = p ++ i :: j :: q ∧ b = p ++ j :: i :: q) ∨ ((i = j + 1 ∨ j = i + 1) ∧ a = p ++ i :: j :: i :: q ∧ b = p ++ j :: i :: j :: q)
theorem Mv.cons {a b : List Nat} (h : Mv a b) (k : Nat) : Mv (k :: a) (k :: b) := by
  obtain ⟨p, q, i, j, ⟨h1, rfl, rfl⟩ | ⟨h1, rfl, rfl⟩⟩ := h
  · exact ⟨k :: p, q, i, j, .inl ⟨h1, rfl, rfl⟩⟩
  · exact ⟨k :: p, q, i, j, .inr ⟨h1, rfl, rfl⟩⟩
theorem Mv.symm {a b : List Nat} (h : Mv a b) : Mv b a := by
  obtain ⟨p, q, i, j, ⟨h1, h2, h3⟩ | ⟨h1, h2, h3⟩⟩ := h
  · exact ⟨p, q, j, i, .inl ⟨h1.symm, h3, h2⟩⟩
  · exact ⟨p, q, j, i, .inr ⟨h1.symm, h3, h2⟩⟩
abbrev WQ := Quot Mv
def consQ (k : Nat) : WQ → WQ := Quot.lift (fun w => Quot.mk Mv (k :: w)) fun a b h => Quot.sound (Mv.cons h k)
theorem hop_word (m : Nat) : HopE m consQ := by
  refine ⟨fun {i j a} h _ => ?_, fun {k a} _ => ?_⟩
  · induction a using Quot.ind with
    | mk w => exact Quot.sound (show Mv (i :: j :: w) (j :: i :: w) from ⟨[], w, i, j, .inl ⟨.inl h, rfl, rfl⟩⟩)
  · induction a using Quot.ind with
    | mk w => exact Quot.sound (show Mv (k :: (k + 1) :: k :: w) ((k + 1) :: k :: (k + 1) :: w) from ⟨[], w, k, k + 1, .inr ⟨.inr rfl, rfl, rfl⟩⟩)
theorem foldr_consQ (a : List Nat) : ∀ ks : List Nat, ks.foldr consQ (Quot.mk Mv a) = Quot.mk Mv (ks ++ a)
  | [] => rfl
  | k :: ks => by rw [List.foldr_cons, foldr_consQ a ks]; rfl
theorem closed_quot {S : List Nat → Prop} (hS : ∀ a b, Mv a b → S a → S b) {a b : List Nat} (h : Quot.mk Mv a = Quot.mk Mv b) : S a → S b := by
  have e : S a = S b := congrArg (Quot.lift S (fun a b h => propext ⟨hS a b h, hS b a h.symm⟩)) h
  exact fun s => e ▸ s
/-- what is closed under moves holds of all short words of an order or of none -/
theorem moves_reach {m : Nat} (m5 : m ≤ 5) {S : List Nat → Prop} (hS : ∀ a b, Mv a b → S a → S b) {k1 k2 : List Nat} (h1 : ∀ k ∈ k1, k + 2 ≤ m) (h2 : ∀ k ∈ k2, k + 2 ≤ m)
    (i1 : idleF (List.range m) k1 = k1) (i2 : idleF (List.range m) k2 = k2) (e : k1.foldl swapAt (List.range m) = k2.foldl swapAt (List.range m)) : S k1 → S k2 := by
  have w1 := (hop_word m).short m5 (a := Quot.mk Mv []) k1 _ (PmN.plain m) h1 i1
  have w2 := (hop_word m).short m5 (a := Quot.mk Mv []) k2 _ (PmN.plain m) h2 i2
  rw [lw_plain m (by omega), List.foldr_nil] at w1 w2
  rw [← e, ← w1, foldr_consQ, foldr_consQ, List.append_nil, List.append_nil] at w2
  exact closed_quot hS w2.symm
end L2

set_option Elab.async false
set_option linter.all false
set_option maxRecDepth 100000
set_option maxHeartbeats 4000000
namespace L2
open PySem PySem.Spec PyProof.Rows
theorem getD_at {l : List Nat} {i x : Nat} (h : l[i]? = some x) : l.getD i 0 = x := by rw [List.getD_eq_getElem?_getD, h]; rfl
theorem mv_cut {p q : List Nat} {i j : Nat} : (p ++ i :: j :: q).take p.length = p ∧ (p ++ i :: j :: q).drop (p.length + 2) = q ∧ (p ++ i :: j :: q)[p.length]? = some i ∧ (p ++ i :: j :: q)[p.length + 1]? = some j := by
  refine ⟨List.take_left, ?_, ?_, ?_⟩
  · rw [List.drop_append, show p.length + 2 - p.length = 2 by omega, List.drop_eq_nil_of_le (by omega)]; rfl
  · rw [List.getElem?_append_right (Nat.le_refl _), Nat.sub_self]; rfl
  · rw [List.getElem?_append_right (by omega), show p.length + 1 - p.length = 1 by omega]; rfl
theorem mem_mvN {ks w : List Nat} {n : Nat} : w ∈ mvN ks n ↔ ∃ i, i < n ∧ w ∈ mv1 ks i := by
  unfold mvN
  rw [List.mem_flatMap]
  constructor
  · rintro ⟨i, hi, h⟩; exact ⟨i, List.mem_range.mp hi, h⟩
  · rintro ⟨i, hi, h⟩; exact ⟨i, List.mem_range.mpr hi, h⟩
/-- all moves are told -/
theorem mv_in {a b : List Nat} (h : Mv a b) : b ∈ mvL a := by
  obtain ⟨p, q, i, j, ⟨h1, rfl, rfl⟩ | ⟨h1, rfl, rfl⟩⟩ := h
  · obtain ⟨c1, c2, c3, c4⟩ := mv_cut (p := p) (q := q) (i := i) (j := j)
    refine mem_mvN.mpr ⟨p.length, by simp, List.mem_append_left _ ?_⟩
    unfold mvA
    rw [getD_at c3, getD_at c4, c1, c2, if_pos (by unfold farB; exact decide_eq_true (by split <;> omega))]
    simp
  · obtain ⟨c1, c2, c3, c4⟩ := mv_cut (p := p) (q := i :: q) (i := i) (j := j)
    refine mem_mvN.mpr ⟨p.length, by simp, List.mem_append_right _ ?_⟩
    have c5 : (p ++ i :: j :: i :: q)[p.length + 2]? = some i := by
      rw [List.getElem?_append_right (by omega), show p.length + 2 - p.length = 2 by omega]; rfl
    have c6 : (p ++ i :: j :: i :: q).drop (p.length + 3) = q := by
      rw [List.drop_append, show p.length + 3 - p.length = 3 by omega, List.drop_eq_nil_of_le (by omega)]; rfl
    unfold mvB
    rw [getD_at c3, getD_at c4, c1, c5, c6, if_pos (by
      rw [Bool.and_eq_true]
      exact ⟨by unfold nearB; exact decide_eq_true (by split <;> omega), decide_eq_true rfl⟩)]
    simp
theorem split_pair {a : List Nat} {i : Nat} (h : i + 1 < a.length) : a = a.take i ++ a.getD i 0 :: a.getD (i + 1) 0 :: a.drop (i + 2) := by
  conv => lhs; rw [← List.take_append_drop i a]
  congr 1
  rw [List.drop_eq_getElem_cons (show i < a.length by omega), List.drop_eq_getElem_cons h, getD_at (List.getElem?_eq_getElem (show i < a.length by omega)), getD_at (List.getElem?_eq_getElem h)]
/-- what is told is a move -/
theorem in_mv {a b : List Nat} (h : b ∈ mvL a) : Mv a b := by
  obtain ⟨i, hi, h⟩ := mem_mvN.mp h
  have hi2 : i + 1 < a.length := by omega
  have es := split_pair hi2
  rcases List.mem_append.mp h with h | h
  · unfold mvA at h
    split at h
    · rename_i hf
      rw [List.mem_singleton] at h
      refine ⟨a.take i, a.drop (i + 2), a.getD i 0, a.getD (i + 1) 0, .inl ⟨?_, es, by rw [h]; simp⟩⟩
      unfold farB at hf
      have := of_decide_eq_true hf
      split at this <;> omega
    · cases h
  · unfold mvB at h
    split at h
    · rename_i hf
      rw [List.mem_singleton] at h
      rw [Bool.and_eq_true] at hf
      obtain ⟨h1, h2⟩ := hf
      have h2 := of_decide_eq_true h2
      have hl : i + 2 < a.length := (List.getElem?_eq_some_iff.mp h2).1
      have e3 : a.drop (i + 2) = a.getD i 0 :: a.drop (i + 3) := by
        rw [List.drop_eq_getElem_cons hl]
        congr 1
        rw [List.getElem?_eq_getElem hl] at h2
        exact Option.some.inj h2
      rw [e3] at es
      refine ⟨a.take i, a.drop (i + 3), a.getD i 0, a.getD (i + 1) 0, .inr ⟨?_, es, by rw [h]; simp⟩⟩
      unfold nearB at h1
      have := of_decide_eq_true h1
      split at this <;> omega
    · cases h
/-- a move keeps how many entries there are, and which -/
theorem Mv.keeps {a b : List Nat} (h : Mv a b) : b.length = a.length ∧ ∀ k ∈ b, k ∈ a := by
  obtain ⟨p, q, i, j, ⟨_, rfl, rfl⟩ | ⟨_, rfl, rfl⟩⟩ := h
  · refine ⟨by simp, fun k hk => ?_⟩
    simp only [List.mem_append, List.mem_cons] at hk ⊢
    rcases hk with h | h | h | h <;> simp [h]
  · refine ⟨by simp, fun k hk => ?_⟩
    simp only [List.mem_append, List.mem_cons] at hk ⊢
    rcases hk with h | h | h | h | h <;> simp [h]
/-- all words of so many entries below 4 -/
def allW4 : Nat → List (List Nat)
  | 0 => [[]]
  | n + 1 => (List.range 4).flatMap fun k => (allW4 n).map fun w => k :: w
theorem allW4_len : ∀ n, (allW4 n).length = 4 ^ n
  | 0 => rfl
  | n + 1 => by
    have e : allW4 (n + 1) = (allW4 n).map (fun w => 0 :: w) ++ ((allW4 n).map (fun w => 1 :: w) ++ ((allW4 n).map (fun w => 2 :: w) ++ ((allW4 n).map (fun w => 3 :: w) ++ []))) := rfl
    rw [e]
    simp only [List.length_append, List.length_map, List.length_nil, allW4_len n]
    rw [Nat.pow_succ]; omega
theorem allW4_mem : ∀ (w : List Nat), (∀ k ∈ w, k < 4) → w ∈ allW4 w.length
  | [], _ => List.mem_singleton.mpr rfl
  | k :: w, h => by
    show _ ∈ (List.range 4).flatMap _
    exact List.mem_flatMap.mpr ⟨k, List.mem_range.mpr (h k List.mem_cons_self), List.mem_map.mpr ⟨w, allW4_mem w fun j hj => h j (List.mem_cons_of_mem _ hj), rfl⟩⟩
theorem nodup_leW {α : Type} [DecidableEq α] : ∀ {a b : List α}, a.Nodup → (∀ x ∈ a, x ∈ b) → a.length ≤ b.length
  | [], _, _, _ => Nat.zero_le _
  | x :: r, b, nd, h => by
    rw [List.nodup_cons] at nd
    have hx := h x List.mem_cons_self
    have := nodup_leW (a := r) (b := b.erase x) nd.2 fun y hy => (List.mem_erase_of_ne (show y ≠ x from fun e => nd.1 (by rw [← e]; exact hy))).mpr (h y (List.mem_cons_of_mem _ hy))
    rw [List.length_erase_of_mem hx] at this
    have : 1 ≤ b.length := List.length_pos_of_mem hx
    rw [List.length_cons]; omega
theorem words_leW {n : Nat} {ws : List (List Nat)} (nd : ws.Nodup) (h : ∀ w ∈ ws, w.length = n ∧ ∀ k ∈ w, k < 4) : ws.length ≤ 4 ^ n := by
  rw [← allW4_len n]
  refine nodup_leW nd fun w hw => ?_
  obtain ⟨l, hk⟩ := h w hw
  rw [← l]
  exact allW4_mem w hk
/-- what ways_from has reached: the words, where their lists stand, and what each one is told with -/
structure WayD (H : Hp) (D R : Addr) (ws : List (List Nat)) (ps : List Addr) (kvs : List (List Key × V)) : Prop where
  len : ps.length = ws.length
  nd : ws.Nodup
  at' : ∀ (i : Nat) (p : Addr) (w : List Nat), ps[i]? = some p → ws[i]? = some w → H p = some (.lst (natsV w)) ∧ p ≠ D ∧ p ≠ R
  klen : kvs.length = ws.length
  out : ∀ w, w ∉ ws → valV kvs (keyW w) = none
  val : ∀ (i : Nat) (w : List Nat), ws[i]? = some w → ∃ v, valV kvs (keyW w) = some v ∧ ((v = .non ∧ i = 0) ∨ ∃ (j : Nat) (p : Addr) (u : List Nat), j < i ∧ ps[j]? = some p ∧ ws[j]? = some u ∧ Mv u w ∧ v = .ref p)
theorem WayD.add {H H' : Hp} {D R f p : Addr} {ws : List (List Nat)} {ps : List Addr} {kvs : List (List Key × V)} {w : List Nat} {d : Nat} (h : WayD H D R ws ps kvs) (hw : w ∉ ws) (hd : ps[d]? = some p)
    (hf : H' f = some (.lst (natsV w))) (fD : f ≠ D) (fR : f ≠ R) (hk : ∀ b o, b ≠ D → b ≠ R → H b = some o → H' b = some o) (hm : ∀ u, ws[d]? = some u → Mv u w) : WayD H' D R (ws ++ [w]) (ps ++ [f]) (putK kvs (keyW w) (.ref p)) := by
  have hd' : d < ws.length := by rw [← h.len]; exact (List.getElem?_eq_some_iff.mp hd).1
  refine ⟨by simp [h.len], ?_, ?_, ?_, ?_, ?_⟩
  · rw [List.nodup_append]
    refine ⟨h.nd, by simp, fun a ha b hb => ?_⟩
    rw [List.mem_singleton.mp hb]
    exact fun e => hw (e ▸ ha)
  · intro i q u hq hu
    by_cases hi : i < ws.length
    · rw [List.getElem?_append_left (by rw [h.len]; exact hi)] at hq
      rw [List.getElem?_append_left hi] at hu
      obtain ⟨x, y, z⟩ := h.at' i q u hq hu
      exact ⟨hk _ _ y z x, y, z⟩
    · have hi2 : i = ws.length := by
        have := (List.getElem?_eq_some_iff.mp hu).1
        simp at this; omega
      subst hi2
      rw [List.getElem?_append_right (by rw [h.len]; exact Nat.le_refl _), h.len, Nat.sub_self] at hq
      rw [List.getElem?_append_right (Nat.le_refl _), Nat.sub_self] at hu
      cases hq; cases hu
      exact ⟨hf, fD, fR⟩
  · rw [putK_new _ (h.out w hw)]; simp [h.klen]
  · intro u hu
    rw [valV_put, if_neg (fun e => hu (by rw [← keyW_inj e.symm]; simp))]
    exact h.out u fun z => hu (List.mem_append_left _ z)
  · intro i u hu
    by_cases hi : i < ws.length
    · rw [List.getElem?_append_left hi] at hu
      obtain ⟨v, hv, c⟩ := h.val i u hu
      refine ⟨v, ?_, ?_⟩
      · rw [valV_put, if_neg (fun e => hw (by rw [← keyW_inj e]; exact List.mem_of_getElem? hu))]; exact hv
      · rcases c with c | ⟨j, q, x, hj, hq, hx, hmv, e⟩
        · exact .inl c
        · exact .inr ⟨j, q, x, hj, by rw [List.getElem?_append_left (by rw [h.len]; omega)]; exact hq, by rw [List.getElem?_append_left (by omega)]; exact hx, hmv, e⟩
    · have hi2 : i = ws.length := by
        have := (List.getElem?_eq_some_iff.mp hu).1
        simp at this; omega
      subst hi2
      rw [List.getElem?_append_right (Nat.le_refl _), Nat.sub_self] at hu
      cases hu
      obtain ⟨x, hx⟩ : ∃ x, ws[d]? = some x := ⟨_, List.getElem?_eq_getElem hd'⟩
      exact ⟨.ref p, by rw [valV_put, if_pos rfl], .inr ⟨d, p, x, hd', by rw [List.getElem?_append_left (by rw [h.len]; exact hd')]; exact hd, by rw [List.getElem?_append_left hd']; exact hx, hm x hx, rfl⟩⟩
theorem WayD.one {H : Hp} {D R a : Addr} {w : List Nat} (ha : H a = some (.lst (natsV w))) (aD : a ≠ D) (aR : a ≠ R) : WayD H D R [w] [a] [(keyW w, .non)] := by
  refine ⟨rfl, by simp, fun i p u hp hu => ?_, rfl, fun u hu => ?_, fun i u hu => ?_⟩
  · match i, hp, hu with
    | 0, hp, hu => cases hp; cases hu; exact ⟨ha, aD, aR⟩
  · exact valV_neg (fun e => hu (by rw [List.mem_singleton]; exact keyW_inj e.symm))
  · match i, hu with
    | 0, hu => cases hu; exact ⟨.non, valV_pos rfl, .inl ⟨rfl, rfl⟩⟩
theorem WayD.keep {H H' : Hp} {D R : Addr} {ws : List (List Nat)} {ps : List Addr} {kvs : List (List Key × V)} (h : WayD H D R ws ps kvs) (s : ∀ b o, b ≠ D → b ≠ R → H b = some o → H' b = some o) : WayD H' D R ws ps kvs :=
  ⟨h.len, h.nd, fun i p w a b => let ⟨x, y, z⟩ := h.at' i p w a b; ⟨s _ _ y z x, y, z⟩, h.klen, h.out, h.val⟩
end L2

set_option Elab.async false
set_option linter.all false
set_option maxRecDepth 100000
set_option maxHeartbeats 4000000
namespace K18
open PySem L2
section
variable {P : Program} {w : World} {K : PySem.W.Frag} {mg : Str → Option Value} {base : Heap} {A : Adr} {gq : Array GenState → Drawn → Prop}
def sp_ways (K : PySem.W.Frag) (A : Adr) : Sp := fun vs H Q _ => ∃ (a : Addr) (ks : List Nat), vs = [.ref a, .ref A.moved] ∧ H a = some (.lst (natsV ks)) ∧ ks.length ≤ 10 ∧ (∀ k ∈ ks, k < 4) ∧
  ∀ (D R : Addr) (ws : List (List Nat)) (ps : List Addr) (kvs : List (List Key × V)) (H' : Hp), Same H H' → H D = none → H' D = some (.dT kvs) → WayD H' D R ws ps kvs → ws.length ≤ 1048576 → ws[0]? = some ks → (∀ w ∈ ws, ∀ b ∈ mvL w, b ∈ ws) → Q (.ref D) H'
def doneN (σ : L2.St) : Nat := match σ[4]? with
  | some (some (V.int z)) => z.toNat
  | _ => 0
theorem key_nats (w : List Nat) : natsV w = (keyW w).map kV := by rw [natsV_toI]; unfold keyW intsV; rw [List.map_map]; rfl
theorem pow_ten {n : Nat} (h : n ≤ 10) : 4 ^ n ≤ 1048576 := by
  have := Nat.pow_le_pow_right (show 0 < 4 by decide) h
  exact Nat.le_trans this (by decide)
theorem ok_ways_from (T : Txt K mg A) : FnOk P w K mg base (CXq gq) 2 A.ways_from A.fd_ways_from P_ways_from (sp_ways K A) := by
  have nd := sc_ways_from.nd
  have G_moved : FnOk P w K mg base (CXq gq) 1 A.moved A.fd_moved P_moved (sp_moved K) := ok_moved T
  have b_moved := b_moved T
  refine T.F_ways_from.okc sc_ways_from (fun vs H Q E h => ?_) (fun A' outer s H vs Q E hr h => ?_)
  · obtain ⟨a, ks, rfl, _⟩ := h; rfl
  obtain ⟨a, ks, rfl, ha, hz, h4, q⟩ := h
  have hu := hu_of hr
  refine ⟨_, (pss_cons (ps_set (i := 2) nd rfl (Or.inl rfl) (pe_disT hu (pe_callTy call_tuple_of (by rfl) T.z_tuple (by decide +kernel) (pa_cons (pv 0) pa_nil)) pe_non))
      (pss_cons (ps_set (i := 3) nd rfl (Or.inl rfl) (pe_lst (pa_cons (pv 0) pa_nil)))
      (pss_cons (ps_set (i := 4) nd rfl (Or.inl rfl) pe_int)
      (pss_cons (ps_while PassesOwn.never (pt_cmpR op_lt (pv 4) (pe_callB call_len (by rfl) T.z_len PySem.boot_len (pa_cons (pv 3) pa_nil)) (nomark _)) (pss_cons (ps_set (i := 5) nd rfl (Or.inl rfl) (pe_ix ix_list (pv 3) (pv 4) (fun _ _ => rfl)))
        (pss_cons (ps_for PassesOwn.never rfl (pi_list (pe_callV (i := 1) (G_moved.mono (by decide)) hr T.F_moved.kp b_moved .nil pass0 (pa_cons (pv 5) pa_nil))) (pg_name (i := 6) nd rfl (Or.inl rfl)) (pss_one (ps_if (pt_cmp (pc_dnotin hu (pe_callTy call_tuple_of (by rfl) T.z_tuple (by decide +kernel) (pa_cons (pv 6) pa_nil)) (pv 2)) (by rfl)) (pss_cons (ps_dput hu (pv 2) (pe_callTy call_tuple_of (by rfl) T.z_tuple (by decide +kernel) (pa_cons (pv 6) pa_nil)) (pv 5) rfl)
            (pss_one (ps_expr (pe_bm PySem.F.plainAttrs_list PySem.F.slot_list_append PySem.F.type_list_append mt_append (pv 3) (pa_cons (pv 6) pa_nil))))) pss_nil)))
        (pss_one (ps_aug (i := 4) nd rfl (Or.inl rfl) pe_int ip_add)))))
      (pss_one (ps_ret (pv 2))))))), ?_⟩
  refine fun D hD => ?_
  have hD0 : H D = none := hD
  have sD := same_new (o := .dT []) hD
  refine ⟨_, rfl, a, _, rfl, .inl ⟨SqL.of (sD _ _ ha), fun t ht => ?_⟩⟩
  have st := same_new (o := .tup (natsV ks)) ht
  refine ⟨st _ _ upd_same, t, keyW ks, rfl, by rw [upd_same, key_nats], ?_⟩
  have s3 : Same H (upd (upd (upd H D (.dT [])) t (.tup (natsV ks))) D (.dT [(keyW ks, .non)])) := fun b o e => by rw [upd_ne (ne_of_none e hD0)]; exact st _ _ (sD _ _ e)
  have gD := upd_same (H := upd (upd H D (.dT [])) t (.tup (natsV ks))) (a := D) (o := .dT [(keyW ks, .non)])
  generalize upd (upd (upd H D (.dT [])) t (.tup (natsV ks))) D (.dT [(keyW ks, .non)]) = H3 at s3 gD ⊢
  refine ⟨_, rfl, (by show 1 ≤ sizeLine; decide), fun R hR => ?_⟩
  have sR := same_new (o := .lst [.ref a]) hR
  have gR := upd_same (H := H3) (a := R) (o := .lst [.ref a])
  have gD := sR _ _ gD
  have aR : a ≠ R := ne_of_none (s3 _ _ ha) hR
  have DR : D ≠ R := ne_of_none (H := H3) (by assumption) hR
  have aD : a ≠ D := ne_of_none ha hD0
  have hR0 : H R = none := s3.free hR
  have s4 := s3.trans sR
  generalize upd H3 R (.lst [.ref a]) = H4 at gD gR s4 ⊢
  refine while_by (fun σ Hx => ∃ (ws : List (List Nat)) (ps : List Addr) (kvs : List (List Key × V)) (d : Nat) (u5 u6 : Option V), σ = [some (.ref a), some (.ref A.moved), some (.ref D), some (.ref R), some (.int (d : Nat)), u5, u6] ∧ Same H Hx ∧ Hx D = some (.dT kvs) ∧ Hx R = some (.lst (ps.map V.ref)) ∧ WayD Hx D R ws ps kvs ∧ (∀ w ∈ ws, w.length = ks.length ∧ ∀ k ∈ w, k < 4) ∧ d ≤ ws.length ∧ (∀ (i : Nat) (w : List Nat), i < d → ws[i]? = some w → ∀ b ∈ mvL w, b ∈ ws) ∧ ws[0]? = some ks)
    (fun σ _ => 4 ^ ks.length - doneN σ) ⟨[ks], [a], _, 0, none, none, rfl, s4, gD, gR, WayD.one (s4 _ _ ha) aD aR, fun w hw => by rw [List.mem_singleton.mp hw]; exact ⟨rfl, h4⟩, by simp, fun i w hi => absurd hi (by omega), rfl⟩ ?_ ?_
  · rintro σ Hx ⟨ws, ps, kvs, d, u5, u6, rfl, sx, gD, gR, W, hw, hd, hc, h0⟩
    have cnt := Nat.le_trans (words_leW W.nd hw) (pow_ten hz)
    have cntn := words_leW W.nd hw
    refine ⟨_, rfl, _, rfl, .ref R, ws.length, rfl, .inl ⟨_, SqL.of gR, by rw [List.length_map, W.len]⟩, _, _, rfl, rfl, _, rfl, ?_⟩
    by_cases hlt : d < ws.length
    · rw [decide_eq_true (show (d : Int) < (ws.length : Int) by omega)]
      refine iteT ?_
      obtain ⟨w, ew⟩ : ∃ w, ws[d]? = some w := ⟨_, List.getElem?_eq_getElem hlt⟩
      obtain ⟨p, ep⟩ : ∃ p, ps[d]? = some p := ⟨_, List.getElem?_eq_getElem (by rw [W.len]; exact hlt)⟩
      obtain ⟨hp, pD, pR⟩ := W.at' d p w ep ew
      obtain ⟨lw, w4⟩ := hw w (List.mem_of_getElem? ew)
      refine ⟨_, rfl, _, rfl, R, _, _, .ref p, rfl, rfl, SqL.of gR, atI_nat (by rw [List.getElem?_map, ep]; rfl), ?_⟩
      refine ⟨rfl, _, rfl, p, w, rfl, SqL.of hp, by omega, fun f qs H5 s5 hf0 hf Wq => ?_⟩
      have gD5 := s5 _ _ gD
      have gR5 := s5 _ _ gR
      have fD : f ≠ D := (ne_of_none gD hf0).symm
      have fR : f ≠ R := (ne_of_none gR hf0).symm
      have qf : ∀ (j : Nat) (x : Addr) (b : List Nat), qs[j]? = some x → (mvL w)[j]? = some b → H5 x = some (.lst (natsV b)) ∧ x ≠ D ∧ x ≠ R := fun j x b h1 h2 => by
        obtain ⟨y1, y2, y3⟩ := Wq.at' j x b h1 h2
        exact ⟨y3, (fun e => by rw [e, gD] at y1; cases y1), (fun e => by rw [e, gR] at y1; cases y1)⟩
      refine ⟨f, rfl, ⟨_, SqL.of hf⟩, ?_⟩
      refine for_list (K := K) (a := f) (xs := qs.map V.ref) (fun j σ H6 => ∃ (ws' : List (List Nat)) (ps' : List Addr) (kvs' : List (List Key × V)) (u6 : Option V), σ = [some (.ref a), some (.ref A.moved), some (.ref D), some (.ref R), some (.int (d : Nat)), some (.ref p), u6] ∧
          (∀ b o, b ≠ D → b ≠ R → H5 b = some o → H6 b = some o) ∧ H6 D = some (.dT kvs') ∧ H6 R = some (.lst (ps'.map V.ref)) ∧ WayD H6 D R ws' ps' kvs' ∧ (∀ w ∈ ws', w.length = ks.length ∧ ∀ k ∈ w, k < 4) ∧
          (∀ (i : Nat) (x : List Nat), ws[i]? = some x → ws'[i]? = some x) ∧ (∀ (i : Nat) (x : Addr), ps[i]? = some x → ps'[i]? = some x) ∧ (∀ (i : Nat) (b : List Nat), i < j → (mvL w)[i]? = some b → b ∈ ws'))
        ⟨ws, ps, kvs, _, rfl, fun _ _ _ _ e => e, gD5, gR5, W.keep (fun b o _ _ e => s5 _ _ e), hw, fun _ _ e => e, fun _ _ e => e, fun i b hi => absurd hi (by omega)⟩ (fun j σ H6 _ h => by obtain ⟨_, _, _, _, _, k, _⟩ := h; exact SqL.of (k _ _ fD fR hf)) ?_ ?_
      · rintro j z σ H6 ez ⟨ws', ps', kvs', u6, rfl, kp, gD6, gR6, W', hw', pw, pp, cl⟩
        obtain ⟨x, ex, rfl⟩ : ∃ x, qs[j]? = some x ∧ z = .ref x := by
          rw [List.getElem?_map] at ez
          cases e : qs[j]? with
          | none => rw [e] at ez; cases ez
          | some x => rw [e] at ez; exact ⟨x, rfl, (Option.some.inj ez).symm⟩
        have jl : j < (mvL w).length := by rw [← Wq.len]; exact (List.getElem?_eq_some_iff.mp ex).1
        obtain ⟨b, eb⟩ : ∃ b, (mvL w)[j]? = some b := ⟨_, List.getElem?_eq_getElem jl⟩
        obtain ⟨hx5, xD, xR⟩ := qf j x b ex eb
        have hx := kp _ _ xD xR hx5
        obtain ⟨lb, kb⟩ := (in_mv (List.mem_of_getElem? eb)).keeps
        have cnt' := Nat.le_trans (words_leW W'.nd hw') (pow_ten hz)
        refine ⟨_, rfl, x, _, rfl, .inl ⟨SqL.of hx, fun t ht => ?_⟩⟩
        have st := same_new (o := .tup (natsV b)) ht
        have gt : (upd H6 t (.tup (natsV b))) t = some (.tup ((keyW b).map kV)) := by rw [upd_same, key_nats]
        have gD7 := st _ _ gD6
        have gR7 := st _ _ gR6
        have hx7 := st _ _ hx
        generalize upd H6 t (.tup (natsV b)) = H7 at st gt gD7 gR7 hx7 ⊢
        refine ⟨_, rfl, D, _, rfl, DGet.t gD7 gt, _, rfl, ?_⟩
        have kp7 : ∀ c o, c ≠ D → c ≠ R → H5 c = some o → H7 c = some o := fun c o c1 c2 e => st _ _ (kp c o c1 c2 e)
        have W7 := W'.keep (fun c o _ _ e => st c o e)
        by_cases hb : b ∈ ws'
        · obtain ⟨ib, eib⟩ := List.mem_iff_getElem?.mp hb
          obtain ⟨v, hv, _⟩ := W'.val ib b eib
          rw [hv]
          refine iteF ?_
          refine ⟨ws', ps', kvs', _, rfl, kp7, gD7, gR7, W7, hw', pw, pp, fun i c hi ec => ?_⟩
          by_cases e : i = j
          · subst e; rw [eb] at ec; cases ec; exact hb
          · exact cl i c (by omega) ec
        · rw [W'.out b hb]
          refine iteT ?_
          have epp := pp d p ep
          have hz1 : kvs'.length < sizeLine := by rw [W'.klen, sizeLine_eq]; omega
          refine ⟨_, rfl, _, rfl, _, rfl, x, _, rfl, .inl ⟨SqL.of hx7, fun t2 ht2 => ?_⟩⟩
          have st2 := same_new (o := .tup (natsV b)) ht2
          have gt2 : (upd H7 t2 (.tup (natsV b))) t2 = some (.tup ((keyW b).map kV)) := by rw [upd_same, key_nats]
          have gD8 := st2 _ _ gD7
          have gR8 := st2 _ _ gR7
          have hx8 := st2 _ _ hx7
          generalize upd H7 t2 (.tup (natsV b)) = H8 at st2 gt2 gD8 gR8 hx8 ⊢
          refine ⟨D, _, rfl, DPut.t gD8 gt2 hz1, ?_⟩
          have gR9 : (upd H8 D (.dT (putK kvs' (keyW b) (.ref p)))) R = some (.lst (ps'.map V.ref)) := by rw [upd_ne DR.symm]; exact gR8
          refine ⟨_, rfl, .inl ⟨rfl, _, SqL.of gR9⟩, _, rfl, R, _, _, rfl, rfl, gR9, by rw [List.length_map, W'.len, sizeLine_eq]; omega, ?_⟩
          have kp9 : ∀ c o, c ≠ D → c ≠ R → H7 c = some o → (upd (upd H8 D (.dT (putK kvs' (keyW b) (.ref p)))) R (.lst (ps'.map V.ref ++ [.ref x]))) c = some o := fun c o c1 c2 e => by rw [upd_ne c2, upd_ne c1]; exact st2 _ _ e
          refine ⟨ws' ++ [b], ps' ++ [x], _, _, rfl, fun c o c1 c2 e => kp9 c o c1 c2 (kp7 c o c1 c2 e), by rw [upd_ne DR]; exact upd_same, by rw [upd_same, List.map_append]; rfl, W7.add hb epp (kp9 _ _ xD xR hx7) xD xR kp9 (fun u hu => by rw [pw d w ew] at hu; cases hu; exact in_mv (List.mem_of_getElem? eb)), fun u hu => ?_, fun i u hu => ?_, fun i u hu => ?_, fun i c hi ec => ?_⟩
          · rcases List.mem_append.mp hu with h | h
            · exact hw' u h
            · rw [List.mem_singleton.mp h]; exact ⟨by rw [lb, lw], fun k hk => w4 k (kb k hk)⟩
          · have := pw i u hu
            rw [List.getElem?_append_left (List.getElem?_eq_some_iff.mp this).1]; exact this
          · have := pp i u hu
            rw [List.getElem?_append_left (List.getElem?_eq_some_iff.mp this).1]; exact this
          · by_cases e : i = j
            · subst e; rw [eb] at ec; cases ec; simp
            · exact List.mem_append_left _ (cl i c (by omega) ec)
      · rintro σ H6 ⟨ws', ps', kvs', u6, rfl, kp, gD6, gR6, W', hw', pw, pp, cl⟩
        have sH6 : Same H H6 := fun c o e => kp c o (ne_of_none e hD0) (ne_of_none e hR0) (s5 _ _ (sx _ _ e))
        have wd := pw d w ew
        have hl' := (List.getElem?_eq_some_iff.mp wd).1
        refine ⟨_, rfl, _, _, rfl, rfl, ⟨ws', ps', kvs', d + 1, _, _, rfl, sH6, gD6, gR6, W', hw', hl', fun i u hi hu b hb => ?_, pw 0 ks h0⟩, ?_⟩
        · by_cases e : i = d
          · subst e
            rw [wd] at hu; cases hu
            obtain ⟨j, ej⟩ := List.mem_iff_getElem?.mp hb
            refine cl j b ?_ ej
            rw [List.length_map, Wq.len]
            exact (List.getElem?_eq_some_iff.mp ej).1
          · obtain ⟨u0, eu⟩ : ∃ u0, ws[i]? = some u0 := ⟨_, List.getElem?_eq_getElem (by omega)⟩
            rw [pw i u0 eu] at hu; cases hu
            have := hc i u (by omega) eu b hb
            obtain ⟨j, ej⟩ := List.mem_iff_getElem?.mp this
            exact List.mem_of_getElem? (pw j b ej)
        · show 4 ^ ks.length - ((d : Int) + 1).toNat < 4 ^ ks.length - (d : Int).toNat
          omega
    · rw [decide_eq_false (show ¬ (d : Int) < (ws.length : Int) by omega)]
      refine iteF ?_
      have ed : d = ws.length := by omega
      subst ed
      exact ⟨_, rfl, q D R ws ps kvs Hx sx hD0 gD W cnt h0 fun w hw b hb => by
        obtain ⟨i, ei⟩ := List.mem_iff_getElem?.mp hw
        exact hc i w (List.getElem?_eq_some_iff.mp ei).1 ei b hb⟩
  · rintro σ H Q Q' hq ⟨v, e, w, ew, x, n, ex, lx, i, j, ei, ej, k, ek, g⟩
    exact ⟨v, e, w, ew, x, n, ex, lx, i, j, ei, ej, k, ek, hq _ _ g⟩
end
end K18

set_option Elab.async false
set_option linter.all false
set_option maxRecDepth 100000
set_option maxHeartbeats 4000000
namespace K18
open PySem L2
section
variable {P : Program} {w : World} {K : PySem.W.Frag} {mg : Str → Option Value} {base : Heap} {A : Adr} {gq : Array GenState → Drawn → Prop}
/-- the way back: from the goal's word to the first one, each next one told ahead of it -/
def WayB (ws : List (List Nat)) (w : List Nat) (vs : List (List Nat)) : Prop := vs[0]? = some w ∧ vs.getLast? = ws[0]? ∧ vs.Nodup ∧ (∀ u ∈ vs, u ∈ ws) ∧ ∀ (i : Nat) (x y : List Nat), vs[i]? = some x → vs[i + 1]? = some y → Mv y x
def sp_wback (K : PySem.W.Frag) : Sp := fun vs H Q _ => ∃ (D R g : Addr) (ws : List (List Nat)) (ps : List Addr) (kvs : List (List Key × V)) (w : List Nat), vs = [.ref D, .ref g] ∧ H D = some (.dT kvs) ∧ WayD H D R ws ps kvs ∧ H g = some (.lst (natsV w)) ∧ w ∈ ws ∧ ws.length ≤ 1048576 ∧
  ∀ (L : Addr) (qs : List Addr) (us : List (List Nat)) (H' : Hp), Same H H' → H L = none → H' L = some (.lst (qs.map V.ref)) → Wds H H' L qs us → WayB ws w us → Q (.ref L) H'
/-- what the way back has told so far, before the word u at index i -/
structure WayP (ws : List (List Nat)) (w : List Nat) (us : List (List Nat)) (i : Nat) (u : List Nat) : Prop where
  nd : us.Nodup
  sub : ∀ x ∈ us, x ∈ ws ∧ ∀ j : Nat, ws[j]? = some x → i < j
  nil : us = [] → u = w
  hd : us ≠ [] → us[0]? = some w
  ch : ∀ (k : Nat) (x y : List Nat), us[k]? = some x → us[k + 1]? = some y → Mv y x
  last : ∀ x, us.getLast? = some x → Mv u x
theorem chain_snoc {us : List (List Nat)} {u : List Nat} (ch : ∀ (k : Nat) (x y : List Nat), us[k]? = some x → us[k + 1]? = some y → Mv y x) (last : ∀ x, us.getLast? = some x → Mv u x) : ∀ (k : Nat) (x y : List Nat), (us ++ [u])[k]? = some x → (us ++ [u])[k + 1]? = some y → Mv y x := fun k x y hx hy => by
  have hl := (List.getElem?_eq_some_iff.mp hy).1
  rw [List.length_append] at hl
  have hl : k + 1 < us.length + 1 := hl
  rw [List.getElem?_append_left (by omega)] at hx
  by_cases h : k + 1 < us.length
  · rw [List.getElem?_append_left h] at hy
    exact ch k x y hx hy
  · have e : k + 1 = us.length := by omega
    rw [List.getElem?_append_right (by omega), e, Nat.sub_self] at hy
    cases hy
    refine last x ?_
    rw [List.getLast?_eq_getElem?, show us.length - 1 = k by omega]; exact hx
theorem WayP.step {ws : List (List Nat)} {w u y : List Nat} {us : List (List Nat)} {i j : Nat} (nw : ws.Nodup) (h : WayP ws w us i u) (hu : ws[i]? = some u) (hji : j < i) (hm : Mv y u) : WayP ws w (us ++ [u]) j y := by
  refine ⟨?_, fun x hx => ?_, fun e => ?_, fun _ => ?_, chain_snoc h.ch h.last, fun x hx => ?_⟩
  · rw [List.nodup_append]
    refine ⟨h.nd, by simp, fun a ha b hb e => ?_⟩
    rw [List.mem_singleton] at hb
    subst hb; subst e
    exact absurd ((h.sub _ ha).2 i hu) (Nat.lt_irrefl i)
  · rcases List.mem_append.mp hx with h1 | h1
    · obtain ⟨a, b⟩ := h.sub x h1
      exact ⟨a, fun k hk => Nat.lt_trans hji (b k hk)⟩
    · rw [List.mem_singleton] at h1
      subst h1
      refine ⟨List.mem_of_getElem? hu, fun k hk => ?_⟩
      have hi := (List.getElem?_eq_some_iff.mp hu).1
      have : k = i := (List.getElem?_inj (List.getElem?_eq_some_iff.mp hk).1 nw).mp (hk.trans hu.symm)
      omega
  · exact absurd e (by simp)
  · cases us with
    | nil => rw [List.nil_append, h.nil rfl]; rfl
    | cons x r => exact h.hd (by simp)
  · rw [List.getLast?_append] at hx
    have : some u = some x := hx
    cases this; exact hm
theorem WayP.fin {ws : List (List Nat)} {w u : List Nat} {us : List (List Nat)} (nw : ws.Nodup) (h : WayP ws w us 0 u) (hu : ws[0]? = some u) : WayB ws w (us ++ [u]) := by
  refine ⟨?_, ?_, ?_, fun x hx => ?_, chain_snoc h.ch h.last⟩
  · cases us with
    | nil => rw [List.nil_append, h.nil rfl]; rfl
    | cons x r => exact h.hd (by simp)
  · rw [List.getLast?_append, hu]; rfl
  · rw [List.nodup_append]
    refine ⟨h.nd, by simp, fun a ha b hb e => ?_⟩
    rw [List.mem_singleton] at hb
    subst hb; subst e
    exact absurd ((h.sub _ ha).2 0 hu) (Nat.lt_irrefl 0)
  · rcases List.mem_append.mp hx with h1 | h1
    · exact (h.sub x h1).1
    · rw [List.mem_singleton.mp h1]; exact List.mem_of_getElem? hu
theorem ok_way_back (T : Txt K mg A) : FnOk P w K mg base (CXq gq) 1 A.way_back A.fd_way_back P_way_back (sp_wback K) := by
  have nd := sc_way_back.nd
  refine T.F_way_back.okc sc_way_back (fun vs H Q E h => ?_) (fun A' outer s H vs Q E hr h => ?_)
  · obtain ⟨D, R, g, ws, ps, kvs, w, rfl, _⟩ := h; rfl
  obtain ⟨D, R, g, ws, ps, kvs, w, rfl, hD, W, hg, hw, cnt, q⟩ := h
  have hu := hu_of hr
  refine ⟨_, (pss_cons (ps_set (i := 2) nd rfl (Or.inl rfl) (pe_lst pa_nil))
      (pss_cons (ps_set (i := 3) nd rfl (Or.inl rfl) (pv 1))
      (pss_cons (ps_while PassesOwn.never (pt_cmpR op_notN (pv 3) pe_non (nomark _)) (pss_cons (ps_expr (pe_bm PySem.F.plainAttrs_list PySem.F.slot_list_append PySem.F.type_list_append mt_append (pv 2) (pa_cons (pe_callTy call_list_of (by rfl) T.z_list (by decide +kernel) (pa_cons (pv 3) pa_nil)) pa_nil)))
        (pss_one (ps_set (i := 3) nd rfl (Or.inl rfl) (pe_dget hu (pv 0) (pe_callTy call_tuple_of (by rfl) T.z_tuple (by decide +kernel) (pa_cons (pv 3) pa_nil)) (fun _ _ => rfl))))))
      (pss_one (ps_ret (pv 2)))))), ?_⟩
  refine ⟨(by show 0 ≤ sizeLine; decide), fun L hL => ?_⟩
  have hL0 : H L = none := hL
  have sL := same_new (o := .lst []) hL
  have gL := upd_same (H := H) (a := L) (o := .lst [])
  generalize upd H L (.lst []) = H1 at sL gL ⊢
  obtain ⟨i0, ei0⟩ := List.mem_iff_getElem?.mp hw
  refine ⟨_, rfl, ?_⟩
  refine ⟨fun m σ Hx => (∃ (p : Addr) (i : Nat) (u : List Nat) (qs : List Addr) (us : List (List Nat)), m = i + 1 ∧ σ = [some (.ref D), some (.ref g), some (.ref L), some (.ref p)] ∧ Same H Hx ∧ Hx L = some (.lst (qs.map V.ref)) ∧ Wds H Hx L qs us ∧ H p = some (.lst (natsV u)) ∧ ws[i]? = some u ∧ WayP ws w us i u) ∨
    (∃ (qs : List Addr) (us : List (List Nat)), m = 0 ∧ σ = [some (.ref D), some (.ref g), some (.ref L), some .non] ∧ Same H Hx ∧ Hx L = some (.lst (qs.map V.ref)) ∧ Wds H Hx L qs us ∧ WayB ws w us),
    ⟨_, .inl ⟨g, i0, w, [], [], rfl, rfl, sL, gL, .nil, hg, ei0, ⟨List.nodup_nil, fun x h => (by cases h), fun _ => rfl, fun h => absurd rfl h, fun k x y h => (by cases h), fun x h => (by cases h)⟩⟩⟩, ?_⟩
  rintro m σ Hx (⟨p, i, u, qs, us, rfl, rfl, sx, gLx, Wq, hp, ei, wp⟩ | ⟨qs, us, rfl, rfl, sx, gLx, Wq, wb⟩)
  · refine ⟨_, rfl, rfl, _, rfl, ?_⟩
    rw [decide_eq_false (p := V.ref p = V.non) (fun z => by cases z)]
    refine iteT ?_
    have pL : p ≠ L := ne_of_none hp hL0
    have hul : us.length ≤ ws.length := nodup_leW wp.nd fun x h => (wp.sub x h).1
    refine ⟨fun σ' H' => ∃ m', m' < i + 1 ∧ ((∃ (p : Addr) (j : Nat) (u : List Nat) (qs : List Addr) (us : List (List Nat)), m' = j + 1 ∧ σ' = [some (.ref D), some (.ref g), some (.ref L), some (.ref p)] ∧ Same H H' ∧ H' L = some (.lst (qs.map V.ref)) ∧ Wds H H' L qs us ∧ H p = some (.lst (natsV u)) ∧ ws[j]? = some u ∧ WayP ws w us j u) ∨
      (∃ (qs : List Addr) (us : List (List Nat)), m' = 0 ∧ σ' = [some (.ref D), some (.ref g), some (.ref L), some .non] ∧ Same H H' ∧ H' L = some (.lst (qs.map V.ref)) ∧ Wds H H' L qs us ∧ WayB ws w us)), fun σ' H' h => h, ?_⟩
    refine ⟨_, rfl, .inl ⟨rfl, _, SqL.of gLx⟩, _, rfl, p, _, rfl, .inl (SqL.of (sx _ _ hp)), fun c hc => ?_⟩
    have sc := same_new (o := .lst (natsV u)) hc
    have gc := upd_same (H := Hx) (a := c) (o := .lst (natsV u))
    have gLc := sc _ _ gLx
    have cL : c ≠ L := (ne_of_none gLx hc).symm
    have hc0 : H c = none := sx.free hc
    refine ⟨L, _, _, rfl, rfl, gLc, by rw [List.length_map, Wq.len, sizeLine_eq]; omega, ?_⟩
    have W2 : Wds H (upd (upd Hx c (.lst (natsV u))) L (.lst (qs.map V.ref ++ [.ref c]))) L (qs ++ [c]) (us ++ [u]) := Wq.snoc (fun x o xL e => by rw [upd_ne xL]; exact sc _ _ e) hc0 hc cL (by rw [upd_ne cL]; exact gc)
    have s2 : Same H (upd (upd Hx c (.lst (natsV u))) L (.lst (qs.map V.ref ++ [.ref c]))) := same_upd (sx.trans sc) hL0
    have gL2 : (upd (upd Hx c (.lst (natsV u))) L (.lst (qs.map V.ref ++ [.ref c]))) L = some (.lst ((qs ++ [c]).map V.ref)) := by rw [upd_same, List.map_append]; rfl
    generalize upd (upd Hx c (.lst (natsV u))) L (.lst (qs.map V.ref ++ [.ref c])) = H2 at W2 s2 gL2 ⊢
    refine ⟨_, rfl, _, rfl, p, _, rfl, .inl ⟨SqL.of (s2 _ _ hp), fun t ht => ?_⟩⟩
    have st := same_new (o := .tup (natsV u)) ht
    have gt : (upd H2 t (.tup (natsV u))) t = some (.tup ((keyW u).map kV)) := by rw [upd_same, key_nats]
    have gL3 := st _ _ gL2
    have s3 := s2.trans st
    have W3 := W2.mono fun x o _ e => st x o e
    generalize upd H2 t (.tup (natsV u)) = H3 at st gt gL3 s3 W3 ⊢
    obtain ⟨v, hv, hcase⟩ := W.val i u ei
    refine ⟨D, v, rfl, by rw [← hv]; exact DGet.t (s3 _ _ hD) gt, ?_⟩
    rcases hcase with ⟨rfl, rfl⟩ | ⟨j, pj, y, hji, epj, ey, hm, rfl⟩
    · exact ⟨0, by omega, .inr ⟨_, _, rfl, rfl, s3, gL3, W3, wp.fin W.nd ei⟩⟩
    · exact ⟨j + 1, by omega, .inl ⟨pj, j, y, _, _, rfl, rfl, s3, gL3, W3, (W.at' j pj y epj ey).1, ey, wp.step W.nd ei hji hm⟩⟩
  · refine ⟨_, rfl, rfl, _, rfl, ?_⟩
    rw [decide_eq_true (p := V.non = V.non) rfl]
    refine iteF ?_
    exact ⟨_, rfl, q L qs us Hx sx hL0 gLx Wq wb⟩
end
end K18

set_option Elab.async false
set_option linter.all false
set_option maxRecDepth 100000
set_option maxHeartbeats 4000000
namespace K18
open PySem L2
section
variable {P : Program} {w : World} {K : PySem.W.Frag} {mg : Str → Option Value} {base : Heap} {A : Adr} {gq : Array GenState → Drawn → Prop}
theorem ord_snoc (m : Nat) (ks : List Nat) (k : Nat) : wordOrd m (ks ++ [k]) = swapAt (wordOrd m ks) k := by
  unfold wordOrd
  rw [List.foldl_append]; rfl
theorem up_inv {m : Nat} {ks : List Nat} : ∀ i, i ≤ ks.length → (∀ t, t < i → Up m ks t) → inv (wordOrd m (ks.take i)) = i
  | 0, _, _ => by rw [List.take_zero, wordOrd_nil]; exact plain_inv m
  | i + 1, hi, h => by
    obtain ⟨k, ek⟩ := get_some (show i < ks.length by omega)
    obtain ⟨x, y, e1, e2, e3⟩ := h i (by omega) k ek
    rw [wordOrd_step ek, inv_up _ k x y e1 e2 e3, up_inv i (by omega) fun t ht => h t (by omega)]
theorem ord_nodup (m : Nat) (ks : List Nat) : (wordOrd m ks).Nodup := fold_nodup (plain_nodup m) ks
theorem Back.lt {m : Nat} {ks : List Nat} {i j : Nat} (b : Back m ks i j) : j < ks.length := by
  obtain ⟨k, k', x, y, _, e, _⟩ := b.at_
  exact (List.getElem?_eq_some_iff.mp e).1
theorem back_inv {m : Nat} {ks : List Nat} {i j : Nat} (b : Back m ks i j) : inv (wordOrd m ks) + 2 ≤ ks.length := by
  have hj := b.lt
  obtain ⟨k, k', x, y, _, ej, hlt, _, _, e3, e4⟩ := b.at_
  have h1 := up_inv j (by omega) b.up
  have h2 := inv_down _ k' x y e3 e4 hlt
  rw [← wordOrd_step ej] at h2
  have h3 : wordOrd m ks = (ks.drop (j + 1)).foldl swapAt (wordOrd m (ks.take (j + 1))) := by
    unfold wordOrd
    rw [← List.foldl_append, List.take_append_drop]
  have h4 := inv_fold_le (ks.drop (j + 1)) (wordOrd m (ks.take (j + 1))) (ord_nodup m _)
  rw [← h3, List.length_drop] at h4
  omega
theorem inv_ten {l : List Int} (po : POr l) : inv l ≤ 10 := by
  have := (por_end po).2.2
  have := (wp_inv po).1
  omega
theorem foldl_map {α β : Type} (f : α → β) : ∀ (ks : List Nat) (xs : List α), ks.foldl swapAt (xs.map f) = (ks.foldl swapAt xs).map f
  | [], _ => rfl
  | k :: ks, xs => by rw [List.foldl_cons, List.foldl_cons, swapAt_map, foldl_map f ks]
theorem wordOrd_nat (m : Nat) (ks : List Nat) : wordOrd m ks = (ks.foldl swapAt (List.range m)).map fun (i : Nat) => (i : Int) := foldl_map _ _ _
theorem idle_up : ∀ (ks o : List Nat), (∀ (t k : Nat), ks[t]? = some k → ((ks.take t).foldl swapAt o).getD k 0 < ((ks.take t).foldl swapAt o).getD (k + 1) 0) → idleF o ks = ks
  | [], _, _ => rfl
  | k :: ks, o, h => by
    have h0 := h 0 k rfl
    have h0 : o.getD k 0 < o.getD (k + 1) 0 := h0
    show (if o.getD k 0 < o.getD (k + 1) 0 then k :: idleF (swapAt o k) ks else idleF o ks) = _
    rw [if_pos h0, idle_up ks (swapAt o k) fun t j hj => h (t + 1) j hj]
theorem up_idle {m : Nat} {ks : List Nat} (h : ∀ t, t < ks.length → Up m ks t) : idleF (List.range m) ks = ks := by
  refine idle_up ks _ fun t k hk => ?_
  obtain ⟨x, y, hx, hy, hlt⟩ := h t (List.getElem?_eq_some_iff.mp hk).1 k hk
  rw [wordOrd_nat, List.getElem?_map] at hx hy
  cases e1 : ((ks.take t).foldl swapAt (List.range m))[k]? with
  | none => rw [e1] at hx; cases hx
  | some a =>
    cases e2 : ((ks.take t).foldl swapAt (List.range m))[k + 1]? with
    | none => rw [e2] at hy; cases hy
    | some b =>
      rw [e1] at hx; rw [e2] at hy
      cases hx; cases hy
      have hlt : (a : Int) < (b : Int) := hlt
      rw [getD_at e1, getD_at e2]; omega
theorem same_fold {m : Nat} {k1 k2 : List Nat} (h : wordOrd m k1 = wordOrd m k2) : k1.foldl swapAt (List.range m) = k2.foldl swapAt (List.range m) := by
  rw [wordOrd_nat, wordOrd_nat] at h
  exact (List.map_inj_right (fun a b e => Int.ofNat.inj e)).mp h
/-- no entry may be spared -/
def Shrt (m : Nat) (ks : List Nat) : Prop := ∀ t, t < ks.length → Up m ks t
theorem shrt_ten {m : Nat} {ks : List Nat} (m1 : 1 ≤ m) (m5 : m ≤ 5) (h : Shrt m ks) : ks.length ≤ 10 := by
  have := up_inv ks.length (Nat.le_refl _) h
  rw [List.take_length] at this
  rw [← this]
  exact inv_ten (ord_por m1 m5 ks)
theorem back_not {m : Nat} {ks : List Nat} {i j : Nat} (b : Back m ks i j) : ¬ Shrt m ks := fun h => by
  have h1 := back_inv b
  have h2 := up_inv ks.length (Nat.le_refl _) h
  rw [List.take_length] at h2
  omega
theorem get_intsI {xs : List Int} {k : Nat} (h : k < xs.length) : ∃ x, xs[k]? = some x := ⟨_, List.getElem?_eq_getElem h⟩
/-- a word makes at most as many wrong pairs as it has entries, and fewer where an entry may be spared -/
theorem inv_upto {m : Nat} {ks : List Nat} (hk : ∀ k ∈ ks, k + 2 ≤ m) : ∀ i, i ≤ ks.length → inv (wordOrd m (ks.take i)) ≤ i ∧ ((∃ t, t < i ∧ ¬ Up m ks t) → inv (wordOrd m (ks.take i)) < i)
  | 0, _ => by
    rw [List.take_zero, wordOrd_nil, plain_inv m]
    exact ⟨Nat.le_refl _, fun ⟨t, h, _⟩ => absurd h (by omega)⟩
  | i + 1, hi => by
    obtain ⟨ih1, ih2⟩ := inv_upto hk i (by omega)
    obtain ⟨k, ek⟩ := get_some (show i < ks.length by omega)
    have hkm := hk k (List.mem_of_getElem? ek)
    have lw := wordOrd_len m (ks.take i)
    obtain ⟨x, ex⟩ := get_intsI (show k < (wordOrd m (ks.take i)).length by omega)
    obtain ⟨y, ey⟩ := get_intsI (show k + 1 < (wordOrd m (ks.take i)).length by omega)
    have nd := ord_nodup m (ks.take i)
    have hne : x ≠ y := fun e => by
      subst e
      have := (List.getElem?_inj (List.getElem?_eq_some_iff.mp ex).1 nd).mp (ex.trans ey.symm)
      omega
    rw [wordOrd_step ek]
    by_cases hlt : x < y
    · rw [inv_up _ k x y ex ey hlt]
      refine ⟨by omega, fun ⟨t, ht, hu⟩ => ?_⟩
      by_cases e : t = i
      · subst e
        exact absurd (fun j hj => by rw [ek] at hj; cases hj; exact ⟨x, y, ex, ey, hlt⟩) hu
      · have := ih2 ⟨t, by omega, hu⟩
        omega
    · have := inv_down _ k x y ex ey (by omega)
      exact ⟨by omega, fun _ => by omega⟩
theorem shrt_inv {m : Nat} {ks : List Nat} (hk : ∀ k ∈ ks, k + 2 ≤ m) : Shrt m ks ↔ ¬ inv (wordOrd m ks) < ks.length := by
  have h := inv_upto hk ks.length (Nat.le_refl _)
  rw [List.take_length] at h
  constructor
  · intro s
    have := up_inv ks.length (Nat.le_refl _) s
    rw [List.take_length] at this
    omega
  · intro n t ht
    exact Classical.byContradiction fun c => n (h.2 ⟨t, ht, c⟩)
def sp_led (K : PySem.W.Frag) (A : Adr) : Sp := fun vs H Q _ => ∃ (m : Nat) (a b : Addr) (k1 k2 : List Nat), vs = [.int m, .ref a, .ref b] ∧ 1 ≤ m ∧ m ≤ 5 ∧ H a = some (.lst (natsV k1)) ∧ H b = some (.lst (natsV k2)) ∧ (∀ k ∈ k1, k + 2 ≤ m) ∧ (∀ k ∈ k2, k + 2 ≤ m) ∧ Tab A H ∧
  Shrt m k1 ∧ Shrt m k2 ∧ wordOrd m k1 = wordOrd m k2 ∧ ∀ (L : Addr) (ws : List (List Nat)) (qs : List Addr) (us : List (List Nat)) (H' : Hp), Same H H' → H L = none → H' L = some (.lst (qs.map V.ref)) → Wds H H' L qs us → WayB ws k1 us → ws[0]? = some k2 → Q (.ref L) H'
theorem ok_led (T : Txt K mg A) (B : Bas mg base A) : FnOk P w K mg base CX0 7 A.led A.fd_led P_led (sp_led K A) := by
  have nd := sc_led.nd
  have G_check_count : FnOk P w K mg base (CXq Bare) 3 A.check_count A.fd_check_count P_check_count sp_count := ok_check_count T
  have G_check_word : FnOk P w K mg base CX0 5 A.check_word A.fd_check_word P_check_word (sp_checkw K A) := ok_check_word T B
  have G_way_back : FnOk P w K mg base (CXq Bare) 1 A.way_back A.fd_way_back P_way_back (sp_wback K) := ok_way_back T
  have G_word_order : FnOk P w K mg base CX0 6 A.word_order A.fd_word_order P_word_order (sp_word_order K A) := ok_word_order T B
  have G_ways_from : FnOk P w K mg base (CXq Bare) 2 A.ways_from A.fd_ways_from P_ways_from (sp_ways K A) := ok_ways_from T
  have G_spare : FnOk P w K mg base CX0 6 A.spare A.fd_spare P_spare (sp_spare K A) := ok_spare T B
  have b_check_count := b_check_count T
  have b_check_word := b_check_word T
  have b_way_back := b_way_back T
  have b_word_order := b_word_order T
  have b_ways_from := b_ways_from T
  have b_spare := b_spare T
  refine T.F_led.okc sc_led (fun vs H Q E h => ?_) (fun A' outer s H vs Q E hr h => ?_)
  · obtain ⟨m, a, b, k1, k2, rfl, _⟩ := h; rfl
  obtain ⟨m, a, b, k1, k2, rfl, m1, m5, ha, hb, hk1, hk2, ht, h1, h2, eo, q4⟩ := h
  refine ⟨_, (pss_cons (ps_expr (pe_call (G_check_count.mono (by decide)) hr rfl T.m_check_count T.F_check_count.kp b_check_count .nil pass0 (pa_cons (pv 0) pa_nil)))
      (pss_cons (ps_expr (pe_call (G_check_word.mono (by decide)) hr rfl T.m_check_word T.F_check_word.kp b_check_word .nil pass0 (pa_cons (pv 0) (pa_cons (pv 1) pa_nil))))
      (pss_cons (ps_expr (pe_call (G_check_word.mono (by decide)) hr rfl T.m_check_word T.F_check_word.kp b_check_word .nil pass0 (pa_cons (pv 0) (pa_cons (pv 2) pa_nil))))
      (pss_cons (ps_for PassesOwn.never rfl (pi_enum (by rfl) T.z_enumerate (pa_cons (pe_lst (pa_cons (pv 1) (pa_cons (pv 2) pa_nil))) pa_nil)) (pg_tup (by rfl) (pgs_cons (pg_name (i := 3) nd rfl (Or.inl rfl)) (pgs_cons (pg_name (i := 4) nd rfl (Or.inl rfl)) pgs_nil))) (pss_one (ps_if (pt_cmpR op_notN (pe_call (G_spare.mono (by decide)) hr rfl T.m_spare T.F_spare.kp b_spare .nil pass0 (pa_cons (pv 0) (pa_cons (pv 4) pa_nil))) pe_non (nomark _)) (pss_one ps_never) pss_nil)))
      (pss_cons (ps_if (pt_cmpR (op_neD hr.units) (pe_call (G_word_order.mono (by decide)) hr rfl T.m_word_order T.F_word_order.kp b_word_order .nil pass0 (pa_cons (pv 0) (pa_cons (pv 1) pa_nil))) (pe_call (G_word_order.mono (by decide)) hr rfl T.m_word_order T.F_word_order.kp b_word_order .nil pass0 (pa_cons (pv 0) (pa_cons (pv 2) pa_nil))) (nomark _)) (pss_one ps_never) pss_nil)
      (pss_one (ps_ret (pe_call (G_way_back.mono (by decide)) hr rfl T.m_way_back T.F_way_back.kp b_way_back .nil pass0 (pa_cons (pe_call (G_ways_from.mono (by decide)) hr rfl T.m_ways_from T.F_ways_from.kp b_ways_from .nil pass0 (pa_cons (pv 2) (pa_cons (pe_glob (v := .ref A.moved) rfl T.m_moved rfl) pa_nil))) (pa_cons (pv 1) pa_nil)))))))))), ?_⟩
  have hz1 := shrt_ten m1 m5 h1
  have hz2 := shrt_ten m1 m5 h2
  refine ⟨_, rfl, (m : Int), rfl, by omega, by omega, ?_⟩
  refine ⟨_, rfl, _, rfl, (m : Int), a, natsV k1, rfl, SqL.of ha, by rw [natsV_len]; omega, wordOk hk1, ht, ?_⟩
  refine ⟨_, rfl, _, rfl, (m : Int), b, natsV k2, rfl, SqL.of hb, by rw [natsV_len]; omega, wordOk hk2, ht, ?_⟩
  refine ⟨_, rfl, _, rfl, (by show 2 ≤ sizeLine; decide), fun LL hLL => ?_⟩
  have sL := same_new (o := .lst [.ref a, .ref b]) hLL
  have gL := upd_same (H := H) (a := LL) (o := .lst [.ref a, .ref b])
  generalize upd H LL (.lst [.ref a, .ref b]) = H1 at sL gL ⊢
  refine ⟨LL, _, rfl, SqL.of gL, for_enum (K := K) (a := LL) (xs := [.ref a, .ref b]) (fun i σ H2 => ∃ (u v : Option V), σ = [some (.int m), some (.ref a), some (.ref b), u, v] ∧ Same H1 H2) ⟨none, none, rfl, .refl _⟩ (fun i σ H2 _ h => by obtain ⟨_, _, _, g⟩ := h; exact SqL.of (g _ _ gL)) ?_ ?_⟩
  · rintro i x σ H2 Tt ex ⟨u, v, rfl, s2⟩ hT
    obtain ⟨c, ks, rfl, hc, hz, hk, hs⟩ : ∃ (c : Addr) (ks : List Nat), x = .ref c ∧ H c = some (.lst (natsV ks)) ∧ ks.length ≤ 30 ∧ (∀ k ∈ ks, k + 2 ≤ m) ∧ Shrt m ks := by
      match i, ex with
      | 0, ex => cases ex; exact ⟨a, k1, rfl, ha, by omega, hk1, h1⟩
      | 1, ex => cases ex; exact ⟨b, k2, rfl, hb, by omega, hk2, h2⟩
    have sT := (sL.trans s2).trans (same_new (o := .tup [.int (i : Nat), .ref c]) hT)
    have gT := upd_same (H := H2) (a := Tt) (o := .tup [.int (i : Nat), .ref c])
    have s2T := s2.trans (same_new (o := .tup [.int (i : Nat), .ref c]) hT)
    generalize upd H2 Tt (.tup [.int (i : Nat), .ref c]) = H3 at sT gT s2T ⊢
    refine ⟨Tt, _, rfl, SqT.of gT, rfl, _, _, rfl, _, _, rfl, rfl, ?_⟩
    refine ⟨_, rfl, _, rfl, m, c, ks, rfl, m1, m5, SqL.of (sT _ _ hc), hz, hk, ht.same sT, fun H4 s4 hu => ?_, fun pp H4 i' j' s4 bk hp => absurd hs (back_not bk)⟩
    refine ⟨rfl, _, rfl, ?_⟩
    rw [decide_eq_true (p := V.non = V.non) rfl]
    refine iteF ?_
    exact ⟨_, _, rfl, s2T.trans s4⟩
  rintro σ H2 ⟨u, v, rfl, s2⟩
  have t2 := sL.trans s2
  refine ⟨_, rfl, _, rfl, m, a, k1, rfl, m1, m5, SqL.of (t2 _ _ ha), by omega, hk1, ht.same t2, fun p1 H3 s3 hp1 => ?_⟩
  have t3 := t2.trans s3
  refine ⟨_, rfl, _, rfl, m, b, k2, rfl, m1, m5, SqL.of (t3 _ _ hb), by omega, hk2, ht.same t3, fun p2 H4 s4 hp2 => ?_⟩
  have t4 := t3.trans s4
  refine ⟨_, _, .tup (SqT.of (s4 _ _ hp1)) (dp_ints K _ _), .tup (SqT.of hp2) (dp_ints K _ _), shaped_t _, shaped_t _, ?_⟩
  rw [show PyData.eqv (.tuple ((wordOrd m k1).map PyData.int)) (.tuple ((wordOrd m k2).map PyData.int)) = decide (wordOrd m k1 = wordOrd m k2) from eqv_tupD _ _, decide_eq_true eo]
  refine ⟨_, rfl, iteF ?_⟩
  refine ⟨_, rfl, b, k2, rfl, t4 _ _ hb, hz2, fun k hk => by have := hk2 k hk; omega, fun D R ws ps kvs H5 s5 hD0 hD W cnt h0 cl => ?_⟩
  have mem : k1 ∈ ws := moves_reach m5 (S := fun w => w ∈ ws) (fun x y hm hx => cl x hx y (mv_in hm)) hk2 hk1 (up_idle h2) (up_idle h1) (same_fold eo.symm) (List.mem_of_getElem? h0)
  have t5 := t4.trans s5
  refine ⟨_, rfl, D, R, a, ws, ps, kvs, k1, rfl, hD, W, t5 _ _ ha, mem, cnt, fun L qs us H6 s6 hL0 hL Wq wb => ?_⟩
  exact q4 L ws qs us H6 (t5.trans s6) (t5.free hL0) hL ⟨Wq.len, Wq.nd, fun j p w a b => let ⟨x, y, z⟩ := Wq.at' j p w a b; ⟨t5.free x, y, z⟩⟩ wb h0
end
end K18

set_option Elab.async false
set_option linter.all false
set_option maxRecDepth 100000
set_option maxHeartbeats 4000000
namespace L2
open PySem PySem.Spec PyProof.Rows
end L2

set_option Elab.async false
set_option linter.all false
set_option maxRecDepth 100000
set_option maxHeartbeats 4000000
namespace L2
open PySem PySem.Spec PyProof.Rows
/-! products of polynomials, unknowns, and the orders of one thing more by one exchange across k -/
end L2

set_option Elab.async false
set_option linter.all false
set_option maxRecDepth 100000
set_option maxHeartbeats 4000000
namespace L2
open PySem PySem.Spec PyProof.Rows
/-! polynomials beneath the stair as sums of orders' polynomials -/
/-- powers as a number -/
def encP : List Nat → Nat
  | [] => 0
  | a :: r => a * 6 ^ r.length + encP r
/-- orders with numbers -/
abbrev Told := List (List Int × Int)
/-- told as it should be: orders of m things, numbers other than 0, codes rising -/
structure ToldOk (m : Nat) (r : Told) : Prop where
  ok : ∀ x ∈ r, POr x.1 ∧ x.1.length = m ∧ x.2 ≠ 0
  up : r.Pairwise fun a b => encP (codeN a.1) < encP (codeN b.1)
end L2

set_option Elab.async false
set_option linter.all false
set_option maxRecDepth 100000
set_option maxHeartbeats 4000000
namespace L2
open PySem PySem.Spec PyProof.Rows
/-- words begun, each with what is left -/
abbrev Bgn := List (List Nat × List Int)
def stepB (b : Bgn) : Bgn := b.flatMap fun x => (faN x.2).map fun k => (x.1 ++ [k], swapAt x.2 k)
def iterB : Nat → Bgn → Bgn
  | 0, b => b
  | n + 1, b => iterB n (stepB b)
def begB (os : List Int) : Bgn := iterB (wpP os).length [([], backL os)]
/-- all short words of an order, rising -/
def shW (os : List Int) : List (List Nat) := (begB os).map (·.1)
def srtB (os : List Int) : Bool := decide (os.Pairwise (· ≤ ·))
/-- the short words told by their last exchanges -/
def lastB (os : List Int) : List (List Nat) := (faN os).flatMap fun k => (shW (swapAt os k)).map (· ++ [k])
def risE : List Nat → Bool
  | [] => true
  | x :: r => (r.all fun y => decide (x < y)) && risE r
theorem risE_pw : ∀ {r : List Nat}, risE r = true → r.Pairwise (· < ·)
  | [], _ => .nil
  | x :: r, h => by
    unfold risE at h
    rw [Bool.and_eq_true, List.all_eq_true] at h
    exact List.pairwise_cons.mpr ⟨fun y hy => of_decide_eq_true (h.1 y hy), risE_pw h.2⟩
def chkSh (os : List Int) : Bool := decide (os = []) || (
  (srtB os && decide (shW os = [[]])) ||
  (!srtB os && (decide ((faN os) ≠ []) && (decide (((faN os).map fun k => (shW (swapAt os k)).length).sum = (shW os).length) &&
    (decide (300 < (shW os).length) || (risE ((shW os).map encP) && ((lastB os).isPerm (shW os) && decide ((shW os).headD [] = leW 10 (backL os)) && (shW os).all fun w => decide (w.length = (wpP os).length ∧ ∀ k ∈ w, k < 5))))))))
theorem chkSh_4 : ((List.range 5).all fun n => (allP (plainI n)).all chkSh) = true := by decide +kernel
theorem chkSh_50 : ((((allP (plainI 5)).drop (12 * 0)).take 12).all chkSh) = true := by decide +kernel
theorem chkSh_51 : ((((allP (plainI 5)).drop (12 * 1)).take 12).all chkSh) = true := by decide +kernel
theorem chkSh_52 : ((((allP (plainI 5)).drop (12 * 2)).take 12).all chkSh) = true := by decide +kernel
theorem chkSh_53 : ((((allP (plainI 5)).drop (12 * 3)).take 12).all chkSh) = true := by decide +kernel
theorem chkSh_54 : ((((allP (plainI 5)).drop (12 * 4)).take 12).all chkSh) = true := by decide +kernel
theorem chkSh_55 : ((((allP (plainI 5)).drop (12 * 5)).take 12).all chkSh) = true := by decide +kernel
theorem chkSh_56 : ((((allP (plainI 5)).drop (12 * 6)).take 12).all chkSh) = true := by decide +kernel
theorem chkSh_57 : ((((allP (plainI 5)).drop (12 * 7)).take 12).all chkSh) = true := by decide +kernel
theorem chkSh_58 : ((((allP (plainI 5)).drop (12 * 8)).take 12).all chkSh) = true := by decide +kernel
theorem chkSh_59 : ((((allP (plainI 5)).drop (12 * 9)).take 12).all chkSh) = true := by decide +kernel
theorem chkSh_5 : (allP (plainI 5)).all chkSh = true := chunk_all chkSh _ 12 10 (by decide +kernel) fun i hi => by
  match i, hi with
  | 0, _ => exact chkSh_50
  | 1, _ => exact chkSh_51
  | 2, _ => exact chkSh_52
  | 3, _ => exact chkSh_53
  | 4, _ => exact chkSh_54
  | 5, _ => exact chkSh_55
  | 6, _ => exact chkSh_56
  | 7, _ => exact chkSh_57
  | 8, _ => exact chkSh_58
  | 9, _ => exact chkSh_59
theorem chkSh_all : ((List.range 6).all fun n => (allP (plainI n)).all chkSh) = true := six_all chkSh_4 chkSh_5
end L2

set_option Elab.async false
set_option linter.all false
set_option maxRecDepth 100000
set_option maxHeartbeats 4000000
namespace L2
open PySem PySem.Spec PyProof.Rows
/-- what the short words of an order are -/
theorem sh_of {os : List Int} (po : POr os) : (srtB os = true ∧ shW os = [[]]) ∨ (srtB os = false ∧ faN os ≠ [] ∧ ((faN os).map fun k => (shW (swapAt os k)).length).sum = (shW os).length ∧
    (300 < (shW os).length ∨ (((shW os).map encP).Pairwise (· < ·) ∧ (lastB os).Perm (shW os) ∧ (shW os).headD [] = leW 10 (backL os) ∧ ∀ w ∈ shW os, w.length = (wpP os).length ∧ ∀ k ∈ w, k < 5))) := by
  have c := po.all chkSh_all
  have n1 := po.one
  unfold chkSh at c
  rw [decide_eq_false (fun z => by rw [z] at n1; exact absurd n1 (by decide)), Bool.false_or, Bool.or_eq_true] at c
  rcases c with c | c
  · rw [Bool.and_eq_true, decide_eq_true_eq] at c
    exact .inl c
  · rw [Bool.and_eq_true, Bool.and_eq_true, Bool.and_eq_true, Bool.or_eq_true, Bool.and_eq_true, Bool.and_eq_true, Bool.and_eq_true, decide_eq_true_eq, decide_eq_true_eq, decide_eq_true_eq, decide_eq_true_eq, List.all_eq_true, Bool.not_eq_true'] at c
    obtain ⟨c1, c2, c3, c4⟩ := c
    refine .inr ⟨c1, c2, c3, c4.imp id fun h => ⟨risE_pw h.1, List.isPerm_iff.mp h.2.1.1, h.2.1.2, fun w hw => of_decide_eq_true (h.2.2 w hw)⟩⟩
end L2

set_option Elab.async false
set_option linter.all false
set_option maxRecDepth 100000
set_option maxHeartbeats 4000000
namespace L2
open PySem PySem.Spec PyProof.Rows
def chkNn (os : List Int) : Bool := decide (os = []) || ((decide (10 ≤ (wpP os).length) || decide ((shW os).length ≤ 300)) && (!srtB os || decide (os = plainI os.length)))
theorem chkNn_all : ((List.range 6).all fun n => (allP (plainI n)).all chkNn) = true := by decide +kernel
theorem sh_nine {os : List Int} (po : POr os) (h : (wpP os).length ≤ 9) : (shW os).length ≤ 300 := by
  have c := po.all chkNn_all
  have n1 := po.one
  unfold chkNn at c
  rw [decide_eq_false (fun z => by rw [z] at n1; exact absurd n1 (by decide)), Bool.false_or, Bool.and_eq_true, Bool.or_eq_true, decide_eq_true_eq, decide_eq_true_eq] at c
  rcases c.1 with c | c
  · omega
  · exact c
theorem sh_sub {os : List Int} (po : POr os) (h : (shW os).length ≤ 300) {k : Nat} (hk : k ∈ faN os) : (shW (swapAt os k)).length ≤ 300 := by
  rcases sh_of po with ⟨e, _⟩ | ⟨_, _, e, _⟩
  · have hp : os.Pairwise (· ≤ ·) := of_decide_eq_true e
    obtain ⟨h1, h2⟩ := mem_faN.mp hk
    have := List.pairwise_iff_getElem.mp hp k (k + 1) (by omega) h1 (by omega)
    rw [List.getD_eq_getElem?_getD, List.getD_eq_getElem?_getD, List.getElem?_eq_getElem h1, List.getElem?_eq_getElem (show k < os.length by omega)] at h2
    have h2 : os[k + 1] < os[k] := h2
    omega
  · have : ∀ (l : List Nat) (f : Nat → Nat), k ∈ l → f k ≤ (l.map f).sum := by
      intro l f
      induction l with
      | nil => intro h; cases h
      | cons x r ih =>
        intro h
        rw [List.map_cons, List.sum_cons]
        rcases List.mem_cons.mp h with rfl | h
        · omega
        · have := ih h; omega
    have := this _ (fun k => (shW (swapAt os k)).length) hk
    rw [e] at this
    exact Nat.le_trans this h
theorem no_fall {os : List Int} {k : Nat} (h : srtB os = true) : k ∉ faN os := fun hk => by
  have hp : os.Pairwise (· ≤ ·) := of_decide_eq_true h
  obtain ⟨h1, h2⟩ := mem_faN.mp hk
  have := List.pairwise_iff_getElem.mp hp k (k + 1) (by omega) h1 (by omega)
  rw [List.getD_eq_getElem?_getD, List.getD_eq_getElem?_getD, List.getElem?_eq_getElem h1, List.getElem?_eq_getElem (show k < os.length by omega)] at h2
  have h2 : os[k + 1] < os[k] := h2
  omega
theorem sh_last {os : List Int} (po : POr os) (h : (shW os).length ≤ 300) {w : List Nat} {k : Nat} (hk : k ∈ faN os) (hw : w ∈ shW (swapAt os k)) : w ++ [k] ∈ shW os := by
  rcases sh_of po with ⟨e1, e⟩ | ⟨_, _, _, e | ⟨_, e, _, _⟩⟩
  · exact absurd hk (no_fall e1)
  · exact absurd e (by omega)
  · exact e.mem_iff.mp (List.mem_flatMap.mpr ⟨k, hk, List.mem_map.mpr ⟨w, hw, rfl⟩⟩)
end L2

set_option Elab.async false
set_option linter.all false
set_option maxRecDepth 100000
set_option maxHeartbeats 4000000
namespace L2
open PySem PySem.Spec PyProof.Rows
end L2

set_option Elab.async false
set_option linter.all false
set_option maxRecDepth 100000
set_option maxHeartbeats 4000000
namespace L2
open PySem PySem.Spec PyProof.Rows
end L2

set_option Elab.async false
set_option linter.all false
set_option maxRecDepth 100000
set_option maxHeartbeats 4000000
namespace K18
open PySem L2
section
variable {P : Program} {w : World} {K : PySem.W.Frag} {mg : Str → Option Value} {base : Heap} {A : Adr} {gq : Array GenState → Drawn → Prop}
theorem fa_first {ns : List Int} {k : Nat} {t : List Nat} (h : faN ns = k :: t) : ∃ x y, ns[k]? = some x ∧ ns[k + 1]? = some y ∧ y < x := by
  have hk : k ∈ faN ns := by rw [h]; exact List.mem_cons_self
  obtain ⟨h1, h2⟩ := mem_faN.mp hk
  obtain ⟨x, ex⟩ := get_some (show k < ns.length by omega)
  obtain ⟨y, ey⟩ := get_some h1
  rw [getD_of ex, getD_of ey] at h2
  exact ⟨x, y, ex, ey, h2⟩
theorem lay_wds : ∀ ws : List (List Nat), PyData.canLayAll0 (ws.map wdD) = true
  | [] => rfl
  | w :: r => by simp [PyData.canLayAll0, lay_wds r, wdD, (lay_lstD (toI w)).1]
theorem dep_wds : ∀ ws : List (List Nat), PyData.depthAll (ws.map wdD) ≤ 1
  | [] => by simp [PyData.depthAll]
  | w :: r => by
    have ih := dep_wds r
    have h0 : (wdD w).depth ≤ 1 := by unfold wdD lstD; simp [PyData.depth, dep_ints]
    simp only [List.map_cons, PyData.depthAll]
    omega
theorem shaped_wds (ws : List (List Nat)) : SeqAt.shaped (.list (ws.map wdD)) = true := by
  unfold SeqAt.shaped
  have h1 := lay_wds ws
  have h2 := dep_wds ws
  simp only [PyData.canLay0, PyData.depth, h1, Bool.true_and, decide_eq_true_eq]
  exact decide_eq_true (by omega)
theorem swap_farG {α : Type} : ∀ (l : List α) (i j : Nat), i + 2 ≤ j → swapAt (swapAt l i) j = swapAt (swapAt l j) i
  | [], i, j, _ => by cases i <;> cases j <;> simp only [swapAt]
  | [x], 0, j + 1, _ => by cases j <;> simp only [swapAt]
  | [x], i + 1, j + 1, h => by
    simp only [swapAt]
  | x :: y :: r, 0, j + 2, _ => by simp only [swapAt]
  | x :: y :: r, i + 1, j + 1, h => by
    simp only [swapAt]
    rw [swap_farG (y :: r) i j (by omega)]
theorem mv_ord {m : Nat} {a b : List Nat} (h : Mv a b) (hk : ∀ k ∈ a, k + 2 ≤ m) : wordOrd m b = wordOrd m a := by
  obtain ⟨p, q, i, j, ⟨h1, rfl, rfl⟩ | ⟨h1, rfl, rfl⟩⟩ := h
  · unfold wordOrd
    rw [List.foldl_append, List.foldl_append]
    show List.foldl swapAt (swapAt (swapAt _ j) i) q = List.foldl swapAt (swapAt (swapAt _ i) j) q
    rcases h1 with h | h
    · rw [swap_farG _ i j h]
    · rw [swap_farG _ j i h]
  · have hi := hk i (by simp)
    have hj := hk j (by simp)
    have lw := wordOrd_len m p
    unfold wordOrd at lw ⊢
    rw [List.foldl_append, List.foldl_append]
    show List.foldl swapAt (swapAt (swapAt (swapAt _ j) i) j) q = List.foldl swapAt (swapAt (swapAt (swapAt _ i) j) i) q
    rcases h1 with rfl | rfl
    · rw [swap_braid _ j (by omega)]
    · rw [swap_braid _ i (by omega)]
theorem wd_any {ws : List (List Nat)} {w : List Nat} (h : w ∈ ws) : (ws.map wdD).any (fun e => PyData.eqv e (wdD w)) = true := List.any_eq_true.mpr ⟨wdD w, List.mem_map.mpr ⟨w, h, rfl⟩, eqv_self (shaped_lstD _)⟩
theorem up_app {m : Nat} {v : List Nat} {k t : Nat} (ht : t < v.length) : Up m (v ++ [k]) t ↔ Up m v t := by
  unfold Up
  rw [List.getElem?_append_left ht, List.take_append_of_le_length (by omega)]
theorem sh_mem {m : Nat} (m1 : 1 ≤ m) (m5 : m ≤ 5) : ∀ (n : Nat) (w : List Nat), w.length = n → Shrt m w → (shW (wordOrd m w)).length ≤ 300 → w ∈ shW (wordOrd m w)
  | 0, w, e, _, h => by
    obtain rfl := List.length_eq_zero_iff.mp e
    have po := ord_por m1 m5 []
    rcases sh_of po with ⟨_, e⟩ | ⟨_, e, _⟩
    · rw [e]; simp
    · cases ef : faN (wordOrd m []) with
      | nil => exact absurd ef e
      | cons k t =>
        obtain ⟨x, y, ex, ey, hxy⟩ := fa_first ef
        have h1 := inv_down _ k x y ex ey hxy
        have h2 : inv (wordOrd m []) = 0 := by rw [wordOrd_nil]; exact plain_inv m
        omega
  | n + 1, w, e, hs, h => by
    obtain ⟨v, k, rfl⟩ : ∃ v k, w = v ++ [k] := ⟨w.dropLast, w.getLast (by intro z; rw [z] at e; cases e), (List.dropLast_concat_getLast _).symm⟩
    have ev : v.length = n := by simpa using e
    have hv : Shrt m v := fun t ht => (up_app ht).mp (hs t (by rw [List.length_append]; omega))
    obtain ⟨x, y, ex, ey, hxy⟩ := hs v.length (by simp) k (by simp)
    rw [List.take_left] at ex ey
    rw [ord_snoc] at h ⊢
    have po := ord_por m1 m5 v
    obtain ⟨gx, gy⟩ := swap_get ex ey
    have hk : k ∈ faN (swapAt (wordOrd m v) k) := mem_faN.mpr ⟨(List.getElem?_eq_some_iff.mp gy).1, by rw [getD_of gx, getD_of gy]; exact hxy⟩
    have hsub := sh_sub (por_swap po k) h hk
    rw [swap_back] at hsub
    exact sh_last (por_swap po k) h hk (by rw [swap_back]; exact sh_mem m1 m5 n v ev hv hsub)
theorem mv_shrt {m : Nat} {a b : List Nat} (mv : Mv a b) (hk : ∀ k ∈ a, k + 2 ≤ m) (hs : Shrt m a) : (∀ k ∈ b, k + 2 ≤ m) ∧ wordOrd m b = wordOrd m a ∧ Shrt m b := by
  obtain ⟨lb, kb⟩ := mv.keeps
  have hkb : ∀ k ∈ b, k + 2 ≤ m := fun k hk2 => hk k (kb k hk2)
  have eb := mv_ord mv hk
  refine ⟨hkb, eb, (shrt_inv hkb).mpr ?_⟩
  have := (shrt_inv hk).mp hs
  rw [eb, lb]; exact this
/-- all words of a way are short words of the one order -/
theorem way_shrt {m : Nat} {us : List (List Nat)} {w : List Nat} (h0 : us[0]? = some w) (ch : ∀ (i : Nat) (x y : List Nat), us[i]? = some x → us[i + 1]? = some y → Mv y x) (hk : ∀ k ∈ w, k + 2 ≤ m) (hs : Shrt m w) :
    ∀ (i : Nat) (x : List Nat), us[i]? = some x → (∀ k ∈ x, k + 2 ≤ m) ∧ wordOrd m x = wordOrd m w ∧ Shrt m x
  | 0, x, hx => by rw [h0] at hx; cases hx; exact ⟨hk, rfl, hs⟩
  | i + 1, x, hx => by
    obtain ⟨y, hy⟩ : ∃ y, us[i]? = some y := ⟨_, List.getElem?_eq_getElem (by have := (List.getElem?_eq_some_iff.mp hx).1; omega)⟩
    obtain ⟨a, b, c⟩ := way_shrt h0 ch hk hs i y hy
    obtain ⟨a2, b2, c2⟩ := mv_shrt (ch i y x hy hx).symm a c
    exact ⟨a2, b2.trans b, c2⟩
theorem last_in {m : Nat} (m1 : 1 ≤ m) (m5 : m ≤ 5) {w os : List Int} {x : List Nat} (hs : Shrt m x) (e : wordOrd m x = os) : x = [] ∨ ∃ k v, k < 4 ∧ x = v ++ [k] ∧ v ∈ shW (swapAt os k) ∧ (shW (swapAt os k)).length ≤ 300 := by
  by_cases hx : x = []
  · exact .inl hx
  right
  obtain ⟨v, k, rfl⟩ : ∃ v k, x = v ++ [k] := ⟨x.dropLast, x.getLast hx, (List.dropLast_concat_getLast hx).symm⟩
  have hv : Shrt m v := fun t ht => (up_app ht).mp (hs t (by rw [List.length_append]; omega))
  obtain ⟨a, b, ea, eb, hab⟩ := hs v.length (by simp) k (by simp)
  rw [List.take_left] at ea eb
  have lk := (List.getElem?_eq_some_iff.mp eb).1
  rw [wordOrd_len] at lk
  have l10 := shrt_ten m1 m5 hs
  rw [List.length_append] at l10
  have l10 : v.length + 1 ≤ 10 := l10
  have ev : wordOrd m v = swapAt os k := by rw [← e, ord_snoc, swap_back]
  have po := ord_por m1 m5 v
  have hw : (wpP (wordOrd m v)).length ≤ 9 := by
    rw [(wp_inv po).1]
    have h2 := inv_down (swapAt (wordOrd m v) k) k b a (swap_get ea eb).1 (swap_get ea eb).2 hab
    rw [swap_back] at h2
    have h3 := (por_end (por_swap po k)).2.2
    have h4 := (wp_inv (por_swap po k)).1
    omega
  have h300 := sh_nine po hw
  have r1 := sh_mem m1 m5 _ v rfl hv h300
  rw [ev] at r1 h300
  exact ⟨k, v, by omega, rfl, r1, h300⟩
theorem few_words {m : Nat} (m1 : 1 ≤ m) (m5 : m ≤ 5) {us : List (List Nat)} {os : List Int} (nd : us.Nodup) (h : ∀ x ∈ us, Shrt m x ∧ wordOrd m x = os) : us.length ≤ 1201 := by
  have := nodup_leW nd (b := [] :: (List.range 4).flatMap fun k => ((shW (swapAt os k)).take 300).map (· ++ [k])) fun x hx => by
    obtain ⟨hs, e⟩ := h x hx
    rcases last_in m1 m5 (w := os) hs e with rfl | ⟨k, v, k4, rfl, hv, h300⟩
    · exact List.mem_cons_self
    · refine List.mem_cons_of_mem _ (List.mem_flatMap.mpr ⟨k, List.mem_range.mpr k4, List.mem_map.mpr ⟨v, ?_, rfl⟩⟩)
      rw [List.take_of_length_le h300]; exact hv
  refine Nat.le_trans this ?_
  rw [List.length_cons, List.length_flatMap]
  have l : ∀ k, (((shW (swapAt os k)).take 300).map (· ++ [k])).length ≤ 300 := fun k => by rw [List.length_map, List.length_take]; omega
  have e4 : List.range 4 = [0, 1, 2, 3] := rfl
  rw [e4]
  simp only [List.map_cons, List.map_nil, List.sum_cons, List.sum_nil]
  have := l 0; have := l 1; have := l 2; have := l 3
  omega
end
end K18

set_option Elab.async false
set_option linter.all false
set_option maxRecDepth 100000
set_option maxHeartbeats 4000000
namespace L2
open PySem PySem.Spec PyProof.Rows
theorem small100k {n : Nat} (h : n ≤ 100000) : n < sizeLine := by rw [sizeLine_eq]; omega
section
variable {K : PySem.W.Frag} {g : TG} {tt : TT} {te : TE} {vs : List Nat} {σ : St} {H1 H0 : Hp} {D : Addr} {Qd : Hp → Prop}
theorem lc_listE {a : Addr} {zs : List V} (H0 : Hp) (hD0 : H0 D ≠ none) (p : Nat → Bool) (f : Nat → PyData) (hD : H1 D = none) (ha : SqL K H1 a zs) (hz : zs.length ≤ 100000)
    (hs : ∀ i z H (Kk : VK) (Nx : Hp → Prop), zs[i]? = some z → Same H1 H → H D ≠ none → (p i = true → ∀ y H', Same H H' → Dp K (new H0 H') y (f i) → Kk y H') → (p i = false → ∀ H', Same H H' → Nx H') →
      g z (wipe σ vs) H fun σ2 H2 => wipe σ2 vs = wipe σ vs ∧ tt σ2 H2 fun b H3 => if b = true then te σ2 H3 Kk else Nx H3)
    (hd : ∀ H xs, Same H1 H → H D = some (.lst xs) → DpAll K (new H0 H) xs (((List.range zs.length).filter p).map f) → Qd H) :
    ∃ W : Nat → Nat → Hp → Prop, (∃ m, W 0 m (upd H1 D (.lst []))) ∧ ∀ i m H, W i m H →
      ((Itl K a).stop i H ∧ Qd H) ∨ ((Itl K a).go i H ∧ ∃ Nx : Hp → Prop, (∀ H', Nx H' → ∃ m', m' < m ∧ W (i + 1) m' H') ∧ ∀ x H', (Itl K a).yld i H x H' → g x (wipe σ vs) H' fun σ2 H2 => wipe σ2 vs = wipe σ vs ∧ tt σ2 H2 fun b H3 =>
        if b = true then te σ2 H3 fun y H4 => ∃ acc, H4 D = some (.lst acc) ∧ acc.length < sizeLine ∧ Nx (upd H4 D (.lst (acc ++ [y]))) else Nx H3) := by
  refine lc_list (xs := zs) (fun i H => i ≤ zs.length ∧ Same H1 H ∧ ∃ xs, H D = some (.lst xs) ∧ xs.length ≤ i ∧ DpAll K (new H0 H) xs (((List.range i).filter p).map f)) ⟨Nat.zero_le _, same_new hD, [], upd_same, Nat.le_refl _, .nil⟩ (fun i H _ h => h.2.1.seqL ha) ?_ ?_
  · rintro i z H hi ⟨hin, s1, xs, hx, hl, dp⟩
    have hi' : i < zs.length := (List.getElem?_eq_some_iff.mp hi).1
    refine hs i z H _ _ hi s1 (by rw [hx]; simp) (fun hp y H' s' dy => ⟨xs, s' _ _ hx, small100k (by omega), hi', same_upd (s1.trans s') hD, xs ++ [y], upd_same, by rw [List.length_append]; show xs.length + 1 ≤ i + 1; omega, ?_⟩) fun hp H' s' => ⟨hi', s1.trans s', xs, s' _ _ hx, by omega, ?_⟩
    · rw [new_upd hD0, filter_map_snoc, if_pos hp]
      exact (dp.same (new_mono s')).snoc dy
    · rw [filter_map_snoc, if_neg (by rw [hp]; decide), List.append_nil]
      exact dp.same (new_mono s')
  · rintro H ⟨_, s1, xs, hx, _, dp⟩
    exact hd H xs s1 hx dp
end
end L2

set_option Elab.async false
set_option linter.all false
set_option maxRecDepth 100000
set_option maxHeartbeats 4000000
namespace K18
open PySem L2
section
variable {P : Program} {w : World} {K : PySem.W.Frag} {mg : Str → Option Value} {base : Heap} {A : Adr} {gq : Array GenState → Drawn → Prop}
theorem ok_whole (T : Txt K mg A) : FnOk P w K mg base (CXq gq) 1 A.whole A.fd_whole P_whole (sp_whole K) := by
  have nd := sc_whole.nd
  refine T.F_whole.okc sc_whole (fun vs H Q E h => ?_) (fun A' outer s H vs Q E hr h => ?_)
  · obtain ⟨v, k, rfl, _⟩ := h; rfl
  obtain ⟨v, k, rfl, hk, q⟩ := h
  refine ⟨_, (pss_one (ps_ret (pe_and (pe_callB call_isi (by rfl) T.z_isinstance (by decide +kernel) (pa_cons (pv 0) (pa_cons (pe_ty "int" (by rfl) T.z_int (by decide +kernel)) pa_nil))) (pe_one (pe_not (pe_callB call_isi (by rfl) T.z_isinstance (by decide +kernel) (pa_cons (pv 0) (pa_cons (pe_ty "bool" (by rfl) T.z_bool (by decide +kernel)) pa_nil)))))))), ?_⟩
  refine ⟨v, rfl, v, k, "int", rfl, hk, .inl rfl, _, rfl, ?_⟩
  unfold wholeK at q
  cases e : isi k "int" with
  | false =>
    rw [e] at q
    exact iteF q
  | true =>
    rw [e] at q
    refine iteT ⟨v, rfl, v, k, "bool", rfl, hk, .inr (.inl rfl), _, rfl, q⟩
def sp_wrong (K : PySem.W.Frag) : Sp := fun vs H Q _ => ∃ (a : Addr) (ns : List Int), vs = [.ref a] ∧ SqT K H a (intsV ns) ∧ ns.length ≤ 5 ∧ ∀ (l : Addr) (rs : List V) (ps : List (Int × Int)) (H' : Hp), Same H H' → H' l = some (.lst rs) → PrA H' rs ps → rs.length = inv ns → Q (.ref l) H'
theorem ok_wrong (T : Txt K mg A) : FnOk P w K mg base (CXq gq) 1 A.wrong A.fd_wrong P_wrong (sp_wrong K) := by
  have nd := sc_wrong.nd
  refine T.F_wrong.okc sc_wrong (fun vs H Q E h => ?_) (fun A' outer s H vs Q E hr h => ?_)
  · obtain ⟨a, ns, rfl, _⟩ := h; rfl
  obtain ⟨a, ns, rfl, ha, hz, q⟩ := h
  refine ⟨_, (pss_cons (ps_set (i := 1) nd rfl (Or.inl rfl) (pe_lst pa_nil))
      (pss_cons (ps_for PassesOwn.never rfl (pi_range1 (by rfl) T.z_range (pa_cons (pe_callB call_len (by rfl) T.z_len PySem.boot_len (pa_cons (pv 0) pa_nil)) pa_nil)) (pg_name (i := 2) nd rfl (Or.inr rfl)) (pss_one (ps_set (i := 1) nd rfl (Or.inl rfl) (pe_op op_cat (pv 1) (pe_lc (own := [("_law_j", 3)]) (g := gName 3) (by rfl) nd (pi_range2 (by rfl) T.z_range (pa_cons (pe_op op_add (pv 2) pe_int) (pa_cons (pe_callB call_len (by rfl) T.z_len PySem.boot_len (pa_cons (pv 0) pa_nil)) pa_nil))) (blkOk_by (own := [("_law_j", 3)]) (N := N_wrong) (sc := defScope s_wrong) (by decide +kernel)) (fun _ _ _ _ _ => pg_name (i := 3) nd rfl (Or.inl rfl)) (fun _ _ _ _ _ => (pts_one (pt_cmpR op_gt (pe_ix (r := rIxT K) ix_tup (pv 0) (pv 2) (fun _ _ => rfl)) (pe_ix (r := rIxT K) ix_tup (pv 0) (pv 3) (fun _ _ => rfl)) (nomark _)))) (fun _ _ _ _ _ => (pe_tup (pa_cons (pv 2) (pa_cons (pv 3) pa_nil)))))))))
      (pss_one (ps_ret (pv 1))))), ?_⟩
  refine ⟨(by show 0 ≤ sizeLine; decide), fun l0 hl0 => ?_⟩
  have s1 := same_new (o := .lst []) hl0
  refine ⟨_, rfl, .ref a, ns.length, rfl, .inr ⟨_, s1.seqT ha, (intsV_len ns).symm⟩, _, rfl, by omega, by omega, ?_⟩
  have en : ((ns.length : Nat) : Int).toNat = ns.length := by omega
  rw [en]
  refine for_range (lo := 0) (n := ns.length) (fun i σ H2 => ∃ (l : Addr) (rs : List V) (ps : List (Int × Int)) (u v : Option V), σ = [some (.ref a), some (.ref l), u, v] ∧ i ≤ ns.length ∧ Same H H2 ∧ H2 l = some (.lst rs) ∧ PrA H2 rs ps ∧ rs.length + inv (ns.drop i) = inv ns ∧ rs.length ≤ 5 * i)
    ⟨l0, [], [], none, none, rfl, Nat.zero_le _, s1, upd_same, .nil, by simp, by simp⟩ ?_ ?_
  · rintro i σ H2 hi ⟨l, rs, ps, u, v, rfl, hin, s2, hl, pr, ei, e5⟩
    obtain ⟨x, ex⟩ := get_some hi
    refine ⟨_, rfl, _, rfl, _, _, rfl, rfl, _, rfl, .ref a, ns.length, rfl, .inr ⟨_, s2.seqT ha, (intsV_len ns).symm⟩, _, _, rfl, ⟨by omega, by omega, by omega, by omega⟩, fun D hD => ?_⟩
    have hD : H2 D = none := hD
    have nD : ((ns.length : Int) - (0 + (i : Int) + 1)).toNat = ns.length - (i + 1) := by omega
    show ∃ W : Nat → Nat → Hp → Prop, _
    rw [nD]
    refine lc_range (lo := 0 + (i : Int) + 1) (n := ns.length - (i + 1)) (fun j H3 => ∃ (rs' : List V) (ps' : List (Int × Int)), Same H2 H3 ∧ H3 D = some (.lst rs') ∧ PrA H3 rs' ps' ∧ rs'.length = lessN x ((ns.drop (i + 1)).take j) ∧ j ≤ ns.length - (i + 1)) ⟨[], [], same_new hD, upd_same, .nil, rfl, Nat.zero_le _⟩ ?_ ?_
    · rintro j H3 hj ⟨rs', ps', s3, hD3, pr', ej, hjl⟩
      obtain ⟨z, ez⟩ := get_some (show i + 1 + j < ns.length by omega)
      have ha3 := s3.seqT (s2.seqT ha)
      have e1 : (0 : Int) + (i : Int) = (i : Int) := by omega
      have etk : lessN x ((ns.drop (i + 1)).take (j + 1)) = lessN x ((ns.drop (i + 1)).take j) + (if z < x then 1 else 0) := by
        rw [take_step (k := z) (by rw [List.getElem?_drop]; exact ez), lessN_snoc]
      refine ⟨rfl, _, rfl, _, rfl, a, _, _, .int x, rfl, rfl, ha3, at_of (j := i) (by omega) (get_intsV ex), _, rfl, _, rfl, a, _, _, .int z, rfl, rfl, ha3, at_of (j := i + 1 + j) (by omega) (get_intsV ez), _, _, rfl, rfl, _, rfl, ?_⟩
      refine ite2 (fun hgt => ?_) (fun hle => ?_)
      · have hgt : z < x := by simpa using hgt
        refine ⟨_, rfl, _, rfl, (by show 2 ≤ sizeLine; decide), fun t ht => ?_⟩
        have s4 := same_new (o := .tup [.int (0 + (i : Int)), .int (0 + (i : Int) + 1 + (j : Int))]) ht
        have ntD : t ≠ D := fun e => by rw [e, hD3] at ht; cases ht
        refine ⟨_, s4 _ _ hD3, ?_, rs' ++ [.ref t], ps' ++ [(0 + (i : Int), 0 + (i : Int) + 1 + (j : Int))], same_upd (s3.trans s4) hD, upd_same, ?_, ?_, by omega⟩
        · rw [ej]; exact small1000 (Nat.le_trans (lessN_le _ _) (by rw [List.length_take, List.length_drop]; omega))
        · have p4 := (pr'.same s4).snoc (q := t) (x := 0 + (i : Int)) (y := 0 + (i : Int) + 1 + (j : Int)) upd_same
          have : ∀ {rs : List V} {ps : List (Int × Int)} {H4 : Hp} {o : HO}, PrA H4 rs ps → H4 D = some (.lst rs') → PrA (upd H4 D o) rs ps := by
            intro rs ps H4 o pp hd
            induction pp with
            | nil => exact .nil
            | cons h t ih => exact .cons (by rw [upd_ne (ne_of h hd (by intro z; cases z))]; exact h) ih
          exact this p4 (s4 _ _ hD3)
        · rw [List.length_append, etk, if_pos hgt, ej]; rfl
      · have hle : ¬ z < x := by simpa using hle
        exact ⟨rs', ps', s3, hD3, pr', by rw [if_neg hle] at etk; omega, by omega⟩
    · rintro H3 ⟨rs', ps', s3, hD3, pr', ej, _⟩
      have hlen : rs'.length = lessN x (ns.drop (i + 1)) := by rw [ej, List.take_of_length_le (by rw [List.length_drop]; exact Nat.le_refl _)]
      have hle := lessN_le x (ns.drop (i + 1))
      rw [List.length_drop] at hle
      refine ⟨l, D, rs, rs', rfl, rfl, s3 _ _ hl, hD3, le_size (by omega), fun l' hl' => ?_⟩
      have s4 := same_new (o := .lst (rs ++ rs')) hl'
      refine ⟨l', rs ++ rs', ps ++ ps', _, _, rfl, by omega, (s2.trans s3).trans s4, upd_same, ((pr.same s3).app pr').same s4, ?_, by rw [List.length_append]; omega⟩
      have := inv_drop ex
      rw [List.length_append]; omega
  · rintro σ H2 ⟨l, rs, ps, u, v, rfl, hin, s2, hl, pr, ei, e5⟩
    rw [List.drop_length] at ei
    have ei : rs.length + 0 = inv ns := ei
    exact ⟨_, rfl, q l rs ps H2 s2 hl pr (by omega)⟩
def muO (H : Hp) : Option (Option V) → Nat
  | some (some (V.ref o)) => (match H o with
    | some (HO.tup xs) => inv ((intsOf xs).getD [])
    | _ => 0)
  | _ => 0
def muW (σ : L2.St) (H : Hp) : Nat := muO H (σ[1]?)
theorem muW_eq {σ : L2.St} {H : Hp} {o : Addr} {ns : List Int} (h1 : σ[1]? = some (some (V.ref o))) (h2 : H o = some (.tup (intsV ns))) : muW σ H = inv ns := by
  unfold muW
  rw [h1]
  simp only [muO, h2, intsOf_intsV, Option.getD_some]
def sp_short : Sp := fun vs H Q _ => ∃ (p o : Addr) (n : Int) (m : Nat) (ns : List Int), vs = [.ref p, .ref o] ∧ H p = some (.lst [.int n]) ∧ H o = some (.tup (intsV ns)) ∧ ns.length = m ∧ m ≤ 5 ∧ POr ns ∧
  ∀ (ks : List Nat) (l : Addr) (n' : Int) (H' : Hp), ks.length = inv ns → wordOrd m ks = ns → (∀ k ∈ ks, k + 2 ≤ m) → p ≠ l → H' l = some (.lst (natsV ks)) → H' p = some (.lst [.int n']) → SameB p H H' → Q (.ref l) H'
theorem ok_short_word (T : Txt K mg A) : FnOk P w K mg base (CXq gq) 2 A.short_word A.fd_short_word P_short_word sp_short := by
  have nd := sc_short_word.nd
  have G_take : FnOk P w K mg base (CXq gq) 1 A.take A.fd_take P_take sp_take := ok_take T
  have G_wrong : FnOk P w K mg base (CXq gq) 1 A.wrong A.fd_wrong P_wrong (sp_wrong K) := ok_wrong T
  have b_take := b_take T
  have b_wrong := b_wrong T
  refine T.F_short_word.okc sc_short_word (fun vs H Q E h => ?_) (fun A' outer s H vs Q E hr h => ?_)
  · obtain ⟨p, o, n, m, ns, rfl, _⟩ := h; rfl
  obtain ⟨p, o, n, m, ns, rfl, hp, ho, hm, m2, pns, q⟩ := h
  refine ⟨_, (pss_cons (ps_set (i := 2) nd rfl (Or.inl rfl) (pe_lst pa_nil))
      (pss_cons (ps_while PassesOwn.never (pt_cmpR (op_neD hr.units) (pe_call (G_wrong.mono (by decide)) hr rfl T.m_wrong T.F_wrong.kp b_wrong .nil pass0 (pa_cons (pv 1) pa_nil)) (pe_lst pa_nil) (nomark _)) (pss_cons (ps_setLc (i := 3) (own := [("_law_k", 4)]) (g := gName 4) (by rfl) nd rfl rfl (sw_true rfl rfl rfl (by decide +kernel)) (pi_range1 (by rfl) T.z_range (pa_cons (pe_op op_sub (pe_callB call_len (by rfl) T.z_len PySem.boot_len (pa_cons (pv 1) pa_nil)) pe_int) pa_nil)) (blkOk_by (own := [("_law_k", 4)]) (N := N_short_word) (sc := defScope s_short_word) (by decide +kernel)) (fun _ _ _ _ _ => pg_name (i := 4) nd rfl (Or.inl rfl)) (fun _ _ _ _ _ => (pts_one (pt_cmpR op_gt (pe_ix (r := rIxT K) ix_tup (pv 1) (pv 4) (fun _ _ => rfl)) (pe_ix (r := rIxT K) ix_tup (pv 1) (pe_op op_add (pv 4) pe_int) (fun _ _ => rfl)) (nomark _)))) (fun _ _ _ _ _ => (pv 4)))
        (pss_cons (ps_set (i := 4) nd rfl (Or.inl rfl) (pe_ix ix_list (pv 3) (pe_call (G_take.mono (by decide)) hr rfl T.m_take T.F_take.kp b_take .nil pass0 (pa_cons (pv 0) (pa_cons (pe_callB call_len (by rfl) T.z_len PySem.boot_len (pa_cons (pv 3) pa_nil)) pa_nil))) (fun _ _ => rfl)))
        (pss_cons (ps_set (i := 2) nd rfl (Or.inl rfl) (pe_op op_cat (pe_lst (pa_cons (pv 4) pa_nil)) (pv 2)))
        (pss_one (ps_set (i := 1) nd rfl (Or.inr rfl) (pe_op op_catK (pe_op op_catK (pe_slice sl_tupK (pv 1) po_none (po_some (pv 4))) (pe_tup (pa_cons (pe_ix ix_tup (pv 1) (pe_op op_add (pv 4) pe_int) (fun _ _ => rfl)) (pa_cons (pe_ix ix_tup (pv 1) (pv 4) (fun _ _ => rfl)) pa_nil)))) (pe_slice sl_tupK (pv 1) (po_some (pe_op op_add (pv 4) pe_int)) po_none))))))))
      (pss_one (ps_ret (pv 2))))), ?_⟩
  refine ⟨(by show 0 ≤ sizeLine; decide), fun l0 hl0 => ?_⟩
  have s0 := same_new (o := .lst []) hl0
  have hpl : p ≠ l0 := ne_of_none hp hl0
  refine while_by (fun σ H2 => ∃ (o' l : Addr) (ns' : List Int) (ks : List Nat) (n' : Int) (u v : Option V), σ = [some (.ref p), some (.ref o'), some (.ref l), u, v] ∧ p ≠ l ∧ H2 o' = some (.tup (intsV ns')) ∧ ns'.length = m ∧ H2 l = some (.lst (natsV ks)) ∧ (∀ k ∈ ks, k + 2 ≤ m) ∧ (ks.length + inv ns' = inv ns ∧ ks.foldl swapAt ns' = ns ∧ POr ns') ∧ H2 p = some (.lst [.int n']) ∧ SameB p H H2)
    muW ⟨o, l0, ns, [], n, none, none, rfl, hpl, s0 _ _ ho, hm, upd_same, fun k hk => (nomatch hk), ⟨by simp, rfl, pns⟩, s0 _ _ hp, fun b o _ e => s0 b o e⟩ ?_ ?_
  · rintro σ H2 ⟨o', l, ns', ks, n', u, v, rfl, hpl', ho', hm', hl, hk, ⟨ei, efo, pns'⟩, hp2, sb⟩
    have emu := muW_eq (σ := [some (.ref p), some (.ref o'), some (.ref l), u, v]) rfl ho'
    refine ⟨_, rfl, o', ns', rfl, SqT.of ho', by omega, fun lw rs ps H3 s3 hw pr ew => ⟨(by show 0 ≤ sizeLine; decide), fun le hle => ?_⟩⟩
    have s4 := same_new (o := .lst []) hle
    refine ⟨_, _, .lst (SqL.of (s4 _ _ hw)) (pr.same s4).dp, .lst (SqL.of upd_same) .nil, shaped_p ps, by decide, _, rfl, ?_⟩
    rw [eqv_nil]
    have e34 := s3.trans s4
    have ho4 := e34 _ _ ho'
    have hl4 := e34 _ _ hl
    have hp4 := e34 _ _ hp2
    have hplen := pr.length
    cases ps with
    | nil =>
      refine iteF ?_
      have hinv : inv ns' = 0 := by rw [← ew, hplen]; rfl
      have epl : ns' = plainI m := by rw [(wp_inv pns').2.mp hinv, hm']
      exact ⟨_, rfl, q ks l n' _ (by omega) (by rw [epl] at efo; exact efo) hk hpl' hl4 hp4 fun b o hb e => e34 b o (sb b o hb e)⟩
    | cons pp ps =>
      refine iteT ?_
      have hinv : 0 < inv ns' := by rw [← ew, hplen]; simp
      refine ⟨_, rfl, .ref o', ns'.length, rfl, .inr ⟨_, SqT.of ho4, (intsV_len ns').symm⟩, _, _, rfl, rfl, _, rfl, by omega, by omega, fun D hD => ?_⟩
      have nD : ((ns'.length : Int) - 1).toNat = m - 1 := by omega
      show ∃ W : Nat → Nat → Hp → Prop, _
      rw [nD]
      have hD : (upd H3 le (.lst [])) D = none := hD
      refine lc_range (lo := 0) (n := m - 1) (fun j H5 => ∃ fs : List Nat, Same (upd H3 le (.lst [])) H5 ∧ H5 D = some (.lst (natsV fs)) ∧ j ≤ m - 1 ∧ fs.length ≤ j ∧ (∀ f ∈ fs, f + 2 ≤ m ∧ ∃ x y : Int, ns'[f]? = some x ∧ ns'[f + 1]? = some y ∧ y < x) ∧ ∀ f, f < j → (∃ x y : Int, ns'[f]? = some x ∧ ns'[f + 1]? = some y ∧ y < x) → f ∈ fs)
        ⟨[], same_new hD, upd_same, Nat.zero_le _, Nat.le_refl _, fun f hf => (nomatch hf), fun f hf => absurd hf (by omega)⟩ ?_ ?_
      · rintro j H5 hj ⟨fs, s5, hD5, hjl, hfl, hf1, hf2⟩
        obtain ⟨x, ex⟩ := get_some (show j < ns'.length by omega)
        obtain ⟨y, ey⟩ := get_some (show j + 1 < ns'.length by omega)
        have ho5 := s5 _ _ ho4
        refine ⟨rfl, _, rfl, _, rfl, o', _, _, .int x, rfl, rfl, SqT.of ho5, at_of (j := j) (by omega) (get_intsV ex), _, rfl, _, rfl, _, _, rfl, rfl, o', _, _, .int y, rfl, rfl, SqT.of ho5, at_of (j := j + 1) (by omega) (get_intsV ey), _, _, rfl, rfl, _, rfl, ?_⟩
        refine ite2 (fun hgt => ?_) (fun hle' => ?_)
        · have hgt : y < x := by simpa using hgt
          refine ⟨_, rfl, _, hD5, by rw [natsV_len]; exact small1000 (by omega), fs ++ [j], same_upd s5 hD, ?_, by omega, by simp; omega, fun f hf => ?_, fun f hf hx => ?_⟩
          · rw [upd_same]
            unfold natsV
            rw [List.map_append]
            show some (HO.lst (_ ++ [V.int (0 + (j : Int))])) = some (HO.lst (_ ++ [V.int (j : Int)]))
            rw [Int.zero_add]
          · rcases List.mem_append.mp hf with h | h
            · exact hf1 f h
            · have := List.mem_singleton.mp h
              subst this
              exact ⟨by omega, x, y, ex, ey, hgt⟩
          · rcases Nat.lt_or_ge f j with h | h
            · exact List.mem_append_left _ (hf2 f h hx)
            · have : f = j := by omega
              subst this
              exact List.mem_append_right _ List.mem_cons_self
        · have hle' : ¬ y < x := by simpa using hle'
          refine ⟨fs, s5, hD5, by omega, by omega, hf1, fun f hf hx => ?_⟩
          rcases Nat.lt_or_ge f j with h | h
          · exact hf2 f h hx
          · have : f = j := by omega
            subst this
            obtain ⟨x', y', e1, e2, e3⟩ := hx
            rw [ex] at e1; rw [ey] at e2; cases e1; cases e2
            exact absurd e3 hle'
      · rintro H5 ⟨fs, s5, hD5, hjl, hfl, hf1, hf2⟩
        have hne : 0 < fs.length := by
          obtain ⟨k, x, y, e1, e2, e3⟩ := has_fall ns' hinv
          have hk1 : k + 1 < ns'.length := (List.getElem?_eq_some_iff.mp e2).1
          exact List.length_pos_of_mem (hf2 k (by omega) ⟨x, y, e1, e2, e3⟩)
        have ho5 := s5 _ _ ho4
        have hl5 := s5 _ _ hl4
        have hp5 := s5 _ _ hp4
        refine ⟨_, rfl, _, rfl, _, rfl, .ref D, fs.length, rfl, .inl ⟨_, SqL.of hD5, (natsV_len fs).symm⟩, p, n', (fs.length : Int), rfl, hp5, by omega, log_small (by omega) (by omega), fun d n2 d0 d1 => ?_⟩
        obtain ⟨f, ef⟩ := get_some (show d.toNat < fs.length by omega)
        obtain ⟨hfm, x, y, ex, ey, hxy⟩ := hf1 f (List.mem_of_getElem? ef)
        have npD : p ≠ D := ne_of_none hp4 hD
        have efV : (natsV fs)[d.toNat]? = some (.int (f : Int)) := by unfold natsV; rw [List.getElem?_map, ef]; rfl
        refine ⟨D, _, d, .int (f : Int), rfl, rfl, SqL.of (by rw [upd_ne npD.symm]; exact hD5), at_of (j := d.toNat) (by omega) efV, ?_⟩
        refine ⟨_, rfl, (by show 1 ≤ sizeLine; decide), fun l1 hl1 => ?_⟩
        have nop : o' ≠ p := ne_of ho5 hp5 (by intro z; cases z)
        have hp6 : (upd H5 p (.lst [.int n2])) p = some (.lst [.int n2]) := upd_same
        have ho6 : (upd H5 p (.lst [.int n2])) o' = some (.tup (intsV ns')) := by rw [upd_ne nop]; exact ho5
        have hl6 : (upd H5 p (.lst [.int n2])) l = some (.lst (natsV ks)) := by rw [upd_ne hpl'.symm]; exact hl5
        have s7 := same_new (o := .lst [V.int (f : Int)]) hl1
        have hks : ks.length ≤ 100 := by
          have : inv ns ≤ 100 := by
            have key : ∀ xs : List Int, inv xs ≤ xs.length * xs.length := by
              intro xs
              induction xs with
              | nil => exact Nat.le_refl _
              | cons a r ih =>
                have h1 := lessN_le a r
                show lessN a r + inv r ≤ (r.length + 1) * (r.length + 1)
                have h2 : (r.length + 1) * (r.length + 1) = r.length * r.length + r.length + r.length + 1 := by
                  rw [Nat.add_mul, Nat.mul_add]; omega
                omega
            have h2 : ns.length * ns.length ≤ 5 * 5 := Nat.mul_le_mul (by omega) (by omega)
            have := key ns
            omega
          omega
        refine ⟨_, rfl, l1, l, _, _, rfl, rfl, upd_same, s7 _ _ hl6, by rw [natsV_len]; exact le_size (by simp; omega), fun l2 hl2 => ?_⟩
        have s8 := s7.trans (same_new (o := .lst ([V.int (f : Int)] ++ natsV ks)) hl2)
        have ho8 := s8 _ _ ho6
        have hp8 := s8 _ _ hp6
        have npl2 : p ≠ l2 := ne_of_none (s7 _ _ hp6) hl2
        have exV : (intsV ns')[f]? = some (.int x) := get_intsV ex
        have eyV : (intsV ns')[f + 1]? = some (.int y) := get_intsV ey
        have hlenV : (intsV ns').length = m := by rw [intsV_len]; exact hm'
        refine ⟨_, rfl, _, rfl, _, rfl, o', _, rfl, ho8, fun p1 H1 t1 h1 => ?_⟩
        rw [cut_to (show f ≤ (intsV ns').length by omega)] at h1
        refine ⟨_, rfl, _, rfl, _, _, rfl, rfl, o', _, _, _, rfl, rfl, SqT.of (t1 _ _ ho8), at_of (j := f + 1) (by omega) eyV, _, rfl, _, rfl, o', _, _, _, rfl, rfl, SqT.of (t1 _ _ ho8), atI_nat exV, (by show 2 ≤ sizeLine; decide), fun p2 hp2' => ?_⟩
        have t2 := same_new (o := .tup [V.int y, V.int x]) hp2'
        refine ⟨p1, p2, _, _, rfl, rfl, t2 _ _ h1, upd_same, ?_, fun p3 H3' t3 h3 => ?_⟩
        · rw [List.length_take]; exact Nat.le_trans (show min f (intsV ns').length + 2 ≤ 1002 by omega) (by decide)
        refine ⟨_, rfl, _, rfl, _, _, rfl, rfl, _, rfl, o', _, rfl, t3 _ _ (t2 _ _ (t1 _ _ ho8)), fun p4 H4 t4 h4 => ?_⟩
        have e2 : ((f : Int) + 2) = ((f + 2 : Nat) : Int) := by omega
        rw [e2, cut_from (show f + 2 ≤ (intsV ns').length by omega)] at h4
        refine ⟨p3, p4, _, _, rfl, rfl, t4 _ _ h3, h4, ?_, fun p5 H6 t5 h5 => ?_⟩
        · rw [List.length_append, List.length_take, List.length_drop]; exact Nat.le_trans (show min f (intsV ns').length + 2 + ((intsV ns').length - (f + 2)) ≤ 2002 by omega) (by decide)
        rw [swapAt_cut _ f _ _ exV eyV, intsV_swap] at h5
        have tt := (((t1.trans t2).trans t3).trans t4).trans t5
        have hdn := inv_down ns' f x y ex ey hxy
        have sbF : SameB p H H6 := fun b ob hb e => by
          have z1 := s5 _ _ (e34 b ob (sb b ob hb e))
          have z2 : (upd H5 p (.lst [.int n2])) b = some ob := by rw [upd_ne hb]; exact z1
          exact tt _ _ (s8 _ _ z2)
        refine ⟨⟨p5, l2, swapAt ns' f, f :: ks, n2, _, _, rfl, npl2, h5, by rw [swapAt_len]; exact hm', tt _ _ upd_same, fun k hk' => ?_, ⟨by rw [List.length_cons]; omega, by rw [List.foldl_cons, swap_back]; exact efo, por_swap pns' f⟩, tt _ _ hp8, sbF⟩, ?_⟩
        · rcases List.mem_cons.mp hk' with rfl | h
          · exact hfm
          · exact hk k h
        · rw [emu, muW_eq rfl h5]; omega
  · rintro σ H Q Q' hq ⟨v, e, a, ns, e1, e2, e3, k⟩
    exact ⟨v, e, a, ns, e1, e2, e3, fun l rs ps H' s h1 h2 h3 => let ⟨z, k2⟩ := k l rs ps H' s h1 h2 h3; ⟨z, fun p hp => let ⟨d, e, x1, x2, x3, x4, b, eb, hh⟩ := k2 p hp; ⟨d, e, x1, x2, x3, x4, b, eb, hq _ _ hh⟩⟩⟩
def WsAt (H : Hp) : List Addr → List (List Nat) → Prop
  | [], [] => True
  | a :: as, w :: ws => H a = some (.lst (natsV w)) ∧ WsAt H as ws
  | _, _ => False
theorem WsAt.same {H H' : Hp} (s : Same H H') : ∀ {as : List Addr} {ws : List (List Nat)}, WsAt H as ws → WsAt H' as ws
  | [], [], h => h
  | [], _ :: _, h => h.elim
  | _ :: _, [], h => h.elim
  | _ :: _, _ :: _, h => ⟨s _ _ h.1, WsAt.same s h.2⟩
theorem WsAt.dp {K : PySem.W.Frag} {H : Hp} : ∀ {as : List Addr} {ws : List (List Nat)}, WsAt H as ws → DpAll K H (as.map V.ref) (ws.map wdD)
  | [], [], _ => .nil
  | [], _ :: _, h => h.elim
  | _ :: _, [], h => h.elim
  | _ :: _, _ :: _, h => .cons (dp_wd (SqL.of h.1)) (WsAt.dp h.2)
theorem WsAt.len {H : Hp} : ∀ {as : List Addr} {ws : List (List Nat)}, WsAt H as ws → as.length = ws.length
  | [], [], _ => rfl
  | [], _ :: _, h => h.elim
  | _ :: _, [], h => h.elim
  | _ :: _, _ :: _, h => by rw [List.length_cons, List.length_cons, WsAt.len h.2]
theorem WsAt.get {H : Hp} : ∀ {as : List Addr} {ws : List (List Nat)} {i : Nat} {a : Addr} {w : List Nat}, WsAt H as ws → as[i]? = some a → ws[i]? = some w → H a = some (.lst (natsV w))
  | [], [], _, _, _, _, e, _ => by simp at e
  | [], _ :: _, _, _, _, h, _, _ => h.elim
  | _ :: _, [], _, _, _, h, _, _ => h.elim
  | _ :: _, _ :: _, 0, _, _, h, e1, e2 => by cases e1; cases e2; exact h.1
  | _ :: _, _ :: _, i + 1, _, _, h, e1, e2 => WsAt.get (i := i) h.2 (by simpa using e1) (by simpa using e2)
theorem at_neg {as : List Addr} {x : Addr} (h : as[as.length - 1]? = some x) : atI (as.map V.ref) (-1) = some (.ref x) := by
  rcases List.eq_nil_or_concat as with rfl | ⟨as0, z, rfl⟩
  · simp at h
  · rw [List.concat_eq_append] at h ⊢
    rw [List.map_append]
    have : z = x := by simpa using h
    subst this
    exact atI_last _ _
def sp_leads (K : PySem.W.Frag) : Sp := fun vs H Q _ => ∃ (L a b : Addr) (ps : List Addr) (us : List (List Nat)) (k1 k2 : List Nat), vs = [.ref L, .ref a, .ref b] ∧ H L = some (.lst (ps.map V.ref)) ∧ WsAt H ps us ∧ H a = some (.lst (natsV k1)) ∧ H b = some (.lst (natsV k2)) ∧
  us[0]? = some k1 ∧ us.getLast? = some k2 ∧ us.Nodup ∧ us.length ≤ 1201 ∧ (∀ w ∈ us, w.length ≤ 30) ∧ (∀ (i : Nat) (x y : List Nat), us[i]? = some x → us[i + 1]? = some y → y ∈ mvL x) ∧ ∀ H', Same H H' → Q (.bl true) H'
theorem ok_leads (T : Txt K mg A) : FnOk P w K mg base (CXq gq) 2 A.leads A.fd_leads P_leads (sp_leads K) := by
  have nd := sc_leads.nd
  have G_moves : FnOk P w K mg base (CXq gq) 1 A.moves A.fd_moves P_moves (sp_lmoves K) := ok_moves T
  have G_whole : FnOk P w K mg base (CXq gq) 1 A.whole A.fd_whole P_whole (sp_whole K) := ok_whole T
  have b_moves := b_moves T
  have b_whole := b_whole T
  refine T.F_leads.okc sc_leads (fun vs H Q E h => ?_) (fun A' outer s H vs Q E hr h => ?_)
  · obtain ⟨L, a, b, ps, us, k1, k2, rfl, _⟩ := h; rfl
  obtain ⟨L, a, b, ps, us, k1, k2, rfl, hL, W, ha, hb, h0, hl, ndu, hz, hw, ch, q⟩ := h
  refine ⟨_, (pss_cons (ps_if (PW.pt (pw_or (pt_not (pt_val (pe_callB call_isi (by rfl) T.z_isinstance (by decide +kernel) (pa_cons (pv 0) (pa_cons (pe_ty "list" (by rfl) T.z_list (by decide +kernel)) pa_nil))))) (pw_or (pt_cmpR (op_eqD hr.units) (pv 0) (pe_lst pa_nil) (nomark _)) (pw_or (pt_cmpR (op_neD hr.units) (pe_ix ix_list (pv 0) pe_int (fun _ _ => rfl)) (pv 1) (nomark _)) (pw_or1 (pt_cmpR (op_neD hr.units) (pe_ix ix_list (pv 0) (pe_un un_neg pe_int) (fun _ _ => rfl)) (pv 2) (nomark _))))))) (pss_one (ps_ret pe_bl)) pss_nil)
      (pss_cons (ps_for PassesOwn.never rfl (pi_list (pv 0)) (pg_name (i := 3) nd rfl (Or.inl rfl)) (pss_one (ps_if (PW.pt (pw_or (pt_not (pt_val (pe_callB call_isi (by rfl) T.z_isinstance (by decide +kernel) (pa_cons (pv 3) (pa_cons (pe_ty "list" (by rfl) T.z_list (by decide +kernel)) pa_nil))))) (pw_or1 (pt_not (pt_val (pe_callB (cr_all rfl) (by rfl) T.z_all (by decide +kernel) (pa_cons (pe_lc (own := [("_law_k", 4)]) (g := gName 4) (by rfl) nd (pi_list (pv 3)) (blkOk_by (own := [("_law_k", 4)]) (N := N_leads) (sc := defScope s_leads) (by decide +kernel)) (fun _ _ _ _ _ => pg_name (i := 4) nd rfl (Or.inl rfl)) (fun _ _ _ _ _ => pts_nil) (fun _ _ _ _ _ => (pe_call (G_whole.mono (by decide)) hr rfl T.m_whole T.F_whole.kp b_whole .nil pass0 (pa_cons (pv 4) pa_nil)))) pa_nil))))))) (pss_one (ps_ret pe_bl)) pss_nil)))
      (pss_cons (ps_if (pt_cmpR op_ne (pe_callB call_lenTT (by rfl) T.z_len PySem.boot_len (pa_cons (pe_callTy (call_setTT rfl hr.units) (by rfl) T.z_set (by decide +kernel) (pa_cons (pe_lc (own := [("_law_word", 3)]) (g := gName 3) (by rfl) nd (pi_list (pv 0)) (blkOk_by (own := [("_law_word", 3)]) (N := N_leads) (sc := defScope s_leads) (by decide +kernel)) (fun _ _ _ _ _ => pg_name (i := 3) nd rfl (Or.inl rfl)) (fun _ _ _ _ _ => pts_nil) (fun _ _ _ _ _ => (pe_callTy (T := "tuple") (r := rTupOf K) (call_tupleB K) (by rfl) T.z_tuple (by decide +kernel) (pa_cons (pv 3) pa_nil)))) pa_nil)) pa_nil)) (pe_callB call_len (by rfl) T.z_len PySem.boot_len (pa_cons (pv 0) pa_nil)) (nomark _)) (pss_one (ps_ret pe_bl)) pss_nil)
      (pss_one (ps_ret (pe_callB (cr_all rfl) (by rfl) T.z_all (by decide +kernel) (pa_cons (pe_lc (own := [("_law_k", 4)]) (g := gName 4) (by rfl) nd (pi_range1 (by rfl) T.z_range (pa_cons (pe_op op_sub (pe_callB call_len (by rfl) T.z_len PySem.boot_len (pa_cons (pv 0) pa_nil)) pe_int) pa_nil)) (blkOk_by (own := [("_law_k", 4)]) (N := N_leads) (sc := defScope s_leads) (by decide +kernel)) (fun _ _ _ _ _ => pg_name (i := 4) nd rfl (Or.inl rfl)) (fun _ _ _ _ _ => pts_nil) (fun _ _ _ _ _ => (pe_cmpR (r := rInD K false) (op_inD hr.units) (pe_ix (r := rIxL K) ix_list (pv 0) (pe_op op_add (pv 4) pe_int) (fun _ _ => rfl)) (pe_call (G_moves.mono (by decide)) hr rfl T.m_moves T.F_moves.kp b_moves .nil pass0 (pa_cons (pe_ix (r := rIxL K) ix_list (pv 0) (pv 4) (fun _ _ => rfl)) pa_nil)) (by rfl)))) pa_nil))))))), ?_⟩
  have lu := W.len
  have l0 : 0 < us.length := (List.getElem?_eq_some_iff.mp h0).1
  refine ⟨_, rfl, .ref L, "list", "list", rfl, .inl ⟨rfl, _, SqL.of hL⟩, .inr (.inr (.inl rfl)), _, rfl, iteF ?_⟩
  refine ⟨_, rfl, (by show 0 ≤ sizeLine; decide), fun e0 he0 => ?_⟩
  have s1 := same_new (o := .lst []) he0
  refine ⟨_, _, .lst (SqL.of (s1 _ _ hL)) (W.same s1).dp, .lst (SqL.of upd_same) .nil, shaped_wds us, (by decide), ?_⟩
  rw [show PyData.eqv (.list (us.map wdD)) (.list []) = false by cases us with
    | nil => exact absurd l0 (by decide)
    | cons x r => rfl]
  refine ⟨_, rfl, iteF ?_⟩
  generalize upd H e0 (.lst []) = H1 at s1 ⊢
  obtain ⟨a0, ea0⟩ : ∃ a0, ps[0]? = some a0 := ⟨_, List.getElem?_eq_getElem (by omega)⟩
  have ga0 := (W.same s1).get ea0 h0
  refine ⟨_, rfl, L, _, _, .ref a0, rfl, rfl, SqL.of (s1 _ _ hL), atI_nat (j := 0) (by rw [List.getElem?_map, ea0]; rfl), ?_⟩
  refine ⟨_, rfl, _, _, dp_wd (SqL.of ga0), dp_wd (SqL.of (s1 _ _ ha)), shaped_lstD _, shaped_lstD _, ?_⟩
  rw [show PyData.eqv (wdD k1) (wdD k1) = true from eqv_self (shaped_lstD _)]
  refine ⟨_, rfl, iteF ?_⟩
  obtain ⟨a1, ea1⟩ : ∃ a1, ps[ps.length - 1]? = some a1 := ⟨_, List.getElem?_eq_getElem (by omega)⟩
  have ga1 := (W.same s1).get ea1 (show us[ps.length - 1]? = some k2 by rw [lu, ← List.getLast?_eq_getElem?]; exact hl)
  refine ⟨_, rfl, _, rfl, L, _, _, .ref a1, rfl, rfl, SqL.of (s1 _ _ hL), at_neg ea1, ?_⟩
  refine ⟨_, rfl, _, _, dp_wd (SqL.of ga1), dp_wd (SqL.of (s1 _ _ hb)), shaped_lstD _, shaped_lstD _, ?_⟩
  rw [show PyData.eqv (wdD k2) (wdD k2) = true from eqv_self (shaped_lstD _)]
  refine ⟨_, rfl, iteF ?_⟩
  refine ⟨_, rfl, L, rfl, ⟨_, SqL.of (s1 _ _ hL)⟩, for_list (K := K) (a := L) (xs := ps.map V.ref) (fun i σ Hx => ∃ (v3 : Option V), σ = [some (.ref L), some (.ref a), some (.ref b), v3, none] ∧ Same H1 Hx) ⟨none, rfl, .refl _⟩ (fun i σ Hx _ h => by obtain ⟨_, _, g⟩ := h; exact SqL.of (g _ _ (s1 _ _ hL))) ?_ ?_⟩
  · rintro i z σ Hx ez ⟨v3, rfl, sx⟩
    rw [List.getElem?_map] at ez
    cases ep : ps[i]? with
    | none => rw [ep] at ez; cases ez
    | some p =>
    rw [ep] at ez
    obtain rfl := Option.some.inj ez
    have lp := (List.getElem?_eq_some_iff.mp ep).1
    obtain ⟨u, ew⟩ : ∃ u, us[i]? = some u := ⟨_, List.getElem?_eq_getElem (by omega)⟩
    have hp := (W.same (s1.trans sx)).get ep ew
    have lw := hw u (List.mem_of_getElem? ew)
    refine ⟨_, rfl, .ref p, "list", "list", rfl, .inl ⟨rfl, _, SqL.of hp⟩, .inr (.inr (.inl rfl)), _, rfl, iteF ?_⟩
    refine ⟨_, rfl, p, rfl, ⟨_, SqL.of hp⟩, fun F hF => ?_⟩
    have hF : Hx F = none := hF
    refine lc_listD (K := K) (a := p) (zs := natsV u) (oneH F) (oneH_at F) (fun _ => true) (fun _ => .bool true) hF (SqL.of hp) (by rw [natsV_len]; omega) ?_ ?_
    · intro j y H3 Kk Nx hy s3 hF3 hK hN
      obtain ⟨n, en, rfl⟩ := natsV_get hy
      exact ⟨rfl, yes_of ⟨_, rfl, _, "int", rfl, rfl, hK rfl _ _ (.refl _) (.bl _)⟩⟩
    intro H3 ys s3 hy dp3
    rw [filter_true, map_const_true] at dp3
    rw [dp3.bls] at hy
    refine ⟨F, _, rfl, SqL.of hy, ?_⟩
    rw [all_rep]
    refine ⟨_, rfl, iteF ?_⟩
    exact ⟨_, rfl, sx.trans s3⟩
  · rintro σ Hx ⟨v3, rfl, sx⟩
    have s1x := s1.trans sx
    have hLx := s1x _ _ hL
    refine ⟨_, rfl, L, rfl, ⟨_, SqL.of hLx⟩, fun D hD => ?_⟩
    have hD : Hx D = none := hD
    refine lc_listE (K := K) (a := L) (zs := ps.map V.ref) (oneH D) (oneH_at D) (fun _ => true) (fun i => tupD (toI (us.getD i []))) hD (SqL.of hLx) (by rw [List.length_map]; omega) ?_ ?_
    · intro i z H3 Kk Nx hz3 s3 hD3 hK hN
      rw [List.getElem?_map] at hz3
      cases ep : ps[i]? with
      | none => rw [ep] at hz3; cases hz3
      | some p =>
      rw [ep] at hz3
      obtain rfl := Option.some.inj hz3
      have lp := (List.getElem?_eq_some_iff.mp ep).1
      obtain ⟨u, ew⟩ : ∃ u, us[i]? = some u := ⟨_, List.getElem?_eq_getElem (by omega)⟩
      have hp := (W.same (s1x.trans s3)).get ep ew
      refine ⟨rfl, yes_of ⟨_, rfl, p, natsV u, rfl, .inl ⟨SqL.of hp, fun t ht => ?_⟩⟩⟩
      have ht : H3 t = none := ht
      have nt : t ≠ D := fun e => by subst e; exact hD3 ht
      refine hK rfl _ _ (same_new ht) ?_
      rw [show us.getD i [] = u from getD_some ew]
      exact dp_newT (by unfold oneH; rw [if_neg nt]) upd_same (by rw [natsV_toI]; exact dp_ints _ _ _)
    intro H3 xs s3 hx dp3
    rw [filter_true, List.length_map] at dp3
    have e3 : (List.range ps.length).map (fun i => tupD (toI (us.getD i []))) = (us.map toI).map tupD := by
      apply List.ext_getElem?
      intro i
      rw [List.getElem?_map, List.getElem?_map, List.getElem?_map]
      rcases Nat.lt_or_ge i us.length with c | c
      · rw [List.getElem?_range (by omega), List.getElem?_eq_getElem c]
        simp [c]
      · rw [List.getElem?_eq_none (l := List.range ps.length) (by rw [List.length_range]; omega), List.getElem?_eq_none c]; rfl
    rw [e3] at dp3
    have hL3 := s3 _ _ hLx
    refine ⟨D, xs, us.map toI, rfl, SqL.of hx, dp3.same (new_same _ _), ?_, by rw [List.length_map]; omega, fun S pp e1 e2 hS => ?_⟩
    · exact List.Pairwise.map _ (fun a b h e => h (toI_inj e)) ndu
    have lpp : pp.length = us.length := by have := congrArg List.length e1; rw [List.length_map, List.length_map] at this; exact this
    have s4 := same_new (o := SetG (cxOf (CXq gq) P w K mg base N_leads (Str.ofString "_law_leads") (defScope s_leads) A.leads A.fd_leads.code A' outer s H E).nox S pp) hS
    refine ⟨S, pp, rfl, upd_same, by omega, ?_⟩
    generalize upd H3 S _ = H4 at s4 ⊢
    refine ⟨_, rfl, .ref L, ps.length, rfl, .inl ⟨_, SqL.of (s4 _ _ hL3), by rw [List.length_map]⟩, ?_⟩
    refine ⟨rfl, ?_⟩
    rw [show pp.length = ps.length by omega, decide_eq_true (p := V.int (ps.length : Int) = V.int (ps.length : Int)) rfl]
    refine ⟨_, rfl, iteF ?_⟩
    have hL4 := s4 _ _ hL3
    have s14 := (s1x.trans s3).trans s4
    refine ⟨_, rfl, .ref L, ps.length, rfl, .inl ⟨_, SqL.of hL4, by rw [List.length_map]⟩, _, _, rfl, rfl, _, rfl, by omega, by omega, fun E2 hE => ?_⟩
    have hE : H4 E2 = none := hE
    show ∃ W : Nat → Nat → Hp → Prop, _
    rw [show ((ps.length : Nat) : Int) - 1 = ((ps.length - 1 : Nat) : Int) by omega, Int.toNat_natCast]
    refine lc_range (lo := 0) (n := ps.length - 1) (fun t HY => t ≤ ps.length - 1 ∧ Same H4 HY ∧ HY E2 = some (.lst ((List.replicate t true).map V.bl))) ⟨Nat.zero_le _, same_new hE, upd_same⟩ ?_ ?_
    · rintro t HY htl ⟨_, sY, hDY⟩
      obtain ⟨x0, ex0⟩ : ∃ x0, ps[t]? = some x0 := ⟨_, List.getElem?_eq_getElem (by omega)⟩
      obtain ⟨x1, ex1⟩ : ∃ x1, ps[t + 1]? = some x1 := ⟨_, List.getElem?_eq_getElem (by omega)⟩
      obtain ⟨y0, ey0⟩ : ∃ y0, us[t]? = some y0 := ⟨_, List.getElem?_eq_getElem (by omega)⟩
      obtain ⟨y1, ey1⟩ : ∃ y1, us[t + 1]? = some y1 := ⟨_, List.getElem?_eq_getElem (by omega)⟩
      have WY := W.same (s14.trans sY)
      have h0 := WY.get ex0 ey0
      have h1 := WY.get ex1 ey1
      have l0 := hw y0 (List.mem_of_getElem? ey0)
      have et : (0 : Int) + (t : Int) = (t : Int) := by omega
      refine ⟨rfl, yes_of ?_⟩
      refine ⟨_, rfl, _, rfl, _, _, rfl, rfl, L, _, _, .ref x1, rfl, rfl, SqL.of (sY _ _ hL4), at_of (j := t + 1) (by omega) (by rw [List.getElem?_map, ex1]; rfl), ?_⟩
      refine ⟨_, rfl, _, rfl, L, _, _, .ref x0, rfl, rfl, SqL.of (sY _ _ hL4), at_of (j := t) et (by rw [List.getElem?_map, ex0]; rfl), ?_⟩
      refine ⟨x0, y0, rfl, SqL.of h0, l0, fun l rs vs H9 s9 hf0 hf pm _ dp => ?_⟩
      refine ⟨_, wdD y1, dp_wd (SqL.of (s9 _ _ h1)), .lst (SqL.of hf) dp, shaped_wds _, shaped_lstD _, ?_⟩
      rw [wd_any (pm.mem_iff.mpr (ch t y0 y1 ey0 ey1))]
      refine ⟨_, s9 _ _ hDY, by rw [List.length_map, List.length_replicate]; exact small100k (by omega), by omega, same_upd (sY.trans s9) hE, ?_⟩
      rw [upd_same, List.replicate_succ', List.map_append]; rfl
    · rintro HY ⟨_, sY, hDY⟩
      refine ⟨E2, List.replicate (ps.length - 1) true, rfl, SqL.of hDY, ?_⟩
      rw [show (List.replicate (ps.length - 1) true).all id = true by simp]
      exact q HY (s14.trans sY)
end
end K18

set_option Elab.async false
set_option linter.all false
set_option maxRecDepth 100000
set_option maxHeartbeats 4000000
namespace K18
open PySem L2
section
variable {P : Program} {w : World} {K : PySem.W.Frag} {mg : Str → Option Value} {base : Heap} {A : Adr} {gq : Array GenState → Drawn → Prop}
def sp_good (K : PySem.W.Frag) (A : Adr) : Sp := fun vs H Q _ => ∃ (m : Nat) (a b : Addr) (k1 k2 : List Nat), vs = [.int (m : Nat), .ref a, .ref b] ∧ 1 ≤ m ∧ m ≤ 5 ∧ H a = some (.lst (natsV k1)) ∧ H b = some (.lst (natsV k2)) ∧ (∀ k ∈ k1, k + 2 ≤ m) ∧ (∀ k ∈ k2, k + 2 ≤ m) ∧
  Shrt m k1 ∧ Shrt m k2 ∧ wordOrd m k1 = wordOrd m k2 ∧ Tab A H ∧ ∀ H', Same H H' → Q (.bl true) H'
theorem wsat_of {H : Hp} : ∀ {ps : List Addr} {ws : List (List Nat)}, ps.length = ws.length → (∀ (j : Nat) (p : Addr) (w : List Nat), ps[j]? = some p → ws[j]? = some w → H p = some (.lst (natsV w))) → WsAt H ps ws
  | [], [], _, _ => trivial
  | [], _ :: _, e, _ => by simp at e
  | _ :: _, [], e, _ => by simp at e
  | _ :: _, _ :: _, e, h => ⟨h 0 _ _ rfl rfl, wsat_of (by simpa using e) fun j p w a b => h (j + 1) p w (by simpa using a) (by simpa using b)⟩
theorem way_mv {ws : List (List Nat)} {k1 : List Nat} {us : List (List Nat)} (wb : WayB ws k1 us) : ∀ (i : Nat) (x y : List Nat), us[i]? = some x → us[i + 1]? = some y → y ∈ mvL x := fun i x y h1 h2 => mv_in (wb.2.2.2.2 i x y h1 h2).symm
theorem way_all {m : Nat} (m1 : 1 ≤ m) (m5 : m ≤ 5) {ws : List (List Nat)} {k1 : List Nat} {us : List (List Nat)} (wb : WayB ws k1 us) (hk : ∀ k ∈ k1, k + 2 ≤ m) (hs : Shrt m k1) : us.length ≤ 1201 ∧ (∀ w ∈ us, w.length ≤ 30) := by
  have key : ∀ x ∈ us, (∀ k ∈ x, k + 2 ≤ m) ∧ wordOrd m x = wordOrd m k1 ∧ Shrt m x := fun x hx => by
    obtain ⟨i, hi⟩ := List.mem_iff_getElem?.mp hx
    exact way_shrt wb.1 wb.2.2.2.2 hk hs i x hi
  exact ⟨few_words m1 m5 (os := wordOrd m k1) wb.2.2.1 fun x hx => ⟨(key x hx).2.2, (key x hx).2.1⟩, fun w hw => by have := shrt_ten m1 m5 (key w hw).2.2; omega⟩
theorem ok_good (T : Txt K mg A) (B : Bas mg base A) : FnOk P w K mg base CX0 8 A.good A.fd_good P_good (sp_good K A) := by
  have nd := sc_good.nd
  have G_led : FnOk P w K mg base CX0 7 A.led A.fd_led P_led (sp_led K A) := ok_led T B
  have G_leads : FnOk P w K mg base (CXq Bare) 2 A.leads A.fd_leads P_leads (sp_leads K) := ok_leads T
  have b_led := b_led T
  have b_leads := b_leads T
  refine T.F_good.okc sc_good (fun vs H Q E h => ?_) (fun A' outer s H vs Q E hr h => ?_)
  · obtain ⟨m, a, b, k1, k2, rfl, _⟩ := h; rfl
  obtain ⟨m, a, b, k1, k2, rfl, m1, m5, ha, hb, hk1, hk2, sh1, sh2, eo, ht, q⟩ := h
  refine ⟨_, (pss_cons (ps_set (i := 3) nd rfl (Or.inl rfl) (pe_lst (pa_cons (pe_callTy call_list_of (by rfl) T.z_list (by decide +kernel) (pa_cons (pv 1) pa_nil)) (pa_cons (pe_callTy call_list_of (by rfl) T.z_list (by decide +kernel) (pa_cons (pv 2) pa_nil)) pa_nil))))
      (pss_cons (ps_set (i := 4) nd rfl (Or.inl rfl) (pe_call (G_led.mono (by decide)) hr rfl T.m_led T.F_led.kp b_led .nil pass0 (pa_cons (pv 0) (pa_cons (pe_ix ix_list (pv 3) pe_int (fun _ _ => rfl)) (pa_cons (pe_ix ix_list (pv 3) pe_int (fun _ _ => rfl)) pa_nil)))))
      (pss_cons (ps_if (PW.pt (pw_or (pt_cmpR (op_neD hr.units) (pv 3) (pe_lst (pa_cons (pv 1) (pa_cons (pv 2) pa_nil))) (nomark _)) (pw_or1 (pt_not (pt_val (pe_call (G_leads.mono (by decide)) hr rfl T.m_leads T.F_leads.kp b_leads .nil pass0 (pa_cons (pv 4) (pa_cons (pv 1) (pa_cons (pv 2) pa_nil))))))))) (pss_one (ps_ret pe_bl)) pss_nil)
      (pss_cons (ps_setLc (i := 5) (own := [("_law_word", 6)]) (g := gName 6) (by rfl) nd rfl rfl (sw_true rfl rfl rfl (by decide +kernel)) (pi_list (pv 4)) (blkOk_by (own := [("_law_word", 6)]) (N := N_good) (sc := defScope s_good) (by decide +kernel)) (fun _ _ _ _ _ => pg_name (i := 6) nd rfl (Or.inl rfl)) (fun _ _ _ _ _ => pts_nil) (fun _ _ _ _ _ => (pe_callTy (T := "list") (r := rListOf K) (call_listB K) (by rfl) T.z_list (by decide +kernel) (pa_cons (pv 6) pa_nil))))
      (pss_cons (ps_expr (pe_bm PySem.F.plainAttrs_list PySem.F.slot_list_append PySem.F.type_list_append mt_append (pe_ix ix_list (pv 3) pe_int (fun _ _ => rfl)) (pa_cons pe_int pa_nil)))
      (pss_cons (ps_expr (pe_bm0 PySem.F.plainAttrs_list PySem.F.slot_list_clear PySem.F.type_list_clear mt_clear (pe_ix ix_list (pv 3) pe_int (fun _ _ => rfl))))
      (pss_cons (ps_if (pt_cmpR (op_neD hr.units) (pv 4) (pv 5) (nomark _)) (pss_one (ps_ret pe_bl)) pss_nil)
      (pss_cons (ps_for PassesOwn.never rfl (pi_range1 (by rfl) T.z_range (pa_cons (pe_callB call_len (by rfl) T.z_len PySem.boot_len (pa_cons (pv 4) pa_nil)) pa_nil)) (pg_name (i := 7) nd rfl (Or.inl rfl)) (pss_cons (ps_if (pt_cmpR (op_neD hr.units) (pe_ix ix_list (pv 4) (pv 7) (fun _ _ => rfl)) (pe_ix ix_list (pv 5) (pv 7) (fun _ _ => rfl)) (nomark _)) (pss_one (ps_ret pe_bl)) pss_nil)
        (pss_one (ps_expr (pe_bm PySem.F.plainAttrs_list PySem.F.slot_list_append PySem.F.type_list_append mt_append (pe_ix ix_list (pv 4) (pv 7) (fun _ _ => rfl)) (pa_cons pe_int pa_nil))))))
      (pss_one (ps_ret (pe_call (G_leads.mono (by decide)) hr rfl T.m_leads T.F_leads.kp b_leads .nil pass0 (pa_cons (pe_call (G_led.mono (by decide)) hr rfl T.m_led T.F_led.kp b_led .nil pass0 (pa_cons (pv 0) (pa_cons (pv 1) (pa_cons (pv 2) pa_nil)))) (pa_cons (pv 1) (pa_cons (pv 2) pa_nil)))))))))))))), ?_⟩
  refine ⟨_, rfl, a, _, rfl, .inl (SqL.of ha), fun h1 hh1 => ?_⟩
  have s1 := same_new (o := .lst (natsV k1)) hh1
  have g1 := upd_same (H := H) (a := h1) (o := .lst (natsV k1))
  generalize upd H h1 (.lst (natsV k1)) = H1 at s1 g1 ⊢
  refine ⟨_, rfl, b, _, rfl, .inl (SqL.of (s1 _ _ hb)), fun h2 hh2 => ?_⟩
  have s2 := same_new (o := .lst (natsV k2)) hh2
  have g2 := upd_same (H := H1) (a := h2) (o := .lst (natsV k2))
  have n12 : h2 ≠ h1 := fun e => by subst e; rw [g1] at hh2; cases hh2
  have g1 := s2 _ _ g1
  have s12 := s1.trans s2
  generalize upd H1 h2 (.lst (natsV k2)) = H2 at s2 g2 g1 s12 ⊢
  refine ⟨(by show 2 ≤ sizeLine; decide), fun Ld hLd => ?_⟩
  have s3 := same_new (o := .lst [.ref h1, .ref h2]) hLd
  have gL := upd_same (H := H2) (a := Ld) (o := .lst [.ref h1, .ref h2])
  have s13 := s12.trans s3
  have g1 := s3 _ _ g1
  have g2 := s3 _ _ g2
  generalize upd H2 Ld (.lst [.ref h1, .ref h2]) = H3 at s3 gL s13 g1 g2 ⊢
  refine ⟨_, rfl, _, rfl, Ld, _, _, .ref h1, rfl, rfl, SqL.of gL, atI_nat (j := 0) rfl, ?_⟩
  refine ⟨_, rfl, Ld, _, _, .ref h2, rfl, rfl, SqL.of gL, atI_nat (j := 1) rfl, ?_⟩
  refine ⟨m, h1, h2, k1, k2, rfl, m1, m5, g1, g2, hk1, hk2, ht.same s13, sh1, sh2, eo, fun L ws qs us H4 s4 hL0 hL W wb hw0 => ?_⟩
  obtain ⟨lu, lw⟩ := way_all m1 m5 wb hk1 sh1
  have s14 := s13.trans s4
  have lq := W.len
  have gL4 := s4 _ _ gL
  have g14 := s4 _ _ g1
  have g24 := s4 _ _ g2
  refine ⟨_, rfl, _, rfl, _, rfl, (by show 2 ≤ sizeLine; decide), fun e0 he0 => ?_⟩
  have s5 := same_new (o := .lst [.ref a, .ref b]) he0
  have s15 := s14.trans s5
  have W5 : WsAt (upd H4 e0 (.lst [.ref a, .ref b])) qs us := wsat_of lq fun j p w e1 e2 => s5 _ _ (W.at' j p w e1 e2).2.2
  have nod : ∀ {p : Addr} {o : HO}, H4 p = some o → upd H4 e0 (.lst [.ref a, .ref b]) p = some o := fun h => s5 _ _ h
  refine ⟨.list [wdD k1, wdD k2], .list [wdD k1, wdD k2], .lst (SqL.of (s5 _ _ gL4)) (.cons (dp_wd (SqL.of (s5 _ _ g14))) (.cons (dp_wd (SqL.of (s5 _ _ g24))) .nil)), .lst (SqL.of upd_same) (.cons (dp_wd (SqL.of (s15 _ _ ha))) (.cons (dp_wd (SqL.of (s15 _ _ hb))) .nil)), shaped_wds [k1, k2], shaped_wds [k1, k2], ?_⟩
  rw [show PyData.eqv (.list [wdD k1, wdD k2]) (.list [wdD k1, wdD k2]) = true from eqv_self (shaped_wds [k1, k2])]
  refine ⟨_, rfl, iteF ?_⟩
  generalize upd H4 e0 (.lst [.ref a, .ref b]) = H5 at s5 s15 W5 nod ⊢
  refine ⟨_, rfl, _, rfl, _, rfl, L, a, b, qs, us, k1, k2, rfl, s5 _ _ hL, W5, s15 _ _ ha, s15 _ _ hb, wb.1, by rw [wb.2.1, hw0], wb.2.2.1, lu, lw, way_mv wb, fun H6 s6 => ?_⟩
  refine ⟨_, rfl, iteF ?_⟩
  have s46 := s5.trans s6
  have s16 := s15.trans s6
  have hL6 := s46 _ _ hL
  have W6 := W5.same s6
  refine ⟨_, rfl, L, rfl, ⟨_, SqL.of hL6⟩, fun D hD => ?_⟩
  have hD : H6 D = none := hD
  have hO0 : (upd H6 D (.lst [])) D ≠ none := by rw [upd_same]; simp
  refine lc_listE (K := K) (a := L) (zs := qs.map V.ref) (upd H6 D (.lst [])) hO0 (fun _ => true) (fun i => wdD (us.getD i [])) hD (SqL.of hL6) (by rw [List.length_map]; omega) ?_ ?_
  · intro i z H7 Kk Nx hz7 s7 hD7 hK hN
    rw [List.getElem?_map] at hz7
    cases ep : qs[i]? with
    | none => rw [ep] at hz7; cases hz7
    | some p =>
    rw [ep] at hz7
    obtain rfl := Option.some.inj hz7
    have lp := (List.getElem?_eq_some_iff.mp ep).1
    obtain ⟨u, ew⟩ : ∃ u, us[i]? = some u := ⟨_, List.getElem?_eq_getElem (by omega)⟩
    have hp := (W6.same s7).get ep ew
    refine ⟨rfl, yes_of ⟨_, rfl, p, natsV u, rfl, .inl (SqL.of hp), fun t ht => ?_⟩⟩
    have ht : H7 t = none := ht
    have nt : t ≠ D := fun e => by subst e; exact hD7 ht
    refine hK rfl _ _ (same_new ht) ?_
    rw [show us.getD i [] = u from getD_some ew]
    refine dp_newL ?_ upd_same (by rw [natsV_toI]; exact dp_ints _ _ _)
    rw [upd_ne nt]
    cases e : H6 t with
    | none => rfl
    | some o => have := s7 _ _ e; rw [ht] at this; cases this
  intro H7 xs s7 hx dp7
  rw [filter_true, List.length_map] at dp7
  have e3 : (List.range qs.length).map (fun i => wdD (us.getD i [])) = us.map wdD := by
    apply List.ext_getElem?
    intro i
    rw [List.getElem?_map, List.getElem?_map]
    rcases Nat.lt_or_ge i us.length with c | c
    · rw [List.getElem?_range (by omega), List.getElem?_eq_getElem c]
      simp [c]
    · rw [List.getElem?_eq_none (l := List.range qs.length) (by rw [List.length_range]; omega), List.getElem?_eq_none c]; rfl
  rw [e3] at dp7
  have s17 := s16.trans s7
  have s47 := s46.trans s7
  have nold : ∀ {p : Addr} {o : HO}, H6 p = some o → (upd H6 D (.lst [])) p ≠ none := fun {p o} h => by
    by_cases e : p = D
    · rw [e, upd_same]; simp
    · rw [upd_ne e, h]; simp
  have gL7 := s47 _ _ gL4
  have g17 := s47 _ _ g14
  have g27 := s47 _ _ g24
  have o1 := nold (s46 _ _ g14)
  have o2 := nold (s46 _ _ g24)
  have nL1 : Ld ≠ h1 := fun e => by subst e; rw [gL7] at g17; cases k1 <;> cases g17
  have nL2 : Ld ≠ h2 := fun e => by subst e; rw [gL7] at g27; cases k2 <;> cases g27
  have f1 : H h1 = none := hh1
  have f2 : H h2 = none := s1.free hh2
  have l1 := shrt_ten m1 m5 sh1
  refine ⟨_, rfl, Ld, _, _, .ref h1, rfl, rfl, SqL.of gL7, atI_nat (j := 0) rfl, .inl ⟨rfl, _, SqL.of g17⟩, h1, _, _, rfl, rfl, g17, by rw [natsV_len]; exact small1000 (by omega), ?_⟩
  refine ⟨_, rfl, Ld, _, _, .ref h2, rfl, rfl, SqL.of (by rw [upd_ne nL1]; exact gL7), atI_nat (j := 1) rfl, .inl ⟨rfl, _, SqL.of (by rw [upd_ne n12]; exact g27)⟩, h2, _, rfl, rfl, by rw [upd_ne n12]; exact g27, ?_⟩
  have s18 : Same H (upd (upd H7 h1 (.lst (natsV k1 ++ [.int 0]))) h2 (.lst [])) := same_upd (same_upd s17 f1) f2
  have dp8 : DpAll K (new (upd H6 D (.lst [])) (upd (upd H7 h1 (.lst (natsV k1 ++ [.int 0]))) h2 (.lst []))) xs (us.map wdD) := by
    rw [new_upd o2, new_upd o1]; exact dp7
  have old8 : ∀ {p : Addr} {o : HO}, H7 p = some o → p ≠ h1 → p ≠ h2 → (upd (upd H7 h1 (.lst (natsV k1 ++ [.int 0]))) h2 (.lst [])) p = some o := fun h e1 e2 => by
    rw [upd_ne e2, upd_ne e1]; exact h
  generalize upd (upd H7 h1 (.lst (natsV k1 ++ [.int 0]))) h2 (.lst []) = H8 at s18 dp8 old8 ⊢
  have nL : L ≠ h1 ∧ L ≠ h2 := ⟨(ne_of_none g1 hL0).symm, (ne_of_none g2 hL0).symm⟩
  have nD : D ≠ h1 ∧ D ≠ h2 := ⟨(ne_of_none (s46 _ _ g14) hD).symm, (ne_of_none (s46 _ _ g24) hD).symm⟩
  have nq : ∀ {j : Nat} {p : Addr}, qs[j]? = some p → H3 p = none ∧ p ≠ L ∧ H6 p ≠ none := fun {j p} e => by
    have hj := (List.getElem?_eq_some_iff.mp e).1
    obtain ⟨w, ew⟩ : ∃ w, us[j]? = some w := ⟨_, List.getElem?_eq_getElem (by omega)⟩
    obtain ⟨x, y, z⟩ := W.at' j p w e ew
    exact ⟨x, y, by rw [s46 _ _ z]; simp⟩
  have hL8 := old8 (s7 _ _ hL6) nL.1 nL.2
  have hD8 := old8 hx nD.1 nD.2
  have hp8 : ∀ (j : Nat) (p : Addr) (w : List Nat), qs[j]? = some p → us[j]? = some w → H8 p = some (.lst (natsV w)) := fun j p w e1 e2 => by
    obtain ⟨f, _, _⟩ := nq e1
    exact old8 (s47 _ _ (W.at' j p w e1 e2).2.2) (ne_of_none g1 f).symm (ne_of_none g2 f).symm
  refine ⟨_, rfl, _, rfl, _, _, .lst (SqL.of hL8) (wsat_of lq hp8).dp, .lst (SqL.of hD8) (dp8.same (new_same _ _)), shaped_wds us, shaped_wds us, ?_⟩
  rw [eqv_self (shaped_wds us)]
  refine ⟨_, rfl, iteF ?_⟩
  have lx : xs.length = us.length := by have := dp8.length; rw [List.length_map] at this; exact this
  refine ⟨_, rfl, .ref L, qs.length, rfl, .inl ⟨_, SqL.of hL8, by rw [List.length_map]⟩, _, rfl, by omega, by omega, ?_⟩
  have en : ((qs.length : Nat) : Int).toNat = qs.length := by omega
  show ∃ W : Nat → Nat → L2.St → Hp → Prop, _
  rw [en]
  refine for_range (lo := 0) (n := qs.length) (fun j σ H9 => ∃ (w : Option V), σ = [some (.int m), some (.ref a), some (.ref b), some (.ref Ld), some (.ref L), some (.ref D), none, w] ∧ Same H H9 ∧ H9 L = some (.lst (qs.map V.ref)) ∧ H9 D = some (.lst xs) ∧ DpAll K (new (upd H6 D (.lst [])) H9) xs (us.map wdD) ∧
    ∀ (j' : Nat) (p : Addr) (w : List Nat), j ≤ j' → qs[j']? = some p → us[j']? = some w → H9 p = some (.lst (natsV w))) ⟨none, rfl, s18, hL8, hD8, dp8, fun j' p w _ => hp8 j' p w⟩ ?_ ?_
  · rintro j σ H9 hj ⟨w9, rfl, s9, hL9, hD9, dp9, hp9⟩
    obtain ⟨p, ep⟩ : ∃ p, qs[j]? = some p := ⟨qs[j], List.getElem?_eq_getElem hj⟩
    obtain ⟨u, ew⟩ : ∃ u, us[j]? = some u := ⟨us[j], List.getElem?_eq_getElem (by omega)⟩
    obtain ⟨z, ez⟩ : ∃ z, xs[j]? = some z := ⟨xs[j], List.getElem?_eq_getElem (by omega)⟩
    have hpp := hp9 j p u (Nat.le_refl _) ep ew
    obtain ⟨f3, npL, h6p⟩ := nq ep
    have npD : p ≠ D := fun e => by subst e; exact h6p hD
    have lwj := lw u (List.mem_of_getElem? ew)
    have gp : (qs.map V.ref)[j]? = some (.ref p) := by rw [List.getElem?_map, ep]; rfl
    obtain ⟨d, ed, hz⟩ := (dp9.same (new_same _ _)).get ez
    rw [List.getElem?_map, ew] at ed
    obtain rfl := Option.some.inj ed
    refine ⟨_, rfl, _, rfl, L, _, _, .ref p, rfl, rfl, SqL.of hL9, at_of (j := j) (by omega) gp, _, rfl, _, rfl, D, _, _, z, rfl, rfl, SqL.of hD9, at_of (j := j) (by omega) ez, wdD u, wdD u, dp_wd (SqL.of hpp), hz, shaped_lstD _, shaped_lstD _, ?_⟩
    rw [show PyData.eqv (wdD u) (wdD u) = true from eqv_self (shaped_lstD _)]
    refine ⟨_, rfl, iteF ?_⟩
    refine ⟨_, rfl, _, rfl, L, _, _, .ref p, rfl, rfl, SqL.of hL9, at_of (j := j) (by omega) gp, .inl ⟨rfl, _, SqL.of hpp⟩, p, _, _, rfl, rfl, hpp, by rw [natsV_len]; exact small1000 (by omega), ?_⟩
    have hO : (upd H6 D (.lst [])) p ≠ none := by rw [upd_ne npD]; exact h6p
    refine ⟨_, rfl, same_upd s9 (s13.free f3), by rw [upd_ne npL.symm]; exact hL9, by rw [upd_ne npD.symm]; exact hD9, by rw [new_upd hO]; exact dp9, fun j' p' w' hj' e1 e2 => ?_⟩
    have np : p' ≠ p := fun e => by
      subst e
      have := (List.getElem?_inj (List.getElem?_eq_some_iff.mp e1).1 W.nd).mp (e1.trans ep.symm)
      omega
    rw [upd_ne np]
    exact hp9 j' p' w' (by omega) e1 e2
  · rintro σ H9 ⟨w9, rfl, s9, _, _, _, _⟩
    refine ⟨_, rfl, _, rfl, _, rfl, m, a, b, k1, k2, rfl, m1, m5, s9 _ _ ha, s9 _ _ hb, hk1, hk2, ht.same s9, sh1, sh2, eo, fun L2' ws2 qs2 us2 H10 s10 hL20 hL2 W2 wb2 hw02 => ?_⟩
    obtain ⟨lu2, lw2⟩ := way_all m1 m5 wb2 hk1 sh1
    refine ⟨_, rfl, _, rfl, L2', a, b, qs2, us2, k1, k2, rfl, hL2, wsat_of W2.len fun j p w e1 e2 => (W2.at' j p w e1 e2).2.2, (s9.trans s10) _ _ ha, (s9.trans s10) _ _ hb, wb2.1, by rw [wb2.2.1, hw02], wb2.2.2.1, lu2, lw2, way_mv wb2, fun H11 s11 => ?_⟩
    exact q H11 (s9.trans (s10.trans s11))
end
end K18

set_option Elab.async false
set_option linter.all false
set_option maxRecDepth 100000
set_option maxHeartbeats 4000000
namespace K18
open PySem L2
section
variable {P : Program} {w : World} {K : PySem.W.Frag} {mg : Str → Option Value} {base : Heap} {A : Adr} {gq : Array GenState → Drawn → Prop}
def sp_law (K : PySem.W.Frag) (A : Adr) : Sp := fun vs H Q _ => ∃ (a : Addr) (ns : List Int), vs = [.ref a] ∧ SqL K H a (intsV ns) ∧ Tab A H ∧ ∀ H', Same H H' → Q (.bl true) H'
theorem ok_law (T : Txt K mg A) (B : Bas mg base A) : FnOk P w K mg base CX0 9 A.law A.fd_law P_law (sp_law K A) := by
  have nd := sc_law.nd
  have G_order : FnOk P w K mg base (CXq Bare) 2 A.order A.fd_order P_order sp_order := ok_order T
  have G_short_word : FnOk P w K mg base (CXq Bare) 2 A.short_word A.fd_short_word P_short_word sp_short := ok_short_word T
  have G_good : FnOk P w K mg base CX0 8 A.good A.fd_good P_good (sp_good K A) := ok_good T B
  have G_cell : FnOk P w K mg base (CXq Bare) 2 A.cell A.fd_cell P_cell (sp_cell K) := ok_cell T
  have G_take : FnOk P w K mg base (CXq Bare) 1 A.take A.fd_take P_take sp_take := ok_take T
  have b_order := b_order T
  have b_short_word := b_short_word T
  have b_good := b_good T
  have b_cell := b_cell T
  have b_take := b_take T
  refine T.F_law.okc sc_law (fun vs H Q E h => ?_) (fun A' outer s H vs Q E hr h => ?_)
  · obtain ⟨a, ns, rfl, _⟩ := h; rfl
  obtain ⟨a, ns, rfl, ha, ht, q⟩ := h
  refine ⟨_, (pss_cons (ps_for PassesOwn.never rfl (pi_range1 (by rfl) T.z_range (pa_cons pe_int pa_nil)) (pg_name (i := 1) nd rfl (Or.inl rfl)) (pss_cons (ps_set (i := 2) nd rfl (Or.inl rfl) (pe_lst (pa_cons (pe_call (G_cell.mono (by decide)) hr rfl T.m_cell T.F_cell.kp b_cell .nil pass0 (pa_cons (pv 0) (pa_cons (pv 1) pa_nil))) pa_nil)))
        (pss_cons (ps_set (i := 3) nd rfl (Or.inl rfl) (pe_op op_add pe_int (pe_call (G_take.mono (by decide)) hr rfl T.m_take T.F_take.kp b_take .nil pass0 (pa_cons (pv 2) (pa_cons pe_int pa_nil)))))
        (pss_cons (ps_set (i := 4) nd rfl (Or.inl rfl) (pe_call (G_order.mono (by decide)) hr rfl T.m_order T.F_order.kp b_order .nil pass0 (pa_cons (pv 2) (pa_cons (pv 3) pa_nil))))
        (pss_cons (ps_set (i := 5) nd rfl (Or.inl rfl) (pe_call (G_short_word.mono (by decide)) hr rfl T.m_short_word T.F_short_word.kp b_short_word .nil pass0 (pa_cons (pv 2) (pa_cons (pv 4) pa_nil))))
        (pss_cons (ps_set (i := 6) nd rfl (Or.inl rfl) (pe_call (G_short_word.mono (by decide)) hr rfl T.m_short_word T.F_short_word.kp b_short_word .nil pass0 (pa_cons (pv 2) (pa_cons (pv 4) pa_nil))))
        (pss_cons (ps_if (pt_cmpR op_eq (pe_call (G_take.mono (by decide)) hr rfl T.m_take T.F_take.kp b_take .nil pass0 (pa_cons (pv 2) (pa_cons pe_int pa_nil))) pe_int (nomark _)) (pss_one (ps_set (i := 6) nd rfl (Or.inl rfl) (pe_callTy call_list_of (by rfl) T.z_list (by decide +kernel) (pa_cons (pv 5) pa_nil)))) pss_nil)
        (pss_one (ps_if (PW.pt (pw_or (pt_not (pt_val (pe_call (G_good.mono (by decide)) hr rfl T.m_good T.F_good.kp b_good .nil pass0 (pa_cons (pv 3) (pa_cons (pv 5) (pa_cons (pv 6) pa_nil)))))) (pw_or1 (pt_not (pt_val (pe_call (G_good.mono (by decide)) hr rfl T.m_good T.F_good.kp b_good .nil pass0 (pa_cons (pv 3) (pa_cons (pv 6) (pa_cons (pv 5) pa_nil))))))))) (pss_one (ps_ret pe_bl)) pss_nil)))))))))
      (pss_one (ps_ret (pe_and (pe_call (G_good.mono (by decide)) hr rfl T.m_good T.F_good.kp b_good .nil pass0 (pa_cons pe_int (pa_cons (pe_lst (pa_cons pe_int (pa_cons pe_int (pa_cons pe_int pa_nil)))) (pa_cons (pe_lst (pa_cons pe_int (pa_cons pe_int (pa_cons pe_int pa_nil)))) pa_nil)))) (pe_one (pe_call (G_good.mono (by decide)) hr rfl T.m_good T.F_good.kp b_good .nil pass0 (pa_cons pe_int (pa_cons (pe_lst pa_nil) (pa_cons (pe_lst pa_nil) pa_nil))))))))), ?_⟩
  refine ⟨3, rfl, by decide, by decide, for_range (lo := 0) (n := 3) (fun i σ H2 => ∃ (u v z z2 z3 z4 : Option V), σ = [some (.ref a), u, v, z, z2, z3, z4] ∧ Same H H2) ⟨none, none, none, none, none, none, rfl, .refl H⟩ ?_ ?_⟩
  · rintro i σ H2 hi ⟨u, v, z, z2, z3, z4, rfl, s1⟩
    have e0 : (0 : Int) + (i : Int) = (i : Int) := by omega
    refine ⟨_, rfl, _, rfl, a, ns, i, by rw [e0]; rfl, s1.seq ha, by omega, fun n => ⟨(by show 1 ≤ sizeLine; decide), fun p hp => ?_⟩⟩
    have s2 := s1.trans (same_new (o := .lst [.int n]) hp)
    have hp0 : H p = none := s1.free hp
    refine ⟨_, rfl, p, n, 5, rfl, upd_same, by decide, by decide, fun d n1 d0 d1 => ⟨_, _, rfl, rfl, ?_⟩⟩
    obtain ⟨m, em, m1, m2⟩ : ∃ m : Nat, 1 + d = (m : Int) ∧ 1 ≤ m ∧ m ≤ 5 := ⟨(1 + d).toNat, by omega, by omega, by omega⟩
    have s3 := same_upd (o := .lst [.int n1]) s2 hp0
    refine ⟨_, rfl, _, rfl, p, n1, m, (by show [V.ref p, V.int (1 + d)] = _; rw [em]), upd_same, m1, m2, fun os o n4 H3 pm hos hp3 sb3 => ?_⟩
    have po : POr os := POr.of pm m1 m2
    have s4 : Same H H3 := fun b o e => sb3 b o (ne_of_none e hp0) (s3 b o e)
    have lo : os.length = m := by rw [pm.length_eq]; simp
    refine ⟨_, rfl, _, rfl, p, o, n4, m, os, rfl, hp3, hos, lo, m2, po, fun k1 l1 n5 H4 len1 eo1 hk1 np1 hl1 hp4 sb4 => ?_⟩
    have s5 : Same H H4 := fun b o e => sb4 b o (ne_of_none e hp0) (s4 b o e)
    have npo : p ≠ o := fun e => by subst e; rw [hp3] at hos; cases hos
    have hos4 := sb4 o _ npo.symm hos
    refine ⟨_, rfl, _, rfl, p, o, n5, m, os, rfl, hp4, hos4, lo, m2, po, fun k2 l2 n6 H5 len2 eo2 hk2 np2 hl2 hp5 sb5 => ?_⟩
    have s6 : Same H H5 := fun b o e => sb5 b o (ne_of_none e hp0) (s5 b o e)
    have hl15 := sb5 l1 _ np1.symm hl1
    have sh1 : Shrt m k1 := (shrt_inv hk1).mpr (by rw [eo1]; omega)
    have sh2 : Shrt m k2 := (shrt_inv hk2).mpr (by rw [eo2]; omega)
    refine ⟨_, rfl, p, n6, 4, rfl, hp5, by decide, by decide, fun e n7 _ _ => ⟨rfl, _, rfl, ?_⟩⟩
    have s7 := same_upd (o := .lst [.int n7]) s6 hp0
    apply join_st (G := fun σ Hx => ∃ (k2 : List Nat) (l : Addr), σ = [some (.ref a), some (.int (0 + (i : Int))), some (.ref p), some (.int (1 + d)), some (.ref o), some (.ref l1), some (.ref l)] ∧ Same H Hx ∧ Hx l1 = some (.lst (natsV k1)) ∧ Hx l = some (.lst (natsV k2)) ∧ Shrt m k2 ∧ wordOrd m k2 = os ∧ ∀ k ∈ k2, k + 2 ≤ m)
    · intro tail
      refine ite2r (fun he => ?_) (fun hne => ?_)
      · exact tail _ _ ⟨k2, l2, rfl, s7, by rw [upd_ne np1.symm]; exact hl15, by rw [upd_ne np2.symm]; exact hl2, sh2, eo2, hk2⟩
      · refine ⟨_, rfl, l1, _, rfl, .inl (SqL.of (by rw [upd_ne np1.symm]; exact hl15)), fun l3 hl3 => ?_⟩
        refine tail _ _ ⟨k1, l3, rfl, s7.trans (same_new hl3), ?_, upd_same, sh1, eo1, hk1⟩
        exact same_new hl3 _ _ (by rw [upd_ne np1.symm]; exact hl15)
    · rintro σ H6 ⟨k2, l, rfl, s8, hl1, hl2, sh2, eo2, hk2⟩
      refine ⟨_, rfl, _, rfl, _, rfl, m, l1, l, k1, k2, (by show [V.int (1 + d), V.ref l1, V.ref l] = _; rw [em]), m1, m2, hl1, hl2, hk1, hk2, sh1, sh2, eo1.trans eo2.symm, ht.same s8, fun H7 s9 => ⟨_, rfl, iteF ?_⟩⟩
      refine ⟨_, rfl, _, rfl, _, rfl, m, l, l1, k2, k1, (by show [V.int (1 + d), V.ref l, V.ref l1] = _; rw [em]), m1, m2, s9 _ _ hl2, s9 _ _ hl1, hk2, hk1, sh2, sh1, eo2.trans eo1.symm, ht.same (s8.trans s9), fun H8 s10 => ⟨_, rfl, iteF ?_⟩⟩
      exact ⟨_, _, _, _, _, _, rfl, s8.trans (s9.trans s10)⟩
  · rintro σ H2 ⟨u, v, z, z2, z3, z4, rfl, s1⟩
    refine ⟨(by show 3 ≤ sizeLine; decide), fun l hl => ?_⟩
    have s2 := s1.trans (same_new (o := .lst [.int 0, .int 1, .int 0]) hl)
    have g1 := upd_same (H := H2) (a := l) (o := .lst [.int 0, .int 1, .int 0])
    generalize upd H2 l (.lst [.int 0, .int 1, .int 0]) = H3 at s2 g1 ⊢
    refine ⟨(by show 3 ≤ sizeLine; decide), fun l2 hl2 => ?_⟩
    have s3 := s2.trans (same_new (o := .lst [.int 1, .int 0, .int 1]) hl2)
    have g1 := same_new (o := .lst [.int 1, .int 0, .int 1]) hl2 _ _ g1
    have g2 := upd_same (H := H3) (a := l2) (o := .lst [.int 1, .int 0, .int 1])
    generalize upd H3 l2 (.lst [.int 1, .int 0, .int 1]) = H4 at s3 g1 g2 ⊢
    refine ⟨3, l, l2, [0, 1, 0], [1, 0, 1], rfl, by decide, by decide, g1, g2, by decide, by decide, (shrt_inv (by decide)).mpr (by decide), (shrt_inv (by decide)).mpr (by decide), by decide, ht.same s3, fun H5 s4 => ⟨_, rfl, iteT ?_⟩⟩
    refine ⟨(by show 0 ≤ sizeLine; decide), fun l3 hl3 => ?_⟩
    have s5 := (s3.trans s4).trans (same_new (o := .lst []) hl3)
    have g3 := upd_same (H := H5) (a := l3) (o := .lst [])
    generalize upd H5 l3 (.lst []) = H6 at s5 g3 ⊢
    refine ⟨(by show 0 ≤ sizeLine; decide), fun l4 hl4 => ?_⟩
    have s6 := s5.trans (same_new (o := .lst []) hl4)
    refine ⟨1, l3, l4, [], [], rfl, by decide, by decide, same_new hl4 _ _ g3, upd_same, by decide, by decide, (shrt_inv (by decide)).mpr (by decide), (shrt_inv (by decide)).mpr (by decide), rfl, ht.same s6, fun H7 s7 => q H7 (s6.trans s7)⟩
end
end K18

set_option Elab.async false
set_option linter.all false
set_option maxRecDepth 100000
namespace K18
open PySem L2
theorem txt_mk {K : PySem.W.Frag} {h : Heap} {mg : Str → Option Value} (X : K.In h) (G : h.Ns mainGlobals mg)
    {f_is_whole : Addr} {oc_is_whole kV_is_whole dc_is_whole pm_is_whole cd_is_whole ct_is_whole : Value} {od_is_whole an_is_whole : Option Addr} {sl_is_whole : Array (Option Value)}
    {f_is_within : Addr} {oc_is_within kV_is_within dc_is_within pm_is_within cd_is_within ct_is_within : Value} {od_is_within an_is_within : Option Addr} {sl_is_within : Array (Option Value)}
    {f_check_count : Addr} {oc_check_count kV_check_count dc_check_count pm_check_count cd_check_count ct_check_count : Value} {od_check_count an_check_count : Option Addr} {sl_check_count : Array (Option Value)}
    {f_swapped : Addr} {oc_swapped kV_swapped dc_swapped pm_swapped cd_swapped ct_swapped : Value} {od_swapped an_swapped : Option Addr} {sl_swapped : Array (Option Value)}
    {f_ways_from : Addr} {oc_ways_from kV_ways_from dc_ways_from pm_ways_from cd_ways_from ct_ways_from : Value} {od_ways_from an_ways_from : Option Addr} {sl_ways_from : Array (Option Value)}
    {f_way_back : Addr} {oc_way_back kV_way_back dc_way_back pm_way_back cd_way_back ct_way_back : Value} {od_way_back an_way_back : Option Addr} {sl_way_back : Array (Option Value)}
    {f_is_word : Addr} {oc_is_word kV_is_word dc_is_word pm_is_word cd_is_word ct_is_word : Value} {od_is_word an_is_word : Option Addr} {sl_is_word : Array (Option Value)}
    {f_check_word : Addr} {oc_check_word kV_check_word dc_check_word pm_check_word cd_check_word ct_check_word : Value} {od_check_word an_check_word : Option Addr} {sl_check_word : Array (Option Value)}
    {f_word_order : Addr} {oc_word_order kV_word_order dc_word_order pm_word_order cd_word_order ct_word_order : Value} {od_word_order an_word_order : Option Addr} {sl_word_order : Array (Option Value)}
    {f_spare : Addr} {oc_spare kV_spare dc_spare pm_spare cd_spare ct_spare : Value} {od_spare an_spare : Option Addr} {sl_spare : Array (Option Value)}
    {f_moved : Addr} {oc_moved kV_moved dc_moved pm_moved cd_moved ct_moved : Value} {od_moved an_moved : Option Addr} {sl_moved : Array (Option Value)}
    {f_led : Addr} {oc_led kV_led dc_led pm_led cd_led ct_led : Value} {od_led an_led : Option Addr} {sl_led : Array (Option Value)}
    {f_mixed : Addr} {oc_mixed kV_mixed dc_mixed pm_mixed cd_mixed ct_mixed : Value} {od_mixed an_mixed : Option Addr} {sl_mixed : Array (Option Value)}
    {f_cell : Addr} {oc_cell kV_cell dc_cell pm_cell cd_cell ct_cell : Value} {od_cell an_cell : Option Addr} {sl_cell : Array (Option Value)}
    {f_take : Addr} {oc_take kV_take dc_take pm_take cd_take ct_take : Value} {od_take an_take : Option Addr} {sl_take : Array (Option Value)}
    {f_whole : Addr} {oc_whole kV_whole dc_whole pm_whole cd_whole ct_whole : Value} {od_whole an_whole : Option Addr} {sl_whole : Array (Option Value)}
    {f_order : Addr} {oc_order kV_order dc_order pm_order cd_order ct_order : Value} {od_order an_order : Option Addr} {sl_order : Array (Option Value)}
    {f_wrong : Addr} {oc_wrong kV_wrong dc_wrong pm_wrong cd_wrong ct_wrong : Value} {od_wrong an_wrong : Option Addr} {sl_wrong : Array (Option Value)}
    {f_short_word : Addr} {oc_short_word kV_short_word dc_short_word pm_short_word cd_short_word ct_short_word : Value} {od_short_word an_short_word : Option Addr} {sl_short_word : Array (Option Value)}
    {f_moves : Addr} {oc_moves kV_moves dc_moves pm_moves cd_moves ct_moves : Value} {od_moves an_moves : Option Addr} {sl_moves : Array (Option Value)}
    {f_leads : Addr} {oc_leads kV_leads dc_leads pm_leads cd_leads ct_leads : Value} {od_leads an_leads : Option Addr} {sl_leads : Array (Option Value)}
    {f_good : Addr} {oc_good kV_good dc_good pm_good cd_good ct_good : Value} {od_good an_good : Option Addr} {sl_good : Array (Option Value)}
    {f_law : Addr} {oc_law kV_law dc_law pm_law cd_law ct_law : Value} {od_law an_law : Option Addr} {sl_law : Array (Option Value)}
    {t_MOST_THINGS : Tok}
    {t_MOST_ENTRIES : Tok}
    (a_is_whole : PySem.W.nsIn K mainGlobals "is_whole" = some (some (.ref f_is_whole)))
    (l_is_whole : K.lookup f_is_whole = some ⟨oc_is_whole, od_is_whole, .func (PySem.W.fnOf "is_whole" "is_whole" (defArgs s_is_whole) (defBody s_is_whole) (defScope s_is_whole) .none kV_is_whole dc_is_whole pm_is_whole an_is_whole cd_is_whole ct_is_whole), sl_is_whole⟩)
    (e_is_whole : PySem.W.codeIn K cd_is_whole "is_whole" = true) (k_is_whole : PySem.W.keepIn K (.ref f_is_whole) = true)
    (a_is_within : PySem.W.nsIn K mainGlobals "is_within" = some (some (.ref f_is_within)))
    (l_is_within : K.lookup f_is_within = some ⟨oc_is_within, od_is_within, .func (PySem.W.fnOf "is_within" "is_within" (defArgs s_is_within) (defBody s_is_within) (defScope s_is_within) .none kV_is_within dc_is_within pm_is_within an_is_within cd_is_within ct_is_within), sl_is_within⟩)
    (e_is_within : PySem.W.codeIn K cd_is_within "is_within" = true) (k_is_within : PySem.W.keepIn K (.ref f_is_within) = true)
    (a_check_count : PySem.W.nsIn K mainGlobals "check_count" = some (some (.ref f_check_count)))
    (l_check_count : K.lookup f_check_count = some ⟨oc_check_count, od_check_count, .func (PySem.W.fnOf "check_count" "check_count" (defArgs s_check_count) (defBody s_check_count) (defScope s_check_count) .none kV_check_count dc_check_count pm_check_count an_check_count cd_check_count ct_check_count), sl_check_count⟩)
    (e_check_count : PySem.W.codeIn K cd_check_count "check_count" = true) (k_check_count : PySem.W.keepIn K (.ref f_check_count) = true)
    (a_swapped : PySem.W.nsIn K mainGlobals "swapped" = some (some (.ref f_swapped)))
    (l_swapped : K.lookup f_swapped = some ⟨oc_swapped, od_swapped, .func (PySem.W.fnOf "swapped" "swapped" (defArgs s_swapped) (defBody s_swapped) (defScope s_swapped) .none kV_swapped dc_swapped pm_swapped an_swapped cd_swapped ct_swapped), sl_swapped⟩)
    (e_swapped : PySem.W.codeIn K cd_swapped "swapped" = true) (k_swapped : PySem.W.keepIn K (.ref f_swapped) = true)
    (a_ways_from : PySem.W.nsIn K mainGlobals "ways_from" = some (some (.ref f_ways_from)))
    (l_ways_from : K.lookup f_ways_from = some ⟨oc_ways_from, od_ways_from, .func (PySem.W.fnOf "ways_from" "ways_from" (defArgs s_ways_from) (defBody s_ways_from) (defScope s_ways_from) .none kV_ways_from dc_ways_from pm_ways_from an_ways_from cd_ways_from ct_ways_from), sl_ways_from⟩)
    (e_ways_from : PySem.W.codeIn K cd_ways_from "ways_from" = true) (k_ways_from : PySem.W.keepIn K (.ref f_ways_from) = true)
    (a_way_back : PySem.W.nsIn K mainGlobals "way_back" = some (some (.ref f_way_back)))
    (l_way_back : K.lookup f_way_back = some ⟨oc_way_back, od_way_back, .func (PySem.W.fnOf "way_back" "way_back" (defArgs s_way_back) (defBody s_way_back) (defScope s_way_back) .none kV_way_back dc_way_back pm_way_back an_way_back cd_way_back ct_way_back), sl_way_back⟩)
    (e_way_back : PySem.W.codeIn K cd_way_back "way_back" = true) (k_way_back : PySem.W.keepIn K (.ref f_way_back) = true)
    (a_is_word : PySem.W.nsIn K mainGlobals "is_word" = some (some (.ref f_is_word)))
    (l_is_word : K.lookup f_is_word = some ⟨oc_is_word, od_is_word, .func (PySem.W.fnOf "is_word" "is_word" (defArgs s_is_word) (defBody s_is_word) (defScope s_is_word) .none kV_is_word dc_is_word pm_is_word an_is_word cd_is_word ct_is_word), sl_is_word⟩)
    (e_is_word : PySem.W.codeIn K cd_is_word "is_word" = true) (k_is_word : PySem.W.keepIn K (.ref f_is_word) = true)
    (a_check_word : PySem.W.nsIn K mainGlobals "check_word" = some (some (.ref f_check_word)))
    (l_check_word : K.lookup f_check_word = some ⟨oc_check_word, od_check_word, .func (PySem.W.fnOf "check_word" "check_word" (defArgs s_check_word) (defBody s_check_word) (defScope s_check_word) .none kV_check_word dc_check_word pm_check_word an_check_word cd_check_word ct_check_word), sl_check_word⟩)
    (e_check_word : PySem.W.codeIn K cd_check_word "check_word" = true) (k_check_word : PySem.W.keepIn K (.ref f_check_word) = true)
    (a_word_order : PySem.W.nsIn K mainGlobals "word_order" = some (some (.ref f_word_order)))
    (l_word_order : K.lookup f_word_order = some ⟨oc_word_order, od_word_order, .func (PySem.W.fnOf "word_order" "word_order" (defArgs s_word_order) (defBody s_word_order) (defScope s_word_order) .none kV_word_order dc_word_order pm_word_order an_word_order cd_word_order ct_word_order), sl_word_order⟩)
    (e_word_order : PySem.W.codeIn K cd_word_order "word_order" = true) (k_word_order : PySem.W.keepIn K (.ref f_word_order) = true)
    (a_spare : PySem.W.nsIn K mainGlobals "spare" = some (some (.ref f_spare)))
    (l_spare : K.lookup f_spare = some ⟨oc_spare, od_spare, .func (PySem.W.fnOf "spare" "spare" (defArgs s_spare) (defBody s_spare) (defScope s_spare) .none kV_spare dc_spare pm_spare an_spare cd_spare ct_spare), sl_spare⟩)
    (e_spare : PySem.W.codeIn K cd_spare "spare" = true) (k_spare : PySem.W.keepIn K (.ref f_spare) = true)
    (a_moved : PySem.W.nsIn K mainGlobals "moved" = some (some (.ref f_moved)))
    (l_moved : K.lookup f_moved = some ⟨oc_moved, od_moved, .func (PySem.W.fnOf "moved" "moved" (defArgs s_moved) (defBody s_moved) (defScope s_moved) .none kV_moved dc_moved pm_moved an_moved cd_moved ct_moved), sl_moved⟩)
    (e_moved : PySem.W.codeIn K cd_moved "moved" = true) (k_moved : PySem.W.keepIn K (.ref f_moved) = true)
    (a_led : PySem.W.nsIn K mainGlobals "led" = some (some (.ref f_led)))
    (l_led : K.lookup f_led = some ⟨oc_led, od_led, .func (PySem.W.fnOf "led" "led" (defArgs s_led) (defBody s_led) (defScope s_led) .none kV_led dc_led pm_led an_led cd_led ct_led), sl_led⟩)
    (e_led : PySem.W.codeIn K cd_led "led" = true) (k_led : PySem.W.keepIn K (.ref f_led) = true)
    (a_mixed : PySem.W.nsIn K mainGlobals "_law_mixed" = some (some (.ref f_mixed)))
    (l_mixed : K.lookup f_mixed = some ⟨oc_mixed, od_mixed, .func (PySem.W.fnOf "_law_mixed" "_law_mixed" (defArgs s_mixed) (defBody s_mixed) (defScope s_mixed) .none kV_mixed dc_mixed pm_mixed an_mixed cd_mixed ct_mixed), sl_mixed⟩)
    (e_mixed : PySem.W.codeIn K cd_mixed "_law_mixed" = true) (k_mixed : PySem.W.keepIn K (.ref f_mixed) = true)
    (a_cell : PySem.W.nsIn K mainGlobals "_law_cell" = some (some (.ref f_cell)))
    (l_cell : K.lookup f_cell = some ⟨oc_cell, od_cell, .func (PySem.W.fnOf "_law_cell" "_law_cell" (defArgs s_cell) (defBody s_cell) (defScope s_cell) .none kV_cell dc_cell pm_cell an_cell cd_cell ct_cell), sl_cell⟩)
    (e_cell : PySem.W.codeIn K cd_cell "_law_cell" = true) (k_cell : PySem.W.keepIn K (.ref f_cell) = true)
    (a_take : PySem.W.nsIn K mainGlobals "_law_take" = some (some (.ref f_take)))
    (l_take : K.lookup f_take = some ⟨oc_take, od_take, .func (PySem.W.fnOf "_law_take" "_law_take" (defArgs s_take) (defBody s_take) (defScope s_take) .none kV_take dc_take pm_take an_take cd_take ct_take), sl_take⟩)
    (e_take : PySem.W.codeIn K cd_take "_law_take" = true) (k_take : PySem.W.keepIn K (.ref f_take) = true)
    (a_whole : PySem.W.nsIn K mainGlobals "_law_whole" = some (some (.ref f_whole)))
    (l_whole : K.lookup f_whole = some ⟨oc_whole, od_whole, .func (PySem.W.fnOf "_law_whole" "_law_whole" (defArgs s_whole) (defBody s_whole) (defScope s_whole) .none kV_whole dc_whole pm_whole an_whole cd_whole ct_whole), sl_whole⟩)
    (e_whole : PySem.W.codeIn K cd_whole "_law_whole" = true) (k_whole : PySem.W.keepIn K (.ref f_whole) = true)
    (a_order : PySem.W.nsIn K mainGlobals "_law_order" = some (some (.ref f_order)))
    (l_order : K.lookup f_order = some ⟨oc_order, od_order, .func (PySem.W.fnOf "_law_order" "_law_order" (defArgs s_order) (defBody s_order) (defScope s_order) .none kV_order dc_order pm_order an_order cd_order ct_order), sl_order⟩)
    (e_order : PySem.W.codeIn K cd_order "_law_order" = true) (k_order : PySem.W.keepIn K (.ref f_order) = true)
    (a_wrong : PySem.W.nsIn K mainGlobals "_law_wrong" = some (some (.ref f_wrong)))
    (l_wrong : K.lookup f_wrong = some ⟨oc_wrong, od_wrong, .func (PySem.W.fnOf "_law_wrong" "_law_wrong" (defArgs s_wrong) (defBody s_wrong) (defScope s_wrong) .none kV_wrong dc_wrong pm_wrong an_wrong cd_wrong ct_wrong), sl_wrong⟩)
    (e_wrong : PySem.W.codeIn K cd_wrong "_law_wrong" = true) (k_wrong : PySem.W.keepIn K (.ref f_wrong) = true)
    (a_short_word : PySem.W.nsIn K mainGlobals "_law_short_word" = some (some (.ref f_short_word)))
    (l_short_word : K.lookup f_short_word = some ⟨oc_short_word, od_short_word, .func (PySem.W.fnOf "_law_short_word" "_law_short_word" (defArgs s_short_word) (defBody s_short_word) (defScope s_short_word) .none kV_short_word dc_short_word pm_short_word an_short_word cd_short_word ct_short_word), sl_short_word⟩)
    (e_short_word : PySem.W.codeIn K cd_short_word "_law_short_word" = true) (k_short_word : PySem.W.keepIn K (.ref f_short_word) = true)
    (a_moves : PySem.W.nsIn K mainGlobals "_law_moves" = some (some (.ref f_moves)))
    (l_moves : K.lookup f_moves = some ⟨oc_moves, od_moves, .func (PySem.W.fnOf "_law_moves" "_law_moves" (defArgs s_moves) (defBody s_moves) (defScope s_moves) .none kV_moves dc_moves pm_moves an_moves cd_moves ct_moves), sl_moves⟩)
    (e_moves : PySem.W.codeIn K cd_moves "_law_moves" = true) (k_moves : PySem.W.keepIn K (.ref f_moves) = true)
    (a_leads : PySem.W.nsIn K mainGlobals "_law_leads" = some (some (.ref f_leads)))
    (l_leads : K.lookup f_leads = some ⟨oc_leads, od_leads, .func (PySem.W.fnOf "_law_leads" "_law_leads" (defArgs s_leads) (defBody s_leads) (defScope s_leads) .none kV_leads dc_leads pm_leads an_leads cd_leads ct_leads), sl_leads⟩)
    (e_leads : PySem.W.codeIn K cd_leads "_law_leads" = true) (k_leads : PySem.W.keepIn K (.ref f_leads) = true)
    (a_good : PySem.W.nsIn K mainGlobals "_law_good" = some (some (.ref f_good)))
    (l_good : K.lookup f_good = some ⟨oc_good, od_good, .func (PySem.W.fnOf "_law_good" "_law_good" (defArgs s_good) (defBody s_good) (defScope s_good) .none kV_good dc_good pm_good an_good cd_good ct_good), sl_good⟩)
    (e_good : PySem.W.codeIn K cd_good "_law_good" = true) (k_good : PySem.W.keepIn K (.ref f_good) = true)
    (a_law : PySem.W.nsIn K mainGlobals "law" = some (some (.ref f_law)))
    (l_law : K.lookup f_law = some ⟨oc_law, od_law, .func (PySem.W.fnOf "law" "law" (defArgs s_law) (defBody s_law) (defScope s_law) .none kV_law dc_law pm_law an_law cd_law ct_law), sl_law⟩)
    (e_law : PySem.W.codeIn K cd_law "law" = true) (k_law : PySem.W.keepIn K (.ref f_law) = true)
    (g_MOST_THINGS : PySem.W.nsIn K mainGlobals "MOST_THINGS" = some (some (.int 5 t_MOST_THINGS)))
    (g_MOST_ENTRIES : PySem.W.nsIn K mainGlobals "MOST_ENTRIES" = some (some (.int 30 t_MOST_ENTRIES)))
    (z_abs : PySem.W.nsIn K mainGlobals "abs" = some none)
    (z_all : PySem.W.nsIn K mainGlobals "all" = some none)
    (z_bool : PySem.W.nsIn K mainGlobals "bool" = some none)
    (z_enumerate : PySem.W.nsIn K mainGlobals "enumerate" = some none)
    (z_int : PySem.W.nsIn K mainGlobals "int" = some none)
    (z_isinstance : PySem.W.nsIn K mainGlobals "isinstance" = some none)
    (z_len : PySem.W.nsIn K mainGlobals "len" = some none)
    (z_list : PySem.W.nsIn K mainGlobals "list" = some none)
    (z_range : PySem.W.nsIn K mainGlobals "range" = some none)
    (z_set : PySem.W.nsIn K mainGlobals "set" = some none)
    (z_sorted : PySem.W.nsIn K mainGlobals "sorted" = some none)
    (z_tuple : PySem.W.nsIn K mainGlobals "tuple" = some none)
    (f_tk : tupK K = true)
    {tc_is_word tp_is_word : Addr}
    (t_is_word : ∃ (a : Addr) (o : Obj) (fd : FuncData), mg "is_word" = some (.ref a) ∧ h.get? a = some o ∧ o.data = .func fd ∧ fd.code = .ref tc_is_word)
    : ∃ A : Adr, Txt K mg A ∧ A.law = f_law ∧ A.fd_law = PySem.W.fnOf "law" "law" (defArgs s_law) (defBody s_law) (defScope s_law) .none kV_law dc_law pm_law an_law cd_law ct_law ∧ A.c_is_word = tc_is_word ∧ A.p_is_word = tp_is_word := by
  have c_is_word : cd_is_word = .ref tc_is_word := by
    obtain ⟨a, o, fd, h1, h2, h3, h4⟩ := t_is_word
    rw [PySem.W.mg_of X G a_is_word] at h1
    cases h1
    rw [X _ _ l_is_word] at h2
    cases h2
    cases h3
    exact h4
  refine ⟨{
    is_whole := f_is_whole, fd_is_whole := _,
    is_within := f_is_within, fd_is_within := _,
    check_count := f_check_count, fd_check_count := _,
    swapped := f_swapped, fd_swapped := _,
    ways_from := f_ways_from, fd_ways_from := _,
    way_back := f_way_back, fd_way_back := _,
    is_word := f_is_word, fd_is_word := _,
    check_word := f_check_word, fd_check_word := _,
    word_order := f_word_order, fd_word_order := _,
    spare := f_spare, fd_spare := _,
    moved := f_moved, fd_moved := _,
    led := f_led, fd_led := _,
    mixed := f_mixed, fd_mixed := _,
    cell := f_cell, fd_cell := _,
    take := f_take, fd_take := _,
    whole := f_whole, fd_whole := _,
    order := f_order, fd_order := _,
    wrong := f_wrong, fd_wrong := _,
    short_word := f_short_word, fd_short_word := _,
    moves := f_moves, fd_moves := _,
    leads := f_leads, fd_leads := _,
    good := f_good, fd_good := _,
    law := f_law, fd_law := _,
    t_MOST_THINGS := t_MOST_THINGS,
    t_MOST_ENTRIES := t_MOST_ENTRIES,
    c_is_word := tc_is_word, p_is_word := tp_is_word }, {
    m_is_whole := PySem.W.mg_of X G a_is_whole, F_is_whole := fun_mk (st := s_is_whole) l_is_whole e_is_whole k_is_whole,
    m_is_within := PySem.W.mg_of X G a_is_within, F_is_within := fun_mk (st := s_is_within) l_is_within e_is_within k_is_within,
    m_check_count := PySem.W.mg_of X G a_check_count, F_check_count := fun_mk (st := s_check_count) l_check_count e_check_count k_check_count,
    m_swapped := PySem.W.mg_of X G a_swapped, F_swapped := fun_mk (st := s_swapped) l_swapped e_swapped k_swapped,
    m_ways_from := PySem.W.mg_of X G a_ways_from, F_ways_from := fun_mk (st := s_ways_from) l_ways_from e_ways_from k_ways_from,
    m_way_back := PySem.W.mg_of X G a_way_back, F_way_back := fun_mk (st := s_way_back) l_way_back e_way_back k_way_back,
    m_is_word := PySem.W.mg_of X G a_is_word, F_is_word := fun_mk (st := s_is_word) l_is_word e_is_word k_is_word,
    m_check_word := PySem.W.mg_of X G a_check_word, F_check_word := fun_mk (st := s_check_word) l_check_word e_check_word k_check_word,
    m_word_order := PySem.W.mg_of X G a_word_order, F_word_order := fun_mk (st := s_word_order) l_word_order e_word_order k_word_order,
    m_spare := PySem.W.mg_of X G a_spare, F_spare := fun_mk (st := s_spare) l_spare e_spare k_spare,
    m_moved := PySem.W.mg_of X G a_moved, F_moved := fun_mk (st := s_moved) l_moved e_moved k_moved,
    m_led := PySem.W.mg_of X G a_led, F_led := fun_mk (st := s_led) l_led e_led k_led,
    m_mixed := PySem.W.mg_of X G a_mixed, F_mixed := fun_mk (st := s_mixed) l_mixed e_mixed k_mixed,
    m_cell := PySem.W.mg_of X G a_cell, F_cell := fun_mk (st := s_cell) l_cell e_cell k_cell,
    m_take := PySem.W.mg_of X G a_take, F_take := fun_mk (st := s_take) l_take e_take k_take,
    m_whole := PySem.W.mg_of X G a_whole, F_whole := fun_mk (st := s_whole) l_whole e_whole k_whole,
    m_order := PySem.W.mg_of X G a_order, F_order := fun_mk (st := s_order) l_order e_order k_order,
    m_wrong := PySem.W.mg_of X G a_wrong, F_wrong := fun_mk (st := s_wrong) l_wrong e_wrong k_wrong,
    m_short_word := PySem.W.mg_of X G a_short_word, F_short_word := fun_mk (st := s_short_word) l_short_word e_short_word k_short_word,
    m_moves := PySem.W.mg_of X G a_moves, F_moves := fun_mk (st := s_moves) l_moves e_moves k_moves,
    m_leads := PySem.W.mg_of X G a_leads, F_leads := fun_mk (st := s_leads) l_leads e_leads k_leads,
    m_good := PySem.W.mg_of X G a_good, F_good := fun_mk (st := s_good) l_good e_good k_good,
    m_law := PySem.W.mg_of X G a_law, F_law := fun_mk (st := s_law) l_law e_law k_law,
    g_MOST_THINGS := PySem.W.mg_of X G g_MOST_THINGS,
    g_MOST_ENTRIES := PySem.W.mg_of X G g_MOST_ENTRIES,
    z_abs := PySem.W.mg_none_of X G z_abs,
    z_all := PySem.W.mg_none_of X G z_all,
    z_bool := PySem.W.mg_none_of X G z_bool,
    z_enumerate := PySem.W.mg_none_of X G z_enumerate,
    z_int := PySem.W.mg_none_of X G z_int,
    z_isinstance := PySem.W.mg_none_of X G z_isinstance,
    z_len := PySem.W.mg_none_of X G z_len,
    z_list := PySem.W.mg_none_of X G z_list,
    z_range := PySem.W.mg_none_of X G z_range,
    z_set := PySem.W.mg_none_of X G z_set,
    z_sorted := PySem.W.mg_none_of X G z_sorted,
    z_tuple := PySem.W.mg_none_of X G z_tuple,
    c_is_word := c_is_word,
    tk := f_tk }, rfl, rfl, rfl, rfl⟩

def sp_lawT (K : PySem.W.Frag) (tabs : List (Addr × Addr)) : Sp := fun vs H Q _ => ∃ (a : Addr) (ns : List Int), vs = [.ref a] ∧ SqL K H a (intsV ns) ∧ (∀ q ∈ tabs, H q.2 = some (TabP q.2)) ∧ ∀ H', Same H H' → Q (.bl true) H'
theorem sp_start {K : PySem.W.Frag} {H : Hp} {a : Addr} {ns : List Int} {tabs : List (Addr × Addr)} (hO : OnlyT tabs H) (hS : SqL K H a (ns.map V.int)) : sp_lawT K tabs [.ref a] H (fun v H' => v = .bl true ∧ ∀ q ∈ tabs, H' q.2 = some (TabP q.2)) E0 :=
  ⟨a, ns, rfl, hS, hO.1, fun H' s => ⟨rfl, fun q hq => s _ _ (hO.1 q hq)⟩⟩
end K18
open PySem PySem.W PyProof.Rows
set_option maxRecDepth 100000 in
set_option maxHeartbeats 0 in
theorem PySem.Challenge.cw_crossbends_k18_words_led_holds : PySem.Challenge.rw_crossbends_k18_words_led.Holds := by
  w_on; o_law; k_head; (case hw => w_witness2)
  k_fill
  refine L2.walk_TK (l := PySem.Challenge.rw_crossbends_k18_words_led) (n := 63) (k := 9) (x := "_law_script") (names := ["is_word"]) (sp := K18.sp_lawT) rfl (by decide) rfl ⟨rfl, by decide, by decide⟩ (fun w h Y => PySem.W.kIn_of Y) ?hK ?hrec ?F ?S
  case hK => intro w; kernel_rfl
  case hrec => kernel_rfl
  case S => exact fun K H a ns tabs hl hO hS => K18.sp_start hO hS
  case F =>
    intro w mg fa h tabs KX G hmg hlen htab hbm
    obtain ⟨a0, o0, fd0, q0, i0, j0, k0, l0, m0⟩ := htab 0 "is_word" rfl
    have etabs : tabs = [q0] := by
      apply List.ext_getElem?
      intro i
      match i with
      | 0 => exact i0
      | i + 1 => rw [List.getElem?_eq_none (by rw [hlen]; simp), List.getElem?_eq_none (by simp)]
    subst etabs
    have TX : ∃ A : K18.Adr, K18.Txt (L2.KOf KX) mg A ∧ A.law = fa ∧ A.c_is_word = q0.1 ∧ A.p_is_word = q0.2 := by
      dsimp only [L2.KOf]
      obtain ⟨A, T, e1, e2, et⟩ : ∃ A : K18.Adr, K18.Txt _ mg A ∧ _ := by
        refine' K18.txt_mk (tc_is_word := q0.1) (tp_is_word := q0.2) KX G ?a_is_whole ?l_is_whole ?e_is_whole ?k_is_whole ?a_is_within ?l_is_within ?e_is_within ?k_is_within ?a_check_count ?l_check_count ?e_check_count ?k_check_count ?a_swapped ?l_swapped ?e_swapped ?k_swapped ?a_ways_from ?l_ways_from ?e_ways_from ?k_ways_from ?a_way_back ?l_way_back ?e_way_back ?k_way_back ?a_is_word ?l_is_word ?e_is_word ?k_is_word ?a_check_word ?l_check_word ?e_check_word ?k_check_word ?a_word_order ?l_word_order ?e_word_order ?k_word_order ?a_spare ?l_spare ?e_spare ?k_spare ?a_moved ?l_moved ?e_moved ?k_moved ?a_led ?l_led ?e_led ?k_led ?a_mixed ?l_mixed ?e_mixed ?k_mixed ?a_cell ?l_cell ?e_cell ?k_cell ?a_take ?l_take ?e_take ?k_take ?a_whole ?l_whole ?e_whole ?k_whole ?a_order ?l_order ?e_order ?k_order ?a_wrong ?l_wrong ?e_wrong ?k_wrong ?a_short_word ?l_short_word ?e_short_word ?k_short_word ?a_moves ?l_moves ?e_moves ?k_moves ?a_leads ?l_leads ?e_leads ?k_leads ?a_good ?l_good ?e_good ?k_good ?a_law ?l_law ?e_law ?k_law ?g_MOST_THINGS ?g_MOST_ENTRIES ?z_abs ?z_all ?z_bool ?z_enumerate ?z_int ?z_isinstance ?z_len ?z_list ?z_range ?z_set ?z_sorted ?z_tuple ?f_tk ⟨a0, o0, fd0, j0, k0, l0, m0⟩
        (case a_is_whole => k_is)
        (case l_is_whole => k_is)
        (case e_is_whole => k_is)
        (case k_is_whole => k_is)
        (case a_is_within => k_is)
        (case l_is_within => k_is)
        (case e_is_within => k_is)
        (case k_is_within => k_is)
        (case a_check_count => k_is)
        (case l_check_count => k_is)
        (case e_check_count => k_is)
        (case k_check_count => k_is)
        (case a_swapped => k_is)
        (case l_swapped => k_is)
        (case e_swapped => k_is)
        (case k_swapped => k_is)
        (case a_ways_from => k_is)
        (case l_ways_from => k_is)
        (case e_ways_from => k_is)
        (case k_ways_from => k_is)
        (case a_way_back => k_is)
        (case l_way_back => k_is)
        (case e_way_back => k_is)
        (case k_way_back => k_is)
        (case a_is_word => k_is)
        (case l_is_word => k_is)
        (case e_is_word => k_is)
        (case k_is_word => k_is)
        (case a_check_word => k_is)
        (case l_check_word => k_is)
        (case e_check_word => k_is)
        (case k_check_word => k_is)
        (case a_word_order => k_is)
        (case l_word_order => k_is)
        (case e_word_order => k_is)
        (case k_word_order => k_is)
        (case a_spare => k_is)
        (case l_spare => k_is)
        (case e_spare => k_is)
        (case k_spare => k_is)
        (case a_moved => k_is)
        (case l_moved => k_is)
        (case e_moved => k_is)
        (case k_moved => k_is)
        (case a_led => k_is)
        (case l_led => k_is)
        (case e_led => k_is)
        (case k_led => k_is)
        (case a_mixed => k_is)
        (case l_mixed => k_is)
        (case e_mixed => k_is)
        (case k_mixed => k_is)
        (case a_cell => k_is)
        (case l_cell => k_is)
        (case e_cell => k_is)
        (case k_cell => k_is)
        (case a_take => k_is)
        (case l_take => k_is)
        (case e_take => k_is)
        (case k_take => k_is)
        (case a_whole => k_is)
        (case l_whole => k_is)
        (case e_whole => k_is)
        (case k_whole => k_is)
        (case a_order => k_is)
        (case l_order => k_is)
        (case e_order => k_is)
        (case k_order => k_is)
        (case a_wrong => k_is)
        (case l_wrong => k_is)
        (case e_wrong => k_is)
        (case k_wrong => k_is)
        (case a_short_word => k_is)
        (case l_short_word => k_is)
        (case e_short_word => k_is)
        (case k_short_word => k_is)
        (case a_moves => k_is)
        (case l_moves => k_is)
        (case e_moves => k_is)
        (case k_moves => k_is)
        (case a_leads => k_is)
        (case l_leads => k_is)
        (case e_leads => k_is)
        (case k_leads => k_is)
        (case a_good => k_is)
        (case l_good => k_is)
        (case e_good => k_is)
        (case k_good => k_is)
        (case a_law => k_is)
        (case l_law => k_is)
        (case e_law => k_is)
        (case k_law => k_is)
        (case g_MOST_THINGS => k_is)
        (case g_MOST_ENTRIES => k_is)
        (case z_abs => k_is)
        (case z_all => k_is)
        (case z_bool => k_is)
        (case z_enumerate => k_is)
        (case z_int => k_is)
        (case z_isinstance => k_is)
        (case z_len => k_is)
        (case z_list => k_is)
        (case z_range => k_is)
        (case z_set => k_is)
        (case z_sorted => k_is)
        (case z_tuple => k_is)
        (case f_tk => kernel_rfl)
      refine ⟨A, T, ?_, et⟩
      have z := hmg.symm.trans T.m_law
      injection z with z
      injection z with z
      exact z.symm
    obtain ⟨A, T, rfl, et⟩ := TX
    refine ⟨A.fd_law, ?_, fun base kb nb hcd hmd => ?_⟩
    · intro s u
      obtain ⟨oc, od, kV, doc, pm, an, cdv, ct, osl, e, _, _⟩ := T.F_law.ex
      rw [e]
      exact .of_eq rfl
    · have B : K18.Bas mg base A := ⟨let ⟨bm, ob, b1, b2, b3, b4, b5, b6⟩ := hbm; ⟨bm, ob, b1, b2, hmd _ _ b3 b4, b4, b5, b6⟩, by rw [et.1, et.2]; exact hcd q0 (by simp)⟩
      refine (K18.ok_law T B).toR.imp fun vs H Q E hs => ?_
      obtain ⟨a, ns, e, hS, hT, hQ⟩ := hs
      exact ⟨a, ns, e, hS, by show H A.p_is_word = some (L2.TabP A.p_is_word); rw [et.2]; exact hT q0 (by simp), hQ⟩

